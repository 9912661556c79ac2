/- The reference's texts on equal lists. -/
import Derived.Test.YtnkfkaahjplnmaaGreatDoorGmDepth
import Derived.Test.YtnkfkaahjplnmaaGreatDoorGnProg
import Derived.Outline
import Derived.Test.YtnkfkaahjplnmaaGreatDoorGfTerms
import Derived.BigQuiet
import Derived.Deep.MidRow
namespace Go.Proofs.YtnkfkaahjplnmaaGreatDoor
open Go.RowKit Pz

/-- A list of texts in memory, perhaps empty. -/
def Txs (w : World) (v : Value) (ts : List Str) : Prop :=
  ∃ a c, v = .slice a ts.length c ∧ ts.length ≤ maxLen ∧ (0 < ts.length → ∃ g, a = some ⟨g, 0, none⟩ ∧ g < w.heap.size ∧ ∀ (i : Nat) t, ts[i]? = some t → w.cell? ⟨g, i, none⟩ = some (.string (ba t)))
theorem Txs.of {w : World} {P : Nat → Prop} {v : Value} {ts : List Str} (h : OwnP w P 9 1 v ts.length (ts.map fun t => .string (ba t))) : Txs w v ts := by
  rcases own_cells h with ⟨rfl, h0⟩ | ⟨g, cap, rfl, h1, h2, ⟨c, t, h3⟩, h4⟩
  · refine ⟨none, 0, by rw [h0], by rw [h0]; exact Nat.zero_le _, fun h => by omega⟩
  · refine ⟨_, _, rfl, by omega, fun _ => ⟨g, rfl, (Array.getElem?_eq_some_iff.1 h3).1, fun i t hi => h4 i _ (by simp [hi])⟩⟩
theorem Txs.nil (w : World) : Txs w (.slice none 0 0) [] := ⟨none, 0, rfl, Nat.zero_le _, fun h => by simp at h⟩
theorem Txs.same {w w' : World} {v : Value} {ts : List Str} (h : Txs w v ts) (hs : ∀ g, g < w.heap.size → w'.heap[g]? = w.heap[g]?) : Txs w' v ts := by
  obtain ⟨a, c, h1, h2, h3⟩ := h
  refine ⟨a, c, h1, h2, fun h0 => ?_⟩
  obtain ⟨g, h4, h5, h6⟩ := h3 h0
  have hb := hs g h5
  refine ⟨g, h4, ?_, fun i t hi => (World.cell?_of_block (w := w) (a := ⟨g, i, none⟩) hb).trans (h6 i t hi)⟩
  have h7 : ∃ x, w.heap[g]? = some x := ⟨_, Array.getElem?_eq_getElem h5⟩
  obtain ⟨x, h7⟩ := h7
  rw [h7] at hb
  exact (Array.getElem?_eq_some_iff.1 hb).1

set_option maxRecDepth 100000 in
set_option maxHeartbeats 4000000 in
theorem texts_any (v u : Value) (L : List Str) (w : World) (hv : Txs w v L) (hu : Txs w u L) :
    Calls Tryz.prog 23 #[v, u] w fun e w' => e = .returned (.bool true) ∧ Below w.heap.size w w' := by
  obtain ⟨A, c, rfl, hm, hA⟩ := hv
  obtain ⟨B, d, rfl, -, hB⟩ := hu
  have HA := Lib.hid hA
  have HB := Lib.hid hB
  have hm2 : (L.length : Int) ≤ 9223372036854775807 := by
    have : maxLen = 9223372036854775807 := by decide
    omega
  clear hA hB
  go_enter Tryz.func23, Tryz.ntmps23
  go_wp2
  go_loopw [5] (fun i wr => ∃ k : Nat, k ≤ L.length ∧ i = .int .i64 k ∧ Below w.heap.size w wr) (fun i _ => L.length - (intOf i).toNat)
  case atStart => exact ⟨0, Nat.zero_le _, rfl, Below.refl _ _⟩
  case round =>
    obtain ⟨k, hk, rfl, hB⟩ := hrel
    by_cases hlt : k < L.length
    · obtain ⟨x, hx⟩ : ∃ x, L[k]? = some x := ⟨_, List.getElem?_eq_getElem hlt⟩
      obtain ⟨g, rfl, hg1, h6⟩ := HA.out (by omega)
      obtain ⟨g2, rfl, hg2, h9⟩ := HB.out (by omega)
      have hS : wr.cell? ⟨g, k, none⟩ = some (.string (ba x)) ∧ wr.cell? ⟨g2, k, none⟩ = some (.string (ba x)) := ⟨(World.cell?_of_block (w := w) (a := ⟨g, k, none⟩) (hB.block _ hg1)).trans (h6 k x hx), (World.cell?_of_block (w := w) (a := ⟨g2, k, none⟩) (hB.block _ hg2)).trans (h9 k x hx)⟩
      have hS1 := hS.1
      have hS2 := hS.2
      have hlti : (k : Int) < (L.length : Int) := by omega
      clear h6 h9 hx
      go_wp2
      go_region
      go_wp2
      go_roundw
      case rel => exact ⟨k + 1, by omega, by go_num, hB.drew⟩
      case measure => simp [intOf]; omega
    · obtain rfl : k = L.length := by omega
      go_wp2
      go_ret
      exact ⟨rfl, hB⟩
end Go.Proofs.YtnkfkaahjplnmaaGreatDoor

/- The reference's SameType on equal plain types. -/
namespace Go.Proofs.YtnkfkaahjplnmaaGreatDoor
open Go.RowKit Pz

set_option maxRecDepth 100000 in
set_option maxHeartbeats 4000000 in
theorem sameType_any (t : Ty) (w : World) :
    Calls Tryz.prog 41 #[tyV t, tyV t] w fun e w' => e = .returned (.bool true) ∧ Below w.heap.size w w' := by
  have hb1 := below_new w (.cells (tyC t) 37)
  have hb2 := hb1.alloc (by simp) (.cells (tyC t) 37)
  have n0 := (Lies.new w 37 (tyC t)).alloc (.cells (tyC t) 37)
  have n1 := Lies.new' (w.alloc (.cells (tyC t) 37)) 37 (tyC t) (N := w.heap.size + 1) (by simp)
  unfold tyV
  unfold tyC at n0 n1 hb2 ⊢
  go_enter Tryz.func41, Tryz.ntmps41
  have HN0 := Lib.hid n0
  have HN1 := Lib.hid n1
  have HB2 := Lib.hid hb2
  have c0 := n0.cell 3
  have c1 := n1.cell 3
  clear n0 n1 hb1 hb2
  go_wp2_with fail
  refine (texts_any _ _ [] _ (Txs.nil _) (Txs.nil _)).mono ?_
  rintro e w2 ⟨rfl, hB⟩
  have m0 := HN0.out.later hB
  have m1 := HN1.out.later hB
  have c0 := m0.cell 0
  have c1 := m0.cell 1
  have c2 := m0.cell 2
  have c3 := m0.cell 3
  have c4 := m0.cell 5
  have d0 := m1.cell 0
  have d1 := m1.cell 1
  have d2 := m1.cell 2
  have d3 := m1.cell 3
  have d4 := m1.cell 5
  go_wp2
  go_loopw [6] (fun i wr => i = .int .i64 0 ∧ Below w2.heap.size w2 wr) (fun _ _ => 0)
  case atStart => exact ⟨rfl, Below.refl _ _⟩
  case round =>
    obtain ⟨rfl, hC⟩ := hrel
    have e3 := (m0.later hC).cell 3
    have e4 := (m1.later hC).cell 3
    go_wp2
    go_ret
    exact ⟨rfl, (HB2.out.trans (hB.mono HB2.out.size)).trans (hC.mono (by have := HB2.out.size; have := hB.size; omega))⟩
end Go.Proofs.YtnkfkaahjplnmaaGreatDoor

/- The reference's SameTerm on terms that are equal but for where they stand: the ground. -/
namespace Go.Proofs.YtnkfkaahjplnmaaGreatDoor
open Go.RowKit Pz

mutual
def noAt : Tm → Tm
  | .mk k _ nm pm n ks az => .mk k 0 nm pm n (noAtL ks) (noAtA az)
def noAtL : List Tm → List Tm
  | [] => []
  | t :: r => noAt t :: noAtL r
def noAtA : List (Str × List Str × Tm) → List (Str × List Str × Tm)
  | [] => []
  | (a, b, t) :: r => (a, b, noAt t) :: noAtA r
end
theorem noAtL_map : ∀ l, noAtL l = l.map noAt
  | [] => by simp [noAtL]
  | t :: r => by simp [noAtL, noAtL_map r]
theorem noAtA_map : ∀ l, noAtA l = l.map fun a => (a.1, a.2.1, noAt a.2.2)
  | [] => by simp [noAtA]
  | (a, b, t) :: r => by simp [noAtA, noAtA_map r]
theorem noAt_inj {k pos : Nat} {nm pm : Str} {n : Nat} {ks : List Tm} {az : List Arm} {k' pos' : Nat} {nm' pm' : Str} {n' : Nat} {ks' : List Tm} {az' : List Arm}
    (h : noAt (.mk k pos nm pm n ks az) = noAt (.mk k' pos' nm' pm' n' ks' az')) : k = k' ∧ nm = nm' ∧ pm = pm' ∧ n = n' ∧ ks.length = ks'.length ∧ az.length = az'.length ∧
    (∀ (i : Nat) t t', ks[i]? = some t → ks'[i]? = some t' → noAt t = noAt t') ∧ ∀ (i : Nat) a a', az[i]? = some a → az'[i]? = some a' → a.1 = a'.1 ∧ a.2.1 = a'.2.1 ∧ noAt a.2.2 = noAt a'.2.2 := by
  unfold noAt at h
  rw [noAtL_map, noAtL_map, noAtA_map, noAtA_map] at h
  injection h with h1 _ h3 h4 h5 h6 h7
  refine ⟨h1, h3, h4, h5, by simpa using congrArg List.length h6, by simpa using congrArg List.length h7, fun i t t' h8 h9 => ?_, fun i a a' h8 h9 => ?_⟩
  · have := congrArg (·[i]?) h6
    simpa [h8, h9] using this
  · have := congrArg (·[i]?) h7
    simp [h8, h9] at this
    exact this
/-- One row of a list of rows. -/
theorem Rw.at_ {w : World} {P : Nat → Prop} {e : TypeId} {sz : Nat} {v : Value} {xs : List (List Value)} (h : Rw w P e sz v xs) {i : Nat} {x : List Value} (hx : xs[i]? = some x) :
    ∃ g cap, v = .slice (some ⟨g, 0, none⟩) xs.length cap ∧ xs.length ≤ cap ∧ cap ≤ maxLen ∧ g < w.heap.size ∧ ∀ (j : Nat) u, x[j]? = some u → w.cell? ⟨g, i * sz + j, none⟩ = some u := by
  rcases own_cells h.2 with ⟨-, h0⟩ | ⟨g, cap, h1, h2, h3, ⟨c, t, h4⟩, h5⟩
  · have := (List.getElem?_eq_some_iff.1 hx).1
    omega
  · exact ⟨g, cap, h1, h2, h3, (Array.getElem?_eq_some_iff.1 h4).1, fun j u hu => h5 _ _ (flat_idx sz xs h.1 i j x u hx hu)⟩
theorem Rw.shape {w : World} {P : Nat → Prop} {e : TypeId} {sz : Nat} {v : Value} {xs : List (List Value)} (h : Rw w P e sz v xs) : ∃ a c, v = .slice a xs.length c ∧ xs.length ≤ maxLen := by
  rcases own_cells h.2 with ⟨h1, h0⟩ | ⟨g, cap, h1, h2, h3, _, _⟩
  · exact ⟨none, 0, by rw [h0]; exact h1, by rw [h0]; exact Nat.zero_le _⟩
  · exact ⟨_, _, h1, by omega⟩
theorem tmC_cells {w : World} {b k pos : Nat} {nm pm : Str} {n : Nat} {kv av : Value} {l : List Value} (hl : l = tmC k pos nm pm n kv av) (h : Lies w b 39 l.toArray) :
    w.cell? ⟨b, 0, none⟩ = some (.int .i64 (k : Int)) ∧ w.cell? ⟨b, 1, none⟩ = some (.int .i64 (pos : Int)) ∧ w.cell? ⟨b, 2, none⟩ = some (.string (ba nm)) ∧ w.cell? ⟨b, 3, none⟩ = some (.string (ba pm)) ∧
    w.cell? ⟨b, 4, none⟩ = some (.int .i64 (n : Int)) ∧ w.cell? ⟨b, 5, none⟩ = some kv ∧ w.cell? ⟨b, 6, none⟩ = some av := by
  subst hl
  refine ⟨?_, ?_, ?_, ?_, ?_, ?_, ?_⟩ <;> (rw [h.cell]; rfl)
end Go.Proofs.YtnkfkaahjplnmaaGreatDoor

/- The reference's SameTerm on terms that are equal but for where they stand. -/
namespace Go.Proofs.YtnkfkaahjplnmaaGreatDoor
open Go.RowKit Pz

set_option maxRecDepth 100000 in
set_option maxHeartbeats 4000000 in
theorem sameTerm_any {w : World} {P : Nat → Prop} {t : Tm} {l : List Value} (h : HT w P t l) : ∀ (u : Tm) (m : List Value) (Q : Nat → Prop), noAt t = noAt u → HT w Q u m → ∀ W, Below w.heap.size w W →
    Calls Tryz.prog 12 #[.agg l.toArray, .agg m.toArray, .bool false] W fun e w' => e = .returned (.bool true) ∧ Below W.heap.size W w' := by
  induction h with
  | mk k pos nm pm n kids arms kv av kc vv bc hk hkl hks hvl hbl ha hav has ih1 ih2 =>
  intro u m Q he hu W hW
  cases hu with
  | mk k' pos' nm' pm' n' kids' arms' kv' av' kc' vv' bc' hk' hkl' hks' hvl' hbl' ha' hav' has' =>
  obtain ⟨rfl, rfl, rfl, rfl, hkk, haa, hki, hai⟩ := noAt_inj he
  obtain ⟨a1, c1, hkv, hkm⟩ := hk.shape
  obtain ⟨a2, c2, hkv', -⟩ := hk'.shape
  obtain ⟨a3, c3, hav1, ham⟩ := ha.shape
  obtain ⟨a4, c4, hav2, -⟩ := ha'.shape
  obtain ⟨l, hl⟩ : ∃ l, l = tmC k pos nm pm n kv av := ⟨_, rfl⟩
  obtain ⟨m, hm⟩ : ∃ m, m = tmC k pos' nm pm n kv' av' := ⟨_, rfl⟩
  rw [← hl, ← hm]
  have hz1 : (List.zipWith (fun (a : Arm) (x : Value × List Value) => Value.string (ba a.1) :: x.1 :: x.2) arms (vv.zip bc)).length = arms.length := by simp [hvl, hbl]
  have hz2 : (List.zipWith (fun (a : Arm) (x : Value × List Value) => Value.string (ba a.1) :: x.1 :: x.2) arms' (vv'.zip bc')).length = arms.length := by simp [hvl', hbl', haa]
  rw [hkl] at hkv hkm
  rw [hkl', ← hkk] at hkv'
  rw [hz1] at hav1 ham
  rw [hz2] at hav2
  have hb1 := below_new W (.cells l.toArray 39)
  have hb2 := hb1.alloc (by simp) (.cells m.toArray 39)
  have n0 := (Lies.new W 39 l.toArray).alloc (.cells m.toArray 39)
  have n1 := Lies.new' (W.alloc (.cells l.toArray 39)) 39 m.toArray (N := W.heap.size + 1) (by simp)
  have hk1 : (kids.length : Int) ≤ 9223372036854775807 := by
    have : maxLen = 9223372036854775807 := by decide
    omega
  have ha1 : (arms.length : Int) ≤ 9223372036854775807 := by
    have : maxLen = 9223372036854775807 := by decide
    omega
  go_enter Tryz.func12, Tryz.ntmps12
  obtain ⟨d0, d1, d2, d3, d4, d5, d6⟩ := tmC_cells hl n0
  obtain ⟨e0, e1, e2, e3, e4, e5, e6⟩ := tmC_cells hm n1
  rw [hkv] at d5
  rw [hav1] at d6
  rw [hkv'] at e5
  rw [hav2] at e6
  have HN0 := Lib.hid n0
  have HN1 := Lib.hid n1
  have HB2 := Lib.hid hb2
  have HL := Lib.hid hl
  have HM := Lib.hid hm
  have HKK := Lib.hid hkk
  have HAA := Lib.hid haa
  have HKL := Lib.hid hkl
  have HKL' := Lib.hid hkl'
  have HZ1 := Lib.hid hz1
  have HZ2 := Lib.hid hz2
  have HKV := Lib.hid hkv
  have HKV' := Lib.hid hkv'
  have HAV1 := Lib.hid hav1
  have HAV2 := Lib.hid hav2
  clear n0 n1 hb1 hb2 hl hm hkk haa hkl hkl' hz1 hz2 hkv hkv' hav1 hav2
  go_wp2
  go_loopw [7, 8] (fun i _ wr => ∃ q : Nat, q ≤ kids.length ∧ i = .int .i64 q ∧ Below ((W.alloc (.cells l.toArray 39)).alloc (.cells m.toArray 39)).heap.size ((W.alloc (.cells l.toArray 39)).alloc (.cells m.toArray 39)) wr) (fun i _ _ => kids.length - (intOf i).toNat)
  case atStart => exact ⟨0, Nat.zero_le _, rfl, Below.refl _ _⟩
  case round =>
    obtain ⟨q, hq, rfl, hB⟩ := hrel
    clear d0 d1 d2 d3 d4 d5 d6 e0 e1 e2 e3 e4 e5 e6
    obtain ⟨-, -, -, -, -, d5, d6⟩ := tmC_cells HL.out (HN0.out.later hB)
    obtain ⟨-, -, -, -, -, e5, e6⟩ := tmC_cells HM.out (HN1.out.later hB)
    rw [HKV.out] at d5
    rw [HAV1.out] at d6
    rw [HKV'.out] at e5
    rw [HAV2.out] at e6
    have hE := hW.trans ((HB2.out.trans (hB.mono HB2.out.size)).mono hW.size)
    have HB := Lib.hid hB
    have HE := Lib.hid hE
    clear hB hE
    by_cases hlt : q < kids.length
    · obtain ⟨x, hx⟩ : ∃ x, kids[q]? = some x := ⟨_, List.getElem?_eq_getElem hlt⟩
      obtain ⟨y, hy⟩ : ∃ y, kids'[q]? = some y := ⟨_, List.getElem?_eq_getElem (by rw [← HKK.out]; exact hlt)⟩
      obtain ⟨cx, hcx⟩ : ∃ x, kc[q]? = some x := ⟨_, List.getElem?_eq_getElem (by rw [HKL.out]; exact hlt)⟩
      obtain ⟨cy, hcy⟩ : ∃ y, kc'[q]? = some y := ⟨_, List.getElem?_eq_getElem (by rw [HKL'.out, ← HKK.out]; exact hlt)⟩
      have hcall := ih1 q x cx hx hcx y cy Q (hki q x y hx hy) (hks' q y cy hy hcy)
      have hlx := (hks q x cx hx hcx).len
      have hly := (hks' q y cy hy hcy).len
      obtain ⟨g, cap, hv, -, -, hg, hcell⟩ := hk.at_ hcx
      obtain ⟨g2, cap2, hv2, -, -, hg2, hcell2⟩ := hk'.at_ hcy
      rw [HKV.out] at hv
      rw [HKV'.out] at hv2
      injection hv with hv hx0 hvc
      injection hv2 with hv2 hx1 hvc2
      clear hx0 hx1
      subst hv hvc hv2 hvc2
      have hr1 : wr.rangeAt g (q * 21) cx := fun j u hu => (World.cell?_of_block (w := w) (a := ⟨g, q * 21 + j, none⟩) (HE.out.block _ hg)).trans (hcell j u hu)
      have hr2 : wr.rangeAt g2 (q * 21) cy := fun j u hu => (World.cell?_of_block (w := w) (a := ⟨g2, q * 21 + j, none⟩) (HE.out.block _ hg2)).trans (hcell2 j u hu)
      have hgr : g < wr.heap.size := by have := HE.out.size; omega
      have hgr2 : g2 < wr.heap.size := by have := HE.out.size; omega
      have hWr : W.heap.size + 2 ≤ wr.heap.size := by have := HB.out.size; simp at this; omega
      have hlti : (q : Int) < (kids.length : Int) := by omega
      have HS : Hid (wr.cell? ⟨W.heap.size, 5, none⟩ = some (.slice (some ⟨g, 0, none⟩) kids.length c1) ∧ wr.cell? ⟨W.heap.size + 1, 5, none⟩ = some (.slice (some ⟨g2, 0, none⟩) kids.length c2) ∧ wr.rangeAt g (q * 21) cx ∧ wr.rangeAt g2 (q * 21) cy) := Lib.hid ⟨d5, e5, hr1, hr2⟩
      have keep : ∀ V, Below wr.heap.size wr V → V.cell? ⟨W.heap.size, 5, none⟩ = some (.slice (some ⟨g, 0, none⟩) kids.length c1) ∧ V.cell? ⟨W.heap.size + 1, 5, none⟩ = some (.slice (some ⟨g2, 0, none⟩) kids.length c2) ∧ V.rangeAt g (q * 21) cx ∧ V.rangeAt g2 (q * 21) cy := fun V hV => ⟨(World.cell?_of_block (w := wr) (a := ⟨W.heap.size, 5, none⟩) (hV.block _ (show W.heap.size < wr.heap.size by omega))).trans HS.out.1, (World.cell?_of_block (w := wr) (a := ⟨W.heap.size + 1, 5, none⟩) (hV.block _ (show W.heap.size + 1 < wr.heap.size by omega))).trans HS.out.2.1, fun j u hu => (World.cell?_of_block (w := wr) (a := ⟨g, q * 21 + j, none⟩) (hV.block _ hgr)).trans (HS.out.2.2.1 j u hu), fun j u hu => (World.cell?_of_block (w := wr) (a := ⟨g2, q * 21 + j, none⟩) (hV.block _ hgr2)).trans (HS.out.2.2.2 j u hu)⟩
      clear hr1 hr2 hcell hcell2 hx hy hcx hcy
      focus go_wp2_with fail
      refine wp_region_held_drew (S := fun w' => w'.cell? ⟨W.heap.size, 5, none⟩ = some (.slice (some ⟨g, 0, none⟩) kids.length c1) ∧ w'.cell? ⟨W.heap.size + 1, 5, none⟩ = some (.slice (some ⟨g2, 0, none⟩) kids.length c2) ∧ w'.rangeAt g (q * 21) cx ∧ w'.rangeAt g2 (q * 21) cy) (by kernel_rfl) HS.out (fun hHeld => ?_)
      refine wpAnyH_take (i := 0) (oi := ⟨some 73, _, _, _, _, _⟩) (v := ?_) rfl (by kernel_rfl) (by kernel_rfl) (by kernel_rfl) (fun _ _ _ h => h) (Or.inl ⟨by kernel_rfl, ?_⟩) (by assumption) ?_
      rotate_left
      · (intro w' hSw; (try dsimp only at hSw); go_split_ands; go_simp; first | done | with_reducible rfl)
      try simp only [Act.put, List.setIfInBounds_toArray, List.set_cons_zero, List.set_cons_succ]
      refine wpAnyH_take (i := 1) (oi := ⟨some 74, _, _, _, _, _⟩) (v := ?_) rfl (by kernel_rfl) (by kernel_rfl) (by kernel_rfl) (fun _ _ _ h => h) (Or.inl ⟨by kernel_rfl, ?_⟩) (by assumption) ?_
      rotate_left
      · (intro w' hSw; (try dsimp only at hSw); go_split_ands; go_simp; first | done | with_reducible rfl)
      try simp only [Act.put, List.setIfInBounds_toArray, List.set_cons_zero, List.set_cons_succ]
      refine wpAnyH_take (i := 2) (oi := ⟨some 75, _, _, _, _, _⟩) (v := ?_) rfl (by kernel_rfl) (by kernel_rfl) (by kernel_rfl) (fun _ _ _ h => h) (Or.inl ⟨by kernel_rfl, ?_⟩) (by assumption) ?_
      rotate_left
      · (intro w' hSw; (try dsimp only at hSw); go_split_ands; go_simp; first | done | with_reducible rfl)
      try simp only [Act.put, List.setIfInBounds_toArray, List.set_cons_zero, List.set_cons_succ]
      refine wpAnyH_take (i := 3) (oi := ⟨some 76, _, _, _, _, _⟩) (v := ?_) rfl (by kernel_rfl) (by kernel_rfl) (by kernel_rfl) (fun _ _ _ h => h) (Or.inl ⟨by kernel_rfl, ?_⟩) (by assumption) ?_
      rotate_left
      · (intro w' hSw; (try dsimp only at hSw); go_split_ands; go_simp; first | done | with_reducible rfl)
      try simp only [Act.put, List.setIfInBounds_toArray, List.set_cons_zero, List.set_cons_succ]
      refine wpAnyH_take (i := 4) (oi := ⟨some 77, _, _, _, _, _⟩) (v := .agg cx.toArray) rfl (by kernel_rfl) (by kernel_rfl) (by kernel_rfl) (fun _ _ _ h => h) (yieldsIf_load_mid (by rfl) 39 (.tmp 76) rfl g (q * 21) rfl cx _ (fun w' hS => hS.2.2.1) Tryz.underlying39 rfl (by rw [sz39, hlx])) (by assumption) ?_
      try simp only [Act.put, List.setIfInBounds_toArray, List.set_cons_zero, List.set_cons_succ]
      refine wpAnyH_take (i := 5) (oi := ⟨some 78, _, _, _, _, _⟩) (v := ?_) rfl (by kernel_rfl) (by kernel_rfl) (by kernel_rfl) (fun _ _ _ h => h) (Or.inl ⟨by kernel_rfl, ?_⟩) (by assumption) ?_
      rotate_left
      · (intro w' hSw; (try dsimp only at hSw); go_split_ands; go_simp; first | done | with_reducible rfl)
      try simp only [Act.put, List.setIfInBounds_toArray, List.set_cons_zero, List.set_cons_succ]
      refine wpAnyH_take (i := 6) (oi := ⟨some 79, _, _, _, _, _⟩) (v := ?_) rfl (by kernel_rfl) (by kernel_rfl) (by kernel_rfl) (fun _ _ _ h => h) (Or.inl ⟨by kernel_rfl, ?_⟩) (by assumption) ?_
      rotate_left
      · (intro w' hSw; (try dsimp only at hSw); go_split_ands; go_simp; first | done | with_reducible rfl)
      try simp only [Act.put, List.setIfInBounds_toArray, List.set_cons_zero, List.set_cons_succ]
      refine wpAnyH_take (i := 7) (oi := ⟨some 80, _, _, _, _, _⟩) (v := ?_) rfl (by kernel_rfl) (by kernel_rfl) (by kernel_rfl) (fun _ _ _ h => h) (Or.inl ⟨by kernel_rfl, ?_⟩) (by assumption) ?_
      rotate_left
      · (intro w' hSw; (try dsimp only at hSw); go_split_ands; go_simp; first | done | with_reducible rfl)
      try simp only [Act.put, List.setIfInBounds_toArray, List.set_cons_zero, List.set_cons_succ]
      refine wpAnyH_take (i := 8) (oi := ⟨some 81, _, _, _, _, _⟩) (v := ?_) rfl (by kernel_rfl) (by kernel_rfl) (by kernel_rfl) (fun _ _ _ h => h) (Or.inl ⟨by kernel_rfl, ?_⟩) (by assumption) ?_
      rotate_left
      · (intro w' hSw; (try dsimp only at hSw); go_split_ands; go_simp; first | done | with_reducible rfl)
      try simp only [Act.put, List.setIfInBounds_toArray, List.set_cons_zero, List.set_cons_succ]
      refine wpAnyH_take (i := 9) (oi := ⟨some 82, _, _, _, _, _⟩) (v := .agg cy.toArray) rfl (by kernel_rfl) (by kernel_rfl) (by kernel_rfl) (fun _ _ _ h => h) (yieldsIf_load_mid (by rfl) 39 (.tmp 81) rfl g2 (q * 21) rfl cy _ (fun w' hS => hS.2.2.2) Tryz.underlying39 rfl (by rw [sz39, hly])) (by assumption) ?_
      try simp only [Act.put, List.setIfInBounds_toArray, List.set_cons_zero, List.set_cons_succ]
      refine wpAnyH_take (i := 10) (oi := ⟨some 83, _, _, _, _, _⟩) (v := ?_) rfl (by kernel_rfl) (by kernel_rfl) (by kernel_rfl) (fun _ _ _ h => h) (Or.inl ⟨by kernel_rfl, ?_⟩) (by assumption) ?_
      rotate_left
      · (intro w' hSw; (try dsimp only at hSw); go_split_ands; go_simp; first | done | with_reducible rfl)
      try simp only [Act.put, List.setIfInBounds_toArray, List.set_cons_zero, List.set_cons_succ]
      refine wpAnyH_ready (rs := [11]) (by kernel_rfl) (by simp) ?_
      refine AllReadyH.cons (o := ⟨some 84, _, _, _, _, _⟩) rfl (fun K hK => ?_) AllReadyH.nil
      (go_simp; go_at_call 12; refine (hcall _ (HE.out.drew)).mono ?_; rintro e v1 ⟨rfl, b1⟩)
      have hb1 : Below wr.heap.size wr v1 := (Below.refl _ _).drew.trans b1
      refine hK.out _ _ (keep _ hb1) (fun hHeld => ?_)
      clear hK K
      try simp only [Act.put, List.setIfInBounds_toArray, List.set_cons_zero, List.set_cons_succ]
      refine wpAnyH_take (i := 12) (oi := ⟨some 8, _, _, _, _, _⟩) (v := ?_) rfl (by kernel_rfl) (by kernel_rfl) (by kernel_rfl) (fun _ _ _ h => h) (Or.inl ⟨by kernel_rfl, ?_⟩) (by assumption) ?_
      rotate_left
      · (intro w' hSw; (try dsimp only at hSw); go_split_ands; go_simp; first | done | with_reducible rfl)
      try simp only [Act.put, List.setIfInBounds_toArray, List.set_cons_zero, List.set_cons_succ]
      refine wpAnyH_done (by kernel_rfl) ?_ _
      go_wp2
      go_roundw
      case rel =>
        exact ⟨q + 1, by omega, by go_num, HB.out.trans (hb1.mono HB.out.size)⟩
      case measure => simp [intOf]; omega
    · obtain rfl : q = kids.length := by omega
      go_wp2
      obtain ⟨w1, rfl⟩ : ∃ w1, w1 = wr := ⟨wr, rfl⟩
      go_loopw [9, 10, 11] (fun i _ _ wr => ∃ j : Nat, j ≤ arms.length ∧ i = .int .i64 j ∧ Below w1.heap.size w1 wr) (fun i _ _ _ => arms.length - (intOf i).toNat)
      case atStart => exact ⟨0, Nat.zero_le _, rfl, Below.refl _ _⟩
      case round =>
        obtain ⟨j, hj, rfl, hC⟩ := hrel
        clear d5 d6 e5 e6
        have hB := HB.out.trans (hC.mono HB.out.size)
        obtain ⟨-, -, -, -, -, -, d6⟩ := tmC_cells HL.out (HN0.out.later hB)
        obtain ⟨-, -, -, -, -, -, e6⟩ := tmC_cells HM.out (HN1.out.later hB)
        rw [HAV1.out] at d6
        rw [HAV2.out] at e6
        have hE := HE.out.trans (hC.mono HE.out.size)
        have HB' := Lib.hid hB
        have HE' := Lib.hid hE
        have HC := Lib.hid hC
        clear hB hE hC
        by_cases hlt2 : j < arms.length
        · obtain ⟨x, hx⟩ : ∃ x, arms[j]? = some x := ⟨_, List.getElem?_eq_getElem hlt2⟩
          obtain ⟨y, hy⟩ : ∃ y, arms'[j]? = some y := ⟨_, List.getElem?_eq_getElem (by rw [← HAA.out]; exact hlt2)⟩
          obtain ⟨cx, hcx⟩ : ∃ x, bc[j]? = some x := ⟨_, List.getElem?_eq_getElem (by rw [hbl]; exact hlt2)⟩
          obtain ⟨cy, hcy⟩ : ∃ y, bc'[j]? = some y := ⟨_, List.getElem?_eq_getElem (by rw [hbl', ← HAA.out]; exact hlt2)⟩
          obtain ⟨vx, hvx⟩ : ∃ x, vv[j]? = some x := ⟨_, List.getElem?_eq_getElem (by rw [hvl]; exact hlt2)⟩
          obtain ⟨vy, hvy⟩ : ∃ y, vv'[j]? = some y := ⟨_, List.getElem?_eq_getElem (by rw [hvl', ← HAA.out]; exact hlt2)⟩
          obtain ⟨ea1, ea2, ea3⟩ := hai j x y hx hy
          have hcall := ih2 j x cx hx hcx y.2.2 cy Q ea3 (has' j y cy hy hcy)
          have hlx := (has j x cx hx hcx).len
          have hly := (has' j y cy hy hcy).len
          have htx : Txs w vx x.2.1 := Txs.of (hav j x vx hx hvx)
          have hty : Txs w vy x.2.1 := by rw [ea2]; exact Txs.of (hav' j y vy hy hvy)
          have hrow1 : (List.zipWith (fun (a : Arm) (x : Value × List Value) => Value.string (ba a.1) :: x.1 :: x.2) arms (vv.zip bc))[j]? = some (.string (ba x.1) :: vx :: cx) := by simp [List.getElem?_zipWith, hx, hcx, hvx, List.zip]
          have hrow2 : (List.zipWith (fun (a : Arm) (x : Value × List Value) => Value.string (ba a.1) :: x.1 :: x.2) arms' (vv'.zip bc'))[j]? = some (.string (ba x.1) :: vy :: cy) := by rw [ea1]; simp [List.getElem?_zipWith, hy, hcy, hvy, List.zip]
          obtain ⟨g, cap, hv, -, -, hg, hcell⟩ := ha.at_ hrow1
          obtain ⟨g2, cap2, hv2, -, -, hg2, hcell2⟩ := ha'.at_ hrow2
          rw [HAV1.out] at hv
          rw [HAV2.out] at hv2
          injection hv with hv hx0 hvc
          injection hv2 with hv2 hx1 hvc2
          clear hx0 hx1
          subst hv hvc hv2 hvc2
          have at1 : ∀ o u, (Value.string (ba x.1) :: vx :: cx)[o]? = some u → wr.cell? ⟨g, j * 23 + o, none⟩ = some u := fun o u hu => (World.cell?_of_block (w := w) (a := ⟨g, j * 23 + o, none⟩) (HE'.out.block _ hg)).trans (hcell o u hu)
          have at2 : ∀ o u, (Value.string (ba x.1) :: vy :: cy)[o]? = some u → wr.cell? ⟨g2, j * 23 + o, none⟩ = some u := fun o u hu => (World.cell?_of_block (w := w) (a := ⟨g2, j * 23 + o, none⟩) (HE'.out.block _ hg2)).trans (hcell2 o u hu)
          have hr1 : wr.rangeAt g (j * 23 + 2) cx := fun o u hu => by rw [Nat.add_assoc, Nat.add_comm 2 o]; exact at1 (o + 2) u (by simpa using hu)
          have hr2 : wr.rangeAt g2 (j * 23 + 2) cy := fun o u hu => by rw [Nat.add_assoc, Nat.add_comm 2 o]; exact at2 (o + 2) u (by simpa using hu)
          have hgr : g < wr.heap.size := by have := HE'.out.size; omega
          have hgr2 : g2 < wr.heap.size := by have := HE'.out.size; omega
          have hWr : W.heap.size + 2 ≤ wr.heap.size := by have := HB'.out.size; simp at this; omega
          have hlti : (j : Int) < (arms.length : Int) := by omega
          have HS : Hid (wr.cell? ⟨W.heap.size, 6, none⟩ = some (.slice (some ⟨g, 0, none⟩) arms.length c3) ∧ wr.cell? ⟨W.heap.size + 1, 6, none⟩ = some (.slice (some ⟨g2, 0, none⟩) arms.length c4) ∧ wr.cell? ⟨g, j * 23, none⟩ = some (.string (ba x.1)) ∧ wr.cell? ⟨g2, j * 23, none⟩ = some (.string (ba x.1)) ∧ wr.cell? ⟨g, j * 23 + 1, none⟩ = some vx ∧ wr.cell? ⟨g2, j * 23 + 1, none⟩ = some vy ∧ wr.rangeAt g (j * 23 + 2) cx ∧ wr.rangeAt g2 (j * 23 + 2) cy) := Lib.hid ⟨d6, e6, at1 0 _ rfl, at2 0 _ rfl, at1 1 _ rfl, at2 1 _ rfl, hr1, hr2⟩
          have keep : ∀ V, Below wr.heap.size wr V → V.cell? ⟨W.heap.size, 6, none⟩ = some (.slice (some ⟨g, 0, none⟩) arms.length c3) ∧ V.cell? ⟨W.heap.size + 1, 6, none⟩ = some (.slice (some ⟨g2, 0, none⟩) arms.length c4) ∧ V.cell? ⟨g, j * 23, none⟩ = some (.string (ba x.1)) ∧ V.cell? ⟨g2, j * 23, none⟩ = some (.string (ba x.1)) ∧ V.cell? ⟨g, j * 23 + 1, none⟩ = some vx ∧ V.cell? ⟨g2, j * 23 + 1, none⟩ = some vy ∧ V.rangeAt g (j * 23 + 2) cx ∧ V.rangeAt g2 (j * 23 + 2) cy := fun V hV => by
            have kc : ∀ b o u, b < wr.heap.size → wr.cell? ⟨b, o, none⟩ = some u → V.cell? ⟨b, o, none⟩ = some u := fun b o u hb hu => (World.cell?_of_block (w := wr) (a := ⟨b, o, none⟩) (hV.block _ hb)).trans hu
            obtain ⟨s1, s2, s3, s4, s5, s6, s7, s8⟩ := HS.out
            exact ⟨kc _ _ _ (by omega) s1, kc _ _ _ (by omega) s2, kc _ _ _ hgr s3, kc _ _ _ hgr2 s4, kc _ _ _ hgr s5, kc _ _ _ hgr2 s6, fun o u hu => kc _ _ _ hgr (s7 o u hu), fun o u hu => kc _ _ _ hgr2 (s8 o u hu)⟩
          have HTX := Lib.hid htx
          have HTY := Lib.hid hty
          clear hr1 hr2 at1 at2 hcell hcell2 hrow1 hrow2 hx hy hcx hcy hvx hvy ea1 ea2 ea3 htx hty
          focus go_wp2_with fail
          refine wp_region_held_drew (S := fun w' => w'.cell? ⟨W.heap.size, 6, none⟩ = some (.slice (some ⟨g, 0, none⟩) arms.length c3) ∧ w'.cell? ⟨W.heap.size + 1, 6, none⟩ = some (.slice (some ⟨g2, 0, none⟩) arms.length c4) ∧ w'.cell? ⟨g, j * 23, none⟩ = some (.string (ba x.1)) ∧ w'.cell? ⟨g2, j * 23, none⟩ = some (.string (ba x.1)) ∧ w'.cell? ⟨g, j * 23 + 1, none⟩ = some vx ∧ w'.cell? ⟨g2, j * 23 + 1, none⟩ = some vy ∧ w'.rangeAt g (j * 23 + 2) cx ∧ w'.rangeAt g2 (j * 23 + 2) cy) (by kernel_rfl) HS.out (fun hHeld => ?_)
          refine wpAnyH_take (i := 0) (oi := ⟨some 94, _, _, _, _, _⟩) (v := ?_) rfl (by kernel_rfl) (by kernel_rfl) (by kernel_rfl) (fun _ _ _ h => h) (Or.inl ⟨by kernel_rfl, ?_⟩) (by assumption) ?_
          rotate_left
          · (intro w' hSw; (try dsimp only at hSw); go_split_ands; go_simp; first | done | with_reducible rfl)
          try simp only [Act.put, List.setIfInBounds_toArray, List.set_cons_zero, List.set_cons_succ]
          refine wpAnyH_take (i := 1) (oi := ⟨some 95, _, _, _, _, _⟩) (v := ?_) rfl (by kernel_rfl) (by kernel_rfl) (by kernel_rfl) (fun _ _ _ h => h) (Or.inl ⟨by kernel_rfl, ?_⟩) (by assumption) ?_
          rotate_left
          · (intro w' hSw; (try dsimp only at hSw); go_split_ands; go_simp; first | done | with_reducible rfl)
          try simp only [Act.put, List.setIfInBounds_toArray, List.set_cons_zero, List.set_cons_succ]
          refine wpAnyH_take (i := 2) (oi := ⟨some 96, _, _, _, _, _⟩) (v := ?_) rfl (by kernel_rfl) (by kernel_rfl) (by kernel_rfl) (fun _ _ _ h => h) (Or.inl ⟨by kernel_rfl, ?_⟩) (by assumption) ?_
          rotate_left
          · (intro w' hSw; (try dsimp only at hSw); go_split_ands; go_simp; first | done | with_reducible rfl)
          try simp only [Act.put, List.setIfInBounds_toArray, List.set_cons_zero, List.set_cons_succ]
          refine wpAnyH_take (i := 3) (oi := ⟨some 97, _, _, _, _, _⟩) (v := ?_) rfl (by kernel_rfl) (by kernel_rfl) (by kernel_rfl) (fun _ _ _ h => h) (Or.inl ⟨by kernel_rfl, ?_⟩) (by assumption) ?_
          rotate_left
          · (intro w' hSw; (try dsimp only at hSw); go_split_ands; go_simp; first | done | with_reducible rfl)
          try simp only [Act.put, List.setIfInBounds_toArray, List.set_cons_zero, List.set_cons_succ]
          refine wpAnyH_take (i := 4) (oi := ⟨some 98, _, _, _, _, _⟩) (v := ?_) rfl (by kernel_rfl) (by kernel_rfl) (by kernel_rfl) (fun _ _ _ h => h) (Or.inl ⟨by kernel_rfl, ?_⟩) (by assumption) ?_
          rotate_left
          · (intro w' hSw; (try dsimp only at hSw); go_split_ands; go_simp; first | done | with_reducible rfl)
          try simp only [Act.put, List.setIfInBounds_toArray, List.set_cons_zero, List.set_cons_succ]
          refine wpAnyH_take (i := 5) (oi := ⟨some 99, _, _, _, _, _⟩) (v := .agg cx.toArray) rfl (by kernel_rfl) (by kernel_rfl) (by kernel_rfl) (fun _ _ _ h => h) (yieldsIf_load_mid (by rfl) 39 (.tmp 98) rfl g (j * 23 + 2) rfl cx _ (fun w' hS => hS.2.2.2.2.2.2.1) Tryz.underlying39 rfl (by rw [sz39, hlx])) (by assumption) ?_
          try simp only [Act.put, List.setIfInBounds_toArray, List.set_cons_zero, List.set_cons_succ]
          refine wpAnyH_take (i := 6) (oi := ⟨some 100, _, _, _, _, _⟩) (v := ?_) rfl (by kernel_rfl) (by kernel_rfl) (by kernel_rfl) (fun _ _ _ h => h) (Or.inl ⟨by kernel_rfl, ?_⟩) (by assumption) ?_
          rotate_left
          · (intro w' hSw; (try dsimp only at hSw); go_split_ands; go_simp; first | done | with_reducible rfl)
          try simp only [Act.put, List.setIfInBounds_toArray, List.set_cons_zero, List.set_cons_succ]
          refine wpAnyH_take (i := 7) (oi := ⟨some 101, _, _, _, _, _⟩) (v := ?_) rfl (by kernel_rfl) (by kernel_rfl) (by kernel_rfl) (fun _ _ _ h => h) (Or.inl ⟨by kernel_rfl, ?_⟩) (by assumption) ?_
          rotate_left
          · (intro w' hSw; (try dsimp only at hSw); go_split_ands; go_simp; first | done | with_reducible rfl)
          try simp only [Act.put, List.setIfInBounds_toArray, List.set_cons_zero, List.set_cons_succ]
          refine wpAnyH_take (i := 8) (oi := ⟨some 102, _, _, _, _, _⟩) (v := ?_) rfl (by kernel_rfl) (by kernel_rfl) (by kernel_rfl) (fun _ _ _ h => h) (Or.inl ⟨by kernel_rfl, ?_⟩) (by assumption) ?_
          rotate_left
          · (intro w' hSw; (try dsimp only at hSw); go_split_ands; go_simp; first | done | with_reducible rfl)
          try simp only [Act.put, List.setIfInBounds_toArray, List.set_cons_zero, List.set_cons_succ]
          refine wpAnyH_take (i := 9) (oi := ⟨some 103, _, _, _, _, _⟩) (v := ?_) rfl (by kernel_rfl) (by kernel_rfl) (by kernel_rfl) (fun _ _ _ h => h) (Or.inl ⟨by kernel_rfl, ?_⟩) (by assumption) ?_
          rotate_left
          · (intro w' hSw; (try dsimp only at hSw); go_split_ands; go_simp; first | done | with_reducible rfl)
          try simp only [Act.put, List.setIfInBounds_toArray, List.set_cons_zero, List.set_cons_succ]
          refine wpAnyH_take (i := 10) (oi := ⟨some 104, _, _, _, _, _⟩) (v := ?_) rfl (by kernel_rfl) (by kernel_rfl) (by kernel_rfl) (fun _ _ _ h => h) (Or.inl ⟨by kernel_rfl, ?_⟩) (by assumption) ?_
          rotate_left
          · (intro w' hSw; (try dsimp only at hSw); go_split_ands; go_simp; first | done | with_reducible rfl)
          try simp only [Act.put, List.setIfInBounds_toArray, List.set_cons_zero, List.set_cons_succ]
          refine wpAnyH_take (i := 11) (oi := ⟨some 105, _, _, _, _, _⟩) (v := .agg cy.toArray) rfl (by kernel_rfl) (by kernel_rfl) (by kernel_rfl) (fun _ _ _ h => h) (yieldsIf_load_mid (by rfl) 39 (.tmp 104) rfl g2 (j * 23 + 2) rfl cy _ (fun w' hS => hS.2.2.2.2.2.2.2) Tryz.underlying39 rfl (by rw [sz39, hly])) (by assumption) ?_
          try simp only [Act.put, List.setIfInBounds_toArray, List.set_cons_zero, List.set_cons_succ]
          refine wpAnyH_take (i := 12) (oi := ⟨some 106, _, _, _, _, _⟩) (v := ?_) rfl (by kernel_rfl) (by kernel_rfl) (by kernel_rfl) (fun _ _ _ h => h) (Or.inl ⟨by kernel_rfl, ?_⟩) (by assumption) ?_
          rotate_left
          · (intro w' hSw; (try dsimp only at hSw); go_split_ands; go_simp; first | done | with_reducible rfl)
          try simp only [Act.put, List.setIfInBounds_toArray, List.set_cons_zero, List.set_cons_succ]
          refine wpAnyH_ready (rs := [13]) (by kernel_rfl) (by simp) ?_
          refine AllReadyH.cons (o := ⟨some 107, _, _, _, _, _⟩) rfl (fun K hK => ?_) AllReadyH.nil
          (go_simp; go_at_call 12; refine (hcall _ (HE'.out.drew)).mono ?_; rintro e v1 ⟨rfl, b1⟩)
          have hb1 : Below wr.heap.size wr v1 := (Below.refl _ _).drew.trans b1
          refine hK.out _ _ (keep _ hb1) (fun hHeld => ?_)
          clear hK K
          try simp only [Act.put, List.setIfInBounds_toArray, List.set_cons_zero, List.set_cons_succ]
          refine wpAnyH_take (i := 14) (oi := ⟨some 10, _, _, _, _, _⟩) (v := ?_) rfl (by kernel_rfl) (by kernel_rfl) (by kernel_rfl) (fun _ _ _ h => h) (Or.inl ⟨by kernel_rfl, ?_⟩) (by assumption) ?_
          rotate_left
          · (intro w' hSw; (try dsimp only at hSw); go_split_ands; go_simp; first | done | with_reducible rfl)
          try simp only [Act.put, List.setIfInBounds_toArray, List.set_cons_zero, List.set_cons_succ]
          refine wpAnyH_done (by kernel_rfl) ?_ _
          focus go_wp2_with fail
          refine wp_region_held_drew (S := fun w' => w'.cell? ⟨W.heap.size, 6, none⟩ = some (.slice (some ⟨g, 0, none⟩) arms.length c3) ∧ w'.cell? ⟨W.heap.size + 1, 6, none⟩ = some (.slice (some ⟨g2, 0, none⟩) arms.length c4) ∧ w'.cell? ⟨g, j * 23, none⟩ = some (.string (ba x.1)) ∧ w'.cell? ⟨g2, j * 23, none⟩ = some (.string (ba x.1)) ∧ w'.cell? ⟨g, j * 23 + 1, none⟩ = some vx ∧ w'.cell? ⟨g2, j * 23 + 1, none⟩ = some vy ∧ w'.rangeAt g (j * 23 + 2) cx ∧ w'.rangeAt g2 (j * 23 + 2) cy) (by kernel_rfl) (keep _ hb1.drew) (fun hHeld => ?_)
          refine wpAnyH_take (i := 0) (oi := ⟨some 108, _, _, _, _, _⟩) (v := ?_) rfl (by kernel_rfl) (by kernel_rfl) (by kernel_rfl) (fun _ _ _ h => h) (Or.inl ⟨by kernel_rfl, ?_⟩) (by assumption) ?_
          rotate_left
          · (intro w' hSw; (try dsimp only at hSw); go_split_ands; go_simp; first | done | with_reducible rfl)
          try simp only [Act.put, List.setIfInBounds_toArray, List.set_cons_zero, List.set_cons_succ]
          refine wpAnyH_take (i := 1) (oi := ⟨some 109, _, _, _, _, _⟩) (v := ?_) rfl (by kernel_rfl) (by kernel_rfl) (by kernel_rfl) (fun _ _ _ h => h) (Or.inl ⟨by kernel_rfl, ?_⟩) (by assumption) ?_
          rotate_left
          · (intro w' hSw; (try dsimp only at hSw); go_split_ands; go_simp; first | done | with_reducible rfl)
          try simp only [Act.put, List.setIfInBounds_toArray, List.set_cons_zero, List.set_cons_succ]
          refine wpAnyH_take (i := 2) (oi := ⟨some 110, _, _, _, _, _⟩) (v := ?_) rfl (by kernel_rfl) (by kernel_rfl) (by kernel_rfl) (fun _ _ _ h => h) (Or.inl ⟨by kernel_rfl, ?_⟩) (by assumption) ?_
          rotate_left
          · (intro w' hSw; (try dsimp only at hSw); go_split_ands; go_simp; first | done | with_reducible rfl)
          try simp only [Act.put, List.setIfInBounds_toArray, List.set_cons_zero, List.set_cons_succ]
          refine wpAnyH_take (i := 3) (oi := ⟨some 111, _, _, _, _, _⟩) (v := ?_) rfl (by kernel_rfl) (by kernel_rfl) (by kernel_rfl) (fun _ _ _ h => h) (Or.inl ⟨by kernel_rfl, ?_⟩) (by assumption) ?_
          rotate_left
          · (intro w' hSw; (try dsimp only at hSw); go_split_ands; go_simp; first | done | with_reducible rfl)
          try simp only [Act.put, List.setIfInBounds_toArray, List.set_cons_zero, List.set_cons_succ]
          refine wpAnyH_take (i := 4) (oi := ⟨some 112, _, _, _, _, _⟩) (v := ?_) rfl (by kernel_rfl) (by kernel_rfl) (by kernel_rfl) (fun _ _ _ h => h) (Or.inl ⟨by kernel_rfl, ?_⟩) (by assumption) ?_
          rotate_left
          · (intro w' hSw; (try dsimp only at hSw); go_split_ands; go_simp; first | done | with_reducible rfl)
          try simp only [Act.put, List.setIfInBounds_toArray, List.set_cons_zero, List.set_cons_succ]
          refine wpAnyH_take (i := 5) (oi := ⟨some 113, _, _, _, _, _⟩) (v := ?_) rfl (by kernel_rfl) (by kernel_rfl) (by kernel_rfl) (fun _ _ _ h => h) (Or.inl ⟨by kernel_rfl, ?_⟩) (by assumption) ?_
          rotate_left
          · (intro w' hSw; (try dsimp only at hSw); go_split_ands; go_simp; first | done | with_reducible rfl)
          try simp only [Act.put, List.setIfInBounds_toArray, List.set_cons_zero, List.set_cons_succ]
          refine wpAnyH_take (i := 6) (oi := ⟨some 114, _, _, _, _, _⟩) (v := ?_) rfl (by kernel_rfl) (by kernel_rfl) (by kernel_rfl) (fun _ _ _ h => h) (Or.inl ⟨by kernel_rfl, ?_⟩) (by assumption) ?_
          rotate_left
          · (intro w' hSw; (try dsimp only at hSw); go_split_ands; go_simp; first | done | with_reducible rfl)
          try simp only [Act.put, List.setIfInBounds_toArray, List.set_cons_zero, List.set_cons_succ]
          refine wpAnyH_take (i := 7) (oi := ⟨some 115, _, _, _, _, _⟩) (v := ?_) rfl (by kernel_rfl) (by kernel_rfl) (by kernel_rfl) (fun _ _ _ h => h) (Or.inl ⟨by kernel_rfl, ?_⟩) (by assumption) ?_
          rotate_left
          · (intro w' hSw; (try dsimp only at hSw); go_split_ands; go_simp; first | done | with_reducible rfl)
          try simp only [Act.put, List.setIfInBounds_toArray, List.set_cons_zero, List.set_cons_succ]
          refine wpAnyH_take (i := 8) (oi := ⟨some 116, _, _, _, _, _⟩) (v := ?_) rfl (by kernel_rfl) (by kernel_rfl) (by kernel_rfl) (fun _ _ _ h => h) (Or.inl ⟨by kernel_rfl, ?_⟩) (by assumption) ?_
          rotate_left
          · (intro w' hSw; (try dsimp only at hSw); go_split_ands; go_simp; first | done | with_reducible rfl)
          try simp only [Act.put, List.setIfInBounds_toArray, List.set_cons_zero, List.set_cons_succ]
          refine wpAnyH_take (i := 9) (oi := ⟨some 117, _, _, _, _, _⟩) (v := ?_) rfl (by kernel_rfl) (by kernel_rfl) (by kernel_rfl) (fun _ _ _ h => h) (Or.inl ⟨by kernel_rfl, ?_⟩) (by assumption) ?_
          rotate_left
          · (intro w' hSw; (try dsimp only at hSw); go_split_ands; go_simp; first | done | with_reducible rfl)
          try simp only [Act.put, List.setIfInBounds_toArray, List.set_cons_zero, List.set_cons_succ]
          refine wpAnyH_take (i := 10) (oi := ⟨some 118, _, _, _, _, _⟩) (v := ?_) rfl (by kernel_rfl) (by kernel_rfl) (by kernel_rfl) (fun _ _ _ h => h) (Or.inl ⟨by kernel_rfl, ?_⟩) (by assumption) ?_
          rotate_left
          · (intro w' hSw; (try dsimp only at hSw); go_split_ands; go_simp; first | done | with_reducible rfl)
          try simp only [Act.put, List.setIfInBounds_toArray, List.set_cons_zero, List.set_cons_succ]
          refine wpAnyH_take (i := 11) (oi := ⟨some 119, _, _, _, _, _⟩) (v := ?_) rfl (by kernel_rfl) (by kernel_rfl) (by kernel_rfl) (fun _ _ _ h => h) (Or.inl ⟨by kernel_rfl, ?_⟩) (by assumption) ?_
          rotate_left
          · (intro w' hSw; (try dsimp only at hSw); go_split_ands; go_simp; first | done | with_reducible rfl)
          try simp only [Act.put, List.setIfInBounds_toArray, List.set_cons_zero, List.set_cons_succ]
          refine wpAnyH_ready (rs := [12]) (by kernel_rfl) (by simp) ?_
          refine AllReadyH.cons (o := ⟨some 120, _, _, _, _, _⟩) rfl (fun K hK => ?_) AllReadyH.nil
          (go_simp; go_at_call 23; refine (texts_any _ _ _ _ (HTX.out.same (fun b hb => ((HE'.out.trans (hb1.mono HE'.out.size)).drew).block b hb)) (HTY.out.same (fun b hb => ((HE'.out.trans (hb1.mono HE'.out.size)).drew).block b hb))).mono ?_; rintro e v2 ⟨rfl, b2⟩)
          have hb2 : Below wr.heap.size wr v2 := hb1.drew.trans (b2.mono hb1.drew.size)
          refine hK.out _ _ (keep _ hb2) (fun hHeld => ?_)
          clear hK K
          try simp only [Act.put, List.setIfInBounds_toArray, List.set_cons_zero, List.set_cons_succ]
          refine wpAnyH_take (i := 13) (oi := ⟨some 11, _, _, _, _, _⟩) (v := ?_) rfl (by kernel_rfl) (by kernel_rfl) (by kernel_rfl) (fun _ _ _ h => h) (Or.inl ⟨by kernel_rfl, ?_⟩) (by assumption) ?_
          rotate_left
          · (intro w' hSw; (try dsimp only at hSw); go_split_ands; go_simp; first | done | with_reducible rfl)
          try simp only [Act.put, List.setIfInBounds_toArray, List.set_cons_zero, List.set_cons_succ]
          refine wpAnyH_done (by kernel_rfl) ?_ _
          obtain ⟨s1, s2, s3, s4, -, -, -, -⟩ := keep _ hb2
          focus go_wp2_with fail
          go_quiet (fail)
          go_wp2
          go_roundw
          case rel => exact ⟨j + 1, by omega, by go_num, HC.out.trans ((bdrewN hb2 _).mono HC.out.size)⟩
          case measure => simp [intOf]; omega
        · obtain rfl : j = arms.length := by omega
          go_wp2
          go_ret
          exact ⟨rfl, HB2.out.trans (HB'.out.mono HB2.out.size)⟩
end Go.Proofs.YtnkfkaahjplnmaaGreatDoor

/- The reference's sameEffect on equal declarations. -/
namespace Go.Proofs.YtnkfkaahjplnmaaGreatDoor
open Go.RowKit Pz

def tyL (t : Ty) : List Value := [.int .i64 (t.1 : Int), .string (ba t.2), .int .i64 0, .slice none 0 0, .slice none 0 0, .int .i64 0]
theorem rw_of {α : Type} {It : World → (Nat → Prop) → α → List Value → Prop} {sz e : Nat} {w : World} {P : Nat → Prop} (ok : ItOK sz It) {zs : List α} {xs : List (List Value)} {v : Value} (hl : xs.length = zs.length)
    (ho : OwnP w P e sz v zs.length xs.flatten) (hi : ∀ (i : Nat) a m, zs[i]? = some a → xs[i]? = some m → It w P a m) : Rw w P e sz v xs := by
  refine ⟨fun x hx => ?_, by rw [hl]; exact ho⟩
  obtain ⟨i, hi', rfl⟩ := List.mem_iff_getElem.1 hx
  exact ok.len (hi i _ _ (List.getElem?_eq_getElem (by omega)) (List.getElem?_eq_getElem hi'))

set_option maxRecDepth 100000 in
set_option maxHeartbeats 4000000 in
theorem sameEffect_any {w : World} {P Q : Nat → Prop} {c : Str × List Sig} {l m : List Value} (h : EfIt w P c l) (h' : EfIt w Q c m) (W : World) (hW : Below w.heap.size w W) :
    Calls Tryz.prog 20 #[.agg l.toArray, .agg m.toArray] W fun e w' => e = .returned (.bool true) ∧ Below W.heap.size W w' := by
  obtain ⟨nm, zs⟩ := c
  obtain ⟨v, xs, hl, hxl, hxo, hxi⟩ := h
  obtain ⟨u, ys, hm, hyl, hyo, hyi⟩ := h'
  dsimp only at hl hm hxl hxo hxi hyl hyo hyi
  have hk := rw_of sigOK hxl hxo hxi
  have hk' := rw_of sigOK hyl hyo hyi
  obtain ⟨a1, c1, hkv, hkm⟩ := hk.shape
  obtain ⟨a2, c2, hkv', -⟩ := hk'.shape
  rw [hxl] at hkv hkm
  rw [hyl] at hkv'
  subst hkv hkv' hl hm
  have hb1 := below_new W (.cells #[.string (ba nm), .slice a1 zs.length c1] 55)
  have hb2 := hb1.alloc (by simp) (.cells #[.string (ba nm), .slice a2 zs.length c2] 55)
  have n0 := (Lies.new W 55 #[.string (ba nm), .slice a1 zs.length c1]).alloc (.cells #[.string (ba nm), .slice a2 zs.length c2] 55)
  have n1 := Lies.new' (W.alloc (.cells #[.string (ba nm), .slice a1 zs.length c1] 55)) 55 #[.string (ba nm), .slice a2 zs.length c2] (N := W.heap.size + 1) (by simp)
  have hk1 : (zs.length : Int) ≤ 9223372036854775807 := by
    have : maxLen = 9223372036854775807 := by decide
    omega
  go_enter Tryz.func20, Tryz.ntmps20
  have HN0 := Lib.hid n0
  have HN1 := Lib.hid n1
  have HB2 := Lib.hid hb2
  have HXL := Lib.hid hxl
  have HYL := Lib.hid hyl
  clear n0 n1 hb1 hb2 hxl hyl
  go_wp2
  go_loopw [5, 6, 7] (fun i _ _ wr => ∃ j : Nat, j ≤ zs.length ∧ i = .int .i64 j ∧ Below ((W.alloc (.cells #[.string (ba nm), .slice a1 zs.length c1] 55)).alloc (.cells #[.string (ba nm), .slice a2 zs.length c2] 55)).heap.size ((W.alloc (.cells #[.string (ba nm), .slice a1 zs.length c1] 55)).alloc (.cells #[.string (ba nm), .slice a2 zs.length c2] 55)) wr) (fun i _ _ _ => zs.length - (intOf i).toNat)
  case atStart => exact ⟨0, Nat.zero_le _, rfl, Below.refl _ _⟩
  case round =>
    obtain ⟨j, hj, rfl, hB⟩ := hrel
    have d1 := (HN0.out.later hB).cell 1
    have e1 := (HN1.out.later hB).cell 1
    dsimp at d1 e1
    have hE := hW.trans ((HB2.out.trans (hB.mono HB2.out.size)).mono hW.size)
    have HB := Lib.hid hB
    have HE := Lib.hid hE
    clear hB hE
    by_cases hlt : j < zs.length
    · obtain ⟨x, hx⟩ : ∃ x, zs[j]? = some x := ⟨_, List.getElem?_eq_getElem hlt⟩
      obtain ⟨cx, hcx⟩ : ∃ x, xs[j]? = some x := ⟨_, List.getElem?_eq_getElem (by rw [HXL.out]; exact hlt)⟩
      obtain ⟨cy, hcy⟩ : ∃ y, ys[j]? = some y := ⟨_, List.getElem?_eq_getElem (by rw [HYL.out]; exact hlt)⟩
      have ecx : cx = sgC x.nm x.arg x.res := hxi j x cx hx hcx
      have ecy : cy = sgC x.nm x.arg x.res := hyi j x cy hx hcy
      obtain ⟨g, cap, hv, -, -, hg, hcell⟩ := hk.at_ hcx
      obtain ⟨g2, cap2, hv2, -, -, hg2, hcell2⟩ := hk'.at_ hcy
      injection hv with hv hx0 hvc
      injection hv2 with hv2 hx1 hvc2
      clear hx0 hx1
      subst hv hvc hv2 hvc2 ecx ecy
      have at1 : ∀ o u, (sgC x.nm x.arg x.res)[o]? = some u → wr.cell? ⟨g, j * 13 + o, none⟩ = some u := fun o u hu => (World.cell?_of_block (w := w) (a := ⟨g, j * 13 + o, none⟩) (HE.out.block _ hg)).trans (hcell o u hu)
      have at2 : ∀ o u, (sgC x.nm x.arg x.res)[o]? = some u → wr.cell? ⟨g2, j * 13 + o, none⟩ = some u := fun o u hu => (World.cell?_of_block (w := w) (a := ⟨g2, j * 13 + o, none⟩) (HE.out.block _ hg2)).trans (hcell2 o u hu)
      have sgA : ∀ o u, (tyL x.arg)[o]? = some u → (sgC x.nm x.arg x.res)[1 + o]? = some u := fun o u hu => by
        have ho : o < 6 := (List.getElem?_eq_some_iff.1 hu).1
        match o, ho, hu with
        | 0, _, hu => exact hu
        | 1, _, hu => exact hu
        | 2, _, hu => exact hu
        | 3, _, hu => exact hu
        | 4, _, hu => exact hu
        | 5, _, hu => exact hu
      have sgR : ∀ o u, (tyL x.res)[o]? = some u → (sgC x.nm x.arg x.res)[7 + o]? = some u := fun o u hu => by
        have ho : o < 6 := (List.getElem?_eq_some_iff.1 hu).1
        match o, ho, hu with
        | 0, _, hu => exact hu
        | 1, _, hu => exact hu
        | 2, _, hu => exact hu
        | 3, _, hu => exact hu
        | 4, _, hu => exact hu
        | 5, _, hu => exact hu
      have hr1 : wr.rangeAt g (j * 13 + 1) (tyL x.arg) := fun o u hu => by rw [Nat.add_assoc]; exact at1 _ u (sgA o u hu)
      have hr2 : wr.rangeAt g2 (j * 13 + 1) (tyL x.arg) := fun o u hu => by rw [Nat.add_assoc]; exact at2 _ u (sgA o u hu)
      have hr3 : wr.rangeAt g (j * 13 + 7) (tyL x.res) := fun o u hu => by rw [Nat.add_assoc]; exact at1 _ u (sgR o u hu)
      have hr4 : wr.rangeAt g2 (j * 13 + 7) (tyL x.res) := fun o u hu => by rw [Nat.add_assoc]; exact at2 _ u (sgR o u hu)
      have hgr : g < wr.heap.size := by have := HE.out.size; omega
      have hgr2 : g2 < wr.heap.size := by have := HE.out.size; omega
      have hWr : W.heap.size + 2 ≤ wr.heap.size := by have := HB.out.size; simp at this; omega
      have hlti : (j : Int) < (zs.length : Int) := by omega
      have HS : Hid (wr.cell? ⟨W.heap.size, 1, none⟩ = some (.slice (some ⟨g, 0, none⟩) zs.length c1) ∧ wr.cell? ⟨W.heap.size + 1, 1, none⟩ = some (.slice (some ⟨g2, 0, none⟩) zs.length c2) ∧ wr.cell? ⟨g, j * 13, none⟩ = some (.string (ba x.nm)) ∧ wr.cell? ⟨g2, j * 13, none⟩ = some (.string (ba x.nm)) ∧ wr.rangeAt g (j * 13 + 1) (tyL x.arg) ∧ wr.rangeAt g2 (j * 13 + 1) (tyL x.arg) ∧ wr.rangeAt g (j * 13 + 7) (tyL x.res) ∧ wr.rangeAt g2 (j * 13 + 7) (tyL x.res)) := Lib.hid ⟨d1, e1, at1 0 _ rfl, at2 0 _ rfl, hr1, hr2, hr3, hr4⟩
      have keep : ∀ V, Below wr.heap.size wr V → V.cell? ⟨W.heap.size, 1, none⟩ = some (.slice (some ⟨g, 0, none⟩) zs.length c1) ∧ V.cell? ⟨W.heap.size + 1, 1, none⟩ = some (.slice (some ⟨g2, 0, none⟩) zs.length c2) ∧ V.cell? ⟨g, j * 13, none⟩ = some (.string (ba x.nm)) ∧ V.cell? ⟨g2, j * 13, none⟩ = some (.string (ba x.nm)) ∧ V.rangeAt g (j * 13 + 1) (tyL x.arg) ∧ V.rangeAt g2 (j * 13 + 1) (tyL x.arg) ∧ V.rangeAt g (j * 13 + 7) (tyL x.res) ∧ V.rangeAt g2 (j * 13 + 7) (tyL x.res) := fun V hV => by
        have kc : ∀ b o u, b < wr.heap.size → wr.cell? ⟨b, o, none⟩ = some u → V.cell? ⟨b, o, none⟩ = some u := fun b o u hb hu => (World.cell?_of_block (w := wr) (a := ⟨b, o, none⟩) (hV.block _ hb)).trans hu
        obtain ⟨s1, s2, s3, s4, s5, s6, s7, s8⟩ := HS.out
        exact ⟨kc _ _ _ (by omega) s1, kc _ _ _ (by omega) s2, kc _ _ _ hgr s3, kc _ _ _ hgr2 s4, fun o u hu => kc _ _ _ hgr (s5 o u hu), fun o u hu => kc _ _ _ hgr2 (s6 o u hu), fun o u hu => kc _ _ _ hgr (s7 o u hu), fun o u hu => kc _ _ _ hgr2 (s8 o u hu)⟩
      clear hr1 hr2 hr3 hr4 at1 at2 sgA sgR hcell hcell2 hx hcx hcy
      focus go_wp2_with fail
      refine wp_region_held_drew (S := fun w' => w'.cell? ⟨W.heap.size, 1, none⟩ = some (.slice (some ⟨g, 0, none⟩) zs.length c1) ∧ w'.cell? ⟨W.heap.size + 1, 1, none⟩ = some (.slice (some ⟨g2, 0, none⟩) zs.length c2) ∧ w'.cell? ⟨g, j * 13, none⟩ = some (.string (ba x.nm)) ∧ w'.cell? ⟨g2, j * 13, none⟩ = some (.string (ba x.nm)) ∧ w'.rangeAt g (j * 13 + 1) (tyL x.arg) ∧ w'.rangeAt g2 (j * 13 + 1) (tyL x.arg) ∧ w'.rangeAt g (j * 13 + 7) (tyL x.res) ∧ w'.rangeAt g2 (j * 13 + 7) (tyL x.res)) (by kernel_rfl) HS.out (fun hHeld => ?_)
      have hb0 := Below.refl wr.heap.size wr
      refine wpAnyH_take (i := 0) (oi := ⟨some 29, _, _, _, _, _⟩) (v := ?_) rfl (by kernel_rfl) (by kernel_rfl) (by kernel_rfl) (fun _ _ _ h => h) (Or.inl ⟨by kernel_rfl, ?_⟩) (by assumption) ?_
      rotate_left
      · (intro w' hSw; (try dsimp only at hSw); go_split_ands; go_simp; first | done | with_reducible rfl)
      try simp only [Act.put, List.setIfInBounds_toArray, List.set_cons_zero, List.set_cons_succ]
      refine wpAnyH_take (i := 1) (oi := ⟨some 30, _, _, _, _, _⟩) (v := ?_) rfl (by kernel_rfl) (by kernel_rfl) (by kernel_rfl) (fun _ _ _ h => h) (Or.inl ⟨by kernel_rfl, ?_⟩) (by assumption) ?_
      rotate_left
      · (intro w' hSw; (try dsimp only at hSw); go_split_ands; go_simp; first | done | with_reducible rfl)
      try simp only [Act.put, List.setIfInBounds_toArray, List.set_cons_zero, List.set_cons_succ]
      refine wpAnyH_take (i := 2) (oi := ⟨some 31, _, _, _, _, _⟩) (v := ?_) rfl (by kernel_rfl) (by kernel_rfl) (by kernel_rfl) (fun _ _ _ h => h) (Or.inl ⟨by kernel_rfl, ?_⟩) (by assumption) ?_
      rotate_left
      · (intro w' hSw; (try dsimp only at hSw); go_split_ands; go_simp; first | done | with_reducible rfl)
      try simp only [Act.put, List.setIfInBounds_toArray, List.set_cons_zero, List.set_cons_succ]
      refine wpAnyH_take (i := 3) (oi := ⟨some 32, _, _, _, _, _⟩) (v := ?_) rfl (by kernel_rfl) (by kernel_rfl) (by kernel_rfl) (fun _ _ _ h => h) (Or.inl ⟨by kernel_rfl, ?_⟩) (by assumption) ?_
      rotate_left
      · (intro w' hSw; (try dsimp only at hSw); go_split_ands; go_simp; first | done | with_reducible rfl)
      try simp only [Act.put, List.setIfInBounds_toArray, List.set_cons_zero, List.set_cons_succ]
      refine wpAnyH_take (i := 4) (oi := ⟨some 33, _, _, _, _, _⟩) (v := ?_) rfl (by kernel_rfl) (by kernel_rfl) (by kernel_rfl) (fun _ _ _ h => h) (Or.inl ⟨by kernel_rfl, ?_⟩) (by assumption) ?_
      rotate_left
      · (intro w' hSw; (try dsimp only at hSw); go_split_ands; go_simp; first | done | with_reducible rfl)
      try simp only [Act.put, List.setIfInBounds_toArray, List.set_cons_zero, List.set_cons_succ]
      refine wpAnyH_take (i := 5) (oi := ⟨some 34, _, _, _, _, _⟩) (v := .agg (tyL x.arg).toArray) rfl (by kernel_rfl) (by kernel_rfl) (by kernel_rfl) (fun _ _ _ h => h) (yieldsIf_load_mid (by rfl) 37 (.tmp 33) rfl g (j * 13 + 1) rfl (tyL x.arg) _ (fun w' hS => hS.2.2.2.2.1) Tryz.underlying37 rfl (by rw [szTy]; rfl)) (by assumption) ?_
      try simp only [Act.put, List.setIfInBounds_toArray, List.set_cons_zero, List.set_cons_succ]
      refine wpAnyH_take (i := 6) (oi := ⟨some 35, _, _, _, _, _⟩) (v := ?_) rfl (by kernel_rfl) (by kernel_rfl) (by kernel_rfl) (fun _ _ _ h => h) (Or.inl ⟨by kernel_rfl, ?_⟩) (by assumption) ?_
      rotate_left
      · (intro w' hSw; (try dsimp only at hSw); go_split_ands; go_simp; first | done | with_reducible rfl)
      try simp only [Act.put, List.setIfInBounds_toArray, List.set_cons_zero, List.set_cons_succ]
      refine wpAnyH_take (i := 7) (oi := ⟨some 36, _, _, _, _, _⟩) (v := ?_) rfl (by kernel_rfl) (by kernel_rfl) (by kernel_rfl) (fun _ _ _ h => h) (Or.inl ⟨by kernel_rfl, ?_⟩) (by assumption) ?_
      rotate_left
      · (intro w' hSw; (try dsimp only at hSw); go_split_ands; go_simp; first | done | with_reducible rfl)
      try simp only [Act.put, List.setIfInBounds_toArray, List.set_cons_zero, List.set_cons_succ]
      refine wpAnyH_take (i := 8) (oi := ⟨some 37, _, _, _, _, _⟩) (v := ?_) rfl (by kernel_rfl) (by kernel_rfl) (by kernel_rfl) (fun _ _ _ h => h) (Or.inl ⟨by kernel_rfl, ?_⟩) (by assumption) ?_
      rotate_left
      · (intro w' hSw; (try dsimp only at hSw); go_split_ands; go_simp; first | done | with_reducible rfl)
      try simp only [Act.put, List.setIfInBounds_toArray, List.set_cons_zero, List.set_cons_succ]
      refine wpAnyH_take (i := 9) (oi := ⟨some 38, _, _, _, _, _⟩) (v := ?_) rfl (by kernel_rfl) (by kernel_rfl) (by kernel_rfl) (fun _ _ _ h => h) (Or.inl ⟨by kernel_rfl, ?_⟩) (by assumption) ?_
      rotate_left
      · (intro w' hSw; (try dsimp only at hSw); go_split_ands; go_simp; first | done | with_reducible rfl)
      try simp only [Act.put, List.setIfInBounds_toArray, List.set_cons_zero, List.set_cons_succ]
      refine wpAnyH_take (i := 10) (oi := ⟨some 39, _, _, _, _, _⟩) (v := ?_) rfl (by kernel_rfl) (by kernel_rfl) (by kernel_rfl) (fun _ _ _ h => h) (Or.inl ⟨by kernel_rfl, ?_⟩) (by assumption) ?_
      rotate_left
      · (intro w' hSw; (try dsimp only at hSw); go_split_ands; go_simp; first | done | with_reducible rfl)
      try simp only [Act.put, List.setIfInBounds_toArray, List.set_cons_zero, List.set_cons_succ]
      refine wpAnyH_take (i := 11) (oi := ⟨some 40, _, _, _, _, _⟩) (v := .agg (tyL x.arg).toArray) rfl (by kernel_rfl) (by kernel_rfl) (by kernel_rfl) (fun _ _ _ h => h) (yieldsIf_load_mid (by rfl) 37 (.tmp 39) rfl g2 (j * 13 + 1) rfl (tyL x.arg) _ (fun w' hS => hS.2.2.2.2.2.1) Tryz.underlying37 rfl (by rw [szTy]; rfl)) (by assumption) ?_
      try simp only [Act.put, List.setIfInBounds_toArray, List.set_cons_zero, List.set_cons_succ]
      refine wpAnyH_ready (rs := [12]) (by kernel_rfl) (by simp) ?_
      refine AllReadyH.cons (o := ⟨some 41, _, _, _, _, _⟩) rfl (fun K hK => ?_) AllReadyH.nil
      (go_simp; go_at_call 41; refine (sameType_any x.arg _).mono ?_; rintro e v1 ⟨rfl, b1⟩)
      have hb1 : Below wr.heap.size wr v1 := hb0.drew.trans (b1.mono hb0.drew.size)
      refine hK.out _ _ (keep _ hb1) (fun hHeld => ?_)
      clear hK K b1
      try simp only [Act.put, List.setIfInBounds_toArray, List.set_cons_zero, List.set_cons_succ]
      refine wpAnyH_take (i := 13) (oi := ⟨some 6, _, _, _, _, _⟩) (v := ?_) rfl (by kernel_rfl) (by kernel_rfl) (by kernel_rfl) (fun _ _ _ h => h) (Or.inl ⟨by kernel_rfl, ?_⟩) (by assumption) ?_
      rotate_left
      · (intro w' hSw; (try dsimp only at hSw); go_split_ands; go_simp; first | done | with_reducible rfl)
      try simp only [Act.put, List.setIfInBounds_toArray, List.set_cons_zero, List.set_cons_succ]
      refine wpAnyH_done (by kernel_rfl) ?_ _
      focus go_wp2_with fail
      refine wp_region_held_drew (S := fun w' => w'.cell? ⟨W.heap.size, 1, none⟩ = some (.slice (some ⟨g, 0, none⟩) zs.length c1) ∧ w'.cell? ⟨W.heap.size + 1, 1, none⟩ = some (.slice (some ⟨g2, 0, none⟩) zs.length c2) ∧ w'.cell? ⟨g, j * 13, none⟩ = some (.string (ba x.nm)) ∧ w'.cell? ⟨g2, j * 13, none⟩ = some (.string (ba x.nm)) ∧ w'.rangeAt g (j * 13 + 1) (tyL x.arg) ∧ w'.rangeAt g2 (j * 13 + 1) (tyL x.arg) ∧ w'.rangeAt g (j * 13 + 7) (tyL x.res) ∧ w'.rangeAt g2 (j * 13 + 7) (tyL x.res)) (by kernel_rfl) (keep _ hb1.drew) (fun hHeld => ?_)
      refine wpAnyH_take (i := 0) (oi := ⟨some 42, _, _, _, _, _⟩) (v := ?_) rfl (by kernel_rfl) (by kernel_rfl) (by kernel_rfl) (fun _ _ _ h => h) (Or.inl ⟨by kernel_rfl, ?_⟩) (by assumption) ?_
      rotate_left
      · (intro w' hSw; (try dsimp only at hSw); go_split_ands; go_simp; first | done | with_reducible rfl)
      try simp only [Act.put, List.setIfInBounds_toArray, List.set_cons_zero, List.set_cons_succ]
      refine wpAnyH_take (i := 1) (oi := ⟨some 43, _, _, _, _, _⟩) (v := ?_) rfl (by kernel_rfl) (by kernel_rfl) (by kernel_rfl) (fun _ _ _ h => h) (Or.inl ⟨by kernel_rfl, ?_⟩) (by assumption) ?_
      rotate_left
      · (intro w' hSw; (try dsimp only at hSw); go_split_ands; go_simp; first | done | with_reducible rfl)
      try simp only [Act.put, List.setIfInBounds_toArray, List.set_cons_zero, List.set_cons_succ]
      refine wpAnyH_take (i := 2) (oi := ⟨some 44, _, _, _, _, _⟩) (v := ?_) rfl (by kernel_rfl) (by kernel_rfl) (by kernel_rfl) (fun _ _ _ h => h) (Or.inl ⟨by kernel_rfl, ?_⟩) (by assumption) ?_
      rotate_left
      · (intro w' hSw; (try dsimp only at hSw); go_split_ands; go_simp; first | done | with_reducible rfl)
      try simp only [Act.put, List.setIfInBounds_toArray, List.set_cons_zero, List.set_cons_succ]
      refine wpAnyH_take (i := 3) (oi := ⟨some 45, _, _, _, _, _⟩) (v := ?_) rfl (by kernel_rfl) (by kernel_rfl) (by kernel_rfl) (fun _ _ _ h => h) (Or.inl ⟨by kernel_rfl, ?_⟩) (by assumption) ?_
      rotate_left
      · (intro w' hSw; (try dsimp only at hSw); go_split_ands; go_simp; first | done | with_reducible rfl)
      try simp only [Act.put, List.setIfInBounds_toArray, List.set_cons_zero, List.set_cons_succ]
      refine wpAnyH_take (i := 4) (oi := ⟨some 46, _, _, _, _, _⟩) (v := ?_) rfl (by kernel_rfl) (by kernel_rfl) (by kernel_rfl) (fun _ _ _ h => h) (Or.inl ⟨by kernel_rfl, ?_⟩) (by assumption) ?_
      rotate_left
      · (intro w' hSw; (try dsimp only at hSw); go_split_ands; go_simp; first | done | with_reducible rfl)
      try simp only [Act.put, List.setIfInBounds_toArray, List.set_cons_zero, List.set_cons_succ]
      refine wpAnyH_take (i := 5) (oi := ⟨some 47, _, _, _, _, _⟩) (v := .agg (tyL x.res).toArray) rfl (by kernel_rfl) (by kernel_rfl) (by kernel_rfl) (fun _ _ _ h => h) (yieldsIf_load_mid (by rfl) 37 (.tmp 46) rfl g (j * 13 + 7) rfl (tyL x.res) _ (fun w' hS => hS.2.2.2.2.2.2.1) Tryz.underlying37 rfl (by rw [szTy]; rfl)) (by assumption) ?_
      try simp only [Act.put, List.setIfInBounds_toArray, List.set_cons_zero, List.set_cons_succ]
      refine wpAnyH_take (i := 6) (oi := ⟨some 48, _, _, _, _, _⟩) (v := ?_) rfl (by kernel_rfl) (by kernel_rfl) (by kernel_rfl) (fun _ _ _ h => h) (Or.inl ⟨by kernel_rfl, ?_⟩) (by assumption) ?_
      rotate_left
      · (intro w' hSw; (try dsimp only at hSw); go_split_ands; go_simp; first | done | with_reducible rfl)
      try simp only [Act.put, List.setIfInBounds_toArray, List.set_cons_zero, List.set_cons_succ]
      refine wpAnyH_take (i := 7) (oi := ⟨some 49, _, _, _, _, _⟩) (v := ?_) rfl (by kernel_rfl) (by kernel_rfl) (by kernel_rfl) (fun _ _ _ h => h) (Or.inl ⟨by kernel_rfl, ?_⟩) (by assumption) ?_
      rotate_left
      · (intro w' hSw; (try dsimp only at hSw); go_split_ands; go_simp; first | done | with_reducible rfl)
      try simp only [Act.put, List.setIfInBounds_toArray, List.set_cons_zero, List.set_cons_succ]
      refine wpAnyH_take (i := 8) (oi := ⟨some 50, _, _, _, _, _⟩) (v := ?_) rfl (by kernel_rfl) (by kernel_rfl) (by kernel_rfl) (fun _ _ _ h => h) (Or.inl ⟨by kernel_rfl, ?_⟩) (by assumption) ?_
      rotate_left
      · (intro w' hSw; (try dsimp only at hSw); go_split_ands; go_simp; first | done | with_reducible rfl)
      try simp only [Act.put, List.setIfInBounds_toArray, List.set_cons_zero, List.set_cons_succ]
      refine wpAnyH_take (i := 9) (oi := ⟨some 51, _, _, _, _, _⟩) (v := ?_) rfl (by kernel_rfl) (by kernel_rfl) (by kernel_rfl) (fun _ _ _ h => h) (Or.inl ⟨by kernel_rfl, ?_⟩) (by assumption) ?_
      rotate_left
      · (intro w' hSw; (try dsimp only at hSw); go_split_ands; go_simp; first | done | with_reducible rfl)
      try simp only [Act.put, List.setIfInBounds_toArray, List.set_cons_zero, List.set_cons_succ]
      refine wpAnyH_take (i := 10) (oi := ⟨some 52, _, _, _, _, _⟩) (v := ?_) rfl (by kernel_rfl) (by kernel_rfl) (by kernel_rfl) (fun _ _ _ h => h) (Or.inl ⟨by kernel_rfl, ?_⟩) (by assumption) ?_
      rotate_left
      · (intro w' hSw; (try dsimp only at hSw); go_split_ands; go_simp; first | done | with_reducible rfl)
      try simp only [Act.put, List.setIfInBounds_toArray, List.set_cons_zero, List.set_cons_succ]
      refine wpAnyH_take (i := 11) (oi := ⟨some 53, _, _, _, _, _⟩) (v := .agg (tyL x.res).toArray) rfl (by kernel_rfl) (by kernel_rfl) (by kernel_rfl) (fun _ _ _ h => h) (yieldsIf_load_mid (by rfl) 37 (.tmp 52) rfl g2 (j * 13 + 7) rfl (tyL x.res) _ (fun w' hS => hS.2.2.2.2.2.2.2) Tryz.underlying37 rfl (by rw [szTy]; rfl)) (by assumption) ?_
      try simp only [Act.put, List.setIfInBounds_toArray, List.set_cons_zero, List.set_cons_succ]
      refine wpAnyH_ready (rs := [12]) (by kernel_rfl) (by simp) ?_
      refine AllReadyH.cons (o := ⟨some 54, _, _, _, _, _⟩) rfl (fun K hK => ?_) AllReadyH.nil
      (go_simp; go_at_call 41; refine (sameType_any x.res _).mono ?_; rintro e v2 ⟨rfl, b1⟩)
      have hb2 : Below wr.heap.size wr v2 := hb1.drew.trans (b1.mono hb1.drew.size)
      refine hK.out _ _ (keep _ hb2) (fun hHeld => ?_)
      clear hK K b1
      try simp only [Act.put, List.setIfInBounds_toArray, List.set_cons_zero, List.set_cons_succ]
      refine wpAnyH_take (i := 13) (oi := ⟨some 7, _, _, _, _, _⟩) (v := ?_) rfl (by kernel_rfl) (by kernel_rfl) (by kernel_rfl) (fun _ _ _ h => h) (Or.inl ⟨by kernel_rfl, ?_⟩) (by assumption) ?_
      rotate_left
      · (intro w' hSw; (try dsimp only at hSw); go_split_ands; go_simp; first | done | with_reducible rfl)
      try simp only [Act.put, List.setIfInBounds_toArray, List.set_cons_zero, List.set_cons_succ]
      refine wpAnyH_done (by kernel_rfl) ?_ _
      obtain ⟨s1, s2, s3, s4, -, -, -, -⟩ := keep _ hb2
      focus go_wp2_with fail
      go_quiet (fail)
      go_wp2
      go_roundw
      case rel => exact ⟨j + 1, by omega, by go_num, HB.out.trans ((bdrewN hb2 _).mono HB.out.size)⟩
      case measure => simp [intOf]; omega
    · obtain rfl : j = zs.length := by omega
      go_wp2
      go_ret
      exact ⟨rfl, HB2.out.trans (HB.out.mono HB2.out.size)⟩
end Go.Proofs.YtnkfkaahjplnmaaGreatDoor

/- The reference's sameData on equal declarations. -/
namespace Go.Proofs.YtnkfkaahjplnmaaGreatDoor
open Go.RowKit Pz

theorem rw_tys {w : World} {P : Nat → Prop} {e : TypeId} {v : Value} {ts : List Ty} (h : OwnP w P e 6 v ts.length (ts.map fun t => (tyC t).toList).flatten) : Rw w P e 6 v (ts.map tyL) :=
  ⟨fun x hx => by obtain ⟨t, _, rfl⟩ := List.mem_map.1 hx; rfl, by rw [List.length_map]; exact h⟩

set_option maxRecDepth 100000 in
set_option maxHeartbeats 4000000 in
theorem sameData_any {w : World} {P Q : Nat → Prop} {c : Str × List Con} {l m : List Value} (h : DaIt w P c l) (h' : DaIt w Q c m) (W : World) (hW : Below w.heap.size w W) :
    Calls Tryz.prog 21 #[.agg l.toArray, .agg m.toArray] W fun e w' => e = .returned (.bool true) ∧ Below W.heap.size W w' := by
  obtain ⟨nm, zs⟩ := c
  obtain ⟨v, xs, hl, hxl, hxo, hxi⟩ := h
  obtain ⟨u, ys, hm, hyl, hyo, hyi⟩ := h'
  dsimp only at hl hm hxl hxo hxi hyl hyo hyi
  have hk := rw_of conOK hxl hxo hxi
  have hk' := rw_of conOK hyl hyo hyi
  obtain ⟨a1, c1, hkv, hkm⟩ := hk.shape
  obtain ⟨a2, c2, hkv', -⟩ := hk'.shape
  rw [hxl] at hkv hkm
  rw [hyl] at hkv'
  subst hkv hkv' hl hm
  have hb1 := below_new W (.cells #[.string (ba nm), .slice a1 zs.length c1] 81)
  have hb2 := hb1.alloc (by simp) (.cells #[.string (ba nm), .slice a2 zs.length c2] 81)
  have n0 := (Lies.new W 81 #[.string (ba nm), .slice a1 zs.length c1]).alloc (.cells #[.string (ba nm), .slice a2 zs.length c2] 81)
  have n1 := Lies.new' (W.alloc (.cells #[.string (ba nm), .slice a1 zs.length c1] 81)) 81 #[.string (ba nm), .slice a2 zs.length c2] (N := W.heap.size + 1) (by simp)
  have hk1 : (zs.length : Int) ≤ 9223372036854775807 := by
    have : maxLen = 9223372036854775807 := by decide
    omega
  go_enter Tryz.func21, Tryz.ntmps21
  have HN0 := Lib.hid n0
  have HN1 := Lib.hid n1
  have HB2 := Lib.hid hb2
  have HXL := Lib.hid hxl
  have HYL := Lib.hid hyl
  clear n0 n1 hb1 hb2 hxl hyl
  go_wp2
  go_loopw [5, 6, 7] (fun i _ _ wr => ∃ j : Nat, j ≤ zs.length ∧ i = .int .i64 j ∧ Below ((W.alloc (.cells #[.string (ba nm), .slice a1 zs.length c1] 81)).alloc (.cells #[.string (ba nm), .slice a2 zs.length c2] 81)).heap.size ((W.alloc (.cells #[.string (ba nm), .slice a1 zs.length c1] 81)).alloc (.cells #[.string (ba nm), .slice a2 zs.length c2] 81)) wr) (fun i _ _ _ => zs.length - (intOf i).toNat)
  case atStart => exact ⟨0, Nat.zero_le _, rfl, Below.refl _ _⟩
  case round =>
    obtain ⟨j, hj, rfl, hB⟩ := hrel
    have d1 := (HN0.out.later hB).cell 1
    have e1 := (HN1.out.later hB).cell 1
    dsimp at d1 e1
    have hE := hW.trans ((HB2.out.trans (hB.mono HB2.out.size)).mono hW.size)
    have HB := Lib.hid hB
    have HE := Lib.hid hE
    clear hB hE
    by_cases hlt : j < zs.length
    · obtain ⟨x, hx⟩ : ∃ x, zs[j]? = some x := ⟨_, List.getElem?_eq_getElem hlt⟩
      obtain ⟨cx, hcx⟩ : ∃ x, xs[j]? = some x := ⟨_, List.getElem?_eq_getElem (by rw [HXL.out]; exact hlt)⟩
      obtain ⟨cy, hcy⟩ : ∃ y, ys[j]? = some y := ⟨_, List.getElem?_eq_getElem (by rw [HYL.out]; exact hlt)⟩
      obtain ⟨fv, ecx, hfo⟩ := hxi j x cx hx hcx
      obtain ⟨fu, ecy, hfo'⟩ := hyi j x cy hx hcy
      have hf := rw_tys hfo
      have hf' := rw_tys hfo'
      obtain ⟨b1, o1, hfv, hfm⟩ := hf.shape
      obtain ⟨b2, o2, hfv', -⟩ := hf'.shape
      rw [List.length_map] at hfv hfm hfv'
      obtain ⟨g, cap, hv, -, -, hg, hcell⟩ := hk.at_ hcx
      obtain ⟨g2, cap2, hv2, -, -, hg2, hcell2⟩ := hk'.at_ hcy
      injection hv with hv hx0 hvc
      injection hv2 with hv2 hx1 hvc2
      clear hx0 hx1
      subst hv hvc hv2 hvc2 ecx ecy hfv hfv'
      have at1 : ∀ o u, ([.string (ba x.1), .slice b1 x.2.length o1] : List Value)[o]? = some u → wr.cell? ⟨g, j * 2 + o, none⟩ = some u := fun o u hu => (World.cell?_of_block (w := w) (a := ⟨g, j * 2 + o, none⟩) (HE.out.block _ hg)).trans (hcell o u hu)
      have at2 : ∀ o u, ([.string (ba x.1), .slice b2 x.2.length o2] : List Value)[o]? = some u → wr.cell? ⟨g2, j * 2 + o, none⟩ = some u := fun o u hu => (World.cell?_of_block (w := w) (a := ⟨g2, j * 2 + o, none⟩) (HE.out.block _ hg2)).trans (hcell2 o u hu)
      have hgr : g < wr.heap.size := by have := HE.out.size; omega
      have hgr2 : g2 < wr.heap.size := by have := HE.out.size; omega
      have hWr : W.heap.size + 2 ≤ wr.heap.size := by have := HB.out.size; simp at this; omega
      have hlti : (j : Int) < (zs.length : Int) := by omega
      have hS : wr.cell? ⟨W.heap.size, 1, none⟩ = some (.slice (some ⟨g, 0, none⟩) zs.length c1) ∧ wr.cell? ⟨W.heap.size + 1, 1, none⟩ = some (.slice (some ⟨g2, 0, none⟩) zs.length c2) ∧ wr.cell? ⟨g, j * 2, none⟩ = some (.string (ba x.1)) ∧ wr.cell? ⟨g2, j * 2, none⟩ = some (.string (ba x.1)) ∧ wr.cell? ⟨g, j * 2 + 1, none⟩ = some (.slice b1 x.2.length o1) ∧ wr.cell? ⟨g2, j * 2 + 1, none⟩ = some (.slice b2 x.2.length o2) := ⟨d1, e1, at1 0 _ rfl, at2 0 _ rfl, at1 1 _ rfl, at2 1 _ rfl⟩
      have HS := Lib.hid hS
      have hf1 : (x.2.length : Int) ≤ 9223372036854775807 := by
        have : maxLen = 9223372036854775807 := by decide
        omega
      have HF := Lib.hid hf
      have HF' := Lib.hid hf'
      have keep : ∀ V, Below wr.heap.size wr V → V.cell? ⟨W.heap.size, 1, none⟩ = some (.slice (some ⟨g, 0, none⟩) zs.length c1) ∧ V.cell? ⟨W.heap.size + 1, 1, none⟩ = some (.slice (some ⟨g2, 0, none⟩) zs.length c2) ∧ V.cell? ⟨g, j * 2, none⟩ = some (.string (ba x.1)) ∧ V.cell? ⟨g2, j * 2, none⟩ = some (.string (ba x.1)) ∧ V.cell? ⟨g, j * 2 + 1, none⟩ = some (.slice b1 x.2.length o1) ∧ V.cell? ⟨g2, j * 2 + 1, none⟩ = some (.slice b2 x.2.length o2) := fun V hV => by
        have kc : ∀ b o u, b < wr.heap.size → wr.cell? ⟨b, o, none⟩ = some u → V.cell? ⟨b, o, none⟩ = some u := fun b o u hb hu => (World.cell?_of_block (w := wr) (a := ⟨b, o, none⟩) (hV.block _ hb)).trans hu
        obtain ⟨s1, s2, s3, s4, s5, s6⟩ := HS.out
        exact ⟨kc _ _ _ (by omega) s1, kc _ _ _ (by omega) s2, kc _ _ _ hgr s3, kc _ _ _ hgr2 s4, kc _ _ _ hgr s5, kc _ _ _ hgr2 s6⟩
      obtain ⟨s1, s2, s3, s4, s5, s6⟩ := hS
      clear at1 at2 hcell hcell2 hx hcx hcy hf hf' hfo hfo' d1 e1
      go_wp2_with fail
      go_quiet (fail)
      go_wp2
      clear s1 s2 s3 s4 s5 s6
      obtain ⟨w1, rfl⟩ : ∃ w1, w1 = wr := ⟨wr, rfl⟩
      go_loopw [6, 7] (fun i _ wr => ∃ q : Nat, q ≤ x.2.length ∧ i = .int .i64 q ∧ Below w1.heap.size w1 wr) (fun i _ _ => x.2.length - (intOf i).toNat)
      case atStart => exact ⟨0, Nat.zero_le _, rfl, bdrewN (Below.refl _ _) _⟩
      case round =>
        obtain ⟨q, hq, rfl, hC⟩ := hrel
        obtain ⟨t1, t2, -, -, t5, t6⟩ := keep _ hC
        have HC := Lib.hid hC
        clear hC
        by_cases hlt2 : q < x.2.length
        · obtain ⟨t, ht⟩ : ∃ t, x.2[q]? = some t := ⟨_, List.getElem?_eq_getElem hlt2⟩
          have htm : (x.2.map tyL)[q]? = some (tyL t) := by simp [ht]
          obtain ⟨r, cap3, hv, -, -, hr, hcell⟩ := HF.out.at_ htm
          obtain ⟨r2, cap4, hv2, -, -, hr2, hcell2⟩ := HF'.out.at_ htm
          injection hv with hv hx0 hvc
          injection hv2 with hv2 hx1 hvc2
          clear hx0 hx1
          subst hv hvc hv2 hvc2
          have hE2 := HE.out.trans (HC.out.mono HE.out.size)
          have hR1 : wr.rangeAt r (q * 6) (tyL t) := fun o u hu => (World.cell?_of_block (w := w) (a := ⟨r, q * 6 + o, none⟩) (hE2.block _ hr)).trans (hcell o u hu)
          have hR2 : wr.rangeAt r2 (q * 6) (tyL t) := fun o u hu => (World.cell?_of_block (w := w) (a := ⟨r2, q * 6 + o, none⟩) (hE2.block _ hr2)).trans (hcell2 o u hu)
          have hlr : r < w1.heap.size := by have := HE.out.size; omega
          have hlr2 : r2 < w1.heap.size := by have := HE.out.size; omega
          have HS2 : Hid (wr.cell? ⟨W.heap.size, 1, none⟩ = some (.slice (some ⟨g, 0, none⟩) zs.length c1) ∧ wr.cell? ⟨W.heap.size + 1, 1, none⟩ = some (.slice (some ⟨g2, 0, none⟩) zs.length c2) ∧ wr.cell? ⟨g, j * 2 + 1, none⟩ = some (.slice (some ⟨r, 0, none⟩) x.2.length o1) ∧ wr.cell? ⟨g2, j * 2 + 1, none⟩ = some (.slice (some ⟨r2, 0, none⟩) x.2.length o2) ∧ wr.rangeAt r (q * 6) (tyL t) ∧ wr.rangeAt r2 (q * 6) (tyL t)) := Lib.hid ⟨t1, t2, t5, t6, hR1, hR2⟩
          have hlti2 : (q : Int) < (x.2.length : Int) := by omega
          have hsz := HC.out.size
          have keep2 : ∀ V, Below wr.heap.size wr V → V.cell? ⟨W.heap.size, 1, none⟩ = some (.slice (some ⟨g, 0, none⟩) zs.length c1) ∧ V.cell? ⟨W.heap.size + 1, 1, none⟩ = some (.slice (some ⟨g2, 0, none⟩) zs.length c2) ∧ V.cell? ⟨g, j * 2 + 1, none⟩ = some (.slice (some ⟨r, 0, none⟩) x.2.length o1) ∧ V.cell? ⟨g2, j * 2 + 1, none⟩ = some (.slice (some ⟨r2, 0, none⟩) x.2.length o2) ∧ V.rangeAt r (q * 6) (tyL t) ∧ V.rangeAt r2 (q * 6) (tyL t) := fun V hV => by
            have kc : ∀ b o u, b < w1.heap.size → wr.cell? ⟨b, o, none⟩ = some u → V.cell? ⟨b, o, none⟩ = some u := fun b o u hb hu => (World.cell?_of_block (w := wr) (a := ⟨b, o, none⟩) (hV.block _ (show b < wr.heap.size by omega))).trans hu
            obtain ⟨s1, s2, s3, s4, s5, s6⟩ := HS2.out
            exact ⟨kc _ _ _ (by omega) s1, kc _ _ _ (by omega) s2, kc _ _ _ hgr s3, kc _ _ _ hgr2 s4, fun o u hu => kc _ _ _ hlr (s5 o u hu), fun o u hu => kc _ _ _ hlr2 (s6 o u hu)⟩
          have hb0 := Below.refl wr.heap.size wr
          clear hR1 hR2 hcell hcell2 ht htm hE2
          focus go_wp2_with fail
          refine wp_region_held_drew (S := fun w' => w'.cell? ⟨W.heap.size, 1, none⟩ = some (.slice (some ⟨g, 0, none⟩) zs.length c1) ∧ w'.cell? ⟨W.heap.size + 1, 1, none⟩ = some (.slice (some ⟨g2, 0, none⟩) zs.length c2) ∧ w'.cell? ⟨g, j * 2 + 1, none⟩ = some (.slice (some ⟨r, 0, none⟩) x.2.length o1) ∧ w'.cell? ⟨g2, j * 2 + 1, none⟩ = some (.slice (some ⟨r2, 0, none⟩) x.2.length o2) ∧ w'.rangeAt r (q * 6) (tyL t) ∧ w'.rangeAt r2 (q * 6) (tyL t)) (by kernel_rfl) HS2.out (fun hHeld => ?_)
          refine wpAnyH_take (i := 0) (oi := ⟨some 70, _, _, _, _, _⟩) (v := ?_) rfl (by kernel_rfl) (by kernel_rfl) (by kernel_rfl) (fun _ _ _ h => h) (Or.inl ⟨by kernel_rfl, ?_⟩) (by assumption) ?_
          rotate_left
          · (intro w' hSw; (try dsimp only at hSw); go_split_ands; go_simp; first | done | with_reducible rfl)
          try simp only [Act.put, List.setIfInBounds_toArray, List.set_cons_zero, List.set_cons_succ]
          refine wpAnyH_take (i := 1) (oi := ⟨some 71, _, _, _, _, _⟩) (v := ?_) rfl (by kernel_rfl) (by kernel_rfl) (by kernel_rfl) (fun _ _ _ h => h) (Or.inl ⟨by kernel_rfl, ?_⟩) (by assumption) ?_
          rotate_left
          · (intro w' hSw; (try dsimp only at hSw); go_split_ands; go_simp; first | done | with_reducible rfl)
          try simp only [Act.put, List.setIfInBounds_toArray, List.set_cons_zero, List.set_cons_succ]
          refine wpAnyH_take (i := 2) (oi := ⟨some 72, _, _, _, _, _⟩) (v := ?_) rfl (by kernel_rfl) (by kernel_rfl) (by kernel_rfl) (fun _ _ _ h => h) (Or.inl ⟨by kernel_rfl, ?_⟩) (by assumption) ?_
          rotate_left
          · (intro w' hSw; (try dsimp only at hSw); go_split_ands; go_simp; first | done | with_reducible rfl)
          try simp only [Act.put, List.setIfInBounds_toArray, List.set_cons_zero, List.set_cons_succ]
          refine wpAnyH_take (i := 3) (oi := ⟨some 73, _, _, _, _, _⟩) (v := ?_) rfl (by kernel_rfl) (by kernel_rfl) (by kernel_rfl) (fun _ _ _ h => h) (Or.inl ⟨by kernel_rfl, ?_⟩) (by assumption) ?_
          rotate_left
          · (intro w' hSw; (try dsimp only at hSw); go_split_ands; go_simp; first | done | with_reducible rfl)
          try simp only [Act.put, List.setIfInBounds_toArray, List.set_cons_zero, List.set_cons_succ]
          refine wpAnyH_take (i := 4) (oi := ⟨some 74, _, _, _, _, _⟩) (v := ?_) rfl (by kernel_rfl) (by kernel_rfl) (by kernel_rfl) (fun _ _ _ h => h) (Or.inl ⟨by kernel_rfl, ?_⟩) (by assumption) ?_
          rotate_left
          · (intro w' hSw; (try dsimp only at hSw); go_split_ands; go_simp; first | done | with_reducible rfl)
          try simp only [Act.put, List.setIfInBounds_toArray, List.set_cons_zero, List.set_cons_succ]
          refine wpAnyH_take (i := 5) (oi := ⟨some 75, _, _, _, _, _⟩) (v := ?_) rfl (by kernel_rfl) (by kernel_rfl) (by kernel_rfl) (fun _ _ _ h => h) (Or.inl ⟨by kernel_rfl, ?_⟩) (by assumption) ?_
          rotate_left
          · (intro w' hSw; (try dsimp only at hSw); go_split_ands; go_simp; first | done | with_reducible rfl)
          try simp only [Act.put, List.setIfInBounds_toArray, List.set_cons_zero, List.set_cons_succ]
          refine wpAnyH_take (i := 6) (oi := ⟨some 76, _, _, _, _, _⟩) (v := ?_) rfl (by kernel_rfl) (by kernel_rfl) (by kernel_rfl) (fun _ _ _ h => h) (Or.inl ⟨by kernel_rfl, ?_⟩) (by assumption) ?_
          rotate_left
          · (intro w' hSw; (try dsimp only at hSw); go_split_ands; go_simp; first | done | with_reducible rfl)
          try simp only [Act.put, List.setIfInBounds_toArray, List.set_cons_zero, List.set_cons_succ]
          refine wpAnyH_take (i := 7) (oi := ⟨some 77, _, _, _, _, _⟩) (v := ?_) rfl (by kernel_rfl) (by kernel_rfl) (by kernel_rfl) (fun _ _ _ h => h) (Or.inl ⟨by kernel_rfl, ?_⟩) (by assumption) ?_
          rotate_left
          · (intro w' hSw; (try dsimp only at hSw); go_split_ands; go_simp; first | done | with_reducible rfl)
          try simp only [Act.put, List.setIfInBounds_toArray, List.set_cons_zero, List.set_cons_succ]
          refine wpAnyH_take (i := 8) (oi := ⟨some 78, _, _, _, _, _⟩) (v := .agg (tyL t).toArray) rfl (by kernel_rfl) (by kernel_rfl) (by kernel_rfl) (fun _ _ _ h => h) (yieldsIf_load_mid (by rfl) 37 (.tmp 77) rfl r (q * 6) rfl (tyL t) _ (fun w' hS => hS.2.2.2.2.1) Tryz.underlying37 rfl (by rw [szTy]; rfl)) (by assumption) ?_
          try simp only [Act.put, List.setIfInBounds_toArray, List.set_cons_zero, List.set_cons_succ]
          refine wpAnyH_take (i := 9) (oi := ⟨some 79, _, _, _, _, _⟩) (v := ?_) rfl (by kernel_rfl) (by kernel_rfl) (by kernel_rfl) (fun _ _ _ h => h) (Or.inl ⟨by kernel_rfl, ?_⟩) (by assumption) ?_
          rotate_left
          · (intro w' hSw; (try dsimp only at hSw); go_split_ands; go_simp; first | done | with_reducible rfl)
          try simp only [Act.put, List.setIfInBounds_toArray, List.set_cons_zero, List.set_cons_succ]
          refine wpAnyH_take (i := 10) (oi := ⟨some 80, _, _, _, _, _⟩) (v := ?_) rfl (by kernel_rfl) (by kernel_rfl) (by kernel_rfl) (fun _ _ _ h => h) (Or.inl ⟨by kernel_rfl, ?_⟩) (by assumption) ?_
          rotate_left
          · (intro w' hSw; (try dsimp only at hSw); go_split_ands; go_simp; first | done | with_reducible rfl)
          try simp only [Act.put, List.setIfInBounds_toArray, List.set_cons_zero, List.set_cons_succ]
          refine wpAnyH_take (i := 11) (oi := ⟨some 81, _, _, _, _, _⟩) (v := ?_) rfl (by kernel_rfl) (by kernel_rfl) (by kernel_rfl) (fun _ _ _ h => h) (Or.inl ⟨by kernel_rfl, ?_⟩) (by assumption) ?_
          rotate_left
          · (intro w' hSw; (try dsimp only at hSw); go_split_ands; go_simp; first | done | with_reducible rfl)
          try simp only [Act.put, List.setIfInBounds_toArray, List.set_cons_zero, List.set_cons_succ]
          refine wpAnyH_take (i := 12) (oi := ⟨some 82, _, _, _, _, _⟩) (v := ?_) rfl (by kernel_rfl) (by kernel_rfl) (by kernel_rfl) (fun _ _ _ h => h) (Or.inl ⟨by kernel_rfl, ?_⟩) (by assumption) ?_
          rotate_left
          · (intro w' hSw; (try dsimp only at hSw); go_split_ands; go_simp; first | done | with_reducible rfl)
          try simp only [Act.put, List.setIfInBounds_toArray, List.set_cons_zero, List.set_cons_succ]
          refine wpAnyH_take (i := 13) (oi := ⟨some 83, _, _, _, _, _⟩) (v := ?_) rfl (by kernel_rfl) (by kernel_rfl) (by kernel_rfl) (fun _ _ _ h => h) (Or.inl ⟨by kernel_rfl, ?_⟩) (by assumption) ?_
          rotate_left
          · (intro w' hSw; (try dsimp only at hSw); go_split_ands; go_simp; first | done | with_reducible rfl)
          try simp only [Act.put, List.setIfInBounds_toArray, List.set_cons_zero, List.set_cons_succ]
          refine wpAnyH_take (i := 14) (oi := ⟨some 84, _, _, _, _, _⟩) (v := ?_) rfl (by kernel_rfl) (by kernel_rfl) (by kernel_rfl) (fun _ _ _ h => h) (Or.inl ⟨by kernel_rfl, ?_⟩) (by assumption) ?_
          rotate_left
          · (intro w' hSw; (try dsimp only at hSw); go_split_ands; go_simp; first | done | with_reducible rfl)
          try simp only [Act.put, List.setIfInBounds_toArray, List.set_cons_zero, List.set_cons_succ]
          refine wpAnyH_take (i := 15) (oi := ⟨some 85, _, _, _, _, _⟩) (v := ?_) rfl (by kernel_rfl) (by kernel_rfl) (by kernel_rfl) (fun _ _ _ h => h) (Or.inl ⟨by kernel_rfl, ?_⟩) (by assumption) ?_
          rotate_left
          · (intro w' hSw; (try dsimp only at hSw); go_split_ands; go_simp; first | done | with_reducible rfl)
          try simp only [Act.put, List.setIfInBounds_toArray, List.set_cons_zero, List.set_cons_succ]
          refine wpAnyH_take (i := 16) (oi := ⟨some 86, _, _, _, _, _⟩) (v := ?_) rfl (by kernel_rfl) (by kernel_rfl) (by kernel_rfl) (fun _ _ _ h => h) (Or.inl ⟨by kernel_rfl, ?_⟩) (by assumption) ?_
          rotate_left
          · (intro w' hSw; (try dsimp only at hSw); go_split_ands; go_simp; first | done | with_reducible rfl)
          try simp only [Act.put, List.setIfInBounds_toArray, List.set_cons_zero, List.set_cons_succ]
          refine wpAnyH_take (i := 17) (oi := ⟨some 87, _, _, _, _, _⟩) (v := .agg (tyL t).toArray) rfl (by kernel_rfl) (by kernel_rfl) (by kernel_rfl) (fun _ _ _ h => h) (yieldsIf_load_mid (by rfl) 37 (.tmp 86) rfl r2 (q * 6) rfl (tyL t) _ (fun w' hS => hS.2.2.2.2.2) Tryz.underlying37 rfl (by rw [szTy]; rfl)) (by assumption) ?_
          try simp only [Act.put, List.setIfInBounds_toArray, List.set_cons_zero, List.set_cons_succ]
          refine wpAnyH_ready (rs := [18]) (by kernel_rfl) (by simp) ?_
          refine AllReadyH.cons (o := ⟨some 88, _, _, _, _, _⟩) rfl (fun K hK => ?_) AllReadyH.nil
          (go_simp; go_at_call 41; refine (sameType_any t _).mono ?_; rintro e v1 ⟨rfl, b1⟩)
          have hb1 : Below wr.heap.size wr v1 := hb0.drew.trans (b1.mono hb0.drew.size)
          refine hK.out _ _ (keep2 _ hb1) (fun hHeld => ?_)
          clear hK K b1
          try simp only [Act.put, List.setIfInBounds_toArray, List.set_cons_zero, List.set_cons_succ]
          refine wpAnyH_take (i := 19) (oi := ⟨some 7, _, _, _, _, _⟩) (v := ?_) rfl (by kernel_rfl) (by kernel_rfl) (by kernel_rfl) (fun _ _ _ h => h) (Or.inl ⟨by kernel_rfl, ?_⟩) (by assumption) ?_
          rotate_left
          · (intro w' hSw; (try dsimp only at hSw); go_split_ands; go_simp; first | done | with_reducible rfl)
          try simp only [Act.put, List.setIfInBounds_toArray, List.set_cons_zero, List.set_cons_succ]
          refine wpAnyH_done (by kernel_rfl) ?_ _
          go_wp2
          go_roundw
          case rel => exact ⟨q + 1, by omega, by go_num, HC.out.trans (hb1.mono HC.out.size)⟩
          case measure => simp [intOf]; omega
        · obtain rfl : q = x.2.length := by omega
          go_wp2
          go_roundw
          case rel => exact ⟨j + 1, by omega, by go_num, HB.out.trans (HC.out.mono HB.out.size)⟩
          case measure => simp [intOf]; omega
    · obtain rfl : j = zs.length := by omega
      go_wp2
      go_ret
      exact ⟨rfl, HB2.out.trans (HB.out.mono HB2.out.size)⟩
end Go.Proofs.YtnkfkaahjplnmaaGreatDoor

/- The reference's Same on programs that are equal but for where their terms stand. -/
namespace Go.Proofs.YtnkfkaahjplnmaaGreatDoor
open Go.RowKit Pz

theorem szEf : (Tryz.prog.info? 55).map (·.size) = some 2 := by kernel_rfl
theorem szDa : (Tryz.prog.info? 81).map (·.size) = some 2 := by kernel_rfl
theorem pgC_cells {w : World} {b : Nat} {ev dv : Value} {bd l : List Value} (hl : l = pgC ev dv bd) (h : Lies w b 41 l.toArray) :
    w.cell? ⟨b, 0, none⟩ = some ev ∧ w.cell? ⟨b, 1, none⟩ = some dv ∧ w.rangeAt b 2 bd := by
  subst hl
  refine ⟨by rw [h.cell]; simp [pgC], by rw [h.cell]; simp [pgC], fun j u hu => ?_⟩
  rw [h.cell]
  simp only [pgC, List.getElem?_toArray]
  rw [List.getElem?_append_right (by simp)]
  simpa using hu

set_option maxRecDepth 100000 in
set_option maxHeartbeats 8000000 in
theorem same_any {w : World} {P Q : Nat → Prop} {p p' : Prog} {l m : List Value} (h : PgIt w P p l) (h' : PgIt w Q p' m) (he : p.effs = p'.effs) (hd : p.dats = p'.dats) (hb : noAt p.body = noAt p'.body) (W : World) (hW : Below w.heap.size w W) :
    Calls Tryz.prog 9 #[.agg l.toArray, .agg m.toArray, .bool false] W fun e w' => e = .returned (.bool true) ∧ Below W.heap.size W w' := by
  obtain ⟨ev, dv, bd, xs, ys, hl, hxl, hxo, hxi, hyl, hyo, hyi, hT⟩ := h
  obtain ⟨ev', dv', bd', xs', ys', hm, hxl', hxo', hxi', hyl', hyo', hyi', hT'⟩ := h'
  rw [← he] at hxl' hxo' hxi'
  rw [← hd] at hyl' hyo' hyi'
  obtain ⟨zs, hzs⟩ : ∃ zs, zs = p.effs := ⟨_, rfl⟩
  obtain ⟨us, hus⟩ : ∃ us, us = p.dats := ⟨_, rfl⟩
  rw [← hzs] at hxl hxo hxi hxl' hxo' hxi'
  rw [← hus] at hyl hyo hyi hyl' hyo' hyi'
  clear hzs hus he hd
  have hk := rw_of efOK hxl hxo hxi
  have hk' := rw_of efOK hxl' hxo' hxi'
  have hj := rw_of daOK hyl hyo hyi
  have hj' := rw_of daOK hyl' hyo' hyi'
  obtain ⟨a1, c1, hkv, hkm⟩ := hk.shape
  obtain ⟨a2, c2, hkv', -⟩ := hk'.shape
  obtain ⟨a3, c3, hjv, hjm⟩ := hj.shape
  obtain ⟨a4, c4, hjv', -⟩ := hj'.shape
  rw [hxl] at hkv hkm
  rw [hxl'] at hkv'
  rw [hyl] at hjv hjm
  rw [hyl'] at hjv'
  subst hkv hkv' hjv hjv'
  have hlen := hT.len
  have hlen' := hT'.len
  have hcall := fun W => sameTerm_any hT p'.body bd' Q hb hT' W
  have hb1 := below_new W (.cells l.toArray 41)
  have hb2 := hb1.alloc (by simp) (.cells m.toArray 41)
  have n0 := (Lies.new W 41 l.toArray).alloc (.cells m.toArray 41)
  have n1 := Lies.new' (W.alloc (.cells l.toArray 41)) 41 m.toArray (N := W.heap.size + 1) (by simp)
  have hk1 : (zs.length : Int) ≤ 9223372036854775807 := by
    have : maxLen = 9223372036854775807 := by decide
    omega
  have hj1 : (us.length : Int) ≤ 9223372036854775807 := by
    have : maxLen = 9223372036854775807 := by decide
    omega
  have hW2 := hW.trans (hb2.mono hW.size)
  go_enter Tryz.func9, Tryz.ntmps9
  obtain ⟨-, -, hr⟩ := pgC_cells hl n0
  obtain ⟨-, -, hr'⟩ := pgC_cells hm n1
  have HL := Lib.hid hl
  have HM := Lib.hid hm
  have HN0 := Lib.hid n0
  have HN1 := Lib.hid n1
  have HB2 := Lib.hid hb2
  have HXL := Lib.hid hxl
  have HXL' := Lib.hid hxl'
  have HYL := Lib.hid hyl
  have HYL' := Lib.hid hyl'
  have HLEN := Lib.hid hlen
  have HLEN' := Lib.hid hlen'
  clear n0 n1 hb1 hb2 hxl hyl hxl' hyl' hl hm hlen hlen'
  go_wp2_with (first | ((with_reducible show wpList _ _ _ (⟨_, Op.load _ (.tmp 12), _, _, _, _⟩ :: _) _ _); refine wpList_load_mid rfl 39 (.tmp 12) rfl W.heap.size 2 rfl bd _ hr Tryz.underlying39 rfl (by rw [sz39, HLEN.out]) ?_) | ((with_reducible show wpList _ _ _ (⟨_, Op.load _ (.tmp 14), _, _, _, _⟩ :: _) _ _); refine wpList_load_mid rfl 39 (.tmp 14) rfl (W.heap.size + 1) 2 rfl bd' _ hr' Tryz.underlying39 rfl (by rw [sz39, HLEN'.out]) ?_))
  refine (hcall _ hW2).mono ?_
  rintro e w2 ⟨rfl, hB0⟩
  clear hr hr'
  obtain ⟨d0, d1, -⟩ := pgC_cells HL.out (HN0.out.later hB0)
  obtain ⟨e0, e1, -⟩ := pgC_cells HM.out (HN1.out.later hB0)
  have HW2 := Lib.hid hW2
  have HB0 := Lib.hid hB0
  clear hB0 hW2
  go_wp2
  go_loopw [8, 9] (fun i _ wr => ∃ j : Nat, j ≤ zs.length ∧ i = .int .i64 j ∧ Below w2.heap.size w2 wr) (fun i _ _ => zs.length - (intOf i).toNat)
  case atStart => exact ⟨0, Nat.zero_le _, rfl, Below.refl _ _⟩
  case round =>
    obtain ⟨j, hj0, rfl, hC⟩ := hrel
    have hB := HB0.out.trans (hC.mono HB0.out.size)
    obtain ⟨d0, d1, -⟩ := pgC_cells HL.out (HN0.out.later hB)
    obtain ⟨e0, e1, -⟩ := pgC_cells HM.out (HN1.out.later hB)
    have hE := HW2.out.trans (hB.mono HW2.out.size)
    have HC := Lib.hid hC
    have HB := Lib.hid hB
    have HE := Lib.hid hE
    clear hB hE hC
    by_cases hlt : j < zs.length
    · obtain ⟨x, hx⟩ : ∃ x, zs[j]? = some x := ⟨_, List.getElem?_eq_getElem hlt⟩
      obtain ⟨cx, hcx⟩ : ∃ x, xs[j]? = some x := ⟨_, List.getElem?_eq_getElem (by rw [HXL.out]; exact hlt)⟩
      obtain ⟨cy, hcy⟩ : ∃ y, xs'[j]? = some y := ⟨_, List.getElem?_eq_getElem (by rw [HXL'.out]; exact hlt)⟩
      have ix := hxi j x cx hx hcx
      have iy := hxi' j x cy hx hcy
      have hlx := efOK.len ix
      have hly := efOK.len iy
      obtain ⟨g, cap, hv, -, -, hg, hcell⟩ := hk.at_ hcx
      obtain ⟨g2, cap2, hv2, -, -, hg2, hcell2⟩ := hk'.at_ hcy
      injection hv with hv hx0 hvc
      injection hv2 with hv2 hx1 hvc2
      clear hx0 hx1
      subst hv hvc hv2 hvc2
      have hR1 : wr.rangeAt g (j * 2) cx := fun o u hu => (World.cell?_of_block (w := w) (a := ⟨g, j * 2 + o, none⟩) (HE.out.block _ hg)).trans (hcell o u hu)
      have hR2 : wr.rangeAt g2 (j * 2) cy := fun o u hu => (World.cell?_of_block (w := w) (a := ⟨g2, j * 2 + o, none⟩) (HE.out.block _ hg2)).trans (hcell2 o u hu)
      have hgr : g < wr.heap.size := by have := HE.out.size; omega
      have hgr2 : g2 < wr.heap.size := by have := HE.out.size; omega
      have hWr : W.heap.size + 2 ≤ wr.heap.size := by have := HB.out.size; simp at this; omega
      have hlti : (j : Int) < (zs.length : Int) := by omega
      have HS : Hid (wr.cell? ⟨W.heap.size, 0, none⟩ = some (.slice (some ⟨g, 0, none⟩) zs.length c1) ∧ wr.cell? ⟨W.heap.size + 1, 0, none⟩ = some (.slice (some ⟨g2, 0, none⟩) zs.length c2) ∧ wr.rangeAt g (j * 2) cx ∧ wr.rangeAt g2 (j * 2) cy) := Lib.hid ⟨d0, e0, hR1, hR2⟩
      have keep : ∀ V, Below wr.heap.size wr V → V.cell? ⟨W.heap.size, 0, none⟩ = some (.slice (some ⟨g, 0, none⟩) zs.length c1) ∧ V.cell? ⟨W.heap.size + 1, 0, none⟩ = some (.slice (some ⟨g2, 0, none⟩) zs.length c2) ∧ V.rangeAt g (j * 2) cx ∧ V.rangeAt g2 (j * 2) cy := fun V hV => by
        have kc : ∀ b o u, b < wr.heap.size → wr.cell? ⟨b, o, none⟩ = some u → V.cell? ⟨b, o, none⟩ = some u := fun b o u hb hu => (World.cell?_of_block (w := wr) (a := ⟨b, o, none⟩) (hV.block _ hb)).trans hu
        obtain ⟨s1, s2, s3, s4⟩ := HS.out
        exact ⟨kc _ _ _ (by omega) s1, kc _ _ _ (by omega) s2, fun o u hu => kc _ _ _ hgr (s3 o u hu), fun o u hu => kc _ _ _ hgr2 (s4 o u hu)⟩
      have hb0 := Below.refl wr.heap.size wr
      have hcall2 := fun W => sameEffect_any ix iy W
      clear hR1 hR2 hcell hcell2 hx hcx hcy
      focus go_wp2_with fail
      refine wp_region_held_drew (S := fun w' => w'.cell? ⟨W.heap.size, 0, none⟩ = some (.slice (some ⟨g, 0, none⟩) zs.length c1) ∧ w'.cell? ⟨W.heap.size + 1, 0, none⟩ = some (.slice (some ⟨g2, 0, none⟩) zs.length c2) ∧ w'.rangeAt g (j * 2) cx ∧ w'.rangeAt g2 (j * 2) cy) (by kernel_rfl) HS.out (fun hHeld => ?_)
      refine wpAnyH_take (i := 0) (oi := ⟨some 45, _, _, _, _, _⟩) (v := ?_) rfl (by kernel_rfl) (by kernel_rfl) (by kernel_rfl) (fun _ _ _ h => h) (Or.inl ⟨by kernel_rfl, ?_⟩) (by assumption) ?_
      rotate_left
      · (intro w' hSw; (try dsimp only at hSw); go_split_ands; go_simp; first | done | with_reducible rfl)
      try simp only [Act.put, List.setIfInBounds_toArray, List.set_cons_zero, List.set_cons_succ]
      refine wpAnyH_take (i := 1) (oi := ⟨some 46, _, _, _, _, _⟩) (v := ?_) rfl (by kernel_rfl) (by kernel_rfl) (by kernel_rfl) (fun _ _ _ h => h) (Or.inl ⟨by kernel_rfl, ?_⟩) (by assumption) ?_
      rotate_left
      · (intro w' hSw; (try dsimp only at hSw); go_split_ands; go_simp; first | done | with_reducible rfl)
      try simp only [Act.put, List.setIfInBounds_toArray, List.set_cons_zero, List.set_cons_succ]
      refine wpAnyH_take (i := 2) (oi := ⟨some 47, _, _, _, _, _⟩) (v := ?_) rfl (by kernel_rfl) (by kernel_rfl) (by kernel_rfl) (fun _ _ _ h => h) (Or.inl ⟨by kernel_rfl, ?_⟩) (by assumption) ?_
      rotate_left
      · (intro w' hSw; (try dsimp only at hSw); go_split_ands; go_simp; first | done | with_reducible rfl)
      try simp only [Act.put, List.setIfInBounds_toArray, List.set_cons_zero, List.set_cons_succ]
      refine wpAnyH_take (i := 3) (oi := ⟨some 48, _, _, _, _, _⟩) (v := ?_) rfl (by kernel_rfl) (by kernel_rfl) (by kernel_rfl) (fun _ _ _ h => h) (Or.inl ⟨by kernel_rfl, ?_⟩) (by assumption) ?_
      rotate_left
      · (intro w' hSw; (try dsimp only at hSw); go_split_ands; go_simp; first | done | with_reducible rfl)
      try simp only [Act.put, List.setIfInBounds_toArray, List.set_cons_zero, List.set_cons_succ]
      refine wpAnyH_take (i := 4) (oi := ⟨some 49, _, _, _, _, _⟩) (v := .agg cx.toArray) rfl (by kernel_rfl) (by kernel_rfl) (by kernel_rfl) (fun _ _ _ h => h) (yieldsIf_load_mid (by rfl) 55 (.tmp 48) rfl g (j * 2) rfl cx _ (fun w' hS => hS.2.2.1) Tryz.underlying55 rfl (by rw [szEf, hlx])) (by assumption) ?_
      try simp only [Act.put, List.setIfInBounds_toArray, List.set_cons_zero, List.set_cons_succ]
      refine wpAnyH_take (i := 5) (oi := ⟨some 50, _, _, _, _, _⟩) (v := ?_) rfl (by kernel_rfl) (by kernel_rfl) (by kernel_rfl) (fun _ _ _ h => h) (Or.inl ⟨by kernel_rfl, ?_⟩) (by assumption) ?_
      rotate_left
      · (intro w' hSw; (try dsimp only at hSw); go_split_ands; go_simp; first | done | with_reducible rfl)
      try simp only [Act.put, List.setIfInBounds_toArray, List.set_cons_zero, List.set_cons_succ]
      refine wpAnyH_take (i := 6) (oi := ⟨some 51, _, _, _, _, _⟩) (v := ?_) rfl (by kernel_rfl) (by kernel_rfl) (by kernel_rfl) (fun _ _ _ h => h) (Or.inl ⟨by kernel_rfl, ?_⟩) (by assumption) ?_
      rotate_left
      · (intro w' hSw; (try dsimp only at hSw); go_split_ands; go_simp; first | done | with_reducible rfl)
      try simp only [Act.put, List.setIfInBounds_toArray, List.set_cons_zero, List.set_cons_succ]
      refine wpAnyH_take (i := 7) (oi := ⟨some 52, _, _, _, _, _⟩) (v := ?_) rfl (by kernel_rfl) (by kernel_rfl) (by kernel_rfl) (fun _ _ _ h => h) (Or.inl ⟨by kernel_rfl, ?_⟩) (by assumption) ?_
      rotate_left
      · (intro w' hSw; (try dsimp only at hSw); go_split_ands; go_simp; first | done | with_reducible rfl)
      try simp only [Act.put, List.setIfInBounds_toArray, List.set_cons_zero, List.set_cons_succ]
      refine wpAnyH_take (i := 8) (oi := ⟨some 53, _, _, _, _, _⟩) (v := ?_) rfl (by kernel_rfl) (by kernel_rfl) (by kernel_rfl) (fun _ _ _ h => h) (Or.inl ⟨by kernel_rfl, ?_⟩) (by assumption) ?_
      rotate_left
      · (intro w' hSw; (try dsimp only at hSw); go_split_ands; go_simp; first | done | with_reducible rfl)
      try simp only [Act.put, List.setIfInBounds_toArray, List.set_cons_zero, List.set_cons_succ]
      refine wpAnyH_take (i := 9) (oi := ⟨some 54, _, _, _, _, _⟩) (v := .agg cy.toArray) rfl (by kernel_rfl) (by kernel_rfl) (by kernel_rfl) (fun _ _ _ h => h) (yieldsIf_load_mid (by rfl) 55 (.tmp 53) rfl g2 (j * 2) rfl cy _ (fun w' hS => hS.2.2.2) Tryz.underlying55 rfl (by rw [szEf, hly])) (by assumption) ?_
      try simp only [Act.put, List.setIfInBounds_toArray, List.set_cons_zero, List.set_cons_succ]
      refine wpAnyH_ready (rs := [10]) (by kernel_rfl) (by simp) ?_
      refine AllReadyH.cons (o := ⟨some 55, _, _, _, _, _⟩) rfl (fun K hK => ?_) AllReadyH.nil
      (go_simp; go_at_call 20; refine (hcall2 _ HE.out.drew).mono ?_; rintro e v1 ⟨rfl, b1⟩)
      have hb1 : Below wr.heap.size wr v1 := hb0.drew.trans (b1.mono hb0.drew.size)
      refine hK.out _ _ (keep _ hb1) (fun hHeld => ?_)
      clear hK K b1
      try simp only [Act.put, List.setIfInBounds_toArray, List.set_cons_zero, List.set_cons_succ]
      refine wpAnyH_take (i := 11) (oi := ⟨some 9, _, _, _, _, _⟩) (v := ?_) rfl (by kernel_rfl) (by kernel_rfl) (by kernel_rfl) (fun _ _ _ h => h) (Or.inl ⟨by kernel_rfl, ?_⟩) (by assumption) ?_
      rotate_left
      · (intro w' hSw; (try dsimp only at hSw); go_split_ands; go_simp; first | done | with_reducible rfl)
      try simp only [Act.put, List.setIfInBounds_toArray, List.set_cons_zero, List.set_cons_succ]
      refine wpAnyH_done (by kernel_rfl) ?_ _
      go_wp2
      go_roundw
      case rel => exact ⟨j + 1, by omega, by go_num, HC.out.trans (hb1.mono HC.out.size)⟩
      case measure => simp [intOf]; omega
    · obtain rfl : j = zs.length := by omega
      go_wp2
      obtain ⟨w3, rfl⟩ : ∃ w3, w3 = wr := ⟨wr, rfl⟩
      clear d0 d1 e0 e1
      have HB1 := HB
      clear HB HE
      go_loopw [10, 11] (fun i _ wr => ∃ j : Nat, j ≤ us.length ∧ i = .int .i64 j ∧ Below w3.heap.size w3 wr) (fun i _ _ => us.length - (intOf i).toNat)
      case atStart => exact ⟨0, Nat.zero_le _, rfl, Below.refl _ _⟩
      case round =>
        obtain ⟨j, hj0, rfl, hC⟩ := hrel
        have hB := HB1.out.trans (hC.mono HB1.out.size)
        obtain ⟨d0, d1, -⟩ := pgC_cells HL.out (HN0.out.later hB)
        obtain ⟨e0, e1, -⟩ := pgC_cells HM.out (HN1.out.later hB)
        have hE := HW2.out.trans (hB.mono HW2.out.size)
        have HC := Lib.hid hC
        have HB := Lib.hid hB
        have HE := Lib.hid hE
        clear hB hE hC
        by_cases hlt : j < us.length
        · obtain ⟨x, hx⟩ : ∃ x, us[j]? = some x := ⟨_, List.getElem?_eq_getElem hlt⟩
          obtain ⟨cx, hcx⟩ : ∃ x, ys[j]? = some x := ⟨_, List.getElem?_eq_getElem (by rw [HYL.out]; exact hlt)⟩
          obtain ⟨cy, hcy⟩ : ∃ y, ys'[j]? = some y := ⟨_, List.getElem?_eq_getElem (by rw [HYL'.out]; exact hlt)⟩
          have ix := hyi j x cx hx hcx
          have iy := hyi' j x cy hx hcy
          have hlx := daOK.len ix
          have hly := daOK.len iy
          obtain ⟨g, cap, hv, -, -, hg, hcell⟩ := hj.at_ hcx
          obtain ⟨g2, cap2, hv2, -, -, hg2, hcell2⟩ := hj'.at_ hcy
          injection hv with hv hx0 hvc
          injection hv2 with hv2 hx1 hvc2
          clear hx0 hx1
          subst hv hvc hv2 hvc2
          have hR1 : wr.rangeAt g (j * 2) cx := fun o u hu => (World.cell?_of_block (w := w) (a := ⟨g, j * 2 + o, none⟩) (HE.out.block _ hg)).trans (hcell o u hu)
          have hR2 : wr.rangeAt g2 (j * 2) cy := fun o u hu => (World.cell?_of_block (w := w) (a := ⟨g2, j * 2 + o, none⟩) (HE.out.block _ hg2)).trans (hcell2 o u hu)
          have hgr : g < wr.heap.size := by have := HE.out.size; omega
          have hgr2 : g2 < wr.heap.size := by have := HE.out.size; omega
          have hWr : W.heap.size + 2 ≤ wr.heap.size := by have := HB.out.size; simp at this; omega
          have hlti : (j : Int) < (us.length : Int) := by omega
          have HS : Hid (wr.cell? ⟨W.heap.size, 1, none⟩ = some (.slice (some ⟨g, 0, none⟩) us.length c3) ∧ wr.cell? ⟨W.heap.size + 1, 1, none⟩ = some (.slice (some ⟨g2, 0, none⟩) us.length c4) ∧ wr.rangeAt g (j * 2) cx ∧ wr.rangeAt g2 (j * 2) cy) := Lib.hid ⟨d1, e1, hR1, hR2⟩
          have keep : ∀ V, Below wr.heap.size wr V → V.cell? ⟨W.heap.size, 1, none⟩ = some (.slice (some ⟨g, 0, none⟩) us.length c3) ∧ V.cell? ⟨W.heap.size + 1, 1, none⟩ = some (.slice (some ⟨g2, 0, none⟩) us.length c4) ∧ V.rangeAt g (j * 2) cx ∧ V.rangeAt g2 (j * 2) cy := fun V hV => by
            have kc : ∀ b o u, b < wr.heap.size → wr.cell? ⟨b, o, none⟩ = some u → V.cell? ⟨b, o, none⟩ = some u := fun b o u hb hu => (World.cell?_of_block (w := wr) (a := ⟨b, o, none⟩) (hV.block _ hb)).trans hu
            obtain ⟨s1, s2, s3, s4⟩ := HS.out
            exact ⟨kc _ _ _ (by omega) s1, kc _ _ _ (by omega) s2, fun o u hu => kc _ _ _ hgr (s3 o u hu), fun o u hu => kc _ _ _ hgr2 (s4 o u hu)⟩
          have hb0 := Below.refl wr.heap.size wr
          have hcall2 := fun W => sameData_any ix iy W
          clear hR1 hR2 hcell hcell2 hx hcx hcy
          focus go_wp2_with fail
          refine wp_region_held_drew (S := fun w' => w'.cell? ⟨W.heap.size, 1, none⟩ = some (.slice (some ⟨g, 0, none⟩) us.length c3) ∧ w'.cell? ⟨W.heap.size + 1, 1, none⟩ = some (.slice (some ⟨g2, 0, none⟩) us.length c4) ∧ w'.rangeAt g (j * 2) cx ∧ w'.rangeAt g2 (j * 2) cy) (by kernel_rfl) HS.out (fun hHeld => ?_)
          refine wpAnyH_take (i := 0) (oi := ⟨some 65, _, _, _, _, _⟩) (v := ?_) rfl (by kernel_rfl) (by kernel_rfl) (by kernel_rfl) (fun _ _ _ h => h) (Or.inl ⟨by kernel_rfl, ?_⟩) (by assumption) ?_
          rotate_left
          · (intro w' hSw; (try dsimp only at hSw); go_split_ands; go_simp; first | done | with_reducible rfl)
          try simp only [Act.put, List.setIfInBounds_toArray, List.set_cons_zero, List.set_cons_succ]
          refine wpAnyH_take (i := 1) (oi := ⟨some 66, _, _, _, _, _⟩) (v := ?_) rfl (by kernel_rfl) (by kernel_rfl) (by kernel_rfl) (fun _ _ _ h => h) (Or.inl ⟨by kernel_rfl, ?_⟩) (by assumption) ?_
          rotate_left
          · (intro w' hSw; (try dsimp only at hSw); go_split_ands; go_simp; first | done | with_reducible rfl)
          try simp only [Act.put, List.setIfInBounds_toArray, List.set_cons_zero, List.set_cons_succ]
          refine wpAnyH_take (i := 2) (oi := ⟨some 67, _, _, _, _, _⟩) (v := ?_) rfl (by kernel_rfl) (by kernel_rfl) (by kernel_rfl) (fun _ _ _ h => h) (Or.inl ⟨by kernel_rfl, ?_⟩) (by assumption) ?_
          rotate_left
          · (intro w' hSw; (try dsimp only at hSw); go_split_ands; go_simp; first | done | with_reducible rfl)
          try simp only [Act.put, List.setIfInBounds_toArray, List.set_cons_zero, List.set_cons_succ]
          refine wpAnyH_take (i := 3) (oi := ⟨some 68, _, _, _, _, _⟩) (v := ?_) rfl (by kernel_rfl) (by kernel_rfl) (by kernel_rfl) (fun _ _ _ h => h) (Or.inl ⟨by kernel_rfl, ?_⟩) (by assumption) ?_
          rotate_left
          · (intro w' hSw; (try dsimp only at hSw); go_split_ands; go_simp; first | done | with_reducible rfl)
          try simp only [Act.put, List.setIfInBounds_toArray, List.set_cons_zero, List.set_cons_succ]
          refine wpAnyH_take (i := 4) (oi := ⟨some 69, _, _, _, _, _⟩) (v := .agg cx.toArray) rfl (by kernel_rfl) (by kernel_rfl) (by kernel_rfl) (fun _ _ _ h => h) (yieldsIf_load_mid (by rfl) 81 (.tmp 68) rfl g (j * 2) rfl cx _ (fun w' hS => hS.2.2.1) Tryz.underlying81 rfl (by rw [szDa, hlx])) (by assumption) ?_
          try simp only [Act.put, List.setIfInBounds_toArray, List.set_cons_zero, List.set_cons_succ]
          refine wpAnyH_take (i := 5) (oi := ⟨some 70, _, _, _, _, _⟩) (v := ?_) rfl (by kernel_rfl) (by kernel_rfl) (by kernel_rfl) (fun _ _ _ h => h) (Or.inl ⟨by kernel_rfl, ?_⟩) (by assumption) ?_
          rotate_left
          · (intro w' hSw; (try dsimp only at hSw); go_split_ands; go_simp; first | done | with_reducible rfl)
          try simp only [Act.put, List.setIfInBounds_toArray, List.set_cons_zero, List.set_cons_succ]
          refine wpAnyH_take (i := 6) (oi := ⟨some 71, _, _, _, _, _⟩) (v := ?_) rfl (by kernel_rfl) (by kernel_rfl) (by kernel_rfl) (fun _ _ _ h => h) (Or.inl ⟨by kernel_rfl, ?_⟩) (by assumption) ?_
          rotate_left
          · (intro w' hSw; (try dsimp only at hSw); go_split_ands; go_simp; first | done | with_reducible rfl)
          try simp only [Act.put, List.setIfInBounds_toArray, List.set_cons_zero, List.set_cons_succ]
          refine wpAnyH_take (i := 7) (oi := ⟨some 72, _, _, _, _, _⟩) (v := ?_) rfl (by kernel_rfl) (by kernel_rfl) (by kernel_rfl) (fun _ _ _ h => h) (Or.inl ⟨by kernel_rfl, ?_⟩) (by assumption) ?_
          rotate_left
          · (intro w' hSw; (try dsimp only at hSw); go_split_ands; go_simp; first | done | with_reducible rfl)
          try simp only [Act.put, List.setIfInBounds_toArray, List.set_cons_zero, List.set_cons_succ]
          refine wpAnyH_take (i := 8) (oi := ⟨some 73, _, _, _, _, _⟩) (v := ?_) rfl (by kernel_rfl) (by kernel_rfl) (by kernel_rfl) (fun _ _ _ h => h) (Or.inl ⟨by kernel_rfl, ?_⟩) (by assumption) ?_
          rotate_left
          · (intro w' hSw; (try dsimp only at hSw); go_split_ands; go_simp; first | done | with_reducible rfl)
          try simp only [Act.put, List.setIfInBounds_toArray, List.set_cons_zero, List.set_cons_succ]
          refine wpAnyH_take (i := 9) (oi := ⟨some 74, _, _, _, _, _⟩) (v := .agg cy.toArray) rfl (by kernel_rfl) (by kernel_rfl) (by kernel_rfl) (fun _ _ _ h => h) (yieldsIf_load_mid (by rfl) 81 (.tmp 73) rfl g2 (j * 2) rfl cy _ (fun w' hS => hS.2.2.2) Tryz.underlying81 rfl (by rw [szDa, hly])) (by assumption) ?_
          try simp only [Act.put, List.setIfInBounds_toArray, List.set_cons_zero, List.set_cons_succ]
          refine wpAnyH_ready (rs := [10]) (by kernel_rfl) (by simp) ?_
          refine AllReadyH.cons (o := ⟨some 75, _, _, _, _, _⟩) rfl (fun K hK => ?_) AllReadyH.nil
          (go_simp; go_at_call 21; refine (hcall2 _ HE.out.drew).mono ?_; rintro e v1 ⟨rfl, b1⟩)
          have hb1 : Below wr.heap.size wr v1 := hb0.drew.trans (b1.mono hb0.drew.size)
          refine hK.out _ _ (keep _ hb1) (fun hHeld => ?_)
          clear hK K b1
          try simp only [Act.put, List.setIfInBounds_toArray, List.set_cons_zero, List.set_cons_succ]
          refine wpAnyH_take (i := 11) (oi := ⟨some 11, _, _, _, _, _⟩) (v := ?_) rfl (by kernel_rfl) (by kernel_rfl) (by kernel_rfl) (fun _ _ _ h => h) (Or.inl ⟨by kernel_rfl, ?_⟩) (by assumption) ?_
          rotate_left
          · (intro w' hSw; (try dsimp only at hSw); go_split_ands; go_simp; first | done | with_reducible rfl)
          try simp only [Act.put, List.setIfInBounds_toArray, List.set_cons_zero, List.set_cons_succ]
          refine wpAnyH_done (by kernel_rfl) ?_ _
          go_wp2
          go_roundw
          case rel => exact ⟨j + 1, by omega, by go_num, HC.out.trans (hb1.mono HC.out.size)⟩
          case measure => simp [intOf]; omega
        · obtain rfl : j = us.length := by omega
          go_wp2
          go_ret
          exact ⟨rfl, HB2.out.trans (HB.out.mono HB2.out.size)⟩
end Go.Proofs.YtnkfkaahjplnmaaGreatDoor

/- The law's bare: a term that stands within a range. -/
namespace Go.Proofs.YtnkfkaahjplnmaaGreatDoor
open Go.RowKit Pz

/-- A term and all in it stand from lo on and ahead of n, none ahead of what it is in. -/
inductive Ins (n : Nat) : Nat → Tm → Prop
  | mk (lo k pos : Nat) (nm pm : Str) (v : Nat) (kids : List Tm) (arms : List Arm) (h1 : lo ≤ pos) (h2 : pos < n) (h3 : ∀ (i : Nat) t, kids[i]? = some t → Ins n pos t) (h4 : ∀ (i : Nat) a, arms[i]? = some a → Ins n pos a.2.2) :
      Ins n lo (.mk k pos nm pm v kids arms)
theorem tmC_more {w : World} {b k pos : Nat} {nm pm : Str} {n : Nat} {kv av : Value} {l : List Value} (hl : l = tmC k pos nm pm n kv av) (h : Lies w b 39 l.toArray) :
    w.cell? ⟨b, 7, none⟩ = some (.int .i64 0) ∧ w.cell? ⟨b, 13, none⟩ = some (.slice none 0 0) ∧ w.cell? ⟨b, 14, none⟩ = some (.int .i64 0) := by
  subst hl
  refine ⟨?_, ?_, ?_⟩ <;> (rw [h.cell]; rfl)

set_option maxRecDepth 100000 in
set_option maxHeartbeats 4000000 in
theorem bare_any {w : World} {P : Nat → Prop} {t : Tm} {l : List Value} {z : Nat} (_hz : z ≤ 100000000) (h : HT w P t l) : ∀ lo, Ins z lo t → ∀ W, Below w.heap.size w W →
    Calls Tryz.prog 10 #[.agg l.toArray, .int .i64 (lo : Int), .int .i64 (z : Int)] W fun e w' => e = .returned (.bool true) ∧ Below W.heap.size W w' := by
  induction h with
  | mk k pos nm pm n kids arms kv av kc vv bc hk hkl hks hvl hbl ha hav has ih1 ih2 =>
  intro lo hi W hW
  cases hi with
  | mk _ _ _ _ _ _ _ _ h1 h2 h3 h4 =>
  obtain ⟨a1, c1, hkv, hkm⟩ := hk.shape
  obtain ⟨a3, c3, hav1, ham⟩ := ha.shape
  obtain ⟨l, hl⟩ : ∃ l, l = tmC k pos nm pm n kv av := ⟨_, rfl⟩
  rw [← hl]
  have hz1 : (List.zipWith (fun (a : Arm) (x : Value × List Value) => Value.string (ba a.1) :: x.1 :: x.2) arms (vv.zip bc)).length = arms.length := by simp [hvl, hbl]
  rw [hkl] at hkv hkm
  rw [hz1] at hav1 ham
  have hb1 := below_new W (.cells l.toArray 39)
  have n0 := Lies.new W 39 l.toArray
  have hk1 : (kids.length : Int) ≤ 9223372036854775807 := by
    have : maxLen = 9223372036854775807 := by decide
    omega
  have ha1 : (arms.length : Int) ≤ 9223372036854775807 := by
    have : maxLen = 9223372036854775807 := by decide
    omega
  have hp1 : ¬ (pos : Int) < (lo : Int) := by omega
  have hp2 : ¬ (z : Int) ≤ (pos : Int) := by omega
  go_enter Tryz.func10, Tryz.ntmps10
  obtain ⟨d0, d1, d2, d3, d4, d5, d6⟩ := tmC_cells hl n0
  obtain ⟨d7, d8, d9⟩ := tmC_more hl n0
  rw [hkv] at d5
  rw [hav1] at d6
  have HN0 := Lib.hid n0
  have HB1 := Lib.hid hb1
  have HL := Lib.hid hl
  have HKL := Lib.hid hkl
  have HZ1 := Lib.hid hz1
  have HKV := Lib.hid hkv
  have HAV1 := Lib.hid hav1
  clear n0 hb1 hl hkl hz1 hkv hav1 d0 d2 d3 d4
  go_wp2
  clear d1 d5 d6 d7 d8 d9 hp1 hp2
  go_loopw [7, 8] (fun i _ wr => ∃ j : Nat, j ≤ kids.length ∧ i = .int .i64 j ∧ Below (W.alloc (.cells l.toArray 39)).heap.size (W.alloc (.cells l.toArray 39)) wr) (fun i _ _ => kids.length - (intOf i).toNat)
  case atStart => exact ⟨0, Nat.zero_le _, rfl, Below.refl _ _⟩
  case round =>
    obtain ⟨j, hj0, rfl, hC⟩ := hrel
    have hB := hC
    obtain ⟨-, d1, -, -, -, d5, d6⟩ := tmC_cells HL.out (HN0.out.later hB)
    rw [HKV.out] at d5
    rw [HAV1.out] at d6
    have hE := hW.trans ((HB1.out.trans (hB.mono HB1.out.size)).mono hW.size)
    have HC := Lib.hid hC
    have HB := Lib.hid hB
    have HE := Lib.hid hE
    clear hB hE hC
    by_cases hlt : j < kids.length
    · obtain ⟨x, hx⟩ : ∃ x, kids[j]? = some x := ⟨_, List.getElem?_eq_getElem hlt⟩
      obtain ⟨cx, hcx⟩ : ∃ x, kc[j]? = some x := ⟨_, List.getElem?_eq_getElem (by rw [HKL.out]; exact hlt)⟩
      have hcall := ih1 j x cx hx hcx pos (h3 j x hx)
      have hlx := (hks j x cx hx hcx).len
      obtain ⟨g, cap, hv, -, -, hg, hcell⟩ := hk.at_ hcx
      rw [HKV.out] at hv
      injection hv with hv hx0 hvc
      clear hx0
      subst hv hvc
      have hr1 : wr.rangeAt g (j * 21) cx := fun o u hu => (World.cell?_of_block (w := w) (a := ⟨g, j * 21 + o, none⟩) (HE.out.block _ hg)).trans (hcell o u hu)
      have hgr : g < wr.heap.size := by have := HE.out.size; omega
      have hWr : W.heap.size + 1 ≤ wr.heap.size := by have := HB.out.size; simp at this; omega
      have hlti : (j : Int) < (kids.length : Int) := by omega
      have HS : Hid (wr.cell? ⟨W.heap.size, 5, none⟩ = some (.slice (some ⟨g, 0, none⟩) kids.length c1) ∧ wr.cell? ⟨W.heap.size, 1, none⟩ = some (.int .i64 (pos : Int)) ∧ wr.rangeAt g (j * 21) cx) := Lib.hid ⟨d5, d1, hr1⟩
      have keep : ∀ V, Below wr.heap.size wr V → V.cell? ⟨W.heap.size, 5, none⟩ = some (.slice (some ⟨g, 0, none⟩) kids.length c1) ∧ V.cell? ⟨W.heap.size, 1, none⟩ = some (.int .i64 (pos : Int)) ∧ V.rangeAt g (j * 21) cx := fun V hV => by
        have kc : ∀ b o u, b < wr.heap.size → wr.cell? ⟨b, o, none⟩ = some u → V.cell? ⟨b, o, none⟩ = some u := fun b o u hb hu => (World.cell?_of_block (w := wr) (a := ⟨b, o, none⟩) (hV.block _ hb)).trans hu
        obtain ⟨s1, s2, s3⟩ := HS.out
        exact ⟨kc _ _ _ (by omega) s1, kc _ _ _ (by omega) s2, fun o u hu => kc _ _ _ hgr (s3 o u hu)⟩
      have hb0 := Below.refl wr.heap.size wr
      clear hr1 hcell hx hcx
      focus go_wp2_with fail
      refine wp_region_held_drew (S := fun w' => w'.cell? ⟨W.heap.size, 5, none⟩ = some (.slice (some ⟨g, 0, none⟩) kids.length c1) ∧ w'.cell? ⟨W.heap.size, 1, none⟩ = some (.int .i64 (pos : Int)) ∧ w'.rangeAt g (j * 21) cx) (by kernel_rfl) HS.out (fun hHeld => ?_)
      refine wpAnyH_take (i := 0) (oi := ⟨some 47, _, _, _, _, _⟩) (v := ?_) rfl (by kernel_rfl) (by kernel_rfl) (by kernel_rfl) (fun _ _ _ h => h) (Or.inl ⟨by kernel_rfl, ?_⟩) (by assumption) ?_
      rotate_left
      · (intro w' hSw; (try dsimp only at hSw); go_split_ands; go_simp; first | done | with_reducible rfl)
      try simp only [Act.put, List.setIfInBounds_toArray, List.set_cons_zero, List.set_cons_succ]
      refine wpAnyH_take (i := 1) (oi := ⟨some 48, _, _, _, _, _⟩) (v := ?_) rfl (by kernel_rfl) (by kernel_rfl) (by kernel_rfl) (fun _ _ _ h => h) (Or.inl ⟨by kernel_rfl, ?_⟩) (by assumption) ?_
      rotate_left
      · (intro w' hSw; (try dsimp only at hSw); go_split_ands; go_simp; first | done | with_reducible rfl)
      try simp only [Act.put, List.setIfInBounds_toArray, List.set_cons_zero, List.set_cons_succ]
      refine wpAnyH_take (i := 2) (oi := ⟨some 49, _, _, _, _, _⟩) (v := ?_) rfl (by kernel_rfl) (by kernel_rfl) (by kernel_rfl) (fun _ _ _ h => h) (Or.inl ⟨by kernel_rfl, ?_⟩) (by assumption) ?_
      rotate_left
      · (intro w' hSw; (try dsimp only at hSw); go_split_ands; go_simp; first | done | with_reducible rfl)
      try simp only [Act.put, List.setIfInBounds_toArray, List.set_cons_zero, List.set_cons_succ]
      refine wpAnyH_take (i := 3) (oi := ⟨some 50, _, _, _, _, _⟩) (v := ?_) rfl (by kernel_rfl) (by kernel_rfl) (by kernel_rfl) (fun _ _ _ h => h) (Or.inl ⟨by kernel_rfl, ?_⟩) (by assumption) ?_
      rotate_left
      · (intro w' hSw; (try dsimp only at hSw); go_split_ands; go_simp; first | done | with_reducible rfl)
      try simp only [Act.put, List.setIfInBounds_toArray, List.set_cons_zero, List.set_cons_succ]
      refine wpAnyH_take (i := 4) (oi := ⟨some 51, _, _, _, _, _⟩) (v := .agg cx.toArray) rfl (by kernel_rfl) (by kernel_rfl) (by kernel_rfl) (fun _ _ _ h => h) (yieldsIf_load_mid (by rfl) 39 (.tmp 50) rfl g (j * 21) rfl cx _ (fun w' hS => hS.2.2) Tryz.underlying39 rfl (by rw [sz39, hlx])) (by assumption) ?_
      try simp only [Act.put, List.setIfInBounds_toArray, List.set_cons_zero, List.set_cons_succ]
      refine wpAnyH_take (i := 5) (oi := ⟨some 52, _, _, _, _, _⟩) (v := ?_) rfl (by kernel_rfl) (by kernel_rfl) (by kernel_rfl) (fun _ _ _ h => h) (Or.inl ⟨by kernel_rfl, ?_⟩) (by assumption) ?_
      rotate_left
      · (intro w' hSw; (try dsimp only at hSw); go_split_ands; go_simp; first | done | with_reducible rfl)
      try simp only [Act.put, List.setIfInBounds_toArray, List.set_cons_zero, List.set_cons_succ]
      refine wpAnyH_take (i := 6) (oi := ⟨some 53, _, _, _, _, _⟩) (v := ?_) rfl (by kernel_rfl) (by kernel_rfl) (by kernel_rfl) (fun _ _ _ h => h) (Or.inl ⟨by kernel_rfl, ?_⟩) (by assumption) ?_
      rotate_left
      · (intro w' hSw; (try dsimp only at hSw); go_split_ands; go_simp; first | done | with_reducible rfl)
      try simp only [Act.put, List.setIfInBounds_toArray, List.set_cons_zero, List.set_cons_succ]
      refine wpAnyH_take (i := 7) (oi := ⟨some 54, _, _, _, _, _⟩) (v := ?_) rfl (by kernel_rfl) (by kernel_rfl) (by kernel_rfl) (fun _ _ _ h => h) (Or.inl ⟨by kernel_rfl, ?_⟩) (by assumption) ?_
      rotate_left
      · (intro w' hSw; (try dsimp only at hSw); go_split_ands; go_simp; first | done | with_reducible rfl)
      try simp only [Act.put, List.setIfInBounds_toArray, List.set_cons_zero, List.set_cons_succ]
      refine wpAnyH_ready (rs := [8]) (by kernel_rfl) (by simp) ?_
      refine AllReadyH.cons (o := ⟨some 55, _, _, _, _, _⟩) rfl (fun K hK => ?_) AllReadyH.nil
      (go_simp; go_at_call 10; refine (hcall _ HE.out.drew).mono ?_; rintro e v1 ⟨rfl, b1⟩)
      have hb1 : Below wr.heap.size wr v1 := hb0.drew.trans (b1.mono hb0.drew.size)
      refine hK.out _ _ (keep _ hb1) (fun hHeld => ?_)
      clear hK K b1
      try simp only [Act.put, List.setIfInBounds_toArray, List.set_cons_zero, List.set_cons_succ]
      refine wpAnyH_take (i := 9) (oi := ⟨some 8, _, _, _, _, _⟩) (v := ?_) rfl (by kernel_rfl) (by kernel_rfl) (by kernel_rfl) (fun _ _ _ h => h) (Or.inl ⟨by kernel_rfl, ?_⟩) (by assumption) ?_
      rotate_left
      · (intro w' hSw; (try dsimp only at hSw); go_split_ands; go_simp; first | done | with_reducible rfl)
      try simp only [Act.put, List.setIfInBounds_toArray, List.set_cons_zero, List.set_cons_succ]
      refine wpAnyH_done (by kernel_rfl) ?_ _
      go_wp2
      go_roundw
      case rel => exact ⟨j + 1, by omega, by go_num, HC.out.trans (hb1.mono HC.out.size)⟩
      case measure => simp [intOf]; omega
    · obtain rfl : j = kids.length := by omega
      go_wp2
      obtain ⟨w3, rfl⟩ : ∃ w3, w3 = wr := ⟨wr, rfl⟩
      clear d1 d5 d6
      have HBB := HB
      clear HB HE
      go_loopw [9, 10] (fun i _ wr => ∃ j : Nat, j ≤ arms.length ∧ i = .int .i64 j ∧ Below w3.heap.size w3 wr) (fun i _ _ => arms.length - (intOf i).toNat)
      case atStart => exact ⟨0, Nat.zero_le _, rfl, Below.refl _ _⟩
      case round =>
        obtain ⟨j, hj0, rfl, hC⟩ := hrel
        have hB := HBB.out.trans (hC.mono HBB.out.size)
        obtain ⟨-, d1, -, -, -, d5, d6⟩ := tmC_cells HL.out (HN0.out.later hB)
        rw [HKV.out] at d5
        rw [HAV1.out] at d6
        have hE := hW.trans ((HB1.out.trans (hB.mono HB1.out.size)).mono hW.size)
        have HC := Lib.hid hC
        have HB := Lib.hid hB
        have HE := Lib.hid hE
        clear hB hE hC
        by_cases hlt : j < arms.length
        · obtain ⟨x, hx⟩ : ∃ x, arms[j]? = some x := ⟨_, List.getElem?_eq_getElem hlt⟩
          obtain ⟨cx, hcx⟩ : ∃ x, bc[j]? = some x := ⟨_, List.getElem?_eq_getElem (by rw [hbl]; exact hlt)⟩
          obtain ⟨vx, hvx⟩ : ∃ x, vv[j]? = some x := ⟨_, List.getElem?_eq_getElem (by rw [hvl]; exact hlt)⟩
          have hcall := ih2 j x cx hx hcx pos (h4 j x hx)
          have hlx := (has j x cx hx hcx).len
          have hrow1 : (List.zipWith (fun (a : Arm) (x : Value × List Value) => Value.string (ba a.1) :: x.1 :: x.2) arms (vv.zip bc))[j]? = some (.string (ba x.1) :: vx :: cx) := by simp [List.getElem?_zipWith, hx, hcx, hvx, List.zip]
          obtain ⟨g, cap, hv, -, -, hg, hcell⟩ := ha.at_ hrow1
          rw [HAV1.out] at hv
          injection hv with hv hx0 hvc
          clear hx0
          subst hv hvc
          have hr1 : wr.rangeAt g (j * 23 + 2) cx := fun o u hu => by rw [Nat.add_assoc, Nat.add_comm 2 o]; exact (World.cell?_of_block (w := w) (a := ⟨g, j * 23 + (o + 2), none⟩) (HE.out.block _ hg)).trans (hcell (o + 2) u (by simpa using hu))
          have hgr : g < wr.heap.size := by have := HE.out.size; omega
          have hWr : W.heap.size + 1 ≤ wr.heap.size := by have := HB.out.size; simp at this; omega
          have hlti : (j : Int) < (arms.length : Int) := by omega
          have HS : Hid (wr.cell? ⟨W.heap.size, 6, none⟩ = some (.slice (some ⟨g, 0, none⟩) arms.length c3) ∧ wr.cell? ⟨W.heap.size, 1, none⟩ = some (.int .i64 (pos : Int)) ∧ wr.rangeAt g (j * 23 + 2) cx) := Lib.hid ⟨d6, d1, hr1⟩
          have keep : ∀ V, Below wr.heap.size wr V → V.cell? ⟨W.heap.size, 6, none⟩ = some (.slice (some ⟨g, 0, none⟩) arms.length c3) ∧ V.cell? ⟨W.heap.size, 1, none⟩ = some (.int .i64 (pos : Int)) ∧ V.rangeAt g (j * 23 + 2) cx := fun V hV => by
            have kc : ∀ b o u, b < wr.heap.size → wr.cell? ⟨b, o, none⟩ = some u → V.cell? ⟨b, o, none⟩ = some u := fun b o u hb hu => (World.cell?_of_block (w := wr) (a := ⟨b, o, none⟩) (hV.block _ hb)).trans hu
            obtain ⟨s1, s2, s3⟩ := HS.out
            exact ⟨kc _ _ _ (by omega) s1, kc _ _ _ (by omega) s2, fun o u hu => kc _ _ _ hgr (s3 o u hu)⟩
          have hb0 := Below.refl wr.heap.size wr
          clear hr1 hcell hx hcx
          focus go_wp2_with fail
          refine wp_region_held_drew (S := fun w' => w'.cell? ⟨W.heap.size, 6, none⟩ = some (.slice (some ⟨g, 0, none⟩) arms.length c3) ∧ w'.cell? ⟨W.heap.size, 1, none⟩ = some (.int .i64 (pos : Int)) ∧ w'.rangeAt g (j * 23 + 2) cx) (by kernel_rfl) HS.out (fun hHeld => ?_)
          refine wpAnyH_take (i := 0) (oi := ⟨some 65, _, _, _, _, _⟩) (v := ?_) rfl (by kernel_rfl) (by kernel_rfl) (by kernel_rfl) (fun _ _ _ h => h) (Or.inl ⟨by kernel_rfl, ?_⟩) (by assumption) ?_
          rotate_left
          · (intro w' hSw; (try dsimp only at hSw); go_split_ands; go_simp; first | done | with_reducible rfl)
          try simp only [Act.put, List.setIfInBounds_toArray, List.set_cons_zero, List.set_cons_succ]
          refine wpAnyH_take (i := 1) (oi := ⟨some 66, _, _, _, _, _⟩) (v := ?_) rfl (by kernel_rfl) (by kernel_rfl) (by kernel_rfl) (fun _ _ _ h => h) (Or.inl ⟨by kernel_rfl, ?_⟩) (by assumption) ?_
          rotate_left
          · (intro w' hSw; (try dsimp only at hSw); go_split_ands; go_simp; first | done | with_reducible rfl)
          try simp only [Act.put, List.setIfInBounds_toArray, List.set_cons_zero, List.set_cons_succ]
          refine wpAnyH_take (i := 2) (oi := ⟨some 67, _, _, _, _, _⟩) (v := ?_) rfl (by kernel_rfl) (by kernel_rfl) (by kernel_rfl) (fun _ _ _ h => h) (Or.inl ⟨by kernel_rfl, ?_⟩) (by assumption) ?_
          rotate_left
          · (intro w' hSw; (try dsimp only at hSw); go_split_ands; go_simp; first | done | with_reducible rfl)
          try simp only [Act.put, List.setIfInBounds_toArray, List.set_cons_zero, List.set_cons_succ]
          refine wpAnyH_take (i := 3) (oi := ⟨some 68, _, _, _, _, _⟩) (v := ?_) rfl (by kernel_rfl) (by kernel_rfl) (by kernel_rfl) (fun _ _ _ h => h) (Or.inl ⟨by kernel_rfl, ?_⟩) (by assumption) ?_
          rotate_left
          · (intro w' hSw; (try dsimp only at hSw); go_split_ands; go_simp; first | done | with_reducible rfl)
          try simp only [Act.put, List.setIfInBounds_toArray, List.set_cons_zero, List.set_cons_succ]
          refine wpAnyH_take (i := 4) (oi := ⟨some 69, _, _, _, _, _⟩) (v := ?_) rfl (by kernel_rfl) (by kernel_rfl) (by kernel_rfl) (fun _ _ _ h => h) (Or.inl ⟨by kernel_rfl, ?_⟩) (by assumption) ?_
          rotate_left
          · (intro w' hSw; (try dsimp only at hSw); go_split_ands; go_simp; first | done | with_reducible rfl)
          try simp only [Act.put, List.setIfInBounds_toArray, List.set_cons_zero, List.set_cons_succ]
          refine wpAnyH_take (i := 5) (oi := ⟨some 70, _, _, _, _, _⟩) (v := .agg cx.toArray) rfl (by kernel_rfl) (by kernel_rfl) (by kernel_rfl) (fun _ _ _ h => h) (yieldsIf_load_mid (by rfl) 39 (.tmp 69) rfl g (j * 23 + 2) rfl cx _ (fun w' hS => hS.2.2) Tryz.underlying39 rfl (by rw [sz39, hlx])) (by assumption) ?_
          try simp only [Act.put, List.setIfInBounds_toArray, List.set_cons_zero, List.set_cons_succ]
          refine wpAnyH_take (i := 6) (oi := ⟨some 71, _, _, _, _, _⟩) (v := ?_) rfl (by kernel_rfl) (by kernel_rfl) (by kernel_rfl) (fun _ _ _ h => h) (Or.inl ⟨by kernel_rfl, ?_⟩) (by assumption) ?_
          rotate_left
          · (intro w' hSw; (try dsimp only at hSw); go_split_ands; go_simp; first | done | with_reducible rfl)
          try simp only [Act.put, List.setIfInBounds_toArray, List.set_cons_zero, List.set_cons_succ]
          refine wpAnyH_take (i := 7) (oi := ⟨some 72, _, _, _, _, _⟩) (v := ?_) rfl (by kernel_rfl) (by kernel_rfl) (by kernel_rfl) (fun _ _ _ h => h) (Or.inl ⟨by kernel_rfl, ?_⟩) (by assumption) ?_
          rotate_left
          · (intro w' hSw; (try dsimp only at hSw); go_split_ands; go_simp; first | done | with_reducible rfl)
          try simp only [Act.put, List.setIfInBounds_toArray, List.set_cons_zero, List.set_cons_succ]
          refine wpAnyH_take (i := 8) (oi := ⟨some 73, _, _, _, _, _⟩) (v := ?_) rfl (by kernel_rfl) (by kernel_rfl) (by kernel_rfl) (fun _ _ _ h => h) (Or.inl ⟨by kernel_rfl, ?_⟩) (by assumption) ?_
          rotate_left
          · (intro w' hSw; (try dsimp only at hSw); go_split_ands; go_simp; first | done | with_reducible rfl)
          try simp only [Act.put, List.setIfInBounds_toArray, List.set_cons_zero, List.set_cons_succ]
          refine wpAnyH_ready (rs := [9]) (by kernel_rfl) (by simp) ?_
          refine AllReadyH.cons (o := ⟨some 74, _, _, _, _, _⟩) rfl (fun K hK => ?_) AllReadyH.nil
          (go_simp; go_at_call 10; refine (hcall _ HE.out.drew).mono ?_; rintro e v1 ⟨rfl, b1⟩)
          have hb1 : Below wr.heap.size wr v1 := hb0.drew.trans (b1.mono hb0.drew.size)
          refine hK.out _ _ (keep _ hb1) (fun hHeld => ?_)
          clear hK K b1
          try simp only [Act.put, List.setIfInBounds_toArray, List.set_cons_zero, List.set_cons_succ]
          refine wpAnyH_take (i := 10) (oi := ⟨some 10, _, _, _, _, _⟩) (v := ?_) rfl (by kernel_rfl) (by kernel_rfl) (by kernel_rfl) (fun _ _ _ h => h) (Or.inl ⟨by kernel_rfl, ?_⟩) (by assumption) ?_
          rotate_left
          · (intro w' hSw; (try dsimp only at hSw); go_split_ands; go_simp; first | done | with_reducible rfl)
          try simp only [Act.put, List.setIfInBounds_toArray, List.set_cons_zero, List.set_cons_succ]
          refine wpAnyH_done (by kernel_rfl) ?_ _
          go_wp2
          go_roundw
          case rel => exact ⟨j + 1, by omega, by go_num, HC.out.trans (hb1.mono HC.out.size)⟩
          case measure => simp [intOf]; omega
        · obtain rfl : j = arms.length := by omega
          go_wp2
          go_ret
          exact ⟨rfl, HB1.out.trans (HB.out.mono HB1.out.size)⟩
end Go.Proofs.YtnkfkaahjplnmaaGreatDoor
