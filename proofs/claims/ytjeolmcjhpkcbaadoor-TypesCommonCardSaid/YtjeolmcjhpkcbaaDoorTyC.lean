/- How deep a type is, read off memory; the contract of what gathers what stands right below some types. -/
import Derived.Test.YtjeolmcjhpkcbaaDoorTyB
import Derived.Outline
namespace Go.Proofs.YtjeolmcjhpkcbaaDoor
open Go.RowKit

def rowA : Value → List Addr
  | .slice (some a) n _ => (List.range n).map fun i => ⟨a.block, a.off + i * 6, none⟩
  | _ => []
/-- Where the types stand that stand right below the one at an address. -/
def kidsA (w : World) (a : Addr) : List Addr := rowA ((w.cell? ⟨a.block, a.off + 3, none⟩).getD undef)
def maxL : List Nat → Nat
  | [] => 0
  | x :: r => max x (maxL r)
def sumL : List Nat → Nat
  | [] => 0
  | x :: r => x + sumL r
def dA (w : World) : Nat → Addr → Nat
  | 0, _ => 0
  | n + 1, a => 1 + maxL ((kidsA w a).map (dA w n))
def nA (w : World) : Nat → Addr → Nat
  | 0, _ => 0
  | n + 1, a => 1 + sumL ((kidsA w a).map (nA w n))
theorem rowA_len {w : World} {v : Value} {n : Nat} (h : SlOk w v n) : (rowA v).length = n := by
  obtain ⟨A, c, rfl, _, _, h0⟩ := h
  rcases Nat.eq_zero_or_pos n with h1 | h1
  · subst h1; cases A <;> simp [rowA]
  · obtain ⟨g, o, rfl, _⟩ := h0 h1; simp [rowA]
theorem rowA_get {w : World} {v : Value} {n : Nat} (h : SlOk w v n) {i : Nat} (hi : i < n) : (rowA v)[i]? = some (kidAt v i) := by
  obtain ⟨A, c, rfl, _, _, h0⟩ := h
  obtain ⟨g, o, rfl, _⟩ := h0 (by omega)
  simp [rowA, kidAt, hi]
theorem kids_of {w : World} {a : Addr} {k : Int} {nm : Str} {v : Int} {kv lv : Value} {rv : Int} (hr : ReadsAt w a (tyC k nm v kv lv rv)) : kidsA w a = rowA kv := by
  unfold kidsA
  rw [hr 3 kv rfl]
  rfl
theorem kids_ta {w : World} {a : Addr} {t : Ty} (h : TA w a t) : (kidsA w a).length = t.kids.length ∧ ∀ (i : Nat) b, (kidsA w a)[i]? = some b → ∃ u, t.kids[i]? = some u ∧ TA w b u := by
  obtain ⟨k, nm, v, kids, ls, rv⟩ := t
  obtain ⟨kv, lv, _, _, hr, hk, _, hks⟩ := h.open
  have hl := rowA_len hk
  rw [kids_of hr]
  refine ⟨hl, fun i b hb => ?_⟩
  have hi : i < kids.length := by have := (List.getElem?_eq_some_iff.1 hb).1; omega
  rw [rowA_get hk hi] at hb
  injection hb with hb
  subst hb
  exact ⟨kids[i], List.getElem?_eq_getElem hi, hks i _ (List.getElem?_eq_getElem hi)⟩
theorem kidsA_keep {w w' : World} {a : Addr} (h : w'.heap[a.block]? = w.heap[a.block]?) : kidsA w' a = kidsA w a := by
  unfold kidsA
  rw [World.cell?_of_block (w := w) (a := ⟨a.block, a.off + 3, none⟩) h]
theorem max_kids {f : Addr → Nat} {n : Nat} : ∀ (ts : List Ty) (l : List Addr), l.length = ts.length → (∀ (i : Nat) a t, l[i]? = some a → ts[i]? = some t → f a = min n t.deep) → maxL (l.map f) = min n (Ty.deepL ts)
  | [], [], _, _ => by simp [maxL, Ty.deepL]
  | [], _ :: _, h, _ => by simp at h
  | _ :: _, [], h, _ => by simp at h
  | t :: ts, a :: l, h, H => by
    have h1 := max_kids ts l (by simpa using h) (fun i a t h1 h2 => H (i + 1) a t (by simpa using h1) (by simpa using h2))
    have h2 := H 0 a t rfl rfl
    simp only [List.map_cons, maxL, Ty.deepL, h1, h2]
    omega
theorem sum_kids {f : Addr → Nat} : ∀ (ts : List Ty) (l : List Addr), l.length = ts.length → (∀ (i : Nat) a t, l[i]? = some a → ts[i]? = some t → f a ≤ t.size) → sumL (l.map f) ≤ Ty.sizeL ts
  | [], [], _, _ => by simp [sumL, Ty.sizeL]
  | [], _ :: _, h, _ => by simp at h
  | _ :: _, [], h, _ => by simp at h
  | t :: ts, a :: l, h, H => by
    have h1 := sum_kids ts l (by simpa using h) (fun i a t h1 h2 => H (i + 1) a t (by simpa using h1) (by simpa using h2))
    have h2 := H 0 a t rfl rfl
    simp only [List.map_cons, sumL, Ty.sizeL]
    omega
theorem deep_ta {w : World} : ∀ (n : Nat) (a : Addr) (t : Ty), TA w a t → dA w n a = min n t.deep ∧ nA w n a ≤ t.size
  | 0, _, t, _ => by simp [dA, nA]
  | n + 1, a, t, h => by
    obtain ⟨hl, hk⟩ := kids_ta h
    have H : ∀ (i : Nat) b u, (kidsA w a)[i]? = some b → t.kids[i]? = some u → dA w n b = min n u.deep ∧ nA w n b ≤ u.size := by
      intro i b u h1 h2
      obtain ⟨u', h3, h4⟩ := hk i b h1
      rw [h2] at h3
      injection h3 with h3
      subst h3
      exact deep_ta n b u h4
    obtain ⟨k, nm, v, kids, ls, rv⟩ := t
    constructor
    · simp only [dA, Ty.deep]
      rw [max_kids kids _ hl (fun i b u h1 h2 => (H i b u h1 h2).1)]
      omega
    · simp only [nA, Ty.size]
      have := sum_kids (f := nA w n) kids _ hl (fun i b u h1 h2 => (H i b u h1 h2).2)
      omega
theorem maxL_append : ∀ a b, maxL (a ++ b) = max (maxL a) (maxL b)
  | [], b => by simp [maxL]
  | x :: a, b => by simp only [List.cons_append, maxL, maxL_append a b]; omega
theorem sumL_append : ∀ a b, sumL (a ++ b) = sumL a + sumL b
  | [], b => by simp [sumL]
  | x :: a, b => by simp only [List.cons_append, sumL, sumL_append a b]; omega

/-- A slice of pointers that reads as a list. -/
def Pl (w : World) (v : Value) (L : List Addr) : Prop :=
  ∃ A c, v = .slice A L.length c ∧ L.length ≤ c ∧ (0 < L.length → ∃ g o, A = some ⟨g, o, none⟩ ∧ g < w.heap.size ∧ ∀ (i : Nat) x, L[i]? = some x → w.cell? ⟨g, o + i, none⟩ = some (ptrV x))
theorem Pl.own {w : World} {B : Nat} {v : Value} {L : List Addr} (h : w.ownsRow B 59 1 v L.length (L.map ptrV)) : Pl w v L := by
  rcases own_cells h with ⟨rfl, h0⟩ | ⟨g, cap, rfl, hc, _, ⟨cs, t, hh⟩, hx⟩
  · exact ⟨none, 0, by rw [h0], by omega, fun h1 => by omega⟩
  · refine ⟨_, cap, rfl, hc, fun _ => ⟨g, 0, rfl, (Array.getElem?_eq_some_iff.1 hh).1, fun i x hi => ?_⟩⟩
    rw [Nat.zero_add]
    exact hx i _ (by rw [List.getElem?_map, hi]; rfl)
theorem Pl.lit (w : World) (t : TypeId) (L : List Addr) {N : Nat} (hN : w.heap.size = N) : Pl (w.alloc (.cells (L.map ptrV).toArray t)) (.slice (some ⟨N, 0, none⟩) L.length L.length) L := by
  subst hN
  refine ⟨_, _, rfl, Nat.le_refl _, fun _ => ⟨_, 0, rfl, by simp, fun i x hi => ?_⟩⟩
  have h := (Lies.new w t (L.map ptrV).toArray).cell (0 + i)
  rw [h]
  simp [hi]
/-- What lies right below the types of a list. -/
def nextA (w : World) (L : List Addr) : List Addr := (L.flatMap (kidsA w)).foldl addU []
/-- Where the gathering stands. -/
def BSt (w0 : World) (M : List Addr) (ov : Value) (W : World) : Prop :=
  Sn W w0.heap.size M ∧ W.ownsRow (w0.heap.size + 1) 59 1 ov M.length (M.map ptrV) ∧ Below w0.heap.size w0 W ∧ ∀ x ∈ M, AtCells w0 x
theorem slok_form {w : World} {v : Value} {n : Nat} (h : SlOk w v n) : ∃ A c, v = .slice A n c ∧ n ≤ c ∧ (rowA v).length = n ∧ ∀ j, j < n → ∃ g o, A = some ⟨g, o, none⟩ ∧ (rowA v)[j]? = some ⟨g, o + j * 6, none⟩ := by
  have hl := rowA_len h
  obtain ⟨A, c, rfl, h1, _, h0⟩ := h
  refine ⟨A, c, rfl, h1, hl, fun j hj => ?_⟩
  obtain ⟨g, o, rfl, _⟩ := h0 (by omega)
  exact ⟨g, o, rfl, by simp [rowA, hj]⟩

set_option maxRecDepth 100000 in
set_option maxHeartbeats 8000000 in
theorem below_any (w : World) (v : Value) (L : List Addr) (hv : Pl w v L) (hok : ∀ a ∈ L, ∃ t, TA w a t) (hn : (L.flatMap (kidsA w)).length ≤ 100000000) (hL : L.length ≤ 100000000) :
    Calls Tryd.prog 48 #[v] w fun e w' => ∃ v', e = .returned v' ∧ w'.ownsRow (w.heap.size + 1) 59 1 v' (nextA w L).length ((nextA w L).map ptrV) ∧ Below w.heap.size w w' := by
  obtain ⟨A, c, rfl, hc, hcell⟩ := hv
  have HC := Lib.hid hcell
  have HOK := Lib.hid hok
  obtain ⟨i0, hi, hz0, hz1, hz2⟩ := info_parts info_ptr
  have hst : BSt w [] (.slice none 0 0) (w.alloc (.map #[] 0)) := ⟨Sn.made w, World.ownsRow_nil _ _ _ _, below_new w _, fun x hx => by cases hx⟩
  have hmm := @run_makeMap Tryd.prog
  clear hcell hok
  go_enter Tryd.func48, Tryd.ntmps48
  go_wp2
  go_loopw [4, 11] (fun ov i wr => ∃ k : Nat, k ≤ L.length ∧ i = .int .i64 k ∧ BSt w (((L.take k).flatMap (kidsA w)).foldl addU []) ov wr) (fun _ i _ => L.length - (intOf i).toNat)
  case atStart => exact ⟨0, Nat.zero_le _, rfl, hst⟩
  case round =>
    obtain ⟨k, hk, rfl, hS⟩ := hrel
    clear hst
    by_cases hlt : k < L.length
    · obtain ⟨g, o, rfl, hg, hcl⟩ := HC.out (by omega)
      obtain ⟨a, ha⟩ : ∃ a, L[k]? = some a := ⟨_, List.getElem?_eq_getElem hlt⟩
      have ham : a ∈ L := List.mem_of_getElem? ha
      obtain ⟨t, hta⟩ := HOK.out a ham
      have hB := hS.2.2.1
      have ck := (hB.cell (p := ⟨g, o + k, none⟩) hg).trans (hcl k a ha)
      unfold ptrV at ck
      have hkt := kids_ta hta
      obtain ⟨k0, nm, v0, kids, ls, rv⟩ := t
      obtain ⟨kv, lv, hsp, hat, hr, hsl, _, _⟩ := hta.open
      obtain ⟨b, oa, sp⟩ := a
      have hsp' : sp = none := hsp
      subst hsp'
      have hbl : b < w.heap.size := hat.lt
      obtain ⟨_, _, _, e3, _, _⟩ := reads6 hr
      obtain ⟨A5, q5, rfl, hq5, hl5, hr5⟩ := slok_form hsl
      generalize hn5 : kids.length = n5 at *
      have hkA : kidsA w ⟨b, oa, none⟩ = rowA (.slice A5 n5 q5) := kids_of hr
      have hkc : k < c := by omega
      have htot : ((L.take k).flatMap (kidsA w)).length + n5 ≤ 100000000 := by
        have h1 : (L.take (k + 1)).flatMap (kidsA w) = (L.take k).flatMap (kidsA w) ++ rowA (.slice A5 n5 q5) := by
          rw [take_step L k _ ha, List.flatMap_append, ← hkA]
          simp
        have h2 : (L.flatMap (kidsA w)) = (L.take (k + 1)).flatMap (kidsA w) ++ (L.drop (k + 1)).flatMap (kidsA w) := by rw [← List.flatMap_append, List.take_append_drop]
        have h3 := congrArg List.length h1
        have h4 := congrArg List.length h2
        simp only [List.length_append, hl5] at h3 h4
        omega
      obtain ⟨M, hM⟩ : ∃ M, M = ((L.take k).flatMap (kidsA w)).foldl addU [] := ⟨_, rfl⟩
      rw [← hM] at hS
      have hMlen : M.length + n5 ≤ 100000000 := by
        have := len_addUs ((L.take k).flatMap (kidsA w)) []
        rw [← hM] at this
        simp only [List.length_nil] at this
        omega
      have hkat : ∀ x ∈ kidsA w ⟨b, oa, none⟩, AtCells w x := by
        intro x hx
        obtain ⟨i, hi⟩ := List.mem_iff_getElem?.1 hx
        obtain ⟨u, _, hu⟩ := hkt.2 i x hi
        exact hu.at_
      have hnext : ((L.take (k + 1)).flatMap (kidsA w)).foldl addU [] = (rowA (.slice A5 n5 q5)).foldl addU M := by
        rw [take_step L k _ ha, List.flatMap_append, List.foldl_append, ← hM]
        simp only [List.flatMap_cons, List.flatMap_nil, List.append_nil]
        rw [hkA]
      have HN := Lib.hid hnext
      have HKA := Lib.hid hkA
      have HR5 := Lib.hid hr5
      have HL5 := Lib.hid hl5
      have HKAT := Lib.hid hkat
      have HB := Lib.hid hB
      have E3 := Lib.hid e3
      have c3 : wr.cell? ⟨b, oa + 3, none⟩ = some (.slice A5 n5 q5) := (hB.cell (p := ⟨b, oa + 3, none⟩) hbl).trans e3
      clear hnext hkA hr5 hl5 hkat hM hcl htot ha e3 hkt hsl hr
      go_wp2
      go_loopw [4, 20] (fun ov i W => ∃ j : Nat, j ≤ n5 ∧ i = .int .i64 j ∧ BSt w (((rowA (.slice A5 n5 q5)).take j).foldl addU M) ov W) (fun _ i _ => n5 - (intOf i).toNat)
      case atStart => exact ⟨0, Nat.zero_le _, rfl, hS⟩
      case round =>
        obtain ⟨j, hj, rfl, hSj⟩ := hrel
        obtain ⟨hsn, hown, hBj, hMw⟩ := hSj
        by_cases hjn : j < n5
        · obtain ⟨g5, o5, hA5, hx5⟩ := HR5.out j hjn
          subst hA5
          have c3' : wr.cell? ⟨b, oa + 3, none⟩ = some (.slice (some ⟨g5, o5, none⟩) n5 q5) := (hBj.cell (p := ⟨b, oa + 3, none⟩) hbl).trans E3.out
          have hjq : j < q5 := by omega
          have hmem : (⟨g5, o5 + j * 6, none⟩ : Addr) ∈ kidsA w ⟨b, oa, none⟩ := by rw [HKA.out]; exact List.mem_of_getElem? hx5
          have hd := (HKAT.out _ hmem).keep (hBj.block _ (HKAT.out _ hmem).lt)
          obtain ⟨Mj, hMj⟩ : ∃ Mj, Mj = ((rowA (.slice (some ⟨g5, o5, none⟩) n5 q5)).take j).foldl addU M := ⟨_, rfl⟩
          rw [← hMj] at hsn hown hMw
          have hMw' : ∀ x ∈ addU Mj ⟨g5, o5 + j * 6, none⟩, AtCells w x := by
            intro x hx
            rw [mem_addU] at hx
            rcases hx with hx | rfl
            · exact hMw x hx
            · exact HKAT.out _ hmem
          have HMW := Lib.hid hMw'
          have hMjl : Mj.length ≤ 100000000 := by
            have := len_addUs ((rowA (.slice (some ⟨g5, o5, none⟩) n5 q5)).take j) M
            rw [← hMj, List.length_take] at this
            omega
          have hfirst := first_any wr _ Mj ⟨g5, o5 + j * 6, none⟩ hsn hd
          have HF := Lib.hid hfirst
          have HX5 := Lib.hid hx5
          have hstep : ((rowA (.slice (some ⟨g5, o5, none⟩) n5 q5)).take (j + 1)).foldl addU M = addU Mj ⟨g5, o5 + j * 6, none⟩ := by
            rw [take_step _ j _ hx5, List.foldl_append, ← hMj]; rfl
          have HST := Lib.hid hstep
          have HOW := Lib.hid hown
          obtain ⟨A0, m0, c0, rfl⟩ := own_slice hown
          have hlt0 := hsn.lt
          clear hfirst hx5 hS hstep hown hMj hMw hMw'
          go_wp2_with fail
          refine HF.out.mono ?_
          rintro e W2 ⟨rfl, hs2, hbt⟩
          have hB2 : Below w.heap.size w W2 := hBj.trans (hbt.below (Nat.le_refl _) (by omega))
          have hown2 : W2.ownsRow (w.heap.size + 1) 59 1 (.slice A0 m0 c0) Mj.length (Mj.map ptrV) := own_same HOW.out fun g hg hlt => hbt.block g hlt (by omega)
          have c3'' : W2.cell? ⟨b, oa + 3, none⟩ = some (.slice (some ⟨g5, o5, none⟩) n5 q5) := (hB2.cell (p := ⟨b, oa + 3, none⟩) hbl).trans E3.out
          have hsz2 := hbt.size
          by_cases hm : (⟨g5, o5 + j * 6, none⟩ : Addr) ∈ Mj
          · have hdec : decide ((⟨g5, o5 + j * 6, none⟩ : Addr) ∉ Mj) = false := by simp [hm]
            rw [hdec]
            go_wp2_with fail
            go_roundw
            case rel =>
              refine ⟨j + 1, by omega, by simp, ?_, ?_, hB2, by rw [HST.out]; exact HMW.out⟩
              · rw [HST.out]; exact hs2
              · rw [HST.out]; unfold addU; rw [if_pos hm]; exact hown2
            case measure => (simp [intOf] <;> omega)
          · have hdec : decide ((⟨g5, o5 + j * 6, none⟩ : Addr) ∉ Mj) = true := by simp [hm]
            rw [hdec]
            have hone : ∀ u ∈ [Value.pointer (some (⟨g5, o5 + j * 6, none⟩ : Addr))], u.oneCell' = true := by simp [Value.oneCell']
            go_wp2_with (at_builtin; go_loud (refine wpList_append_own_at _ rfl (.tmp 31) (.tmp 38) 77 rfl (w.heap.size + 1) 59 i0 (.pointer none) 1 8 Tryd.underlying77 hi hz0 hz1 hz2 rfl (by decide) _ Mj.length (Mj.map ptrV) rfl (own_later hown2 (below_new W2 (.cells #[.pointer (some ⟨g5, o5 + j * 6, none⟩)] 59))) ⟨W2.heap.size, 0, none⟩ 1 1 [.pointer (some ⟨g5, o5 + j * 6, none⟩)] rfl rfl (new_cells _ _ _ rfl) hone (by unfold maxLen; omega) (by omega) (by have := hBj.size; simp; omega) ?_))
            intro v' w2 hown3 hgr _ _
            have hrow : ∀ q, Value.ownBlock (.slice A0 m0 c0) = some q → w.heap.size + 1 ≤ q := fun q hq => (own_block hown2 q hq).1
            go_wp2_with fail
            go_roundw
            case rel =>
              refine ⟨j + 1, by omega, by simp, ?_, ?_, ?_, by rw [HST.out]; exact HMW.out⟩
              · rw [HST.out]
                refine ⟨hs2.1.keep ?_, fun x hx => ?_⟩
                · have h1 := hs2.lt
                  rw [hgr.block _ (by simp; omega) (fun e => by have := hrow _ e.symm; omega), Below.heap_alloc _ _ _ h1]
                · have h1 := hs2.2 x hx
                  have hxw := (HMW.out x hx).lt
                  exact h1.keep (by rw [hgr.block _ (by have := h1.lt; simp; omega) (fun e => by have := hrow _ e.symm; omega), Below.heap_alloc _ _ _ h1.lt])
              · rw [HST.out]; unfold addU; rw [if_neg hm, List.length_append, List.map_append]; exact hown3
              · refine ⟨?_, ?_, ?_, ?_, fun g hg => ?_⟩
                · exact hgr.os.trans hB2.os
                · exact hgr.tape.trans hB2.tape
                · exact hgr.output.trans hB2.output
                · have := hgr.size; have := hB2.size; simp at *; omega
                · rw [hgr.block _ (by have := hB2.size; simp; omega) (fun e => by have := hrow _ e.symm; omega), Below.heap_alloc _ _ _ (by have := hB2.size; omega), hB2.block g hg]
            case measure => (simp [intOf] <;> omega)
        · obtain rfl : j = n5 := by omega
          rw [List.take_of_length_le (Nat.le_of_eq HL5.out)] at hsn hown hMw
          go_wp2
          go_roundw
          case rel =>
            refine ⟨k + 1, by omega, by simp, ?_⟩
            rw [HN.out]
            exact ⟨hsn, hown, hBj, hMw⟩
          case measure => (simp [intOf] <;> omega)
    · obtain rfl : k = L.length := by omega
      rw [List.take_length] at hS
      go_wp2
      go_ret
      exact ⟨_, rfl, hS.2.1, hS.2.2.1⟩
end Go.Proofs.YtjeolmcjhpkcbaaDoor
