/- Package scheme: a part of a type becomes a part of another one. -/
import Derived.Test.YthdfomcpoofkaaaMg38
import Derived.Test.YthdfomcpoofkaaaScMp
import Derived.Test.YthdfomcpoofkaaaScMw
import Derived.Outline
import Derived.Deep.LoopGhost
import Derived.IntWalk
namespace Go.Proofs.Ythdfomcpoofkaaa.Si
open Go.RowKit

/-- What part turns. -/
def PRel (s : Ins) (L : List Nat) (ks : List Pr) (t u : Ty) (fv tv : Value) (L' : List Nat) (ks' : List Pr) : Prop :=
  match t with
  | .mk k _ v kids _ _ => match u with
    | .mk _ _ _ kids' _ _ => ((k = 7 ∧ v ∈ s.K) ∧ L' = L ∧ ks' = ks) ∨ (¬ (k = 7 ∧ v ∈ s.K) ∧ kids' = insL s kids ∧ LatRel L ks fv tv kids.length kids'.length L' ks')
def PartOk (w0 : World) (p bm bk br B : Nat) (s1 s2 : Value) (l : List Value) (s : Ins) (m : Nat) (L : List Nat) (ks : List Pr) (t u : Ty) (fv tv : Value) (e : Ending) (W' : World) : Prop :=
  e = .returned (.bool true) ∧ ∃ m' T' Q' L' ks', m' ≤ m + 1 ∧ Good s T' Q' ∧ MT w0 p bm bk br B s1 s2 l s.K s.R m' T' Q' L' ks' W' ∧ PRel s L ks t u fv tv L' ks'
set_option maxRecDepth 100000 in
set_option maxHeartbeats 40000000 in
theorem part_ins {w0 : World} {p bm bk br B : Nat} (hc : MC w0 p bm bk br B) {s1 s2 : Value} {l : List Value} (hl6 : l.length = 6) {s : Ins} (hfit : Fit s) {m : Nat} {T : Int → Option Ty} {Q : Int → Option (List Str × Int)} {L : List Nat} {ks : List Pr} {w : World} (h : MT w0 p bm bk br B s1 s2 l s.K s.R m T Q L ks w) (hg : Good s T Q) (hks : ks.length ≤ 1000000) (hm : m ≤ 1000)
    (t u : Ty) (lf lu : List Value) (hf : TFV w0 t lf) (hu : TRV w0 u lu) (huw : TWV w0 u lu) (hts : t.size ≤ 1000000) (hus : u.size ≤ 1000)
    (hsrt : ∀ k nm v kids ls rv, t = .mk k nm v kids ls rv → Rw.sortS ls = ls) (hnew : ∀ g, rtOf lf g → g ∉ L) (hin : u = ins s t) :
    Calls Try.prog 64 #[.pointer (some ⟨p, 0, none⟩), .agg lf.toArray, .agg lu.toArray] w (PartOk w0 p bm bk br B s1 s2 l s m L ks t u (cell3 lf) (cell3 lu)) := by
  obtain ⟨k, nm, v, kids, ls, rv⟩ := t
  have hu0 := hu
  have hus0 := hus
  obtain ⟨kv, lv, rfl, hkv, hlv, hok, _⟩ := hf
  have hsr := hsrt _ _ _ _ _ _ rfl
  obtain ⟨ku, nmu, vu, kidsu, lsu, rvu⟩ := u
  obtain ⟨kv2, lv2, rfl, hkv2, hlv2, hok2, _⟩ := hu
  have hkl : kids.length ≤ 1000000 := by have := sizeL_lenG kids; simp only [Ty.size] at hts; omega
  have hkl2 : kidsu.length ≤ 1000000 := by have := sizeL_lenG kidsu; simp only [Ty.size] at hus; omega
  have hlat := later_u hc hl6 h hks kv kv2 kids.length kidsu.length hkv hkl hkv2 hkl2 (fun g e => hnew g ⟨_, _, by rw [e]; rfl⟩)
  have hrow := fun W L' ks' (h' : MT w0 p bm bk br B s1 s2 l s.K s.R m T Q L' ks' W) (hrw : (lsu, rvu) = rwI s (ls, rv)) => row_ins hc hl6 hfit h' hg hm lv lv2 ls lsu rv rvu hlv hlv2 hok.2.2 hok2.2.2 hsr hrw
  obtain ⟨A3, n3, c3, rfl⟩ : ∃ A n c, kv = .slice A n c := by obtain ⟨A, c, h, _⟩ := hkv.slr.form; exact ⟨_, _, _, h⟩
  obtain ⟨B3, o3, d3, rfl⟩ : ∃ A n c, kv2 = .slice A n c := by obtain ⟨A, c, h, _⟩ := hkv2.form; exact ⟨_, _, _, h⟩
  obtain ⟨A4, n4, c4, rfl⟩ : ∃ A n c, lv = .slice A n c := by rcases hlv.1 with ⟨rfl, _⟩ | ⟨_, _, rfl, _⟩ <;> exact ⟨_, _, _, rfl⟩
  obtain ⟨B4, o4, d4, rfl⟩ : ∃ A n c, lv2 = .slice A n c := by rcases hlv2.1 with ⟨rfl, _⟩ | ⟨_, _, rfl, _⟩ <;> exact ⟨_, _, _, rfl⟩
  obtain rfl : n3 = kids.length := by obtain ⟨A, c, h, _⟩ := hkv.slr.form; injection h
  obtain rfl : o3 = kidsu.length := by obtain ⟨A, c, h, _⟩ := hkv2.form; injection h
  obtain ⟨n3, hn3⟩ : ∃ n, n = kids.length := ⟨_, rfl⟩
  obtain ⟨o3, ho3⟩ : ∃ n, n = kidsu.length := ⟨_, rfl⟩
  have HN3 := Lib.hid hn3
  have HO3 := Lib.hid ho3
  have e8 : ∀ W, Below w.heap.size w W → p < w.heap.size ∧ W.cell? ⟨p, 8, none⟩ = some (.map (some bk)) := fun W hb => by
    obtain ⟨⟨v1, v2, td, ⟨a1, _, _⟩, _⟩, _⟩ := h.later hb
    obtain ⟨⟨b1, b2, btd, ⟨c1, _, _⟩, _⟩, _⟩ := h
    refine ⟨c1.lt, ?_⟩
    obtain ⟨x0, x1, x2, x3, x4, x5, rfl⟩ : ∃ a b c d e f, l = [a, b, c, d, e, f] := by
      match l, hl6 with
      | [a, b, c, d, e, f], _ => exact ⟨a, b, c, d, e, f, rfl⟩
    exact a1.cell 8
  unfold tyC at hu0 huw ⊢
  rw [← hn3, ← ho3] at hlat
  rw [← ho3] at hu0 huw
  have HU0 := Lib.hid hu0
  rw [← hn3, ← ho3]
  obtain ⟨W, hW⟩ : ∃ W, W = (w.alloc (.cells #[.int .i64 k, .string (ba nm), .int .i64 v, .slice A3 n3 c3, .slice A4 n4 c4, .int .i64 rv] 28)).alloc (.cells #[.int .i64 ku, .string (ba nmu), .int .i64 vu, .slice B3 o3 d3, .slice B4 o4 d4, .int .i64 rvu] 28) := ⟨_, rfl⟩
  have hb : Below w.heap.size w W := by rw [hW]; exact ((Below.refl _ w).alloc (Nat.le_refl _) _).alloc (by simp) _
  have k0 : Lies W w.heap.size 28 #[.int .i64 k, .string (ba nm), .int .i64 v, .slice A3 n3 c3, .slice A4 n4 c4, .int .i64 rv] := by rw [hW]; exact (Lies.new _ _ _).alloc _
  have k1 : Lies W (w.heap.size + 1) 28 #[.int .i64 ku, .string (ba nmu), .int .i64 vu, .slice B3 o3 d3, .slice B4 o4 d4, .int .i64 rvu] := by rw [hW]; exact Lies.new' _ _ _ (by simp)
  have hSS : ∀ V, Below W.heap.size W V → V.cell? ⟨w.heap.size, 0, none⟩ = some (.int .i64 k) ∧ V.cell? ⟨w.heap.size, 2, none⟩ = some (.int .i64 v) ∧ V.cell? ⟨p, 8, none⟩ = some (.map (some bk)) := fun V hV =>
    ⟨(hV.cell (p := ⟨w.heap.size, 0, none⟩) k0.lt).trans (k0.cell 0), (hV.cell (p := ⟨w.heap.size, 2, none⟩) k0.lt).trans (k0.cell 2), (e8 V (hb.trans (hV.mono hb.size))).2⟩
  have hpl := (e8 w (Below.refl _ _)).1
  have HSZ := Lib.hid (show w.heap.size + 2 ≤ W.heap.size by rw [hW]; simp)
  have HM10 := Lib.hid hm
  have hd : Below W.heap.size W W.drew := (Below.refl _ _).drew
  have HW := Lib.hid hW
  have HB := Lib.hid hb
  have HK0 := Lib.hid k0
  have HK1 := Lib.hid k1
  have HSS := Lib.hid hSS
  have HLAT := Lib.hid hlat
  have HROW := Lib.hid hrow
  have HM := Lib.hid h
  have HC := Lib.hid hc
  have HIN := Lib.hid hin
  have HUW := Lib.hid huw
  have HG := Lib.hid hg
  have HOK := Lib.hid hok
  have HUS := Lib.hid hus0
  have HL6 := Lib.hid hl6
  clear hW hb k0 k1 hSS hlat hrow h hc hok hus0 hok2 hu0 e8 hin huw hg hn3 ho3 hkv hlv hkv2 hlv2 hnew hsrt hts hus hkl hkl2 hsr hl6 hks
  go_enter Try.func64, Try.ntmps64
  go_wp2_with fail
  rw [← HW.out]
  by_cases hk7 : k = 7
  case neg =>
    have hk7b : (k == 7) = false := by simpa using hk7
    have HNB := Lib.hid (show NotB s.K k v from fun h => hk7 h.1)
    have hne := HIN.out
    unfold ins at hne
    rw [if_neg HNB.out] at hne
    injection hne with e1 e2 e3 e4 e5 e6
    replace e1 := e1.symm
    replace e2 := e2.symm
    replace e3 := e3.symm
    subst e1 e2 e3
    have hrw : (lsu, rvu) = rwI s (ls, rv) := by rw [e5, e6]
    have HLL := Lib.hid (show n3 = o3 by rw [HN3.out, HO3.out, e4, insL_map, List.length_map])
    have HE4 := Lib.hid e4
    clear e4 e5 e6
    refine wp_region_held_drew (S := (fun V => V.cell? ⟨w.heap.size, 0, none⟩ = some (.int .i64 k) ∧ V.cell? ⟨w.heap.size, 2, none⟩ = some (.int .i64 v) ∧ V.cell? ⟨p, 8, none⟩ = some (.map (some bk)))) (by kernel_rfl) ?_ (fun hHeld => ?_)
    · exact HSS.out _ hd
    refine wpAnyH_take (i := 0) (oi := ⟨some 7, _, _, _, _, _⟩) (v := ?_) rfl (by kernel_rfl) (by kernel_rfl) (by kernel_rfl) (fun _ _ _ h => h) (Or.inl ⟨by kernel_rfl, ?_⟩) (by assumption) ?_
    rotate_left
    · (intro w' hSw; (try dsimp only at hSw); go_split_ands; go_simp; first | done | with_reducible rfl)
    try simp only [Act.put, List.setIfInBounds_toArray, List.set_cons_zero, List.set_cons_succ]
    refine wpAnyH_take (i := 1) (oi := ⟨some 8, _, _, _, _, _⟩) (v := ?_) rfl (by kernel_rfl) (by kernel_rfl) (by kernel_rfl) (fun _ _ _ h => h) (Or.inl ⟨by kernel_rfl, ?_⟩) (by assumption) ?_
    rotate_left
    · (intro w' hSw; (try dsimp only at hSw); go_split_ands; go_simp; first | done | with_reducible rfl)
    try simp only [Act.put, List.setIfInBounds_toArray, List.set_cons_zero, List.set_cons_succ]
    refine wpAnyH_take (i := 2) (oi := ⟨some 9, _, _, _, _, _⟩) (v := ?_) rfl (by kernel_rfl) (by kernel_rfl) (by kernel_rfl) (fun _ _ _ h => h) (Or.inl ⟨by kernel_rfl, ?_⟩) (by assumption) ?_
    rotate_left
    · (intro w' hSw; (try dsimp only at hSw); go_split_ands; go_simp; first | done | with_reducible rfl)
    try simp only [Act.put, List.setIfInBounds_toArray, List.set_cons_zero, List.set_cons_succ]
    refine wpAnyH_take (i := 3) (oi := ⟨some 10, _, _, _, _, _⟩) (v := ?_) rfl (by kernel_rfl) (by kernel_rfl) (by kernel_rfl) (fun _ _ _ h => h) (Or.inl ⟨by kernel_rfl, ?_⟩) (by assumption) ?_
    rotate_left
    · (intro w' hSw; (try dsimp only at hSw); go_split_ands; go_simp; first | done | with_reducible rfl)
    try simp only [Act.put, List.setIfInBounds_toArray, List.set_cons_zero, List.set_cons_succ]
    refine wpAnyH_take (i := 4) (oi := ⟨some 11, _, _, _, _, _⟩) (v := undef) rfl (by kernel_rfl) (by kernel_rfl) (by kernel_rfl) (fun _ _ _ h => h) (Or.inr ⟨by kernel_rfl, rfl⟩) (by assumption) ?_
    try simp only [Act.put, List.setIfInBounds_toArray, List.set_cons_zero, List.set_cons_succ]
    refine wpAnyH_take (i := 5) (oi := ⟨some 12, _, _, _, _, _⟩) (v := undef) rfl (by kernel_rfl) (by kernel_rfl) (by kernel_rfl) (fun _ _ _ h => h) (Or.inr ⟨by kernel_rfl, rfl⟩) (by assumption) ?_
    try simp only [Act.put, List.setIfInBounds_toArray, List.set_cons_zero, List.set_cons_succ]
    refine wpAnyH_take (i := 6) (oi := ⟨some 13, _, _, _, _, _⟩) (v := undef) rfl (by kernel_rfl) (by kernel_rfl) (by kernel_rfl) (fun _ _ _ h => h) (Or.inr ⟨by kernel_rfl, rfl⟩) (by assumption) ?_
    try simp only [Act.put, List.setIfInBounds_toArray, List.set_cons_zero, List.set_cons_succ]
    refine wpAnyH_take (i := 7) (oi := ⟨some 14, _, _, _, _, _⟩) (v := undef) rfl (by kernel_rfl) (by kernel_rfl) (by kernel_rfl) (fun _ _ _ h => h) (Or.inr ⟨by kernel_rfl, rfl⟩) (by assumption) ?_
    try simp only [Act.put, List.setIfInBounds_toArray, List.set_cons_zero, List.set_cons_succ]
    refine wpAnyH_take (i := 8) (oi := ⟨some 15, _, _, _, _, _⟩) (v := undef) rfl (by kernel_rfl) (by kernel_rfl) (by kernel_rfl) (fun _ _ _ h => h) (Or.inr ⟨by kernel_rfl, rfl⟩) (by assumption) ?_
    try simp only [Act.put, List.setIfInBounds_toArray, List.set_cons_zero, List.set_cons_succ]
    refine wpAnyH_take (i := 9) (oi := ⟨some 16, _, _, _, _, _⟩) (v := undef) rfl (by kernel_rfl) (by kernel_rfl) (by kernel_rfl) (fun _ _ _ h => h) (Or.inr ⟨by kernel_rfl, rfl⟩) (by assumption) ?_
    try simp only [Act.put, List.setIfInBounds_toArray, List.set_cons_zero, List.set_cons_succ]
    refine wpAnyH_take (i := 10) (oi := ⟨some 17, _, _, _, _, _⟩) (v := undef) rfl (by kernel_rfl) (by kernel_rfl) (by kernel_rfl) (fun _ _ _ h => h) (Or.inr ⟨by kernel_rfl, rfl⟩) (by assumption) ?_
    try simp only [Act.put, List.setIfInBounds_toArray, List.set_cons_zero, List.set_cons_succ]
    refine wpAnyH_take (i := 11) (oi := ⟨some 18, _, _, _, _, _⟩) (v := ?_) rfl (by kernel_rfl) (by kernel_rfl) (by kernel_rfl) (fun _ _ _ h => h) (Or.inl ⟨by kernel_rfl, ?_⟩) (by assumption) ?_
    rotate_left
    · (intro w' hSw; (try dsimp only at hSw); go_split_ands; go_simp; first | done | with_reducible rfl)
    try simp only [Act.put, List.setIfInBounds_toArray, List.set_cons_zero, List.set_cons_succ]
    refine wpAnyH_done (by kernel_rfl) ?_ _
    have y3 := (HK0.out.later hd).cell 3
    have z3 := (HK1.out.later hd).cell 3
    go_wp2_with fail
    clear y3 z3
    refine (HLAT.out W.drew (HB.out.trans (hd.mono HB.out.size))).mono ?_
    rintro e w9 ⟨rfl, ⟨L', ks', hrel, hmt⟩, hs9, hke9⟩
    have hsW : w.heap.size + 2 ≤ W.heap.size := HSZ.out
    have hsX := hd.size
    have m0 : Lies w9 w.heap.size 28 _ := (hke9 w.heap.size (Nat.le_refl _) (by omega)).trans (HK0.out.later hd)
    have m1 : Lies w9 (w.heap.size + 1) 28 _ := (hke9 (w.heap.size + 1) (by omega) (by omega)).trans (HK1.out.later hd)
    have hro := HROW.out w9 L' ks' hmt hrw
    have hw09 := hmt.bel
    have a0 := m0.cell 0
    have b0 := m1.cell 0
    have a1 := m0.cell 1
    have b1 := m1.cell 1
    have a2 := m0.cell 2
    have b2 := m1.cell 2
    have a3 := m0.cell 3
    have b3 := m1.cell 3
    have a4 := m0.cell 4
    have b4 := m1.cell 4
    have a5 := m0.cell 5
    have b5 := m1.cell 5
    have HRO := Lib.hid hro
    have HREL := Lib.hid hrel
    have HMT := Lib.hid hmt
    have HW09 := Lib.hid hw09
    clear hrel hmt hs9 hke9 hsX m0 m1 hro hw09
    have hll := HLL.out
    have hlli : (n3 : Int) = (o3 : Int) := by omega
    go_wp2_with fail
    refine HRO.out.mono ?_
    rintro e w10 ⟨rfl, m', Q', hm', hg', hmt'⟩
    have HR10 := Lib.hid (And.intro hm' (And.intro hg' hmt'))
    clear hm' hg' hmt'
    go_wp2_with fail
    go_ret
    obtain ⟨hm', hg', hmt'⟩ := HR10.out
    refine ⟨rfl, m', T, Q', L', ks', hm', hg', hmt', ?_⟩
    unfold PRel
    refine .inr ⟨HNB.out, HE4.out, ?_⟩
    rw [← HN3.out, ← HO3.out]
    exact HREL.out
  case pos =>
    subst hk7
    obtain ⟨q8, hq8⟩ := HM.out.kin
    have hhas := has_any W.drew bk q8 s.K v (hq8.later (HB.out.trans (hd.mono HB.out.size))) HOK.out.2.1
    have HHAS := Lib.hid hhas
    clear hhas hq8
    go_region_held3 (fun V => V.cell? ⟨w.heap.size, 0, none⟩ = some (.int .i64 7) ∧ V.cell? ⟨w.heap.size, 2, none⟩ = some (.int .i64 v) ∧ V.cell? ⟨p, 8, none⟩ = some (.map (some bk)))
      (first | with_reducible exact HSS.out _ hd | with_reducible exact HSS.out _ hq9)
      (first | (go_at_call 63; refine HHAS.out.mono ?_; rintro e w8 ⟨rfl, hb8⟩; have hq9 : Below W.heap.size W w8 := hd.trans (hb8.mono hd.size)))
    by_cases hvK : v ∈ s.K
    case neg =>
      have HNB := Lib.hid (show NotB s.K 7 v from fun h => hvK h.2)
      have hne := HIN.out
      unfold ins at hne
      rw [if_neg HNB.out] at hne
      injection hne with e1 e2 e3 e4 e5 e6
      replace e1 := e1.symm
      replace e2 := e2.symm
      replace e3 := e3.symm
      subst e1 e2 e3
      have hrw : (lsu, rvu) = rwI s (ls, rv) := by rw [e5, e6]
      have HLL := Lib.hid (show n3 = o3 by rw [HN3.out, HO3.out, e4, insL_map, List.length_map])
      have HE4 := Lib.hid e4
      clear e4 e5 e6
      have hvd : decide (v ∈ s.K) = false := decide_eq_false hvK
      rw [hvd]
      have y3 := (HK0.out.later hq9).cell 3
      have z3 := (HK1.out.later hq9).cell 3
      go_wp2_with fail
      clear y3 z3
      refine (HLAT.out w8 (HB.out.trans (hq9.mono HB.out.size))).mono ?_
      rintro e w9 ⟨rfl, ⟨L', ks', hrel, hmt⟩, hs9, hke9⟩
      have hsW : w.heap.size + 2 ≤ W.heap.size := HSZ.out
      have hsX := hq9.size
      have m0 : Lies w9 w.heap.size 28 _ := (hke9 w.heap.size (Nat.le_refl _) (by omega)).trans (HK0.out.later hq9)
      have m1 : Lies w9 (w.heap.size + 1) 28 _ := (hke9 (w.heap.size + 1) (by omega) (by omega)).trans (HK1.out.later hq9)
      have hro := HROW.out w9 L' ks' hmt hrw
      have hw09 := hmt.bel
      have a0 := m0.cell 0
      have b0 := m1.cell 0
      have a1 := m0.cell 1
      have b1 := m1.cell 1
      have a2 := m0.cell 2
      have b2 := m1.cell 2
      have a3 := m0.cell 3
      have b3 := m1.cell 3
      have a4 := m0.cell 4
      have b4 := m1.cell 4
      have a5 := m0.cell 5
      have b5 := m1.cell 5
      have HRO := Lib.hid hro
      have HREL := Lib.hid hrel
      have HMT := Lib.hid hmt
      have HW09 := Lib.hid hw09
      clear hrel hmt hs9 hke9 hsX m0 m1 hro hw09
      have hll := HLL.out
      have hlli : (n3 : Int) = (o3 : Int) := by omega
      go_wp2_with fail
      refine HRO.out.mono ?_
      rintro e w10 ⟨rfl, m', Q', hm', hg', hmt'⟩
      have HR10 := Lib.hid (And.intro hm' (And.intro hg' hmt'))
      clear hm' hg' hmt'
      go_wp2_with fail
      go_ret
      obtain ⟨hm', hg', hmt'⟩ := HR10.out
      refine ⟨rfl, m', T, Q', L', ks', hm', hg', hmt', ?_⟩
      unfold PRel
      refine .inr ⟨HNB.out, HE4.out, ?_⟩
      rw [← HN3.out, ← HO3.out]
      exact HREL.out
    case pos =>
      have hvd : decide (v ∈ s.K) = true := decide_eq_true hvK
      rw [hvd]
      have hw8 := HB.out.trans (hq9.mono HB.out.size)
      have hin7 := HIN.out
      unfold ins at hin7
      rw [if_pos ⟨rfl, hvK⟩] at hin7
      have hbn := bound_ins HC.out HL6.out (HM.out.later hw8) HG.out HM10.out v HOK.out.2.1 hvK _ _ HU0.out HUW.out HUS.out hin7
      have HBN := Lib.hid hbn
      clear hbn hw8 hin7
      have y2 := (HK0.out.later hq9).cell 2
      have z0 := (HK1.out.later hq9).cell 0
      have z1 := (HK1.out.later hq9).cell 1
      have z2 := (HK1.out.later hq9).cell 2
      have z3 := (HK1.out.later hq9).cell 3
      have z4 := (HK1.out.later hq9).cell 4
      have z5 := (HK1.out.later hq9).cell 5
      go_wp2_with fail
      refine HBN.out.mono ?_
      rintro e w9 ⟨rfl, m', T', hm', hg', hmt'⟩
      have HR10 := Lib.hid (And.intro hm' (And.intro hg' hmt'))
      clear hm' hg' hmt' y2 z0 z1 z2 z3 z4 z5
      go_wp2_with fail
      go_ret
      obtain ⟨hm', hg', hmt'⟩ := HR10.out
      exact ⟨rfl, m', T', Q, L, ks, hm', hg', hmt', .inl ⟨⟨rfl, hvK⟩, rfl, rfl⟩⟩
end Go.Proofs.Ythdfomcpoofkaaa.Si

/- Package scheme: what stands between two parts of a type of which the one becomes the other one. -/
namespace Go.Proofs.Ythdfomcpoofkaaa.Si
open Go.RowKit

theorem TW.v {w : World} {a : Addr} {t : Ty} {l : List Value} (h : TW w a t) (hr : ReadsAt w a l) (ht : TRV w t l) : TWV w t l := by
  cases h with
  | mk _ k nm v kids ls rv kv lv h0 hat hr' hk hi hks =>
  obtain ⟨kv2, lv2, rfl, h1, h2, h3, _⟩ := ht
  have e1 := hr 3 _ rfl
  have e2 := hr' 3 _ rfl
  rw [e1] at e2
  injection e2 with e2
  subst e2
  obtain ⟨A, n, c, rfl⟩ : ∃ A n c, lv2 = .slice A n c := by rcases h2.1 with ⟨rfl, _⟩ | ⟨_, _, rfl, _⟩ <;> exact ⟨_, _, _, rfl⟩
  exact ⟨kv2, A, n, c, rfl, h1, h3, hks⟩
/-- Two lists of types that are to do, as they lie. -/
structure PrJ (w0 : World) (k : Pr) (fs ts : List Ty) : Prop where
  from_ : k.fv = .slice (some ⟨blk k, 0, none⟩) fs.length fs.length
  pos : 0 < fs.length
  fk : ∀ (i : Nat) t, fs[i]? = some t → TF w0 ⟨blk k, i * 6, none⟩ t
  len : fs.length = ts.length
  to_ : ∃ g2 o2 d, k.tv = .slice (some ⟨g2, o2, none⟩) ts.length d ∧ ts.length ≤ d ∧ ∀ (i : Nat) t, ts[i]? = some t → TR w0 ⟨g2, o2 + i * 6, none⟩ t ∧ TW w0 ⟨g2, o2 + i * 6, none⟩ t
  srt : srtL fs
  sm : ∀ t ∈ ts, t.size ≤ 1000
structure BJ (w0 : World) (s : Ins) (t : Ty) (D : List Nat) (E : List (Nat × Nat × Nat)) (lt : List Value) (m : Nat) (L : List Nat) (ks : List Pr) (gs : List Gp) (P0 q : Nat) (fr tr : List Ty) (mw : Nat) : Prop where
  len : ks.length = gs.length
  ok : ∀ (i : Nat) k g, ks[i]? = some k → gs[i]? = some g → PrJ w0 k g.1 g.2
  ins_ : ∀ g ∈ gs, g.2 = insL s g.1
  cur : tr = insL s fr
  wk : m + wkS gs + Ty.sizeL fr ≤ t.size
  wq : wkS gs + Ty.sizeL fr + q ≤ mw
  nd : (ks.map blk).Nodup
  bL : ∀ k ∈ ks, blk k ∈ L
  LD : ∀ x ∈ L, x ∈ D
  vis : ∀ x ∈ L, rtOf lt x ∨ ∃ P j, (P, j, x) ∈ E ∧ P ∈ L ∧ P ∉ ks.map blk ∧ (P = P0 → j < q)
/-- The last two lists are taken. -/
theorem BJ.pop {w0 : World} {s : Ins} {t : Ty} {D : List Nat} {E : List (Nat × Nat × Nat)} {lt : List Value} {m : Nat} {L : List Nat} {ks : List Pr} {gs : List Gp} {k0 : Pr} {g0 : Gp} {P q mw : Nat} (h : BJ w0 s t D E lt m L (ks ++ [k0]) (gs ++ [g0]) P q [] [] mw) :
    BJ w0 s t D E lt m L ks gs (blk k0) 0 g0.1 g0.2 (wkS (gs ++ [g0])) ∧ PrJ w0 k0 g0.1 g0.2 ∧ blk k0 ∈ L ∧ blk k0 ∉ ks.map blk := by
  have hl : ks.length = gs.length := by have := h.len; simpa using this
  have hnd := h.nd
  rw [List.map_append, List.nodup_append] at hnd
  have hni : blk k0 ∉ ks.map blk := fun hm => hnd.2.2 _ hm (blk k0) (by simp) rfl
  refine ⟨⟨hl, fun i k g hk hg => h.ok i k g ?_ ?_, fun g hg => h.ins_ g (List.mem_append_left _ hg), h.ins_ g0 (by simp), ?_, ?_, hnd.1, fun k hk => h.bL k (List.mem_append_left _ hk), h.LD, fun x hx => ?_⟩, h.ok ks.length k0 g0 (by simp) (by rw [hl]; simp), h.bL k0 (by simp), hni⟩
  · rw [List.getElem?_append_left (List.getElem?_eq_some_iff.1 hk).1]; exact hk
  · rw [List.getElem?_append_left (List.getElem?_eq_some_iff.1 hg).1]; exact hg
  · have := h.wk
    rw [wkS_app] at this
    simp only [wkS, Ty.sizeL, List.map_cons, List.map_nil, List.sum_cons, List.sum_nil] at this ⊢
    omega
  · rw [wkS_app]
    simp only [wkS, List.map_cons, List.map_nil, List.sum_cons, List.sum_nil]
    omega
  · rcases h.vis x hx with hr | ⟨P', j, h1, h2, h3, _⟩
    · exact .inl hr
    · rw [List.map_append, List.mem_append] at h3
      exact .inr ⟨P', j, h1, h2, fun hm => h3 (.inl hm), fun e => absurd (.inr (by simp [e])) h3⟩
/-- All of them are done. -/
theorem BJ.top {w0 : World} {s : Ins} {t : Ty} {D : List Nat} {E : List (Nat × Nat × Nat)} {lt : List Value} {m : Nat} {L : List Nat} {ks : List Pr} {gs : List Gp} {P q mw P' : Nat} (h : BJ w0 s t D E lt m L ks gs P q [] [] mw) (hP : P' ∉ L) : BJ w0 s t D E lt m L ks gs P' 0 [] [] (wkS gs) ∧ wkS gs + q ≤ mw := by
  have hw := h.wq
  refine ⟨⟨h.len, h.ok, h.ins_, h.cur, h.wk, by simp [Ty.sizeL], h.nd, h.bL, h.LD, fun x hx => ?_⟩, by simp only [Ty.sizeL] at hw; omega⟩
  rcases h.vis x hx with hr | ⟨P2, j, h1, h2, h3, _⟩
  · exact .inl hr
  · exact .inr ⟨P2, j, h1, h2, h3, fun e => absurd (e ▸ h2) hP⟩
theorem BJ.step {w0 : World} {s : Ins} {t : Ty} {D : List Nat} {E : List (Nat × Nat × Nat)} {lt : List Value} {m : Nat} {L : List Nat} {ks : List Pr} {gs : List Gp} {P0 q mw : Nat} {f g : Ty} {fr tr : List Ty} (h : BJ w0 s t D E lt m L ks gs P0 q (f :: fr) (g :: tr) mw)
    {lf lu : List Value} (hf : TFV w0 f lf) (hu : TRV w0 g lu) (huw : TWV w0 g lu) (hs : srtT f) (hg : g.size ≤ 1000) {m' : Nat} (hm' : m' ≤ m + 1) {L' : List Nat} {ks' : List Pr} (hr : PRel s L ks f g (cell3 lf) (cell3 lu) L' ks')
    (hx : ∀ x, rtOf lf x → x ∉ L ∧ x ∈ D ∧ (rtOf lt x ∨ ((P0, q, x) ∈ E ∧ P0 ∈ L ∧ P0 ∉ ks.map blk))) : ∃ gs', BJ w0 s t D E lt m' L' ks' gs' P0 (q + 1) fr tr mw := by
  obtain ⟨k, nm, v, kids, ls, rv⟩ := f
  obtain ⟨k', nm', v', kids', ls', rv'⟩ := g
  have hcur := h.cur
  rw [insL] at hcur
  injection hcur with hc1 hc2
  have hwk := h.wk
  have hwq := h.wq
  simp only [Ty.sizeL, Ty.size] at hwk hwq
  have hvis : ∀ x ∈ L, rtOf lt x ∨ ∃ P j, (P, j, x) ∈ E ∧ P ∈ L ∧ P ∉ ks.map blk ∧ (P = P0 → j < q + 1) := fun x hx => by
    rcases h.vis x hx with hr | ⟨P2, j, h1, h2, h3, h4⟩
    · exact .inl hr
    · exact .inr ⟨P2, j, h1, h2, h3, fun e => by have := h4 e; omega⟩
  rcases hr with ⟨hb, rfl, rfl⟩ | ⟨hb, hkids, hr⟩
  · exact ⟨gs, h.len, h.ok, h.ins_, hc2, by omega, by omega, h.nd, h.bL, h.LD, hvis⟩
  · have hlen : kids.length = kids'.length := by rw [hkids, insL_map, List.length_map]
    rcases hr with ⟨h0, rfl, rfl⟩ | ⟨h0, h1, x, hfv, rfl, rfl⟩
    · have e1 : kids = [] := List.eq_nil_of_length_eq_zero (by omega)
      have e2 : kids' = [] := List.eq_nil_of_length_eq_zero (by omega)
      subst e1 e2
      exact ⟨gs, h.len, h.ok, h.ins_, hc2, by omega, by omega, h.nd, h.bL, h.LD, hvis⟩
    · obtain ⟨kv, lv, rfl, hkv, hlv, hok, hks⟩ := hf
      obtain ⟨kv2, lv2, rfl, hkv2, hlv2, hok2, hks2⟩ := hu
      have hfv : kv = .slice (some ⟨x, 0, none⟩) kids.length kids.length := hfv
      obtain ⟨A2, d, rfl, hd, ha⟩ := hkv2.form
      obtain ⟨g2, o2, rfl⟩ := ha h1
      obtain ⟨hxL, hxD, hxE⟩ := hx x ⟨_, _, by rw [hfv]; rfl⟩
      subst hfv
      obtain ⟨kw, Aw, nw, cw, ew, _, _, hkw⟩ := huw
      have ekw := congrArg (fun l : List Value => l[3]?) ew
      simp only [tyC, List.getElem?_cons_succ, List.getElem?_cons_zero, Option.some.injEq] at ekw
      subst ekw
      refine ⟨gs ++ [(kids, kids')], by simp [h.len], fun i k2 g hk hg => ?_, fun g hg => ?_, hc2, ?_, ?_, ?_, fun k2 hk2 => ?_, fun y hy => ?_, fun y hy => ?_⟩
      · by_cases hi : i < ks.length
        · rw [List.getElem?_append_left hi] at hk
          rw [List.getElem?_append_left (by have := h.len; omega)] at hg
          exact h.ok i k2 g hk hg
        · have hi2 := (List.getElem?_eq_some_iff.1 hk).1
          simp only [List.length_append, List.length_cons, List.length_nil] at hi2
          obtain rfl : i = ks.length := by omega
          rw [List.getElem?_append_right (Nat.le_refl _)] at hk
          rw [h.len, List.getElem?_append_right (Nat.le_refl _)] at hg
          simp only [Nat.sub_self, List.getElem?_cons_zero, Option.some.injEq] at hk hg
          subst hk hg
          refine ⟨rfl, h0, fun i t ht => ?_, hlen, ⟨g2, o2, d, rfl, hd, fun i t ht => ⟨hks2 i t ht, hkw i t ht⟩⟩, hs.2, fun t ht => ?_⟩
          · have := hks i t ht
            simp only [kidAt, Nat.zero_add] at this
            exact this
          · have ht : t ∈ kids' := ht
            have := size_kid ht
            simp only [Ty.size] at hg
            omega
      · rcases List.mem_append.1 hg with hg | hg
        · exact h.ins_ g hg
        · rw [List.mem_singleton.1 hg]; exact hkids
      · rw [wkS_app]
        simp only [wkS, List.map_cons, List.map_nil, List.sum_cons, List.sum_nil] at hwk ⊢
        omega
      · rw [wkS_app]
        simp only [wkS, List.map_cons, List.map_nil, List.sum_cons, List.sum_nil] at hwq ⊢
        omega
      · rw [List.map_append, List.nodup_append]
        refine ⟨h.nd, by simp, fun a ha b hb2 => ?_⟩
        obtain ⟨k2, hk2, rfl⟩ := List.mem_map.1 ha
        simp only [List.map_cons, List.map_nil, List.mem_singleton] at hb2
        intro e
        have h3 := h.bL k2 hk2
        rw [e, hb2] at h3
        exact hxL h3
      · rcases List.mem_append.1 hk2 with hk2 | hk2
        · exact List.mem_append_left _ (h.bL k2 hk2)
        · rw [List.mem_singleton.1 hk2]; exact List.mem_append_right _ (List.mem_singleton.2 rfl)
      · rcases List.mem_append.1 hy with hy | hy
        · exact h.LD y hy
        · rw [List.mem_singleton.1 hy]; exact hxD
      · have hnew : ∀ P, P ∈ L → P ∉ ks.map blk → P ∉ (ks ++ [(⟨.slice (some ⟨x, 0, none⟩) kids.length kids.length, .slice (some ⟨g2, o2, none⟩) kids'.length d⟩ : Pr)]).map blk := fun P h1 h2 h3 => by
          rw [List.map_append, List.mem_append] at h3
          rcases h3 with h3 | h3
          · exact h2 h3
          · simp only [List.map_cons, List.map_nil, List.mem_singleton] at h3
            have h3 : P = x := h3
            exact hxL (h3 ▸ h1)
        rcases List.mem_append.1 hy with hy | hy
        · rcases hvis y hy with hr | ⟨P2, j, a1, a2, a3, a4⟩
          · exact .inl hr
          · exact .inr ⟨P2, j, a1, List.mem_append_left _ a2, hnew P2 a2 a3, a4⟩
        · rw [List.mem_singleton.1 hy]
          rcases hxE with hr | ⟨a1, a2, a3⟩
          · exact .inl hr
          · exact .inr ⟨P0, q, a1, List.mem_append_left _ a2, hnew P0 a2 a3, fun _ => Nat.lt_succ_self q⟩
end Go.Proofs.Ythdfomcpoofkaaa.Si

/- Package scheme: becomes, where the one becomes the other one. -/
namespace Go.Proofs.Ythdfomcpoofkaaa.Si
open Go.RowKit

theorem MT.pop {w0 : World} {p bm bk br B : Nat} (hc : MC w0 p bm bk br B) {s1 s2 : Value} {l : List Value} {K R : List Int} {m : Nat} {T : Int → Option Ty} {Q : Int → Option (List Str × Int)} {L : List Nat} {ks : List Pr} {b cap N : Nat} {tc : List Value} {v1 v2 : Value} {wr : World}
    (hm : MtS wr p bm B s1 s2 l bk br v1 v2 (.slice (some ⟨b, 0, none⟩) (ks.length + 1) cap) N tc L) (h4 : SubV (blank (fun x => x = p ∨ x = bm ∨ Value.ownBlock (.slice (some ⟨b, 0, none⟩) (ks.length + 1) cap) = some x) wr) (.agg #[v1, v2]) m T Q)
    (h5 : ∃ q, MapI wr 0 bk q (inG K)) (h6 : ∃ q, MapI wr 0 br q (inG R)) (h7 : Below w0.heap.size w0 wr) (h8 : B ≤ wr.heap.size) (h9 : ∀ x ∈ L, x < w0.heap.size) (hr : wr.ownsRow B 129 2 (.slice (some ⟨b, 0, none⟩) ks.length cap) ks.length (ks.flatMap prC))
    {V : World} (hp : Lies V p 97 (matC s1 s2 l bk br v1 v2 (.slice (some ⟨b, 0, none⟩) ks.length cap) bm)) (hos : V.os = wr.os) (htp : V.tape = wr.tape) (hou : V.output = wr.output) (hsz : wr.heap.size ≤ V.heap.size) (hbl : ∀ i, i < wr.heap.size → i ≠ p → V.heap[i]? = wr.heap[i]?) :
    MT w0 p bm bk br B s1 s2 l K R m T Q L ks V := by
  obtain ⟨⟨p1, p2⟩, ⟨m1, m2⟩, ⟨k1, k2⟩, ⟨r1, r2⟩, n1, n2, n3, n4, n5⟩ := hc
  obtain ⟨q, h5⟩ := h5
  obtain ⟨qr, h6⟩ := h6
  refine ⟨⟨v1, v2, _, ⟨hp, own_same hr fun i hi hlt => hbl i hlt (by omega), hm.met.keep (hbl bm hm.met.lt (fun e => n1 e.symm)) fun x hx => hbl _ (hm.met.2 x hx).lt fun e => ?_⟩, h4.keepL fun g hg => ?_⟩, ⟨q, h5.keep (hbl bk (by omega) (fun e => n2 e.symm))⟩, ⟨qr, h6.keep (hbl br (by omega) (fun e => n3 e.symm))⟩, ⟨hos.trans h7.os, htp.trans h7.tape, hou.trans h7.output, Nat.le_trans h7.size hsz, fun i hi => (hbl i (by have := h7.size; omega) (by omega)).trans (h7.block i hi)⟩, by omega, h9⟩
  · obtain ⟨y, hy, rfl⟩ := List.mem_map.1 hx
    have := h9 y hy
    have e : y = p := e
    omega
  · obtain ⟨hx, hlt⟩ := blank_live hg
    exact (blank_at (fun h => hx h)).trans ((hbl g hlt (fun e => hx (.inl e))).trans (blank_at hx).symm)
theorem BJ.start (w0 : World) (s : Ins) (t : Ty) (D : List Nat) (E : List (Nat × Nat × Nat)) (lt : List Value) (P0 : Nat) : BJ w0 s t D E lt 0 [] [] [] P0 0 [t] [ins s t] t.size :=
  ⟨rfl, fun i k g hk => by simp at hk, fun g hg => (by cases hg), by simp [insL], by simp [wkS, Ty.sizeL], by simp [wkS, Ty.sizeL], List.nodup_nil, fun k hk => (by cases hk), fun x hx => (by cases hx), fun x hx => (by cases hx)⟩
theorem BJ.few {w0 : World} {s : Ins} {t : Ty} {D : List Nat} {E : List (Nat × Nat × Nat)} {lt : List Value} {m : Nat} {L : List Nat} {ks : List Pr} {gs : List Gp} {P q mw : Nat} {fr tr : List Ty} (h : BJ w0 s t D E lt m L ks gs P q fr tr mw) : ks.length ≤ t.size := by
  have h1 : ∀ gs : List Gp, (∀ g ∈ gs, 0 < g.1.length) → gs.length ≤ wkS gs := by
    intro gs
    induction gs with
    | nil => intro _; exact Nat.le_refl _
    | cons g r ih =>
      intro hp
      have a := ih fun g hg => hp g (List.mem_cons_of_mem _ hg)
      have b := hp g (List.mem_cons_self ..)
      have c := sizeL_lenG g.1
      simp only [wkS, List.map_cons, List.sum_cons, List.length_cons] at a ⊢
      omega
  have h2 := h1 gs fun g hg => by
    obtain ⟨i, hi⟩ := List.getElem?_of_mem hg
    have hlt := (List.getElem?_eq_some_iff.1 hi).1
    have := h.len
    exact (h.ok i _ g (List.getElem?_eq_getElem (by omega)) hi).pos
  have := h.wk
  have := h.len
  omega
theorem pRel_keep {s : Ins} {L : List Nat} {ks : List Pr} {t u : Ty} {fv tv : Value} {L' : List Nat} {ks' : List Pr} (h : PRel s L ks t u fv tv L' ks') {b : Nat} (h1 : b ∈ L) (h2 : b ∉ ks.map blk) (h3 : ∀ n x, fv = .slice (some ⟨x, 0, none⟩) n n → x ∉ L) : b ∈ L' ∧ b ∉ ks'.map blk := by
  obtain ⟨k, nm, v, kids, ls, rv⟩ := t
  obtain ⟨k', nm', v', kids', ls', rv'⟩ := u
  rcases h with ⟨_, rfl, rfl⟩ | ⟨_, _, ⟨_, rfl, rfl⟩ | ⟨_, _, x, hx, rfl, rfl⟩⟩
  · exact ⟨h1, h2⟩
  · exact ⟨h1, h2⟩
  · refine ⟨List.mem_append_left _ h1, fun hm => ?_⟩
    rw [List.map_append, List.mem_append] at hm
    rcases hm with hm | hm
    · exact h2 hm
    · simp only [List.map_cons, List.map_nil, List.mem_singleton] at hm
      have e : blk ⟨fv, tv⟩ = x := by subst hx; rfl
      rw [e] at hm
      exact h3 _ x hx (hm ▸ h1)
set_option maxRecDepth 100000 in
set_option maxHeartbeats 40000000 in
theorem becomes_ins {w0 : World} {p bm bk br B : Nat} (hc : MC w0 p bm bk br B) {s1 s2 : Value} {l : List Value} {s : Ins} (hfit : Fit s) {w : World} {t : Ty} (ht : TFV w0 t l) {N0 : Nat} (htree : Tree1 N0 l w0) {lu : List Value} (hu : TRV w0 (ins s t) lu) (huw : TWV w0 (ins s t) lu) (h : MT w0 p bm bk br B s1 s2 l s.K s.R 0 T0 R0 [] [] w)
    (hts : t.size ≤ 900) (hus : (ins s t).size ≤ 1000) (hsrt : srtT t) :
    Calls Try.prog 51 #[.pointer (some ⟨p, 0, none⟩), .agg lu.toArray] w fun e w' => e = .returned (.bool true) ∧ Below w0.heap.size w0 w' := by
  obtain ⟨D, E, hE1, hE2, hE3, hE4, hE5⟩ := htree
  have hl6 : l.length = 6 := ht.trv.len
  have hg0 : Good s T0 R0 := ⟨fun n u hn => by simp [T0] at hn, fun n u hn => by simp [R0] at hn⟩
  have hBI := BJ.start w0 s t D E l w0.heap.size
  have hpart := fun V (hb : Below w.heap.size w V) => part_ins hc hl6 hfit (h.later hb) hg0 (by simp) (by omega) t (ins s t) l lu ht hu huw (by omega) hus (fun k nm v kids ls rv e => by subst e; exact hsrt.1) (fun g hg hm => by cases hm) rfl
  have hpl : p < w.heap.size := by
    obtain ⟨⟨v1, v2, td, ⟨a1, _, _⟩, _⟩, _⟩ := h
    exact a1.lt
  have hcells : ∀ V, Below w.heap.size w V → ∀ j q, l[j]? = some q → V.cell? ⟨p, 2 + j, none⟩ = some q := fun V hb j q hq => by
    obtain ⟨⟨v1, v2, td, ⟨a1, _, _⟩, _⟩, _⟩ := h.later hb
    rw [a1.cell]
    unfold matC
    have hj := (List.getElem?_eq_some_iff.1 hq).1
    rw [List.getElem?_toArray, Nat.add_comm 2 j, List.getElem?_cons_succ, List.getElem?_cons_succ, List.getElem?_append_left hj]
    exact hq
  have hu' := hu
  have huw' := huw
  obtain ⟨k1, nm1, vv1, A1, n1, c1, B1, m1, d1, rv1, rfl⟩ := ht.trv.shp
  obtain ⟨k2, nm2, vv2, A2, n2, c2, B2, m2, d2, rv2, rfl⟩ := hu.shp
  unfold tyC at hpart hcells ⊢
  obtain ⟨W, hW⟩ : ∃ W, W = w.alloc (.cells #[.int .i64 k2, .string (ba nm2), .int .i64 vv2, .slice A2 n2 c2, .slice B2 m2 d2, .int .i64 rv2] 28) := ⟨_, rfl⟩
  have hb : Below w.heap.size w W := by rw [hW]; exact below_new w _
  have k0 : Lies W w.heap.size 28 #[.int .i64 k2, .string (ba nm2), .int .i64 vv2, .slice A2 n2 c2, .slice B2 m2 d2, .int .i64 rv2] := by rw [hW]; exact Lies.new _ _ _
  have hd : Below W.heap.size W W.drew := (Below.refl _ _).drew
  have hSS : ∀ V, Below W.heap.size W V → (V.cell? ⟨w.heap.size, 0, none⟩ = some (.int .i64 k2) ∧ V.cell? ⟨w.heap.size, 1, none⟩ = some (.string (ba nm2)) ∧ V.cell? ⟨w.heap.size, 2, none⟩ = some (.int .i64 vv2) ∧ V.cell? ⟨w.heap.size, 3, none⟩ = some (.slice A2 n2 c2) ∧ V.cell? ⟨w.heap.size, 4, none⟩ = some (.slice B2 m2 d2) ∧ V.cell? ⟨w.heap.size, 5, none⟩ = some (.int .i64 rv2)) ∧
      V.cell? ⟨p, 2, none⟩ = some (.int .i64 k1) ∧ V.cell? ⟨p, 3, none⟩ = some (.string (ba nm1)) ∧ V.cell? ⟨p, 4, none⟩ = some (.int .i64 vv1) ∧ V.cell? ⟨p, 5, none⟩ = some (.slice A1 n1 c1) ∧ V.cell? ⟨p, 6, none⟩ = some (.slice B1 m1 d1) ∧ V.cell? ⟨p, 7, none⟩ = some (.int .i64 rv1) := fun V hV => by
    have hc := hcells V (hb.trans (hV.mono hb.size))
    have kk := k0.later hV
    exact ⟨⟨kk.cell 0, kk.cell 1, kk.cell 2, kk.cell 3, kk.cell 4, kk.cell 5⟩, hc 0 _ rfl, hc 1 _ rfl, hc 2 _ rfl, hc 3 _ rfl, hc 4 _ rfl, hc 5 _ rfl⟩
  have HW := Lib.hid hW
  have HB := Lib.hid hb
  have HSS := Lib.hid hSS
  have HPART := Lib.hid hpart
  have HC := Lib.hid hc
  have HBI := Lib.hid hBI
  have HT := Lib.hid ht
  have HU := Lib.hid hu'
  have HUW := Lib.hid huw'
  have HFIT := Lib.hid hfit
  have HSRT := Lib.hid hsrt
  have HE := Lib.hid (And.intro hE1 (And.intro hE2 (And.intro hE3 (And.intro hE4 hE5))))
  have HTS := Lib.hid hts
  have HUS := Lib.hid hus
  clear hW hb hSS hpart hc hBI ht hu hu' huw huw' hsrt hE1 hE2 hE3 hE4 hE5 hts hus hcells k0 h hl6 hfit hg0
  go_enter Try.func51, Try.ntmps51
  go_wp2_with fail
  rw [← HW.out]
  obtain ⟨⟨y0, y1, y2, y3, y4, y5⟩, z0, z1, z2, z3, z4, z5⟩ := HSS.out _ hd
  obtain ⟨⟨y0', y1', y2', y3', y4', y5'⟩, z0', z1', z2', z3', z4', z5'⟩ := HSS.out _ (Below.refl W.heap.size W)
  go_still_tail 7, (by kernel_rfl)
  change wpList _ _ _ _ _ W.drew
  go_wp2_with fail
  refine (HPART.out W.drew (HB.out.trans (hd.mono HB.out.size))).mono ?_
  rintro e w5 ⟨rfl, m', T', Q', L', ks', hm', hg', hmt', hr'⟩
  have hbel5 := hmt'.bel
  obtain ⟨g5, hg5, hst⟩ : ∃ g5, g5 ≤ 900 ∧ ∃ m T Q L ks gs, MT w0 p bm bk br B s1 s2 (tyC k1 nm1 vv1 (.slice A1 n1 c1) (.slice B1 m1 d1) rv1) s.K s.R m T Q L ks w5 ∧ Good s T Q ∧ BJ w0 s t D E (tyC k1 nm1 vv1 (.slice A1 n1 c1) (.slice B1 m1 d1) rv1) m L ks gs w0.heap.size 0 [] [] g5 := by
    obtain ⟨gs', hb'⟩ := HBI.out.step HT.out HU.out HUW.out HSRT.out HUS.out hm' hr' (fun x hx => ⟨(fun h => by cases h), HE.out.2.2.2.1 x hx, .inl hx⟩)
    have hnl : w0.heap.size ∉ L' := fun hm => by have := hmt'.met _ hm; omega
    obtain ⟨h1, h2⟩ := hb'.top hnl
    refine ⟨wkS gs', ?_, m', T', Q', L', ks', gs', hmt', hg', h1⟩
    have := HTS.out
    omega
  clear hm' hg' hmt' hr'
  have HST := Lib.hid hst
  have HBEL := Lib.hid hbel5
  clear hst hbel5 y0 y1 y2 y3 y4 y5 z0 z1 z2 z3 z4 z5 y0' y1' y2' y3' y4' y5' z0' z1' z2' z3' z4' z5'
  go_wp2_with fail
  go_loopg [5] (g5 + 1) (fun g c wr => g ≤ 901 ∧ Below w0.heap.size w0 wr ∧ c = .bool true ∧ 0 < g ∧ ∃ m T Q L ks gs, MT w0 p bm bk br B s1 s2 (tyC k1 nm1 vv1 (.slice A1 n1 c1) (.slice B1 m1 d1) rv1) s.K s.R m T Q L ks wr ∧ Good s T Q ∧ BJ w0 s t D E (tyC k1 nm1 vv1 (.slice A1 n1 c1) (.slice B1 m1 d1) rv1) m L ks gs w0.heap.size 0 [] [] (g - 1))
  case atStart => exact ⟨by omega, HBEL.out, by first | rfl | simp, Nat.succ_pos _, HST.out⟩
  case round =>
    obtain ⟨hg9, hbel, rfl, hgp, m, T, Q, L, ks, gs, hmt, hgd, hbi⟩ := hrel
    have HGD := Lib.hid hgd
    clear hgd
    · obtain ⟨⟨v1, v2, td, hms, h4⟩, h5, h6, h7, h8, h9⟩ := hmt
      have hms12 := hms.at_.cell 12
      rcases List.eq_nil_or_concat ks with rfl | ⟨ks', k0, rfl⟩
      · obtain ⟨At, ct, rfl⟩ := own_len0 hms.row
        have hgs : gs = [] := List.eq_nil_of_length_eq_zero (by rw [← hbi.len]; rfl)
        subst hgs
        have e12 : wr.cell? ⟨p, 12, none⟩ = some (.slice At 0 ct) := hms12
        have HBL := Lib.hid hbel
        clear hbel hms h4 h5 h6 h7 h8 h9 hbi hms12
        go_wp2_with fail
        go_ret
        exact ⟨rfl, HBL.out⟩
      · rw [List.concat_eq_append] at hms hbi
        obtain ⟨gs', g0, rfl⟩ : ∃ a b, gs = a ++ [b] := by
          rcases List.eq_nil_or_concat gs with rfl | ⟨a, b, rfl⟩
          · have := hbi.len; simp at this
          · exact ⟨a, b, List.concat_eq_append ..⟩
        obtain ⟨b, cap, rfl, hcap, hBb, hblt, c0, c1', hrow⟩ := hms.form
        obtain ⟨hpop, hok, hbL, hbk⟩ := hbi.pop
        obtain ⟨g2, o2, d, htv, hnd, htk⟩ := hok.to_
        have hfv := hok.from_
        have hlen := hok.len
        obtain ⟨bk0, hbk0⟩ : ∃ x, x = blk k0 := ⟨_, rfl⟩
        rw [hfv] at c0
        rw [htv, ← hlen] at c1'
        rw [← hbk0] at c0 hpop hbL hbk
        obtain ⟨n, hn⟩ : ∃ n, n = g0.1.length := ⟨_, rfl⟩
        obtain ⟨Kn, hKn⟩ : ∃ n, n = ks'.length := ⟨_, rfl⟩
        have hfew := hbi.few
        have hK9 : Kn + 1 ≤ 1000 := by have := HTS.out; rw [List.length_append] at hfew; simp only [List.length_cons, List.length_nil] at hfew; omega
        have hn9 : n ≤ 1000 := by
          have h1 := hbi.wk
          rw [wkS_app] at h1
          have h2 := sizeL_lenG g0.1
          have := HTS.out
          simp only [wkS, List.map_cons, List.map_nil, List.sum_cons, List.sum_nil] at h1
          omega
        have hmsp : Lies wr p 97 (matC s1 s2 (tyC k1 nm1 vv1 (.slice A1 n1 c1) (.slice B1 m1 d1) rv1) bk br v1 v2 (.slice (some ⟨b, 0, none⟩) (ks'.length + 1) cap) bm) := hms.at_
        rw [← hKn] at hcap c0 c1' hms12 hmsp
        rw [← hn] at c0 c1' hfv
        rw [← hlen, ← hn] at hnd
        have e12 : wr.cell? ⟨p, 12, none⟩ = some (.slice (some ⟨b, 0, none⟩) (Kn + 1) cap) := hmsp.cell 12
        have hpw := hmsp.lt
        have HMS := Lib.hid hms
        have HMSP := Lib.hid hmsp
        have H4 := Lib.hid h4
        have H5 := Lib.hid (And.intro h5 (And.intro h6 (And.intro h7 (And.intro h8 h9))))
        have HROW := Lib.hid hrow
        have HPOP := Lib.hid hpop
        have HOK := Lib.hid hok
        have HBK := Lib.hid (And.intro hbL hbk)
        have HBK0 := Lib.hid hbk0
        have HN := Lib.hid hn
        have HKN := Lib.hid hKn
        have HTK := Lib.hid htk
        have HMW := Lib.hid hbi.wq
        have HMT9 := Lib.hid (show m ≤ 900 by have := hbi.wk; have := HTS.out; omega)
        have HINS := Lib.hid (hbi.ins_ g0 (by simp))
        have HBL := Lib.hid hbel
        clear hms hmsp h4 h5 h6 h7 h8 h9 hrow hpop hok hbL hbk hbk0 hn hKn htk hbi hbel hms12 hfv htv hlen hfew
        have hK1 : ((Kn : Int) + 1) - 1 = (Kn : Int) := by omega
        have hK2 : (0 : Int) ≤ (Kn : Int) := by omega
        have hK3 : (Kn : Int) < (Kn : Int) + 1 := by omega
        have hK6 : IntKind.i64.wrap (Kn : Int) = (Kn : Int) := IntWalk.i64_in _ (by omega)
        have hSS : ∀ V, Below wr.heap.size wr V → V.cell? ⟨p, 12, none⟩ = some (.slice (some ⟨b, 0, none⟩) (Kn + 1) cap) ∧ V.cell? ⟨b, Kn * 2, none⟩ = some (.slice (some ⟨bk0, 0, none⟩) n n) ∧ V.cell? ⟨b, Kn * 2 + 1, none⟩ = some (.slice (some ⟨g2, o2, none⟩) n d) := fun V hV => ⟨(hV.cell (p := ⟨p, 12, none⟩) hpw).trans e12, (hV.cell (p := ⟨b, Kn * 2, none⟩) hblt).trans c0, (hV.cell (p := ⟨b, Kn * 2 + 1, none⟩) hblt).trans c1'⟩
        have HS3 := Lib.hid hSS
        have hd0 : Below wr.heap.size wr wr.drew := (Below.refl _ _).drew
        have hd1 : Below wr.heap.size wr (wr.alloc (.cells #[.slice (some ⟨bk0, 0, none⟩) n n, .slice (some ⟨g2, o2, none⟩) n d] 129)).drew := (below_new wr _).drew
        clear hSS
        go_wp2_with fail
        go_region_held3 (fun V => V.cell? ⟨p, 12, none⟩ = some (.slice (some ⟨b, 0, none⟩) (Kn + 1) cap) ∧ V.cell? ⟨b, Kn * 2, none⟩ = some (.slice (some ⟨bk0, 0, none⟩) n n) ∧ V.cell? ⟨b, Kn * 2 + 1, none⟩ = some (.slice (some ⟨g2, o2, none⟩) n d))
          (first | with_reducible exact HS3.out _ hd0 | exact HS3.out _ hd1 | exact HS3.out _ (below_new _ _).drew) (fail)
        obtain ⟨V6, hV6⟩ : ∃ V6, V6 = (wr.alloc (.cells #[.slice (some ⟨bk0, 0, none⟩) n n, .slice (some ⟨g2, o2, none⟩) n d] 129)).drew := ⟨_, rfl⟩
        have hb6 : Below wr.heap.size wr V6 := by rw [hV6]; exact (below_new _ _).drew
        have l6 : Lies V6 wr.heap.size 129 #[.slice (some ⟨bk0, 0, none⟩) n n, .slice (some ⟨g2, o2, none⟩) n d] := by rw [hV6]; exact Lies.new wr _ _
        have hs6 : V6.heap.size = wr.heap.size + 1 := by rw [hV6]; simp
        rw [← hV6]
        have p6 := (hb6.cell (p := ⟨p, 12, none⟩) hpw).trans e12
        have hc1 : (Kn : Int) ≤ (cap : Int) := by omega
        have hc2 : Kn ≤ cap := by omega
        have HS6 := Lib.hid hs6
        have HB6 := Lib.hid hb6
        have HL6 := Lib.hid l6
        clear hV6 hb6 hs6 l6 e12 c0 c1' hd0 hd1 HS3
        go_wp2_with fail
        go_still_tail 14, (by kernel_rfl)
        change wpList _ _ _ _ _ V6.drew
        have hb7 : Below wr.heap.size wr V6.drew := HB6.out.drew
        have l7 : Lies V6.drew wr.heap.size 129 #[.slice (some ⟨bk0, 0, none⟩) n n, .slice (some ⟨g2, o2, none⟩) n d] := HL6.out
        have hs7 : V6.drew.heap.size = wr.heap.size + 1 := HS6.out
        have q7 : Lies V6.drew p 97 (matC s1 s2 (tyC k1 nm1 vv1 (.slice A1 n1 c1) (.slice B1 m1 d1) rv1) bk br v1 v2 (.slice (some ⟨b, 0, none⟩) (Kn + 1) cap) bm) := HMSP.out.later hb7
        generalize V6.drew = V7 at *
        have q7c : V7.cell? ⟨p, 12, none⟩ = some (.slice (some ⟨b, 0, none⟩) (Kn + 1) cap) := q7.cell 12
        have q7f := q7.free 12
        have q7l := q7.lt
        obtain ⟨V8, hV8⟩ : ∃ V8, V8 = V7.setCell ⟨p, 12, none⟩ (.slice (some ⟨b, 0, none⟩) Kn cap) := ⟨_, rfl⟩
        have hs8 : V8.heap.size = wr.heap.size + 1 := by rw [hV8, World.size_setCell]; exact hs7
        have hbl8 : ∀ i, i < wr.heap.size → i ≠ p → V8.heap[i]? = wr.heap[i]? := fun i h1 h2 => by rw [hV8]; exact (Below.heap_setCell _ ⟨p, 12, none⟩ _ i h2).trans (hb7.block i h1)
        have l8 : Lies V8 wr.heap.size 129 #[.slice (some ⟨bk0, 0, none⟩) n n, .slice (some ⟨g2, o2, none⟩) n d] := by rw [hV8]; exact l7.far (p := ⟨p, 12, none⟩) (by show wr.heap.size ≠ p; omega) _
        have q8 : Lies V8 p 97 (matC s1 s2 (tyC k1 nm1 vv1 (.slice A1 n1 c1) (.slice B1 m1 d1) rv1) bk br v1 v2 (.slice (some ⟨b, 0, none⟩) Kn cap) bm) := by rw [hV8]; exact q7.set 12 _
        obtain ⟨h5, h6, h7, h8, h9⟩ := H5.out
        rw [HKN.out] at q8
        have hmt8 := MT.pop HC.out HMS.out H4.out h5 h6 h7 h8 h9 HROW.out q8 (by rw [hV8]; exact hb7.os) (by rw [hV8]; exact hb7.tape) (by rw [hV8]; exact hb7.output) (by omega) hbl8
        have e0 := l8.cell 0
        have e1 := l8.cell 1
        rw [hV8] at e0 e1
        have HV8 := Lib.hid hV8
        have HM8 := Lib.hid hmt8
        clear hV8 hbl8 hs8 l8 q8 h5 h6 h7 h8 h9 hmt8 hb7 l7 q7 hs7
        go_wp2_with fail
        rw [← HV8.out]
        have hMT7 : ∀ {m T Q L ks V}, MT w0 p bm bk br B s1 s2 (tyC k1 nm1 vv1 (.slice A1 n1 c1) (.slice B1 m1 d1) rv1) s.K s.R m T Q L ks V → Below w0.heap.size w0 V := fun h => h.bel
        have hok' := HOK.out
        have htk' := HTK.out
        have hE := HE.out
        have hbk' := HBK.out
        have hcl6 : (tyC k1 nm1 vv1 (.slice A1 n1 c1) (.slice B1 m1 d1) rv1).length = 6 := rfl
        have hdrop : ∀ q, q < n → ∃ f g, g0.1[q]? = some f ∧ g0.2[q]? = some g ∧ g0.1.drop q = f :: g0.1.drop (q + 1) ∧ g0.2.drop q = g :: g0.2.drop (q + 1) := fun q hq => by
          have h1 : q < g0.1.length := by rw [← HN.out]; exact hq
          have h2 : q < g0.2.length := by rw [← hok'.len]; exact h1
          exact ⟨_, _, List.getElem?_eq_getElem h1, List.getElem?_eq_getElem h2, List.drop_eq_getElem_cons h1, List.drop_eq_getElem_cons h2⟩
        have heq := equalF_any p bk0 g2 o2 n n d
          (fun q V => ∃ m T Q L ks gs, MT w0 p bm bk br B s1 s2 (tyC k1 nm1 vv1 (.slice A1 n1 c1) (.slice B1 m1 d1) rv1) s.K s.R m T Q L ks V ∧ Good s T Q ∧ BJ w0 s t D E (tyC k1 nm1 vv1 (.slice A1 n1 c1) (.slice B1 m1 d1) rv1) m L ks gs bk0 q (g0.1.drop q) (g0.2.drop q) (wkS (gs' ++ [g0])) ∧ bk0 ∈ L ∧ bk0 ∉ ks.map blk)
          (fun _ _ => False) V8 (by omega) (Nat.le_refl _) hnd ⟨m, T, Q, L, ks', gs', HM8.out, HGD.out, by simpa using HPOP.out, hbk'.1, hbk'.2⟩
          (fun q hq V hJ => by
            obtain ⟨m, T, Q, L, ks, gs, hmt, hgd, hbi, hL, hkb⟩ := hJ
            obtain ⟨f, g, hf, hg, hdf, hdg⟩ := hdrop q hq
            rw [hdf, hdg] at hbi
            have htf := hok'.fk q f hf
            obtain ⟨htg, htgw⟩ := htk' q g hg
            rw [← HBK0.out] at htf
            obtain ⟨lf, hrf, hvf⟩ := htf.openF
            obtain ⟨lg, _, hrg, hvg⟩ := htg.open
            have hvw := TW.v htgw hrg hvg
            have hl1 := hvf.trv.len
            have hl2 := hvg.len
            have hfm : f ∈ g0.1 := List.mem_of_getElem? hf
            have hgm : g ∈ g0.2 := List.mem_of_getElem? hg
            have hgs := hok'.sm g hgm
            have hfs := srtL_mem hok'.srt f hfm
            have hwk := hbi.wk
            simp only [Ty.sizeL] at hwk
            have hts := HTS.out
            have hedge : ∀ x, rtOf lf x → (bk0, q, x) ∈ E := fun x hx => by
              obtain ⟨nn, cc, hx⟩ := hx
              refine hE.2.2.2.2 bk0 q x nn cc (hbi.LD _ hL) ?_
              have := hrf 3 _ hx
              exact this
            have hnew : ∀ x, rtOf lf x → x ∉ L := fun x hx hm => by
              have he := hedge x hx
              rcases hbi.vis x hm with hr | ⟨P, j, a1, a2, a3, a4⟩
              · exact (hE.2.2.1 _ he).1 hr
              · obtain ⟨e1, e2⟩ := nodup_child hE.1 a1 he
                have := a4 e1
                omega
            refine ⟨lf, lg, hrf.laterB (by omega) hmt.bel, hrg.laterB (by omega) hmt.bel, hvf.trv.shp, hvg.shp, fun V' hV' => ?_⟩
            have hfg := hbi.cur
            rw [insL] at hfg
            injection hfg with hfg _
            refine (part_ins HC.out hcl6 HFIT.out (hmt.later hV') hgd (by have := hbi.few; omega) (by omega) f g lf lg hvf hvg hvw (by omega) hgs (fun k nm v kids ls rv e => by subst e; exact hfs.1) hnew hfg).mono ?_
            rintro e W' ⟨rfl, m', T', Q', L', ks'', hm', hgd', hmt', hrel⟩
            refine ⟨true, rfl, fun _ => ?_, fun h => by cases h⟩
            obtain ⟨gs'', hbi'⟩ := hbi.step hvf hvg hvw hfs hgs hm' hrel (fun x hx => ⟨hnew x hx, (hE.2.2.1 _ (hedge x hx)).2, .inr ⟨hedge x hx, hL, hkb⟩⟩)
            obtain ⟨hL', hkb'⟩ := pRel_keep hrel hL hkb (fun nn x hx => hnew x ⟨nn, nn, by
              obtain ⟨kk, knm, kvv, kA, kn, kc, kB, km, kd, krv, rfl⟩ := hvf.trv.shp
              exact congrArg some hx⟩)
            exact ⟨m', T', Q', L', ks'', gs'', hmt', hgd', hbi', hL', hkb'⟩)
        have HEQ := Lib.hid heq
        clear heq hdrop hMT7 hok' htk' hE hbk' hcl6 e0 e1
        refine HEQ.out.mono ?_
        rintro e w9 ⟨b9, rfl, hb9t, hb9f⟩
        have hn0 : 0 < n := by rw [HN.out]; exact HOK.out.pos
        have hmw := HMW.out
        cases b9 with
        | false =>
          obtain ⟨_, _, hF⟩ := hb9f rfl
          exact hF.elim
        | true =>
          obtain ⟨m', T', Q', L', ks'', gs'', hmt', hgd', hbi', _, _⟩ := hb9t rfl
          rw [List.drop_eq_nil_of_le (by rw [HN.out]; exact Nat.le_refl _), List.drop_eq_nil_of_le (by rw [HN.out, ← HOK.out.len]; exact Nat.le_refl _)] at hbi'
          obtain ⟨hbt, hlt⟩ := hbi'.top (P' := w0.heap.size) (fun hm => by have := hmt'.met _ hm; omega)
          simp only [Ty.sizeL, Nat.add_zero] at hmw
          have HBT := Lib.hid hbt
          have HMT := Lib.hid hmt'
          have HGD' := Lib.hid hgd'
          obtain ⟨g1, hg1⟩ : ∃ x, x = wkS gs'' := ⟨_, rfl⟩
          have HG1 := Lib.hid hg1
          have hlt1 := Nat.le_trans hlt hmw
          rw [← hg1] at hlt1
          clear hb9t hb9f hbi' hbt hmt' hgd' hlt hg1 hmw
          go_wp2_with fail
          go_roundg (g1 + 1)
          case rel => exact ⟨by omega, HMT.out.bel, rfl, Nat.succ_pos _, m', T', Q', L', ks'', gs'', HMT.out, HGD'.out, by rw [Nat.add_sub_cancel, HG1.out]; exact HBT.out⟩
          case measure => omega
end Go.Proofs.Ythdfomcpoofkaaa.Si
