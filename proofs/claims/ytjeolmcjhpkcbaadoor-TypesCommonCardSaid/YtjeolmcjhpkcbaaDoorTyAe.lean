/- Same, at a type and itself, and at two kinds that are unlike. -/
import Derived.Test.YtjeolmcjhpkcbaaDoorTyAd
import Derived.Test.YtjeolmcjhpkcbaaDoorTyC
import Derived.LoopTactic
import Derived.Deep.LoopGhost
import Derived.Deep.RegionHeld3
import Derived.Deep.AppendLies
import Derived.Outline
namespace Go.Proofs.YtjeolmcjhpkcbaaDoor
open Go.RowKit

def prs (L : List Addr) : List Value := L.flatMap fun x => [ptrV x, ptrV x]
theorem prs_len : ∀ L : List Addr, (prs L).length = L.length * 2
  | [] => rfl
  | x :: L => by
    have := prs_len L
    unfold prs at this ⊢
    rw [List.flatMap_cons, List.length_append, this]
    simp only [List.length_cons, List.length_nil]
    omega
theorem prs_app (a b : List Addr) : prs (a ++ b) = prs a ++ prs b := by unfold prs; rw [List.flatMap_append]
theorem prs_get : ∀ (L : List Addr) (i : Nat) x, L[i]? = some x → (prs L)[i * 2]? = some (ptrV x) ∧ (prs L)[i * 2 + 1]? = some (ptrV x)
  | [], i, x, h => by simp at h
  | y :: L, 0, x, h => by
    have : y = x := by simpa using h
    subst this
    exact ⟨rfl, rfl⟩
  | y :: L, i + 1, x, h => by
    have ih := prs_get L i x (by simpa using h)
    have e : prs (y :: L) = ptrV y :: ptrV y :: prs L := rfl
    rw [e, show (i + 1) * 2 = i * 2 + 2 by omega]
    exact ih
/-- The last item is taken away. -/
theorem own_pop {w : World} {B g j c sz : Nat} {e : TypeId} {xs : List Value} (h : w.ownsRow B e sz (.slice (some ⟨g, 0, none⟩) (j + 1) c) (j + 1) xs) : w.ownsRow B e sz (.slice (some ⟨g, 0, none⟩) j c) j (xs.take (j * sz)) := by
  have h1 := h.1
  have hm : j * sz ≤ (j + 1) * sz := Nat.mul_le_mul_right _ (by omega)
  refine ⟨by rw [List.length_take]; omega, ?_⟩
  rcases h.2 with ⟨h0, _⟩ | ⟨g', cap, cur, e1, e2, e3, e4, e5, e6, e7⟩
  · cases h0
  · injection e1 with e1 _ e12
    injection e1 with e1
    injection e1 with e1
    subst e1 e12
    refine .inr ⟨g, c, cur, rfl, e2, e3, by omega, e5, e6, ?_⟩
    rw [← e7, List.take_take, Nat.min_eq_left hm]
theorem info_pair : (Tryd.prog.info? 65).map (fun i => (i.zero, i.size, i.bytes)) = some (some (.agg #[.pointer none, .pointer none]), 2, 16) := by kernel_rfl
theorem own_here {w : World} {B g j c sz : Nat} {e : TypeId} {xs : List Value} (h : w.ownsRow B e sz (.slice (some ⟨g, 0, none⟩) j c) j xs) : j ≤ c ∧ B ≤ g ∧ g < w.heap.size ∧ ∀ i u, xs[i]? = some u → w.cell? ⟨g, i, none⟩ = some u := by
  rcases own_cells h with ⟨h0, _⟩ | ⟨g', cap, e1, e2, _, ⟨cs, t, hh⟩, e3⟩
  · cases h0
  · injection e1 with e1 _ e12
    injection e1 with e1
    injection e1 with e1
    subst e1 e12
    have := own_block h g rfl
    exact ⟨e2, this.1, this.2, e3⟩

theorem keep4 {w w' : World} {a b c d : Addr} {va vb vc vd : Value} (h : w.cell? a = some va ∧ w.cell? b = some vb ∧ w.cell? c = some vc ∧ w.cell? d = some vd) (hk : ∀ p : Addr, (p = a ∨ p = b ∨ p = c ∨ p = d) → w'.cell? p = w.cell? p) : w'.cell? a = some va ∧ w'.cell? b = some vb ∧ w'.cell? c = some vc ∧ w'.cell? d = some vd :=
  ⟨(hk a (by simp)).trans h.1, (hk b (by simp)).trans h.2.1, (hk c (by simp)).trans h.2.2.1, (hk d (by simp)).trans h.2.2.2⟩
set_option maxRecDepth 100000 in
set_option maxHeartbeats 8000000 in
theorem same_self (l : List Value) (t : Ty) (w : World) (ht : TV w t l) (hsz : t.size ≤ 90000000) :
    Calls Tryd.prog 17 #[.agg l.toArray, .agg l.toArray] w fun e w' => e = .returned (.bool true) ∧ Below w.heap.size w w' := by
  have htv := ht
  obtain ⟨k, nm, v, kids, ls, rv⟩ := t
  obtain ⟨kv, lv, rfl, hsk, hsl, hks⟩ := ht
  obtain ⟨A, q, rfl, hq, hql, hqg⟩ := slok_form hsk
  have hat : ∀ x ∈ rowA (.slice A kids.length q), AtCells w x := by
    intro x hx
    obtain ⟨i, hi⟩ := List.mem_iff_getElem?.1 hx
    have hil : i < kids.length := by have := (List.getElem?_eq_some_iff.1 hi).1; omega
    rw [rowA_get hsk hil] at hi
    injection hi with hi
    rw [← hi]
    exact (hks i _ (List.getElem?_eq_getElem hil)).at_
  have hkl : kids.length ≤ 90000000 := by
    have : ∀ l : List Ty, l.length ≤ Ty.sizeL l := by
      intro l
      induction l with
      | nil => simp [Ty.sizeL]
      | cons t r ih =>
        have : 1 ≤ t.size := by cases t; simp only [Ty.size]; omega
        simp only [Ty.sizeL, List.length_cons]; omega
    have := this kids
    simp only [Ty.size] at hsz
    omega
  obtain ⟨w1, hw1⟩ : ∃ w1, w1 = (w.alloc (.cells (tyC k nm v (.slice A kids.length q) lv rv).toArray 27)).alloc (.cells (tyC k nm v (.slice A kids.length q) lv rv).toArray 27) := ⟨_, rfl⟩
  have hb1 : Below w.heap.size w w1 := by rw [hw1]; exact ((Below.refl _ w).alloc (Nat.le_refl _) _).alloc (by simp) _
  have hs1 : w1.heap.size = w.heap.size + 2 := by rw [hw1]; simp
  have la : Lies w1 w.heap.size 27 (tyC k nm v (.slice A kids.length q) lv rv).toArray := by rw [hw1]; exact (Lies.new w _ _).alloc _
  have lb : Lies w1 (w.heap.size + 1) 27 (tyC k nm v (.slice A kids.length q) lv rv).toArray := by rw [hw1]; exact Lies.new' _ _ _ (by simp)
  have hra : ReadsAt w1 ⟨w.heap.size, 0, none⟩ (tyC k nm v (.slice A kids.length q) lv rv) := fun i u hu => by
    rw [show (⟨w.heap.size, 0 + i, none⟩ : Addr) = ⟨w.heap.size, i, none⟩ by rw [Nat.zero_add], la.cell]
    simpa using hu
  have hrb : ReadsAt w1 ⟨w.heap.size + 1, 0, none⟩ (tyC k nm v (.slice A kids.length q) lv rv) := fun i u hu => by
    rw [show (⟨w.heap.size + 1, 0 + i, none⟩ : Addr) = ⟨w.heap.size + 1, i, none⟩ by rw [Nat.zero_add], lb.cell]
    simpa using hu
  have hsl1 := hsl.later hb1
  obtain ⟨A2, q2, rfl, _⟩ := hsl.slice
  obtain ⟨i0, hi, hy0, hy1, hy2⟩ := info_parts info_pair
  have hmm := @run_makeMap Tryd.prog
  unfold tyC at hw1
  have HW := Lib.hid hw1
  have HS1 := Lib.hid hs1
  have HQ := Lib.hid hqg
  have HQL := Lib.hid hql
  have HAT := Lib.hid hat
  have HRA := Lib.hid hra
  have HRB := Lib.hid hrb
  have HSL := Lib.hid hsl1
  have HLA := Lib.hid la
  have HLB := Lib.hid lb
  clear hw1 hs1 hqg hql hat hra hrb hsl1 la lb hsk hsl hks htv
  unfold tyC
  go_enter Tryd.func17, Tryd.ntmps17
  go_wp2_with fail
  rw [← HW.out]
  obtain ⟨m2, hm2⟩ : ∃ m2, m2 = w1.alloc (.map #[] 0) := ⟨_, rfl⟩
  rw [← hm2]
  obtain ⟨m3, hm3⟩ : ∃ m3, m3 = m2.alloc (.cells #[.pointer (some ⟨w.heap.size, 0, none⟩), .pointer (some ⟨w.heap.size + 1, 0, none⟩)] 65) := ⟨_, rfl⟩
  rw [← hm3]
  have z1 := HS1.out
  have z2 : m2.heap.size = w.heap.size + 3 := by rw [hm2, World.size_alloc, z1]
  have z3 : m3.heap.size = w.heap.size + 4 := by rw [hm3, World.size_alloc, z2]
  have b2 : Below w1.heap.size w1 m2 := by rw [hm2]; exact below_new _ _
  have b3 : Below m2.heap.size m2 m3 := by rw [hm3]; exact below_new _ _
  have b13 : Below w1.heap.size w1 m3 := b2.trans (b3.mono (by omega))
  have pm3 : PMap m3 (w.heap.size + 2) [] := by
    have h := PMap.made w1
    rw [← hm2, z1] at h
    exact h.keep (b3.block _ (by omega))
  have l3 : Lies m3 (w.heap.size + 3) 65 #[.pointer (some ⟨w.heap.size, 0, none⟩), .pointer (some ⟨w.heap.size + 1, 0, none⟩)] := by rw [hm3]; exact Lies.new' _ _ _ z2
  have ow3 : m3.ownsRow (w.heap.size + 3) 65 2 (.slice (some ⟨w.heap.size + 3, 0, none⟩) 1 1) 1 [.pointer (some ⟨w.heap.size, 0, none⟩), .pointer (some ⟨w.heap.size + 1, 0, none⟩)] := ⟨rfl, .inr ⟨_, 1, _, rfl, Nat.le_refl _, l3, Nat.le_refl _, by unfold maxLen; omega, rfl, rfl⟩⟩
  have B13 := Lib.hid b13
  have PM3 := Lib.hid pm3
  have L3 := Lib.hid l3
  have OW3 := Lib.hid ow3
  have Z1 := Lib.hid z1
  have Z3 := Lib.hid z3
  clear hm2 hm3 z2 b2 b3 b13 pm3 l3 ow3 z1 z3
  generalize hN : w.heap.size = N at *
  go_loopg [6] (kids.length + 2) (fun gh td wr => (td = .slice (some ⟨N + 3, 0, none⟩) 1 1 ∧ wr = m3 ∧ kids.length + 2 ≤ gh) ∨
    ∃ j g c, j ≤ kids.length ∧ td = .slice (some ⟨g, 0, none⟩) j c ∧ wr.ownsRow (N + 3) 65 2 td j (prs ((rowA (.slice A kids.length q)).take j)) ∧ PMap wr (N + 2) [(⟨N, 0, none⟩, ⟨N + 1, 0, none⟩)] ∧ Below w1.heap.size w1 wr ∧ N + 4 ≤ wr.heap.size ∧ j + 1 ≤ gh)
  case atStart => exact .inl ⟨by first | rfl | simp, rfl, Nat.le_refl _⟩
  case round =>
    rcases hrel with ⟨rfl, rfl, hgh⟩ | ⟨j, g, c, hj, rfl, hown, hpm, hbw, hsz4, hgh⟩
    · have p0 := L3.out.cell 0
      have p1 := L3.out.cell 1
      have hbn := below_new wr (.cells #[.pointer (some ⟨N, 0, none⟩), .pointer (some ⟨N + 1, 0, none⟩)] 65)
      have hz3 := Z3.out
      have hz1 := Z1.out
      have hB0 : Below w1.heap.size w1 (wr.alloc (.cells #[.pointer (some ⟨N, 0, none⟩), .pointer (some ⟨N + 1, 0, none⟩)] 65)) := B13.out.trans (hbn.mono (by omega))
      have hla := HLA.out.later hB0
      have hlb := HLB.out.later hB0
      have hpm := PM3.out.keep (hbn.block _ (by omega))
      have hj := join_new _ (N + 2) [] ⟨N, 0, none⟩ ⟨N + 1, 0, none⟩ (by simp) hpm ⟨_, _, hla⟩ ⟨_, _, hlb⟩ (by simp) rfl rfl
      have how := own_pop (own_later OW3.out hbn)
      have lp := Lies.new' wr 65 #[.pointer (some ⟨N, 0, none⟩), .pointer (some ⟨N + 1, 0, none⟩)] hz3
      have HJ := Lib.hid hj
      have HOW := Lib.hid how
      have HLP := Lib.hid lp
      have HB0 := Lib.hid hB0
      have HPS := Lib.hid hbn.size
      clear hj how lp hB0 hbn hpm hla hlb
      go_wp2_with fail
      refine HJ.out.mono ?_
      rintro e W1 ⟨rfl, hpm1, hbt⟩
      have hB1 : Below w1.heap.size w1 W1 := HB0.out.trans (hbt.below (by omega) HB0.out.size)
      have lp1 : Lies W1 (N + 4) 65 #[.pointer (some ⟨N, 0, none⟩), .pointer (some ⟨N + 1, 0, none⟩)] := (hbt.block _ HLP.out.lt (by omega)).trans HLP.out
      have ho1 := own_same HOW.out (w' := W1) (fun g hg hlt => hbt.block g hlt (by omega))
      have hsz1 : N + 5 ≤ W1.heap.size := by have := hbt.size; simp at this; omega
      have hsa := sameAlone_same W1 N 0 (N + 1) 0 k nm v A kids.length q (.slice A2 ls.length q2) ls rv (HRA.out.keep (hB1.block _ (by show N < w1.heap.size; omega))) (HRB.out.keep (hB1.block _ (by show N + 1 < w1.heap.size; omega))) (HSL.out.later hB1)
      have q0 := lp1.cell 0
      have q1 := lp1.cell 1
      have HSA := Lib.hid hsa
      have HO1 := Lib.hid ho1
      have HPM1 := Lib.hid hpm1
      clear hsa ho1 hpm1 HJ HOW HLP
      go_wp2_with fail
      refine HSA.out.mono ?_
      rintro e W2 ⟨rfl, hb2⟩
      have hB2 : Below w1.heap.size w1 W2 := hB1.trans (hb2.mono hB1.size)
      have lp2 := lp1.later hb2
      have r0 := lp2.cell 0
      have r1 := lp2.cell 1
      have ho2 := own_later HO1.out hb2
      have hpm2 := HPM1.out.keep (hb2.block _ HPM1.out.lt)
      have x3 : W2.cell? ⟨N, 3, none⟩ = some (.slice A kids.length q) := (HLA.out.later hB2).cell 3
      have hsz2 : N + 5 ≤ W2.heap.size := by have := hb2.size; omega
      have HLP2 := Lib.hid lp2
      have HO2 := Lib.hid ho2
      have HPM2 := Lib.hid hpm2
      clear ho2 hpm2 HSA HO1 HPM1 lp1 q0 q1 lp2
      go_wp2
      go_loopw [6, 42] (fun td i Wr => ∃ j g c, j ≤ kids.length ∧ td = .slice (some ⟨g, 0, none⟩) j c ∧ i = .int .i64 j ∧ Wr.ownsRow (N + 3) 65 2 td j (prs ((rowA (.slice A kids.length q)).take j)) ∧ PMap Wr (N + 2) [(⟨N, 0, none⟩, ⟨N + 1, 0, none⟩)] ∧ Below w1.heap.size w1 Wr ∧ N + 5 ≤ Wr.heap.size ∧ g ≠ N + 4 ∧ Lies Wr (N + 4) 65 #[.pointer (some ⟨N, 0, none⟩), .pointer (some ⟨N + 1, 0, none⟩)]) (fun _ i _ => kids.length - (intOf i).toNat)
      case atStart => exact ⟨0, N + 3, 1, Nat.zero_le _, by first | rfl | simp, rfl, HO2.out, HPM2.out, hB2, hsz2, by omega, HLP2.out⟩
      case round =>
        obtain ⟨j, g, c, hj, rfl, rfl, hown, hpm, hbw, hsz5, hgn, hlp⟩ := hrel
        have s0 := hlp.cell 0
        have s1 := hlp.cell 1
        have y3 : wr.cell? ⟨N, 3, none⟩ = some (.slice A kids.length q) := (HLA.out.later hbw).cell 3
        have y4 : wr.cell? ⟨N + 1, 3, none⟩ = some (.slice A kids.length q) := (HLB.out.later hbw).cell 3
        by_cases hlt : j < kids.length
        · obtain ⟨g5, o5, rfl, hx5⟩ := HQ.out j hlt
          have hjq : j < q := by omega
          have hji : (j : Int) < (kids.length : Int) := by omega
          have HOW := Lib.hid hown
          have HPM := Lib.hid hpm
          have HLPr := Lib.hid hlp
          clear hown hpm hlp
          have hS : wr.cell? ⟨N + 4, 0, none⟩ = some (.pointer (some ⟨N, 0, none⟩)) ∧ wr.cell? ⟨N + 4, 1, none⟩ = some (.pointer (some ⟨N + 1, 0, none⟩)) ∧ wr.cell? ⟨N, 3, none⟩ = some (.slice (some ⟨g5, o5, none⟩) kids.length q) ∧ wr.cell? ⟨N + 1, 3, none⟩ = some (.slice (some ⟨g5, o5, none⟩) kids.length q) := ⟨s0, s1, y3, y4⟩
          have hbn := below_new wr (.cells #[.pointer (some ⟨g5, o5 + j * 6, none⟩), .pointer (some ⟨g5, o5 + j * 6, none⟩)] 65)
          have hS2 := keep4 (w' := (wr.alloc (.cells #[.pointer (some ⟨g5, o5 + j * 6, none⟩), .pointer (some ⟨g5, o5 + j * 6, none⟩)] 65)).drew) hS (fun p hp => hbn.cell (p := p) (by rcases hp with rfl | rfl | rfl | rfl <;> (show _ < _; simp; omega)))
          have hone : ∀ u ∈ [Value.pointer (some (⟨g5, o5 + j * 6, none⟩ : Addr)), Value.pointer (some (⟨g5, o5 + j * 6, none⟩ : Addr))], u.oneCell' = true := by simp [Value.oneCell']
          have hHere := own_here HOW.out
          have hg5N : N + 3 ≤ g ∧ g < wr.heap.size := ⟨hHere.2.1, hHere.2.2.1⟩
          have HS := Lib.hid hS
          have HS2 := Lib.hid hS2
          have HBN := Lib.hid hbn
          have HX5 := Lib.hid hx5
          have HBW := Lib.hid hbw
          clear hS hS2 hHere hbn hx5 hbw
          go_wp2
          go_region_held3 (fun w' => w'.cell? ⟨N + 4, 0, none⟩ = some (.pointer (some ⟨N, 0, none⟩)) ∧ w'.cell? ⟨N + 4, 1, none⟩ = some (.pointer (some ⟨N + 1, 0, none⟩)) ∧ w'.cell? ⟨N, 3, none⟩ = some (.slice (some ⟨g5, o5, none⟩) kids.length q) ∧ w'.cell? ⟨N + 1, 3, none⟩ = some (.slice (some ⟨g5, o5, none⟩) kids.length q))
            (first | exact HS.out | exact HS2.out | exact keep4 HS2.out (fun p hp => hgr9.cell_far p (by rcases hp with rfl | rfl | rfl | rfl <;> (show _ < (wr.alloc _).heap.size; simp; omega)) (fun e => by injection e with e; rcases hp with rfl | rfl | rfl | rfl <;> (simp at e; omega))))
            (first | (refine step_append_lies _ rfl (.tmp 45) (.tmp 61) 66 rfl (N + 3) 65 i0 (.agg #[.pointer none, .pointer none]) 2 16 Tryd.underlying66 hi hy0 hy1 hy2 rfl (by decide) _ j _ rfl (own_later HOW.out HBN.out.drew) ⟨wr.heap.size, 0, none⟩ 1 1 [.pointer (some ⟨g5, o5 + j * 6, none⟩), .pointer (some ⟨g5, o5 + j * 6, none⟩)] rfl rfl (World.news_of_block (Lies.new wr 65 #[.pointer (some ⟨g5, o5 + j * 6, none⟩), .pointer (some ⟨g5, o5 + j * 6, none⟩)])) hone (by decide) (by unfold maxLen; omega) (by omega) (by show N + 3 ≤ (wr.alloc _).heap.size; rw [World.size_alloc]; omega) _ rfl ?_; intro g9 c9 W9 hown9 hgr8 hat8 hlt9; have hgr9 : World.grownBy (wr.alloc (.cells #[.pointer (some ⟨g5, o5 + j * 6, none⟩), .pointer (some ⟨g5, o5 + j * 6, none⟩)] 65)) W9 (some g) := ⟨hgr8.os, hgr8.tape, hgr8.output, hgr8.size, hgr8.block⟩; have hat9 : some g = some g9 ∨ g9 = (wr.alloc (.cells #[.pointer (some ⟨g5, o5 + j * 6, none⟩), .pointer (some ⟨g5, o5 + j * 6, none⟩)] 65)).heap.size := hat8; clear hgr8 hat8))
          have hx5 := HX5.out
          have htk : (rowA (.slice (some ⟨g5, o5, none⟩) kids.length q)).take (j + 1) = (rowA (.slice (some ⟨g5, o5, none⟩) kids.length q)).take j ++ [⟨g5, o5 + j * 6, none⟩] := take_step _ _ _ hx5
          have hblk : ∀ b, b < wr.heap.size → b ≠ g → W9.heap[b]? = wr.heap[b]? := fun b hb hbg =>
            (hgr9.block b (by show b < (wr.alloc _).heap.size; rw [World.size_alloc]; omega) (fun e => hbg (by injection e))).trans (Below.heap_alloc wr _ b hb)
          have hown10 : W9.ownsRow (N + 3) 65 2 (.slice (some ⟨g9, 0, none⟩) (j + 1) c9) (j + 1) (prs ((rowA (.slice (some ⟨g5, o5, none⟩) kids.length q)).take (j + 1))) := by
            rw [htk, prs_app]; exact hown9
          have hsz9 : N + 5 ≤ W9.heap.size := by
            have h1 : (wr.alloc (.cells #[.pointer (some ⟨g5, o5 + j * 6, none⟩), .pointer (some ⟨g5, o5 + j * 6, none⟩)] 65)).heap.size ≤ W9.heap.size := hgr9.size
            rw [World.size_alloc] at h1
            omega
          have hg9 : g9 ≠ N + 4 := by
            rcases hat9 with h1 | h1
            · injection h1 with h1; rw [← h1]; exact hgn
            · rw [World.size_alloc] at h1; omega
          have hB9 : Below w1.heap.size w1 W9 := HBW.out.trans ⟨hgr9.os, hgr9.tape, hgr9.output, by have h1 : (wr.alloc (.cells #[.pointer (some ⟨g5, o5 + j * 6, none⟩), .pointer (some ⟨g5, o5 + j * 6, none⟩)] 65)).heap.size ≤ W9.heap.size := hgr9.size; rw [World.size_alloc] at h1; omega, fun b hb => hblk b (by have := HBW.out.size; omega) (by omega)⟩
          have hpm9 : PMap W9 (N + 2) [(⟨N, 0, none⟩, ⟨N + 1, 0, none⟩)] := HPM.out.keep (hblk _ HPM.out.lt (by omega))
          have hlp9 : Lies W9 (N + 4) 65 #[.pointer (some ⟨N, 0, none⟩), .pointer (some ⟨N + 1, 0, none⟩)] := (hblk _ HLPr.out.lt (by omega)).trans HLPr.out
          have HOA := Lib.hid hown10
          have HPA := Lib.hid hpm9
          have HLA9 := Lib.hid hlp9
          clear hown9 hown10 hpm9 hlp9 hgr9 hat9 hlt9 hblk htk hx5
          go_wp2_with fail
          go_roundw
          case rel => exact ⟨j + 1, g9, c9, by omega, rfl, by simp, HOA.out, HPA.out, hB9, hsz9, hg9, HLA9.out⟩
          case measure => (simp [intOf] <;> omega)
        · obtain rfl : j = kids.length := by omega
          go_wp2
          go_roundg (kids.length + 1)
          case measure => omega
          case rel => exact .inr ⟨kids.length, g, c, Nat.le_refl _, rfl, hown, hpm, hbw, by omega, by omega⟩
    · rcases Nat.eq_zero_or_pos j with rfl | hj0
      · go_wp2
        go_ret
        exact ⟨rfl, by rw [hN]; exact hb1.trans (hbw.mono (by have := hb1.size; omega))⟩
      · obtain ⟨m, rfl⟩ : ∃ m, j = m + 1 := ⟨j - 1, by omega⟩
        have hml : m < (rowA (.slice A kids.length q)).length := by rw [HQL.out]; omega
        have hx? : (rowA (.slice A kids.length q))[m]? = some (rowA (.slice A kids.length q))[m] := List.getElem?_eq_getElem hml
        have hxm := HAT.out _ (List.getElem_mem hml)
        obtain ⟨x, hx⟩ : ∃ x, (rowA (.slice A kids.length q))[m] = x := ⟨_, rfl⟩
        rw [hx] at hx? hxm
        have hp := prs_get ((rowA (.slice A kids.length q)).take (m + 1)) m x (by rw [List.getElem?_take_of_lt (by omega)]; exact hx?)
        have hHere := own_here hown
        have p0 : wr.cell? ⟨g, m * 2, none⟩ = some (.pointer (some x)) := hHere.2.2.2 _ _ hp.1
        have p1 : wr.cell? ⟨g, m * 2 + 1, none⟩ = some (.pointer (some x)) := hHere.2.2.2 _ _ hp.2
        have hmc : m < c := by omega
        have hbn := below_new wr (.cells #[.pointer (some x), .pointer (some x)] 65)
        have hB0 : Below w1.heap.size w1 (wr.alloc (.cells #[.pointer (some x), .pointer (some x)] 65)) := hbw.trans (hbn.mono hbw.size)
        have hxat : AtCells (wr.alloc (.cells #[.pointer (some x), .pointer (some x)] 65)) x := by
          have hxl : x.block < N := by have := hxm.lt; omega
          have h1 := hxm.keep (hb1.block _ hxl)
          exact h1.keep (hB0.block _ h1.lt)
        have hjn := join_same _ (N + 2) [(⟨N, 0, none⟩, ⟨N + 1, 0, none⟩)] x (hpm.keep (hbn.block _ hpm.lt)) hxat (by
          intro p hp
          simp only [List.mem_singleton] at hp
          subst hp
          exact ⟨_, _, HLA.out.later hB0⟩) (by
          have h1 : x.block < N := by have := hxm.lt; omega
          unfold plook
          rw [if_neg (fun e => by rw [e] at h1; simp at h1)]
          rfl)
        have how := own_pop (own_later hown hbn)
        have hpt : (prs ((rowA (.slice A kids.length q)).take (m + 1))).take (m * 2) = prs ((rowA (.slice A kids.length q)).take m) := by
          rw [take_step _ _ _ hx?, prs_app, List.take_append_of_le_length (by rw [prs_len, List.length_take]; omega)]
          exact List.take_of_length_le (by rw [prs_len, List.length_take]; omega)
        rw [hpt] at how
        have HJ := Lib.hid hjn
        have HOW := Lib.hid how
        have HPM := Lib.hid (hpm.keep (hbn.block _ hpm.lt))
        have HB0 := Lib.hid hB0
        have HS4 := Lib.hid hbn.size
        clear hjn how hpt hp hx hx? hHere hown hpm hbw hbn hB0 hxat hml
        go_wp2_with fail
        refine HJ.out.mono ?_
        rintro e W1 ⟨rfl, hb2⟩
        have ho1 := own_later HOW.out hb2
        have hpm1 := HPM.out.keep (hb2.block _ HPM.out.lt)
        have hB1 := HB0.out.trans (hb2.mono HB0.out.size)
        have hs1 : N + 4 ≤ W1.heap.size := by have := hb2.size; have := HS4.out; omega
        have HO1 := Lib.hid ho1
        have HP1 := Lib.hid hpm1
        clear ho1 hpm1 HJ HOW HPM
        go_wp2
        go_roundg (m + 1)
        case measure => omega
        case rel => exact .inr ⟨m, g, c, by omega, by first | rfl | simp, HO1.out, HP1.out, hB1, hs1, Nat.le_refl _⟩

set_option maxRecDepth 100000 in
set_option maxHeartbeats 8000000 in
theorem same_kinds (k : Int) (nm : Str) (v : Int) (kids : List Ty) (ls : List Str) (rv : Int) (k' : Int) (nm' : Str) (v' : Int) (kids' : List Ty) (ls' : List Str) (rv' : Int) (l l' : List Value) (w : World) (ht : TV w (.mk k nm v kids ls rv) l) (ht' : TV w (.mk k' nm' v' kids' ls' rv') l') (hk : k ≠ k') :
    Calls Tryd.prog 17 #[.agg l.toArray, .agg l'.toArray] w fun e w' => e = .returned (.bool false) ∧ Below w.heap.size w w' := by
  obtain ⟨kv, lv, rfl, hsk, hsl, _⟩ := ht
  obtain ⟨kv', lv', rfl, hsk', hsl', _⟩ := ht'
  obtain ⟨A, q, rfl, _⟩ := hsk
  obtain ⟨A', q', rfl, _⟩ := hsk'
  obtain ⟨A2, q2, rfl, _⟩ := hsl.slice
  obtain ⟨A2', q2', rfl, _⟩ := hsl'.slice
  obtain ⟨w1, hw1⟩ : ∃ w1, w1 = (w.alloc (.cells (tyC k nm v (.slice A kids.length q) (.slice A2 ls.length q2) rv).toArray 27)).alloc (.cells (tyC k' nm' v' (.slice A' kids'.length q') (.slice A2' ls'.length q2') rv').toArray 27) := ⟨_, rfl⟩
  have hb1 : Below w.heap.size w w1 := by rw [hw1]; exact ((Below.refl _ w).alloc (Nat.le_refl _) _).alloc (by simp) _
  have hs1 : w1.heap.size = w.heap.size + 2 := by rw [hw1]; simp
  have la : Lies w1 w.heap.size 27 (tyC k nm v (.slice A kids.length q) (.slice A2 ls.length q2) rv).toArray := by rw [hw1]; exact (Lies.new w _ _).alloc _
  have lb : Lies w1 (w.heap.size + 1) 27 (tyC k' nm' v' (.slice A' kids'.length q') (.slice A2' ls'.length q2') rv').toArray := by rw [hw1]; exact Lies.new' _ _ _ (by simp)
  have hra : ReadsAt w1 ⟨w.heap.size, 0, none⟩ (tyC k nm v (.slice A kids.length q) (.slice A2 ls.length q2) rv) := fun i u hu => by
    rw [show (⟨w.heap.size, 0 + i, none⟩ : Addr) = ⟨w.heap.size, i, none⟩ by rw [Nat.zero_add], la.cell]
    simpa using hu
  have hrb : ReadsAt w1 ⟨w.heap.size + 1, 0, none⟩ (tyC k' nm' v' (.slice A' kids'.length q') (.slice A2' ls'.length q2') rv') := fun i u hu => by
    rw [show (⟨w.heap.size + 1, 0 + i, none⟩ : Addr) = ⟨w.heap.size + 1, i, none⟩ by rw [Nat.zero_add], lb.cell]
    simpa using hu
  have hmm := @run_makeMap Tryd.prog
  unfold tyC at hw1
  have HW := Lib.hid hw1
  have HS1 := Lib.hid hs1
  have HRA := Lib.hid hra
  have HRB := Lib.hid hrb
  have HLA := Lib.hid la
  have HLB := Lib.hid lb
  clear hw1 hs1 hra hrb la lb hsl hsl'
  unfold tyC
  go_enter Tryd.func17, Tryd.ntmps17
  go_wp2_with fail
  rw [← HW.out]
  obtain ⟨m2, hm2⟩ : ∃ m2, m2 = w1.alloc (.map #[] 0) := ⟨_, rfl⟩
  rw [← hm2]
  obtain ⟨m3, hm3⟩ : ∃ m3, m3 = m2.alloc (.cells #[.pointer (some ⟨w.heap.size, 0, none⟩), .pointer (some ⟨w.heap.size + 1, 0, none⟩)] 65) := ⟨_, rfl⟩
  rw [← hm3]
  have z1 := HS1.out
  have z2 : m2.heap.size = w.heap.size + 3 := by rw [hm2, World.size_alloc, z1]
  have z3 : m3.heap.size = w.heap.size + 4 := by rw [hm3, World.size_alloc, z2]
  have b2 : Below w1.heap.size w1 m2 := by rw [hm2]; exact below_new _ _
  have b3 : Below m2.heap.size m2 m3 := by rw [hm3]; exact below_new _ _
  have b13 : Below w1.heap.size w1 m3 := b2.trans (b3.mono (by omega))
  have pm3 : PMap m3 (w.heap.size + 2) [] := by
    have h := PMap.made w1
    rw [← hm2, z1] at h
    exact h.keep (b3.block _ (by omega))
  have l3 : Lies m3 (w.heap.size + 3) 65 #[.pointer (some ⟨w.heap.size, 0, none⟩), .pointer (some ⟨w.heap.size + 1, 0, none⟩)] := by rw [hm3]; exact Lies.new' _ _ _ z2
  have B13 := Lib.hid b13
  have PM3 := Lib.hid pm3
  have L3 := Lib.hid l3
  have Z1 := Lib.hid z1
  have Z3 := Lib.hid z3
  clear hm2 hm3 z2 b2 b3 b13 pm3 l3 z1 z3
  generalize hN : w.heap.size = N at *
  go_loopg [6] 1 (fun gh td wr => td = .slice (some ⟨N + 3, 0, none⟩) 1 1 ∧ wr = m3)
  case atStart => exact ⟨by first | rfl | simp, rfl⟩
  case round =>
    obtain ⟨rfl, rfl⟩ := hrel
    have p0 := L3.out.cell 0
    have p1 := L3.out.cell 1
    have hbn := below_new wr (.cells #[.pointer (some ⟨N, 0, none⟩), .pointer (some ⟨N + 1, 0, none⟩)] 65)
    have hz3 := Z3.out
    have hz1 := Z1.out
    have hB0 : Below w1.heap.size w1 (wr.alloc (.cells #[.pointer (some ⟨N, 0, none⟩), .pointer (some ⟨N + 1, 0, none⟩)] 65)) := B13.out.trans (hbn.mono (by omega))
    have hla := HLA.out.later hB0
    have hlb := HLB.out.later hB0
    have hpm := PM3.out.keep (hbn.block _ (by omega))
    have hj := join_new _ (N + 2) [] ⟨N, 0, none⟩ ⟨N + 1, 0, none⟩ (by simp) hpm ⟨_, _, hla⟩ ⟨_, _, hlb⟩ (by simp) rfl rfl
    have lp := Lies.new' wr 65 #[.pointer (some ⟨N, 0, none⟩), .pointer (some ⟨N + 1, 0, none⟩)] hz3
    have HJ := Lib.hid hj
    have HLP := Lib.hid lp
    have HB0 := Lib.hid hB0
    clear hj lp hB0 hbn hpm hla hlb
    go_wp2_with fail
    refine HJ.out.mono ?_
    rintro e W1 ⟨rfl, hpm1, hbt⟩
    have hB1 : Below w1.heap.size w1 W1 := HB0.out.trans (hbt.below (by omega) HB0.out.size)
    have lp1 : Lies W1 (N + 4) 65 #[.pointer (some ⟨N, 0, none⟩), .pointer (some ⟨N + 1, 0, none⟩)] := (hbt.block _ HLP.out.lt (by omega)).trans HLP.out
    have hsa := sameAlone_not W1 N 0 (N + 1) 0 k nm v _ _ rv k' nm' v' _ _ rv' (HRA.out.keep (hB1.block _ (by show N < w1.heap.size; omega))) (HRB.out.keep (hB1.block _ (by show N + 1 < w1.heap.size; omega))) hk
    have q0 := lp1.cell 0
    have q1 := lp1.cell 1
    have HSA := Lib.hid hsa
    clear hsa hpm1 HJ HLP
    go_wp2_with fail
    refine HSA.out.mono ?_
    rintro e W2 ⟨rfl, hb2⟩
    go_wp2
    go_ret
    exact ⟨rfl, by rw [hN]; exact hb1.trans ((hB1.trans (hb2.mono hB1.size)).mono (by omega))⟩
end Go.Proofs.YtjeolmcjhpkcbaaDoor
