/- What is said of a row's variable; ApplyRow where nothing is. -/
import Derived.Test.YtgheaaljnmkclaaSbh
import Derived.Outline
namespace Go.Proofs.Ytgheaaljnmkclaa
open Go.RowKit

/-- What is said of a row's variable; a closed row has none. -/
def insR (R : Int → Option (List Str × Int)) (rv : Int) : Option (List Str × Int) := if rv = 0 then none else R rv
/-- What is answered where something may be said of a row's variable. -/
def InsREnd (w : World) (o : Option (List Str × Int)) (e : Ending) (w' : World) : Prop :=
  (match o with | some u => ∃ l, e = .returned (.tuple #[.agg l.toArray, .bool true]) ∧ RwV w' u l | none => e = .returned (.tuple #[.agg zeroR, .bool false])) ∧ Below w.heap.size w w'
theorem RwV.fit {w : World} {r : List Str × Int} {l : List Value} (h : RwV w r l) : Fit1 2 l.toArray := by
  obtain ⟨lv, rfl, h1, _⟩ := h
  refine ⟨rfl, ?_⟩
  simp [Value.oneCell']
  exact h1.one
theorem RwV.later {w w' : World} {r : List Str × Int} {l : List Value} (h : RwV w r l) (hb : Below w.heap.size w w') : RwV w' r l := h.keep hb.block
set_option maxRecDepth 100000 in
set_option maxHeartbeats 4000000 in
theorem insR_any (w : World) (sv : Value) (m : Nat) (T : Int → Option Ty) (R : Int → Option (List Str × Int)) (hs : SubV w sv m T R) (hm : m ≤ 1000000) (lv : Value) (ls : List Str) (rv : Int) (hlv : StrR w lv ls) (hrv : i64ok rv) :
    Calls Try.prog 51 #[sv, .agg #[lv, .int .i64 rv]] w (InsREnd w (insR R rv)) := by
  obtain ⟨vt, vr, gt, gr, rfl, hst, hsr, htm, hrm⟩ := hs
  obtain ⟨A1, n1, c1, rfl⟩ := hst.one
  obtain ⟨A2, n2, c2, rfl⟩ := hsr.one
  obtain ⟨A4, n4, c4, rfl⟩ : ∃ A n c, lv = .slice A n c := by rcases hlv.1 with ⟨rfl, _⟩ | ⟨_, _, rfl, _⟩ <;> exact ⟨_, _, _, rfl⟩
  obtain ⟨W, hW⟩ : ∃ W, W = ((w.alloc (.cells #[.slice A1 n1 c1, .slice A2 n2 c2] 38)).alloc (.cells #[.slice A4 n4 c4, .int .i64 rv] 26)).alloc (.cells #[.slice none 0 0, .int .i64 0] 26) := ⟨_, rfl⟩
  have hb : Below w.heap.size w W := by rw [hW]; exact (((Below.refl _ w).alloc (Nat.le_refl _) _).alloc (by simp) _).alloc (by simp; omega) _
  have n2' : Lies W (w.heap.size + 2) 26 zeroR := by rw [hW]; exact Lies.new' _ _ _ (by simp)
  have hof := ofR_said W (.slice A2 n2 c2) m gr rv (hsr.keep hb.block) hrv hm
  have HW := Lib.hid hW
  have HB := Lib.hid hb
  have HN2 := Lib.hid n2'
  have HO := Lib.hid hof
  have HRM := Lib.hid hrm
  have HOK := Lib.hid hrv
  clear hof hW hb n2' hst hsr htm hrm hlv hrv
  by_cases h7 : rv = 0
  · subst h7
    unfold zeroR at HN2
    have n3' := HN2.out
    go_enter Try.func51, Try.ntmps51
    go_wp2_with fail
    rw [← HW.out]
    refine bodyPost_ret (Sb.results_ct rfl _ _ (w.heap.size + 2) 26 zeroR (0, 0) _ rfl n3' Try.underlying26 rfl (by rw [size_R]; rfl) rfl) rfl ?_
    unfold InsREnd insR
    rw [if_pos rfl]
    exact ⟨rfl, HB.out⟩
  · have h7' : (rv == 0) = false := by simp [h7]
    unfold zeroR at HN2
    have hsome : gr rv = none ∨ ∃ cs, gr rv = some cs := by cases gr rv <;> simp
    go_enter Try.func51, Try.ntmps51
    go_wp2_with fail
    rw [← HW.out]
    refine HO.out.mono ?_
    rintro e w1 ⟨rfl, hb1⟩
    have n3' := HN2.out.later hb1
    have hb2 : Below w.heap.size w w1 := HB.out.trans (hb1.mono HB.out.size)
    have htv := HRM.out rv HOK.out
    have hlt := HN2.out.lt
    rcases hsome with hg | ⟨cs, hg⟩
    · rw [hg]
      have hT : R rv = none := by
        cases hT : R rv with
        | none => rfl
        | some t => rw [hT] at htv; obtain ⟨l, h1, _⟩ := htv; rw [hg] at h1; cases h1
      have HT := Lib.hid hT
      have HB2 := Lib.hid hb2
      unfold zeroR lookV
      clear htv hg hT hb2
      go_wp2_with (first | (refine wpList_store_rowTo rfl 26 (.tmp 4) (.tmp 15) rfl rfl (w.heap.size + 2) zeroR rfl rfl 26 _ n3' (by rw [size_R]; rfl) rfl (by kernel_rfl) ?_))
      refine bodyPost_ret (Sb.results_ct rfl _ _ (w.heap.size + 2) 26 zeroR (0, 0) _ rfl (Sb.setRow_at n3' _) Try.underlying26 rfl (by rw [size_R]; rfl) rfl) rfl ?_
      unfold InsREnd insR
      rw [if_neg h7, HT.out]
      exact ⟨rfl, Sb.below_setRow HB2.out (by omega) _⟩
    · rw [hg]
      cases hT : R rv with
      | none => rw [hT] at htv; rw [hg] at htv; cases htv
      | some t =>
        rw [hT] at htv
        obtain ⟨l, h1, h2⟩ := htv
        rw [hg] at h1
        injection h1 with h1
        subst h1
        have hfit := h2.fit
        have hsc := hfit.1
        have hoc := hfit.2
        have HT := Lib.hid hT
        have HB2 := Lib.hid hb2
        have H2 := Lib.hid h2
        unfold lookV
        clear hg hT hb2 h2 hfit
        go_wp2_with (first | (refine wpList_store_rowTo rfl 26 (.tmp 4) (.tmp 15) rfl rfl (w.heap.size + 2) l.toArray rfl rfl 26 _ n3' (by rw [size_R, hsc]) (by rw [hsc]; rfl) hoc ?_))
        refine bodyPost_ret (Sb.results_ct rfl _ _ (w.heap.size + 2) 26 l.toArray (0, 0) _ rfl (Sb.setRow_at n3' _) Try.underlying26 rfl (by rw [size_R, hsc]) rfl) rfl ?_
        unfold InsREnd insR
        rw [if_neg h7, HT.out]
        have hbs := Sb.below_setRow HB2.out (by omega : w.heap.size ≤ w.heap.size + 2) l.toArray
        exact ⟨⟨l, rfl, H2.out.later hbs⟩, hbs⟩

set_option maxRecDepth 100000 in
set_option maxHeartbeats 4000000 in
/-- A row of whose variable nothing is said is copied. -/
theorem applyRow_any (w : World) (sv : Value) (m : Nat) (T : Int → Option Ty) (R : Int → Option (List Str × Int)) (hs : SubV w sv m T R) (hm : m ≤ 1000000) (lv : Value) (ls : List Str) (rv : Int) (hlv : StrR w lv ls) (hrv : i64ok rv) (hno : insR R rv = none) :
    Calls Try.prog 49 #[sv, .agg #[lv, .int .i64 rv]] w fun e w' => ∃ v', e = .returned (.agg #[v', .int .i64 rv]) ∧ OwnL w' w.heap.size v' ls ∧ Below w.heap.size w w' := by
  have hs0 := hs
  have hlv0 := hlv
  obtain ⟨vt, vr, gt, gr, rfl, hst, hsr, _, _⟩ := hs
  obtain ⟨A1, n1, c1, rfl⟩ := hst.one
  obtain ⟨A2, n2, c2, rfl⟩ := hsr.one
  obtain ⟨A4, n4, c4, rfl⟩ : ∃ A n c, lv = .slice A n c := by rcases hlv.1 with ⟨rfl, _⟩ | ⟨_, _, rfl, _⟩ <;> exact ⟨_, _, _, rfl⟩
  obtain ⟨W, hW⟩ : ∃ W, W = ((w.alloc (.cells #[.slice A1 n1 c1, .slice A2 n2 c2] 38)).alloc (.cells #[.slice A4 n4 c4, .int .i64 rv] 26)).alloc (.cells #[.slice none 0 0, .int .i64 0] 26) := ⟨_, rfl⟩
  have hb : Below w.heap.size w W := by rw [hW]; exact (((Below.refl _ w).alloc (Nat.le_refl _) _).alloc (by simp) _).alloc (by simp; omega) _
  have k1 : Lies W (w.heap.size + 1) 26 #[.slice A4 n4 c4, .int .i64 rv] := by rw [hW]; exact (Lies.new' _ _ _ (by simp)).alloc _
  have k2 : Lies W (w.heap.size + 2) 26 zeroR := by rw [hW]; exact Lies.new' _ _ _ (by simp)
  have hins := insR_any W _ m T R (hs0.later hb) hm _ ls rv (hlv0.keep hb.block) hrv
  rw [hno] at hins
  have HW := Lib.hid hW
  have HB := Lib.hid hb
  have HI := Lib.hid hins
  have HK1 := Lib.hid k1
  have HK2 := Lib.hid k2
  have HLV := Lib.hid hlv0
  clear hins hW hb k1 k2 hst hsr hs0 hlv hlv0 hno
  go_enter Try.func49, Try.ntmps49
  go_wp2_with fail
  rw [← HW.out]
  refine HI.out.mono ?_
  rintro e w1 ⟨rfl, hb1⟩
  have hb2 : Below w.heap.size w w1 := HB.out.trans (hb1.mono HB.out.size)
  have j1 := HK1.out.later hb1
  have j2 := HK2.out.later hb1
  have hbz := below_new w1 (.cells zeroR 26)
  have i1 := j1.later hbz
  have i2 := j2.later hbz
  have c0 := i1.cell 0
  have c1' := i1.cell 1
  have hcp := copiedRow_any (.slice A4 n4 c4) ls rv _ (HLV.out.keep (hb2.trans (hbz.mono hb2.size)).block)
  have HCP := Lib.hid hcp
  have HB2 := Lib.hid hb2
  have HBZ := Lib.hid hbz
  have HI2 := Lib.hid i2
  have hltw := HK2.out.lt
  unfold zeroR at HCP HBZ HI2 c0 c1' ⊢
  clear hcp hb2 hbz i1 i2 j1 j2
  go_wp2_with fail
  refine HCP.out.mono ?_
  rintro e w3 ⟨v3, rfl, ho3, hb3⟩
  have n3 := HI2.out.later hb3
  have d0 := n3.cell 0
  have d1 := n3.cell 1
  have e0 := n3.free 0
  have e1 := n3.free 1
  have l3 := n3.lt
  have HO3 := Lib.hid ho3
  obtain ⟨A5, n5, c5, rfl⟩ := own_slice ho3
  clear ho3
  go_wp2_with fail
  refine bodyPost_ret (v := .agg #[.slice A5 n5 c5, .int .i64 rv]) (results_cell_row rfl _ _ (w.heap.size + 2) 26 _ (0, 0) _ rfl ((n3.set 0 (.slice A5 n5 c5)).set 1 (.int .i64 rv)) Try.underlying26 rfl size_R) rfl ?_
  have hBw1 := HB2.out.size
  have hB3 : Below w.heap.size w w3 := (HB2.out.trans (HBZ.out.mono HB2.out.size)).trans (hb3.mono (by have := HBZ.out.size; omega))
  refine ⟨_, rfl, ?_, (hB3.setCell (p := ⟨w.heap.size + 2, 0, none⟩) (by simp) _).setCell (p := ⟨w.heap.size + 2, 1, none⟩) (by simp) _⟩
  refine own_mono (own_same HO3.out fun g hg hlt => ?_) (by have := HBZ.out.size; omega)
  have hne : g ≠ w.heap.size + 2 := by have := HI2.out.lt; omega
  exact (Below.heap_setCell _ ⟨w.heap.size + 2, 1, none⟩ _ g hne).trans (Below.heap_setCell _ ⟨w.heap.size + 2, 0, none⟩ _ g hne)
end Go.Proofs.Ytgheaaljnmkclaa
