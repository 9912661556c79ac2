/- What operators make of two numbers. -/
import Derived.Test.YtkdjmobplknmgaaDoorVaA
namespace Go.Proofs.YtkdjmobplknmgaaDoor
open Go Go.MapKept Go.ChangeMaps Go.RowKit

/-- A value without kids and name. -/
def numV (k n : Int) : Value := .agg #[.int .i64 k, .int .i64 n, .string ⟨#[]⟩, .slice none 0 0]
def OpEnd (w : World) (k n : Int) (ok : Bool) (e : Ending) (w' : World) : Prop := e = .returned (.tuple #[numV k n, .bool ok]) ∧ Below w.heap.size w w'
theorem results_row_tmp {P : Program} {fn : Func} {p u : Tmp} {ty : TypeId} (h : fn.results = #[.cell p ty, .tmp u]) (tmps : Array Value) (w : World) (g : Nat) (t : TypeId) (cs : Array Value) (fr : Nat × Nat) (d : TypeDesc)
    (hp : tmps.getD p undef = .pointer (some ⟨g, 0, none⟩)) (hg : w.heap[g]? = some (.cells cs t fr))
    (hu : P.underlying ty = some d) (hd : (match d with | .struct _ | .array _ _ => true | _ => false) = true) (hi : (P.info? ty).map (·.size) = some cs.size) :
    (results fn tmps).run P w = .ok (.tuple #[.agg cs, tmps.getD u undef]) w := by
  rw [results_cell_tmp h]
  have hp' : tmps[p]?.getD undef = .pointer (some ⟨g, 0, none⟩) := by simpa using hp
  simp [hp', asAddr, run_loadVar_row w g t ty cs fr d hg hu hd hi, Result.andThen]
set_option maxRecDepth 100000 in
set_option maxHeartbeats 2000000 in
theorem vnumber_any (n : Int) (w : World) : Calls Tryd.prog 51 #[.int .i64 n] w fun e w' => e = .returned (numV 1 n) ∧ Below w.heap.size w w' := by
  go_enter Tryd.func51, Tryd.ntmps51
  go_wp2
  exact bodyPost_ret (v := numV 1 n) (by simp [results, Tryd.results51, go_sem, numV]) rfl ⟨rfl, below_new _ _⟩
def truN (t : Bool) : Int := if t then 1 else 0
set_option maxRecDepth 100000 in
set_option maxHeartbeats 2000000 in
theorem vtruth_any (t : Bool) (w : World) : Calls Tryd.prog 56 #[.bool t] w fun e w' => e = .returned (numV 2 (truN t)) ∧ Below w.heap.size w w' := by
  cases t <;>
  · go_enter Tryd.func56, Tryd.ntmps56
    go_wp2
    refine bodyPost_ret (v := numV 2 _) (by simp [results, Tryd.results56, go_sem, numV]; rfl) rfl ⟨rfl, ?_⟩
    exact ((Below.refl _ w).alloc (Nat.le_refl _) _).alloc (by simp) _
set_option maxRecDepth 100000 in
set_option maxHeartbeats 2000000 in
theorem oper1_any (a b : Int) (w : World) : Calls Tryd.prog 50 #[.int .i64 a, .int .i64 b] w (OpEnd w 1 (wrap64 (a + b)) true) := by
  have hb1 := below_new w (.cells #[.int .i64 0, .int .i64 0, .string ⟨#[]⟩, .slice none 0 0] 24)
  have HB1 := Lib.hid hb1
  clear hb1
  go_enter Tryd.func50, Tryd.ntmps50
  go_wp2_with fail
  refine (vnumber_any _ _).mono ?_
  rintro e w2 ⟨rfl, hb2⟩
  have l2 := (Lies.new w 24 #[.int .i64 0, .int .i64 0, .string ⟨#[]⟩, .slice none 0 0]).later hb2
  have z0 := l2.cell 0
  have z1 := l2.cell 1
  have z2 := l2.cell 2
  have z3 := l2.cell 3
  have f0 := l2.free 0
  have f1 := l2.free 1
  have f2 := l2.free 2
  have f3 := l2.free 3
  have hst : ∀ x : Int, Lies ((((w2.setCell ⟨w.heap.size, 0, none⟩ (.int .i64 1)).setCell ⟨w.heap.size, 1, none⟩ (.int .i64 x)).setCell ⟨w.heap.size, 2, none⟩ (.string ⟨#[]⟩)).setCell ⟨w.heap.size, 3, none⟩ (.slice none 0 0)) w.heap.size 24 #[.int .i64 1, .int .i64 x, .string ⟨#[]⟩, .slice none 0 0] := fun x => (((l2.set 0 (.int .i64 1)).set 1 (.int .i64 x)).set 2 (.string ⟨#[]⟩)).set 3 (.slice none 0 0)
  have HST := Lib.hid hst
  have HB2 := Lib.hid (HB1.out.trans (hb2.mono HB1.out.size))
  clear l2 hb2 hst
  unfold numV
  go_wp2
  exact bodyPost_ret (results_row_tmp rfl _ _ w.heap.size 24 _ (0, 0) _ rfl (HST.out _) Tryd.underlying24 rfl info_val) rfl ⟨rfl, (((HB2.out.setCell (p := ⟨w.heap.size, 0, none⟩) (Nat.le_refl _) _).setCell (p := ⟨w.heap.size, 1, none⟩) (Nat.le_refl _) _).setCell (p := ⟨w.heap.size, 2, none⟩) (Nat.le_refl _) _).setCell (p := ⟨w.heap.size, 3, none⟩) (Nat.le_refl _) _⟩
set_option maxRecDepth 100000 in
set_option maxHeartbeats 2000000 in
theorem oper2_any (a b : Int) (w : World) : Calls Tryd.prog 52 #[.int .i64 a, .int .i64 b] w (OpEnd w 1 (wrap64 (a - b)) true) := by
  have hb1 := below_new w (.cells #[.int .i64 0, .int .i64 0, .string ⟨#[]⟩, .slice none 0 0] 24)
  have HB1 := Lib.hid hb1
  clear hb1
  go_enter Tryd.func52, Tryd.ntmps52
  go_wp2_with fail
  refine (vnumber_any _ _).mono ?_
  rintro e w2 ⟨rfl, hb2⟩
  have l2 := (Lies.new w 24 #[.int .i64 0, .int .i64 0, .string ⟨#[]⟩, .slice none 0 0]).later hb2
  have z0 := l2.cell 0
  have z1 := l2.cell 1
  have z2 := l2.cell 2
  have z3 := l2.cell 3
  have f0 := l2.free 0
  have f1 := l2.free 1
  have f2 := l2.free 2
  have f3 := l2.free 3
  have hst : ∀ x : Int, Lies ((((w2.setCell ⟨w.heap.size, 0, none⟩ (.int .i64 1)).setCell ⟨w.heap.size, 1, none⟩ (.int .i64 x)).setCell ⟨w.heap.size, 2, none⟩ (.string ⟨#[]⟩)).setCell ⟨w.heap.size, 3, none⟩ (.slice none 0 0)) w.heap.size 24 #[.int .i64 1, .int .i64 x, .string ⟨#[]⟩, .slice none 0 0] := fun x => (((l2.set 0 (.int .i64 1)).set 1 (.int .i64 x)).set 2 (.string ⟨#[]⟩)).set 3 (.slice none 0 0)
  have HST := Lib.hid hst
  have HB2 := Lib.hid (HB1.out.trans (hb2.mono HB1.out.size))
  clear l2 hb2 hst
  unfold numV
  go_wp2
  exact bodyPost_ret (results_row_tmp rfl _ _ w.heap.size 24 _ (0, 0) _ rfl (HST.out _) Tryd.underlying24 rfl info_val) rfl ⟨rfl, (((HB2.out.setCell (p := ⟨w.heap.size, 0, none⟩) (Nat.le_refl _) _).setCell (p := ⟨w.heap.size, 1, none⟩) (Nat.le_refl _) _).setCell (p := ⟨w.heap.size, 2, none⟩) (Nat.le_refl _) _).setCell (p := ⟨w.heap.size, 3, none⟩) (Nat.le_refl _) _⟩
set_option maxRecDepth 100000 in
set_option maxHeartbeats 2000000 in
theorem oper3_any (a b : Int) (w : World) : Calls Tryd.prog 53 #[.int .i64 a, .int .i64 b] w (OpEnd w 1 (wrap64 (a * b)) true) := by
  have hb1 := below_new w (.cells #[.int .i64 0, .int .i64 0, .string ⟨#[]⟩, .slice none 0 0] 24)
  have HB1 := Lib.hid hb1
  clear hb1
  go_enter Tryd.func53, Tryd.ntmps53
  go_wp2_with fail
  refine (vnumber_any _ _).mono ?_
  rintro e w2 ⟨rfl, hb2⟩
  have l2 := (Lies.new w 24 #[.int .i64 0, .int .i64 0, .string ⟨#[]⟩, .slice none 0 0]).later hb2
  have z0 := l2.cell 0
  have z1 := l2.cell 1
  have z2 := l2.cell 2
  have z3 := l2.cell 3
  have f0 := l2.free 0
  have f1 := l2.free 1
  have f2 := l2.free 2
  have f3 := l2.free 3
  have hst : ∀ x : Int, Lies ((((w2.setCell ⟨w.heap.size, 0, none⟩ (.int .i64 1)).setCell ⟨w.heap.size, 1, none⟩ (.int .i64 x)).setCell ⟨w.heap.size, 2, none⟩ (.string ⟨#[]⟩)).setCell ⟨w.heap.size, 3, none⟩ (.slice none 0 0)) w.heap.size 24 #[.int .i64 1, .int .i64 x, .string ⟨#[]⟩, .slice none 0 0] := fun x => (((l2.set 0 (.int .i64 1)).set 1 (.int .i64 x)).set 2 (.string ⟨#[]⟩)).set 3 (.slice none 0 0)
  have HST := Lib.hid hst
  have HB2 := Lib.hid (HB1.out.trans (hb2.mono HB1.out.size))
  clear l2 hb2 hst
  unfold numV
  go_wp2
  exact bodyPost_ret (results_row_tmp rfl _ _ w.heap.size 24 _ (0, 0) _ rfl (HST.out _) Tryd.underlying24 rfl info_val) rfl ⟨rfl, (((HB2.out.setCell (p := ⟨w.heap.size, 0, none⟩) (Nat.le_refl _) _).setCell (p := ⟨w.heap.size, 1, none⟩) (Nat.le_refl _) _).setCell (p := ⟨w.heap.size, 2, none⟩) (Nat.le_refl _) _).setCell (p := ⟨w.heap.size, 3, none⟩) (Nat.le_refl _) _⟩
set_option maxRecDepth 100000 in
set_option maxHeartbeats 2000000 in
theorem oper5_any (a b : Int) (w : World) : Calls Tryd.prog 55 #[.int .i64 a, .int .i64 b] w (OpEnd w 2 (truN (decide (a < b))) true) := by
  have hb1 := below_new w (.cells #[.int .i64 0, .int .i64 0, .string ⟨#[]⟩, .slice none 0 0] 24)
  have HB1 := Lib.hid hb1
  clear hb1
  go_enter Tryd.func55, Tryd.ntmps55
  go_wp2_with fail
  refine (vtruth_any _ _).mono ?_
  rintro e w2 ⟨rfl, hb2⟩
  have l2 := (Lies.new w 24 #[.int .i64 0, .int .i64 0, .string ⟨#[]⟩, .slice none 0 0]).later hb2
  have z0 := l2.cell 0
  have z1 := l2.cell 1
  have z2 := l2.cell 2
  have z3 := l2.cell 3
  have f0 := l2.free 0
  have f1 := l2.free 1
  have f2 := l2.free 2
  have f3 := l2.free 3
  have hst : ∀ x : Int, Lies ((((w2.setCell ⟨w.heap.size, 0, none⟩ (.int .i64 2)).setCell ⟨w.heap.size, 1, none⟩ (.int .i64 x)).setCell ⟨w.heap.size, 2, none⟩ (.string ⟨#[]⟩)).setCell ⟨w.heap.size, 3, none⟩ (.slice none 0 0)) w.heap.size 24 #[.int .i64 2, .int .i64 x, .string ⟨#[]⟩, .slice none 0 0] := fun x => (((l2.set 0 (.int .i64 2)).set 1 (.int .i64 x)).set 2 (.string ⟨#[]⟩)).set 3 (.slice none 0 0)
  have HST := Lib.hid hst
  have HB2 := Lib.hid (HB1.out.trans (hb2.mono HB1.out.size))
  clear l2 hb2 hst
  unfold numV
  go_wp2
  exact bodyPost_ret (results_row_tmp rfl _ _ w.heap.size 24 _ (0, 0) _ rfl (HST.out _) Tryd.underlying24 rfl info_val) rfl ⟨rfl, (((HB2.out.setCell (p := ⟨w.heap.size, 0, none⟩) (Nat.le_refl _) _).setCell (p := ⟨w.heap.size, 1, none⟩) (Nat.le_refl _) _).setCell (p := ⟨w.heap.size, 2, none⟩) (Nat.le_refl _) _).setCell (p := ⟨w.heap.size, 3, none⟩) (Nat.le_refl _) _⟩
set_option maxRecDepth 100000 in
set_option maxHeartbeats 2000000 in
theorem oper6_any (a b : Int) (w : World) : Calls Tryd.prog 57 #[.int .i64 a, .int .i64 b] w (OpEnd w 2 (truN (a == b)) true) := by
  have hb1 := below_new w (.cells #[.int .i64 0, .int .i64 0, .string ⟨#[]⟩, .slice none 0 0] 24)
  have HB1 := Lib.hid hb1
  clear hb1
  go_enter Tryd.func57, Tryd.ntmps57
  go_wp2_with fail
  refine (vtruth_any _ _).mono ?_
  rintro e w2 ⟨rfl, hb2⟩
  have l2 := (Lies.new w 24 #[.int .i64 0, .int .i64 0, .string ⟨#[]⟩, .slice none 0 0]).later hb2
  have z0 := l2.cell 0
  have z1 := l2.cell 1
  have z2 := l2.cell 2
  have z3 := l2.cell 3
  have f0 := l2.free 0
  have f1 := l2.free 1
  have f2 := l2.free 2
  have f3 := l2.free 3
  have hst : ∀ x : Int, Lies ((((w2.setCell ⟨w.heap.size, 0, none⟩ (.int .i64 2)).setCell ⟨w.heap.size, 1, none⟩ (.int .i64 x)).setCell ⟨w.heap.size, 2, none⟩ (.string ⟨#[]⟩)).setCell ⟨w.heap.size, 3, none⟩ (.slice none 0 0)) w.heap.size 24 #[.int .i64 2, .int .i64 x, .string ⟨#[]⟩, .slice none 0 0] := fun x => (((l2.set 0 (.int .i64 2)).set 1 (.int .i64 x)).set 2 (.string ⟨#[]⟩)).set 3 (.slice none 0 0)
  have HST := Lib.hid hst
  have HB2 := Lib.hid (HB1.out.trans (hb2.mono HB1.out.size))
  clear l2 hb2 hst
  unfold numV
  go_wp2
  exact bodyPost_ret (results_row_tmp rfl _ _ w.heap.size 24 _ (0, 0) _ rfl (HST.out _) Tryd.underlying24 rfl info_val) rfl ⟨rfl, (((HB2.out.setCell (p := ⟨w.heap.size, 0, none⟩) (Nat.le_refl _) _).setCell (p := ⟨w.heap.size, 1, none⟩) (Nat.le_refl _) _).setCell (p := ⟨w.heap.size, 2, none⟩) (Nat.le_refl _) _).setCell (p := ⟨w.heap.size, 3, none⟩) (Nat.le_refl _) _⟩
set_option maxRecDepth 100000 in
set_option maxHeartbeats 2000000 in
theorem oper4_any (a b : Int) (w : World) (hb : b ≠ 0) : Calls Tryd.prog 54 #[.int .i64 a, .int .i64 b] w (OpEnd w 1 (wrap64 (a.tdiv b)) true) := by
  have hb1 := below_new w (.cells #[.int .i64 0, .int .i64 0, .string ⟨#[]⟩, .slice none 0 0] 24)
  have HB1 := Lib.hid hb1
  clear hb1
  have hbe : ¬ b = 0 := hb
  go_enter Tryd.func54, Tryd.ntmps54
  go_wp2_with fail
  refine (vnumber_any _ _).mono ?_
  rintro e w2 ⟨rfl, hb2⟩
  have l2 := (Lies.new w 24 #[.int .i64 0, .int .i64 0, .string ⟨#[]⟩, .slice none 0 0]).later hb2
  have z0 := l2.cell 0
  have z1 := l2.cell 1
  have z2 := l2.cell 2
  have z3 := l2.cell 3
  have f0 := l2.free 0
  have f1 := l2.free 1
  have f2 := l2.free 2
  have f3 := l2.free 3
  have hst : ∀ x : Int, Lies ((((w2.setCell ⟨w.heap.size, 0, none⟩ (.int .i64 1)).setCell ⟨w.heap.size, 1, none⟩ (.int .i64 x)).setCell ⟨w.heap.size, 2, none⟩ (.string ⟨#[]⟩)).setCell ⟨w.heap.size, 3, none⟩ (.slice none 0 0)) w.heap.size 24 #[.int .i64 1, .int .i64 x, .string ⟨#[]⟩, .slice none 0 0] := fun x => (((l2.set 0 (.int .i64 1)).set 1 (.int .i64 x)).set 2 (.string ⟨#[]⟩)).set 3 (.slice none 0 0)
  have HST := Lib.hid hst
  have HB2 := Lib.hid (HB1.out.trans (hb2.mono HB1.out.size))
  clear l2 hb2 hst
  unfold numV
  go_wp2
  exact bodyPost_ret (results_row_tmp rfl _ _ w.heap.size 24 _ (0, 0) _ rfl (HST.out _) Tryd.underlying24 rfl info_val) rfl ⟨rfl, (((HB2.out.setCell (p := ⟨w.heap.size, 0, none⟩) (Nat.le_refl _) _).setCell (p := ⟨w.heap.size, 1, none⟩) (Nat.le_refl _) _).setCell (p := ⟨w.heap.size, 2, none⟩) (Nat.le_refl _) _).setCell (p := ⟨w.heap.size, 3, none⟩) (Nat.le_refl _) _⟩
set_option maxRecDepth 100000 in
set_option maxHeartbeats 2000000 in
theorem oper4_zero (a : Int) (w : World) : Calls Tryd.prog 54 #[.int .i64 a, .int .i64 0] w (OpEnd w 0 0 false) := by
  have HB2 := Lib.hid (below_new w (.cells #[.int .i64 0, .int .i64 0, .string ⟨#[]⟩, .slice none 0 0] 24))
  go_enter Tryd.func54, Tryd.ntmps54
  go_wp2
  exact bodyPost_ret (results_row_tmp rfl _ _ w.heap.size 24 _ (0, 0) _ rfl (Lies.new w _ _) Tryd.underlying24 rfl info_val) rfl ⟨rfl, HB2.out⟩
end Go.Proofs.YtkdjmobplknmgaaDoor
