/- The law's number and mag; the reference's Op and Same of what has no kids. -/
import Derived.Test.YtkdjmobplknmgaaDoorVoB
namespace Go.Proofs.YtkdjmobplknmgaaDoor
open Go.RowKit

set_option maxRecDepth 100000 in
set_option maxHeartbeats 2000000 in
theorem number_any (nm : Str) (a b : Int) (w : World) : Calls Tryd.prog 22 #[.string (ba nm), .int .i64 a, .int .i64 b] w fun e w' => e = .returned (.int .i64 (opR nm a b).2.1) ∧ Below w.heap.size w w' := by
  have hop := op_any nm a b w
  unfold OpEnd numV at hop
  generalize (opR nm a b).1 = k at hop
  generalize (opR nm a b).2.1 = n at hop ⊢
  generalize (opR nm a b).2.2 = ok at hop
  have HO := Lib.hid hop
  clear hop
  go_enter Tryd.func22, Tryd.ntmps22
  go_wp2_with fail
  refine HO.out.mono ?_
  rintro e w2 ⟨rfl, hb2⟩
  go_wp2
  go_ret
  exact ⟨rfl, hb2.trans ((below_new w2 _).mono hb2.size)⟩
def Num (w : World) (n : Int) (e : Ending) (w' : World) : Prop := e = .returned (.int .i64 n) ∧ Below w.heap.size w w'
theorem addN (a b : Int) (w : World) : Calls Tryd.prog 22 #[.string ⟨#[43]⟩, .int .i64 a, .int .i64 b] w (Num w (wrap64 (a + b))) := number_any [43] a b w
theorem subN (a b : Int) (w : World) : Calls Tryd.prog 22 #[.string ⟨#[45]⟩, .int .i64 a, .int .i64 b] w (Num w (wrap64 (a - b))) := number_any [45] a b w
theorem mulN (a b : Int) (w : World) : Calls Tryd.prog 22 #[.string ⟨#[42]⟩, .int .i64 a, .int .i64 b] w (Num w (wrap64 (a * b))) := number_any [42] a b w
theorem ltN (a b : Int) (w : World) : Calls Tryd.prog 22 #[.string ⟨#[60]⟩, .int .i64 a, .int .i64 b] w (Num w (truN (decide (a < b)))) := number_any [60] a b w
theorem eqN (a b : Int) (w : World) : Calls Tryd.prog 22 #[.string ⟨#[61]⟩, .int .i64 a, .int .i64 b] w (Num w (truN (a == b))) := number_any [61] a b w
theorem divN (a b : Int) (hb : b ≠ 0) (w : World) : Calls Tryd.prog 22 #[.string ⟨#[47]⟩, .int .i64 a, .int .i64 b] w (Num w (wrap64 (a.tdiv b))) := by
  have h := number_any [47] a b w
  have e : (opR [47] a b).2.1 = wrap64 (a.tdiv b) := by simp [opR, hb]
  rw [e] at h
  exact h
theorem ltN_t {a b : Int} (h : a < b) (w : World) : Calls Tryd.prog 22 #[.string ⟨#[60]⟩, .int .i64 a, .int .i64 b] w (Num w 1) := by
  have := ltN a b w
  rwa [decide_eq_true h] at this
theorem ltN_f {a b : Int} (h : b ≤ a) (w : World) : Calls Tryd.prog 22 #[.string ⟨#[60]⟩, .int .i64 a, .int .i64 b] w (Num w 0) := by
  have := ltN a b w
  rwa [decide_eq_false (by omega)] at this
theorem eqN_t (a : Int) (w : World) : Calls Tryd.prog 22 #[.string ⟨#[61]⟩, .int .i64 a, .int .i64 a] w (Num w 1) := by
  have := eqN a a w
  rwa [beq_self_eq_true] at this
theorem eqN_f {a b : Int} (h : a ≠ b) (w : World) : Calls Tryd.prog 22 #[.string ⟨#[61]⟩, .int .i64 a, .int .i64 b] w (Num w 0) := by
  have := eqN a b w
  rwa [beq_false_of_ne h] at this
def Yes (w : World) (e : Ending) (w' : World) : Prop := e = .returned (.bool true) ∧ Below w.heap.size w w'
def Shown (T : World → Prop) : Prop := ∀ w : World, T w → Calls Tryd.prog 11 #[] w (Yes w)
end Go.Proofs.YtkdjmobplknmgaaDoor
