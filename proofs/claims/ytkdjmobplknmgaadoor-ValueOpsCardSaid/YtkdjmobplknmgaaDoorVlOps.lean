/- The walk of the law ValueOps. -/
import Derived.Test.YtkdjmobplknmgaaDoorVoD
namespace Go.Proofs.YtkdjmobplknmgaaDoor
open Go.RowKit

set_option maxRecDepth 100000 in
set_option maxHeartbeats 2000000 in
theorem refSame_num (k n : Int) (w : World) : Calls Tryd.prog 19 #[numV k n, numV k n] w (Yes w) := by
  unfold numV
  go_enter Tryd.func19, Tryd.ntmps19
  go_wp2
  go_loop [5] (fun i => i = .int .i64 0) (fun _ => 0)
  case atStart => rfl
  case round =>
    obtain rfl := hrel
    go_wp2
    go_ret
    exact ⟨rfl, ((Below.refl _ w).alloc (Nat.le_refl _) _).alloc (by simp) _⟩
set_option maxRecDepth 100000 in
set_option maxHeartbeats 4000000 in
theorem valueOps_any {T : World → Prop} (hsh : Shown T) (nm : Str) (a b : Int) (ha : -9223372036854775808 ≤ a ∧ a ≤ 9223372036854775807) (hb : -9223372036854775808 ≤ b ∧ b ≤ 9223372036854775807) (w : World) (ht : T w) : Calls Tryd.prog 4 #[.string (ba nm), .int .i64 a, .int .i64 b] w (Yes w) := by
  have h1 := fun w => op_any nm a b w
  have h2 := fun w => refOp_any nm a b ha hb w
  generalize (opR nm a b).1 = k at h1 h2
  generalize (opR nm a b).2.1 = n at h1 h2
  generalize (opR nm a b).2.2 = ok at h1 h2
  have h3 := fun w => refSame_num k n w
  unfold OpEnd numV at h1 h2
  unfold numV at h3
  have H1 := Lib.hid h1
  have H2 := Lib.hid h2
  have H3 := Lib.hid h3
  clear h1 h2 h3
  go_enter Tryd.func4, Tryd.ntmps4
  go_wp2_with fail
  refine (hsh _ ht).mono ?_
  rintro e w1 ⟨rfl, hb1⟩
  have HB1 := Lib.hid hb1
  clear hb1
  go_wp2_with fail
  refine (H1.out _).mono ?_
  rintro e w2 ⟨rfl, hb2⟩
  have HB2 := Lib.hid (HB1.out.trans (hb2.mono HB1.out.size))
  clear hb2
  obtain ⟨w3, hw3⟩ : ∃ w3, w3 = w2.alloc (.cells #[.int .i64 k, .int .i64 n, .string ⟨#[]⟩, .slice none 0 0] 24) := ⟨_, rfl⟩
  have HL3 := Lib.hid (show Lies w3 w2.heap.size 24 #[.int .i64 k, .int .i64 n, .string ⟨#[]⟩, .slice none 0 0] by rw [hw3]; exact Lies.new _ _ _)
  have HB3 := Lib.hid (HB2.out.trans (show Below w.heap.size w2 w3 by rw [hw3]; exact (below_new w2 _).mono HB2.out.size))
  have HW3 := Lib.hid hw3
  clear hw3
  go_wp2_with fail
  rw [← HW3.out]
  refine (H2.out _).mono ?_
  rintro e w4 ⟨rfl, hb4⟩
  have l4 := HL3.out.later hb4
  have HB4 := Lib.hid (HB3.out.trans (hb4.mono HB3.out.size))
  have z0 : w4.cell? ⟨w2.heap.size, 0, none⟩ = some (.int .i64 k) := l4.cell 0
  have z1 : w4.cell? ⟨w2.heap.size, 1, none⟩ = some (.int .i64 n) := l4.cell 1
  have z2 : w4.cell? ⟨w2.heap.size, 2, none⟩ = some (.string ⟨#[]⟩) := l4.cell 2
  have z3 : w4.cell? ⟨w2.heap.size, 3, none⟩ = some (.slice none 0 0) := l4.cell 3
  have zl := l4.lt
  clear hb4 l4
  go_wp2_with fail
  refine (H3.out _).mono ?_
  rintro e w5 ⟨rfl, hb5⟩
  go_wp2
  go_ret
  exact ⟨rfl, HB4.out.trans (((below_new w4 _).mono HB4.out.size).trans (hb5.mono (by have := HB4.out.size; simp; omega)))⟩
end Go.Proofs.YtkdjmobplknmgaaDoor
