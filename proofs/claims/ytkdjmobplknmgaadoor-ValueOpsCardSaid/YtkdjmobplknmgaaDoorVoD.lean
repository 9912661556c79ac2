/- The reference's Op. -/
import Derived.Test.YtkdjmobplknmgaaDoorVoC
import Derived.IntWalk
import Derived.Outline
namespace Go.Proofs.YtkdjmobplknmgaaDoor
open Go.RowKit

theorem u64w (n : Int) : IntKind.u64.wrap n = n % 18446744073709551616 := by
  unfold IntKind.wrap
  simp [IntKind.bits, IntKind.signed]
theorem wrap_mod (n : Int) : wrap64 (n % 18446744073709551616) = wrap64 n := by unfold wrap64; omega
theorem wadd (a b : Int) : wrap64 (IntKind.u64.wrap (IntKind.u64.wrap a + IntKind.u64.wrap b)) = wrap64 (a + b) := by
  rw [u64w, u64w, u64w]; unfold wrap64; omega
theorem wsub (a b : Int) : wrap64 (IntKind.u64.wrap (IntKind.u64.wrap a - IntKind.u64.wrap b)) = wrap64 (a - b) := by
  rw [u64w, u64w, u64w]; unfold wrap64; omega
theorem wmul (a b : Int) : wrap64 (IntKind.u64.wrap (IntKind.u64.wrap a * IntKind.u64.wrap b)) = wrap64 (a * b) := by
  rw [u64w, u64w, u64w, ← Int.mul_emod, wrap_mod]
theorem wneg (a : Int) : wrap64 (IntKind.u64.wrap (-IntKind.u64.wrap a)) = wrap64 (a.tdiv (-1)) := by
  rw [u64w, u64w, show a.tdiv (-1) = -a by rw [Int.tdiv_neg, Int.tdiv_one]]; unfold wrap64; omega
theorem weq {a b : Int} (ha : -9223372036854775808 ≤ a ∧ a ≤ 9223372036854775807) (hb : -9223372036854775808 ≤ b ∧ b ≤ 9223372036854775807) (h : a ≠ b) : IntKind.u64.wrap a ≠ IntKind.u64.wrap b := by
  rw [u64w, u64w]; omega
set_option maxRecDepth 100000 in
set_option maxHeartbeats 2000000 in
theorem refOp_1 (a b : Int)  (w : World) : Calls Tryd.prog 21 #[.string ⟨#[43]⟩, .int .i64 a, .int .i64 b] w (OpEnd w 1 (wrap64 (a + b)) true) := by
  go_enter Tryd.func21, Tryd.ntmps21
  go_wp2
  exact bodyPost_ret (results_row_tmp rfl _ _ w.heap.size 24 _ (0, 0) _ rfl ((Lies.new w _ _).alloc _) Tryd.underlying24 rfl info_val) rfl ⟨by rw [← wadd]; rfl, ((Below.refl _ w).alloc (Nat.le_refl _) _).alloc (by simp) _⟩
set_option maxRecDepth 100000 in
set_option maxHeartbeats 2000000 in
theorem refOp_2 (a b : Int)  (w : World) : Calls Tryd.prog 21 #[.string ⟨#[45]⟩, .int .i64 a, .int .i64 b] w (OpEnd w 1 (wrap64 (a - b)) true) := by
  go_enter Tryd.func21, Tryd.ntmps21
  go_wp2
  exact bodyPost_ret (results_row_tmp rfl _ _ w.heap.size 24 _ (0, 0) _ rfl ((Lies.new w _ _).alloc _) Tryd.underlying24 rfl info_val) rfl ⟨by rw [← wsub]; rfl, ((Below.refl _ w).alloc (Nat.le_refl _) _).alloc (by simp) _⟩
set_option maxRecDepth 100000 in
set_option maxHeartbeats 2000000 in
theorem refOp_3 (a b : Int)  (w : World) : Calls Tryd.prog 21 #[.string ⟨#[42]⟩, .int .i64 a, .int .i64 b] w (OpEnd w 1 (wrap64 (a * b)) true) := by
  go_enter Tryd.func21, Tryd.ntmps21
  go_wp2
  exact bodyPost_ret (results_row_tmp rfl _ _ w.heap.size 24 _ (0, 0) _ rfl ((Lies.new w _ _).alloc _) Tryd.underlying24 rfl info_val) rfl ⟨by rw [← wmul]; rfl, ((Below.refl _ w).alloc (Nat.le_refl _) _).alloc (by simp) _⟩
set_option maxRecDepth 100000 in
set_option maxHeartbeats 2000000 in
theorem refOp_4z (a : Int)  (w : World) : Calls Tryd.prog 21 #[.string ⟨#[47]⟩, .int .i64 a, .int .i64 0] w (OpEnd w 0 (0) false) := by
  go_enter Tryd.func21, Tryd.ntmps21
  go_wp2
  exact bodyPost_ret (results_row_tmp rfl _ _ w.heap.size 24 _ (0, 0) _ rfl ((Lies.new w _ _).alloc _) Tryd.underlying24 rfl info_val) rfl ⟨rfl, ((Below.refl _ w).alloc (Nat.le_refl _) _).alloc (by simp) _⟩
set_option maxRecDepth 100000 in
set_option maxHeartbeats 2000000 in
theorem refOp_4n (a : Int)  (w : World) : Calls Tryd.prog 21 #[.string ⟨#[47]⟩, .int .i64 a, .int .i64 (-1)] w (OpEnd w 1 (wrap64 (a.tdiv (-1))) true) := by
  go_enter Tryd.func21, Tryd.ntmps21
  go_wp2
  exact bodyPost_ret (results_row_tmp rfl _ _ w.heap.size 24 _ (0, 0) _ rfl ((Lies.new w _ _).alloc _) Tryd.underlying24 rfl info_val) rfl ⟨by rw [← wneg]; rfl, ((Below.refl _ w).alloc (Nat.le_refl _) _).alloc (by simp) _⟩
set_option maxRecDepth 100000 in
set_option maxHeartbeats 2000000 in
theorem refOp_4 (a b : Int) (h0 : ¬ b = 0) (h1 : ¬ b = -1) (w : World) : Calls Tryd.prog 21 #[.string ⟨#[47]⟩, .int .i64 a, .int .i64 b] w (OpEnd w 1 (wrap64 (a.tdiv b)) true) := by
  go_enter Tryd.func21, Tryd.ntmps21
  go_wp2
  exact bodyPost_ret (results_row_tmp rfl _ _ w.heap.size 24 _ (0, 0) _ rfl ((Lies.new w _ _).alloc _) Tryd.underlying24 rfl info_val) rfl ⟨rfl, ((Below.refl _ w).alloc (Nat.le_refl _) _).alloc (by simp) _⟩
set_option maxRecDepth 100000 in
set_option maxHeartbeats 2000000 in
theorem refOp_5t (a b : Int) (h : a < b) (w : World) : Calls Tryd.prog 21 #[.string ⟨#[60]⟩, .int .i64 a, .int .i64 b] w (OpEnd w 2 (1) true) := by
  go_enter Tryd.func21, Tryd.ntmps21
  go_wp2
  exact bodyPost_ret (results_row_tmp rfl _ _ w.heap.size 24 _ (0, 0) _ rfl ((Lies.new w _ _).alloc _) Tryd.underlying24 rfl info_val) rfl ⟨rfl, ((Below.refl _ w).alloc (Nat.le_refl _) _).alloc (by simp) _⟩
set_option maxRecDepth 100000 in
set_option maxHeartbeats 2000000 in
theorem refOp_5f (a b : Int) (h : ¬ a < b) (w : World) : Calls Tryd.prog 21 #[.string ⟨#[60]⟩, .int .i64 a, .int .i64 b] w (OpEnd w 2 (0) true) := by
  go_enter Tryd.func21, Tryd.ntmps21
  go_wp2
  exact bodyPost_ret (results_row_tmp rfl _ _ w.heap.size 24 _ (0, 0) _ rfl ((Lies.new w _ _).alloc _) Tryd.underlying24 rfl info_val) rfl ⟨rfl, ((Below.refl _ w).alloc (Nat.le_refl _) _).alloc (by simp) _⟩
set_option maxRecDepth 100000 in
set_option maxHeartbeats 2000000 in
theorem refOp_6t (a : Int)  (w : World) : Calls Tryd.prog 21 #[.string ⟨#[61]⟩, .int .i64 a, .int .i64 a] w (OpEnd w 2 (1) true) := by
  go_enter Tryd.func21, Tryd.ntmps21
  go_wp2
  exact bodyPost_ret (results_row_tmp rfl _ _ w.heap.size 24 _ (0, 0) _ rfl ((Lies.new w _ _).alloc _) Tryd.underlying24 rfl info_val) rfl ⟨rfl, ((Below.refl _ w).alloc (Nat.le_refl _) _).alloc (by simp) _⟩
set_option maxRecDepth 100000 in
set_option maxHeartbeats 2000000 in
theorem refOp_6f (a b : Int) (h : ¬ IntKind.u64.wrap a = IntKind.u64.wrap b) (w : World) : Calls Tryd.prog 21 #[.string ⟨#[61]⟩, .int .i64 a, .int .i64 b] w (OpEnd w 2 (0) true) := by
  go_enter Tryd.func21, Tryd.ntmps21
  go_wp2
  exact bodyPost_ret (results_row_tmp rfl _ _ w.heap.size 24 _ (0, 0) _ rfl ((Lies.new w _ _).alloc _) Tryd.underlying24 rfl info_val) rfl ⟨rfl, ((Below.refl _ w).alloc (Nat.le_refl _) _).alloc (by simp) _⟩
set_option maxRecDepth 100000 in
set_option maxHeartbeats 2000000 in
theorem refOp_no (a b : Int) (nm : Str) (h1 : ((ba nm).toList == [43]) = false) (h2 : ((ba nm).toList == [45]) = false) (h3 : ((ba nm).toList == [42]) = false) (h4 : ((ba nm).toList == [47]) = false) (h5 : ((ba nm).toList == [60]) = false) (h6 : ((ba nm).toList == [61]) = false) (w : World) : Calls Tryd.prog 21 #[.string (ba nm), .int .i64 a, .int .i64 b] w (OpEnd w 0 (0) false) := by
  go_enter Tryd.func21, Tryd.ntmps21
  go_wp2
  exact bodyPost_ret (results_row_tmp rfl _ _ w.heap.size 24 _ (0, 0) _ rfl ((Lies.new w _ _).alloc _) Tryd.underlying24 rfl info_val) rfl ⟨rfl, ((Below.refl _ w).alloc (Nat.le_refl _) _).alloc (by simp) _⟩
theorem ba_toListO (l : List UInt8) : (ba l).toList = l := by rw [Lib.toList_data]; simp [ba]
theorem refOp_any (nm : Str) (a b : Int) (ha : -9223372036854775808 ≤ a ∧ a ≤ 9223372036854775807) (hb : -9223372036854775808 ≤ b ∧ b ≤ 9223372036854775807) (w : World) : Calls Tryd.prog 21 #[.string (ba nm), .int .i64 a, .int .i64 b] w (OpEnd w (opR nm a b).1 (opR nm a b).2.1 (opR nm a b).2.2) := by
  unfold opR
  by_cases h1 : nm = [43]
  · subst h1
    exact refOp_1 a b w
  rw [if_neg h1]
  by_cases h2 : nm = [45]
  · subst h2
    exact refOp_2 a b w
  rw [if_neg h2]
  by_cases h3 : nm = [42]
  · subst h3
    exact refOp_3 a b w
  rw [if_neg h3]
  by_cases h4 : nm = [47]
  · subst h4
    by_cases hz : b = 0
    · subst hz
      exact refOp_4z a w
    · rw [if_pos rfl, if_neg hz]
      by_cases hn : b = -1
      · subst hn
        exact refOp_4n a w
      · exact refOp_4 a b hz hn w
  rw [if_neg h4]
  by_cases h5 : nm = [60]
  · subst h5
    rw [if_pos rfl]
    by_cases h : a < b
    · rw [decide_eq_true h]
      exact refOp_5t a b h w
    · rw [decide_eq_false h]
      exact refOp_5f a b h w
  rw [if_neg h5]
  by_cases h6 : nm = [61]
  · subst h6
    rw [if_pos rfl]
    by_cases h : a = b
    · subst h
      rw [beq_self_eq_true]
      exact refOp_6t a w
    · rw [beq_false_of_ne h]
      exact refOp_6f a b (weq ha hb h) w
  rw [if_neg h6]
  have e : ∀ l : List UInt8, ¬ nm = l → ((ba nm).toList == l) = false := fun l h => by rw [ba_toListO]; exact beq_false_of_ne h
  exact refOp_no a b nm (e _ h1) (e _ h2) (e _ h3) (e _ h4) (e _ h5) (e _ h6) w
end Go.Proofs.YtkdjmobplknmgaaDoor
