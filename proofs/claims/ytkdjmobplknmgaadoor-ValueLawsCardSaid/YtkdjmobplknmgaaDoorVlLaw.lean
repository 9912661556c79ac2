/- The walk of the law ValueLaws. -/
import Derived.Test.YtkdjmobplknmgaaDoorVoC
import Derived.IntWalk
import Derived.Outline
namespace Go.Proofs.YtkdjmobplknmgaaDoor
open Go.RowKit

def i64q (a : Int) : Prop := -9223372036854775808 ≤ a ∧ a ≤ 9223372036854775807
theorem wrap_id {a : Int} (h : i64q a) : wrap64 a = a := IntWalk.wrap64_in a h
theorem back (a b : Int) (h : i64q a) : wrap64 (wrap64 (a + b) - b) = a := by unfold i64q at h; unfold wrap64; omega
theorem wrap_cong {x y : Int} (h : x % 18446744073709551616 = y % 18446744073709551616) : wrap64 x = wrap64 y := by unfold wrap64; omega
theorem wrap_emod (x : Int) : wrap64 x % 18446744073709551616 = x % 18446744073709551616 := by unfold wrap64; omega
theorem share (a b c : Int) : wrap64 (wrap64 (a * b) + wrap64 (a * c)) = wrap64 (a * wrap64 (b + c)) := by
  refine wrap_cong ?_
  rw [Int.add_emod, wrap_emod, wrap_emod, ← Int.add_emod, Int.mul_emod a (wrap64 (b + c)), wrap_emod, ← Int.mul_emod, Int.mul_add]
theorem tdiv_in {a b : Int} (ha : i64q a) (hb : b ≠ 0) (h : ¬ (a = -9223372036854775808 ∧ b = -1)) : i64q (a.tdiv b) := by
  unfold i64q at ha ⊢
  by_cases h1 : b = -1
  · subst h1
    rw [Int.tdiv_neg, Int.tdiv_one]
    omega
  · have h2 : (a.tdiv b).natAbs ≤ a.natAbs := by rw [Int.natAbs_tdiv]; exact Nat.div_le_self _ _
    by_cases h3 : b = 1
    · subst h3
      rw [Int.tdiv_one]
      exact ha
    · have h4 : (a.tdiv b).natAbs ≤ a.natAbs / 2 := by
        rw [Int.natAbs_tdiv]
        exact Nat.div_le_div_left (by omega) (by omega)
      omega
theorem rest_in (a b : Int) (ha : i64q a) : wrap64 (a - wrap64 (wrap64 (a.tdiv b) * b)) = a.tmod b := by
  have h1 : wrap64 (a - wrap64 (wrap64 (a.tdiv b) * b)) = wrap64 (a - a.tdiv b * b) := by
    refine wrap_cong ?_
    rw [Int.sub_emod, wrap_emod, Int.mul_emod, wrap_emod, ← Int.mul_emod, ← Int.sub_emod]
  have h2 : a - a.tdiv b * b = a.tmod b := by
    have := Int.tdiv_mul_add_tmod a b
    omega
  rw [h1, h2]
  refine wrap_id ?_
  unfold i64q at ha ⊢
  have h3 : (a.tmod b).natAbs ≤ a.natAbs := by rw [Int.natAbs_tmod]; exact Nat.mod_le _ _
  have h4 : 0 ≤ a → 0 ≤ a.tmod b := fun h => Int.tmod_nonneg b h
  have h5 : a ≤ 0 → a.tmod b ≤ 0 := fun h => by
    have := Int.tmod_nonneg b (show 0 ≤ -a by omega)
    rw [Int.neg_tmod] at this
    omega
  omega
theorem rest_sign (a b : Int) (h : a.tmod b ≠ 0) : (decide (a.tmod b < 0) == decide (a < 0)) = true := by
  have h4 : 0 ≤ a → 0 ≤ a.tmod b := fun h => Int.tmod_nonneg b h
  have h5 : a ≤ 0 → a.tmod b ≤ 0 := fun h => by
    have := Int.tmod_nonneg b (show 0 ≤ -a by omega)
    rw [Int.neg_tmod] at this
    omega
  rw [beq_iff_eq]
  exact decide_eq_decide.2 (by omega)
theorem rest_less (a b : Int) (h : b ≠ 0) : ((a.tmod b).natAbs : Int) < (b.natAbs : Int) := by
  have : (a.tmod b).natAbs < b.natAbs := by rw [Int.natAbs_tmod]; exact Nat.mod_lt _ (by omega)
  omega
set_option maxRecDepth 100000 in
set_option maxHeartbeats 2000000 in
theorem mag_any (n : Int) (hn : i64q n) (w : World) : Calls Tryd.prog 23 #[.int .i64 n] w fun e w' => e = .returned (.int .u64 (n.natAbs : Int)) ∧ w = w' := by
  unfold i64q at hn
  by_cases h : n < 0
  · have e : IntKind.u64.wrap (-IntKind.u64.wrap n) = (n.natAbs : Int) := by
      rw [IntKind.wrap_u64, IntKind.wrap_u64]; omega
    have HE := Lib.hid e
    clear e
    go_enter Tryd.func23, Tryd.ntmps23
    go_wp2
    go_ret
    exact ⟨ret_int HE.out, rfl⟩
  · have e : IntKind.u64.wrap n = (n.natAbs : Int) := by
      rw [IntKind.wrap_u64]; omega
    have HE := Lib.hid e
    clear e
    go_enter Tryd.func23, Tryd.ntmps23
    go_wp2
    go_ret
    exact ⟨ret_int (by first | exact HE.out | (rw [IntKind.wrap_u64]; omega) | omega), rfl⟩
/-- What the law's numbers are, but for the division. -/
structure Sums (a b c s p t u v l m e : Int) : Prop where
  k1 : ∀ w, Calls Tryd.prog 22 #[.string ⟨#[43]⟩, .int .i64 a, .int .i64 b] w (Num w s)
  k2 : ∀ w, Calls Tryd.prog 22 #[.string ⟨#[43]⟩, .int .i64 b, .int .i64 a] w (Num w s)
  k3 : ∀ w, Calls Tryd.prog 22 #[.string ⟨#[42]⟩, .int .i64 a, .int .i64 b] w (Num w p)
  k4 : ∀ w, Calls Tryd.prog 22 #[.string ⟨#[42]⟩, .int .i64 b, .int .i64 a] w (Num w p)
  k5 : ∀ w, Calls Tryd.prog 22 #[.string ⟨#[45]⟩, .int .i64 s, .int .i64 b] w (Num w a)
  k6 : ∀ w, Calls Tryd.prog 22 #[.string ⟨#[43]⟩, .int .i64 b, .int .i64 c] w (Num w t)
  k7 : ∀ w, Calls Tryd.prog 22 #[.string ⟨#[42]⟩, .int .i64 a, .int .i64 t] w (Num w u)
  k8 : ∀ w, Calls Tryd.prog 22 #[.string ⟨#[42]⟩, .int .i64 a, .int .i64 c] w (Num w v)
  k9 : ∀ w, Calls Tryd.prog 22 #[.string ⟨#[43]⟩, .int .i64 p, .int .i64 v] w (Num w u)
  k10 : ∀ w, Calls Tryd.prog 22 #[.string ⟨#[60]⟩, .int .i64 a, .int .i64 b] w (Num w l)
  k11 : ∀ w, Calls Tryd.prog 22 #[.string ⟨#[60]⟩, .int .i64 b, .int .i64 a] w (Num w m)
  k12 : ∀ w, Calls Tryd.prog 22 #[.string ⟨#[61]⟩, .int .i64 a, .int .i64 b] w (Num w e)
/-- What the law's division is. -/
structure Divs (a b q g r : Int) : Prop where
  d1 : ∀ w, Calls Tryd.prog 20 #[.string ⟨#[47]⟩, .int .i64 a, .int .i64 b] w (OpEnd w 1 q true)
  d2 : ∀ w, Calls Tryd.prog 22 #[.string ⟨#[47]⟩, .int .i64 a, .int .i64 b] w (Num w q)
  d3 : ∀ w, Calls Tryd.prog 22 #[.string ⟨#[42]⟩, .int .i64 q, .int .i64 b] w (Num w g)
  d4 : ∀ w, Calls Tryd.prog 22 #[.string ⟨#[45]⟩, .int .i64 a, .int .i64 g] w (Num w r)
theorem sums_of (a b c : Int) (ha : i64q a) (l m e : Int) (h10 : truN (decide (a < b)) = l) (h11 : truN (decide (b < a)) = m) (h12 : truN (a == b) = e) : ∃ s p t u v, Sums a b c s p t u v l m e :=
  ⟨wrap64 (a + b), wrap64 (a * b), wrap64 (b + c), wrap64 (a * wrap64 (b + c)), wrap64 (a * c),
    fun w => addN a b w, fun w => by rw [Int.add_comm]; exact addN b a w, fun w => mulN a b w, fun w => by rw [Int.mul_comm]; exact mulN b a w, fun w => by have h := subN (wrap64 (a + b)) b w; rw [back a b ha] at h; exact h,
    fun w => addN b c w, fun w => mulN a _ w, fun w => mulN a c w, fun w => by rw [← share]; exact addN _ _ w, fun w => by rw [← h10]; exact ltN a b w, fun w => by rw [← h11]; exact ltN b a w, fun w => by rw [← h12]; exact eqN a b w⟩
theorem divs_of (a b : Int) (ha : i64q a) (hb : b ≠ 0) : ∃ g, Divs a b (wrap64 (a.tdiv b)) g (a.tmod b) :=
  ⟨wrap64 (wrap64 (a.tdiv b) * b), fun w => by
    have h := op_any [47] a b w
    rw [show opR [47] a b = (1, wrap64 (a.tdiv b), true) by simp [opR, hb]] at h
    exact h, fun w => divN a b hb w, fun w => mulN _ _ w, fun w => by rw [← rest_in a b ha]; exact subN _ _ w⟩
set_option maxRecDepth 100000 in
set_option maxHeartbeats 4000000 in
theorem laws_lt_zero {T : World → Prop} (hsh : Shown T) (a c s p t u v : Int) (hS : Sums a 0 c s p t u v 1 0 0) (hz : ∀ w, Calls Tryd.prog 20 #[.string ⟨#[47]⟩, .int .i64 a, .int .i64 0] w (OpEnd w 0 0 false)) (w : World) (ht : T w) : Calls Tryd.prog 5 #[.int .i64 a, .int .i64 0, .int .i64 c] w (Yes w) := by
  obtain ⟨k1, k2, k3, k4, k5, k6, k7, k8, k9, k10, k11, k12⟩ := hS
  have K1 := Lib.hid k1
  have K2 := Lib.hid k2
  have K3 := Lib.hid k3
  have K4 := Lib.hid k4
  have K5 := Lib.hid k5
  have K6 := Lib.hid k6
  have K7 := Lib.hid k7
  have K8 := Lib.hid k8
  have K9 := Lib.hid k9
  have K10 := Lib.hid k10
  have K11 := Lib.hid k11
  have K12 := Lib.hid k12
  clear k1 k2 k3 k4 k5 k6 k7 k8 k9 k10 k11 k12
  unfold OpEnd numV at hz
  have HZ := Lib.hid hz
  clear hz
  go_enter Tryd.func5, Tryd.ntmps5
  go_wp2_with fail
  refine (hsh _ ht).mono ?_
  rintro e w1 ⟨rfl, hb1⟩
  have HB1 := Lib.hid hb1
  clear hb1
  go_wp2_with fail
  refine (K1.out _).mono ?_
  rintro e w2 ⟨rfl, hb2⟩
  have HB2 := Lib.hid (HB1.out.trans (hb2.mono HB1.out.size))
  clear hb2
  go_wp2_with fail
  refine (K2.out _).mono ?_
  rintro e w3 ⟨rfl, hb3⟩
  have HB3 := Lib.hid (HB2.out.trans (hb3.mono HB2.out.size))
  clear hb3
  go_wp2_with fail
  refine (K3.out _).mono ?_
  rintro e w4 ⟨rfl, hb4⟩
  have HB4 := Lib.hid (HB3.out.trans (hb4.mono HB3.out.size))
  clear hb4
  go_wp2_with fail
  refine (K4.out _).mono ?_
  rintro e w5 ⟨rfl, hb5⟩
  have HB5 := Lib.hid (HB4.out.trans (hb5.mono HB4.out.size))
  clear hb5
  go_wp2_with fail
  refine (K5.out _).mono ?_
  rintro e w6 ⟨rfl, hb6⟩
  have HB6 := Lib.hid (HB5.out.trans (hb6.mono HB5.out.size))
  clear hb6
  go_wp2_with fail
  refine (K6.out _).mono ?_
  rintro e w7 ⟨rfl, hb7⟩
  have HB7 := Lib.hid (HB6.out.trans (hb7.mono HB6.out.size))
  clear hb7
  go_wp2_with fail
  refine (K7.out _).mono ?_
  rintro e w8 ⟨rfl, hb8⟩
  have HB8 := Lib.hid (HB7.out.trans (hb8.mono HB7.out.size))
  clear hb8
  go_wp2_with fail
  refine (K3.out _).mono ?_
  rintro e w9 ⟨rfl, hb9⟩
  have HB9 := Lib.hid (HB8.out.trans (hb9.mono HB8.out.size))
  clear hb9
  go_wp2_with fail
  refine (K8.out _).mono ?_
  rintro e w10 ⟨rfl, hb10⟩
  have HB10 := Lib.hid (HB9.out.trans (hb10.mono HB9.out.size))
  clear hb10
  go_wp2_with fail
  refine (K9.out _).mono ?_
  rintro e w11 ⟨rfl, hb11⟩
  have HB11 := Lib.hid (HB10.out.trans (hb11.mono HB10.out.size))
  clear hb11
  go_wp2_with fail
  refine (K10.out _).mono ?_
  rintro e w12 ⟨rfl, hb12⟩
  have HB12 := Lib.hid (HB11.out.trans (hb12.mono HB11.out.size))
  clear hb12
  go_wp2_with fail
  refine (K11.out _).mono ?_
  rintro e w13 ⟨rfl, hb13⟩
  have HB13 := Lib.hid (HB12.out.trans (hb13.mono HB12.out.size))
  clear hb13
  go_wp2_with fail
  refine (K12.out _).mono ?_
  rintro e w14 ⟨rfl, hb14⟩
  have HB14 := Lib.hid (HB13.out.trans (hb14.mono HB13.out.size))
  clear hb14
  go_wp2_with fail
  refine (HZ.out _).mono ?_
  rintro e w15 ⟨rfl, hb15⟩
  have HB15 := Lib.hid (HB14.out.trans (hb15.mono HB14.out.size))
  clear hb15
  have HA := Lib.hid (HB15.out.trans ((below_new w15 (.cells #[.int .i64 0, .int .i64 0, .string ⟨#[]⟩, .slice none 0 0] 24)).mono HB15.out.size))
  go_wp2
  go_ret
  exact ⟨rfl, HA.out⟩
set_option maxRecDepth 100000 in
set_option maxHeartbeats 4000000 in
theorem laws_lt_special {T : World → Prop} (hsh : Shown T) (a b c s p t u v g : Int) (hS : Sums a b c s p t u v 1 0 0) (hD : Divs a b a g 0) (h1 : a = -9223372036854775808) (h2 : b = -1) (w : World) (ht : T w) : Calls Tryd.prog 5 #[.int .i64 a, .int .i64 b, .int .i64 c] w (Yes w) := by
  obtain ⟨k1, k2, k3, k4, k5, k6, k7, k8, k9, k10, k11, k12⟩ := hS
  have K1 := Lib.hid k1
  have K2 := Lib.hid k2
  have K3 := Lib.hid k3
  have K4 := Lib.hid k4
  have K5 := Lib.hid k5
  have K6 := Lib.hid k6
  have K7 := Lib.hid k7
  have K8 := Lib.hid k8
  have K9 := Lib.hid k9
  have K10 := Lib.hid k10
  have K11 := Lib.hid k11
  have K12 := Lib.hid k12
  clear k1 k2 k3 k4 k5 k6 k7 k8 k9 k10 k11 k12
  obtain ⟨d1, d2, d3, d4⟩ := hD
  unfold OpEnd numV at d1
  have D1 := Lib.hid d1
  have D2 := Lib.hid d2
  have D3 := Lib.hid d3
  have D4 := Lib.hid d4
  clear d1 d2 d3 d4
  have h1b : (a == -9223372036854775808) = true := by rw [h1]; rfl
  have h2b : (b == -1) = true := by rw [h2]; rfl
  have hb0 : ¬ b = 0 := by omega
  clear h1 h2
  go_enter Tryd.func5, Tryd.ntmps5
  go_wp2_with fail
  refine (hsh _ ht).mono ?_
  rintro e w1 ⟨rfl, hb1⟩
  have HB1 := Lib.hid hb1
  clear hb1
  go_wp2_with fail
  refine (K1.out _).mono ?_
  rintro e w2 ⟨rfl, hb2⟩
  have HB2 := Lib.hid (HB1.out.trans (hb2.mono HB1.out.size))
  clear hb2
  go_wp2_with fail
  refine (K2.out _).mono ?_
  rintro e w3 ⟨rfl, hb3⟩
  have HB3 := Lib.hid (HB2.out.trans (hb3.mono HB2.out.size))
  clear hb3
  go_wp2_with fail
  refine (K3.out _).mono ?_
  rintro e w4 ⟨rfl, hb4⟩
  have HB4 := Lib.hid (HB3.out.trans (hb4.mono HB3.out.size))
  clear hb4
  go_wp2_with fail
  refine (K4.out _).mono ?_
  rintro e w5 ⟨rfl, hb5⟩
  have HB5 := Lib.hid (HB4.out.trans (hb5.mono HB4.out.size))
  clear hb5
  go_wp2_with fail
  refine (K5.out _).mono ?_
  rintro e w6 ⟨rfl, hb6⟩
  have HB6 := Lib.hid (HB5.out.trans (hb6.mono HB5.out.size))
  clear hb6
  go_wp2_with fail
  refine (K6.out _).mono ?_
  rintro e w7 ⟨rfl, hb7⟩
  have HB7 := Lib.hid (HB6.out.trans (hb7.mono HB6.out.size))
  clear hb7
  go_wp2_with fail
  refine (K7.out _).mono ?_
  rintro e w8 ⟨rfl, hb8⟩
  have HB8 := Lib.hid (HB7.out.trans (hb8.mono HB7.out.size))
  clear hb8
  go_wp2_with fail
  refine (K3.out _).mono ?_
  rintro e w9 ⟨rfl, hb9⟩
  have HB9 := Lib.hid (HB8.out.trans (hb9.mono HB8.out.size))
  clear hb9
  go_wp2_with fail
  refine (K8.out _).mono ?_
  rintro e w10 ⟨rfl, hb10⟩
  have HB10 := Lib.hid (HB9.out.trans (hb10.mono HB9.out.size))
  clear hb10
  go_wp2_with fail
  refine (K9.out _).mono ?_
  rintro e w11 ⟨rfl, hb11⟩
  have HB11 := Lib.hid (HB10.out.trans (hb11.mono HB10.out.size))
  clear hb11
  go_wp2_with fail
  refine (K10.out _).mono ?_
  rintro e w12 ⟨rfl, hb12⟩
  have HB12 := Lib.hid (HB11.out.trans (hb12.mono HB11.out.size))
  clear hb12
  go_wp2_with fail
  refine (K11.out _).mono ?_
  rintro e w13 ⟨rfl, hb13⟩
  have HB13 := Lib.hid (HB12.out.trans (hb13.mono HB12.out.size))
  clear hb13
  go_wp2_with fail
  refine (K12.out _).mono ?_
  rintro e w14 ⟨rfl, hb14⟩
  have HB14 := Lib.hid (HB13.out.trans (hb14.mono HB13.out.size))
  clear hb14
  go_wp2_with fail
  refine (D1.out _).mono ?_
  rintro e w15 ⟨rfl, hb15⟩
  have HB15 := Lib.hid (HB14.out.trans (hb15.mono HB14.out.size))
  clear hb15
  have HA := Lib.hid (HB15.out.trans ((below_new w15 (.cells #[.int .i64 1, .int .i64 a, .string ⟨#[]⟩, .slice none 0 0] 24)).mono HB15.out.size))
  go_wp2_with fail
  refine (D2.out _).mono ?_
  rintro e w16 ⟨rfl, hb16⟩
  have HB16 := Lib.hid (HA.out.trans (hb16.mono HA.out.size))
  clear hb16
  go_wp2_with fail
  refine (D3.out _).mono ?_
  rintro e w17 ⟨rfl, hb17⟩
  have HB17 := Lib.hid (HB16.out.trans (hb17.mono HB16.out.size))
  clear hb17
  go_wp2_with fail
  refine (D4.out _).mono ?_
  rintro e w18 ⟨rfl, hb18⟩
  have HB18 := Lib.hid (HB17.out.trans (hb18.mono HB17.out.size))
  clear hb18
  go_wp2
  go_ret
  exact ⟨rfl, HB18.out⟩
set_option maxRecDepth 100000 in
set_option maxHeartbeats 4000000 in
theorem laws_lt_r0 {T : World → Prop} (hsh : Shown T) (a b c s p t u v q g : Int) (hS : Sums a b c s p t u v 1 0 0) (hD : Divs a b q g 0) (hb0 : ¬ b = 0) (hbb : i64q b) (h1 : ¬ a = -9223372036854775808)  (w : World) (ht : T w) : Calls Tryd.prog 5 #[.int .i64 a, .int .i64 b, .int .i64 c] w (Yes w) := by
  obtain ⟨k1, k2, k3, k4, k5, k6, k7, k8, k9, k10, k11, k12⟩ := hS
  have K1 := Lib.hid k1
  have K2 := Lib.hid k2
  have K3 := Lib.hid k3
  have K4 := Lib.hid k4
  have K5 := Lib.hid k5
  have K6 := Lib.hid k6
  have K7 := Lib.hid k7
  have K8 := Lib.hid k8
  have K9 := Lib.hid k9
  have K10 := Lib.hid k10
  have K11 := Lib.hid k11
  have K12 := Lib.hid k12
  clear k1 k2 k3 k4 k5 k6 k7 k8 k9 k10 k11 k12
  obtain ⟨d1, d2, d3, d4⟩ := hD
  unfold OpEnd numV at d1
  have D1 := Lib.hid d1
  have D2 := Lib.hid d2
  have D3 := Lib.hid d3
  have D4 := Lib.hid d4
  clear d1 d2 d3 d4
  have MB := Lib.hid (fun w => mag_any b hbb w)
  clear hbb
  go_enter Tryd.func5, Tryd.ntmps5
  go_wp2_with fail
  refine (hsh _ ht).mono ?_
  rintro e w1 ⟨rfl, hb1⟩
  have HB1 := Lib.hid hb1
  clear hb1
  go_wp2_with fail
  refine (K1.out _).mono ?_
  rintro e w2 ⟨rfl, hb2⟩
  have HB2 := Lib.hid (HB1.out.trans (hb2.mono HB1.out.size))
  clear hb2
  go_wp2_with fail
  refine (K2.out _).mono ?_
  rintro e w3 ⟨rfl, hb3⟩
  have HB3 := Lib.hid (HB2.out.trans (hb3.mono HB2.out.size))
  clear hb3
  go_wp2_with fail
  refine (K3.out _).mono ?_
  rintro e w4 ⟨rfl, hb4⟩
  have HB4 := Lib.hid (HB3.out.trans (hb4.mono HB3.out.size))
  clear hb4
  go_wp2_with fail
  refine (K4.out _).mono ?_
  rintro e w5 ⟨rfl, hb5⟩
  have HB5 := Lib.hid (HB4.out.trans (hb5.mono HB4.out.size))
  clear hb5
  go_wp2_with fail
  refine (K5.out _).mono ?_
  rintro e w6 ⟨rfl, hb6⟩
  have HB6 := Lib.hid (HB5.out.trans (hb6.mono HB5.out.size))
  clear hb6
  go_wp2_with fail
  refine (K6.out _).mono ?_
  rintro e w7 ⟨rfl, hb7⟩
  have HB7 := Lib.hid (HB6.out.trans (hb7.mono HB6.out.size))
  clear hb7
  go_wp2_with fail
  refine (K7.out _).mono ?_
  rintro e w8 ⟨rfl, hb8⟩
  have HB8 := Lib.hid (HB7.out.trans (hb8.mono HB7.out.size))
  clear hb8
  go_wp2_with fail
  refine (K3.out _).mono ?_
  rintro e w9 ⟨rfl, hb9⟩
  have HB9 := Lib.hid (HB8.out.trans (hb9.mono HB8.out.size))
  clear hb9
  go_wp2_with fail
  refine (K8.out _).mono ?_
  rintro e w10 ⟨rfl, hb10⟩
  have HB10 := Lib.hid (HB9.out.trans (hb10.mono HB9.out.size))
  clear hb10
  go_wp2_with fail
  refine (K9.out _).mono ?_
  rintro e w11 ⟨rfl, hb11⟩
  have HB11 := Lib.hid (HB10.out.trans (hb11.mono HB10.out.size))
  clear hb11
  go_wp2_with fail
  refine (K10.out _).mono ?_
  rintro e w12 ⟨rfl, hb12⟩
  have HB12 := Lib.hid (HB11.out.trans (hb12.mono HB11.out.size))
  clear hb12
  go_wp2_with fail
  refine (K11.out _).mono ?_
  rintro e w13 ⟨rfl, hb13⟩
  have HB13 := Lib.hid (HB12.out.trans (hb13.mono HB12.out.size))
  clear hb13
  go_wp2_with fail
  refine (K12.out _).mono ?_
  rintro e w14 ⟨rfl, hb14⟩
  have HB14 := Lib.hid (HB13.out.trans (hb14.mono HB13.out.size))
  clear hb14
  go_wp2_with fail
  refine (D1.out _).mono ?_
  rintro e w15 ⟨rfl, hb15⟩
  have HB15 := Lib.hid (HB14.out.trans (hb15.mono HB14.out.size))
  clear hb15
  have HA := Lib.hid (HB15.out.trans ((below_new w15 (.cells #[.int .i64 1, .int .i64 q, .string ⟨#[]⟩, .slice none 0 0] 24)).mono HB15.out.size))
  go_wp2_with fail
  refine (D2.out _).mono ?_
  rintro e w16 ⟨rfl, hb16⟩
  have HB16 := Lib.hid (HA.out.trans (hb16.mono HA.out.size))
  clear hb16
  go_wp2_with fail
  refine (D3.out _).mono ?_
  rintro e w17 ⟨rfl, hb17⟩
  have HB17 := Lib.hid (HB16.out.trans (hb17.mono HB16.out.size))
  clear hb17
  go_wp2_with fail
  refine (D4.out _).mono ?_
  rintro e w18 ⟨rfl, hb18⟩
  have HB18 := Lib.hid (HB17.out.trans (hb18.mono HB17.out.size))
  clear hb18
  go_wp2
  go_ret
  exact ⟨rfl, HB18.out⟩
set_option maxRecDepth 100000 in
set_option maxHeartbeats 4000000 in
theorem laws_lt_rn {T : World → Prop} (hsh : Shown T) (a b c s p t u v q g r : Int) (hS : Sums a b c s p t u v 1 0 0) (hD : Divs a b q g r) (_hb0 : ¬ b = 0) (hrb : i64q r) (hbb : i64q b) (h1 : ¬ a = -9223372036854775808) (hr0 : ¬ r = 0) (hsg : (decide (r < 0) == decide (a < 0)) = true) (hls : ((r.natAbs : Int)) < (b.natAbs : Int))  (w : World) (ht : T w) : Calls Tryd.prog 5 #[.int .i64 a, .int .i64 b, .int .i64 c] w (Yes w) := by
  obtain ⟨k1, k2, k3, k4, k5, k6, k7, k8, k9, k10, k11, k12⟩ := hS
  have K1 := Lib.hid k1
  have K2 := Lib.hid k2
  have K3 := Lib.hid k3
  have K4 := Lib.hid k4
  have K5 := Lib.hid k5
  have K6 := Lib.hid k6
  have K7 := Lib.hid k7
  have K8 := Lib.hid k8
  have K9 := Lib.hid k9
  have K10 := Lib.hid k10
  have K11 := Lib.hid k11
  have K12 := Lib.hid k12
  clear k1 k2 k3 k4 k5 k6 k7 k8 k9 k10 k11 k12
  obtain ⟨d1, d2, d3, d4⟩ := hD
  unfold OpEnd numV at d1
  have D1 := Lib.hid d1
  have D2 := Lib.hid d2
  have D3 := Lib.hid d3
  have D4 := Lib.hid d4
  clear d1 d2 d3 d4
  have MB := Lib.hid (fun w => mag_any b hbb w)
  have MR := Lib.hid (fun w => mag_any r hrb w)
  clear hrb
  clear hbb
  go_enter Tryd.func5, Tryd.ntmps5
  go_wp2_with fail
  refine (hsh _ ht).mono ?_
  rintro e w1 ⟨rfl, hb1⟩
  have HB1 := Lib.hid hb1
  clear hb1
  go_wp2_with fail
  refine (K1.out _).mono ?_
  rintro e w2 ⟨rfl, hb2⟩
  have HB2 := Lib.hid (HB1.out.trans (hb2.mono HB1.out.size))
  clear hb2
  go_wp2_with fail
  refine (K2.out _).mono ?_
  rintro e w3 ⟨rfl, hb3⟩
  have HB3 := Lib.hid (HB2.out.trans (hb3.mono HB2.out.size))
  clear hb3
  go_wp2_with fail
  refine (K3.out _).mono ?_
  rintro e w4 ⟨rfl, hb4⟩
  have HB4 := Lib.hid (HB3.out.trans (hb4.mono HB3.out.size))
  clear hb4
  go_wp2_with fail
  refine (K4.out _).mono ?_
  rintro e w5 ⟨rfl, hb5⟩
  have HB5 := Lib.hid (HB4.out.trans (hb5.mono HB4.out.size))
  clear hb5
  go_wp2_with fail
  refine (K5.out _).mono ?_
  rintro e w6 ⟨rfl, hb6⟩
  have HB6 := Lib.hid (HB5.out.trans (hb6.mono HB5.out.size))
  clear hb6
  go_wp2_with fail
  refine (K6.out _).mono ?_
  rintro e w7 ⟨rfl, hb7⟩
  have HB7 := Lib.hid (HB6.out.trans (hb7.mono HB6.out.size))
  clear hb7
  go_wp2_with fail
  refine (K7.out _).mono ?_
  rintro e w8 ⟨rfl, hb8⟩
  have HB8 := Lib.hid (HB7.out.trans (hb8.mono HB7.out.size))
  clear hb8
  go_wp2_with fail
  refine (K3.out _).mono ?_
  rintro e w9 ⟨rfl, hb9⟩
  have HB9 := Lib.hid (HB8.out.trans (hb9.mono HB8.out.size))
  clear hb9
  go_wp2_with fail
  refine (K8.out _).mono ?_
  rintro e w10 ⟨rfl, hb10⟩
  have HB10 := Lib.hid (HB9.out.trans (hb10.mono HB9.out.size))
  clear hb10
  go_wp2_with fail
  refine (K9.out _).mono ?_
  rintro e w11 ⟨rfl, hb11⟩
  have HB11 := Lib.hid (HB10.out.trans (hb11.mono HB10.out.size))
  clear hb11
  go_wp2_with fail
  refine (K10.out _).mono ?_
  rintro e w12 ⟨rfl, hb12⟩
  have HB12 := Lib.hid (HB11.out.trans (hb12.mono HB11.out.size))
  clear hb12
  go_wp2_with fail
  refine (K11.out _).mono ?_
  rintro e w13 ⟨rfl, hb13⟩
  have HB13 := Lib.hid (HB12.out.trans (hb13.mono HB12.out.size))
  clear hb13
  go_wp2_with fail
  refine (K12.out _).mono ?_
  rintro e w14 ⟨rfl, hb14⟩
  have HB14 := Lib.hid (HB13.out.trans (hb14.mono HB13.out.size))
  clear hb14
  go_wp2_with fail
  refine (D1.out _).mono ?_
  rintro e w15 ⟨rfl, hb15⟩
  have HB15 := Lib.hid (HB14.out.trans (hb15.mono HB14.out.size))
  clear hb15
  have HA := Lib.hid (HB15.out.trans ((below_new w15 (.cells #[.int .i64 1, .int .i64 q, .string ⟨#[]⟩, .slice none 0 0] 24)).mono HB15.out.size))
  go_wp2_with fail
  refine (D2.out _).mono ?_
  rintro e w16 ⟨rfl, hb16⟩
  have HB16 := Lib.hid (HA.out.trans (hb16.mono HA.out.size))
  clear hb16
  go_wp2_with fail
  refine (D3.out _).mono ?_
  rintro e w17 ⟨rfl, hb17⟩
  have HB17 := Lib.hid (HB16.out.trans (hb17.mono HB16.out.size))
  clear hb17
  go_wp2_with fail
  refine (D4.out _).mono ?_
  rintro e w18 ⟨rfl, hb18⟩
  have HB18 := Lib.hid (HB17.out.trans (hb18.mono HB17.out.size))
  clear hb18
  go_wp2_with fail
  refine (MR.out _).mono ?_
  rintro e w19 ⟨rfl, rfl⟩
  go_wp2_with fail
  refine (MB.out _).mono ?_
  rintro e w20 ⟨rfl, rfl⟩
  go_wp2
  go_ret
  exact ⟨rfl, HB18.out⟩
set_option maxRecDepth 100000 in
set_option maxHeartbeats 4000000 in
theorem laws_lt_min_r0 {T : World → Prop} (hsh : Shown T) (a b c s p t u v q g : Int) (hS : Sums a b c s p t u v 1 0 0) (hD : Divs a b q g 0) (hb0 : ¬ b = 0) (hbb : i64q b) (h1 : a = -9223372036854775808) (h2 : ¬ b = -1)  (w : World) (ht : T w) : Calls Tryd.prog 5 #[.int .i64 a, .int .i64 b, .int .i64 c] w (Yes w) := by
  obtain ⟨k1, k2, k3, k4, k5, k6, k7, k8, k9, k10, k11, k12⟩ := hS
  have K1 := Lib.hid k1
  have K2 := Lib.hid k2
  have K3 := Lib.hid k3
  have K4 := Lib.hid k4
  have K5 := Lib.hid k5
  have K6 := Lib.hid k6
  have K7 := Lib.hid k7
  have K8 := Lib.hid k8
  have K9 := Lib.hid k9
  have K10 := Lib.hid k10
  have K11 := Lib.hid k11
  have K12 := Lib.hid k12
  clear k1 k2 k3 k4 k5 k6 k7 k8 k9 k10 k11 k12
  obtain ⟨d1, d2, d3, d4⟩ := hD
  unfold OpEnd numV at d1
  have D1 := Lib.hid d1
  have D2 := Lib.hid d2
  have D3 := Lib.hid d3
  have D4 := Lib.hid d4
  clear d1 d2 d3 d4
  have h1b : (a == -9223372036854775808) = true := by rw [h1]; rfl
  clear h1
  have MB := Lib.hid (fun w => mag_any b hbb w)
  clear hbb
  go_enter Tryd.func5, Tryd.ntmps5
  go_wp2_with fail
  refine (hsh _ ht).mono ?_
  rintro e w1 ⟨rfl, hb1⟩
  have HB1 := Lib.hid hb1
  clear hb1
  go_wp2_with fail
  refine (K1.out _).mono ?_
  rintro e w2 ⟨rfl, hb2⟩
  have HB2 := Lib.hid (HB1.out.trans (hb2.mono HB1.out.size))
  clear hb2
  go_wp2_with fail
  refine (K2.out _).mono ?_
  rintro e w3 ⟨rfl, hb3⟩
  have HB3 := Lib.hid (HB2.out.trans (hb3.mono HB2.out.size))
  clear hb3
  go_wp2_with fail
  refine (K3.out _).mono ?_
  rintro e w4 ⟨rfl, hb4⟩
  have HB4 := Lib.hid (HB3.out.trans (hb4.mono HB3.out.size))
  clear hb4
  go_wp2_with fail
  refine (K4.out _).mono ?_
  rintro e w5 ⟨rfl, hb5⟩
  have HB5 := Lib.hid (HB4.out.trans (hb5.mono HB4.out.size))
  clear hb5
  go_wp2_with fail
  refine (K5.out _).mono ?_
  rintro e w6 ⟨rfl, hb6⟩
  have HB6 := Lib.hid (HB5.out.trans (hb6.mono HB5.out.size))
  clear hb6
  go_wp2_with fail
  refine (K6.out _).mono ?_
  rintro e w7 ⟨rfl, hb7⟩
  have HB7 := Lib.hid (HB6.out.trans (hb7.mono HB6.out.size))
  clear hb7
  go_wp2_with fail
  refine (K7.out _).mono ?_
  rintro e w8 ⟨rfl, hb8⟩
  have HB8 := Lib.hid (HB7.out.trans (hb8.mono HB7.out.size))
  clear hb8
  go_wp2_with fail
  refine (K3.out _).mono ?_
  rintro e w9 ⟨rfl, hb9⟩
  have HB9 := Lib.hid (HB8.out.trans (hb9.mono HB8.out.size))
  clear hb9
  go_wp2_with fail
  refine (K8.out _).mono ?_
  rintro e w10 ⟨rfl, hb10⟩
  have HB10 := Lib.hid (HB9.out.trans (hb10.mono HB9.out.size))
  clear hb10
  go_wp2_with fail
  refine (K9.out _).mono ?_
  rintro e w11 ⟨rfl, hb11⟩
  have HB11 := Lib.hid (HB10.out.trans (hb11.mono HB10.out.size))
  clear hb11
  go_wp2_with fail
  refine (K10.out _).mono ?_
  rintro e w12 ⟨rfl, hb12⟩
  have HB12 := Lib.hid (HB11.out.trans (hb12.mono HB11.out.size))
  clear hb12
  go_wp2_with fail
  refine (K11.out _).mono ?_
  rintro e w13 ⟨rfl, hb13⟩
  have HB13 := Lib.hid (HB12.out.trans (hb13.mono HB12.out.size))
  clear hb13
  go_wp2_with fail
  refine (K12.out _).mono ?_
  rintro e w14 ⟨rfl, hb14⟩
  have HB14 := Lib.hid (HB13.out.trans (hb14.mono HB13.out.size))
  clear hb14
  go_wp2_with fail
  refine (D1.out _).mono ?_
  rintro e w15 ⟨rfl, hb15⟩
  have HB15 := Lib.hid (HB14.out.trans (hb15.mono HB14.out.size))
  clear hb15
  have HA := Lib.hid (HB15.out.trans ((below_new w15 (.cells #[.int .i64 1, .int .i64 q, .string ⟨#[]⟩, .slice none 0 0] 24)).mono HB15.out.size))
  go_wp2_with fail
  refine (D2.out _).mono ?_
  rintro e w16 ⟨rfl, hb16⟩
  have HB16 := Lib.hid (HA.out.trans (hb16.mono HA.out.size))
  clear hb16
  go_wp2_with fail
  refine (D3.out _).mono ?_
  rintro e w17 ⟨rfl, hb17⟩
  have HB17 := Lib.hid (HB16.out.trans (hb17.mono HB16.out.size))
  clear hb17
  go_wp2_with fail
  refine (D4.out _).mono ?_
  rintro e w18 ⟨rfl, hb18⟩
  have HB18 := Lib.hid (HB17.out.trans (hb18.mono HB17.out.size))
  clear hb18
  go_wp2
  go_ret
  exact ⟨rfl, HB18.out⟩
set_option maxRecDepth 100000 in
set_option maxHeartbeats 4000000 in
theorem laws_lt_min_rn {T : World → Prop} (hsh : Shown T) (a b c s p t u v q g r : Int) (hS : Sums a b c s p t u v 1 0 0) (hD : Divs a b q g r) (_hb0 : ¬ b = 0) (hrb : i64q r) (hbb : i64q b) (h1 : a = -9223372036854775808) (_h2 : ¬ b = -1) (hr0 : ¬ r = 0) (hsg : (decide (r < 0) == decide (a < 0)) = true) (hls : ((r.natAbs : Int)) < (b.natAbs : Int))  (w : World) (ht : T w) : Calls Tryd.prog 5 #[.int .i64 a, .int .i64 b, .int .i64 c] w (Yes w) := by
  obtain ⟨k1, k2, k3, k4, k5, k6, k7, k8, k9, k10, k11, k12⟩ := hS
  have K1 := Lib.hid k1
  have K2 := Lib.hid k2
  have K3 := Lib.hid k3
  have K4 := Lib.hid k4
  have K5 := Lib.hid k5
  have K6 := Lib.hid k6
  have K7 := Lib.hid k7
  have K8 := Lib.hid k8
  have K9 := Lib.hid k9
  have K10 := Lib.hid k10
  have K11 := Lib.hid k11
  have K12 := Lib.hid k12
  clear k1 k2 k3 k4 k5 k6 k7 k8 k9 k10 k11 k12
  obtain ⟨d1, d2, d3, d4⟩ := hD
  unfold OpEnd numV at d1
  have D1 := Lib.hid d1
  have D2 := Lib.hid d2
  have D3 := Lib.hid d3
  have D4 := Lib.hid d4
  clear d1 d2 d3 d4
  have h1b : (a == -9223372036854775808) = true := by rw [h1]; rfl
  clear h1
  have MB := Lib.hid (fun w => mag_any b hbb w)
  have MR := Lib.hid (fun w => mag_any r hrb w)
  clear hrb
  clear hbb
  go_enter Tryd.func5, Tryd.ntmps5
  go_wp2_with fail
  refine (hsh _ ht).mono ?_
  rintro e w1 ⟨rfl, hb1⟩
  have HB1 := Lib.hid hb1
  clear hb1
  go_wp2_with fail
  refine (K1.out _).mono ?_
  rintro e w2 ⟨rfl, hb2⟩
  have HB2 := Lib.hid (HB1.out.trans (hb2.mono HB1.out.size))
  clear hb2
  go_wp2_with fail
  refine (K2.out _).mono ?_
  rintro e w3 ⟨rfl, hb3⟩
  have HB3 := Lib.hid (HB2.out.trans (hb3.mono HB2.out.size))
  clear hb3
  go_wp2_with fail
  refine (K3.out _).mono ?_
  rintro e w4 ⟨rfl, hb4⟩
  have HB4 := Lib.hid (HB3.out.trans (hb4.mono HB3.out.size))
  clear hb4
  go_wp2_with fail
  refine (K4.out _).mono ?_
  rintro e w5 ⟨rfl, hb5⟩
  have HB5 := Lib.hid (HB4.out.trans (hb5.mono HB4.out.size))
  clear hb5
  go_wp2_with fail
  refine (K5.out _).mono ?_
  rintro e w6 ⟨rfl, hb6⟩
  have HB6 := Lib.hid (HB5.out.trans (hb6.mono HB5.out.size))
  clear hb6
  go_wp2_with fail
  refine (K6.out _).mono ?_
  rintro e w7 ⟨rfl, hb7⟩
  have HB7 := Lib.hid (HB6.out.trans (hb7.mono HB6.out.size))
  clear hb7
  go_wp2_with fail
  refine (K7.out _).mono ?_
  rintro e w8 ⟨rfl, hb8⟩
  have HB8 := Lib.hid (HB7.out.trans (hb8.mono HB7.out.size))
  clear hb8
  go_wp2_with fail
  refine (K3.out _).mono ?_
  rintro e w9 ⟨rfl, hb9⟩
  have HB9 := Lib.hid (HB8.out.trans (hb9.mono HB8.out.size))
  clear hb9
  go_wp2_with fail
  refine (K8.out _).mono ?_
  rintro e w10 ⟨rfl, hb10⟩
  have HB10 := Lib.hid (HB9.out.trans (hb10.mono HB9.out.size))
  clear hb10
  go_wp2_with fail
  refine (K9.out _).mono ?_
  rintro e w11 ⟨rfl, hb11⟩
  have HB11 := Lib.hid (HB10.out.trans (hb11.mono HB10.out.size))
  clear hb11
  go_wp2_with fail
  refine (K10.out _).mono ?_
  rintro e w12 ⟨rfl, hb12⟩
  have HB12 := Lib.hid (HB11.out.trans (hb12.mono HB11.out.size))
  clear hb12
  go_wp2_with fail
  refine (K11.out _).mono ?_
  rintro e w13 ⟨rfl, hb13⟩
  have HB13 := Lib.hid (HB12.out.trans (hb13.mono HB12.out.size))
  clear hb13
  go_wp2_with fail
  refine (K12.out _).mono ?_
  rintro e w14 ⟨rfl, hb14⟩
  have HB14 := Lib.hid (HB13.out.trans (hb14.mono HB13.out.size))
  clear hb14
  go_wp2_with fail
  refine (D1.out _).mono ?_
  rintro e w15 ⟨rfl, hb15⟩
  have HB15 := Lib.hid (HB14.out.trans (hb15.mono HB14.out.size))
  clear hb15
  have HA := Lib.hid (HB15.out.trans ((below_new w15 (.cells #[.int .i64 1, .int .i64 q, .string ⟨#[]⟩, .slice none 0 0] 24)).mono HB15.out.size))
  go_wp2_with fail
  refine (D2.out _).mono ?_
  rintro e w16 ⟨rfl, hb16⟩
  have HB16 := Lib.hid (HA.out.trans (hb16.mono HA.out.size))
  clear hb16
  go_wp2_with fail
  refine (D3.out _).mono ?_
  rintro e w17 ⟨rfl, hb17⟩
  have HB17 := Lib.hid (HB16.out.trans (hb17.mono HB16.out.size))
  clear hb17
  go_wp2_with fail
  refine (D4.out _).mono ?_
  rintro e w18 ⟨rfl, hb18⟩
  have HB18 := Lib.hid (HB17.out.trans (hb18.mono HB17.out.size))
  clear hb18
  go_wp2_with fail
  refine (MR.out _).mono ?_
  rintro e w19 ⟨rfl, rfl⟩
  go_wp2_with fail
  refine (MB.out _).mono ?_
  rintro e w20 ⟨rfl, rfl⟩
  go_wp2
  go_ret
  exact ⟨rfl, HB18.out⟩
set_option maxRecDepth 100000 in
set_option maxHeartbeats 4000000 in
theorem laws_eq_zero {T : World → Prop} (hsh : Shown T) (a c s p t u v : Int) (hS : Sums a 0 c s p t u v 0 0 1) (hz : ∀ w, Calls Tryd.prog 20 #[.string ⟨#[47]⟩, .int .i64 a, .int .i64 0] w (OpEnd w 0 0 false)) (w : World) (ht : T w) : Calls Tryd.prog 5 #[.int .i64 a, .int .i64 0, .int .i64 c] w (Yes w) := by
  obtain ⟨k1, k2, k3, k4, k5, k6, k7, k8, k9, k10, k11, k12⟩ := hS
  have K1 := Lib.hid k1
  have K2 := Lib.hid k2
  have K3 := Lib.hid k3
  have K4 := Lib.hid k4
  have K5 := Lib.hid k5
  have K6 := Lib.hid k6
  have K7 := Lib.hid k7
  have K8 := Lib.hid k8
  have K9 := Lib.hid k9
  have K10 := Lib.hid k10
  have K11 := Lib.hid k11
  have K12 := Lib.hid k12
  clear k1 k2 k3 k4 k5 k6 k7 k8 k9 k10 k11 k12
  unfold OpEnd numV at hz
  have HZ := Lib.hid hz
  clear hz
  go_enter Tryd.func5, Tryd.ntmps5
  go_wp2_with fail
  refine (hsh _ ht).mono ?_
  rintro e w1 ⟨rfl, hb1⟩
  have HB1 := Lib.hid hb1
  clear hb1
  go_wp2_with fail
  refine (K1.out _).mono ?_
  rintro e w2 ⟨rfl, hb2⟩
  have HB2 := Lib.hid (HB1.out.trans (hb2.mono HB1.out.size))
  clear hb2
  go_wp2_with fail
  refine (K2.out _).mono ?_
  rintro e w3 ⟨rfl, hb3⟩
  have HB3 := Lib.hid (HB2.out.trans (hb3.mono HB2.out.size))
  clear hb3
  go_wp2_with fail
  refine (K3.out _).mono ?_
  rintro e w4 ⟨rfl, hb4⟩
  have HB4 := Lib.hid (HB3.out.trans (hb4.mono HB3.out.size))
  clear hb4
  go_wp2_with fail
  refine (K4.out _).mono ?_
  rintro e w5 ⟨rfl, hb5⟩
  have HB5 := Lib.hid (HB4.out.trans (hb5.mono HB4.out.size))
  clear hb5
  go_wp2_with fail
  refine (K5.out _).mono ?_
  rintro e w6 ⟨rfl, hb6⟩
  have HB6 := Lib.hid (HB5.out.trans (hb6.mono HB5.out.size))
  clear hb6
  go_wp2_with fail
  refine (K6.out _).mono ?_
  rintro e w7 ⟨rfl, hb7⟩
  have HB7 := Lib.hid (HB6.out.trans (hb7.mono HB6.out.size))
  clear hb7
  go_wp2_with fail
  refine (K7.out _).mono ?_
  rintro e w8 ⟨rfl, hb8⟩
  have HB8 := Lib.hid (HB7.out.trans (hb8.mono HB7.out.size))
  clear hb8
  go_wp2_with fail
  refine (K3.out _).mono ?_
  rintro e w9 ⟨rfl, hb9⟩
  have HB9 := Lib.hid (HB8.out.trans (hb9.mono HB8.out.size))
  clear hb9
  go_wp2_with fail
  refine (K8.out _).mono ?_
  rintro e w10 ⟨rfl, hb10⟩
  have HB10 := Lib.hid (HB9.out.trans (hb10.mono HB9.out.size))
  clear hb10
  go_wp2_with fail
  refine (K9.out _).mono ?_
  rintro e w11 ⟨rfl, hb11⟩
  have HB11 := Lib.hid (HB10.out.trans (hb11.mono HB10.out.size))
  clear hb11
  go_wp2_with fail
  refine (K10.out _).mono ?_
  rintro e w12 ⟨rfl, hb12⟩
  have HB12 := Lib.hid (HB11.out.trans (hb12.mono HB11.out.size))
  clear hb12
  go_wp2_with fail
  refine (K11.out _).mono ?_
  rintro e w13 ⟨rfl, hb13⟩
  have HB13 := Lib.hid (HB12.out.trans (hb13.mono HB12.out.size))
  clear hb13
  go_wp2_with fail
  refine (K12.out _).mono ?_
  rintro e w14 ⟨rfl, hb14⟩
  have HB14 := Lib.hid (HB13.out.trans (hb14.mono HB13.out.size))
  clear hb14
  go_wp2_with fail
  refine (HZ.out _).mono ?_
  rintro e w15 ⟨rfl, hb15⟩
  have HB15 := Lib.hid (HB14.out.trans (hb15.mono HB14.out.size))
  clear hb15
  have HA := Lib.hid (HB15.out.trans ((below_new w15 (.cells #[.int .i64 0, .int .i64 0, .string ⟨#[]⟩, .slice none 0 0] 24)).mono HB15.out.size))
  go_wp2
  go_ret
  exact ⟨rfl, HA.out⟩
set_option maxRecDepth 100000 in
set_option maxHeartbeats 4000000 in
theorem laws_eq_r0 {T : World → Prop} (hsh : Shown T) (a b c s p t u v q g : Int) (hS : Sums a b c s p t u v 0 0 1) (hD : Divs a b q g 0) (hb0 : ¬ b = 0) (hbb : i64q b) (h1 : ¬ a = -9223372036854775808)  (w : World) (ht : T w) : Calls Tryd.prog 5 #[.int .i64 a, .int .i64 b, .int .i64 c] w (Yes w) := by
  obtain ⟨k1, k2, k3, k4, k5, k6, k7, k8, k9, k10, k11, k12⟩ := hS
  have K1 := Lib.hid k1
  have K2 := Lib.hid k2
  have K3 := Lib.hid k3
  have K4 := Lib.hid k4
  have K5 := Lib.hid k5
  have K6 := Lib.hid k6
  have K7 := Lib.hid k7
  have K8 := Lib.hid k8
  have K9 := Lib.hid k9
  have K10 := Lib.hid k10
  have K11 := Lib.hid k11
  have K12 := Lib.hid k12
  clear k1 k2 k3 k4 k5 k6 k7 k8 k9 k10 k11 k12
  obtain ⟨d1, d2, d3, d4⟩ := hD
  unfold OpEnd numV at d1
  have D1 := Lib.hid d1
  have D2 := Lib.hid d2
  have D3 := Lib.hid d3
  have D4 := Lib.hid d4
  clear d1 d2 d3 d4
  have MB := Lib.hid (fun w => mag_any b hbb w)
  clear hbb
  go_enter Tryd.func5, Tryd.ntmps5
  go_wp2_with fail
  refine (hsh _ ht).mono ?_
  rintro e w1 ⟨rfl, hb1⟩
  have HB1 := Lib.hid hb1
  clear hb1
  go_wp2_with fail
  refine (K1.out _).mono ?_
  rintro e w2 ⟨rfl, hb2⟩
  have HB2 := Lib.hid (HB1.out.trans (hb2.mono HB1.out.size))
  clear hb2
  go_wp2_with fail
  refine (K2.out _).mono ?_
  rintro e w3 ⟨rfl, hb3⟩
  have HB3 := Lib.hid (HB2.out.trans (hb3.mono HB2.out.size))
  clear hb3
  go_wp2_with fail
  refine (K3.out _).mono ?_
  rintro e w4 ⟨rfl, hb4⟩
  have HB4 := Lib.hid (HB3.out.trans (hb4.mono HB3.out.size))
  clear hb4
  go_wp2_with fail
  refine (K4.out _).mono ?_
  rintro e w5 ⟨rfl, hb5⟩
  have HB5 := Lib.hid (HB4.out.trans (hb5.mono HB4.out.size))
  clear hb5
  go_wp2_with fail
  refine (K5.out _).mono ?_
  rintro e w6 ⟨rfl, hb6⟩
  have HB6 := Lib.hid (HB5.out.trans (hb6.mono HB5.out.size))
  clear hb6
  go_wp2_with fail
  refine (K6.out _).mono ?_
  rintro e w7 ⟨rfl, hb7⟩
  have HB7 := Lib.hid (HB6.out.trans (hb7.mono HB6.out.size))
  clear hb7
  go_wp2_with fail
  refine (K7.out _).mono ?_
  rintro e w8 ⟨rfl, hb8⟩
  have HB8 := Lib.hid (HB7.out.trans (hb8.mono HB7.out.size))
  clear hb8
  go_wp2_with fail
  refine (K3.out _).mono ?_
  rintro e w9 ⟨rfl, hb9⟩
  have HB9 := Lib.hid (HB8.out.trans (hb9.mono HB8.out.size))
  clear hb9
  go_wp2_with fail
  refine (K8.out _).mono ?_
  rintro e w10 ⟨rfl, hb10⟩
  have HB10 := Lib.hid (HB9.out.trans (hb10.mono HB9.out.size))
  clear hb10
  go_wp2_with fail
  refine (K9.out _).mono ?_
  rintro e w11 ⟨rfl, hb11⟩
  have HB11 := Lib.hid (HB10.out.trans (hb11.mono HB10.out.size))
  clear hb11
  go_wp2_with fail
  refine (K10.out _).mono ?_
  rintro e w12 ⟨rfl, hb12⟩
  have HB12 := Lib.hid (HB11.out.trans (hb12.mono HB11.out.size))
  clear hb12
  go_wp2_with fail
  refine (K11.out _).mono ?_
  rintro e w13 ⟨rfl, hb13⟩
  have HB13 := Lib.hid (HB12.out.trans (hb13.mono HB12.out.size))
  clear hb13
  go_wp2_with fail
  refine (K12.out _).mono ?_
  rintro e w14 ⟨rfl, hb14⟩
  have HB14 := Lib.hid (HB13.out.trans (hb14.mono HB13.out.size))
  clear hb14
  go_wp2_with fail
  refine (D1.out _).mono ?_
  rintro e w15 ⟨rfl, hb15⟩
  have HB15 := Lib.hid (HB14.out.trans (hb15.mono HB14.out.size))
  clear hb15
  have HA := Lib.hid (HB15.out.trans ((below_new w15 (.cells #[.int .i64 1, .int .i64 q, .string ⟨#[]⟩, .slice none 0 0] 24)).mono HB15.out.size))
  go_wp2_with fail
  refine (D2.out _).mono ?_
  rintro e w16 ⟨rfl, hb16⟩
  have HB16 := Lib.hid (HA.out.trans (hb16.mono HA.out.size))
  clear hb16
  go_wp2_with fail
  refine (D3.out _).mono ?_
  rintro e w17 ⟨rfl, hb17⟩
  have HB17 := Lib.hid (HB16.out.trans (hb17.mono HB16.out.size))
  clear hb17
  go_wp2_with fail
  refine (D4.out _).mono ?_
  rintro e w18 ⟨rfl, hb18⟩
  have HB18 := Lib.hid (HB17.out.trans (hb18.mono HB17.out.size))
  clear hb18
  go_wp2
  go_ret
  exact ⟨rfl, HB18.out⟩
set_option maxRecDepth 100000 in
set_option maxHeartbeats 4000000 in
theorem laws_eq_rn {T : World → Prop} (hsh : Shown T) (a b c s p t u v q g r : Int) (hS : Sums a b c s p t u v 0 0 1) (hD : Divs a b q g r) (_hb0 : ¬ b = 0) (hrb : i64q r) (hbb : i64q b) (h1 : ¬ a = -9223372036854775808) (hr0 : ¬ r = 0) (hsg : (decide (r < 0) == decide (a < 0)) = true) (hls : ((r.natAbs : Int)) < (b.natAbs : Int))  (w : World) (ht : T w) : Calls Tryd.prog 5 #[.int .i64 a, .int .i64 b, .int .i64 c] w (Yes w) := by
  obtain ⟨k1, k2, k3, k4, k5, k6, k7, k8, k9, k10, k11, k12⟩ := hS
  have K1 := Lib.hid k1
  have K2 := Lib.hid k2
  have K3 := Lib.hid k3
  have K4 := Lib.hid k4
  have K5 := Lib.hid k5
  have K6 := Lib.hid k6
  have K7 := Lib.hid k7
  have K8 := Lib.hid k8
  have K9 := Lib.hid k9
  have K10 := Lib.hid k10
  have K11 := Lib.hid k11
  have K12 := Lib.hid k12
  clear k1 k2 k3 k4 k5 k6 k7 k8 k9 k10 k11 k12
  obtain ⟨d1, d2, d3, d4⟩ := hD
  unfold OpEnd numV at d1
  have D1 := Lib.hid d1
  have D2 := Lib.hid d2
  have D3 := Lib.hid d3
  have D4 := Lib.hid d4
  clear d1 d2 d3 d4
  have MB := Lib.hid (fun w => mag_any b hbb w)
  have MR := Lib.hid (fun w => mag_any r hrb w)
  clear hrb
  clear hbb
  go_enter Tryd.func5, Tryd.ntmps5
  go_wp2_with fail
  refine (hsh _ ht).mono ?_
  rintro e w1 ⟨rfl, hb1⟩
  have HB1 := Lib.hid hb1
  clear hb1
  go_wp2_with fail
  refine (K1.out _).mono ?_
  rintro e w2 ⟨rfl, hb2⟩
  have HB2 := Lib.hid (HB1.out.trans (hb2.mono HB1.out.size))
  clear hb2
  go_wp2_with fail
  refine (K2.out _).mono ?_
  rintro e w3 ⟨rfl, hb3⟩
  have HB3 := Lib.hid (HB2.out.trans (hb3.mono HB2.out.size))
  clear hb3
  go_wp2_with fail
  refine (K3.out _).mono ?_
  rintro e w4 ⟨rfl, hb4⟩
  have HB4 := Lib.hid (HB3.out.trans (hb4.mono HB3.out.size))
  clear hb4
  go_wp2_with fail
  refine (K4.out _).mono ?_
  rintro e w5 ⟨rfl, hb5⟩
  have HB5 := Lib.hid (HB4.out.trans (hb5.mono HB4.out.size))
  clear hb5
  go_wp2_with fail
  refine (K5.out _).mono ?_
  rintro e w6 ⟨rfl, hb6⟩
  have HB6 := Lib.hid (HB5.out.trans (hb6.mono HB5.out.size))
  clear hb6
  go_wp2_with fail
  refine (K6.out _).mono ?_
  rintro e w7 ⟨rfl, hb7⟩
  have HB7 := Lib.hid (HB6.out.trans (hb7.mono HB6.out.size))
  clear hb7
  go_wp2_with fail
  refine (K7.out _).mono ?_
  rintro e w8 ⟨rfl, hb8⟩
  have HB8 := Lib.hid (HB7.out.trans (hb8.mono HB7.out.size))
  clear hb8
  go_wp2_with fail
  refine (K3.out _).mono ?_
  rintro e w9 ⟨rfl, hb9⟩
  have HB9 := Lib.hid (HB8.out.trans (hb9.mono HB8.out.size))
  clear hb9
  go_wp2_with fail
  refine (K8.out _).mono ?_
  rintro e w10 ⟨rfl, hb10⟩
  have HB10 := Lib.hid (HB9.out.trans (hb10.mono HB9.out.size))
  clear hb10
  go_wp2_with fail
  refine (K9.out _).mono ?_
  rintro e w11 ⟨rfl, hb11⟩
  have HB11 := Lib.hid (HB10.out.trans (hb11.mono HB10.out.size))
  clear hb11
  go_wp2_with fail
  refine (K10.out _).mono ?_
  rintro e w12 ⟨rfl, hb12⟩
  have HB12 := Lib.hid (HB11.out.trans (hb12.mono HB11.out.size))
  clear hb12
  go_wp2_with fail
  refine (K11.out _).mono ?_
  rintro e w13 ⟨rfl, hb13⟩
  have HB13 := Lib.hid (HB12.out.trans (hb13.mono HB12.out.size))
  clear hb13
  go_wp2_with fail
  refine (K12.out _).mono ?_
  rintro e w14 ⟨rfl, hb14⟩
  have HB14 := Lib.hid (HB13.out.trans (hb14.mono HB13.out.size))
  clear hb14
  go_wp2_with fail
  refine (D1.out _).mono ?_
  rintro e w15 ⟨rfl, hb15⟩
  have HB15 := Lib.hid (HB14.out.trans (hb15.mono HB14.out.size))
  clear hb15
  have HA := Lib.hid (HB15.out.trans ((below_new w15 (.cells #[.int .i64 1, .int .i64 q, .string ⟨#[]⟩, .slice none 0 0] 24)).mono HB15.out.size))
  go_wp2_with fail
  refine (D2.out _).mono ?_
  rintro e w16 ⟨rfl, hb16⟩
  have HB16 := Lib.hid (HA.out.trans (hb16.mono HA.out.size))
  clear hb16
  go_wp2_with fail
  refine (D3.out _).mono ?_
  rintro e w17 ⟨rfl, hb17⟩
  have HB17 := Lib.hid (HB16.out.trans (hb17.mono HB16.out.size))
  clear hb17
  go_wp2_with fail
  refine (D4.out _).mono ?_
  rintro e w18 ⟨rfl, hb18⟩
  have HB18 := Lib.hid (HB17.out.trans (hb18.mono HB17.out.size))
  clear hb18
  go_wp2_with fail
  refine (MR.out _).mono ?_
  rintro e w19 ⟨rfl, rfl⟩
  go_wp2_with fail
  refine (MB.out _).mono ?_
  rintro e w20 ⟨rfl, rfl⟩
  go_wp2
  go_ret
  exact ⟨rfl, HB18.out⟩
set_option maxRecDepth 100000 in
set_option maxHeartbeats 4000000 in
theorem laws_eq_min_r0 {T : World → Prop} (hsh : Shown T) (a b c s p t u v q g : Int) (hS : Sums a b c s p t u v 0 0 1) (hD : Divs a b q g 0) (hb0 : ¬ b = 0) (hbb : i64q b) (h1 : a = -9223372036854775808) (h2 : ¬ b = -1)  (w : World) (ht : T w) : Calls Tryd.prog 5 #[.int .i64 a, .int .i64 b, .int .i64 c] w (Yes w) := by
  obtain ⟨k1, k2, k3, k4, k5, k6, k7, k8, k9, k10, k11, k12⟩ := hS
  have K1 := Lib.hid k1
  have K2 := Lib.hid k2
  have K3 := Lib.hid k3
  have K4 := Lib.hid k4
  have K5 := Lib.hid k5
  have K6 := Lib.hid k6
  have K7 := Lib.hid k7
  have K8 := Lib.hid k8
  have K9 := Lib.hid k9
  have K10 := Lib.hid k10
  have K11 := Lib.hid k11
  have K12 := Lib.hid k12
  clear k1 k2 k3 k4 k5 k6 k7 k8 k9 k10 k11 k12
  obtain ⟨d1, d2, d3, d4⟩ := hD
  unfold OpEnd numV at d1
  have D1 := Lib.hid d1
  have D2 := Lib.hid d2
  have D3 := Lib.hid d3
  have D4 := Lib.hid d4
  clear d1 d2 d3 d4
  have h1b : (a == -9223372036854775808) = true := by rw [h1]; rfl
  clear h1
  have MB := Lib.hid (fun w => mag_any b hbb w)
  clear hbb
  go_enter Tryd.func5, Tryd.ntmps5
  go_wp2_with fail
  refine (hsh _ ht).mono ?_
  rintro e w1 ⟨rfl, hb1⟩
  have HB1 := Lib.hid hb1
  clear hb1
  go_wp2_with fail
  refine (K1.out _).mono ?_
  rintro e w2 ⟨rfl, hb2⟩
  have HB2 := Lib.hid (HB1.out.trans (hb2.mono HB1.out.size))
  clear hb2
  go_wp2_with fail
  refine (K2.out _).mono ?_
  rintro e w3 ⟨rfl, hb3⟩
  have HB3 := Lib.hid (HB2.out.trans (hb3.mono HB2.out.size))
  clear hb3
  go_wp2_with fail
  refine (K3.out _).mono ?_
  rintro e w4 ⟨rfl, hb4⟩
  have HB4 := Lib.hid (HB3.out.trans (hb4.mono HB3.out.size))
  clear hb4
  go_wp2_with fail
  refine (K4.out _).mono ?_
  rintro e w5 ⟨rfl, hb5⟩
  have HB5 := Lib.hid (HB4.out.trans (hb5.mono HB4.out.size))
  clear hb5
  go_wp2_with fail
  refine (K5.out _).mono ?_
  rintro e w6 ⟨rfl, hb6⟩
  have HB6 := Lib.hid (HB5.out.trans (hb6.mono HB5.out.size))
  clear hb6
  go_wp2_with fail
  refine (K6.out _).mono ?_
  rintro e w7 ⟨rfl, hb7⟩
  have HB7 := Lib.hid (HB6.out.trans (hb7.mono HB6.out.size))
  clear hb7
  go_wp2_with fail
  refine (K7.out _).mono ?_
  rintro e w8 ⟨rfl, hb8⟩
  have HB8 := Lib.hid (HB7.out.trans (hb8.mono HB7.out.size))
  clear hb8
  go_wp2_with fail
  refine (K3.out _).mono ?_
  rintro e w9 ⟨rfl, hb9⟩
  have HB9 := Lib.hid (HB8.out.trans (hb9.mono HB8.out.size))
  clear hb9
  go_wp2_with fail
  refine (K8.out _).mono ?_
  rintro e w10 ⟨rfl, hb10⟩
  have HB10 := Lib.hid (HB9.out.trans (hb10.mono HB9.out.size))
  clear hb10
  go_wp2_with fail
  refine (K9.out _).mono ?_
  rintro e w11 ⟨rfl, hb11⟩
  have HB11 := Lib.hid (HB10.out.trans (hb11.mono HB10.out.size))
  clear hb11
  go_wp2_with fail
  refine (K10.out _).mono ?_
  rintro e w12 ⟨rfl, hb12⟩
  have HB12 := Lib.hid (HB11.out.trans (hb12.mono HB11.out.size))
  clear hb12
  go_wp2_with fail
  refine (K11.out _).mono ?_
  rintro e w13 ⟨rfl, hb13⟩
  have HB13 := Lib.hid (HB12.out.trans (hb13.mono HB12.out.size))
  clear hb13
  go_wp2_with fail
  refine (K12.out _).mono ?_
  rintro e w14 ⟨rfl, hb14⟩
  have HB14 := Lib.hid (HB13.out.trans (hb14.mono HB13.out.size))
  clear hb14
  go_wp2_with fail
  refine (D1.out _).mono ?_
  rintro e w15 ⟨rfl, hb15⟩
  have HB15 := Lib.hid (HB14.out.trans (hb15.mono HB14.out.size))
  clear hb15
  have HA := Lib.hid (HB15.out.trans ((below_new w15 (.cells #[.int .i64 1, .int .i64 q, .string ⟨#[]⟩, .slice none 0 0] 24)).mono HB15.out.size))
  go_wp2_with fail
  refine (D2.out _).mono ?_
  rintro e w16 ⟨rfl, hb16⟩
  have HB16 := Lib.hid (HA.out.trans (hb16.mono HA.out.size))
  clear hb16
  go_wp2_with fail
  refine (D3.out _).mono ?_
  rintro e w17 ⟨rfl, hb17⟩
  have HB17 := Lib.hid (HB16.out.trans (hb17.mono HB16.out.size))
  clear hb17
  go_wp2_with fail
  refine (D4.out _).mono ?_
  rintro e w18 ⟨rfl, hb18⟩
  have HB18 := Lib.hid (HB17.out.trans (hb18.mono HB17.out.size))
  clear hb18
  go_wp2
  go_ret
  exact ⟨rfl, HB18.out⟩
set_option maxRecDepth 100000 in
set_option maxHeartbeats 4000000 in
theorem laws_eq_min_rn {T : World → Prop} (hsh : Shown T) (a b c s p t u v q g r : Int) (hS : Sums a b c s p t u v 0 0 1) (hD : Divs a b q g r) (_hb0 : ¬ b = 0) (hrb : i64q r) (hbb : i64q b) (h1 : a = -9223372036854775808) (_h2 : ¬ b = -1) (hr0 : ¬ r = 0) (hsg : (decide (r < 0) == decide (a < 0)) = true) (hls : ((r.natAbs : Int)) < (b.natAbs : Int))  (w : World) (ht : T w) : Calls Tryd.prog 5 #[.int .i64 a, .int .i64 b, .int .i64 c] w (Yes w) := by
  obtain ⟨k1, k2, k3, k4, k5, k6, k7, k8, k9, k10, k11, k12⟩ := hS
  have K1 := Lib.hid k1
  have K2 := Lib.hid k2
  have K3 := Lib.hid k3
  have K4 := Lib.hid k4
  have K5 := Lib.hid k5
  have K6 := Lib.hid k6
  have K7 := Lib.hid k7
  have K8 := Lib.hid k8
  have K9 := Lib.hid k9
  have K10 := Lib.hid k10
  have K11 := Lib.hid k11
  have K12 := Lib.hid k12
  clear k1 k2 k3 k4 k5 k6 k7 k8 k9 k10 k11 k12
  obtain ⟨d1, d2, d3, d4⟩ := hD
  unfold OpEnd numV at d1
  have D1 := Lib.hid d1
  have D2 := Lib.hid d2
  have D3 := Lib.hid d3
  have D4 := Lib.hid d4
  clear d1 d2 d3 d4
  have h1b : (a == -9223372036854775808) = true := by rw [h1]; rfl
  clear h1
  have MB := Lib.hid (fun w => mag_any b hbb w)
  have MR := Lib.hid (fun w => mag_any r hrb w)
  clear hrb
  clear hbb
  go_enter Tryd.func5, Tryd.ntmps5
  go_wp2_with fail
  refine (hsh _ ht).mono ?_
  rintro e w1 ⟨rfl, hb1⟩
  have HB1 := Lib.hid hb1
  clear hb1
  go_wp2_with fail
  refine (K1.out _).mono ?_
  rintro e w2 ⟨rfl, hb2⟩
  have HB2 := Lib.hid (HB1.out.trans (hb2.mono HB1.out.size))
  clear hb2
  go_wp2_with fail
  refine (K2.out _).mono ?_
  rintro e w3 ⟨rfl, hb3⟩
  have HB3 := Lib.hid (HB2.out.trans (hb3.mono HB2.out.size))
  clear hb3
  go_wp2_with fail
  refine (K3.out _).mono ?_
  rintro e w4 ⟨rfl, hb4⟩
  have HB4 := Lib.hid (HB3.out.trans (hb4.mono HB3.out.size))
  clear hb4
  go_wp2_with fail
  refine (K4.out _).mono ?_
  rintro e w5 ⟨rfl, hb5⟩
  have HB5 := Lib.hid (HB4.out.trans (hb5.mono HB4.out.size))
  clear hb5
  go_wp2_with fail
  refine (K5.out _).mono ?_
  rintro e w6 ⟨rfl, hb6⟩
  have HB6 := Lib.hid (HB5.out.trans (hb6.mono HB5.out.size))
  clear hb6
  go_wp2_with fail
  refine (K6.out _).mono ?_
  rintro e w7 ⟨rfl, hb7⟩
  have HB7 := Lib.hid (HB6.out.trans (hb7.mono HB6.out.size))
  clear hb7
  go_wp2_with fail
  refine (K7.out _).mono ?_
  rintro e w8 ⟨rfl, hb8⟩
  have HB8 := Lib.hid (HB7.out.trans (hb8.mono HB7.out.size))
  clear hb8
  go_wp2_with fail
  refine (K3.out _).mono ?_
  rintro e w9 ⟨rfl, hb9⟩
  have HB9 := Lib.hid (HB8.out.trans (hb9.mono HB8.out.size))
  clear hb9
  go_wp2_with fail
  refine (K8.out _).mono ?_
  rintro e w10 ⟨rfl, hb10⟩
  have HB10 := Lib.hid (HB9.out.trans (hb10.mono HB9.out.size))
  clear hb10
  go_wp2_with fail
  refine (K9.out _).mono ?_
  rintro e w11 ⟨rfl, hb11⟩
  have HB11 := Lib.hid (HB10.out.trans (hb11.mono HB10.out.size))
  clear hb11
  go_wp2_with fail
  refine (K10.out _).mono ?_
  rintro e w12 ⟨rfl, hb12⟩
  have HB12 := Lib.hid (HB11.out.trans (hb12.mono HB11.out.size))
  clear hb12
  go_wp2_with fail
  refine (K11.out _).mono ?_
  rintro e w13 ⟨rfl, hb13⟩
  have HB13 := Lib.hid (HB12.out.trans (hb13.mono HB12.out.size))
  clear hb13
  go_wp2_with fail
  refine (K12.out _).mono ?_
  rintro e w14 ⟨rfl, hb14⟩
  have HB14 := Lib.hid (HB13.out.trans (hb14.mono HB13.out.size))
  clear hb14
  go_wp2_with fail
  refine (D1.out _).mono ?_
  rintro e w15 ⟨rfl, hb15⟩
  have HB15 := Lib.hid (HB14.out.trans (hb15.mono HB14.out.size))
  clear hb15
  have HA := Lib.hid (HB15.out.trans ((below_new w15 (.cells #[.int .i64 1, .int .i64 q, .string ⟨#[]⟩, .slice none 0 0] 24)).mono HB15.out.size))
  go_wp2_with fail
  refine (D2.out _).mono ?_
  rintro e w16 ⟨rfl, hb16⟩
  have HB16 := Lib.hid (HA.out.trans (hb16.mono HA.out.size))
  clear hb16
  go_wp2_with fail
  refine (D3.out _).mono ?_
  rintro e w17 ⟨rfl, hb17⟩
  have HB17 := Lib.hid (HB16.out.trans (hb17.mono HB16.out.size))
  clear hb17
  go_wp2_with fail
  refine (D4.out _).mono ?_
  rintro e w18 ⟨rfl, hb18⟩
  have HB18 := Lib.hid (HB17.out.trans (hb18.mono HB17.out.size))
  clear hb18
  go_wp2_with fail
  refine (MR.out _).mono ?_
  rintro e w19 ⟨rfl, rfl⟩
  go_wp2_with fail
  refine (MB.out _).mono ?_
  rintro e w20 ⟨rfl, rfl⟩
  go_wp2
  go_ret
  exact ⟨rfl, HB18.out⟩
set_option maxRecDepth 100000 in
set_option maxHeartbeats 4000000 in
theorem laws_gt_zero {T : World → Prop} (hsh : Shown T) (a c s p t u v : Int) (hS : Sums a 0 c s p t u v 0 1 0) (hz : ∀ w, Calls Tryd.prog 20 #[.string ⟨#[47]⟩, .int .i64 a, .int .i64 0] w (OpEnd w 0 0 false)) (w : World) (ht : T w) : Calls Tryd.prog 5 #[.int .i64 a, .int .i64 0, .int .i64 c] w (Yes w) := by
  obtain ⟨k1, k2, k3, k4, k5, k6, k7, k8, k9, k10, k11, k12⟩ := hS
  have K1 := Lib.hid k1
  have K2 := Lib.hid k2
  have K3 := Lib.hid k3
  have K4 := Lib.hid k4
  have K5 := Lib.hid k5
  have K6 := Lib.hid k6
  have K7 := Lib.hid k7
  have K8 := Lib.hid k8
  have K9 := Lib.hid k9
  have K10 := Lib.hid k10
  have K11 := Lib.hid k11
  have K12 := Lib.hid k12
  clear k1 k2 k3 k4 k5 k6 k7 k8 k9 k10 k11 k12
  unfold OpEnd numV at hz
  have HZ := Lib.hid hz
  clear hz
  go_enter Tryd.func5, Tryd.ntmps5
  go_wp2_with fail
  refine (hsh _ ht).mono ?_
  rintro e w1 ⟨rfl, hb1⟩
  have HB1 := Lib.hid hb1
  clear hb1
  go_wp2_with fail
  refine (K1.out _).mono ?_
  rintro e w2 ⟨rfl, hb2⟩
  have HB2 := Lib.hid (HB1.out.trans (hb2.mono HB1.out.size))
  clear hb2
  go_wp2_with fail
  refine (K2.out _).mono ?_
  rintro e w3 ⟨rfl, hb3⟩
  have HB3 := Lib.hid (HB2.out.trans (hb3.mono HB2.out.size))
  clear hb3
  go_wp2_with fail
  refine (K3.out _).mono ?_
  rintro e w4 ⟨rfl, hb4⟩
  have HB4 := Lib.hid (HB3.out.trans (hb4.mono HB3.out.size))
  clear hb4
  go_wp2_with fail
  refine (K4.out _).mono ?_
  rintro e w5 ⟨rfl, hb5⟩
  have HB5 := Lib.hid (HB4.out.trans (hb5.mono HB4.out.size))
  clear hb5
  go_wp2_with fail
  refine (K5.out _).mono ?_
  rintro e w6 ⟨rfl, hb6⟩
  have HB6 := Lib.hid (HB5.out.trans (hb6.mono HB5.out.size))
  clear hb6
  go_wp2_with fail
  refine (K6.out _).mono ?_
  rintro e w7 ⟨rfl, hb7⟩
  have HB7 := Lib.hid (HB6.out.trans (hb7.mono HB6.out.size))
  clear hb7
  go_wp2_with fail
  refine (K7.out _).mono ?_
  rintro e w8 ⟨rfl, hb8⟩
  have HB8 := Lib.hid (HB7.out.trans (hb8.mono HB7.out.size))
  clear hb8
  go_wp2_with fail
  refine (K3.out _).mono ?_
  rintro e w9 ⟨rfl, hb9⟩
  have HB9 := Lib.hid (HB8.out.trans (hb9.mono HB8.out.size))
  clear hb9
  go_wp2_with fail
  refine (K8.out _).mono ?_
  rintro e w10 ⟨rfl, hb10⟩
  have HB10 := Lib.hid (HB9.out.trans (hb10.mono HB9.out.size))
  clear hb10
  go_wp2_with fail
  refine (K9.out _).mono ?_
  rintro e w11 ⟨rfl, hb11⟩
  have HB11 := Lib.hid (HB10.out.trans (hb11.mono HB10.out.size))
  clear hb11
  go_wp2_with fail
  refine (K10.out _).mono ?_
  rintro e w12 ⟨rfl, hb12⟩
  have HB12 := Lib.hid (HB11.out.trans (hb12.mono HB11.out.size))
  clear hb12
  go_wp2_with fail
  refine (K11.out _).mono ?_
  rintro e w13 ⟨rfl, hb13⟩
  have HB13 := Lib.hid (HB12.out.trans (hb13.mono HB12.out.size))
  clear hb13
  go_wp2_with fail
  refine (K12.out _).mono ?_
  rintro e w14 ⟨rfl, hb14⟩
  have HB14 := Lib.hid (HB13.out.trans (hb14.mono HB13.out.size))
  clear hb14
  go_wp2_with fail
  refine (HZ.out _).mono ?_
  rintro e w15 ⟨rfl, hb15⟩
  have HB15 := Lib.hid (HB14.out.trans (hb15.mono HB14.out.size))
  clear hb15
  have HA := Lib.hid (HB15.out.trans ((below_new w15 (.cells #[.int .i64 0, .int .i64 0, .string ⟨#[]⟩, .slice none 0 0] 24)).mono HB15.out.size))
  go_wp2
  go_ret
  exact ⟨rfl, HA.out⟩
set_option maxRecDepth 100000 in
set_option maxHeartbeats 4000000 in
theorem laws_gt_r0 {T : World → Prop} (hsh : Shown T) (a b c s p t u v q g : Int) (hS : Sums a b c s p t u v 0 1 0) (hD : Divs a b q g 0) (hb0 : ¬ b = 0) (hbb : i64q b) (h1 : ¬ a = -9223372036854775808)  (w : World) (ht : T w) : Calls Tryd.prog 5 #[.int .i64 a, .int .i64 b, .int .i64 c] w (Yes w) := by
  obtain ⟨k1, k2, k3, k4, k5, k6, k7, k8, k9, k10, k11, k12⟩ := hS
  have K1 := Lib.hid k1
  have K2 := Lib.hid k2
  have K3 := Lib.hid k3
  have K4 := Lib.hid k4
  have K5 := Lib.hid k5
  have K6 := Lib.hid k6
  have K7 := Lib.hid k7
  have K8 := Lib.hid k8
  have K9 := Lib.hid k9
  have K10 := Lib.hid k10
  have K11 := Lib.hid k11
  have K12 := Lib.hid k12
  clear k1 k2 k3 k4 k5 k6 k7 k8 k9 k10 k11 k12
  obtain ⟨d1, d2, d3, d4⟩ := hD
  unfold OpEnd numV at d1
  have D1 := Lib.hid d1
  have D2 := Lib.hid d2
  have D3 := Lib.hid d3
  have D4 := Lib.hid d4
  clear d1 d2 d3 d4
  have MB := Lib.hid (fun w => mag_any b hbb w)
  clear hbb
  go_enter Tryd.func5, Tryd.ntmps5
  go_wp2_with fail
  refine (hsh _ ht).mono ?_
  rintro e w1 ⟨rfl, hb1⟩
  have HB1 := Lib.hid hb1
  clear hb1
  go_wp2_with fail
  refine (K1.out _).mono ?_
  rintro e w2 ⟨rfl, hb2⟩
  have HB2 := Lib.hid (HB1.out.trans (hb2.mono HB1.out.size))
  clear hb2
  go_wp2_with fail
  refine (K2.out _).mono ?_
  rintro e w3 ⟨rfl, hb3⟩
  have HB3 := Lib.hid (HB2.out.trans (hb3.mono HB2.out.size))
  clear hb3
  go_wp2_with fail
  refine (K3.out _).mono ?_
  rintro e w4 ⟨rfl, hb4⟩
  have HB4 := Lib.hid (HB3.out.trans (hb4.mono HB3.out.size))
  clear hb4
  go_wp2_with fail
  refine (K4.out _).mono ?_
  rintro e w5 ⟨rfl, hb5⟩
  have HB5 := Lib.hid (HB4.out.trans (hb5.mono HB4.out.size))
  clear hb5
  go_wp2_with fail
  refine (K5.out _).mono ?_
  rintro e w6 ⟨rfl, hb6⟩
  have HB6 := Lib.hid (HB5.out.trans (hb6.mono HB5.out.size))
  clear hb6
  go_wp2_with fail
  refine (K6.out _).mono ?_
  rintro e w7 ⟨rfl, hb7⟩
  have HB7 := Lib.hid (HB6.out.trans (hb7.mono HB6.out.size))
  clear hb7
  go_wp2_with fail
  refine (K7.out _).mono ?_
  rintro e w8 ⟨rfl, hb8⟩
  have HB8 := Lib.hid (HB7.out.trans (hb8.mono HB7.out.size))
  clear hb8
  go_wp2_with fail
  refine (K3.out _).mono ?_
  rintro e w9 ⟨rfl, hb9⟩
  have HB9 := Lib.hid (HB8.out.trans (hb9.mono HB8.out.size))
  clear hb9
  go_wp2_with fail
  refine (K8.out _).mono ?_
  rintro e w10 ⟨rfl, hb10⟩
  have HB10 := Lib.hid (HB9.out.trans (hb10.mono HB9.out.size))
  clear hb10
  go_wp2_with fail
  refine (K9.out _).mono ?_
  rintro e w11 ⟨rfl, hb11⟩
  have HB11 := Lib.hid (HB10.out.trans (hb11.mono HB10.out.size))
  clear hb11
  go_wp2_with fail
  refine (K10.out _).mono ?_
  rintro e w12 ⟨rfl, hb12⟩
  have HB12 := Lib.hid (HB11.out.trans (hb12.mono HB11.out.size))
  clear hb12
  go_wp2_with fail
  refine (K11.out _).mono ?_
  rintro e w13 ⟨rfl, hb13⟩
  have HB13 := Lib.hid (HB12.out.trans (hb13.mono HB12.out.size))
  clear hb13
  go_wp2_with fail
  refine (K12.out _).mono ?_
  rintro e w14 ⟨rfl, hb14⟩
  have HB14 := Lib.hid (HB13.out.trans (hb14.mono HB13.out.size))
  clear hb14
  go_wp2_with fail
  refine (D1.out _).mono ?_
  rintro e w15 ⟨rfl, hb15⟩
  have HB15 := Lib.hid (HB14.out.trans (hb15.mono HB14.out.size))
  clear hb15
  have HA := Lib.hid (HB15.out.trans ((below_new w15 (.cells #[.int .i64 1, .int .i64 q, .string ⟨#[]⟩, .slice none 0 0] 24)).mono HB15.out.size))
  go_wp2_with fail
  refine (D2.out _).mono ?_
  rintro e w16 ⟨rfl, hb16⟩
  have HB16 := Lib.hid (HA.out.trans (hb16.mono HA.out.size))
  clear hb16
  go_wp2_with fail
  refine (D3.out _).mono ?_
  rintro e w17 ⟨rfl, hb17⟩
  have HB17 := Lib.hid (HB16.out.trans (hb17.mono HB16.out.size))
  clear hb17
  go_wp2_with fail
  refine (D4.out _).mono ?_
  rintro e w18 ⟨rfl, hb18⟩
  have HB18 := Lib.hid (HB17.out.trans (hb18.mono HB17.out.size))
  clear hb18
  go_wp2
  go_ret
  exact ⟨rfl, HB18.out⟩
set_option maxRecDepth 100000 in
set_option maxHeartbeats 4000000 in
theorem laws_gt_rn {T : World → Prop} (hsh : Shown T) (a b c s p t u v q g r : Int) (hS : Sums a b c s p t u v 0 1 0) (hD : Divs a b q g r) (_hb0 : ¬ b = 0) (hrb : i64q r) (hbb : i64q b) (h1 : ¬ a = -9223372036854775808) (hr0 : ¬ r = 0) (hsg : (decide (r < 0) == decide (a < 0)) = true) (hls : ((r.natAbs : Int)) < (b.natAbs : Int))  (w : World) (ht : T w) : Calls Tryd.prog 5 #[.int .i64 a, .int .i64 b, .int .i64 c] w (Yes w) := by
  obtain ⟨k1, k2, k3, k4, k5, k6, k7, k8, k9, k10, k11, k12⟩ := hS
  have K1 := Lib.hid k1
  have K2 := Lib.hid k2
  have K3 := Lib.hid k3
  have K4 := Lib.hid k4
  have K5 := Lib.hid k5
  have K6 := Lib.hid k6
  have K7 := Lib.hid k7
  have K8 := Lib.hid k8
  have K9 := Lib.hid k9
  have K10 := Lib.hid k10
  have K11 := Lib.hid k11
  have K12 := Lib.hid k12
  clear k1 k2 k3 k4 k5 k6 k7 k8 k9 k10 k11 k12
  obtain ⟨d1, d2, d3, d4⟩ := hD
  unfold OpEnd numV at d1
  have D1 := Lib.hid d1
  have D2 := Lib.hid d2
  have D3 := Lib.hid d3
  have D4 := Lib.hid d4
  clear d1 d2 d3 d4
  have MB := Lib.hid (fun w => mag_any b hbb w)
  have MR := Lib.hid (fun w => mag_any r hrb w)
  clear hrb
  clear hbb
  go_enter Tryd.func5, Tryd.ntmps5
  go_wp2_with fail
  refine (hsh _ ht).mono ?_
  rintro e w1 ⟨rfl, hb1⟩
  have HB1 := Lib.hid hb1
  clear hb1
  go_wp2_with fail
  refine (K1.out _).mono ?_
  rintro e w2 ⟨rfl, hb2⟩
  have HB2 := Lib.hid (HB1.out.trans (hb2.mono HB1.out.size))
  clear hb2
  go_wp2_with fail
  refine (K2.out _).mono ?_
  rintro e w3 ⟨rfl, hb3⟩
  have HB3 := Lib.hid (HB2.out.trans (hb3.mono HB2.out.size))
  clear hb3
  go_wp2_with fail
  refine (K3.out _).mono ?_
  rintro e w4 ⟨rfl, hb4⟩
  have HB4 := Lib.hid (HB3.out.trans (hb4.mono HB3.out.size))
  clear hb4
  go_wp2_with fail
  refine (K4.out _).mono ?_
  rintro e w5 ⟨rfl, hb5⟩
  have HB5 := Lib.hid (HB4.out.trans (hb5.mono HB4.out.size))
  clear hb5
  go_wp2_with fail
  refine (K5.out _).mono ?_
  rintro e w6 ⟨rfl, hb6⟩
  have HB6 := Lib.hid (HB5.out.trans (hb6.mono HB5.out.size))
  clear hb6
  go_wp2_with fail
  refine (K6.out _).mono ?_
  rintro e w7 ⟨rfl, hb7⟩
  have HB7 := Lib.hid (HB6.out.trans (hb7.mono HB6.out.size))
  clear hb7
  go_wp2_with fail
  refine (K7.out _).mono ?_
  rintro e w8 ⟨rfl, hb8⟩
  have HB8 := Lib.hid (HB7.out.trans (hb8.mono HB7.out.size))
  clear hb8
  go_wp2_with fail
  refine (K3.out _).mono ?_
  rintro e w9 ⟨rfl, hb9⟩
  have HB9 := Lib.hid (HB8.out.trans (hb9.mono HB8.out.size))
  clear hb9
  go_wp2_with fail
  refine (K8.out _).mono ?_
  rintro e w10 ⟨rfl, hb10⟩
  have HB10 := Lib.hid (HB9.out.trans (hb10.mono HB9.out.size))
  clear hb10
  go_wp2_with fail
  refine (K9.out _).mono ?_
  rintro e w11 ⟨rfl, hb11⟩
  have HB11 := Lib.hid (HB10.out.trans (hb11.mono HB10.out.size))
  clear hb11
  go_wp2_with fail
  refine (K10.out _).mono ?_
  rintro e w12 ⟨rfl, hb12⟩
  have HB12 := Lib.hid (HB11.out.trans (hb12.mono HB11.out.size))
  clear hb12
  go_wp2_with fail
  refine (K11.out _).mono ?_
  rintro e w13 ⟨rfl, hb13⟩
  have HB13 := Lib.hid (HB12.out.trans (hb13.mono HB12.out.size))
  clear hb13
  go_wp2_with fail
  refine (K12.out _).mono ?_
  rintro e w14 ⟨rfl, hb14⟩
  have HB14 := Lib.hid (HB13.out.trans (hb14.mono HB13.out.size))
  clear hb14
  go_wp2_with fail
  refine (D1.out _).mono ?_
  rintro e w15 ⟨rfl, hb15⟩
  have HB15 := Lib.hid (HB14.out.trans (hb15.mono HB14.out.size))
  clear hb15
  have HA := Lib.hid (HB15.out.trans ((below_new w15 (.cells #[.int .i64 1, .int .i64 q, .string ⟨#[]⟩, .slice none 0 0] 24)).mono HB15.out.size))
  go_wp2_with fail
  refine (D2.out _).mono ?_
  rintro e w16 ⟨rfl, hb16⟩
  have HB16 := Lib.hid (HA.out.trans (hb16.mono HA.out.size))
  clear hb16
  go_wp2_with fail
  refine (D3.out _).mono ?_
  rintro e w17 ⟨rfl, hb17⟩
  have HB17 := Lib.hid (HB16.out.trans (hb17.mono HB16.out.size))
  clear hb17
  go_wp2_with fail
  refine (D4.out _).mono ?_
  rintro e w18 ⟨rfl, hb18⟩
  have HB18 := Lib.hid (HB17.out.trans (hb18.mono HB17.out.size))
  clear hb18
  go_wp2_with fail
  refine (MR.out _).mono ?_
  rintro e w19 ⟨rfl, rfl⟩
  go_wp2_with fail
  refine (MB.out _).mono ?_
  rintro e w20 ⟨rfl, rfl⟩
  go_wp2
  go_ret
  exact ⟨rfl, HB18.out⟩
set_option maxRecDepth 100000 in
set_option maxHeartbeats 4000000 in
theorem laws_gt_min_r0 {T : World → Prop} (hsh : Shown T) (a b c s p t u v q g : Int) (hS : Sums a b c s p t u v 0 1 0) (hD : Divs a b q g 0) (hb0 : ¬ b = 0) (hbb : i64q b) (h1 : a = -9223372036854775808) (h2 : ¬ b = -1)  (w : World) (ht : T w) : Calls Tryd.prog 5 #[.int .i64 a, .int .i64 b, .int .i64 c] w (Yes w) := by
  obtain ⟨k1, k2, k3, k4, k5, k6, k7, k8, k9, k10, k11, k12⟩ := hS
  have K1 := Lib.hid k1
  have K2 := Lib.hid k2
  have K3 := Lib.hid k3
  have K4 := Lib.hid k4
  have K5 := Lib.hid k5
  have K6 := Lib.hid k6
  have K7 := Lib.hid k7
  have K8 := Lib.hid k8
  have K9 := Lib.hid k9
  have K10 := Lib.hid k10
  have K11 := Lib.hid k11
  have K12 := Lib.hid k12
  clear k1 k2 k3 k4 k5 k6 k7 k8 k9 k10 k11 k12
  obtain ⟨d1, d2, d3, d4⟩ := hD
  unfold OpEnd numV at d1
  have D1 := Lib.hid d1
  have D2 := Lib.hid d2
  have D3 := Lib.hid d3
  have D4 := Lib.hid d4
  clear d1 d2 d3 d4
  have h1b : (a == -9223372036854775808) = true := by rw [h1]; rfl
  clear h1
  have MB := Lib.hid (fun w => mag_any b hbb w)
  clear hbb
  go_enter Tryd.func5, Tryd.ntmps5
  go_wp2_with fail
  refine (hsh _ ht).mono ?_
  rintro e w1 ⟨rfl, hb1⟩
  have HB1 := Lib.hid hb1
  clear hb1
  go_wp2_with fail
  refine (K1.out _).mono ?_
  rintro e w2 ⟨rfl, hb2⟩
  have HB2 := Lib.hid (HB1.out.trans (hb2.mono HB1.out.size))
  clear hb2
  go_wp2_with fail
  refine (K2.out _).mono ?_
  rintro e w3 ⟨rfl, hb3⟩
  have HB3 := Lib.hid (HB2.out.trans (hb3.mono HB2.out.size))
  clear hb3
  go_wp2_with fail
  refine (K3.out _).mono ?_
  rintro e w4 ⟨rfl, hb4⟩
  have HB4 := Lib.hid (HB3.out.trans (hb4.mono HB3.out.size))
  clear hb4
  go_wp2_with fail
  refine (K4.out _).mono ?_
  rintro e w5 ⟨rfl, hb5⟩
  have HB5 := Lib.hid (HB4.out.trans (hb5.mono HB4.out.size))
  clear hb5
  go_wp2_with fail
  refine (K5.out _).mono ?_
  rintro e w6 ⟨rfl, hb6⟩
  have HB6 := Lib.hid (HB5.out.trans (hb6.mono HB5.out.size))
  clear hb6
  go_wp2_with fail
  refine (K6.out _).mono ?_
  rintro e w7 ⟨rfl, hb7⟩
  have HB7 := Lib.hid (HB6.out.trans (hb7.mono HB6.out.size))
  clear hb7
  go_wp2_with fail
  refine (K7.out _).mono ?_
  rintro e w8 ⟨rfl, hb8⟩
  have HB8 := Lib.hid (HB7.out.trans (hb8.mono HB7.out.size))
  clear hb8
  go_wp2_with fail
  refine (K3.out _).mono ?_
  rintro e w9 ⟨rfl, hb9⟩
  have HB9 := Lib.hid (HB8.out.trans (hb9.mono HB8.out.size))
  clear hb9
  go_wp2_with fail
  refine (K8.out _).mono ?_
  rintro e w10 ⟨rfl, hb10⟩
  have HB10 := Lib.hid (HB9.out.trans (hb10.mono HB9.out.size))
  clear hb10
  go_wp2_with fail
  refine (K9.out _).mono ?_
  rintro e w11 ⟨rfl, hb11⟩
  have HB11 := Lib.hid (HB10.out.trans (hb11.mono HB10.out.size))
  clear hb11
  go_wp2_with fail
  refine (K10.out _).mono ?_
  rintro e w12 ⟨rfl, hb12⟩
  have HB12 := Lib.hid (HB11.out.trans (hb12.mono HB11.out.size))
  clear hb12
  go_wp2_with fail
  refine (K11.out _).mono ?_
  rintro e w13 ⟨rfl, hb13⟩
  have HB13 := Lib.hid (HB12.out.trans (hb13.mono HB12.out.size))
  clear hb13
  go_wp2_with fail
  refine (K12.out _).mono ?_
  rintro e w14 ⟨rfl, hb14⟩
  have HB14 := Lib.hid (HB13.out.trans (hb14.mono HB13.out.size))
  clear hb14
  go_wp2_with fail
  refine (D1.out _).mono ?_
  rintro e w15 ⟨rfl, hb15⟩
  have HB15 := Lib.hid (HB14.out.trans (hb15.mono HB14.out.size))
  clear hb15
  have HA := Lib.hid (HB15.out.trans ((below_new w15 (.cells #[.int .i64 1, .int .i64 q, .string ⟨#[]⟩, .slice none 0 0] 24)).mono HB15.out.size))
  go_wp2_with fail
  refine (D2.out _).mono ?_
  rintro e w16 ⟨rfl, hb16⟩
  have HB16 := Lib.hid (HA.out.trans (hb16.mono HA.out.size))
  clear hb16
  go_wp2_with fail
  refine (D3.out _).mono ?_
  rintro e w17 ⟨rfl, hb17⟩
  have HB17 := Lib.hid (HB16.out.trans (hb17.mono HB16.out.size))
  clear hb17
  go_wp2_with fail
  refine (D4.out _).mono ?_
  rintro e w18 ⟨rfl, hb18⟩
  have HB18 := Lib.hid (HB17.out.trans (hb18.mono HB17.out.size))
  clear hb18
  go_wp2
  go_ret
  exact ⟨rfl, HB18.out⟩
set_option maxRecDepth 100000 in
set_option maxHeartbeats 4000000 in
theorem laws_gt_min_rn {T : World → Prop} (hsh : Shown T) (a b c s p t u v q g r : Int) (hS : Sums a b c s p t u v 0 1 0) (hD : Divs a b q g r) (_hb0 : ¬ b = 0) (hrb : i64q r) (hbb : i64q b) (h1 : a = -9223372036854775808) (_h2 : ¬ b = -1) (hr0 : ¬ r = 0) (hsg : (decide (r < 0) == decide (a < 0)) = true) (hls : ((r.natAbs : Int)) < (b.natAbs : Int))  (w : World) (ht : T w) : Calls Tryd.prog 5 #[.int .i64 a, .int .i64 b, .int .i64 c] w (Yes w) := by
  obtain ⟨k1, k2, k3, k4, k5, k6, k7, k8, k9, k10, k11, k12⟩ := hS
  have K1 := Lib.hid k1
  have K2 := Lib.hid k2
  have K3 := Lib.hid k3
  have K4 := Lib.hid k4
  have K5 := Lib.hid k5
  have K6 := Lib.hid k6
  have K7 := Lib.hid k7
  have K8 := Lib.hid k8
  have K9 := Lib.hid k9
  have K10 := Lib.hid k10
  have K11 := Lib.hid k11
  have K12 := Lib.hid k12
  clear k1 k2 k3 k4 k5 k6 k7 k8 k9 k10 k11 k12
  obtain ⟨d1, d2, d3, d4⟩ := hD
  unfold OpEnd numV at d1
  have D1 := Lib.hid d1
  have D2 := Lib.hid d2
  have D3 := Lib.hid d3
  have D4 := Lib.hid d4
  clear d1 d2 d3 d4
  have h1b : (a == -9223372036854775808) = true := by rw [h1]; rfl
  clear h1
  have MB := Lib.hid (fun w => mag_any b hbb w)
  have MR := Lib.hid (fun w => mag_any r hrb w)
  clear hrb
  clear hbb
  go_enter Tryd.func5, Tryd.ntmps5
  go_wp2_with fail
  refine (hsh _ ht).mono ?_
  rintro e w1 ⟨rfl, hb1⟩
  have HB1 := Lib.hid hb1
  clear hb1
  go_wp2_with fail
  refine (K1.out _).mono ?_
  rintro e w2 ⟨rfl, hb2⟩
  have HB2 := Lib.hid (HB1.out.trans (hb2.mono HB1.out.size))
  clear hb2
  go_wp2_with fail
  refine (K2.out _).mono ?_
  rintro e w3 ⟨rfl, hb3⟩
  have HB3 := Lib.hid (HB2.out.trans (hb3.mono HB2.out.size))
  clear hb3
  go_wp2_with fail
  refine (K3.out _).mono ?_
  rintro e w4 ⟨rfl, hb4⟩
  have HB4 := Lib.hid (HB3.out.trans (hb4.mono HB3.out.size))
  clear hb4
  go_wp2_with fail
  refine (K4.out _).mono ?_
  rintro e w5 ⟨rfl, hb5⟩
  have HB5 := Lib.hid (HB4.out.trans (hb5.mono HB4.out.size))
  clear hb5
  go_wp2_with fail
  refine (K5.out _).mono ?_
  rintro e w6 ⟨rfl, hb6⟩
  have HB6 := Lib.hid (HB5.out.trans (hb6.mono HB5.out.size))
  clear hb6
  go_wp2_with fail
  refine (K6.out _).mono ?_
  rintro e w7 ⟨rfl, hb7⟩
  have HB7 := Lib.hid (HB6.out.trans (hb7.mono HB6.out.size))
  clear hb7
  go_wp2_with fail
  refine (K7.out _).mono ?_
  rintro e w8 ⟨rfl, hb8⟩
  have HB8 := Lib.hid (HB7.out.trans (hb8.mono HB7.out.size))
  clear hb8
  go_wp2_with fail
  refine (K3.out _).mono ?_
  rintro e w9 ⟨rfl, hb9⟩
  have HB9 := Lib.hid (HB8.out.trans (hb9.mono HB8.out.size))
  clear hb9
  go_wp2_with fail
  refine (K8.out _).mono ?_
  rintro e w10 ⟨rfl, hb10⟩
  have HB10 := Lib.hid (HB9.out.trans (hb10.mono HB9.out.size))
  clear hb10
  go_wp2_with fail
  refine (K9.out _).mono ?_
  rintro e w11 ⟨rfl, hb11⟩
  have HB11 := Lib.hid (HB10.out.trans (hb11.mono HB10.out.size))
  clear hb11
  go_wp2_with fail
  refine (K10.out _).mono ?_
  rintro e w12 ⟨rfl, hb12⟩
  have HB12 := Lib.hid (HB11.out.trans (hb12.mono HB11.out.size))
  clear hb12
  go_wp2_with fail
  refine (K11.out _).mono ?_
  rintro e w13 ⟨rfl, hb13⟩
  have HB13 := Lib.hid (HB12.out.trans (hb13.mono HB12.out.size))
  clear hb13
  go_wp2_with fail
  refine (K12.out _).mono ?_
  rintro e w14 ⟨rfl, hb14⟩
  have HB14 := Lib.hid (HB13.out.trans (hb14.mono HB13.out.size))
  clear hb14
  go_wp2_with fail
  refine (D1.out _).mono ?_
  rintro e w15 ⟨rfl, hb15⟩
  have HB15 := Lib.hid (HB14.out.trans (hb15.mono HB14.out.size))
  clear hb15
  have HA := Lib.hid (HB15.out.trans ((below_new w15 (.cells #[.int .i64 1, .int .i64 q, .string ⟨#[]⟩, .slice none 0 0] 24)).mono HB15.out.size))
  go_wp2_with fail
  refine (D2.out _).mono ?_
  rintro e w16 ⟨rfl, hb16⟩
  have HB16 := Lib.hid (HA.out.trans (hb16.mono HA.out.size))
  clear hb16
  go_wp2_with fail
  refine (D3.out _).mono ?_
  rintro e w17 ⟨rfl, hb17⟩
  have HB17 := Lib.hid (HB16.out.trans (hb17.mono HB16.out.size))
  clear hb17
  go_wp2_with fail
  refine (D4.out _).mono ?_
  rintro e w18 ⟨rfl, hb18⟩
  have HB18 := Lib.hid (HB17.out.trans (hb18.mono HB17.out.size))
  clear hb18
  go_wp2_with fail
  refine (MR.out _).mono ?_
  rintro e w19 ⟨rfl, rfl⟩
  go_wp2_with fail
  refine (MB.out _).mono ?_
  rintro e w20 ⟨rfl, rfl⟩
  go_wp2
  go_ret
  exact ⟨rfl, HB18.out⟩
theorem valueLaws_any {T : World → Prop} (hsh : Shown T) (a b c : Int) (ha : i64q a) (hbb : i64q b) (w : World) (ht : T w) : Calls Tryd.prog 5 #[.int .i64 a, .int .i64 b, .int .i64 c] w (Yes w) := by
  have hord : (a < b ∧ truN (decide (a < b)) = 1 ∧ truN (decide (b < a)) = 0 ∧ truN (a == b) = 0) ∨ (a = b ∧ truN (decide (a < b)) = 0 ∧ truN (decide (b < a)) = 0 ∧ truN (a == b) = 1) ∨ (b < a ∧ truN (decide (a < b)) = 0 ∧ truN (decide (b < a)) = 1 ∧ truN (a == b) = 0) := by
    rcases Int.lt_trichotomy a b with h | h | h
    · exact .inl ⟨h, by rw [decide_eq_true h]; rfl, by rw [decide_eq_false (by omega)]; rfl, by rw [beq_false_of_ne (by omega)]; rfl⟩
    · exact .inr (.inl ⟨h, by rw [decide_eq_false (by omega)]; rfl, by rw [decide_eq_false (by omega)]; rfl, by rw [h, beq_self_eq_true]; rfl⟩)
    · exact .inr (.inr ⟨h, by rw [decide_eq_false (by omega)]; rfl, by rw [decide_eq_true h]; rfl, by rw [beq_false_of_ne (by omega)]; rfl⟩)
  by_cases hb0 : b = 0
  · subst hb0
    have hz : ∀ w, Calls Tryd.prog 20 #[.string ⟨#[47]⟩, .int .i64 a, .int .i64 0] w (OpEnd w 0 0 false) := fun w => op_any [47] a 0 w
    rcases hord with ⟨_, h1, h2, h3⟩ | ⟨_, h1, h2, h3⟩ | ⟨_, h1, h2, h3⟩ <;> obtain ⟨s, p, t, u, v, hS⟩ := sums_of a 0 c ha _ _ _ h1 h2 h3
    · exact laws_lt_zero hsh a c s p t u v hS hz w ht
    · exact laws_eq_zero hsh a c s p t u v hS hz w ht
    · exact laws_gt_zero hsh a c s p t u v hS hz w ht
  · obtain ⟨g, hD⟩ := divs_of a b ha hb0
    by_cases hsp : a = -9223372036854775808 ∧ b = -1
    · obtain ⟨h1, h2⟩ := hsp
      have hq : wrap64 (a.tdiv b) = a := by rw [h1, h2, Int.tdiv_neg, Int.tdiv_one]; unfold wrap64; omega
      have hr : a.tmod b = 0 := by rw [h2, Int.tmod_neg, Int.tmod_one]
      rw [hq, hr] at hD
      rcases hord with ⟨h, h3, h4, h5⟩ | ⟨h, _⟩ | ⟨h, _⟩
      · obtain ⟨s, p, t, u, v, hS⟩ := sums_of a b c ha _ _ _ h3 h4 h5
        exact laws_lt_special hsh a b c s p t u v g hS hD h1 h2 w ht
      · omega
      · omega
    · have hrb : i64q (a.tmod b) := by
        have := rest_in a b ha
        rw [← this]
        unfold i64q wrap64
        omega
      by_cases hr : a.tmod b = 0
      · rw [hr] at hD
        by_cases h1 : a = -9223372036854775808
        · have h2 : ¬ b = -1 := fun h => hsp ⟨h1, h⟩
          rcases hord with ⟨_, h3, h4, h5⟩ | ⟨_, h3, h4, h5⟩ | ⟨_, h3, h4, h5⟩ <;> obtain ⟨s, p, t, u, v, hS⟩ := sums_of a b c ha _ _ _ h3 h4 h5
          · exact laws_lt_min_r0 hsh a b c s p t u v _ g hS hD hb0 hbb h1 h2 w ht
          · exact laws_eq_min_r0 hsh a b c s p t u v _ g hS hD hb0 hbb h1 h2 w ht
          · exact laws_gt_min_r0 hsh a b c s p t u v _ g hS hD hb0 hbb h1 h2 w ht
        · rcases hord with ⟨_, h3, h4, h5⟩ | ⟨_, h3, h4, h5⟩ | ⟨_, h3, h4, h5⟩ <;> obtain ⟨s, p, t, u, v, hS⟩ := sums_of a b c ha _ _ _ h3 h4 h5
          · exact laws_lt_r0 hsh a b c s p t u v _ g hS hD hb0 hbb h1 w ht
          · exact laws_eq_r0 hsh a b c s p t u v _ g hS hD hb0 hbb h1 w ht
          · exact laws_gt_r0 hsh a b c s p t u v _ g hS hD hb0 hbb h1 w ht
      · have hsg := rest_sign a b hr
        have hls := rest_less a b hb0
        by_cases h1 : a = -9223372036854775808
        · have h2 : ¬ b = -1 := fun h => hsp ⟨h1, h⟩
          rcases hord with ⟨_, h3, h4, h5⟩ | ⟨_, h3, h4, h5⟩ | ⟨_, h3, h4, h5⟩ <;> obtain ⟨s, p, t, u, v, hS⟩ := sums_of a b c ha _ _ _ h3 h4 h5
          · exact laws_lt_min_rn hsh a b c s p t u v _ g _ hS hD hb0 hrb hbb h1 h2 hr hsg hls w ht
          · exact laws_eq_min_rn hsh a b c s p t u v _ g _ hS hD hb0 hrb hbb h1 h2 hr hsg hls w ht
          · exact laws_gt_min_rn hsh a b c s p t u v _ g _ hS hD hb0 hrb hbb h1 h2 hr hsg hls w ht
        · rcases hord with ⟨_, h3, h4, h5⟩ | ⟨_, h3, h4, h5⟩ | ⟨_, h3, h4, h5⟩ <;> obtain ⟨s, p, t, u, v, hS⟩ := sums_of a b c ha _ _ _ h3 h4 h5
          · exact laws_lt_rn hsh a b c s p t u v _ g _ hS hD hb0 hrb hbb h1 hr hsg hls w ht
          · exact laws_eq_rn hsh a b c s p t u v _ g _ hS hD hb0 hrb hbb h1 hr hsg hls w ht
          · exact laws_gt_rn hsh a b c s p t u v _ g _ hS hD hb0 hrb hbb h1 hr hsg hls w ht
end Go.Proofs.YtkdjmobplknmgaaDoor
