/- The contracts of what reads a type of a declaration. -/
import Derived.Test.YtmodmojocclmaaaGreatDoorMg29
import Derived.Outline
namespace Go.Proofs.YtmodmojocclmaaaGreatDoor
open Go.RowKit Pz

def tyC (t : Ty) : Array Value := #[.int .i64 (t.1 : Int), .string (ba t.2), .int .i64 0, .slice none 0 0, .slice none 0 0, .int .i64 0]
def zT : Array Value := #[.int .i64 0, .string ⟨#[]⟩, .int .i64 0, .slice none 0 0, .slice none 0 0, .int .i64 0]
def tyV (t : Ty) : Value := .agg (tyC t)
def TyEnd (pb sz : Nat) (w : World) (r : Option Ty × St) (e : Ending) (w' : World) : Prop :=
 e = .returned (.tuple #[tyV (r.1.getD (0, [])), .bool r.1.isSome]) ∧ Goes pb sz w r.2 w'
theorem szTy : (Tryz.prog.info? 31).map (·.size) = some 6 := by kernel_rfl

set_option maxRecDepth 100000 in
set_option maxHeartbeats 1000000 in
theorem aType_0 (pb sz : Nat) (w : World) (s : St) (hp : PA w pb sz s) (H0 : Hid (isT [tInt] s = true)) :
  Calls Tryz.prog 103 #[.pointer (some ⟨pb, 0, none⟩)] w (TyEnd pb sz w (aType s)) := by
 have hplt := hp.lt
 have l0 := Lies.new w 31 zT
 have hk0 := (Kp.refl pb w).alloc (.cells zT 31)
 have hp0 := hp.alloc (.cells zT 31)
 unfold zT at l0 hk0 hp0
 have hr : aType s = (some (1, []), take s) := by unfold aType; simp only [H0.out, if_true]
 rw [hr]
 clear hr
 go_enter Tryz.func103, Tryz.ntmps103
 have hb0 := below_new (w.alloc (.cells #[.int .i64 0, .string ⟨#[]⟩, .int .i64 0, .slice none 0 0, .slice none 0 0, .int .i64 0] 31)) (.cells #[.string (ba tInt)] 9)
 have hS0 : Sl ((w.alloc (.cells #[.int .i64 0, .string ⟨#[]⟩, .int .i64 0, .slice none 0 0, .slice none 0 0, .int .i64 0] 31)).alloc (.cells #[.string (ba tInt)] 9)) (.slice (some ⟨w.heap.size + 1, 0, none⟩) 1 1) [tInt] := Sl.new [tInt] (by simp) (by simp) 1 1 rfl rfl
 have hi0 := takeIf_yes _ [tInt] _ pb sz s (hp0.below hb0) hS0 H0.out
 have HI0 := Lib.hid hi0
 clear hi0 hS0
 go_wp2_with fail
 refine HI0.out.mono ?_
 rintro e w1 ⟨rfl, hg⟩
 have lt := hg.kp.lies (l0.later hb0) (by omega)
 have kt := (hk0.below hb0 hk0.size).trans hg.kp
 go_wp2_with (first | (refine wpList_store_rowTo rfl 31 (.tmp 2) (.tmp 10) rfl rfl _ (tyC (1, [])) rfl rfl 31 _ lt szTy rfl (by kernel_rfl) ?_))
 refine bodyPost_ret (v := .tuple #[tyV (1, []), .bool true]) (results_cell_tmp rfl _ _ w.heap.size 31 (tyC (1, [])) (0, 0) _ _ rfl rfl (lt.setRow _) Tryz.underlying31 rfl szTy) rfl ?_
 exact ⟨rfl, hg.pa.setRow hplt _, kt.setRow (Nat.le_refl _) _⟩

set_option maxRecDepth 100000 in
set_option maxHeartbeats 1000000 in
theorem aType_1 (pb sz : Nat) (w : World) (s : St) (hp : PA w pb sz s) (H0 : Hid (isT [tInt] s = false)) (H1 : Hid (isT [tBool] s = true)) :
  Calls Tryz.prog 103 #[.pointer (some ⟨pb, 0, none⟩)] w (TyEnd pb sz w (aType s)) := by
 have hplt := hp.lt
 have l0 := Lies.new w 31 zT
 have hk0 := (Kp.refl pb w).alloc (.cells zT 31)
 have hp0 := hp.alloc (.cells zT 31)
 unfold zT at l0 hk0 hp0
 have hr : aType s = (some (2, []), take s) := by unfold aType; simp only [H0.out, H1.out, Bool.false_eq_true, if_false, if_true]
 rw [hr]
 clear hr
 go_enter Tryz.func103, Tryz.ntmps103
 have hb0 := below_new (w.alloc (.cells #[.int .i64 0, .string ⟨#[]⟩, .int .i64 0, .slice none 0 0, .slice none 0 0, .int .i64 0] 31)) (.cells #[.string (ba tInt)] 9)
 have hS0 : Sl ((w.alloc (.cells #[.int .i64 0, .string ⟨#[]⟩, .int .i64 0, .slice none 0 0, .slice none 0 0, .int .i64 0] 31)).alloc (.cells #[.string (ba tInt)] 9)) (.slice (some ⟨w.heap.size + 1, 0, none⟩) 1 1) [tInt] := Sl.new [tInt] (by simp) (by simp) 1 1 rfl rfl
 have hi0 := takeIf_no _ [tInt] _ pb sz s (hp0.below hb0) hS0 H0.out
 have HI0 := Lib.hid hi0
 clear hi0 hS0
 go_wp2_with fail
 refine HI0.out.mono ?_
 rintro e w1 ⟨rfl, hc0⟩
 have l1 := (l0.later hb0).later hc0
 have hk1 := (hk0.below hb0 hk0.size).below hc0 (Nat.le_trans hk0.size hb0.size)
 have hp1 := (hp0.below hb0).below hc0
 have hb1 := below_new w1 (.cells #[.string (ba tBool)] 9)
 have hS1 : Sl (w1.alloc (.cells #[.string (ba tBool)] 9)) (.slice (some ⟨w1.heap.size, 0, none⟩) 1 1) [tBool] := Sl.new [tBool] (by simp) (by simp) 1 1 rfl rfl
 have hi1 := takeIf_yes _ [tBool] _ pb sz s (hp1.below hb1) hS1 H1.out
 have HI1 := Lib.hid hi1
 clear hi1 hS1
 go_wp2_with fail
 refine HI1.out.mono ?_
 rintro e w2 ⟨rfl, hg⟩
 have lt := hg.kp.lies (l1.later hb1) (by omega)
 have kt := (hk1.below hb1 hk1.size).trans hg.kp
 go_wp2_with (first | (refine wpList_store_rowTo rfl 31 (.tmp 2) (.tmp 17) rfl rfl _ (tyC (2, [])) rfl rfl 31 _ lt szTy rfl (by kernel_rfl) ?_))
 refine bodyPost_ret (v := .tuple #[tyV (2, []), .bool true]) (results_cell_tmp rfl _ _ w.heap.size 31 (tyC (2, [])) (0, 0) _ _ rfl rfl (lt.setRow _) Tryz.underlying31 rfl szTy) rfl ?_
 exact ⟨rfl, hg.pa.setRow hplt _, kt.setRow (Nat.le_refl _) _⟩

set_option maxRecDepth 100000 in
set_option maxHeartbeats 1000000 in
theorem aType_2 (pb sz : Nat) (w : World) (s : St) (hp : PA w pb sz s) (H0 : Hid (isT [tInt] s = false)) (H1 : Hid (isT [tBool] s = false)) (H2 : Hid (isT [tUnit] s = true)) :
  Calls Tryz.prog 103 #[.pointer (some ⟨pb, 0, none⟩)] w (TyEnd pb sz w (aType s)) := by
 have hplt := hp.lt
 have l0 := Lies.new w 31 zT
 have hk0 := (Kp.refl pb w).alloc (.cells zT 31)
 have hp0 := hp.alloc (.cells zT 31)
 unfold zT at l0 hk0 hp0
 have hr : aType s = (some (3, []), take s) := by unfold aType; simp only [H0.out, H1.out, H2.out, Bool.false_eq_true, if_false, if_true]
 rw [hr]
 clear hr
 go_enter Tryz.func103, Tryz.ntmps103
 have hb0 := below_new (w.alloc (.cells #[.int .i64 0, .string ⟨#[]⟩, .int .i64 0, .slice none 0 0, .slice none 0 0, .int .i64 0] 31)) (.cells #[.string (ba tInt)] 9)
 have hS0 : Sl ((w.alloc (.cells #[.int .i64 0, .string ⟨#[]⟩, .int .i64 0, .slice none 0 0, .slice none 0 0, .int .i64 0] 31)).alloc (.cells #[.string (ba tInt)] 9)) (.slice (some ⟨w.heap.size + 1, 0, none⟩) 1 1) [tInt] := Sl.new [tInt] (by simp) (by simp) 1 1 rfl rfl
 have hi0 := takeIf_no _ [tInt] _ pb sz s (hp0.below hb0) hS0 H0.out
 have HI0 := Lib.hid hi0
 clear hi0 hS0
 go_wp2_with fail
 refine HI0.out.mono ?_
 rintro e w1 ⟨rfl, hc0⟩
 have l1 := (l0.later hb0).later hc0
 have hk1 := (hk0.below hb0 hk0.size).below hc0 (Nat.le_trans hk0.size hb0.size)
 have hp1 := (hp0.below hb0).below hc0
 have hb1 := below_new w1 (.cells #[.string (ba tBool)] 9)
 have hS1 : Sl (w1.alloc (.cells #[.string (ba tBool)] 9)) (.slice (some ⟨w1.heap.size, 0, none⟩) 1 1) [tBool] := Sl.new [tBool] (by simp) (by simp) 1 1 rfl rfl
 have hi1 := takeIf_no _ [tBool] _ pb sz s (hp1.below hb1) hS1 H1.out
 have HI1 := Lib.hid hi1
 clear hi1 hS1
 go_wp2_with fail
 refine HI1.out.mono ?_
 rintro e w2 ⟨rfl, hc1⟩
 have l2 := (l1.later hb1).later hc1
 have hk2 := (hk1.below hb1 hk1.size).below hc1 (Nat.le_trans hk1.size hb1.size)
 have hp2 := (hp1.below hb1).below hc1
 have hb2 := below_new w2 (.cells #[.string (ba tUnit)] 9)
 have hS2 : Sl (w2.alloc (.cells #[.string (ba tUnit)] 9)) (.slice (some ⟨w2.heap.size, 0, none⟩) 1 1) [tUnit] := Sl.new [tUnit] (by simp) (by simp) 1 1 rfl rfl
 have hi2 := takeIf_yes _ [tUnit] _ pb sz s (hp2.below hb2) hS2 H2.out
 have HI2 := Lib.hid hi2
 clear hi2 hS2
 go_wp2_with fail
 refine HI2.out.mono ?_
 rintro e w3 ⟨rfl, hg⟩
 have lt := hg.kp.lies (l2.later hb2) (by omega)
 have kt := (hk2.below hb2 hk2.size).trans hg.kp
 go_wp2_with (first | (refine wpList_store_rowTo rfl 31 (.tmp 2) (.tmp 24) rfl rfl _ (tyC (3, [])) rfl rfl 31 _ lt szTy rfl (by kernel_rfl) ?_))
 refine bodyPost_ret (v := .tuple #[tyV (3, []), .bool true]) (results_cell_tmp rfl _ _ w.heap.size 31 (tyC (3, [])) (0, 0) _ _ rfl rfl (lt.setRow _) Tryz.underlying31 rfl szTy) rfl ?_
 exact ⟨rfl, hg.pa.setRow hplt _, kt.setRow (Nat.le_refl _) _⟩

set_option maxRecDepth 100000 in
set_option maxHeartbeats 1000000 in
theorem aType_3 (pb sz : Nat) (w : World) (s : St) (hp : PA w pb sz s) (H0 : Hid (isT [tInt] s = false)) (H1 : Hid (isT [tBool] s = false)) (H2 : Hid (isT [tUnit] s = false)) (H3 : Hid (isOf [3] s = true)) :
  Calls Tryz.prog 103 #[.pointer (some ⟨pb, 0, none⟩)] w (TyEnd pb sz w (aType s)) := by
 have hplt := hp.lt
 have l0 := Lies.new w 31 zT
 have hk0 := (Kp.refl pb w).alloc (.cells zT 31)
 have hp0 := hp.alloc (.cells zT 31)
 unfold zT at l0 hk0 hp0
 obtain ⟨x, r, hw⟩ := ws_cons (isOf_pos H3.out)
 have hr : aType s = (some (4, x.t), take s) := by unfold aType; simp only [H0.out, H1.out, H2.out, H3.out, hd_cons hw, Bool.false_eq_true, if_false, if_true]
 rw [hr]
 clear hr
 go_enter Tryz.func103, Tryz.ntmps103
 have hb0 := below_new (w.alloc (.cells #[.int .i64 0, .string ⟨#[]⟩, .int .i64 0, .slice none 0 0, .slice none 0 0, .int .i64 0] 31)) (.cells #[.string (ba tInt)] 9)
 have hS0 : Sl ((w.alloc (.cells #[.int .i64 0, .string ⟨#[]⟩, .int .i64 0, .slice none 0 0, .slice none 0 0, .int .i64 0] 31)).alloc (.cells #[.string (ba tInt)] 9)) (.slice (some ⟨w.heap.size + 1, 0, none⟩) 1 1) [tInt] := Sl.new [tInt] (by simp) (by simp) 1 1 rfl rfl
 have hi0 := takeIf_no _ [tInt] _ pb sz s (hp0.below hb0) hS0 H0.out
 have HI0 := Lib.hid hi0
 clear hi0 hS0
 go_wp2_with fail
 refine HI0.out.mono ?_
 rintro e w1 ⟨rfl, hc0⟩
 have l1 := (l0.later hb0).later hc0
 have hk1 := (hk0.below hb0 hk0.size).below hc0 (Nat.le_trans hk0.size hb0.size)
 have hp1 := (hp0.below hb0).below hc0
 have hb1 := below_new w1 (.cells #[.string (ba tBool)] 9)
 have hS1 : Sl (w1.alloc (.cells #[.string (ba tBool)] 9)) (.slice (some ⟨w1.heap.size, 0, none⟩) 1 1) [tBool] := Sl.new [tBool] (by simp) (by simp) 1 1 rfl rfl
 have hi1 := takeIf_no _ [tBool] _ pb sz s (hp1.below hb1) hS1 H1.out
 have HI1 := Lib.hid hi1
 clear hi1 hS1
 go_wp2_with fail
 refine HI1.out.mono ?_
 rintro e w2 ⟨rfl, hc1⟩
 have l2 := (l1.later hb1).later hc1
 have hk2 := (hk1.below hb1 hk1.size).below hc1 (Nat.le_trans hk1.size hb1.size)
 have hp2 := (hp1.below hb1).below hc1
 have hb2 := below_new w2 (.cells #[.string (ba tUnit)] 9)
 have hS2 : Sl (w2.alloc (.cells #[.string (ba tUnit)] 9)) (.slice (some ⟨w2.heap.size, 0, none⟩) 1 1) [tUnit] := Sl.new [tUnit] (by simp) (by simp) 1 1 rfl rfl
 have hi2 := takeIf_no _ [tUnit] _ pb sz s (hp2.below hb2) hS2 H2.out
 have HI2 := Lib.hid hi2
 clear hi2 hS2
 go_wp2_with fail
 refine HI2.out.mono ?_
 rintro e w3 ⟨rfl, hc2⟩
 have l3 := (l2.later hb2).later hc2
 have hk3 := (hk2.below hb2 hk2.size).below hc2 (Nat.le_trans hk2.size hb2.size)
 have hp3 := (hp2.below hb2).below hc2
 have hb3 := below_new w3 (.cells #[.int .i64 3] 3)
 have hS3 : Il (w3.alloc (.cells #[.int .i64 3] 3)) (.slice (some ⟨w3.heap.size, 0, none⟩) 1 1) [3] := Il.new [3] (by simp) (by simp) 1 1 rfl rfl
 have hi3 := isOf_any _ [3] _ pb sz s (hp3.below hb3) hS3
 rw [H3.out] at hi3
 have HI3 := Lib.hid hi3
 clear hi3 hS3
 go_wp2_with fail
 refine HI3.out.mono ?_
 rintro e w' ⟨rfl, rfl⟩
 have l4 := l3.later hb3
 have hk4 := hk3.below hb3 hk3.size
 have hp4 := hp3.below hb3
 have hfl1 := tok_field1
 go_wp2_with fail
 refine (take_any _ pb sz s hp4 x r hw).mono ?_
 rintro e w5 ⟨rfl, hg⟩
 unfold tkV
 have lt := hg.kp.lies l4 (by omega)
 have kt := hk4.trans hg.kp
 go_wp2_with (first | (refine wpList_store_rowTo rfl 31 (.tmp 2) (.tmp 36) rfl rfl _ (tyC (4, x.t)) rfl rfl 31 _ lt szTy rfl (by kernel_rfl) ?_))
 refine bodyPost_ret (v := .tuple #[tyV (4, x.t), .bool true]) (results_cell_tmp rfl _ _ w.heap.size 31 (tyC (4, x.t)) (0, 0) _ _ rfl rfl (lt.setRow _) Tryz.underlying31 rfl szTy) rfl ?_
 exact ⟨rfl, hg.pa.setRow hplt _, kt.setRow (Nat.le_refl _) _⟩

set_option maxRecDepth 100000 in
set_option maxHeartbeats 1000000 in
theorem aType_4 (pb sz : Nat) (w : World) (s : St) (hp : PA w pb sz s) (H0 : Hid (isT [tInt] s = false)) (H1 : Hid (isT [tBool] s = false)) (H2 : Hid (isT [tUnit] s = false)) (H3 : Hid (isOf [3] s = false)) :
  Calls Tryz.prog 103 #[.pointer (some ⟨pb, 0, none⟩)] w (TyEnd pb sz w (aType s)) := by
 have hplt := hp.lt
 have l0 := Lies.new w 31 zT
 have hk0 := (Kp.refl pb w).alloc (.cells zT 31)
 have hp0 := hp.alloc (.cells zT 31)
 unfold zT at l0 hk0 hp0
 have hr : aType s = (none, s) := by unfold aType; simp only [H0.out, H1.out, H2.out, H3.out, Bool.false_eq_true, if_false]
 rw [hr]
 clear hr
 go_enter Tryz.func103, Tryz.ntmps103
 have hb0 := below_new (w.alloc (.cells #[.int .i64 0, .string ⟨#[]⟩, .int .i64 0, .slice none 0 0, .slice none 0 0, .int .i64 0] 31)) (.cells #[.string (ba tInt)] 9)
 have hS0 : Sl ((w.alloc (.cells #[.int .i64 0, .string ⟨#[]⟩, .int .i64 0, .slice none 0 0, .slice none 0 0, .int .i64 0] 31)).alloc (.cells #[.string (ba tInt)] 9)) (.slice (some ⟨w.heap.size + 1, 0, none⟩) 1 1) [tInt] := Sl.new [tInt] (by simp) (by simp) 1 1 rfl rfl
 have hi0 := takeIf_no _ [tInt] _ pb sz s (hp0.below hb0) hS0 H0.out
 have HI0 := Lib.hid hi0
 clear hi0 hS0
 go_wp2_with fail
 refine HI0.out.mono ?_
 rintro e w1 ⟨rfl, hc0⟩
 have l1 := (l0.later hb0).later hc0
 have hk1 := (hk0.below hb0 hk0.size).below hc0 (Nat.le_trans hk0.size hb0.size)
 have hp1 := (hp0.below hb0).below hc0
 have hb1 := below_new w1 (.cells #[.string (ba tBool)] 9)
 have hS1 : Sl (w1.alloc (.cells #[.string (ba tBool)] 9)) (.slice (some ⟨w1.heap.size, 0, none⟩) 1 1) [tBool] := Sl.new [tBool] (by simp) (by simp) 1 1 rfl rfl
 have hi1 := takeIf_no _ [tBool] _ pb sz s (hp1.below hb1) hS1 H1.out
 have HI1 := Lib.hid hi1
 clear hi1 hS1
 go_wp2_with fail
 refine HI1.out.mono ?_
 rintro e w2 ⟨rfl, hc1⟩
 have l2 := (l1.later hb1).later hc1
 have hk2 := (hk1.below hb1 hk1.size).below hc1 (Nat.le_trans hk1.size hb1.size)
 have hp2 := (hp1.below hb1).below hc1
 have hb2 := below_new w2 (.cells #[.string (ba tUnit)] 9)
 have hS2 : Sl (w2.alloc (.cells #[.string (ba tUnit)] 9)) (.slice (some ⟨w2.heap.size, 0, none⟩) 1 1) [tUnit] := Sl.new [tUnit] (by simp) (by simp) 1 1 rfl rfl
 have hi2 := takeIf_no _ [tUnit] _ pb sz s (hp2.below hb2) hS2 H2.out
 have HI2 := Lib.hid hi2
 clear hi2 hS2
 go_wp2_with fail
 refine HI2.out.mono ?_
 rintro e w3 ⟨rfl, hc2⟩
 have l3 := (l2.later hb2).later hc2
 have hk3 := (hk2.below hb2 hk2.size).below hc2 (Nat.le_trans hk2.size hb2.size)
 have hp3 := (hp2.below hb2).below hc2
 have hb3 := below_new w3 (.cells #[.int .i64 3] 3)
 have hS3 : Il (w3.alloc (.cells #[.int .i64 3] 3)) (.slice (some ⟨w3.heap.size, 0, none⟩) 1 1) [3] := Il.new [3] (by simp) (by simp) 1 1 rfl rfl
 have hi3 := isOf_any _ [3] _ pb sz s (hp3.below hb3) hS3
 rw [H3.out] at hi3
 have HI3 := Lib.hid hi3
 clear hi3 hS3
 go_wp2_with fail
 refine HI3.out.mono ?_
 rintro e w' ⟨rfl, rfl⟩
 have l4 := l3.later hb3
 have hk4 := hk3.below hb3 hk3.size
 have hp4 := hp3.below hb3
 have lt := l4
 have kt := hk4
 have hg : Goes pb sz _ s _ := Goes.refl hp4
 go_wp2_with (first | (refine wpList_store_rowTo rfl 31 (.tmp 2) (.tmp 37) rfl rfl _ (tyC (0, [])) rfl rfl 31 _ lt szTy rfl (by kernel_rfl) ?_))
 refine bodyPost_ret (v := .tuple #[tyV (0, []), .bool false]) (results_cell_tmp rfl _ _ w.heap.size 31 (tyC (0, [])) (0, 0) _ _ rfl rfl (lt.setRow _) Tryz.underlying31 rfl szTy) rfl ?_
 exact ⟨rfl, hg.pa.setRow hplt _, kt.setRow (Nat.le_refl _) _⟩

theorem aType_any (pb sz : Nat) (w : World) (s : St) (hp : PA w pb sz s) :
  Calls Tryz.prog 103 #[.pointer (some ⟨pb, 0, none⟩)] w (TyEnd pb sz w (aType s)) := by
 by_cases h0 : isT [tInt] s = true
 ·exact aType_0 pb sz w s hp (Lib.hid h0)
 rw [Bool.not_eq_true] at h0
 by_cases h1 : isT [tBool] s = true
 ·exact aType_1 pb sz w s hp (Lib.hid h0) (Lib.hid h1)
 rw [Bool.not_eq_true] at h1
 by_cases h2 : isT [tUnit] s = true
 ·exact aType_2 pb sz w s hp (Lib.hid h0) (Lib.hid h1) (Lib.hid h2)
 rw [Bool.not_eq_true] at h2
 by_cases h3 : isOf [3] s = true
 ·exact aType_3 pb sz w s hp (Lib.hid h0) (Lib.hid h1) (Lib.hid h2) (Lib.hid h3)
 rw [Bool.not_eq_true] at h3
 exact aType_4 pb sz w s hp (Lib.hid h0) (Lib.hid h1) (Lib.hid h2) (Lib.hid h3)
end Go.Proofs.YtmodmojocclmaaaGreatDoor

/- The contract of what must be a type. -/
namespace Go.Proofs.YtmodmojocclmaaaGreatDoor
open Go.RowKit Pz

theorem mustType_some {sz : Nat} {s s1 : St} {t : Ty} (h : aType s = (some t, s1)) : mustType sz s = (t, s1) := by unfold mustType; rw [h]
theorem mustType_none {sz : Nat} {s s1 : St} (h : aType s = (none, s1)) : mustType sz s = ((0, []), fail sz 3 s1) := by unfold mustType; rw [h]

set_option maxRecDepth 100000 in
set_option maxHeartbeats 1000000 in
theorem mustType_any (pb sz : Nat) (w : World) (s : St) (hp : PA w pb sz s) :
  Calls Tryz.prog 102 #[.pointer (some ⟨pb, 0, none⟩)] w fun e w' => e = .returned (tyV (mustType sz s).1) ∧ Goes pb sz w (mustType sz s).2 w' := by
 have hplt := hp.lt
 have l0 := Lies.new w 31 zT
 have hk0 := (Kp.refl pb w).alloc (.cells zT 31)
 have hp0 := hp.alloc (.cells zT 31)
 have hat := aType_any pb sz _ s hp0
 have hlz := fun w' : World => Lies.new w' 31 zT
 rcases hA : aType s with ⟨_ | t, s1⟩
 ·rw [mustType_none hA]
  rw [hA] at hat
  have HA := Lib.hid hat
  unfold zT at l0 hk0 HA hlz
  clear hat hA hp0
  go_enter Tryz.func102, Tryz.ntmps102
  go_wp2_with fail
  refine HA.out.mono ?_
  rintro e w1 ⟨rfl, hg1⟩
  have lz := hlz w1
  have l1 := hg1.kp.lies l0 (by omega)
  have l2 := l1.alloc (.cells (tyC (0, [])) 31)
  have lb := Lies.new w1 31 (tyC (0, []))
  have hg2 : Goes pb sz w s1 (w1.alloc (.cells (tyC (0, [])) 31)) := ⟨hg1.pa.alloc _, (hk0.trans hg1.kp).alloc _⟩
  have hfa := fail_any 3 _ pb sz s1 hg2.pa
  have HF := Lib.hid hfa
  clear hfa hlz
  go_wp2_with (first | (refine wpList_store_rowTo rfl 31 (.tmp 3) (.tmp 8) rfl rfl _ (tyC (0, [])) rfl rfl 31 _ lz szTy rfl (by kernel_rfl) ?_; rw [set_new rfl]))
  refine HF.out.mono ?_
  rintro e w3 ⟨rfl, hg3⟩
  have l3 := hg3.kp.lies l2 (by omega)
  have hsz1 : w.heap.size < w1.heap.size := l1.lt
  have lb3 := hg3.kp.lies lb (by omega)
  go_wp2_with (first | (refine wpList_load_row rfl 31 (.tmp 3) rfl _ rfl 31 _ (0, 0) _ lb3 Tryz.underlying31 rfl szTy ?_) | (refine wpList_store_rowTo rfl 31 (.tmp 2) (.tmp 14) rfl rfl _ (tyC (0, [])) rfl rfl 31 _ l3 szTy rfl (by kernel_rfl) ?_))
  refine bodyPost_ret (v := tyV (0, [])) (results_cell_row rfl _ _ w.heap.size 31 (tyC (0, [])) (0, 0) _ rfl (l3.setRow _) Tryz.underlying31 rfl szTy) rfl ?_
  exact ⟨rfl, (hg2.trans hg3).pa.setRow hplt _, (hg2.trans hg3).kp.setRow (Nat.le_refl _) _⟩
 ·rw [mustType_some hA]
  rw [hA] at hat
  have HA := Lib.hid hat
  unfold zT at l0 hk0 HA hlz
  clear hat hA hp0
  go_enter Tryz.func102, Tryz.ntmps102
  go_wp2_with fail
  refine HA.out.mono ?_
  rintro e w1 ⟨rfl, hg1⟩
  have lz := hlz w1
  have l1 := hg1.kp.lies l0 (by omega)
  have l2 := l1.alloc (.cells (tyC t) 31)
  have lb := Lies.new w1 31 (tyC t)
  have hg2 : Goes pb sz w s1 (w1.alloc (.cells (tyC t) 31)) := ⟨hg1.pa.alloc _, (hk0.trans hg1.kp).alloc _⟩
  clear hlz
  go_wp2_with (first | (refine wpList_store_rowTo rfl 31 (.tmp 3) (.tmp 8) rfl rfl _ (tyC t) rfl rfl 31 _ lz szTy rfl (by kernel_rfl) ?_; rw [set_new rfl]) | (refine wpList_load_row rfl 31 (.tmp 3) rfl _ rfl 31 _ (0, 0) _ lb Tryz.underlying31 rfl szTy ?_) | (refine wpList_store_rowTo rfl 31 (.tmp 2) (.tmp 14) rfl rfl _ (tyC t) rfl rfl 31 _ l2 szTy rfl (by kernel_rfl) ?_))
  refine bodyPost_ret (v := tyV t) (results_cell_row rfl _ _ w.heap.size 31 (tyC t) (0, 0) _ rfl (l2.setRow _) Tryz.underlying31 rfl szTy) rfl ?_
  exact ⟨rfl, hg2.pa.setRow hplt _, hg2.kp.setRow (Nat.le_refl _) _⟩
end Go.Proofs.YtmodmojocclmaaaGreatDoor

/- The contract of what reads an operation's signature. -/
namespace Go.Proofs.YtmodmojocclmaaaGreatDoor
open Go.RowKit Pz

def sgC (nm : Str) (a b : Ty) : List Value := .string (ba nm) :: ((tyC a).toList ++ (tyC b).toList)
theorem szSig : (Tryz.prog.info? 192).map (·.size) = some 13 := by kernel_rfl
def SigIt (_w : World) (_P : Nat → Prop) (g : Sig) (l : List Value) : Prop := l = sgC g.nm g.arg g.res
theorem sgC_ones (nm : Str) (a b : Ty) : ∀ u ∈ sgC nm a b, u.oneCell' = true := by simp [sgC, tyC, Value.oneCell']
theorem sigOK : ItOK 13 SigIt := ⟨fun h _ => h, fun h _ => h, fun h => by rw [h]; rfl, fun h => by rw [h]; exact sgC_ones _ _ _⟩
theorem sg_one (nm : Str) (a b : Ty) : (sgC nm a b).toArray.all (·.oneCell') = true := by kernel_rfl

theorem sg_set1 {w : World} {M : Nat} {nm : Str} {a b a' : Ty} (h : Lies w M 192 (sgC nm a b).toArray) : Lies (w.setCells M 1 (tyC a').toList) M 192 (sgC nm a' b).toArray :=
 Lies.setCells (tyC a').toList 1 h (by simp [tyC, sgC])
theorem sg_set7 {w : World} {M : Nat} {nm : Str} {a b b' : Ty} (h : Lies w M 192 (sgC nm a b).toArray) : Lies (w.setCells M 7 (tyC b').toList) M 192 (sgC nm a b').toArray :=
 Lies.setCells (tyC b').toList 7 h (by simp [tyC, sgC])
theorem sg_there1 {w : World} {M : Nat} {nm : Str} {a b : Ty} (c : Ty) (h : Lies w M 192 (sgC nm a b).toArray) : w.there M 1 (tyC c).size := h.there 1 _ (by simp [tyC, sgC])
theorem sg_there7 {w : World} {M : Nat} {nm : Str} {a b : Ty} (c : Ty) (h : Lies w M 192 (sgC nm a b).toArray) : w.there M 7 (tyC c).size := h.there 7 _ (by simp [tyC, sgC])
theorem ty_ones (t : Ty) : (tyC t).all (·.oneCell') = true := by kernel_rfl
theorem ty_size (t : Ty) : (Tryz.prog.info? 31).map (·.size) = some (tyC t).size := szTy
theorem sg_size (nm : Str) (a b : Ty) : (Tryz.prog.info? 192).map (·.size) = some (sgC nm a b).toArray.size := szSig
set_option maxRecDepth 100000 in
set_option maxHeartbeats 400000 in
theorem sig_any (pb sz : Nat) (w : World) (s : St) (hp : PA w pb sz s) :
  Calls Tryz.prog 77 #[.pointer (some ⟨pb, 0, none⟩)] w (ItEnd SigIt pb sz w (sig sz s)) := by
 have hplt := hp.lt
 have l0 := Lies.new w 192 (sgC [] (0, []) (0, [])).toArray
 have hk0 := (Kp.refl pb w).alloc (.cells (sgC [] (0, []) (0, [])).toArray 192)
 have hp0 := hp.alloc (.cells (sgC [] (0, []) (0, [])).toArray 192)
 have hsm := small_any _ pb sz s hp0
 have hz : (w.alloc (.cells (sgC [] (0, []) (0, [])).toArray 192)).heap.size = w.heap.size + 1 := by simp
 have HSM := Lib.hid hsm
 have HZ := Lib.hid hz
 clear hsm hz
 unfold sig
 dsimp only
 go_enter Tryz.func77, Tryz.ntmps77
 go_wp2_with fail
 refine HSM.out.mono ?_
 rintro e w1 ⟨rfl, hg1⟩
 have l1 := hg1.kp.lies l0 (by omega)
 have hsz1 : w.heap.size + 1 ≤ w1.heap.size := by have := hg1.kp.size; have := HZ.out; omega
 have lz := Lies.new w1 192 (sgC [] (0, []) (0, [])).toArray
 have l2 := l1.alloc (.cells (sgC (name sz [2] s).1 (0, []) (0, [])).toArray 192)
 have lb := Lies.new w1 192 (sgC (name sz [2] s).1 (0, []) (0, [])).toArray
 have hg2 : Goes pb sz w (name sz [2] s).2 (w1.alloc (.cells (sgC (name sz [2] s).1 (0, []) (0, [])).toArray 192)) := ⟨hg1.pa.alloc _, (hk0.trans hg1.kp).alloc _⟩
 have hb3 := below_new (w1.alloc (.cells (sgC (name sz [2] s).1 (0, []) (0, [])).toArray 192)) (.cells #[.string (ba tColon)] 9)
 have hS3 : Sl ((w1.alloc (.cells (sgC (name sz [2] s).1 (0, []) (0, [])).toArray 192)).alloc (.cells #[.string (ba tColon)] 9)) (.slice (some ⟨w1.heap.size + 1, 0, none⟩) 1 1) [tColon] := Sl.new [tColon] (by simp) (by simp) 1 1 rfl rfl
 have hm3 := must_any _ [tColon] _ pb sz _ (hg2.pa.below hb3) hS3 (Off.new (by omega))
 have HM3 := Lib.hid hm3
 have hk3 := hg2.kp.below hb3 hg2.kp.size
 have l3 := l2.later hb3
 have lb3 := lb.later hb3
 clear hm3 hS3
 go_wp2_with (first | (refine wpList_store_rowTo rfl 192 (.tmp 3) (.tmp 6) rfl rfl _ (sgC (name sz [2] s).1 (0, []) (0, [])).toArray rfl rfl 192 _ lz (sg_size _ _ _) rfl (sg_one _ _ _) ?_; rw [set_new rfl]))
 refine HM3.out.mono ?_
 rintro e w4 ⟨rfl, hg4⟩
 have hk4 := hk3.trans hg4.kp
 have l4 := hg4.kp.lies l3 (by omega)
 have lb4 := hg4.kp.lies lb3 (by omega)
 have hsz4 : w1.heap.size < w4.heap.size := lb4.lt
 go_wp2_with fail
 have hmt := mustType_any pb sz w4 _ hg4.pa
 obtain ⟨T1, hT1⟩ : ∃ x, x = mustType sz (must sz [tColon] (name sz [2] s).2) := ⟨_, rfl⟩
 rw [← hT1] at hmt
 unfold tyV at hmt
 obtain ⟨C1, hC1⟩ : ∃ x, x = tyC T1.1 := ⟨_, rfl⟩
 rw [← hC1] at hmt
 have HC1 := Lib.hid hC1
 have HT1 := Lib.hid hT1
 clear hT1
 refine hmt.mono ?_
 rintro e w5 ⟨rfl, hg5⟩
 have hk5 := hk4.trans hg5.kp
 have l5 := hg5.kp.lies l4 (by omega)
 have lb5 := hg5.kp.lies lb4 (by omega)
 have lb6 := sg_set1 (a' := T1.1) lb5
 have thr5 := sg_there1 T1.1 lb5
 have hsz5 := ty_size T1.1
 have hon5 := ty_ones T1.1
 rw [← HC1.out] at lb6 thr5 hsz5 hon5
 have THR5 := Lib.hid thr5
 have HSZ5 := Lib.hid hsz5
 have HON5 := Lib.hid hon5
 clear thr5 hsz5 hon5 hC1
 have l6 := l5.farCells (g' := w1.heap.size) 1 C1.toList (by omega)
 have hpa6 := hg5.pa.setCells (g := w1.heap.size) (by omega) 1 C1.toList
 have hk6 := hk5.setCells (g := w1.heap.size) (by omega) 1 C1.toList
 have hb7 := below_new (w5.setCells w1.heap.size 1 C1.toList) (.cells #[.string (ba tArrow)] 9)
 have hS7 : Sl ((w5.setCells w1.heap.size 1 C1.toList).alloc (.cells #[.string (ba tArrow)] 9)) (.slice (some ⟨(w5.setCells w1.heap.size 1 C1.toList).heap.size, 0, none⟩) 1 1) [tArrow] := Sl.new [tArrow] rfl (by simp) 1 1 rfl rfl
 have hm7 := must_any _ [tArrow] _ pb sz _ (hpa6.below hb7) hS7 (Off.new (by have := hpa6.lt; omega))
 have HM7 := Lib.hid hm7
 have hk7 := hk6.below hb7 hk6.size
 have l7 := l6.later hb7
 have lb7 := lb6.later hb7
 clear hm7 hS7
 go_wp2_with (first | (refine wpList_store_mid rfl 31 (.tmp 12) (.tmp 11) rfl w1.heap.size 1 C1 rfl rfl THR5.out HSZ5.out HON5.out ?_))
 refine HM7.out.mono ?_
 rintro e w8 ⟨rfl, hg8⟩
 have hk8 := hk7.trans hg8.kp
 have l8 := hg8.kp.lies l7 (by omega)
 have lb8 := hg8.kp.lies lb7 (by omega)
 have hsz8 : w1.heap.size < w8.heap.size := lb8.lt
 have hmt2 := mustType_any pb sz w8 _ hg8.pa
 obtain ⟨T2, hT2⟩ : ∃ x, x = mustType sz (must sz [tArrow] T1.2) := ⟨_, rfl⟩
 rw [← hT2] at hmt2
 unfold tyV at hmt2
 obtain ⟨C2, hC2⟩ : ∃ x, x = tyC T2.1 := ⟨_, rfl⟩
 rw [← hC2] at hmt2
 have HC2 := Lib.hid hC2
 have HT2 := Lib.hid hT2
 have HMT2 := Lib.hid hmt2
 clear hT2 hmt2
 go_wp2_with fail
 refine HMT2.out.mono ?_
 rintro e w9 ⟨rfl, hg9⟩
 have hk9 := hk8.trans hg9.kp
 have l9 := hg9.kp.lies l8 (by omega)
 have lb9 := hg9.kp.lies lb8 (by omega)
 have lbX := sg_set7 (b' := T2.1) lb9
 have thr9 := sg_there7 T2.1 lb9
 have hsz9 := ty_size T2.1
 have hon9 := ty_ones T2.1
 rw [← HC2.out] at lbX thr9 hsz9 hon9
 have THR9 := Lib.hid thr9
 have HSZ9 := Lib.hid hsz9
 have HON9 := Lib.hid hon9
 have lX := l9.farCells (g' := w1.heap.size) 7 C2.toList (by omega)
 have hpaX := hg9.pa.setCells (g := w1.heap.size) (by omega) 7 C2.toList
 have hkX := hk9.setCells (g := w1.heap.size) (by omega) 7 C2.toList
 obtain ⟨G, hG⟩ : ∃ x, x = sgC (name sz [2] s).1 T1.1 T2.1 := ⟨_, rfl⟩
 have hgs := sg_size (name sz [2] s).1 T1.1 T2.1
 have hgo := sg_one (name sz [2] s).1 T1.1 T2.1
 have hgl : (sgC [] (0, []) (0, [])).toArray.size = (sgC (name sz [2] s).1 T1.1 T2.1).toArray.size := rfl
 rw [← hG] at lbX hgs hgo hgl
 have HGS := Lib.hid hgs
 have HGO := Lib.hid hgo
 have HGL := Lib.hid hgl
 have HG := Lib.hid hG
 clear thr9 hsz9 hon9 hC2 hgs hgo hgl hG
 go_wp2_with (first | (refine wpList_store_mid rfl 31 (.tmp 18) (.tmp 17) rfl w1.heap.size 7 C2 rfl rfl THR9.out HSZ9.out HON9.out ?_) | (refine wpList_load_row rfl 192 (.tmp 3) rfl _ rfl 192 _ (0, 0) _ lbX Tryz.underlying192 rfl HGS.out ?_) | (refine wpList_store_rowTo rfl 192 (.tmp 2) (.tmp 19) rfl rfl _ _ rfl rfl 192 _ lX HGS.out HGL.out HGO.out ?_))
 refine bodyPost_ret (v := .agg G.toArray) (results_cell_row rfl _ _ w.heap.size 192 G.toArray (0, 0) _ rfl (lX.setRow _) Tryz.underlying192 rfl HGS.out) rfl ?_
 refine ⟨G, rfl, ?_, ?_⟩
 ·show G = _
  rw [HG.out, HT2.out, HT1.out]
  rfl
 ·have hE : (mustType sz (must1 sz tArrow (mustType sz (must1 sz tColon (name sz [2] s).2)).2)).2 = T2.2 := by rw [HT2.out, HT1.out]; rfl
  rw [hE]
  exact ⟨hpaX.setRow hplt _, hkX.setRow (Nat.le_refl _) _⟩
end Go.Proofs.YtmodmojocclmaaaGreatDoor

/- The contract of what reads a constructor's declaration. -/
namespace Go.Proofs.YtmodmojocclmaaaGreatDoor
open Go.RowKit Pz

def TyIt (_w : World) (_P : Nat → Prop) (t : Ty) (l : List Value) : Prop := l = (tyC t).toList
theorem ty_one (t : Ty) : ∀ u ∈ (tyC t).toList, u.oneCell' = true := by simp [tyC, Value.oneCell']
theorem tyOK : ItOK 6 TyIt := ⟨fun h _ => h, fun h _ => h, fun h => by rw [h]; rfl, fun h => by rw [h]; exact ty_one _⟩
theorem info_ty : (Tryz.prog.info? 31).map (fun i => (i.zero, i.size, i.bytes)) = some (some (.agg zT), 6, 88) := by kernel_rfl
def cnA (nm : Str) (vv : Value) : Array Value := #[.string (ba nm), vv]
theorem szCn : (Tryz.prog.info? 195).map (·.size) = some 2 := by kernel_rfl
theorem conMore_none {s s1 : St} (h : aType s = (none, s1)) (n : Nat) : conMore (n + 1) s = ([], s1) := by rw [conMore, h]
theorem conMore_some {s s1 : St} {t : Ty} (h : aType s = (some t, s1)) (n : Nat) : conMore (n + 1) s = (t :: (conMore n s1).1, (conMore n s1).2) := by rw [conMore, h]
theorem aType_lt {s s1 : St} {t : Ty} (h : aType s = (some t, s1)) : s1.ws.length + 1 = s.ws.length := by
 unfold aType at h
 split at h
 ·rename_i hc; injection h with _ h; subst h; exact take_lt (isT_pos hc)
 ·split at h
  ·rename_i hc; injection h with _ h; subst h; exact take_lt (isT_pos hc)
  ·split at h
   ·rename_i hc; injection h with _ h; subst h; exact take_lt (isT_pos hc)
   ·split at h
    ·rename_i hc; injection h with _ h; subst h; exact take_lt (isOf_pos hc)
    ·injection h with h _; cases h
def ConIt (w : World) (P : Nat → Prop) (c : Con) (l : List Value) : Prop := ∃ v, l = [.string (ba c.1), v] ∧ OwnP w P 31 6 v c.2.length (c.2.map fun t => (tyC t).toList).flatten
theorem conOK : ItOK 2 ConIt :=
 ⟨fun ⟨v, h1, h4⟩ hs => ⟨v, h1, h4.same hs⟩, fun ⟨v, h1, h4⟩ hs => ⟨v, h1, h4.mono hs⟩,
  fun ⟨v, h1, _⟩ => by rw [h1]; rfl, fun ⟨v, h1, h4⟩ => by
   intro u hu
   rw [h1] at hu
   simp only [List.mem_cons, List.not_mem_nil, or_false] at hu
   rcases hu with rfl | rfl
   ·rfl
   ·exact h4.one⟩
theorem acc_types {w : World} {lo : Nat} {zs : List Ty} {v : Value} (h : Acc TyIt 31 6 w lo zs v) : OwnP w (fun g => lo ≤ g) 31 6 v zs.length (zs.map fun t => (tyC t).toList).flatten := by
 obtain ⟨xs, h1, h2, h3⟩ := h
 have e : xs = zs.map fun t => (tyC t).toList := by
  apply List.ext_getElem?
  intro i
  rw [List.getElem?_map]
  rcases hz : zs[i]? with _ | t
  ·rw [List.getElem?_eq_none_iff] at hz
   rw [Option.map_none, List.getElem?_eq_none_iff]
   omega
  ·obtain ⟨hlt, _⟩ := List.getElem?_eq_some_iff.1 hz
   have hx : xs[i]? = some xs[i] := List.getElem?_eq_getElem (by omega)
   have := h3 i t _ hz hx
   rw [hx, Option.map_some]
   exact congrArg some this
 rw [← e]
 exact h2
theorem own_slice {w : World} {lo e sz n : Nat} {v : Value} {xs : List Value} (h : w.ownsRow lo e sz v n xs) : ∃ A k c, v = .slice A k c := by
 rcases (OwnP.of h).2 with ⟨h, _⟩ | ⟨g, cap, cur, h, _⟩ <;> exact ⟨_, _, _, h⟩

structure ConRel (pb sz n N M : Nat) (w : World) (nm : Str) (res : List Ty × St) (g : Nat) (wr : World) (zs : List Ty) (vv : Value) (s : St) : Prop where
 goes : Goes pb sz w s wr
 box : Lies wr M 195 (cnA nm vv)
 out : Lies wr N 195 (cnA [] (.slice none 0 0))
 acc : Acc TyIt 31 6 wr (M + 1) zs vv
 lg : s.ws.length + 1 ≤ g
 ln : zs.length + s.ws.length < n
 res : res = (zs ++ (conMore g s).1, (conMore g s).2)
def ConAny (pb sz n N M : Nat) (w : World) (nm : Str) (res : List Ty × St) (g : Nat) (wr : World) : Prop := ∃ zs vv s, ConRel pb sz n N M w nm res g wr zs vv s

set_option maxRecDepth 100000 in
set_option maxHeartbeats 1000000 in
theorem con_any (pb sz n : Nat) (hnb : n ≤ 2000000) (w : World) (s : St) (hp : PA w pb sz s) (hn : s.ws.length < n) :
  Calls Tryz.prog 79 #[.pointer (some ⟨pb, 0, none⟩)] w (ItEnd ConIt pb sz w (con sz s)) := by
 have hplt := hp.lt
 have l0 := Lies.new w 195 (cnA [] (.slice none 0 0))
 have hp0 := hp.alloc (.cells (cnA [] (.slice none 0 0)) 195)
 have hk0 := (Kp.refl pb w).alloc (.cells (cnA [] (.slice none 0 0)) 195)
 have hni := nice_name sz [3] s
 have hla := large_any _ pb sz s hp0
 unfold con
 dsimp only
 have HLA := Lib.hid hla
 obtain ⟨i0, hi, hz0, hz1, hz2⟩ := info_parts info_ty
 clear hla
 go_enter Tryz.func79, Tryz.ntmps79
 go_wp2_with fail
 refine HLA.out.mono ?_
 rintro e w1 ⟨rfl, hg1⟩
 have l1 := hg1.kp.lies l0 (by omega)
 have lz := Lies.new w1 195 (cnA [] (.slice none 0 0))
 clear HLA l0
 have l2 := l1.alloc (.cells (cnA (name sz [3] s).1 (.slice none 0 0)) 195)
 have lB := Lies.new w1 195 (cnA (name sz [3] s).1 (.slice none 0 0))
 have hsz1 : w.heap.size + 1 ≤ w1.heap.size := by have := hg1.kp.size; simp at this; omega
 have hk1 : Kp pb w w1 := hk0.trans hg1.kp
 have hle : (name sz [3] s).2.ws.length ≤ s.ws.length := hni.1
 have hst : ConRel pb sz n w.heap.size w1.heap.size w (name sz [3] s).1 (conMore ((name sz [3] s).2.ws.length + 1) (name sz [3] s).2) ((name sz [3] s).2.ws.length + 1) (w1.alloc (.cells (cnA (name sz [3] s).1 (.slice none 0 0)) 195)) [] (.slice none 0 0) (name sz [3] s).2 :=
  ⟨⟨hg1.pa.alloc _, hk1.alloc _⟩, lB, l2, Acc.nil _ _, Nat.le_refl _, by simp; omega, by simp⟩
 clear l1 l2 lB hg1 hp0 hk0 hk1
 go_wp2_with (first | (refine wpList_store_rowTo rfl 195 (.tmp 3) (.tmp 8) rfl rfl _ (cnA (name sz [3] s).1 (.slice none 0 0)) rfl rfl 195 _ lz szCn rfl (by kernel_rfl) ?_; rw [set_new rfl]))
 go_loopg [9] ((name sz [3] s).2.ws.length + 1) (fun g _ wr => ConAny pb sz n w.heap.size w1.heap.size w (name sz [3] s).1 (conMore ((name sz [3] s).2.ws.length + 1) (name sz [3] s).2) g wr)
 case atStart => exact ⟨_, _, _, hst⟩
 case round =>
  obtain ⟨zs, vv, s', hR⟩ := hrel
  clear hst lz
  have hpr := hR.goes.pa
  have hat := aType_any pb sz wr s' hpr
  have HR := Lib.hid hR
  clear hR
  have hszr : w1.heap.size < wr.heap.size := HR.out.box.lt
  have hlz := fun w' : World => Lies.new w' 31 zT
  rcases hA : aType s' with ⟨_ | t, s1⟩
  ·rw [hA] at hat
   unfold TyEnd tyV at hat
   obtain ⟨C, hC⟩ : ∃ x, x = tyC (Option.getD (none : Option Ty) (0, [])) := ⟨_, rfl⟩
   have hsC := ty_size (Option.getD (none : Option Ty) (0, []))
   have hoC := ty_ones (Option.getD (none : Option Ty) (0, []))
   have hzC : zT.size = (tyC (Option.getD (none : Option Ty) (0, []))).size := rfl
   rw [← hC] at hat hsC hoC hzC
   have hres := HR.out.res
   have hlg := HR.out.lg
   obtain ⟨g', hg'⟩ : ∃ g', gk = g' + 1 := ⟨gk - 1, by omega⟩
   rw [hg', conMore_none hA, List.append_nil] at hres
   have HRES := Lib.hid hres
   have HA := Lib.hid hat
   have HSC := Lib.hid hsC
   have HOC := Lib.hid hoC
   have HZC := Lib.hid hzC
   clear hat hsC hoC hzC hC hres hA
   go_wp2_with fail
   refine HA.out.mono ?_
   rintro e w5 ⟨rfl, hg5⟩
   have hgo5 := HR.out.goes.trans hg5
   have lz5 := hlz w5
   have lb6 := (hg5.kp.lies HR.out.box (by omega)).alloc (.cells C 31)
   have lo6 := (hg5.kp.lies HR.out.out (by omega)).alloc (.cells C 31)
   have hacc := acc_types HR.out.acc
   have hv1 := hacc.one
   have hon : (cnA (name sz [3] s).1 vv).all (·.oneCell') = true := by simp [cnA, Value.oneCell'] at hv1 ⊢; exact hv1
   have HON := Lib.hid hon
   unfold zT at lz5
   clear hlz hon
   go_wp2_with (first | (refine wpList_store_rowTo rfl 31 (.tmp 4) (.tmp 12) rfl rfl _ C rfl rfl 31 _ lz5 HSC.out HZC.out HOC.out ?_; rw [set_new rfl]) | (refine wpList_load_row rfl 195 (.tmp 3) rfl _ rfl 195 _ (0, 0) _ lb6 Tryz.underlying195 rfl szCn ?_) | (refine wpList_store_rowTo rfl 195 (.tmp 2) (.tmp 16) rfl rfl _ (cnA (name sz [3] s).1 vv) rfl rfl 195 _ lo6 szCn rfl HON.out ?_))
   refine bodyPost_ret (v := .agg (cnA (name sz [3] s).1 vv)) (results_cell_row rfl _ _ w.heap.size 195 (cnA (name sz [3] s).1 vv) (0, 0) _ rfl (lo6.setRow _) Tryz.underlying195 rfl szCn) rfl ?_
   rw [HRES.out]
   refine ⟨[.string (ba (name sz [3] s).1), vv], rfl, ⟨vv, rfl, ?_⟩, (hgo5.pa.alloc _).setRow hplt _, (hgo5.kp.alloc _).setRow (Nat.le_refl _) _⟩
   refine (hacc.same (fun g (hg : w1.heap.size + 1 ≤ g) hlt => ?_)).mono (fun g (hg : w1.heap.size + 1 ≤ g) _ => by show w.heap.size ≤ g; omega)
   rw [heap_setRow _ _ _ _ (by omega)]
   exact ((below_new w5 (.cells C 31)).block g (Nat.lt_of_lt_of_le hlt hg5.kp.size)).trans (hg5.kp.block g hlt (fun e => by injection e with e; omega))
  ·rw [hA] at hat
   unfold TyEnd tyV at hat
   have hlt := aType_lt hA
   obtain ⟨l, hl⟩ : ∃ x, x = (tyC t).toList := ⟨_, rfl⟩
   have hCl : tyC (Option.getD (some t) (0, [])) = l.toArray := by rw [hl]; rfl
   have hsC := ty_size t
   have hoC := ty_ones t
   have hlen : l.length = 6 := by rw [hl]; rfl
   have hone : ∀ u ∈ l, u.oneCell' = true := by rw [hl]; exact ty_one t
   have hCl' : tyC t = l.toArray := by rw [hl]
   have hzC : zT.size = l.toArray.size := by simp [hlen, zT]
   rw [hCl] at hat
   rw [hCl'] at hsC hoC
   have HL := Lib.hid hlen
   have HAL := Lib.hid hl
   have HA := Lib.hid hat
   have HSC := Lib.hid hsC
   have HOC := Lib.hid hoC
   have HZC := Lib.hid hzC
   have HON := Lib.hid hone
   have HAT := Lib.hid hA
   clear hat hsC hoC hzC hCl hCl' hlen hl hone hA
   go_wp2_with fail
   refine HA.out.mono ?_
   rintro e w5 ⟨rfl, hg5⟩
   have hgo5 := HR.out.goes.trans hg5
   have lz5 := hlz w5
   have hb6 := below_new w5 (.cells l.toArray 31)
   have lb6 := (hg5.kp.lies HR.out.box (by omega)).later hb6
   have lo6 := (hg5.kp.lies HR.out.out (by omega)).later hb6
   have lt6 := Lies.new w5 31 l.toArray
   have cb6 : (w5.alloc (.cells l.toArray 31)).cell? ⟨w1.heap.size, 1, none⟩ = some vv := lb6.cell 1
   have hb7 := below_new (w5.alloc (.cells l.toArray 31)) (.cells l.toArray 31)
   have hacc := ((HR.out.acc.kp tyOK hg5.kp (by omega)).later tyOK hb6).later tyOK hb7
   obtain ⟨xs, hx1, hx2, hx3⟩ := hacc
   have hln := HR.out.ln
   have hlg := HR.out.lg
   have hrow := fun k hk => own_block hx2 k hk
   have hvB : ∀ k, vv.ownBlock = some k → k < wr.heap.size := fun k hk => by
    obtain ⟨ys, _, hy2, _⟩ := HR.out.acc
    exact (own_block hy2 k hk).2
   have hszg := hg5.kp.size
   have lb7 := lb6.later hb7
   have lo7 := lo6.later hb7
   have HX1 := Lib.hid hx1
   unfold zT at lz5
   clear hlz hx1
   go_wp2_with (first | (refine wpList_store_rowTo rfl 31 (.tmp 4) (.tmp 12) rfl rfl _ l.toArray rfl rfl 31 _ lz5 HSC.out HZC.out HOC.out ?_; rw [set_new rfl]) | (refine wpList_load_row rfl 31 (.tmp 4) rfl _ rfl 31 _ (0, 0) _ lt6 Tryz.underlying31 rfl HSC.out ?_) | (refine wpList_buildSlice rfl 26 31 1 _ rfl l.toArray i0 (.agg zT) Tryz.underlying26 hi hz0 (by rw [hz1]; decide) (by rw [hz1]; decide) (by rw [hz1, Array.toList_map]; exact fill_row (sz := 6) (by decide) l HL.out ((Array.range (1 * 6)).map ((Value.agg zT).cells[· % (Value.agg zT).cells.size]!)) (by simp)) ?_) | (at_builtin; go_loud (refine wpList_append_own_at _ rfl (.tmp 18) (.tmp 20) 26 rfl (w1.heap.size + 1) 31 i0 (.agg zT) 6 88 Tryz.underlying26 hi hz0 hz1 hz2 rfl (by decide) _ zs.length xs.flatten rfl hx2 ⟨(w5.alloc (.cells l.toArray 31)).heap.size, 0, none⟩ 1 1 l rfl (by rw [HL.out]) (new_cells _ _ _ rfl) HON.out (by unfold maxLen; omega) (by omega) (by simp; omega) ?_); intro v' w11 hown hgr _ hat; obtain ⟨A5, k5, c5, rfl⟩ := own_slice hown; have hS11 := lb7.grown hgr (fun e => by have := (hrow _ e.symm).1; omega); have hcv : w11.cell? ⟨w1.heap.size, 1, none⟩ = some vv := hS11.cell 1; have hfv := hS11.free 1))
   have lo11 := lo7.grown hgr (fun e => by have := (hrow _ e.symm).1; omega)
   have hB12 : Lies (w11.setCell ⟨w1.heap.size, 1, none⟩ (.slice A5 k5 c5)) w1.heap.size 195 (cnA (name sz [3] s).1 (.slice A5 k5 c5)) := hS11.set 1 (.slice A5 k5 c5)
   have lo12 := lo11.far (p := ⟨w1.heap.size, 1, none⟩) (by show w.heap.size ≠ w1.heap.size; omega) (.slice A5 k5 c5)
   have hp11 := ((hgo5.pa.below hb6).below hb7).grown hgr (fun k hk => by have := (hrow k hk).1; omega)
   have hk11 := (((hgo5.kp.below hb6 hgo5.kp.size).below hb7 (Nat.le_trans hgo5.kp.size hb6.size))).grown hgr (fun k hk => by have := (hrow k hk).1; omega)
   have hp12 := hp11.far (p := ⟨w1.heap.size, 1, none⟩) (by show pb < w1.heap.size; omega) (.slice A5 k5 c5)
   have hk12 := hk11.setCell (p := ⟨w1.heap.size, 1, none⟩) (.inr (by show w.heap.size ≤ w1.heap.size; omega)) (.slice A5 k5 c5)
   have hacc11 : Acc TyIt 31 6 w11 (w1.heap.size + 1) (zs ++ [t]) (.slice A5 k5 c5) := Acc.snoc tyOK (B := wr.heap.size) HX1.out hx3 HAL.out (by omega) hvB hown hgr hat
   have hacc12 := hacc11.keep tyOK (w' := w11.setCell ⟨w1.heap.size, 1, none⟩ (.slice A5 k5 c5)) (fun g hg _ => Below.heap_setCell _ _ _ _ (by show g ≠ w1.heap.size; omega))
   go_roundg (gk - 1)
   case measure => omega
   case rel =>
    refine ⟨zs ++ [t], _, s1, ⟨hp12, hk12⟩, hB12, lo12, hacc12, by omega, by simp; omega, ?_⟩
    have hr := HR.out.res
    obtain ⟨g', rfl⟩ : ∃ g', gk = g' + 1 := ⟨gk - 1, by omega⟩
    rw [conMore_some HAT.out] at hr
    rw [hr]
    simp
end Go.Proofs.YtmodmojocclmaaaGreatDoor
