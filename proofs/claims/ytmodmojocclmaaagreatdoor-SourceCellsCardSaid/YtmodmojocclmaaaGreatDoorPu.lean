/- The contract of what reads an atom. -/
import Derived.Test.YtmodmojocclmaaaGreatDoorMg25
import Derived.Outline
namespace Go.Proofs.YtmodmojocclmaaaGreatDoor
open Go.RowKit Pz

def AtomEnd (pb sz : Nat) (w : World) (r : Option Tm × St) (e : Ending) (w' : World) : Prop :=
 ∃ (l : List Value) (b : Bool), e = .returned (.tuple #[.agg l.toArray, .bool b]) ∧ r.1.isSome = b ∧ HT w' (fun g => w.heap.size ≤ g) (r.1.getD Tm.zero) l ∧ PA w' pb sz r.2 ∧ Kp pb w w'
section
variable {P : Program}
theorem results_cell_tmp {fn : Func} {p q : Tmp} {ty : TypeId} (h : fn.results = #[.cell p ty, .tmp q]) (tmps : Array Value) (w : World) (g : Nat) (t : TypeId) (cs : Array Value) (fr : Nat × Nat) (d : TypeDesc)
  (b : Value) (hp : tmps.getD p undef = .pointer (some ⟨g, 0, none⟩)) (hq : tmps.getD q undef = b) (hg : w.heap[g]? = some (.cells cs t fr))
  (hu : P.underlying ty = some d) (hd : (match d with | .struct _ | .array _ _ => true | _ => false) = true) (hi : (P.info? ty).map (·.size) = some cs.size) :
  (results fn tmps).run P w = .ok (.tuple #[.agg cs, b]) w := by
 subst hq
 have hp' : tmps[p]?.getD undef = .pointer (some ⟨g, 0, none⟩) := by simpa using hp
 simp [results, h, hp', asAddr, run_loadVar_row w g t ty cs fr d hg hu hd hi]
end

set_option maxRecDepth 100000 in
set_option maxHeartbeats 1000000 in
theorem atom_0 (ex : St → Tm × St) (pb sz n : Nat) (_hxn : Nice ex) (_hx : ExOK ex pb sz n) (_hnb : n ≤ 2000000) (w : World) (s : St) (hp : PA w pb sz s) (_hn : s.ws.length ≤ n)  (H0 : Hid (isOf [1] s = true)) :
  Calls Tryz.prog 152 #[.pointer (some ⟨pb, 0, none⟩)] w (AtomEnd pb sz w (atom sz ex s)) := by
 have hplt := hp.lt
 have l0 := Lies.new w 33 zC
 have hp0 := hp.alloc (.cells zC 33)
 have hk0 := (Kp.refl pb w).alloc (.cells zC 33)
 unfold zC at l0 hp0 hk0
 have hr : atom sz ex s = (some (.mk 2 (whr sz s) [] [] (hd s).n [] []), take s) := by unfold atom; simp only [H0.out, if_true]
 obtain ⟨x, r, hw⟩ := ws_cons (isOf_pos H0.out)
 rw [hd_cons hw] at hr
 have HW := Lib.hid hw
 clear hw
 have HR := Lib.hid hr
 clear hr
 rw [HR.out]
 clear HR
 go_enter Tryz.func152, Tryz.ntmps152
 go_wp2_with fail
 refine (where_any _ pb sz s hp0).mono ?_
 rintro e w' ⟨rfl, rfl⟩
 have hb1 := below_new (w.alloc (.cells #[.int .i64 0, .int .i64 0, .string ⟨#[]⟩, .string ⟨#[]⟩, .int .i64 0, .slice none 0 0, .slice none 0 0, .int .i64 0, .string ⟨#[]⟩, .int .i64 0, .slice none 0 0, .slice none 0 0, .int .i64 0, .slice none 0 0, .int .i64 0, .int .i64 0, .string ⟨#[]⟩, .int .i64 0, .slice none 0 0, .slice none 0 0, .int .i64 0] 33)) (.cells #[.int .i64 1] 3)
 have hS2 : Il ((w.alloc (.cells #[.int .i64 0, .int .i64 0, .string ⟨#[]⟩, .string ⟨#[]⟩, .int .i64 0, .slice none 0 0, .slice none 0 0, .int .i64 0, .string ⟨#[]⟩, .int .i64 0, .slice none 0 0, .slice none 0 0, .int .i64 0, .slice none 0 0, .int .i64 0, .int .i64 0, .string ⟨#[]⟩, .int .i64 0, .slice none 0 0, .slice none 0 0, .int .i64 0] 33)).alloc (.cells #[.int .i64 1] 3)) (.slice (some ⟨w.heap.size + 1, 0, none⟩) 1 1) [1] := Il.new [1] (by simp) (by simp) 1 1 rfl rfl
 have hi3 := isOf_any _ [1] _ pb sz s (hp0.below hb1) hS2
 rw [H0.out] at hi3
 have HI4 := Lib.hid hi3
 clear hi3 hS2
 go_wp2_with fail
 refine HI4.out.mono ?_
 rintro e w' ⟨rfl, rfl⟩
 have l5 := l0.later hb1
 have hk6 := hk0.below hb1 hk0.size
 have hp7 := hp0.below hb1
 clear l0 hk0 hp0
 have hfl1 := tok_field1
 have hfl2 := tok_field2
 go_wp2_with fail
 refine (take_any _ pb sz s hp7 x r HW.out).mono ?_
 rintro e wt ⟨rfl, hgt⟩
 unfold tkV
 have lt := hgt.kp.lies l5 (by omega)
 have kt := hk6.trans hgt.kp
 go_wp2_with (first | (refine wpList_store_rowTo rfl 33 (.tmp 2) (.tmp 21) rfl rfl _ _ rfl rfl 33 _ lt sz39 rfl (by kernel_rfl) ?_))
 refine bodyPost_ret (v := .tuple #[.agg (tmC 2 (whr sz s) [] [] x.n (.slice none 0 0) (.slice none 0 0)).toArray, .bool true]) (results_cell_tmp rfl _ _ w.heap.size 33 (tmC 2 (whr sz s) [] [] x.n (.slice none 0 0) (.slice none 0 0)).toArray (0, 0) _ _ rfl rfl (lt.setRow _) Tryz.underlying33 rfl sz39) rfl ?_
 exact ⟨tmC 2 (whr sz s) [] [] x.n (.slice none 0 0) (.slice none 0 0), true, rfl, rfl, HT.leaf _ _ 2 (whr sz s) [] [] x.n, hgt.pa.setRow hplt _, kt.setRow (Nat.le_refl _) _⟩

set_option maxRecDepth 100000 in
set_option maxHeartbeats 1000000 in
theorem atom_1 (ex : St → Tm × St) (pb sz n : Nat) (_hxn : Nice ex) (_hx : ExOK ex pb sz n) (_hnb : n ≤ 2000000) (w : World) (s : St) (hp : PA w pb sz s) (_hn : s.ws.length ≤ n) (H0 : Hid (isOf [1] s = false)) (H1 : Hid (isT [tTrue] s = true)) :
  Calls Tryz.prog 152 #[.pointer (some ⟨pb, 0, none⟩)] w (AtomEnd pb sz w (atom sz ex s)) := by
 have hplt := hp.lt
 have l0 := Lies.new w 33 zC
 have hp0 := hp.alloc (.cells zC 33)
 have hk0 := (Kp.refl pb w).alloc (.cells zC 33)
 unfold zC at l0 hp0 hk0
 have hr : atom sz ex s = (some (.mk 3 (whr sz s) [] [] 1 [] []), take s) := by unfold atom; simp only [H0.out, H1.out, Bool.false_eq_true, if_false, if_true]
 have HR := Lib.hid hr
 clear hr
 rw [HR.out]
 clear HR
 go_enter Tryz.func152, Tryz.ntmps152
 go_wp2_with fail
 refine (where_any _ pb sz s hp0).mono ?_
 rintro e w' ⟨rfl, rfl⟩
 have hb1 := below_new (w.alloc (.cells #[.int .i64 0, .int .i64 0, .string ⟨#[]⟩, .string ⟨#[]⟩, .int .i64 0, .slice none 0 0, .slice none 0 0, .int .i64 0, .string ⟨#[]⟩, .int .i64 0, .slice none 0 0, .slice none 0 0, .int .i64 0, .slice none 0 0, .int .i64 0, .int .i64 0, .string ⟨#[]⟩, .int .i64 0, .slice none 0 0, .slice none 0 0, .int .i64 0] 33)) (.cells #[.int .i64 1] 3)
 have hS2 : Il ((w.alloc (.cells #[.int .i64 0, .int .i64 0, .string ⟨#[]⟩, .string ⟨#[]⟩, .int .i64 0, .slice none 0 0, .slice none 0 0, .int .i64 0, .string ⟨#[]⟩, .int .i64 0, .slice none 0 0, .slice none 0 0, .int .i64 0, .slice none 0 0, .int .i64 0, .int .i64 0, .string ⟨#[]⟩, .int .i64 0, .slice none 0 0, .slice none 0 0, .int .i64 0] 33)).alloc (.cells #[.int .i64 1] 3)) (.slice (some ⟨w.heap.size + 1, 0, none⟩) 1 1) [1] := Il.new [1] (by simp) (by simp) 1 1 rfl rfl
 have hi3 := isOf_any _ [1] _ pb sz s (hp0.below hb1) hS2
 rw [H0.out] at hi3
 have HI4 := Lib.hid hi3
 clear hi3 hS2
 go_wp2_with fail
 refine HI4.out.mono ?_
 rintro e w' ⟨rfl, rfl⟩
 have l5 := l0.later hb1
 have hk6 := hk0.below hb1 hk0.size
 have hp7 := hp0.below hb1
 clear l0 hk0 hp0
 have hb8 := below_new (((w.alloc (.cells #[.int .i64 0, .int .i64 0, .string ⟨#[]⟩, .string ⟨#[]⟩, .int .i64 0, .slice none 0 0, .slice none 0 0, .int .i64 0, .string ⟨#[]⟩, .int .i64 0, .slice none 0 0, .slice none 0 0, .int .i64 0, .slice none 0 0, .int .i64 0, .int .i64 0, .string ⟨#[]⟩, .int .i64 0, .slice none 0 0, .slice none 0 0, .int .i64 0] 33)).alloc (.cells #[.int .i64 1] 3))) (.cells #[.string (ba tTrue)] 9)
 have hS9 : Sl ((((w.alloc (.cells #[.int .i64 0, .int .i64 0, .string ⟨#[]⟩, .string ⟨#[]⟩, .int .i64 0, .slice none 0 0, .slice none 0 0, .int .i64 0, .string ⟨#[]⟩, .int .i64 0, .slice none 0 0, .slice none 0 0, .int .i64 0, .slice none 0 0, .int .i64 0, .int .i64 0, .string ⟨#[]⟩, .int .i64 0, .slice none 0 0, .slice none 0 0, .int .i64 0] 33)).alloc (.cells #[.int .i64 1] 3))).alloc (.cells #[.string (ba tTrue)] 9)) (.slice (some ⟨w.heap.size + 1 + 1, 0, none⟩) 1 1) [tTrue] := Sl.new [tTrue] (by simp) (by simp) 1 1 rfl rfl
 have hi10 := takeIf_yes _ [tTrue] _ pb sz s (hp7.below hb8) hS9 H1.out
 have HI11 := Lib.hid hi10
 clear hi10 hS9
 go_wp2_with fail
 refine HI11.out.mono ?_
 rintro e w15 ⟨rfl, hb16⟩
 have l12 := hb16.kp.lies (l5.later hb8) (by omega)
 have hk13 := (hk6.below hb8 hk6.size).trans hb16.kp
 have hp14 := hb16.pa
 go_wp2_with (first | (refine wpList_store_rowTo rfl 33 (.tmp 2) (.tmp 29) rfl rfl _ _ rfl rfl 33 _ l12 sz39 rfl (by kernel_rfl) ?_))
 refine bodyPost_ret (v := .tuple #[.agg (tmC 3 (whr sz s) [] [] 1 (.slice none 0 0) (.slice none 0 0)).toArray, .bool true]) (results_cell_tmp rfl _ _ w.heap.size 33 (tmC 3 (whr sz s) [] [] 1 (.slice none 0 0) (.slice none 0 0)).toArray (0, 0) _ _ rfl rfl (l12.setRow _) Tryz.underlying33 rfl sz39) rfl ?_
 exact ⟨tmC 3 (whr sz s) [] [] 1 (.slice none 0 0) (.slice none 0 0), true, rfl, rfl, HT.leaf _ _ 3 (whr sz s) [] [] 1, hp14.setRow hplt _, hk13.setRow (Nat.le_refl _) _⟩

set_option maxRecDepth 100000 in
set_option maxHeartbeats 1000000 in
theorem atom_2 (ex : St → Tm × St) (pb sz n : Nat) (_hxn : Nice ex) (_hx : ExOK ex pb sz n) (_hnb : n ≤ 2000000) (w : World) (s : St) (hp : PA w pb sz s) (_hn : s.ws.length ≤ n) (H0 : Hid (isOf [1] s = false)) (H1 : Hid (isT [tTrue] s = false)) (H2 : Hid (isT [tFalse] s = true)) :
  Calls Tryz.prog 152 #[.pointer (some ⟨pb, 0, none⟩)] w (AtomEnd pb sz w (atom sz ex s)) := by
 have hplt := hp.lt
 have l0 := Lies.new w 33 zC
 have hp0 := hp.alloc (.cells zC 33)
 have hk0 := (Kp.refl pb w).alloc (.cells zC 33)
 unfold zC at l0 hp0 hk0
 have hr : atom sz ex s = (some (.mk 3 (whr sz s) [] [] 0 [] []), take s) := by unfold atom; simp only [H0.out, H1.out, H2.out, Bool.false_eq_true, if_false, if_true]
 have HR := Lib.hid hr
 clear hr
 rw [HR.out]
 clear HR
 go_enter Tryz.func152, Tryz.ntmps152
 go_wp2_with fail
 refine (where_any _ pb sz s hp0).mono ?_
 rintro e w' ⟨rfl, rfl⟩
 have hb1 := below_new (w.alloc (.cells #[.int .i64 0, .int .i64 0, .string ⟨#[]⟩, .string ⟨#[]⟩, .int .i64 0, .slice none 0 0, .slice none 0 0, .int .i64 0, .string ⟨#[]⟩, .int .i64 0, .slice none 0 0, .slice none 0 0, .int .i64 0, .slice none 0 0, .int .i64 0, .int .i64 0, .string ⟨#[]⟩, .int .i64 0, .slice none 0 0, .slice none 0 0, .int .i64 0] 33)) (.cells #[.int .i64 1] 3)
 have hS2 : Il ((w.alloc (.cells #[.int .i64 0, .int .i64 0, .string ⟨#[]⟩, .string ⟨#[]⟩, .int .i64 0, .slice none 0 0, .slice none 0 0, .int .i64 0, .string ⟨#[]⟩, .int .i64 0, .slice none 0 0, .slice none 0 0, .int .i64 0, .slice none 0 0, .int .i64 0, .int .i64 0, .string ⟨#[]⟩, .int .i64 0, .slice none 0 0, .slice none 0 0, .int .i64 0] 33)).alloc (.cells #[.int .i64 1] 3)) (.slice (some ⟨w.heap.size + 1, 0, none⟩) 1 1) [1] := Il.new [1] (by simp) (by simp) 1 1 rfl rfl
 have hi3 := isOf_any _ [1] _ pb sz s (hp0.below hb1) hS2
 rw [H0.out] at hi3
 have HI4 := Lib.hid hi3
 clear hi3 hS2
 go_wp2_with fail
 refine HI4.out.mono ?_
 rintro e w' ⟨rfl, rfl⟩
 have l5 := l0.later hb1
 have hk6 := hk0.below hb1 hk0.size
 have hp7 := hp0.below hb1
 clear l0 hk0 hp0
 have hb8 := below_new (((w.alloc (.cells #[.int .i64 0, .int .i64 0, .string ⟨#[]⟩, .string ⟨#[]⟩, .int .i64 0, .slice none 0 0, .slice none 0 0, .int .i64 0, .string ⟨#[]⟩, .int .i64 0, .slice none 0 0, .slice none 0 0, .int .i64 0, .slice none 0 0, .int .i64 0, .int .i64 0, .string ⟨#[]⟩, .int .i64 0, .slice none 0 0, .slice none 0 0, .int .i64 0] 33)).alloc (.cells #[.int .i64 1] 3))) (.cells #[.string (ba tTrue)] 9)
 have hS9 : Sl ((((w.alloc (.cells #[.int .i64 0, .int .i64 0, .string ⟨#[]⟩, .string ⟨#[]⟩, .int .i64 0, .slice none 0 0, .slice none 0 0, .int .i64 0, .string ⟨#[]⟩, .int .i64 0, .slice none 0 0, .slice none 0 0, .int .i64 0, .slice none 0 0, .int .i64 0, .int .i64 0, .string ⟨#[]⟩, .int .i64 0, .slice none 0 0, .slice none 0 0, .int .i64 0] 33)).alloc (.cells #[.int .i64 1] 3))).alloc (.cells #[.string (ba tTrue)] 9)) (.slice (some ⟨w.heap.size + 1 + 1, 0, none⟩) 1 1) [tTrue] := Sl.new [tTrue] (by simp) (by simp) 1 1 rfl rfl
 have hi10 := takeIf_no _ [tTrue] _ pb sz s (hp7.below hb8) hS9 H1.out
 have HI11 := Lib.hid hi10
 clear hi10 hS9
 go_wp2_with fail
 refine HI11.out.mono ?_
 rintro e w15 ⟨rfl, hb16⟩
 have l12 := (l5.later hb8).later hb16
 have hk13 := (hk6.below hb8 hk6.size).below hb16 (Nat.le_trans hk6.size hb8.size)
 have hp14 := (hp7.below hb8).below hb16
 have hb17 := below_new (w15) (.cells #[.string (ba tFalse)] 9)
 have hS18 : Sl ((w15).alloc (.cells #[.string (ba tFalse)] 9)) (.slice (some ⟨w15.heap.size, 0, none⟩) 1 1) [tFalse] := Sl.new [tFalse] (by simp) (by simp) 1 1 rfl rfl
 have hi19 := takeIf_yes _ [tFalse] _ pb sz s (hp14.below hb17) hS18 H2.out
 have HI20 := Lib.hid hi19
 clear hi19 hS18
 go_wp2_with fail
 refine HI20.out.mono ?_
 rintro e w24 ⟨rfl, hb25⟩
 have l21 := hb25.kp.lies (l12.later hb17) (by omega)
 have hk22 := (hk13.below hb17 hk13.size).trans hb25.kp
 have hp23 := hb25.pa
 go_wp2_with (first | (refine wpList_store_rowTo rfl 33 (.tmp 2) (.tmp 37) rfl rfl _ _ rfl rfl 33 _ l21 sz39 rfl (by kernel_rfl) ?_))
 refine bodyPost_ret (v := .tuple #[.agg (tmC 3 (whr sz s) [] [] 0 (.slice none 0 0) (.slice none 0 0)).toArray, .bool true]) (results_cell_tmp rfl _ _ w.heap.size 33 (tmC 3 (whr sz s) [] [] 0 (.slice none 0 0) (.slice none 0 0)).toArray (0, 0) _ _ rfl rfl (l21.setRow _) Tryz.underlying33 rfl sz39) rfl ?_
 exact ⟨tmC 3 (whr sz s) [] [] 0 (.slice none 0 0) (.slice none 0 0), true, rfl, rfl, HT.leaf _ _ 3 (whr sz s) [] [] 0, hp23.setRow hplt _, hk22.setRow (Nat.le_refl _) _⟩

set_option maxRecDepth 100000 in
set_option maxHeartbeats 1000000 in
theorem atom_3 (ex : St → Tm × St) (pb sz n : Nat) (_hxn : Nice ex) (_hx : ExOK ex pb sz n) (_hnb : n ≤ 2000000) (w : World) (s : St) (hp : PA w pb sz s) (_hn : s.ws.length ≤ n) (H0 : Hid (isOf [1] s = false)) (H1 : Hid (isT [tTrue] s = false)) (H2 : Hid (isT [tFalse] s = false)) (H3 : Hid (isOf [2] s = true)) :
  Calls Tryz.prog 152 #[.pointer (some ⟨pb, 0, none⟩)] w (AtomEnd pb sz w (atom sz ex s)) := by
 have hplt := hp.lt
 have l0 := Lies.new w 33 zC
 have hp0 := hp.alloc (.cells zC 33)
 have hk0 := (Kp.refl pb w).alloc (.cells zC 33)
 unfold zC at l0 hp0 hk0
 have hr : atom sz ex s = (some (.mk 1 (whr sz s) (hd s).t [] 0 [] []), take s) := by unfold atom; simp only [H0.out, H1.out, H2.out, H3.out, Bool.false_eq_true, if_false, if_true]
 obtain ⟨x, r, hw⟩ := ws_cons (isOf_pos H3.out)
 rw [hd_cons hw] at hr
 have HW := Lib.hid hw
 clear hw
 have HR := Lib.hid hr
 clear hr
 rw [HR.out]
 clear HR
 go_enter Tryz.func152, Tryz.ntmps152
 go_wp2_with fail
 refine (where_any _ pb sz s hp0).mono ?_
 rintro e w' ⟨rfl, rfl⟩
 have hb1 := below_new (w.alloc (.cells #[.int .i64 0, .int .i64 0, .string ⟨#[]⟩, .string ⟨#[]⟩, .int .i64 0, .slice none 0 0, .slice none 0 0, .int .i64 0, .string ⟨#[]⟩, .int .i64 0, .slice none 0 0, .slice none 0 0, .int .i64 0, .slice none 0 0, .int .i64 0, .int .i64 0, .string ⟨#[]⟩, .int .i64 0, .slice none 0 0, .slice none 0 0, .int .i64 0] 33)) (.cells #[.int .i64 1] 3)
 have hS2 : Il ((w.alloc (.cells #[.int .i64 0, .int .i64 0, .string ⟨#[]⟩, .string ⟨#[]⟩, .int .i64 0, .slice none 0 0, .slice none 0 0, .int .i64 0, .string ⟨#[]⟩, .int .i64 0, .slice none 0 0, .slice none 0 0, .int .i64 0, .slice none 0 0, .int .i64 0, .int .i64 0, .string ⟨#[]⟩, .int .i64 0, .slice none 0 0, .slice none 0 0, .int .i64 0] 33)).alloc (.cells #[.int .i64 1] 3)) (.slice (some ⟨w.heap.size + 1, 0, none⟩) 1 1) [1] := Il.new [1] (by simp) (by simp) 1 1 rfl rfl
 have hi3 := isOf_any _ [1] _ pb sz s (hp0.below hb1) hS2
 rw [H0.out] at hi3
 have HI4 := Lib.hid hi3
 clear hi3 hS2
 go_wp2_with fail
 refine HI4.out.mono ?_
 rintro e w' ⟨rfl, rfl⟩
 have l5 := l0.later hb1
 have hk6 := hk0.below hb1 hk0.size
 have hp7 := hp0.below hb1
 clear l0 hk0 hp0
 have hb8 := below_new (((w.alloc (.cells #[.int .i64 0, .int .i64 0, .string ⟨#[]⟩, .string ⟨#[]⟩, .int .i64 0, .slice none 0 0, .slice none 0 0, .int .i64 0, .string ⟨#[]⟩, .int .i64 0, .slice none 0 0, .slice none 0 0, .int .i64 0, .slice none 0 0, .int .i64 0, .int .i64 0, .string ⟨#[]⟩, .int .i64 0, .slice none 0 0, .slice none 0 0, .int .i64 0] 33)).alloc (.cells #[.int .i64 1] 3))) (.cells #[.string (ba tTrue)] 9)
 have hS9 : Sl ((((w.alloc (.cells #[.int .i64 0, .int .i64 0, .string ⟨#[]⟩, .string ⟨#[]⟩, .int .i64 0, .slice none 0 0, .slice none 0 0, .int .i64 0, .string ⟨#[]⟩, .int .i64 0, .slice none 0 0, .slice none 0 0, .int .i64 0, .slice none 0 0, .int .i64 0, .int .i64 0, .string ⟨#[]⟩, .int .i64 0, .slice none 0 0, .slice none 0 0, .int .i64 0] 33)).alloc (.cells #[.int .i64 1] 3))).alloc (.cells #[.string (ba tTrue)] 9)) (.slice (some ⟨w.heap.size + 1 + 1, 0, none⟩) 1 1) [tTrue] := Sl.new [tTrue] (by simp) (by simp) 1 1 rfl rfl
 have hi10 := takeIf_no _ [tTrue] _ pb sz s (hp7.below hb8) hS9 H1.out
 have HI11 := Lib.hid hi10
 clear hi10 hS9
 go_wp2_with fail
 refine HI11.out.mono ?_
 rintro e w15 ⟨rfl, hb16⟩
 have l12 := (l5.later hb8).later hb16
 have hk13 := (hk6.below hb8 hk6.size).below hb16 (Nat.le_trans hk6.size hb8.size)
 have hp14 := (hp7.below hb8).below hb16
 have hb17 := below_new (w15) (.cells #[.string (ba tFalse)] 9)
 have hS18 : Sl ((w15).alloc (.cells #[.string (ba tFalse)] 9)) (.slice (some ⟨w15.heap.size, 0, none⟩) 1 1) [tFalse] := Sl.new [tFalse] (by simp) (by simp) 1 1 rfl rfl
 have hi19 := takeIf_no _ [tFalse] _ pb sz s (hp14.below hb17) hS18 H2.out
 have HI20 := Lib.hid hi19
 clear hi19 hS18
 go_wp2_with fail
 refine HI20.out.mono ?_
 rintro e w24 ⟨rfl, hb25⟩
 have l21 := (l12.later hb17).later hb25
 have hk22 := (hk13.below hb17 hk13.size).below hb25 (Nat.le_trans hk13.size hb17.size)
 have hp23 := (hp14.below hb17).below hb25
 have hb26 := below_new (w24) (.cells #[.int .i64 2] 3)
 have hS27 : Il ((w24).alloc (.cells #[.int .i64 2] 3)) (.slice (some ⟨w24.heap.size, 0, none⟩) 1 1) [2] := Il.new [2] (by simp) (by simp) 1 1 rfl rfl
 have hi28 := isOf_any _ [2] _ pb sz s (hp23.below hb26) hS27
 rw [H3.out] at hi28
 have HI29 := Lib.hid hi28
 clear hi28 hS27
 go_wp2_with fail
 refine HI29.out.mono ?_
 rintro e w' ⟨rfl, rfl⟩
 have l30 := l21.later hb26
 have hk31 := hk22.below hb26 hk22.size
 have hp32 := hp23.below hb26
 clear l21 hk22 hp23
 have hfl1 := tok_field1
 have hfl2 := tok_field2
 go_wp2_with fail
 refine (take_any _ pb sz s hp32 x r HW.out).mono ?_
 rintro e wt ⟨rfl, hgt⟩
 unfold tkV
 have lt := hgt.kp.lies l30 (by omega)
 have kt := hk31.trans hgt.kp
 go_wp2_with (first | (refine wpList_store_rowTo rfl 33 (.tmp 2) (.tmp 50) rfl rfl _ _ rfl rfl 33 _ lt sz39 rfl (by kernel_rfl) ?_))
 refine bodyPost_ret (v := .tuple #[.agg (tmC 1 (whr sz s) x.t [] 0 (.slice none 0 0) (.slice none 0 0)).toArray, .bool true]) (results_cell_tmp rfl _ _ w.heap.size 33 (tmC 1 (whr sz s) x.t [] 0 (.slice none 0 0) (.slice none 0 0)).toArray (0, 0) _ _ rfl rfl (lt.setRow _) Tryz.underlying33 rfl sz39) rfl ?_
 exact ⟨tmC 1 (whr sz s) x.t [] 0 (.slice none 0 0) (.slice none 0 0), true, rfl, rfl, HT.leaf _ _ 1 (whr sz s) x.t [] 0, hgt.pa.setRow hplt _, kt.setRow (Nat.le_refl _) _⟩

set_option maxRecDepth 100000 in
set_option maxHeartbeats 1000000 in
theorem atom_4 (ex : St → Tm × St) (pb sz n : Nat) (hxn : Nice ex) (hx : ExOK ex pb sz n) (hnb : n ≤ 2000000) (w : World) (s : St) (hp : PA w pb sz s) (hn : s.ws.length ≤ n) (H0 : Hid (isOf [1] s = false)) (H1 : Hid (isT [tTrue] s = false)) (H2 : Hid (isT [tFalse] s = false)) (H3 : Hid (isOf [2] s = false)) (H4 : Hid (isOf [3] s = true)) :
  Calls Tryz.prog 152 #[.pointer (some ⟨pb, 0, none⟩)] w (AtomEnd pb sz w (atom sz ex s)) := by
 have hplt := hp.lt
 have l0 := Lies.new w 33 zC
 have hp0 := hp.alloc (.cells zC 33)
 have hk0 := (Kp.refl pb w).alloc (.cells zC 33)
 unfold zC at l0 hp0 hk0
 have hr : atom sz ex s = (some (.mk 11 (whr sz s) (hd s).t [] 0 (fields sz ex (take s)).1 []), (fields sz ex (take s)).2) := by unfold atom; simp only [H0.out, H1.out, H2.out, H3.out, H4.out, Bool.false_eq_true, if_false, if_true]
 obtain ⟨x, r, hw⟩ := ws_cons (isOf_pos H4.out)
 rw [hd_cons hw] at hr
 have HW := Lib.hid hw
 clear hw
 have HR := Lib.hid hr
 clear hr
 rw [HR.out]
 clear HR
 go_enter Tryz.func152, Tryz.ntmps152
 go_wp2_with fail
 refine (where_any _ pb sz s hp0).mono ?_
 rintro e w' ⟨rfl, rfl⟩
 have hb1 := below_new (w.alloc (.cells #[.int .i64 0, .int .i64 0, .string ⟨#[]⟩, .string ⟨#[]⟩, .int .i64 0, .slice none 0 0, .slice none 0 0, .int .i64 0, .string ⟨#[]⟩, .int .i64 0, .slice none 0 0, .slice none 0 0, .int .i64 0, .slice none 0 0, .int .i64 0, .int .i64 0, .string ⟨#[]⟩, .int .i64 0, .slice none 0 0, .slice none 0 0, .int .i64 0] 33)) (.cells #[.int .i64 1] 3)
 have hS2 : Il ((w.alloc (.cells #[.int .i64 0, .int .i64 0, .string ⟨#[]⟩, .string ⟨#[]⟩, .int .i64 0, .slice none 0 0, .slice none 0 0, .int .i64 0, .string ⟨#[]⟩, .int .i64 0, .slice none 0 0, .slice none 0 0, .int .i64 0, .slice none 0 0, .int .i64 0, .int .i64 0, .string ⟨#[]⟩, .int .i64 0, .slice none 0 0, .slice none 0 0, .int .i64 0] 33)).alloc (.cells #[.int .i64 1] 3)) (.slice (some ⟨w.heap.size + 1, 0, none⟩) 1 1) [1] := Il.new [1] (by simp) (by simp) 1 1 rfl rfl
 have hi3 := isOf_any _ [1] _ pb sz s (hp0.below hb1) hS2
 rw [H0.out] at hi3
 have HI4 := Lib.hid hi3
 clear hi3 hS2
 go_wp2_with fail
 refine HI4.out.mono ?_
 rintro e w' ⟨rfl, rfl⟩
 have l5 := l0.later hb1
 have hk6 := hk0.below hb1 hk0.size
 have hp7 := hp0.below hb1
 clear l0 hk0 hp0
 have hb8 := below_new (((w.alloc (.cells #[.int .i64 0, .int .i64 0, .string ⟨#[]⟩, .string ⟨#[]⟩, .int .i64 0, .slice none 0 0, .slice none 0 0, .int .i64 0, .string ⟨#[]⟩, .int .i64 0, .slice none 0 0, .slice none 0 0, .int .i64 0, .slice none 0 0, .int .i64 0, .int .i64 0, .string ⟨#[]⟩, .int .i64 0, .slice none 0 0, .slice none 0 0, .int .i64 0] 33)).alloc (.cells #[.int .i64 1] 3))) (.cells #[.string (ba tTrue)] 9)
 have hS9 : Sl ((((w.alloc (.cells #[.int .i64 0, .int .i64 0, .string ⟨#[]⟩, .string ⟨#[]⟩, .int .i64 0, .slice none 0 0, .slice none 0 0, .int .i64 0, .string ⟨#[]⟩, .int .i64 0, .slice none 0 0, .slice none 0 0, .int .i64 0, .slice none 0 0, .int .i64 0, .int .i64 0, .string ⟨#[]⟩, .int .i64 0, .slice none 0 0, .slice none 0 0, .int .i64 0] 33)).alloc (.cells #[.int .i64 1] 3))).alloc (.cells #[.string (ba tTrue)] 9)) (.slice (some ⟨w.heap.size + 1 + 1, 0, none⟩) 1 1) [tTrue] := Sl.new [tTrue] (by simp) (by simp) 1 1 rfl rfl
 have hi10 := takeIf_no _ [tTrue] _ pb sz s (hp7.below hb8) hS9 H1.out
 have HI11 := Lib.hid hi10
 clear hi10 hS9
 go_wp2_with fail
 refine HI11.out.mono ?_
 rintro e w15 ⟨rfl, hb16⟩
 have l12 := (l5.later hb8).later hb16
 have hk13 := (hk6.below hb8 hk6.size).below hb16 (Nat.le_trans hk6.size hb8.size)
 have hp14 := (hp7.below hb8).below hb16
 have hb17 := below_new (w15) (.cells #[.string (ba tFalse)] 9)
 have hS18 : Sl ((w15).alloc (.cells #[.string (ba tFalse)] 9)) (.slice (some ⟨w15.heap.size, 0, none⟩) 1 1) [tFalse] := Sl.new [tFalse] (by simp) (by simp) 1 1 rfl rfl
 have hi19 := takeIf_no _ [tFalse] _ pb sz s (hp14.below hb17) hS18 H2.out
 have HI20 := Lib.hid hi19
 clear hi19 hS18
 go_wp2_with fail
 refine HI20.out.mono ?_
 rintro e w24 ⟨rfl, hb25⟩
 have l21 := (l12.later hb17).later hb25
 have hk22 := (hk13.below hb17 hk13.size).below hb25 (Nat.le_trans hk13.size hb17.size)
 have hp23 := (hp14.below hb17).below hb25
 have hb26 := below_new (w24) (.cells #[.int .i64 2] 3)
 have hS27 : Il ((w24).alloc (.cells #[.int .i64 2] 3)) (.slice (some ⟨w24.heap.size, 0, none⟩) 1 1) [2] := Il.new [2] (by simp) (by simp) 1 1 rfl rfl
 have hi28 := isOf_any _ [2] _ pb sz s (hp23.below hb26) hS27
 rw [H3.out] at hi28
 have HI29 := Lib.hid hi28
 clear hi28 hS27
 go_wp2_with fail
 refine HI29.out.mono ?_
 rintro e w' ⟨rfl, rfl⟩
 have l30 := l21.later hb26
 have hk31 := hk22.below hb26 hk22.size
 have hp32 := hp23.below hb26
 clear l21 hk22 hp23
 have hb33 := below_new (((w24).alloc (.cells #[.int .i64 2] 3))) (.cells #[.int .i64 3] 3)
 have hS34 : Il ((((w24).alloc (.cells #[.int .i64 2] 3))).alloc (.cells #[.int .i64 3] 3)) (.slice (some ⟨w24.heap.size + 1, 0, none⟩) 1 1) [3] := Il.new [3] (by simp) (by simp) 1 1 rfl rfl
 have hi35 := isOf_any _ [3] _ pb sz s (hp32.below hb33) hS34
 rw [H4.out] at hi35
 have HI36 := Lib.hid hi35
 clear hi35 hS34
 go_wp2_with fail
 refine HI36.out.mono ?_
 rintro e w' ⟨rfl, rfl⟩
 have l37 := l30.later hb33
 have hk38 := hk31.below hb33 hk31.size
 have hp39 := hp32.below hb33
 clear l30 hk31 hp32
 have hfl1 := tok_field1
 have hfl2 := tok_field2
 go_wp2_with fail
 refine (take_any _ pb sz s hp39 x r HW.out).mono ?_
 rintro e wt ⟨rfl, hgt⟩
 unfold tkV
 have lt := hgt.kp.lies l37 (by omega)
 have kt := hk38.trans hgt.kp
 have hln : (take s).ws.length ≤ n := by have := (le_take s).1; omega
 go_wp2_with fail
 refine (fields_any ex pb sz n hxn hx hnb wt (take s) hgt.pa hln).mono ?_
 rintro e wf ⟨v, rfl, hA, hgf⟩
 have lf := hgf.kp.lies lt (by omega)
 have kf := kt.trans hgf.kp
 obtain ⟨A, n1, c1, rfl⟩ := hA.slice
 have hsz : w.heap.size + 1 ≤ wt.heap.size := by have := kt.size; have := lt.lt; omega
 go_wp2_with (first | (refine wpList_store_rowTo rfl 33 (.tmp 2) (.tmp 65) rfl rfl _ _ rfl rfl 33 _ lf sz39 rfl (by kernel_rfl) ?_))
 refine bodyPost_ret (v := .tuple #[.agg (tmC 11 (whr sz s) x.t [] 0 (.slice A n1 c1) (.slice none 0 0)).toArray, .bool true]) (results_cell_tmp rfl _ _ w.heap.size 33 (tmC 11 (whr sz s) x.t [] 0 (.slice A n1 c1) (.slice none 0 0)).toArray (0, 0) _ _ rfl rfl (lf.setRow _) Tryz.underlying33 rfl sz39) rfl ?_
 exact ⟨tmC 11 (whr sz s) x.t [] 0 (.slice A n1 c1) (.slice none 0 0), true, rfl, rfl, HT.mono (HT.setRow (HT.of_acc 11 (whr sz s) x.t [] 0 hA (Acc.nil _ _)) (fun g (hg : wt.heap.size ≤ g) => by omega) _) (fun g (hg : wt.heap.size ≤ g) _ => by omega), hgf.pa.setRow hplt _, kf.setRow (Nat.le_refl _) _⟩

set_option maxRecDepth 100000 in
set_option maxHeartbeats 1000000 in
theorem atom_5 (ex : St → Tm × St) (pb sz n : Nat) (_hxn : Nice ex) (_hx : ExOK ex pb sz n) (_hnb : n ≤ 2000000) (w : World) (s : St) (hp : PA w pb sz s) (_hn : s.ws.length ≤ n) (H0 : Hid (isOf [1] s = false)) (H1 : Hid (isT [tTrue] s = false)) (H2 : Hid (isT [tFalse] s = false)) (H3 : Hid (isOf [2] s = false)) (H4 : Hid (isOf [3] s = false)) (H5 : Hid (isT [tRead] s = true)) :
  Calls Tryz.prog 152 #[.pointer (some ⟨pb, 0, none⟩)] w (AtomEnd pb sz w (atom sz ex s)) := by
 have hplt := hp.lt
 have l0 := Lies.new w 33 zC
 have hp0 := hp.alloc (.cells zC 33)
 have hk0 := (Kp.refl pb w).alloc (.cells zC 33)
 unfold zC at l0 hp0 hk0
 have hr : atom sz ex s = (some (.mk 10 (whr sz s) tRead [] 0 [] []), must sz [tOpen, tShut] (take s)) := by unfold atom; simp only [H0.out, H1.out, H2.out, H3.out, H4.out, H5.out, Bool.false_eq_true, if_false, if_true]
 have HR := Lib.hid hr
 clear hr
 rw [HR.out]
 clear HR
 go_enter Tryz.func152, Tryz.ntmps152
 go_wp2_with fail
 refine (where_any _ pb sz s hp0).mono ?_
 rintro e w' ⟨rfl, rfl⟩
 have hb1 := below_new (w.alloc (.cells #[.int .i64 0, .int .i64 0, .string ⟨#[]⟩, .string ⟨#[]⟩, .int .i64 0, .slice none 0 0, .slice none 0 0, .int .i64 0, .string ⟨#[]⟩, .int .i64 0, .slice none 0 0, .slice none 0 0, .int .i64 0, .slice none 0 0, .int .i64 0, .int .i64 0, .string ⟨#[]⟩, .int .i64 0, .slice none 0 0, .slice none 0 0, .int .i64 0] 33)) (.cells #[.int .i64 1] 3)
 have hS2 : Il ((w.alloc (.cells #[.int .i64 0, .int .i64 0, .string ⟨#[]⟩, .string ⟨#[]⟩, .int .i64 0, .slice none 0 0, .slice none 0 0, .int .i64 0, .string ⟨#[]⟩, .int .i64 0, .slice none 0 0, .slice none 0 0, .int .i64 0, .slice none 0 0, .int .i64 0, .int .i64 0, .string ⟨#[]⟩, .int .i64 0, .slice none 0 0, .slice none 0 0, .int .i64 0] 33)).alloc (.cells #[.int .i64 1] 3)) (.slice (some ⟨w.heap.size + 1, 0, none⟩) 1 1) [1] := Il.new [1] (by simp) (by simp) 1 1 rfl rfl
 have hi3 := isOf_any _ [1] _ pb sz s (hp0.below hb1) hS2
 rw [H0.out] at hi3
 have HI4 := Lib.hid hi3
 clear hi3 hS2
 go_wp2_with fail
 refine HI4.out.mono ?_
 rintro e w' ⟨rfl, rfl⟩
 have l5 := l0.later hb1
 have hk6 := hk0.below hb1 hk0.size
 have hp7 := hp0.below hb1
 clear l0 hk0 hp0
 have hb8 := below_new (((w.alloc (.cells #[.int .i64 0, .int .i64 0, .string ⟨#[]⟩, .string ⟨#[]⟩, .int .i64 0, .slice none 0 0, .slice none 0 0, .int .i64 0, .string ⟨#[]⟩, .int .i64 0, .slice none 0 0, .slice none 0 0, .int .i64 0, .slice none 0 0, .int .i64 0, .int .i64 0, .string ⟨#[]⟩, .int .i64 0, .slice none 0 0, .slice none 0 0, .int .i64 0] 33)).alloc (.cells #[.int .i64 1] 3))) (.cells #[.string (ba tTrue)] 9)
 have hS9 : Sl ((((w.alloc (.cells #[.int .i64 0, .int .i64 0, .string ⟨#[]⟩, .string ⟨#[]⟩, .int .i64 0, .slice none 0 0, .slice none 0 0, .int .i64 0, .string ⟨#[]⟩, .int .i64 0, .slice none 0 0, .slice none 0 0, .int .i64 0, .slice none 0 0, .int .i64 0, .int .i64 0, .string ⟨#[]⟩, .int .i64 0, .slice none 0 0, .slice none 0 0, .int .i64 0] 33)).alloc (.cells #[.int .i64 1] 3))).alloc (.cells #[.string (ba tTrue)] 9)) (.slice (some ⟨w.heap.size + 1 + 1, 0, none⟩) 1 1) [tTrue] := Sl.new [tTrue] (by simp) (by simp) 1 1 rfl rfl
 have hi10 := takeIf_no _ [tTrue] _ pb sz s (hp7.below hb8) hS9 H1.out
 have HI11 := Lib.hid hi10
 clear hi10 hS9
 go_wp2_with fail
 refine HI11.out.mono ?_
 rintro e w15 ⟨rfl, hb16⟩
 have l12 := (l5.later hb8).later hb16
 have hk13 := (hk6.below hb8 hk6.size).below hb16 (Nat.le_trans hk6.size hb8.size)
 have hp14 := (hp7.below hb8).below hb16
 have hb17 := below_new (w15) (.cells #[.string (ba tFalse)] 9)
 have hS18 : Sl ((w15).alloc (.cells #[.string (ba tFalse)] 9)) (.slice (some ⟨w15.heap.size, 0, none⟩) 1 1) [tFalse] := Sl.new [tFalse] (by simp) (by simp) 1 1 rfl rfl
 have hi19 := takeIf_no _ [tFalse] _ pb sz s (hp14.below hb17) hS18 H2.out
 have HI20 := Lib.hid hi19
 clear hi19 hS18
 go_wp2_with fail
 refine HI20.out.mono ?_
 rintro e w24 ⟨rfl, hb25⟩
 have l21 := (l12.later hb17).later hb25
 have hk22 := (hk13.below hb17 hk13.size).below hb25 (Nat.le_trans hk13.size hb17.size)
 have hp23 := (hp14.below hb17).below hb25
 have hb26 := below_new (w24) (.cells #[.int .i64 2] 3)
 have hS27 : Il ((w24).alloc (.cells #[.int .i64 2] 3)) (.slice (some ⟨w24.heap.size, 0, none⟩) 1 1) [2] := Il.new [2] (by simp) (by simp) 1 1 rfl rfl
 have hi28 := isOf_any _ [2] _ pb sz s (hp23.below hb26) hS27
 rw [H3.out] at hi28
 have HI29 := Lib.hid hi28
 clear hi28 hS27
 go_wp2_with fail
 refine HI29.out.mono ?_
 rintro e w' ⟨rfl, rfl⟩
 have l30 := l21.later hb26
 have hk31 := hk22.below hb26 hk22.size
 have hp32 := hp23.below hb26
 clear l21 hk22 hp23
 have hb33 := below_new (((w24).alloc (.cells #[.int .i64 2] 3))) (.cells #[.int .i64 3] 3)
 have hS34 : Il ((((w24).alloc (.cells #[.int .i64 2] 3))).alloc (.cells #[.int .i64 3] 3)) (.slice (some ⟨w24.heap.size + 1, 0, none⟩) 1 1) [3] := Il.new [3] (by simp) (by simp) 1 1 rfl rfl
 have hi35 := isOf_any _ [3] _ pb sz s (hp32.below hb33) hS34
 rw [H4.out] at hi35
 have HI36 := Lib.hid hi35
 clear hi35 hS34
 go_wp2_with fail
 refine HI36.out.mono ?_
 rintro e w' ⟨rfl, rfl⟩
 have l37 := l30.later hb33
 have hk38 := hk31.below hb33 hk31.size
 have hp39 := hp32.below hb33
 clear l30 hk31 hp32
 have hb40 := below_new (((((w24).alloc (.cells #[.int .i64 2] 3))).alloc (.cells #[.int .i64 3] 3))) (.cells #[.string (ba tRead)] 9)
 have hS41 : Sl ((((((w24).alloc (.cells #[.int .i64 2] 3))).alloc (.cells #[.int .i64 3] 3))).alloc (.cells #[.string (ba tRead)] 9)) (.slice (some ⟨w24.heap.size + 1 + 1, 0, none⟩) 1 1) [tRead] := Sl.new [tRead] (by simp) (by simp) 1 1 rfl rfl
 have hi42 := takeIf_yes _ [tRead] _ pb sz s (hp39.below hb40) hS41 H5.out
 have HI43 := Lib.hid hi42
 clear hi42 hS41
 go_wp2_with fail
 refine HI43.out.mono ?_
 rintro e w47 ⟨rfl, hb48⟩
 have l44 := hb48.kp.lies (l37.later hb40) (by omega)
 have hk45 := (hk38.below hb40 hk38.size).trans hb48.kp
 have hp46 := hb48.pa
 have hbm := below_new w47 (.cells #[.string (ba tOpen), .string (ba tShut)] 9)
 have hSm : Sl (w47.alloc (.cells #[.string (ba tOpen), .string (ba tShut)] 9)) (.slice (some ⟨w47.heap.size, 0, none⟩) 2 2) [tOpen, tShut] := Sl.new [tOpen, tShut] rfl (by simp) 2 2 rfl rfl
 have hmm := must_any _ [tOpen, tShut] _ pb sz (take s) (hp46.below hbm) hSm (Off.new hp46.lt)
 have HMM := Lib.hid hmm
 clear hmm hSm
 go_wp2_with fail
 refine HMM.out.mono ?_
 rintro e wm ⟨rfl, hgm⟩
 have lm := hgm.kp.lies (l44.later hbm) (by omega)
 have km := (hk45.below hbm hk45.size).trans hgm.kp
 go_wp2_with (first | (refine wpList_store_rowTo rfl 33 (.tmp 2) (.tmp 76) rfl rfl _ _ rfl rfl 33 _ lm sz39 rfl (by kernel_rfl) ?_))
 refine bodyPost_ret (v := .tuple #[.agg (tmC 10 (whr sz s) tRead [] 0 (.slice none 0 0) (.slice none 0 0)).toArray, .bool true]) (results_cell_tmp rfl _ _ w.heap.size 33 (tmC 10 (whr sz s) tRead [] 0 (.slice none 0 0) (.slice none 0 0)).toArray (0, 0) _ _ rfl rfl (lm.setRow _) Tryz.underlying33 rfl sz39) rfl ?_
 exact ⟨tmC 10 (whr sz s) tRead [] 0 (.slice none 0 0) (.slice none 0 0), true, rfl, rfl, HT.leaf _ _ 10 (whr sz s) tRead [] 0, hgm.pa.setRow hplt _, km.setRow (Nat.le_refl _) _⟩

set_option maxRecDepth 100000 in
set_option maxHeartbeats 1000000 in
theorem atom_6 (ex : St → Tm × St) (pb sz n : Nat) (_hxn : Nice ex) (hx : ExOK ex pb sz n) (_hnb : n ≤ 2000000) (w : World) (s : St) (hp : PA w pb sz s) (hn : s.ws.length ≤ n) (H0 : Hid (isOf [1] s = false)) (H1 : Hid (isT [tTrue] s = false)) (H2 : Hid (isT [tFalse] s = false)) (H3 : Hid (isOf [2] s = false)) (H4 : Hid (isOf [3] s = false)) (H5 : Hid (isT [tRead] s = false)) (H6 : Hid (isT [tOpen] s = true)) :
  Calls Tryz.prog 152 #[.pointer (some ⟨pb, 0, none⟩)] w (AtomEnd pb sz w (atom sz ex s)) := by
 have hplt := hp.lt
 have l0 := Lies.new w 33 zC
 have hp0 := hp.alloc (.cells zC 33)
 have hk0 := (Kp.refl pb w).alloc (.cells zC 33)
 unfold zC at l0 hp0 hk0
 have hr : atom sz ex s = (some (bracketed sz ex (whr sz s) (take s)).1, (bracketed sz ex (whr sz s) (take s)).2) := by unfold atom; simp only [H0.out, H1.out, H2.out, H3.out, H4.out, H5.out, H6.out, Bool.false_eq_true, if_false, if_true]
 have HR := Lib.hid hr
 clear hr
 rw [HR.out]
 clear HR
 go_enter Tryz.func152, Tryz.ntmps152
 go_wp2_with fail
 refine (where_any _ pb sz s hp0).mono ?_
 rintro e w' ⟨rfl, rfl⟩
 have hb1 := below_new (w.alloc (.cells #[.int .i64 0, .int .i64 0, .string ⟨#[]⟩, .string ⟨#[]⟩, .int .i64 0, .slice none 0 0, .slice none 0 0, .int .i64 0, .string ⟨#[]⟩, .int .i64 0, .slice none 0 0, .slice none 0 0, .int .i64 0, .slice none 0 0, .int .i64 0, .int .i64 0, .string ⟨#[]⟩, .int .i64 0, .slice none 0 0, .slice none 0 0, .int .i64 0] 33)) (.cells #[.int .i64 1] 3)
 have hS2 : Il ((w.alloc (.cells #[.int .i64 0, .int .i64 0, .string ⟨#[]⟩, .string ⟨#[]⟩, .int .i64 0, .slice none 0 0, .slice none 0 0, .int .i64 0, .string ⟨#[]⟩, .int .i64 0, .slice none 0 0, .slice none 0 0, .int .i64 0, .slice none 0 0, .int .i64 0, .int .i64 0, .string ⟨#[]⟩, .int .i64 0, .slice none 0 0, .slice none 0 0, .int .i64 0] 33)).alloc (.cells #[.int .i64 1] 3)) (.slice (some ⟨w.heap.size + 1, 0, none⟩) 1 1) [1] := Il.new [1] (by simp) (by simp) 1 1 rfl rfl
 have hi3 := isOf_any _ [1] _ pb sz s (hp0.below hb1) hS2
 rw [H0.out] at hi3
 have HI4 := Lib.hid hi3
 clear hi3 hS2
 go_wp2_with fail
 refine HI4.out.mono ?_
 rintro e w' ⟨rfl, rfl⟩
 have l5 := l0.later hb1
 have hk6 := hk0.below hb1 hk0.size
 have hp7 := hp0.below hb1
 clear l0 hk0 hp0
 have hb8 := below_new (((w.alloc (.cells #[.int .i64 0, .int .i64 0, .string ⟨#[]⟩, .string ⟨#[]⟩, .int .i64 0, .slice none 0 0, .slice none 0 0, .int .i64 0, .string ⟨#[]⟩, .int .i64 0, .slice none 0 0, .slice none 0 0, .int .i64 0, .slice none 0 0, .int .i64 0, .int .i64 0, .string ⟨#[]⟩, .int .i64 0, .slice none 0 0, .slice none 0 0, .int .i64 0] 33)).alloc (.cells #[.int .i64 1] 3))) (.cells #[.string (ba tTrue)] 9)
 have hS9 : Sl ((((w.alloc (.cells #[.int .i64 0, .int .i64 0, .string ⟨#[]⟩, .string ⟨#[]⟩, .int .i64 0, .slice none 0 0, .slice none 0 0, .int .i64 0, .string ⟨#[]⟩, .int .i64 0, .slice none 0 0, .slice none 0 0, .int .i64 0, .slice none 0 0, .int .i64 0, .int .i64 0, .string ⟨#[]⟩, .int .i64 0, .slice none 0 0, .slice none 0 0, .int .i64 0] 33)).alloc (.cells #[.int .i64 1] 3))).alloc (.cells #[.string (ba tTrue)] 9)) (.slice (some ⟨w.heap.size + 1 + 1, 0, none⟩) 1 1) [tTrue] := Sl.new [tTrue] (by simp) (by simp) 1 1 rfl rfl
 have hi10 := takeIf_no _ [tTrue] _ pb sz s (hp7.below hb8) hS9 H1.out
 have HI11 := Lib.hid hi10
 clear hi10 hS9
 go_wp2_with fail
 refine HI11.out.mono ?_
 rintro e w15 ⟨rfl, hb16⟩
 have l12 := (l5.later hb8).later hb16
 have hk13 := (hk6.below hb8 hk6.size).below hb16 (Nat.le_trans hk6.size hb8.size)
 have hp14 := (hp7.below hb8).below hb16
 have hb17 := below_new (w15) (.cells #[.string (ba tFalse)] 9)
 have hS18 : Sl ((w15).alloc (.cells #[.string (ba tFalse)] 9)) (.slice (some ⟨w15.heap.size, 0, none⟩) 1 1) [tFalse] := Sl.new [tFalse] (by simp) (by simp) 1 1 rfl rfl
 have hi19 := takeIf_no _ [tFalse] _ pb sz s (hp14.below hb17) hS18 H2.out
 have HI20 := Lib.hid hi19
 clear hi19 hS18
 go_wp2_with fail
 refine HI20.out.mono ?_
 rintro e w24 ⟨rfl, hb25⟩
 have l21 := (l12.later hb17).later hb25
 have hk22 := (hk13.below hb17 hk13.size).below hb25 (Nat.le_trans hk13.size hb17.size)
 have hp23 := (hp14.below hb17).below hb25
 have hb26 := below_new (w24) (.cells #[.int .i64 2] 3)
 have hS27 : Il ((w24).alloc (.cells #[.int .i64 2] 3)) (.slice (some ⟨w24.heap.size, 0, none⟩) 1 1) [2] := Il.new [2] (by simp) (by simp) 1 1 rfl rfl
 have hi28 := isOf_any _ [2] _ pb sz s (hp23.below hb26) hS27
 rw [H3.out] at hi28
 have HI29 := Lib.hid hi28
 clear hi28 hS27
 go_wp2_with fail
 refine HI29.out.mono ?_
 rintro e w' ⟨rfl, rfl⟩
 have l30 := l21.later hb26
 have hk31 := hk22.below hb26 hk22.size
 have hp32 := hp23.below hb26
 clear l21 hk22 hp23
 have hb33 := below_new (((w24).alloc (.cells #[.int .i64 2] 3))) (.cells #[.int .i64 3] 3)
 have hS34 : Il ((((w24).alloc (.cells #[.int .i64 2] 3))).alloc (.cells #[.int .i64 3] 3)) (.slice (some ⟨w24.heap.size + 1, 0, none⟩) 1 1) [3] := Il.new [3] (by simp) (by simp) 1 1 rfl rfl
 have hi35 := isOf_any _ [3] _ pb sz s (hp32.below hb33) hS34
 rw [H4.out] at hi35
 have HI36 := Lib.hid hi35
 clear hi35 hS34
 go_wp2_with fail
 refine HI36.out.mono ?_
 rintro e w' ⟨rfl, rfl⟩
 have l37 := l30.later hb33
 have hk38 := hk31.below hb33 hk31.size
 have hp39 := hp32.below hb33
 clear l30 hk31 hp32
 have hb40 := below_new (((((w24).alloc (.cells #[.int .i64 2] 3))).alloc (.cells #[.int .i64 3] 3))) (.cells #[.string (ba tRead)] 9)
 have hS41 : Sl ((((((w24).alloc (.cells #[.int .i64 2] 3))).alloc (.cells #[.int .i64 3] 3))).alloc (.cells #[.string (ba tRead)] 9)) (.slice (some ⟨w24.heap.size + 1 + 1, 0, none⟩) 1 1) [tRead] := Sl.new [tRead] (by simp) (by simp) 1 1 rfl rfl
 have hi42 := takeIf_no _ [tRead] _ pb sz s (hp39.below hb40) hS41 H5.out
 have HI43 := Lib.hid hi42
 clear hi42 hS41
 go_wp2_with fail
 refine HI43.out.mono ?_
 rintro e w47 ⟨rfl, hb48⟩
 have l44 := (l37.later hb40).later hb48
 have hk45 := (hk38.below hb40 hk38.size).below hb48 (Nat.le_trans hk38.size hb40.size)
 have hp46 := (hp39.below hb40).below hb48
 have hb49 := below_new (w47) (.cells #[.string (ba tOpen)] 9)
 have hS50 : Sl ((w47).alloc (.cells #[.string (ba tOpen)] 9)) (.slice (some ⟨w47.heap.size, 0, none⟩) 1 1) [tOpen] := Sl.new [tOpen] (by simp) (by simp) 1 1 rfl rfl
 have hi51 := takeIf_yes _ [tOpen] _ pb sz s (hp46.below hb49) hS50 H6.out
 have HI52 := Lib.hid hi51
 clear hi51 hS50
 go_wp2_with fail
 refine HI52.out.mono ?_
 rintro e w56 ⟨rfl, hb57⟩
 have l53 := hb57.kp.lies (l44.later hb49) (by omega)
 have hk54 := (hk45.below hb49 hk45.size).trans hb57.kp
 have hp55 := hb57.pa
 have hpos := isT_pos H6.out
 have hln : (take s).ws.length < n := by have := take_lt hpos; omega
 have hsz : w.heap.size + 1 ≤ w56.heap.size := l53.lt
 go_wp2_with fail
 refine (bracketed_any ex pb sz n hx (whr sz s) w56 (take s) hp55 hln).mono ?_
 rintro e wb ⟨l, rfl, ht, hgb⟩
 have lb := hgb.kp.lies l53 (by omega)
 have kb := hk54.trans hgb.kp
 have hlen := ht.len
 have HLN := Lib.hid hlen
 clear hlen
 go_wp2_with (first | (refine wpList_store_rowTo rfl 33 (.tmp 2) (.tmp 85) rfl rfl _ _ rfl rfl 33 _ lb (by rw [sz39]; simp [HLN.out]) (by simp [HLN.out]) ht.one ?_))
 refine bodyPost_ret (v := .tuple #[.agg l.toArray, .bool true]) (results_cell_tmp rfl _ _ w.heap.size 33 l.toArray (0, 0) _ _ rfl rfl (lb.setRow _) Tryz.underlying33 rfl (by rw [sz39]; simp [HLN.out])) rfl ?_
 exact ⟨l, true, rfl, rfl, HT.mono (HT.setRow ht (fun g (hg : w56.heap.size ≤ g) => by omega) _) (fun g (hg : w56.heap.size ≤ g) _ => by omega), hgb.pa.setRow hplt _, kb.setRow (Nat.le_refl _) _⟩

set_option maxRecDepth 100000 in
set_option maxHeartbeats 1000000 in
theorem atom_7 (ex : St → Tm × St) (pb sz n : Nat) (_hxn : Nice ex) (_hx : ExOK ex pb sz n) (_hnb : n ≤ 2000000) (w : World) (s : St) (hp : PA w pb sz s) (_hn : s.ws.length ≤ n) (H0 : Hid (isOf [1] s = false)) (H1 : Hid (isT [tTrue] s = false)) (H2 : Hid (isT [tFalse] s = false)) (H3 : Hid (isOf [2] s = false)) (H4 : Hid (isOf [3] s = false)) (H5 : Hid (isT [tRead] s = false)) (H6 : Hid (isT [tOpen] s = false)) :
  Calls Tryz.prog 152 #[.pointer (some ⟨pb, 0, none⟩)] w (AtomEnd pb sz w (atom sz ex s)) := by
 have hplt := hp.lt
 have l0 := Lies.new w 33 zC
 have hp0 := hp.alloc (.cells zC 33)
 have hk0 := (Kp.refl pb w).alloc (.cells zC 33)
 unfold zC at l0 hp0 hk0
 have hr : atom sz ex s = ((none : Option Tm), s) := by unfold atom; simp only [H0.out, H1.out, H2.out, H3.out, H4.out, H5.out, H6.out, Bool.false_eq_true, if_false]
 have HR := Lib.hid hr
 clear hr
 rw [HR.out]
 clear HR
 go_enter Tryz.func152, Tryz.ntmps152
 go_wp2_with fail
 refine (where_any _ pb sz s hp0).mono ?_
 rintro e w' ⟨rfl, rfl⟩
 have hb1 := below_new (w.alloc (.cells #[.int .i64 0, .int .i64 0, .string ⟨#[]⟩, .string ⟨#[]⟩, .int .i64 0, .slice none 0 0, .slice none 0 0, .int .i64 0, .string ⟨#[]⟩, .int .i64 0, .slice none 0 0, .slice none 0 0, .int .i64 0, .slice none 0 0, .int .i64 0, .int .i64 0, .string ⟨#[]⟩, .int .i64 0, .slice none 0 0, .slice none 0 0, .int .i64 0] 33)) (.cells #[.int .i64 1] 3)
 have hS2 : Il ((w.alloc (.cells #[.int .i64 0, .int .i64 0, .string ⟨#[]⟩, .string ⟨#[]⟩, .int .i64 0, .slice none 0 0, .slice none 0 0, .int .i64 0, .string ⟨#[]⟩, .int .i64 0, .slice none 0 0, .slice none 0 0, .int .i64 0, .slice none 0 0, .int .i64 0, .int .i64 0, .string ⟨#[]⟩, .int .i64 0, .slice none 0 0, .slice none 0 0, .int .i64 0] 33)).alloc (.cells #[.int .i64 1] 3)) (.slice (some ⟨w.heap.size + 1, 0, none⟩) 1 1) [1] := Il.new [1] (by simp) (by simp) 1 1 rfl rfl
 have hi3 := isOf_any _ [1] _ pb sz s (hp0.below hb1) hS2
 rw [H0.out] at hi3
 have HI4 := Lib.hid hi3
 clear hi3 hS2
 go_wp2_with fail
 refine HI4.out.mono ?_
 rintro e w' ⟨rfl, rfl⟩
 have l5 := l0.later hb1
 have hk6 := hk0.below hb1 hk0.size
 have hp7 := hp0.below hb1
 clear l0 hk0 hp0
 have hb8 := below_new (((w.alloc (.cells #[.int .i64 0, .int .i64 0, .string ⟨#[]⟩, .string ⟨#[]⟩, .int .i64 0, .slice none 0 0, .slice none 0 0, .int .i64 0, .string ⟨#[]⟩, .int .i64 0, .slice none 0 0, .slice none 0 0, .int .i64 0, .slice none 0 0, .int .i64 0, .int .i64 0, .string ⟨#[]⟩, .int .i64 0, .slice none 0 0, .slice none 0 0, .int .i64 0] 33)).alloc (.cells #[.int .i64 1] 3))) (.cells #[.string (ba tTrue)] 9)
 have hS9 : Sl ((((w.alloc (.cells #[.int .i64 0, .int .i64 0, .string ⟨#[]⟩, .string ⟨#[]⟩, .int .i64 0, .slice none 0 0, .slice none 0 0, .int .i64 0, .string ⟨#[]⟩, .int .i64 0, .slice none 0 0, .slice none 0 0, .int .i64 0, .slice none 0 0, .int .i64 0, .int .i64 0, .string ⟨#[]⟩, .int .i64 0, .slice none 0 0, .slice none 0 0, .int .i64 0] 33)).alloc (.cells #[.int .i64 1] 3))).alloc (.cells #[.string (ba tTrue)] 9)) (.slice (some ⟨w.heap.size + 1 + 1, 0, none⟩) 1 1) [tTrue] := Sl.new [tTrue] (by simp) (by simp) 1 1 rfl rfl
 have hi10 := takeIf_no _ [tTrue] _ pb sz s (hp7.below hb8) hS9 H1.out
 have HI11 := Lib.hid hi10
 clear hi10 hS9
 go_wp2_with fail
 refine HI11.out.mono ?_
 rintro e w15 ⟨rfl, hb16⟩
 have l12 := (l5.later hb8).later hb16
 have hk13 := (hk6.below hb8 hk6.size).below hb16 (Nat.le_trans hk6.size hb8.size)
 have hp14 := (hp7.below hb8).below hb16
 have hb17 := below_new (w15) (.cells #[.string (ba tFalse)] 9)
 have hS18 : Sl ((w15).alloc (.cells #[.string (ba tFalse)] 9)) (.slice (some ⟨w15.heap.size, 0, none⟩) 1 1) [tFalse] := Sl.new [tFalse] (by simp) (by simp) 1 1 rfl rfl
 have hi19 := takeIf_no _ [tFalse] _ pb sz s (hp14.below hb17) hS18 H2.out
 have HI20 := Lib.hid hi19
 clear hi19 hS18
 go_wp2_with fail
 refine HI20.out.mono ?_
 rintro e w24 ⟨rfl, hb25⟩
 have l21 := (l12.later hb17).later hb25
 have hk22 := (hk13.below hb17 hk13.size).below hb25 (Nat.le_trans hk13.size hb17.size)
 have hp23 := (hp14.below hb17).below hb25
 have hb26 := below_new (w24) (.cells #[.int .i64 2] 3)
 have hS27 : Il ((w24).alloc (.cells #[.int .i64 2] 3)) (.slice (some ⟨w24.heap.size, 0, none⟩) 1 1) [2] := Il.new [2] (by simp) (by simp) 1 1 rfl rfl
 have hi28 := isOf_any _ [2] _ pb sz s (hp23.below hb26) hS27
 rw [H3.out] at hi28
 have HI29 := Lib.hid hi28
 clear hi28 hS27
 go_wp2_with fail
 refine HI29.out.mono ?_
 rintro e w' ⟨rfl, rfl⟩
 have l30 := l21.later hb26
 have hk31 := hk22.below hb26 hk22.size
 have hp32 := hp23.below hb26
 clear l21 hk22 hp23
 have hb33 := below_new (((w24).alloc (.cells #[.int .i64 2] 3))) (.cells #[.int .i64 3] 3)
 have hS34 : Il ((((w24).alloc (.cells #[.int .i64 2] 3))).alloc (.cells #[.int .i64 3] 3)) (.slice (some ⟨w24.heap.size + 1, 0, none⟩) 1 1) [3] := Il.new [3] (by simp) (by simp) 1 1 rfl rfl
 have hi35 := isOf_any _ [3] _ pb sz s (hp32.below hb33) hS34
 rw [H4.out] at hi35
 have HI36 := Lib.hid hi35
 clear hi35 hS34
 go_wp2_with fail
 refine HI36.out.mono ?_
 rintro e w' ⟨rfl, rfl⟩
 have l37 := l30.later hb33
 have hk38 := hk31.below hb33 hk31.size
 have hp39 := hp32.below hb33
 clear l30 hk31 hp32
 have hb40 := below_new (((((w24).alloc (.cells #[.int .i64 2] 3))).alloc (.cells #[.int .i64 3] 3))) (.cells #[.string (ba tRead)] 9)
 have hS41 : Sl ((((((w24).alloc (.cells #[.int .i64 2] 3))).alloc (.cells #[.int .i64 3] 3))).alloc (.cells #[.string (ba tRead)] 9)) (.slice (some ⟨w24.heap.size + 1 + 1, 0, none⟩) 1 1) [tRead] := Sl.new [tRead] (by simp) (by simp) 1 1 rfl rfl
 have hi42 := takeIf_no _ [tRead] _ pb sz s (hp39.below hb40) hS41 H5.out
 have HI43 := Lib.hid hi42
 clear hi42 hS41
 go_wp2_with fail
 refine HI43.out.mono ?_
 rintro e w47 ⟨rfl, hb48⟩
 have l44 := (l37.later hb40).later hb48
 have hk45 := (hk38.below hb40 hk38.size).below hb48 (Nat.le_trans hk38.size hb40.size)
 have hp46 := (hp39.below hb40).below hb48
 have hb49 := below_new (w47) (.cells #[.string (ba tOpen)] 9)
 have hS50 : Sl ((w47).alloc (.cells #[.string (ba tOpen)] 9)) (.slice (some ⟨w47.heap.size, 0, none⟩) 1 1) [tOpen] := Sl.new [tOpen] (by simp) (by simp) 1 1 rfl rfl
 have hi51 := takeIf_no _ [tOpen] _ pb sz s (hp46.below hb49) hS50 H6.out
 have HI52 := Lib.hid hi51
 clear hi51 hS50
 go_wp2_with fail
 refine HI52.out.mono ?_
 rintro e w56 ⟨rfl, hb57⟩
 have l53 := (l44.later hb49).later hb57
 have hk54 := (hk45.below hb49 hk45.size).below hb57 (Nat.le_trans hk45.size hb49.size)
 have hp55 := (hp46.below hb49).below hb57
 go_wp2_with (first | (refine wpList_store_rowTo rfl 33 (.tmp 2) (.tmp 86) rfl rfl _ _ rfl rfl 33 _ l53 sz39 rfl (by kernel_rfl) ?_))
 refine bodyPost_ret (v := .tuple #[.agg (tmC 0 0 [] [] 0 (.slice none 0 0) (.slice none 0 0)).toArray, .bool false]) (results_cell_tmp rfl _ _ w.heap.size 33 (tmC 0 0 [] [] 0 (.slice none 0 0) (.slice none 0 0)).toArray (0, 0) _ _ rfl rfl (l53.setRow _) Tryz.underlying33 rfl sz39) rfl ?_
 exact ⟨_, _, rfl, rfl, HT.leaf _ _ 0 0 [] [] 0, hp55.setRow hplt _, hk54.setRow (Nat.le_refl _) _⟩
end Go.Proofs.YtmodmojocclmaaaGreatDoor
