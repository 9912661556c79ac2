/- The contract of what reads an expr that is no deeper than it may be. -/
import Derived.Test.YtmodmojocclmaaaGreatDoorPv
import Derived.Outline
namespace Go.Proofs.YtmodmojocclmaaaGreatDoor
open Go.RowKit Pz

def WaysOK (ex : St → Tm × St) (pb sz n : Nat) : Prop := ∀ (w : World) (s : St), PA w pb sz s → s.ws.length < n → Calls Tryz.prog 105 #[.pointer (some ⟨pb, 0, none⟩)] w (ListEnd ArmIt 35 23 pb sz w (Pz.ways sz ex s))
def ClausesOK (ex : St → Tm × St) (pb sz n : Nat) : Prop := ∀ (w : World) (s : St), PA w pb sz s → s.ws.length < n → Calls Tryz.prog 106 #[.pointer (some ⟨pb, 0, none⟩)] w (ListEnd ArmIt 35 23 pb sz w (clauses sz ex s))
theorem Acc.one {w : World} {lo : Nat} {t : Tm} {l : List Value} (ht : HT w (fun k => lo ≤ k) t l) (hlo : lo ≤ w.heap.size) : Acc TmIt 33 21 (w.alloc (.cells l.toArray 33)) lo [t] (.slice (some ⟨w.heap.size, 0, none⟩) 1 1) := by
 have hr := Rw.lit w (fun k => lo ≤ k) 33 21 [l] (by simpa using ht.len) rfl hlo (n := 1) rfl (by unfold maxLen; omega)
 have e : [l].flatten = l := by simp
 rw [e] at hr
 refine ⟨[l], rfl, by have h2 : OwnP _ _ _ _ _ _ _ := hr.2; rw [e] at h2; rw [e]; exact h2, fun i a m ha hm => ?_⟩
 match i, ha, hm with
 | 0, ha, hm =>
  simp at ha hm
  subst ha hm
  refine HT.mono (ht.lt.later (below_new _ _)) (fun k hk _ => ⟨hk.1, ?_⟩)
  intro he
  have : k = w.heap.size := by injection he
  have := hk.2
  omega
 | i + 1, ha, _ => simp at ha

set_option maxRecDepth 100000 in
set_option maxHeartbeats 2000000 in
theorem here_0 (ex : St → Tm × St) (pb sz n : Nat) (hxn : Nice ex) (hx : ExOK ex pb sz n) (_hways : WaysOK ex pb sz n) (_hcl : ClausesOK ex pb sz n) (_hassign : SideOK 107 (assign sz ex) pb sz n) (w : World) (s : St) (hp : PA w pb sz s) (hn : s.ws.length ≤ n)  (H0 : Hid (isT [tFun] s = true)) :
  Calls Tryz.prog 80 #[.pointer (some ⟨pb, 0, none⟩)] w (TermEnd pb sz (fun g => w.heap.size ≤ g) w (exprHere sz ex s)) := by
 have hplt := hp.lt
 have l0 := Lies.new w 33 zC
 have hp0 := hp.alloc (.cells zC 33)
 have hk0 := (Kp.refl pb w).alloc (.cells zC 33)
 unfold zC at l0 hp0 hk0
 have hr : exprHere sz ex s = (.mk 5 (whr sz s) (name sz [2] (take s)).1 [] 0 (behind sz ex [tArrow] (name sz [2] (take s)).2).1 [], (behind sz ex [tArrow] (name sz [2] (take s)).2).2) := by unfold exprHere; simp only [H0.out, if_true]
 have HR := Lib.hid hr
 clear hr
 rw [HR.out]
 clear HR
 have hpos := isT_pos H0.out
 have htl := take_lt hpos
 go_enter Tryz.func80, Tryz.ntmps80
 go_wp2_with fail
 refine (where_any _ pb sz s hp0).mono ?_
 rintro e w' ⟨rfl, rfl⟩
 have hb1 := below_new (w.alloc (.cells #[.int .i64 0, .int .i64 0, .string ⟨#[]⟩, .string ⟨#[]⟩, .int .i64 0, .slice none 0 0, .slice none 0 0, .int .i64 0, .string ⟨#[]⟩, .int .i64 0, .slice none 0 0, .slice none 0 0, .int .i64 0, .slice none 0 0, .int .i64 0, .int .i64 0, .string ⟨#[]⟩, .int .i64 0, .slice none 0 0, .slice none 0 0, .int .i64 0] 33)) (.cells #[.string (ba tFun)] 9)
 have hS2 : Sl ((w.alloc (.cells #[.int .i64 0, .int .i64 0, .string ⟨#[]⟩, .string ⟨#[]⟩, .int .i64 0, .slice none 0 0, .slice none 0 0, .int .i64 0, .string ⟨#[]⟩, .int .i64 0, .slice none 0 0, .slice none 0 0, .int .i64 0, .slice none 0 0, .int .i64 0, .int .i64 0, .string ⟨#[]⟩, .int .i64 0, .slice none 0 0, .slice none 0 0, .int .i64 0] 33)).alloc (.cells #[.string (ba tFun)] 9)) (.slice (some ⟨w.heap.size + 1, 0, none⟩) 1 1) [tFun] := Sl.new [tFun] (by simp) (by simp) 1 1 rfl rfl
 have hi3 := takeIf_yes _ [tFun] _ pb sz s (hp0.below hb1) hS2 H0.out
 have HI4 := Lib.hid hi3
 clear hi3 hS2
 go_wp2_with fail
 refine HI4.out.mono ?_
 rintro e w8 ⟨rfl, hb9⟩
 have l5 := hb9.kp.lies (l0.later hb1) (by omega)
 have hk6 := (hk0.below hb1 hk0.size).trans hb9.kp
 have hp7 := hb9.pa
 go_wp2_with fail
 refine (small_any _ pb sz (take s) hp7).mono ?_
 rintro e w11 ⟨rfl, hg10⟩
 have l12 := hg10.kp.lies l5 (by omega)
 have hk13 := hk6.trans hg10.kp
 have hb14 := below_new (w11) (.cells #[.string (ba tArrow)] 9)
 have hS15 : Sl ((w11).alloc (.cells #[.string (ba tArrow)] 9)) (.slice (some ⟨w11.heap.size, 0, none⟩) 1 1) [tArrow] := Sl.new [tArrow] (by simp) (by simp) 1 1 rfl rfl
 have hbd : ∀ t, [tArrow][0]? = some t → (must1 sz t ((name sz [2] (take s)).2)).ws.length < n := by
  intro t ht
  simp at ht
  subst ht
  have h1 := (le_must1 sz tArrow (name sz [2] (take s)).2).1; have h2 := (nice_name sz [2] (take s)).1; omega
 have hi16 := behind_any ex pb sz n hxn hx _ ((name sz [2] (take s)).2) (hg10.pa.below hb14) _ [tArrow] hS15 (Off.new (by have := l12.lt; omega)) hbd
 have HI17 := Lib.hid hi16
 clear hi16 hS15 hbd
 have hszb : w.heap.size + 1 ≤ (w11).heap.size := l12.lt
 go_wp2_with fail
 refine HI17.out.mono ?_
 rintro e w18 ⟨v23, rfl, hA22, hg19⟩
 have l20 := hg19.kp.lies (l12.later hb14) (by omega)
 have hk21 := (hk13.below hb14 hk13.size).trans hg19.kp
 have hszb2 := hb14.size
 have hA24 := hA22.low tmOK (lo' := w.heap.size + 1) (by omega)
 obtain ⟨Ak, nk, ck, rfl⟩ := hA24.slice
 go_wp2_with (first | (refine wpList_store_rowTo rfl 33 (.tmp 2) (.tmp 20) rfl rfl _ _ rfl rfl 33 _ l20 sz39 rfl (by kernel_rfl) ?_))
 refine bodyPost_ret (v := .agg (tmC 5 (whr sz s) (name sz [2] (take s)).1 [] 0 (.slice Ak nk ck) (.slice none 0 0)).toArray) (results_cell_row rfl _ _ w.heap.size 33 (tmC 5 (whr sz s) (name sz [2] (take s)).1 [] 0 (.slice Ak nk ck) (.slice none 0 0)).toArray (0, 0) _ rfl (l20.setRow _) Tryz.underlying33 rfl sz39) rfl ?_
 exact ⟨tmC 5 (whr sz s) (name sz [2] (take s)).1 [] 0 (.slice Ak nk ck) (.slice none 0 0), rfl, HT.mono (HT.setRow (HT.of_acc 5 (whr sz s) (name sz [2] (take s)).1 [] 0 hA24 (Acc.nil _ _)) (fun g (hg : w.heap.size + 1 ≤ g) => by omega) _) (fun g (hg : w.heap.size + 1 ≤ g) _ => by omega), hg19.pa.setRow hplt _, hk21.setRow (Nat.le_refl _) _⟩

set_option maxRecDepth 100000 in
set_option maxHeartbeats 2000000 in
theorem here_1 (ex : St → Tm × St) (pb sz n : Nat) (hxn : Nice ex) (hx : ExOK ex pb sz n) (_hways : WaysOK ex pb sz n) (_hcl : ClausesOK ex pb sz n) (_hassign : SideOK 107 (assign sz ex) pb sz n) (w : World) (s : St) (hp : PA w pb sz s) (hn : s.ws.length ≤ n) (H0 : Hid (isT [tFun] s = false)) (H1 : Hid (isT [tLet] s = true)) :
  Calls Tryz.prog 80 #[.pointer (some ⟨pb, 0, none⟩)] w (TermEnd pb sz (fun g => w.heap.size ≤ g) w (exprHere sz ex s)) := by
 have hplt := hp.lt
 have l0 := Lies.new w 33 zC
 have hp0 := hp.alloc (.cells zC 33)
 have hk0 := (Kp.refl pb w).alloc (.cells zC 33)
 unfold zC at l0 hp0 hk0
 have hr : exprHere sz ex s = (.mk 7 (whr sz s) (name sz [2] (take s)).1 [] 0 (behind sz ex [tEq, tIn] (name sz [2] (take s)).2).1 [], (behind sz ex [tEq, tIn] (name sz [2] (take s)).2).2) := by unfold exprHere; simp only [H0.out, H1.out, Bool.false_eq_true, if_false, if_true]
 have HR := Lib.hid hr
 clear hr
 rw [HR.out]
 clear HR
 have hpos := isT_pos H1.out
 have htl := take_lt hpos
 go_enter Tryz.func80, Tryz.ntmps80
 go_wp2_with fail
 refine (where_any _ pb sz s hp0).mono ?_
 rintro e w' ⟨rfl, rfl⟩
 have hb1 := below_new (w.alloc (.cells #[.int .i64 0, .int .i64 0, .string ⟨#[]⟩, .string ⟨#[]⟩, .int .i64 0, .slice none 0 0, .slice none 0 0, .int .i64 0, .string ⟨#[]⟩, .int .i64 0, .slice none 0 0, .slice none 0 0, .int .i64 0, .slice none 0 0, .int .i64 0, .int .i64 0, .string ⟨#[]⟩, .int .i64 0, .slice none 0 0, .slice none 0 0, .int .i64 0] 33)) (.cells #[.string (ba tFun)] 9)
 have hS2 : Sl ((w.alloc (.cells #[.int .i64 0, .int .i64 0, .string ⟨#[]⟩, .string ⟨#[]⟩, .int .i64 0, .slice none 0 0, .slice none 0 0, .int .i64 0, .string ⟨#[]⟩, .int .i64 0, .slice none 0 0, .slice none 0 0, .int .i64 0, .slice none 0 0, .int .i64 0, .int .i64 0, .string ⟨#[]⟩, .int .i64 0, .slice none 0 0, .slice none 0 0, .int .i64 0] 33)).alloc (.cells #[.string (ba tFun)] 9)) (.slice (some ⟨w.heap.size + 1, 0, none⟩) 1 1) [tFun] := Sl.new [tFun] (by simp) (by simp) 1 1 rfl rfl
 have hi3 := takeIf_no _ [tFun] _ pb sz s (hp0.below hb1) hS2 H0.out
 have HI4 := Lib.hid hi3
 clear hi3 hS2
 go_wp2_with fail
 refine HI4.out.mono ?_
 rintro e w8 ⟨rfl, hb9⟩
 have l5 := (l0.later hb1).later hb9
 have hk6 := (hk0.below hb1 hk0.size).below hb9 (Nat.le_trans hk0.size hb1.size)
 have hp7 := (hp0.below hb1).below hb9
 have hb10 := below_new (w8) (.cells #[.string (ba tLet)] 9)
 have hS11 : Sl ((w8).alloc (.cells #[.string (ba tLet)] 9)) (.slice (some ⟨w8.heap.size, 0, none⟩) 1 1) [tLet] := Sl.new [tLet] (by simp) (by simp) 1 1 rfl rfl
 have hi12 := takeIf_yes _ [tLet] _ pb sz s (hp7.below hb10) hS11 H1.out
 have HI13 := Lib.hid hi12
 clear hi12 hS11
 go_wp2_with fail
 refine HI13.out.mono ?_
 rintro e w17 ⟨rfl, hb18⟩
 have l14 := hb18.kp.lies (l5.later hb10) (by omega)
 have hk15 := (hk6.below hb10 hk6.size).trans hb18.kp
 have hp16 := hb18.pa
 go_wp2_with fail
 refine (small_any _ pb sz (take s) hp16).mono ?_
 rintro e w20 ⟨rfl, hg19⟩
 have l21 := hg19.kp.lies l14 (by omega)
 have hk22 := hk15.trans hg19.kp
 have hb23 := below_new (w20) (.cells #[.string (ba tEq), .string (ba tIn)] 9)
 have hS24 : Sl ((w20).alloc (.cells #[.string (ba tEq), .string (ba tIn)] 9)) (.slice (some ⟨w20.heap.size, 0, none⟩) 2 2) [tEq, tIn] := Sl.new [tEq, tIn] (by simp) (by simp) 2 2 rfl rfl
 have hbd : ∀ t, [tEq, tIn][0]? = some t → (must1 sz t ((name sz [2] (take s)).2)).ws.length < n := by
  intro t ht
  simp at ht
  subst ht
  have h1 := (le_must1 sz tEq (name sz [2] (take s)).2).1; have h2 := (nice_name sz [2] (take s)).1; omega
 have hi25 := behind_any ex pb sz n hxn hx _ ((name sz [2] (take s)).2) (hg19.pa.below hb23) _ [tEq, tIn] hS24 (Off.new (by have := l21.lt; omega)) hbd
 have HI26 := Lib.hid hi25
 clear hi25 hS24 hbd
 have hszb : w.heap.size + 1 ≤ (w20).heap.size := l21.lt
 go_wp2_with fail
 refine HI26.out.mono ?_
 rintro e w27 ⟨v32, rfl, hA31, hg28⟩
 have l29 := hg28.kp.lies (l21.later hb23) (by omega)
 have hk30 := (hk22.below hb23 hk22.size).trans hg28.kp
 have hszb2 := hb23.size
 have hA33 := hA31.low tmOK (lo' := w.heap.size + 1) (by omega)
 obtain ⟨Ak, nk, ck, rfl⟩ := hA33.slice
 go_wp2_with (first | (refine wpList_store_rowTo rfl 33 (.tmp 2) (.tmp 33) rfl rfl _ _ rfl rfl 33 _ l29 sz39 rfl (by kernel_rfl) ?_))
 refine bodyPost_ret (v := .agg (tmC 7 (whr sz s) (name sz [2] (take s)).1 [] 0 (.slice Ak nk ck) (.slice none 0 0)).toArray) (results_cell_row rfl _ _ w.heap.size 33 (tmC 7 (whr sz s) (name sz [2] (take s)).1 [] 0 (.slice Ak nk ck) (.slice none 0 0)).toArray (0, 0) _ rfl (l29.setRow _) Tryz.underlying33 rfl sz39) rfl ?_
 exact ⟨tmC 7 (whr sz s) (name sz [2] (take s)).1 [] 0 (.slice Ak nk ck) (.slice none 0 0), rfl, HT.mono (HT.setRow (HT.of_acc 7 (whr sz s) (name sz [2] (take s)).1 [] 0 hA33 (Acc.nil _ _)) (fun g (hg : w.heap.size + 1 ≤ g) => by omega) _) (fun g (hg : w.heap.size + 1 ≤ g) _ => by omega), hg28.pa.setRow hplt _, hk30.setRow (Nat.le_refl _) _⟩

set_option maxRecDepth 100000 in
set_option maxHeartbeats 2000000 in
theorem here_2 (ex : St → Tm × St) (pb sz n : Nat) (hxn : Nice ex) (hx : ExOK ex pb sz n) (_hways : WaysOK ex pb sz n) (_hcl : ClausesOK ex pb sz n) (_hassign : SideOK 107 (assign sz ex) pb sz n) (w : World) (s : St) (hp : PA w pb sz s) (hn : s.ws.length ≤ n) (H0 : Hid (isT [tFun] s = false)) (H1 : Hid (isT [tLet] s = false)) (H2 : Hid (isT [tRec] s = true)) :
  Calls Tryz.prog 80 #[.pointer (some ⟨pb, 0, none⟩)] w (TermEnd pb sz (fun g => w.heap.size ≤ g) w (exprHere sz ex s)) := by
 have hplt := hp.lt
 have l0 := Lies.new w 33 zC
 have hp0 := hp.alloc (.cells zC 33)
 have hk0 := (Kp.refl pb w).alloc (.cells zC 33)
 unfold zC at l0 hp0 hk0
 have hr : exprHere sz ex s = (.mk 8 (whr sz s) (name sz [2] (take s)).1 (name sz [2] (name sz [2] (take s)).2).1 0 (behind sz ex [tEq, tIn] (name sz [2] (name sz [2] (take s)).2).2).1 [], (behind sz ex [tEq, tIn] (name sz [2] (name sz [2] (take s)).2).2).2) := by unfold exprHere; simp only [H0.out, H1.out, H2.out, Bool.false_eq_true, if_false, if_true]
 have HR := Lib.hid hr
 clear hr
 rw [HR.out]
 clear HR
 have hpos := isT_pos H2.out
 have htl := take_lt hpos
 go_enter Tryz.func80, Tryz.ntmps80
 go_wp2_with fail
 refine (where_any _ pb sz s hp0).mono ?_
 rintro e w' ⟨rfl, rfl⟩
 have hb1 := below_new (w.alloc (.cells #[.int .i64 0, .int .i64 0, .string ⟨#[]⟩, .string ⟨#[]⟩, .int .i64 0, .slice none 0 0, .slice none 0 0, .int .i64 0, .string ⟨#[]⟩, .int .i64 0, .slice none 0 0, .slice none 0 0, .int .i64 0, .slice none 0 0, .int .i64 0, .int .i64 0, .string ⟨#[]⟩, .int .i64 0, .slice none 0 0, .slice none 0 0, .int .i64 0] 33)) (.cells #[.string (ba tFun)] 9)
 have hS2 : Sl ((w.alloc (.cells #[.int .i64 0, .int .i64 0, .string ⟨#[]⟩, .string ⟨#[]⟩, .int .i64 0, .slice none 0 0, .slice none 0 0, .int .i64 0, .string ⟨#[]⟩, .int .i64 0, .slice none 0 0, .slice none 0 0, .int .i64 0, .slice none 0 0, .int .i64 0, .int .i64 0, .string ⟨#[]⟩, .int .i64 0, .slice none 0 0, .slice none 0 0, .int .i64 0] 33)).alloc (.cells #[.string (ba tFun)] 9)) (.slice (some ⟨w.heap.size + 1, 0, none⟩) 1 1) [tFun] := Sl.new [tFun] (by simp) (by simp) 1 1 rfl rfl
 have hi3 := takeIf_no _ [tFun] _ pb sz s (hp0.below hb1) hS2 H0.out
 have HI4 := Lib.hid hi3
 clear hi3 hS2
 go_wp2_with fail
 refine HI4.out.mono ?_
 rintro e w8 ⟨rfl, hb9⟩
 have l5 := (l0.later hb1).later hb9
 have hk6 := (hk0.below hb1 hk0.size).below hb9 (Nat.le_trans hk0.size hb1.size)
 have hp7 := (hp0.below hb1).below hb9
 have hb10 := below_new (w8) (.cells #[.string (ba tLet)] 9)
 have hS11 : Sl ((w8).alloc (.cells #[.string (ba tLet)] 9)) (.slice (some ⟨w8.heap.size, 0, none⟩) 1 1) [tLet] := Sl.new [tLet] (by simp) (by simp) 1 1 rfl rfl
 have hi12 := takeIf_no _ [tLet] _ pb sz s (hp7.below hb10) hS11 H1.out
 have HI13 := Lib.hid hi12
 clear hi12 hS11
 go_wp2_with fail
 refine HI13.out.mono ?_
 rintro e w17 ⟨rfl, hb18⟩
 have l14 := (l5.later hb10).later hb18
 have hk15 := (hk6.below hb10 hk6.size).below hb18 (Nat.le_trans hk6.size hb10.size)
 have hp16 := (hp7.below hb10).below hb18
 have hb19 := below_new (w17) (.cells #[.string (ba tRec)] 9)
 have hS20 : Sl ((w17).alloc (.cells #[.string (ba tRec)] 9)) (.slice (some ⟨w17.heap.size, 0, none⟩) 1 1) [tRec] := Sl.new [tRec] (by simp) (by simp) 1 1 rfl rfl
 have hi21 := takeIf_yes _ [tRec] _ pb sz s (hp16.below hb19) hS20 H2.out
 have HI22 := Lib.hid hi21
 clear hi21 hS20
 go_wp2_with fail
 refine HI22.out.mono ?_
 rintro e w26 ⟨rfl, hb27⟩
 have l23 := hb27.kp.lies (l14.later hb19) (by omega)
 have hk24 := (hk15.below hb19 hk15.size).trans hb27.kp
 have hp25 := hb27.pa
 go_wp2_with fail
 refine (small_any _ pb sz (take s) hp25).mono ?_
 rintro e w29 ⟨rfl, hg28⟩
 have l30 := hg28.kp.lies l23 (by omega)
 have hk31 := hk24.trans hg28.kp
 go_wp2_with fail
 refine (small_any _ pb sz ((name sz [2] (take s)).2) hg28.pa).mono ?_
 rintro e w33 ⟨rfl, hg32⟩
 have l34 := hg32.kp.lies l30 (by omega)
 have hk35 := hk31.trans hg32.kp
 have hb36 := below_new (w33) (.cells #[.string (ba tEq), .string (ba tIn)] 9)
 have hS37 : Sl ((w33).alloc (.cells #[.string (ba tEq), .string (ba tIn)] 9)) (.slice (some ⟨w33.heap.size, 0, none⟩) 2 2) [tEq, tIn] := Sl.new [tEq, tIn] (by simp) (by simp) 2 2 rfl rfl
 have hbd : ∀ t, [tEq, tIn][0]? = some t → (must1 sz t ((name sz [2] (name sz [2] (take s)).2).2)).ws.length < n := by
  intro t ht
  simp at ht
  subst ht
  have h1 := (le_must1 sz tEq (name sz [2] (name sz [2] (take s)).2).2).1; have h2 := (nice_name sz [2] (take s)).1; have h3 := (nice_name sz [2] (name sz [2] (take s)).2).1; omega
 have hi38 := behind_any ex pb sz n hxn hx _ ((name sz [2] (name sz [2] (take s)).2).2) (hg32.pa.below hb36) _ [tEq, tIn] hS37 (Off.new (by have := l34.lt; omega)) hbd
 have HI39 := Lib.hid hi38
 clear hi38 hS37 hbd
 have hszb : w.heap.size + 1 ≤ (w33).heap.size := l34.lt
 go_wp2_with fail
 refine HI39.out.mono ?_
 rintro e w40 ⟨v45, rfl, hA44, hg41⟩
 have l42 := hg41.kp.lies (l34.later hb36) (by omega)
 have hk43 := (hk35.below hb36 hk35.size).trans hg41.kp
 have hszb2 := hb36.size
 have hA46 := hA44.low tmOK (lo' := w.heap.size + 1) (by omega)
 obtain ⟨Ak, nk, ck, rfl⟩ := hA46.slice
 go_wp2_with (first | (refine wpList_store_rowTo rfl 33 (.tmp 2) (.tmp 48) rfl rfl _ _ rfl rfl 33 _ l42 sz39 rfl (by kernel_rfl) ?_))
 refine bodyPost_ret (v := .agg (tmC 8 (whr sz s) (name sz [2] (take s)).1 (name sz [2] (name sz [2] (take s)).2).1 0 (.slice Ak nk ck) (.slice none 0 0)).toArray) (results_cell_row rfl _ _ w.heap.size 33 (tmC 8 (whr sz s) (name sz [2] (take s)).1 (name sz [2] (name sz [2] (take s)).2).1 0 (.slice Ak nk ck) (.slice none 0 0)).toArray (0, 0) _ rfl (l42.setRow _) Tryz.underlying33 rfl sz39) rfl ?_
 exact ⟨tmC 8 (whr sz s) (name sz [2] (take s)).1 (name sz [2] (name sz [2] (take s)).2).1 0 (.slice Ak nk ck) (.slice none 0 0), rfl, HT.mono (HT.setRow (HT.of_acc 8 (whr sz s) (name sz [2] (take s)).1 (name sz [2] (name sz [2] (take s)).2).1 0 hA46 (Acc.nil _ _)) (fun g (hg : w.heap.size + 1 ≤ g) => by omega) _) (fun g (hg : w.heap.size + 1 ≤ g) _ => by omega), hg41.pa.setRow hplt _, hk43.setRow (Nat.le_refl _) _⟩

set_option maxRecDepth 100000 in
set_option maxHeartbeats 2000000 in
theorem here_3 (ex : St → Tm × St) (pb sz n : Nat) (hxn : Nice ex) (hx : ExOK ex pb sz n) (_hways : WaysOK ex pb sz n) (_hcl : ClausesOK ex pb sz n) (_hassign : SideOK 107 (assign sz ex) pb sz n) (w : World) (s : St) (hp : PA w pb sz s) (hn : s.ws.length ≤ n) (H0 : Hid (isT [tFun] s = false)) (H1 : Hid (isT [tLet] s = false)) (H2 : Hid (isT [tRec] s = false)) (H3 : Hid (isT [tIf] s = true)) :
  Calls Tryz.prog 80 #[.pointer (some ⟨pb, 0, none⟩)] w (TermEnd pb sz (fun g => w.heap.size ≤ g) w (exprHere sz ex s)) := by
 have hplt := hp.lt
 have l0 := Lies.new w 33 zC
 have hp0 := hp.alloc (.cells zC 33)
 have hk0 := (Kp.refl pb w).alloc (.cells zC 33)
 unfold zC at l0 hp0 hk0
 have hr : exprHere sz ex s = (.mk 9 (whr sz s) [] [] 0 (behind sz ex [tIf, tThen, tElse] s).1 [], (behind sz ex [tIf, tThen, tElse] s).2) := by unfold exprHere; simp only [H0.out, H1.out, H2.out, H3.out, Bool.false_eq_true, if_false, if_true]
 have HR := Lib.hid hr
 clear hr
 rw [HR.out]
 clear HR
 have hpos := isT_pos H3.out
 go_enter Tryz.func80, Tryz.ntmps80
 go_wp2_with fail
 refine (where_any _ pb sz s hp0).mono ?_
 rintro e w' ⟨rfl, rfl⟩
 have hb1 := below_new (w.alloc (.cells #[.int .i64 0, .int .i64 0, .string ⟨#[]⟩, .string ⟨#[]⟩, .int .i64 0, .slice none 0 0, .slice none 0 0, .int .i64 0, .string ⟨#[]⟩, .int .i64 0, .slice none 0 0, .slice none 0 0, .int .i64 0, .slice none 0 0, .int .i64 0, .int .i64 0, .string ⟨#[]⟩, .int .i64 0, .slice none 0 0, .slice none 0 0, .int .i64 0] 33)) (.cells #[.string (ba tFun)] 9)
 have hS2 : Sl ((w.alloc (.cells #[.int .i64 0, .int .i64 0, .string ⟨#[]⟩, .string ⟨#[]⟩, .int .i64 0, .slice none 0 0, .slice none 0 0, .int .i64 0, .string ⟨#[]⟩, .int .i64 0, .slice none 0 0, .slice none 0 0, .int .i64 0, .slice none 0 0, .int .i64 0, .int .i64 0, .string ⟨#[]⟩, .int .i64 0, .slice none 0 0, .slice none 0 0, .int .i64 0] 33)).alloc (.cells #[.string (ba tFun)] 9)) (.slice (some ⟨w.heap.size + 1, 0, none⟩) 1 1) [tFun] := Sl.new [tFun] (by simp) (by simp) 1 1 rfl rfl
 have hi3 := takeIf_no _ [tFun] _ pb sz s (hp0.below hb1) hS2 H0.out
 have HI4 := Lib.hid hi3
 clear hi3 hS2
 go_wp2_with fail
 refine HI4.out.mono ?_
 rintro e w8 ⟨rfl, hb9⟩
 have l5 := (l0.later hb1).later hb9
 have hk6 := (hk0.below hb1 hk0.size).below hb9 (Nat.le_trans hk0.size hb1.size)
 have hp7 := (hp0.below hb1).below hb9
 have hb10 := below_new (w8) (.cells #[.string (ba tLet)] 9)
 have hS11 : Sl ((w8).alloc (.cells #[.string (ba tLet)] 9)) (.slice (some ⟨w8.heap.size, 0, none⟩) 1 1) [tLet] := Sl.new [tLet] (by simp) (by simp) 1 1 rfl rfl
 have hi12 := takeIf_no _ [tLet] _ pb sz s (hp7.below hb10) hS11 H1.out
 have HI13 := Lib.hid hi12
 clear hi12 hS11
 go_wp2_with fail
 refine HI13.out.mono ?_
 rintro e w17 ⟨rfl, hb18⟩
 have l14 := (l5.later hb10).later hb18
 have hk15 := (hk6.below hb10 hk6.size).below hb18 (Nat.le_trans hk6.size hb10.size)
 have hp16 := (hp7.below hb10).below hb18
 have hb19 := below_new (w17) (.cells #[.string (ba tRec)] 9)
 have hS20 : Sl ((w17).alloc (.cells #[.string (ba tRec)] 9)) (.slice (some ⟨w17.heap.size, 0, none⟩) 1 1) [tRec] := Sl.new [tRec] (by simp) (by simp) 1 1 rfl rfl
 have hi21 := takeIf_no _ [tRec] _ pb sz s (hp16.below hb19) hS20 H2.out
 have HI22 := Lib.hid hi21
 clear hi21 hS20
 go_wp2_with fail
 refine HI22.out.mono ?_
 rintro e w26 ⟨rfl, hb27⟩
 have l23 := (l14.later hb19).later hb27
 have hk24 := (hk15.below hb19 hk15.size).below hb27 (Nat.le_trans hk15.size hb19.size)
 have hp25 := (hp16.below hb19).below hb27
 have hb28 := below_new (w26) (.cells #[.string (ba tIf)] 9)
 have hS29 : Sl ((w26).alloc (.cells #[.string (ba tIf)] 9)) (.slice (some ⟨w26.heap.size, 0, none⟩) 1 1) [tIf] := Sl.new [tIf] (by simp) (by simp) 1 1 rfl rfl
 have hi30 := is_any _ [tIf] _ pb sz s (hp25.below hb28) hS29
 rw [H3.out] at hi30
 have HI31 := Lib.hid hi30
 clear hi30 hS29
 go_wp2_with fail
 refine HI31.out.mono ?_
 rintro e w35 ⟨rfl, hb36⟩
 have l32 := (l23.later hb28).later hb36
 have hk33 := (hk24.below hb28 hk24.size).below hb36 (Nat.le_trans hk24.size hb28.size)
 have hp34 := (hp25.below hb28).below hb36
 have hb37 := below_new (w35) (.cells #[.string (ba tIf), .string (ba tThen), .string (ba tElse)] 9)
 have hS38 : Sl ((w35).alloc (.cells #[.string (ba tIf), .string (ba tThen), .string (ba tElse)] 9)) (.slice (some ⟨w35.heap.size, 0, none⟩) 3 3) [tIf, tThen, tElse] := Sl.new [tIf, tThen, tElse] (by simp) (by simp) 3 3 rfl rfl
 have hbd : ∀ t, [tIf, tThen, tElse][0]? = some t → (must1 sz t (s)).ws.length < n := by
  intro t ht
  simp at ht
  subst ht
  have := must1_lt (sz := sz) H3.out; omega
 have hi39 := behind_any ex pb sz n hxn hx _ (s) (hp34.below hb37) _ [tIf, tThen, tElse] hS38 (Off.new (by have := l32.lt; omega)) hbd
 have HI40 := Lib.hid hi39
 clear hi39 hS38 hbd
 have hszb : w.heap.size + 1 ≤ (w35).heap.size := l32.lt
 go_wp2_with fail
 refine HI40.out.mono ?_
 rintro e w41 ⟨v46, rfl, hA45, hg42⟩
 have l43 := hg42.kp.lies (l32.later hb37) (by omega)
 have hk44 := (hk33.below hb37 hk33.size).trans hg42.kp
 have hszb2 := hb37.size
 have hA47 := hA45.low tmOK (lo' := w.heap.size + 1) (by omega)
 obtain ⟨Ak, nk, ck, rfl⟩ := hA47.slice
 go_wp2_with (first | (refine wpList_store_rowTo rfl 33 (.tmp 2) (.tmp 59) rfl rfl _ _ rfl rfl 33 _ l43 sz39 rfl (by kernel_rfl) ?_))
 refine bodyPost_ret (v := .agg (tmC 9 (whr sz s) [] [] 0 (.slice Ak nk ck) (.slice none 0 0)).toArray) (results_cell_row rfl _ _ w.heap.size 33 (tmC 9 (whr sz s) [] [] 0 (.slice Ak nk ck) (.slice none 0 0)).toArray (0, 0) _ rfl (l43.setRow _) Tryz.underlying33 rfl sz39) rfl ?_
 exact ⟨tmC 9 (whr sz s) [] [] 0 (.slice Ak nk ck) (.slice none 0 0), rfl, HT.mono (HT.setRow (HT.of_acc 9 (whr sz s) [] [] 0 hA47 (Acc.nil _ _)) (fun g (hg : w.heap.size + 1 ≤ g) => by omega) _) (fun g (hg : w.heap.size + 1 ≤ g) _ => by omega), hg42.pa.setRow hplt _, hk44.setRow (Nat.le_refl _) _⟩

set_option maxRecDepth 100000 in
set_option maxHeartbeats 2000000 in
theorem here_4 (ex : St → Tm × St) (pb sz n : Nat) (hxn : Nice ex) (hx : ExOK ex pb sz n) (hways : WaysOK ex pb sz n) (_hcl : ClausesOK ex pb sz n) (_hassign : SideOK 107 (assign sz ex) pb sz n) (w : World) (s : St) (hp : PA w pb sz s) (hn : s.ws.length ≤ n) (H0 : Hid (isT [tFun] s = false)) (H1 : Hid (isT [tLet] s = false)) (H2 : Hid (isT [tRec] s = false)) (H3 : Hid (isT [tIf] s = false)) (H4 : Hid (isT [tMatch] s = true)) :
  Calls Tryz.prog 80 #[.pointer (some ⟨pb, 0, none⟩)] w (TermEnd pb sz (fun g => w.heap.size ≤ g) w (exprHere sz ex s)) := by
 have hplt := hp.lt
 have l0 := Lies.new w 33 zC
 have hp0 := hp.alloc (.cells zC 33)
 have hk0 := (Kp.refl pb w).alloc (.cells zC 33)
 unfold zC at l0 hp0 hk0
 have hr : exprHere sz ex s = (.mk 12 (whr sz s) [] [] 0 (behind sz ex [tMatch] s).1 (Pz.ways sz ex (behind sz ex [tMatch] s).2).1, (Pz.ways sz ex (behind sz ex [tMatch] s).2).2) := by unfold exprHere; simp only [H0.out, H1.out, H2.out, H3.out, H4.out, Bool.false_eq_true, if_false, if_true]
 have HR := Lib.hid hr
 clear hr
 rw [HR.out]
 clear HR
 have hpos := isT_pos H4.out
 go_enter Tryz.func80, Tryz.ntmps80
 go_wp2_with fail
 refine (where_any _ pb sz s hp0).mono ?_
 rintro e w' ⟨rfl, rfl⟩
 have hb1 := below_new (w.alloc (.cells #[.int .i64 0, .int .i64 0, .string ⟨#[]⟩, .string ⟨#[]⟩, .int .i64 0, .slice none 0 0, .slice none 0 0, .int .i64 0, .string ⟨#[]⟩, .int .i64 0, .slice none 0 0, .slice none 0 0, .int .i64 0, .slice none 0 0, .int .i64 0, .int .i64 0, .string ⟨#[]⟩, .int .i64 0, .slice none 0 0, .slice none 0 0, .int .i64 0] 33)) (.cells #[.string (ba tFun)] 9)
 have hS2 : Sl ((w.alloc (.cells #[.int .i64 0, .int .i64 0, .string ⟨#[]⟩, .string ⟨#[]⟩, .int .i64 0, .slice none 0 0, .slice none 0 0, .int .i64 0, .string ⟨#[]⟩, .int .i64 0, .slice none 0 0, .slice none 0 0, .int .i64 0, .slice none 0 0, .int .i64 0, .int .i64 0, .string ⟨#[]⟩, .int .i64 0, .slice none 0 0, .slice none 0 0, .int .i64 0] 33)).alloc (.cells #[.string (ba tFun)] 9)) (.slice (some ⟨w.heap.size + 1, 0, none⟩) 1 1) [tFun] := Sl.new [tFun] (by simp) (by simp) 1 1 rfl rfl
 have hi3 := takeIf_no _ [tFun] _ pb sz s (hp0.below hb1) hS2 H0.out
 have HI4 := Lib.hid hi3
 clear hi3 hS2
 go_wp2_with fail
 refine HI4.out.mono ?_
 rintro e w8 ⟨rfl, hb9⟩
 have l5 := (l0.later hb1).later hb9
 have hk6 := (hk0.below hb1 hk0.size).below hb9 (Nat.le_trans hk0.size hb1.size)
 have hp7 := (hp0.below hb1).below hb9
 have hb10 := below_new (w8) (.cells #[.string (ba tLet)] 9)
 have hS11 : Sl ((w8).alloc (.cells #[.string (ba tLet)] 9)) (.slice (some ⟨w8.heap.size, 0, none⟩) 1 1) [tLet] := Sl.new [tLet] (by simp) (by simp) 1 1 rfl rfl
 have hi12 := takeIf_no _ [tLet] _ pb sz s (hp7.below hb10) hS11 H1.out
 have HI13 := Lib.hid hi12
 clear hi12 hS11
 go_wp2_with fail
 refine HI13.out.mono ?_
 rintro e w17 ⟨rfl, hb18⟩
 have l14 := (l5.later hb10).later hb18
 have hk15 := (hk6.below hb10 hk6.size).below hb18 (Nat.le_trans hk6.size hb10.size)
 have hp16 := (hp7.below hb10).below hb18
 have hb19 := below_new (w17) (.cells #[.string (ba tRec)] 9)
 have hS20 : Sl ((w17).alloc (.cells #[.string (ba tRec)] 9)) (.slice (some ⟨w17.heap.size, 0, none⟩) 1 1) [tRec] := Sl.new [tRec] (by simp) (by simp) 1 1 rfl rfl
 have hi21 := takeIf_no _ [tRec] _ pb sz s (hp16.below hb19) hS20 H2.out
 have HI22 := Lib.hid hi21
 clear hi21 hS20
 go_wp2_with fail
 refine HI22.out.mono ?_
 rintro e w26 ⟨rfl, hb27⟩
 have l23 := (l14.later hb19).later hb27
 have hk24 := (hk15.below hb19 hk15.size).below hb27 (Nat.le_trans hk15.size hb19.size)
 have hp25 := (hp16.below hb19).below hb27
 have hb28 := below_new (w26) (.cells #[.string (ba tIf)] 9)
 have hS29 : Sl ((w26).alloc (.cells #[.string (ba tIf)] 9)) (.slice (some ⟨w26.heap.size, 0, none⟩) 1 1) [tIf] := Sl.new [tIf] (by simp) (by simp) 1 1 rfl rfl
 have hi30 := is_any _ [tIf] _ pb sz s (hp25.below hb28) hS29
 rw [H3.out] at hi30
 have HI31 := Lib.hid hi30
 clear hi30 hS29
 go_wp2_with fail
 refine HI31.out.mono ?_
 rintro e w35 ⟨rfl, hb36⟩
 have l32 := (l23.later hb28).later hb36
 have hk33 := (hk24.below hb28 hk24.size).below hb36 (Nat.le_trans hk24.size hb28.size)
 have hp34 := (hp25.below hb28).below hb36
 have hb37 := below_new (w35) (.cells #[.string (ba tMatch)] 9)
 have hS38 : Sl ((w35).alloc (.cells #[.string (ba tMatch)] 9)) (.slice (some ⟨w35.heap.size, 0, none⟩) 1 1) [tMatch] := Sl.new [tMatch] (by simp) (by simp) 1 1 rfl rfl
 have hi39 := is_any _ [tMatch] _ pb sz s (hp34.below hb37) hS38
 rw [H4.out] at hi39
 have HI40 := Lib.hid hi39
 clear hi39 hS38
 go_wp2_with fail
 refine HI40.out.mono ?_
 rintro e w44 ⟨rfl, hb45⟩
 have l41 := (l32.later hb37).later hb45
 have hk42 := (hk33.below hb37 hk33.size).below hb45 (Nat.le_trans hk33.size hb37.size)
 have hp43 := (hp34.below hb37).below hb45
 have hb46 := below_new (w44) (.cells #[.string (ba tMatch)] 9)
 have hS47 : Sl ((w44).alloc (.cells #[.string (ba tMatch)] 9)) (.slice (some ⟨w44.heap.size, 0, none⟩) 1 1) [tMatch] := Sl.new [tMatch] (by simp) (by simp) 1 1 rfl rfl
 have hbd : ∀ t, [tMatch][0]? = some t → (must1 sz t (s)).ws.length < n := by
  intro t ht
  simp at ht
  subst ht
  have := must1_lt (sz := sz) H4.out; omega
 have hi48 := behind_any ex pb sz n hxn hx _ (s) (hp43.below hb46) _ [tMatch] hS47 (Off.new (by have := l41.lt; omega)) hbd
 have HI49 := Lib.hid hi48
 clear hi48 hS47 hbd
 have hszb : w.heap.size + 1 ≤ (w44).heap.size := l41.lt
 go_wp2_with fail
 refine HI49.out.mono ?_
 rintro e w50 ⟨v55, rfl, hA54, hg51⟩
 have l52 := hg51.kp.lies (l41.later hb46) (by omega)
 have hk53 := (hk42.below hb46 hk42.size).trans hg51.kp
 have hszb2 := hb46.size
 have hA56 := hA54.low tmOK (lo' := w.heap.size + 1) (by omega)
 have hbw : ((behind sz ex [tMatch] s).2).ws.length < n := by have h1 := must1_lt (sz := sz) H4.out; have h2 := (hxn (must1 sz tMatch s)).1; show (ex (must1 sz tMatch s)).2.ws.length < n; omega
 have hszc : w.heap.size + 1 ≤ (w50).heap.size := l52.lt
 have hcw := hways (w50) ((behind sz ex [tMatch] s).2) hg51.pa hbw
 have HCW := Lib.hid hcw
 clear hcw
 go_wp2_with fail
 refine HCW.out.mono ?_
 rintro e w57 ⟨v62, rfl, hB61, hg58⟩
 have l59 := hg58.kp.lies l52 (by omega)
 have hk60 := hk53.trans hg58.kp
 have hB63 := hB61.low armOK (lo' := w.heap.size + 1) (by omega)
 have hA64 := hA56.kp tmOK hg58.kp (by omega)
 obtain ⟨Ak, nk, ck, rfl⟩ := hA64.slice
 obtain ⟨Aa, na, ca, rfl⟩ := hB63.slice
 go_wp2_with (first | (refine wpList_store_rowTo rfl 33 (.tmp 2) (.tmp 72) rfl rfl _ _ rfl rfl 33 _ l59 sz39 rfl (by kernel_rfl) ?_))
 refine bodyPost_ret (v := .agg (tmC 12 (whr sz s) [] [] 0 (.slice Ak nk ck) (.slice Aa na ca)).toArray) (results_cell_row rfl _ _ w.heap.size 33 (tmC 12 (whr sz s) [] [] 0 (.slice Ak nk ck) (.slice Aa na ca)).toArray (0, 0) _ rfl (l59.setRow _) Tryz.underlying33 rfl sz39) rfl ?_
 exact ⟨tmC 12 (whr sz s) [] [] 0 (.slice Ak nk ck) (.slice Aa na ca), rfl, HT.mono (HT.setRow (HT.of_acc 12 (whr sz s) [] [] 0 hA64 hB63) (fun g (hg : w.heap.size + 1 ≤ g) => by omega) _) (fun g (hg : w.heap.size + 1 ≤ g) _ => by omega), hg58.pa.setRow hplt _, hk60.setRow (Nat.le_refl _) _⟩

set_option maxRecDepth 100000 in
set_option maxHeartbeats 2000000 in
theorem here_5 (ex : St → Tm × St) (pb sz n : Nat) (hxn : Nice ex) (hx : ExOK ex pb sz n) (_hways : WaysOK ex pb sz n) (hcl : ClausesOK ex pb sz n) (_hassign : SideOK 107 (assign sz ex) pb sz n) (w : World) (s : St) (hp : PA w pb sz s) (hn : s.ws.length ≤ n) (H0 : Hid (isT [tFun] s = false)) (H1 : Hid (isT [tLet] s = false)) (H2 : Hid (isT [tRec] s = false)) (H3 : Hid (isT [tIf] s = false)) (H4 : Hid (isT [tMatch] s = false)) (H5 : Hid (isT [tHandle] s = true)) :
  Calls Tryz.prog 80 #[.pointer (some ⟨pb, 0, none⟩)] w (TermEnd pb sz (fun g => w.heap.size ≤ g) w (exprHere sz ex s)) := by
 have hplt := hp.lt
 have l0 := Lies.new w 33 zC
 have hp0 := hp.alloc (.cells zC 33)
 have hk0 := (Kp.refl pb w).alloc (.cells zC 33)
 unfold zC at l0 hp0 hk0
 have hr : exprHere sz ex s = (.mk 14 (whr sz s) (name sz [3] (take s)).1 [] 0 [(ex (name sz [3] (take s)).2).1] (clauses sz ex (ex (name sz [3] (take s)).2).2).1, (clauses sz ex (ex (name sz [3] (take s)).2).2).2) := by unfold exprHere; simp only [H0.out, H1.out, H2.out, H3.out, H4.out, H5.out, Bool.false_eq_true, if_false, if_true]
 have HR := Lib.hid hr
 clear hr
 rw [HR.out]
 clear HR
 have hpos := isT_pos H5.out
 have htl := take_lt hpos
 go_enter Tryz.func80, Tryz.ntmps80
 go_wp2_with fail
 refine (where_any _ pb sz s hp0).mono ?_
 rintro e w' ⟨rfl, rfl⟩
 have hb1 := below_new (w.alloc (.cells #[.int .i64 0, .int .i64 0, .string ⟨#[]⟩, .string ⟨#[]⟩, .int .i64 0, .slice none 0 0, .slice none 0 0, .int .i64 0, .string ⟨#[]⟩, .int .i64 0, .slice none 0 0, .slice none 0 0, .int .i64 0, .slice none 0 0, .int .i64 0, .int .i64 0, .string ⟨#[]⟩, .int .i64 0, .slice none 0 0, .slice none 0 0, .int .i64 0] 33)) (.cells #[.string (ba tFun)] 9)
 have hS2 : Sl ((w.alloc (.cells #[.int .i64 0, .int .i64 0, .string ⟨#[]⟩, .string ⟨#[]⟩, .int .i64 0, .slice none 0 0, .slice none 0 0, .int .i64 0, .string ⟨#[]⟩, .int .i64 0, .slice none 0 0, .slice none 0 0, .int .i64 0, .slice none 0 0, .int .i64 0, .int .i64 0, .string ⟨#[]⟩, .int .i64 0, .slice none 0 0, .slice none 0 0, .int .i64 0] 33)).alloc (.cells #[.string (ba tFun)] 9)) (.slice (some ⟨w.heap.size + 1, 0, none⟩) 1 1) [tFun] := Sl.new [tFun] (by simp) (by simp) 1 1 rfl rfl
 have hi3 := takeIf_no _ [tFun] _ pb sz s (hp0.below hb1) hS2 H0.out
 have HI4 := Lib.hid hi3
 clear hi3 hS2
 go_wp2_with fail
 refine HI4.out.mono ?_
 rintro e w8 ⟨rfl, hb9⟩
 have l5 := (l0.later hb1).later hb9
 have hk6 := (hk0.below hb1 hk0.size).below hb9 (Nat.le_trans hk0.size hb1.size)
 have hp7 := (hp0.below hb1).below hb9
 have hb10 := below_new (w8) (.cells #[.string (ba tLet)] 9)
 have hS11 : Sl ((w8).alloc (.cells #[.string (ba tLet)] 9)) (.slice (some ⟨w8.heap.size, 0, none⟩) 1 1) [tLet] := Sl.new [tLet] (by simp) (by simp) 1 1 rfl rfl
 have hi12 := takeIf_no _ [tLet] _ pb sz s (hp7.below hb10) hS11 H1.out
 have HI13 := Lib.hid hi12
 clear hi12 hS11
 go_wp2_with fail
 refine HI13.out.mono ?_
 rintro e w17 ⟨rfl, hb18⟩
 have l14 := (l5.later hb10).later hb18
 have hk15 := (hk6.below hb10 hk6.size).below hb18 (Nat.le_trans hk6.size hb10.size)
 have hp16 := (hp7.below hb10).below hb18
 have hb19 := below_new (w17) (.cells #[.string (ba tRec)] 9)
 have hS20 : Sl ((w17).alloc (.cells #[.string (ba tRec)] 9)) (.slice (some ⟨w17.heap.size, 0, none⟩) 1 1) [tRec] := Sl.new [tRec] (by simp) (by simp) 1 1 rfl rfl
 have hi21 := takeIf_no _ [tRec] _ pb sz s (hp16.below hb19) hS20 H2.out
 have HI22 := Lib.hid hi21
 clear hi21 hS20
 go_wp2_with fail
 refine HI22.out.mono ?_
 rintro e w26 ⟨rfl, hb27⟩
 have l23 := (l14.later hb19).later hb27
 have hk24 := (hk15.below hb19 hk15.size).below hb27 (Nat.le_trans hk15.size hb19.size)
 have hp25 := (hp16.below hb19).below hb27
 have hb28 := below_new (w26) (.cells #[.string (ba tIf)] 9)
 have hS29 : Sl ((w26).alloc (.cells #[.string (ba tIf)] 9)) (.slice (some ⟨w26.heap.size, 0, none⟩) 1 1) [tIf] := Sl.new [tIf] (by simp) (by simp) 1 1 rfl rfl
 have hi30 := is_any _ [tIf] _ pb sz s (hp25.below hb28) hS29
 rw [H3.out] at hi30
 have HI31 := Lib.hid hi30
 clear hi30 hS29
 go_wp2_with fail
 refine HI31.out.mono ?_
 rintro e w35 ⟨rfl, hb36⟩
 have l32 := (l23.later hb28).later hb36
 have hk33 := (hk24.below hb28 hk24.size).below hb36 (Nat.le_trans hk24.size hb28.size)
 have hp34 := (hp25.below hb28).below hb36
 have hb37 := below_new (w35) (.cells #[.string (ba tMatch)] 9)
 have hS38 : Sl ((w35).alloc (.cells #[.string (ba tMatch)] 9)) (.slice (some ⟨w35.heap.size, 0, none⟩) 1 1) [tMatch] := Sl.new [tMatch] (by simp) (by simp) 1 1 rfl rfl
 have hi39 := is_any _ [tMatch] _ pb sz s (hp34.below hb37) hS38
 rw [H4.out] at hi39
 have HI40 := Lib.hid hi39
 clear hi39 hS38
 go_wp2_with fail
 refine HI40.out.mono ?_
 rintro e w44 ⟨rfl, hb45⟩
 have l41 := (l32.later hb37).later hb45
 have hk42 := (hk33.below hb37 hk33.size).below hb45 (Nat.le_trans hk33.size hb37.size)
 have hp43 := (hp34.below hb37).below hb45
 have hb46 := below_new (w44) (.cells #[.string (ba tHandle)] 9)
 have hS47 : Sl ((w44).alloc (.cells #[.string (ba tHandle)] 9)) (.slice (some ⟨w44.heap.size, 0, none⟩) 1 1) [tHandle] := Sl.new [tHandle] (by simp) (by simp) 1 1 rfl rfl
 have hi48 := takeIf_yes _ [tHandle] _ pb sz s (hp43.below hb46) hS47 H5.out
 have HI49 := Lib.hid hi48
 clear hi48 hS47
 go_wp2_with fail
 refine HI49.out.mono ?_
 rintro e w53 ⟨rfl, hb54⟩
 have l50 := hb54.kp.lies (l41.later hb46) (by omega)
 have hk51 := (hk42.below hb46 hk42.size).trans hb54.kp
 have hp52 := hb54.pa
 go_wp2_with fail
 refine (large_any _ pb sz (take s) hp52).mono ?_
 rintro e w56 ⟨rfl, hg55⟩
 have l57 := hg55.kp.lies l50 (by omega)
 have hk58 := hk51.trans hg55.kp
 have hbx : (name sz [3] (take s)).2.ws.length < n := by have h2 := (nice_name sz [3] (take s)).1; omega
 have hszx : w.heap.size + 1 ≤ w56.heap.size := l57.lt
 have hcx := hx w56 (name sz [3] (take s)).2 hg55.pa hbx
 have HCX := Lib.hid hcx
 clear hcx
 go_wp2_with fail
 refine HCX.out.mono ?_
 rintro e wx ⟨l, rfl, ht, hgx⟩
 have lx := (hgx.kp.lies l57 (by omega)).alloc (.cells l.toArray 33)
 have kx := (hk58.trans hgx.kp).alloc (.cells l.toArray 33)
 have px := hgx.pa.alloc (.cells l.toArray 33)
 have hszx2 := hgx.kp.size
 have hlen := ht.len
 have HLN := Lib.hid hlen
 clear hlen
 have ax := Acc.one (lo := w.heap.size + 1) (w := wx) (ht.mono (Q := fun k => w.heap.size + 1 ≤ k) (fun k (hk : w56.heap.size ≤ k) _ => by omega)) (by omega)
 obtain ⟨ie, hie, hiz, his⟩ := info39
 have hbw : ((ex (name sz [3] (take s)).2).2).ws.length < n := by have h2 := (hxn (name sz [3] (take s)).2).1; omega
 have hcw := hcl (wx.alloc (.cells l.toArray 33)) ((ex (name sz [3] (take s)).2).2) px hbw
 have HCW := Lib.hid hcw
 clear hcw
 go_wp2_with (first | (refine wpList_buildSlice rfl 24 33 1 _ rfl l.toArray ie (.agg zC) Tryz.underlying24 hie hiz (by rw [his]; decide) (by rw [his]; decide) (by rw [his, Array.toList_map]; exact fill_one l HLN.out ((Array.range (1 * 21)).map ((Value.agg zC).cells[· % (Value.agg zC).cells.size]!)) (by simp)) ?_))
 refine HCW.out.mono ?_
 rintro e w59 ⟨va, rfl, hBa, hg60⟩
 have ly := hg60.kp.lies lx (by omega)
 have ky := kx.trans hg60.kp
 have hB2 := hBa.low armOK (lo' := w.heap.size + 1) (by simp; omega)
 have hA2 := ax.kp tmOK hg60.kp (by omega)
 obtain ⟨Aa, na, ca, rfl⟩ := hB2.slice
 go_wp2_with (first | (refine wpList_store_rowTo rfl 33 (.tmp 2) (.tmp 87) rfl rfl _ _ rfl rfl 33 _ ly sz39 rfl (by kernel_rfl) ?_))
 refine bodyPost_ret (v := .agg (tmC 14 (whr sz s) (name sz [3] (take s)).1 [] 0 (.slice (some ⟨wx.heap.size, 0, none⟩) 1 1) (.slice Aa na ca)).toArray) (results_cell_row rfl _ _ w.heap.size 33 (tmC 14 (whr sz s) (name sz [3] (take s)).1 [] 0 (.slice (some ⟨wx.heap.size, 0, none⟩) 1 1) (.slice Aa na ca)).toArray (0, 0) _ rfl (ly.setRow _) Tryz.underlying33 rfl sz39) rfl ?_
 exact ⟨tmC 14 (whr sz s) (name sz [3] (take s)).1 [] 0 (.slice (some ⟨wx.heap.size, 0, none⟩) 1 1) (.slice Aa na ca), rfl, HT.mono (HT.setRow (HT.of_acc 14 (whr sz s) (name sz [3] (take s)).1 [] 0 hA2 hB2) (fun g (hg : w.heap.size + 1 ≤ g) => by omega) _) (fun g (hg : w.heap.size + 1 ≤ g) _ => by omega), hg60.pa.setRow hplt _, ky.setRow (Nat.le_refl _) _⟩

set_option maxRecDepth 100000 in
set_option maxHeartbeats 2000000 in
theorem here_6 (ex : St → Tm × St) (pb sz n : Nat) (_hxn : Nice ex) (_hx : ExOK ex pb sz n) (_hways : WaysOK ex pb sz n) (_hcl : ClausesOK ex pb sz n) (hassign : SideOK 107 (assign sz ex) pb sz n) (w : World) (s : St) (hp : PA w pb sz s) (hn : s.ws.length ≤ n) (H0 : Hid (isT [tFun] s = false)) (H1 : Hid (isT [tLet] s = false)) (H2 : Hid (isT [tRec] s = false)) (H3 : Hid (isT [tIf] s = false)) (H4 : Hid (isT [tMatch] s = false)) (H5 : Hid (isT [tHandle] s = false)) :
  Calls Tryz.prog 80 #[.pointer (some ⟨pb, 0, none⟩)] w (TermEnd pb sz (fun g => w.heap.size ≤ g) w (exprHere sz ex s)) := by
 have hplt := hp.lt
 have l0 := Lies.new w 33 zC
 have hp0 := hp.alloc (.cells zC 33)
 have hk0 := (Kp.refl pb w).alloc (.cells zC 33)
 unfold zC at l0 hp0 hk0
 have hr : exprHere sz ex s = assign sz ex s := by unfold exprHere; simp only [H0.out, H1.out, H2.out, H3.out, H4.out, H5.out, Bool.false_eq_true, if_false]
 have HR := Lib.hid hr
 clear hr
 rw [HR.out]
 clear HR
 go_enter Tryz.func80, Tryz.ntmps80
 go_wp2_with fail
 refine (where_any _ pb sz s hp0).mono ?_
 rintro e w' ⟨rfl, rfl⟩
 have hb1 := below_new (w.alloc (.cells #[.int .i64 0, .int .i64 0, .string ⟨#[]⟩, .string ⟨#[]⟩, .int .i64 0, .slice none 0 0, .slice none 0 0, .int .i64 0, .string ⟨#[]⟩, .int .i64 0, .slice none 0 0, .slice none 0 0, .int .i64 0, .slice none 0 0, .int .i64 0, .int .i64 0, .string ⟨#[]⟩, .int .i64 0, .slice none 0 0, .slice none 0 0, .int .i64 0] 33)) (.cells #[.string (ba tFun)] 9)
 have hS2 : Sl ((w.alloc (.cells #[.int .i64 0, .int .i64 0, .string ⟨#[]⟩, .string ⟨#[]⟩, .int .i64 0, .slice none 0 0, .slice none 0 0, .int .i64 0, .string ⟨#[]⟩, .int .i64 0, .slice none 0 0, .slice none 0 0, .int .i64 0, .slice none 0 0, .int .i64 0, .int .i64 0, .string ⟨#[]⟩, .int .i64 0, .slice none 0 0, .slice none 0 0, .int .i64 0] 33)).alloc (.cells #[.string (ba tFun)] 9)) (.slice (some ⟨w.heap.size + 1, 0, none⟩) 1 1) [tFun] := Sl.new [tFun] (by simp) (by simp) 1 1 rfl rfl
 have hi3 := takeIf_no _ [tFun] _ pb sz s (hp0.below hb1) hS2 H0.out
 have HI4 := Lib.hid hi3
 clear hi3 hS2
 go_wp2_with fail
 refine HI4.out.mono ?_
 rintro e w8 ⟨rfl, hb9⟩
 have l5 := (l0.later hb1).later hb9
 have hk6 := (hk0.below hb1 hk0.size).below hb9 (Nat.le_trans hk0.size hb1.size)
 have hp7 := (hp0.below hb1).below hb9
 have hb10 := below_new (w8) (.cells #[.string (ba tLet)] 9)
 have hS11 : Sl ((w8).alloc (.cells #[.string (ba tLet)] 9)) (.slice (some ⟨w8.heap.size, 0, none⟩) 1 1) [tLet] := Sl.new [tLet] (by simp) (by simp) 1 1 rfl rfl
 have hi12 := takeIf_no _ [tLet] _ pb sz s (hp7.below hb10) hS11 H1.out
 have HI13 := Lib.hid hi12
 clear hi12 hS11
 go_wp2_with fail
 refine HI13.out.mono ?_
 rintro e w17 ⟨rfl, hb18⟩
 have l14 := (l5.later hb10).later hb18
 have hk15 := (hk6.below hb10 hk6.size).below hb18 (Nat.le_trans hk6.size hb10.size)
 have hp16 := (hp7.below hb10).below hb18
 have hb19 := below_new (w17) (.cells #[.string (ba tRec)] 9)
 have hS20 : Sl ((w17).alloc (.cells #[.string (ba tRec)] 9)) (.slice (some ⟨w17.heap.size, 0, none⟩) 1 1) [tRec] := Sl.new [tRec] (by simp) (by simp) 1 1 rfl rfl
 have hi21 := takeIf_no _ [tRec] _ pb sz s (hp16.below hb19) hS20 H2.out
 have HI22 := Lib.hid hi21
 clear hi21 hS20
 go_wp2_with fail
 refine HI22.out.mono ?_
 rintro e w26 ⟨rfl, hb27⟩
 have l23 := (l14.later hb19).later hb27
 have hk24 := (hk15.below hb19 hk15.size).below hb27 (Nat.le_trans hk15.size hb19.size)
 have hp25 := (hp16.below hb19).below hb27
 have hb28 := below_new (w26) (.cells #[.string (ba tIf)] 9)
 have hS29 : Sl ((w26).alloc (.cells #[.string (ba tIf)] 9)) (.slice (some ⟨w26.heap.size, 0, none⟩) 1 1) [tIf] := Sl.new [tIf] (by simp) (by simp) 1 1 rfl rfl
 have hi30 := is_any _ [tIf] _ pb sz s (hp25.below hb28) hS29
 rw [H3.out] at hi30
 have HI31 := Lib.hid hi30
 clear hi30 hS29
 go_wp2_with fail
 refine HI31.out.mono ?_
 rintro e w35 ⟨rfl, hb36⟩
 have l32 := (l23.later hb28).later hb36
 have hk33 := (hk24.below hb28 hk24.size).below hb36 (Nat.le_trans hk24.size hb28.size)
 have hp34 := (hp25.below hb28).below hb36
 have hb37 := below_new (w35) (.cells #[.string (ba tMatch)] 9)
 have hS38 : Sl ((w35).alloc (.cells #[.string (ba tMatch)] 9)) (.slice (some ⟨w35.heap.size, 0, none⟩) 1 1) [tMatch] := Sl.new [tMatch] (by simp) (by simp) 1 1 rfl rfl
 have hi39 := is_any _ [tMatch] _ pb sz s (hp34.below hb37) hS38
 rw [H4.out] at hi39
 have HI40 := Lib.hid hi39
 clear hi39 hS38
 go_wp2_with fail
 refine HI40.out.mono ?_
 rintro e w44 ⟨rfl, hb45⟩
 have l41 := (l32.later hb37).later hb45
 have hk42 := (hk33.below hb37 hk33.size).below hb45 (Nat.le_trans hk33.size hb37.size)
 have hp43 := (hp34.below hb37).below hb45
 have hb46 := below_new (w44) (.cells #[.string (ba tHandle)] 9)
 have hS47 : Sl ((w44).alloc (.cells #[.string (ba tHandle)] 9)) (.slice (some ⟨w44.heap.size, 0, none⟩) 1 1) [tHandle] := Sl.new [tHandle] (by simp) (by simp) 1 1 rfl rfl
 have hi48 := takeIf_no _ [tHandle] _ pb sz s (hp43.below hb46) hS47 H5.out
 have HI49 := Lib.hid hi48
 clear hi48 hS47
 go_wp2_with fail
 refine HI49.out.mono ?_
 rintro e w53 ⟨rfl, hb54⟩
 have l50 := (l41.later hb46).later hb54
 have hk51 := (hk42.below hb46 hk42.size).below hb54 (Nat.le_trans hk42.size hb46.size)
 have hp52 := (hp43.below hb46).below hb54
 have hca := hassign.2 (w53) s hp52 hn
 have HCA := Lib.hid hca
 clear hca
 have hszc : w.heap.size + 1 ≤ (w53).heap.size := l50.lt
 go_wp2_with fail
 refine HCA.out.mono ?_
 rintro e wz ⟨l, rfl, ht, hg⟩
 have lz := hg.kp.lies l50 (by omega)
 have kz := hk51.trans hg.kp
 have hlen := ht.len
 have HLN := Lib.hid hlen
 clear hlen
 go_wp2_with (first | (refine wpList_store_rowTo rfl 33 (.tmp 2) (.tmp 89) rfl rfl _ _ rfl rfl 33 _ lz (by rw [sz39]; simp [HLN.out]) (by simp [HLN.out]) ht.one ?_))
 refine bodyPost_ret (v := .agg l.toArray) (results_cell_row rfl _ _ w.heap.size 33 l.toArray (0, 0) _ rfl (lz.setRow _) Tryz.underlying33 rfl (by rw [sz39]; simp [HLN.out])) rfl ?_
 exact ⟨l, rfl, HT.mono (HT.setRow ht (fun g (hg : (w53).heap.size ≤ g) => by omega) _) (fun g (hg : (w53).heap.size ≤ g) _ => by omega), hg.pa.setRow hplt _, kz.setRow (Nat.le_refl _) _⟩
end Go.Proofs.YtmodmojocclmaaaGreatDoor
