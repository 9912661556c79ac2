/- The contract of what reads an expr that is no deeper than it may be. -/
import Derived.Test.YtnkfkaahjplnmaaGreatDoorGiAtoms
import Derived.Outline
import Derived.Test.YtnkfkaahjplnmaaGreatDoorGhFields
namespace Go.Proofs.YtnkfkaahjplnmaaGreatDoor
open Go.RowKit Pz

def WaysOK (ex : St → Tm × St) (pb sz n : Nat) : Prop := ∀ (w : World) (s : St), PA w pb sz s → s.ws.length < n → Calls Tryz.prog 75 #[.pointer (some ⟨pb, 0, none⟩)] w (ListEnd ArmIt 83 23 pb sz w (Pz.ways sz ex s))
def ClausesOK (ex : St → Tm × St) (pb sz n : Nat) : Prop := ∀ (w : World) (s : St), PA w pb sz s → s.ws.length < n → Calls Tryz.prog 76 #[.pointer (some ⟨pb, 0, none⟩)] w (ListEnd ArmIt 83 23 pb sz w (clauses sz ex s))
/-- A list of one item, behind its literal. -/
theorem Acc.one {w : World} {lo : Nat} {t : Tm} {l : List Value} (ht : HT w (fun k => lo ≤ k) t l) (hlo : lo ≤ w.heap.size) : Acc TmIt 39 21 (w.alloc (.cells l.toArray 39)) lo [t] (.slice (some ⟨w.heap.size, 0, none⟩) 1 1) := by
  have hr := Rw.lit w (fun k => lo ≤ k) 39 21 [l] (by simpa using ht.len) rfl hlo (n := 1) rfl (by unfold maxLen; omega)
  have e : [l].flatten = l := by simp
  rw [e] at hr
  refine ⟨[l], rfl, by have h2 : OwnP _ _ _ _ _ _ _ := hr.2; rw [e] at h2; rw [e]; exact h2, fun i a m ha hm => ?_⟩
  match i, ha, hm with
  | 0, ha, hm =>
    simp at ha hm
    subst ha hm
    refine HT.mono (ht.lt.later (below_new _ _)) (fun k hk _ => ⟨hk.1, ?_⟩)
    intro he
    have : k = w.heap.size := by injection he
    have := hk.2
    omega
  | i + 1, ha, _ => simp at ha

set_option maxRecDepth 100000 in
set_option maxHeartbeats 2000000 in
theorem here_0 (ex : St → Tm × St) (pb sz n : Nat) (hxn : Nice ex) (hx : ExOK ex pb sz n) (_hways : WaysOK ex pb sz n) (_hcl : ClausesOK ex pb sz n) (_hassign : SideOK 77 (assign sz ex) pb sz n) (w : World) (s : St) (hp : PA w pb sz s) (hn : s.ws.length ≤ n)  (H0 : Hid (isT [tFun] s = true)) :
    Calls Tryz.prog 60 #[.pointer (some ⟨pb, 0, none⟩)] w (TermEnd pb sz (fun g => w.heap.size ≤ g) w (exprHere sz ex s)) := by
  have hplt := hp.lt
  have l0 := Lies.new w 39 zC
  have hp0 := hp.alloc (.cells zC 39)
  have hk0 := (Kp.refl pb w).alloc (.cells zC 39)
  unfold zC at l0 hp0 hk0
  have hr : exprHere sz ex s = (.mk 5 (whr sz s) (name sz [2] (take s)).1 [] 0 (behind sz ex [tArrow] (name sz [2] (take s)).2).1 [], (behind sz ex [tArrow] (name sz [2] (take s)).2).2) := by unfold exprHere; simp only [H0.out, if_true]
  have HR := Lib.hid hr
  clear hr
  rw [HR.out]
  clear HR
  have hpos := isT_pos H0.out
  have htl := take_lt hpos
  go_enter Tryz.func60, Tryz.ntmps60
  go_wp2_with fail
  refine (where_any _ pb sz s hp0).mono ?_
  rintro e w' ⟨rfl, rfl⟩
  have hb1 := below_new (w.alloc (.cells #[.int .i64 0, .int .i64 0, .string ⟨#[]⟩, .string ⟨#[]⟩, .int .i64 0, .slice none 0 0, .slice none 0 0, .int .i64 0, .string ⟨#[]⟩, .int .i64 0, .slice none 0 0, .slice none 0 0, .int .i64 0, .slice none 0 0, .int .i64 0, .int .i64 0, .string ⟨#[]⟩, .int .i64 0, .slice none 0 0, .slice none 0 0, .int .i64 0] 39)) (.cells #[.string (ba tFun)] 9)
  have hS2 : Sl ((w.alloc (.cells #[.int .i64 0, .int .i64 0, .string ⟨#[]⟩, .string ⟨#[]⟩, .int .i64 0, .slice none 0 0, .slice none 0 0, .int .i64 0, .string ⟨#[]⟩, .int .i64 0, .slice none 0 0, .slice none 0 0, .int .i64 0, .slice none 0 0, .int .i64 0, .int .i64 0, .string ⟨#[]⟩, .int .i64 0, .slice none 0 0, .slice none 0 0, .int .i64 0] 39)).alloc (.cells #[.string (ba tFun)] 9)) (.slice (some ⟨w.heap.size + 1, 0, none⟩) 1 1) [tFun] := Sl.new [tFun] (by simp) (by simp) 1 1 rfl rfl
  have hi3 := takeIf_yes _ [tFun] _ pb sz s (hp0.below hb1) hS2 H0.out
  have HI4 := Lib.hid hi3
  clear hi3 hS2
  go_wp2_with fail
  refine HI4.out.mono ?_
  rintro e w8 ⟨rfl, hb9⟩
  have l5 := hb9.kp.lies (l0.later hb1) (by omega)
  have hk6 := (hk0.below hb1 hk0.size).trans hb9.kp
  have hp7 := hb9.pa
  go_wp2_with fail
  refine (small_any _ pb sz (take s) hp7).mono ?_
  rintro e w11 ⟨rfl, hg10⟩
  have l12 := hg10.kp.lies l5 (by omega)
  have hk13 := hk6.trans hg10.kp
  have hb14 := below_new (w11) (.cells #[.string (ba tArrow)] 9)
  have hS15 : Sl ((w11).alloc (.cells #[.string (ba tArrow)] 9)) (.slice (some ⟨w11.heap.size, 0, none⟩) 1 1) [tArrow] := Sl.new [tArrow] (by simp) (by simp) 1 1 rfl rfl
  have hbd : ∀ t, [tArrow][0]? = some t → (must1 sz t ((name sz [2] (take s)).2)).ws.length < n := by
    intro t ht
    simp at ht
    subst ht
    have h1 := (le_must1 sz tArrow (name sz [2] (take s)).2).1; have h2 := (nice_name sz [2] (take s)).1; omega
  have hi16 := behind_any ex pb sz n hxn hx _ ((name sz [2] (take s)).2) (hg10.pa.below hb14) _ [tArrow] hS15 (Off.new (by have := l12.lt; omega)) hbd
  have HI17 := Lib.hid hi16
  clear hi16 hS15 hbd
  have hszb : w.heap.size + 1 ≤ (w11).heap.size := l12.lt
  go_wp2_with fail
  refine HI17.out.mono ?_
  rintro e w18 ⟨v23, rfl, hA22, hg19⟩
  have l20 := hg19.kp.lies (l12.later hb14) (by omega)
  have hk21 := (hk13.below hb14 hk13.size).trans hg19.kp
  have hszb2 := hb14.size
  have hA24 := hA22.low tmOK (lo' := w.heap.size + 1) (by omega)
  obtain ⟨Ak, nk, ck, rfl⟩ := hA24.slice
  go_wp2_with (first | (refine wpList_store_rowTo rfl 39 (.tmp 2) (.tmp 20) rfl rfl _ _ rfl rfl 39 _ l20 sz39 rfl (by kernel_rfl) ?_))
  refine bodyPost_ret (v := .agg (tmC 5 (whr sz s) (name sz [2] (take s)).1 [] 0 (.slice Ak nk ck) (.slice none 0 0)).toArray) (results_cell_row rfl _ _ w.heap.size 39 (tmC 5 (whr sz s) (name sz [2] (take s)).1 [] 0 (.slice Ak nk ck) (.slice none 0 0)).toArray (0, 0) _ rfl (l20.setRow _) Tryz.underlying39 rfl sz39) rfl ?_
  exact ⟨tmC 5 (whr sz s) (name sz [2] (take s)).1 [] 0 (.slice Ak nk ck) (.slice none 0 0), rfl, HT.mono (HT.setRow (HT.of_acc 5 (whr sz s) (name sz [2] (take s)).1 [] 0 hA24 (Acc.nil _ _)) (fun g (hg : w.heap.size + 1 ≤ g) => by omega) _) (fun g (hg : w.heap.size + 1 ≤ g) _ => by omega), hg19.pa.setRow hplt _, hk21.setRow (Nat.le_refl _) _⟩

set_option maxRecDepth 100000 in
set_option maxHeartbeats 2000000 in
theorem here_1 (ex : St → Tm × St) (pb sz n : Nat) (hxn : Nice ex) (hx : ExOK ex pb sz n) (_hways : WaysOK ex pb sz n) (_hcl : ClausesOK ex pb sz n) (_hassign : SideOK 77 (assign sz ex) pb sz n) (w : World) (s : St) (hp : PA w pb sz s) (hn : s.ws.length ≤ n) (H0 : Hid (isT [tFun] s = false)) (H1 : Hid (isT [tLet] s = true)) :
    Calls Tryz.prog 60 #[.pointer (some ⟨pb, 0, none⟩)] w (TermEnd pb sz (fun g => w.heap.size ≤ g) w (exprHere sz ex s)) := by
  have hplt := hp.lt
  have l0 := Lies.new w 39 zC
  have hp0 := hp.alloc (.cells zC 39)
  have hk0 := (Kp.refl pb w).alloc (.cells zC 39)
  unfold zC at l0 hp0 hk0
  have hr : exprHere sz ex s = (.mk 7 (whr sz s) (name sz [2] (take s)).1 [] 0 (behind sz ex [tEq, tIn] (name sz [2] (take s)).2).1 [], (behind sz ex [tEq, tIn] (name sz [2] (take s)).2).2) := by unfold exprHere; simp only [H0.out, H1.out, Bool.false_eq_true, if_false, if_true]
  have HR := Lib.hid hr
  clear hr
  rw [HR.out]
  clear HR
  have hpos := isT_pos H1.out
  have htl := take_lt hpos
  go_enter Tryz.func60, Tryz.ntmps60
  go_wp2_with fail
  refine (where_any _ pb sz s hp0).mono ?_
  rintro e w' ⟨rfl, rfl⟩
  have hb1 := below_new (w.alloc (.cells #[.int .i64 0, .int .i64 0, .string ⟨#[]⟩, .string ⟨#[]⟩, .int .i64 0, .slice none 0 0, .slice none 0 0, .int .i64 0, .string ⟨#[]⟩, .int .i64 0, .slice none 0 0, .slice none 0 0, .int .i64 0, .slice none 0 0, .int .i64 0, .int .i64 0, .string ⟨#[]⟩, .int .i64 0, .slice none 0 0, .slice none 0 0, .int .i64 0] 39)) (.cells #[.string (ba tFun)] 9)
  have hS2 : Sl ((w.alloc (.cells #[.int .i64 0, .int .i64 0, .string ⟨#[]⟩, .string ⟨#[]⟩, .int .i64 0, .slice none 0 0, .slice none 0 0, .int .i64 0, .string ⟨#[]⟩, .int .i64 0, .slice none 0 0, .slice none 0 0, .int .i64 0, .slice none 0 0, .int .i64 0, .int .i64 0, .string ⟨#[]⟩, .int .i64 0, .slice none 0 0, .slice none 0 0, .int .i64 0] 39)).alloc (.cells #[.string (ba tFun)] 9)) (.slice (some ⟨w.heap.size + 1, 0, none⟩) 1 1) [tFun] := Sl.new [tFun] (by simp) (by simp) 1 1 rfl rfl
  have hi3 := takeIf_no _ [tFun] _ pb sz s (hp0.below hb1) hS2 H0.out
  have HI4 := Lib.hid hi3
  clear hi3 hS2
  go_wp2_with fail
  refine HI4.out.mono ?_
  rintro e w8 ⟨rfl, hb9⟩
  have l5 := (l0.later hb1).later hb9
  have hk6 := (hk0.below hb1 hk0.size).below hb9 (Nat.le_trans hk0.size hb1.size)
  have hp7 := (hp0.below hb1).below hb9
  have hb10 := below_new (w8) (.cells #[.string (ba tLet)] 9)
  have hS11 : Sl ((w8).alloc (.cells #[.string (ba tLet)] 9)) (.slice (some ⟨w8.heap.size, 0, none⟩) 1 1) [tLet] := Sl.new [tLet] (by simp) (by simp) 1 1 rfl rfl
  have hi12 := takeIf_yes _ [tLet] _ pb sz s (hp7.below hb10) hS11 H1.out
  have HI13 := Lib.hid hi12
  clear hi12 hS11
  go_wp2_with fail
  refine HI13.out.mono ?_
  rintro e w17 ⟨rfl, hb18⟩
  have l14 := hb18.kp.lies (l5.later hb10) (by omega)
  have hk15 := (hk6.below hb10 hk6.size).trans hb18.kp
  have hp16 := hb18.pa
  go_wp2_with fail
  refine (small_any _ pb sz (take s) hp16).mono ?_
  rintro e w20 ⟨rfl, hg19⟩
  have l21 := hg19.kp.lies l14 (by omega)
  have hk22 := hk15.trans hg19.kp
  have hb23 := below_new (w20) (.cells #[.string (ba tEq), .string (ba tIn)] 9)
  have hS24 : Sl ((w20).alloc (.cells #[.string (ba tEq), .string (ba tIn)] 9)) (.slice (some ⟨w20.heap.size, 0, none⟩) 2 2) [tEq, tIn] := Sl.new [tEq, tIn] (by simp) (by simp) 2 2 rfl rfl
  have hbd : ∀ t, [tEq, tIn][0]? = some t → (must1 sz t ((name sz [2] (take s)).2)).ws.length < n := by
    intro t ht
    simp at ht
    subst ht
    have h1 := (le_must1 sz tEq (name sz [2] (take s)).2).1; have h2 := (nice_name sz [2] (take s)).1; omega
  have hi25 := behind_any ex pb sz n hxn hx _ ((name sz [2] (take s)).2) (hg19.pa.below hb23) _ [tEq, tIn] hS24 (Off.new (by have := l21.lt; omega)) hbd
  have HI26 := Lib.hid hi25
  clear hi25 hS24 hbd
  have hszb : w.heap.size + 1 ≤ (w20).heap.size := l21.lt
  go_wp2_with fail
  refine HI26.out.mono ?_
  rintro e w27 ⟨v32, rfl, hA31, hg28⟩
  have l29 := hg28.kp.lies (l21.later hb23) (by omega)
  have hk30 := (hk22.below hb23 hk22.size).trans hg28.kp
  have hszb2 := hb23.size
  have hA33 := hA31.low tmOK (lo' := w.heap.size + 1) (by omega)
  obtain ⟨Ak, nk, ck, rfl⟩ := hA33.slice
  go_wp2_with (first | (refine wpList_store_rowTo rfl 39 (.tmp 2) (.tmp 33) rfl rfl _ _ rfl rfl 39 _ l29 sz39 rfl (by kernel_rfl) ?_))
  refine bodyPost_ret (v := .agg (tmC 7 (whr sz s) (name sz [2] (take s)).1 [] 0 (.slice Ak nk ck) (.slice none 0 0)).toArray) (results_cell_row rfl _ _ w.heap.size 39 (tmC 7 (whr sz s) (name sz [2] (take s)).1 [] 0 (.slice Ak nk ck) (.slice none 0 0)).toArray (0, 0) _ rfl (l29.setRow _) Tryz.underlying39 rfl sz39) rfl ?_
  exact ⟨tmC 7 (whr sz s) (name sz [2] (take s)).1 [] 0 (.slice Ak nk ck) (.slice none 0 0), rfl, HT.mono (HT.setRow (HT.of_acc 7 (whr sz s) (name sz [2] (take s)).1 [] 0 hA33 (Acc.nil _ _)) (fun g (hg : w.heap.size + 1 ≤ g) => by omega) _) (fun g (hg : w.heap.size + 1 ≤ g) _ => by omega), hg28.pa.setRow hplt _, hk30.setRow (Nat.le_refl _) _⟩

set_option maxRecDepth 100000 in
set_option maxHeartbeats 2000000 in
theorem here_2 (ex : St → Tm × St) (pb sz n : Nat) (hxn : Nice ex) (hx : ExOK ex pb sz n) (_hways : WaysOK ex pb sz n) (_hcl : ClausesOK ex pb sz n) (_hassign : SideOK 77 (assign sz ex) pb sz n) (w : World) (s : St) (hp : PA w pb sz s) (hn : s.ws.length ≤ n) (H0 : Hid (isT [tFun] s = false)) (H1 : Hid (isT [tLet] s = false)) (H2 : Hid (isT [tRec] s = true)) :
    Calls Tryz.prog 60 #[.pointer (some ⟨pb, 0, none⟩)] w (TermEnd pb sz (fun g => w.heap.size ≤ g) w (exprHere sz ex s)) := by
  have hplt := hp.lt
  have l0 := Lies.new w 39 zC
  have hp0 := hp.alloc (.cells zC 39)
  have hk0 := (Kp.refl pb w).alloc (.cells zC 39)
  unfold zC at l0 hp0 hk0
  have hr : exprHere sz ex s = (.mk 8 (whr sz s) (name sz [2] (take s)).1 (name sz [2] (name sz [2] (take s)).2).1 0 (behind sz ex [tEq, tIn] (name sz [2] (name sz [2] (take s)).2).2).1 [], (behind sz ex [tEq, tIn] (name sz [2] (name sz [2] (take s)).2).2).2) := by unfold exprHere; simp only [H0.out, H1.out, H2.out, Bool.false_eq_true, if_false, if_true]
  have HR := Lib.hid hr
  clear hr
  rw [HR.out]
  clear HR
  have hpos := isT_pos H2.out
  have htl := take_lt hpos
  go_enter Tryz.func60, Tryz.ntmps60
  go_wp2_with fail
  refine (where_any _ pb sz s hp0).mono ?_
  rintro e w' ⟨rfl, rfl⟩
  have hb1 := below_new (w.alloc (.cells #[.int .i64 0, .int .i64 0, .string ⟨#[]⟩, .string ⟨#[]⟩, .int .i64 0, .slice none 0 0, .slice none 0 0, .int .i64 0, .string ⟨#[]⟩, .int .i64 0, .slice none 0 0, .slice none 0 0, .int .i64 0, .slice none 0 0, .int .i64 0, .int .i64 0, .string ⟨#[]⟩, .int .i64 0, .slice none 0 0, .slice none 0 0, .int .i64 0] 39)) (.cells #[.string (ba tFun)] 9)
  have hS2 : Sl ((w.alloc (.cells #[.int .i64 0, .int .i64 0, .string ⟨#[]⟩, .string ⟨#[]⟩, .int .i64 0, .slice none 0 0, .slice none 0 0, .int .i64 0, .string ⟨#[]⟩, .int .i64 0, .slice none 0 0, .slice none 0 0, .int .i64 0, .slice none 0 0, .int .i64 0, .int .i64 0, .string ⟨#[]⟩, .int .i64 0, .slice none 0 0, .slice none 0 0, .int .i64 0] 39)).alloc (.cells #[.string (ba tFun)] 9)) (.slice (some ⟨w.heap.size + 1, 0, none⟩) 1 1) [tFun] := Sl.new [tFun] (by simp) (by simp) 1 1 rfl rfl
  have hi3 := takeIf_no _ [tFun] _ pb sz s (hp0.below hb1) hS2 H0.out
  have HI4 := Lib.hid hi3
  clear hi3 hS2
  go_wp2_with fail
  refine HI4.out.mono ?_
  rintro e w8 ⟨rfl, hb9⟩
  have l5 := (l0.later hb1).later hb9
  have hk6 := (hk0.below hb1 hk0.size).below hb9 (Nat.le_trans hk0.size hb1.size)
  have hp7 := (hp0.below hb1).below hb9
  have hb10 := below_new (w8) (.cells #[.string (ba tLet)] 9)
  have hS11 : Sl ((w8).alloc (.cells #[.string (ba tLet)] 9)) (.slice (some ⟨w8.heap.size, 0, none⟩) 1 1) [tLet] := Sl.new [tLet] (by simp) (by simp) 1 1 rfl rfl
  have hi12 := takeIf_no _ [tLet] _ pb sz s (hp7.below hb10) hS11 H1.out
  have HI13 := Lib.hid hi12
  clear hi12 hS11
  go_wp2_with fail
  refine HI13.out.mono ?_
  rintro e w17 ⟨rfl, hb18⟩
  have l14 := (l5.later hb10).later hb18
  have hk15 := (hk6.below hb10 hk6.size).below hb18 (Nat.le_trans hk6.size hb10.size)
  have hp16 := (hp7.below hb10).below hb18
  have hb19 := below_new (w17) (.cells #[.string (ba tRec)] 9)
  have hS20 : Sl ((w17).alloc (.cells #[.string (ba tRec)] 9)) (.slice (some ⟨w17.heap.size, 0, none⟩) 1 1) [tRec] := Sl.new [tRec] (by simp) (by simp) 1 1 rfl rfl
  have hi21 := takeIf_yes _ [tRec] _ pb sz s (hp16.below hb19) hS20 H2.out
  have HI22 := Lib.hid hi21
  clear hi21 hS20
  go_wp2_with fail
  refine HI22.out.mono ?_
  rintro e w26 ⟨rfl, hb27⟩
  have l23 := hb27.kp.lies (l14.later hb19) (by omega)
  have hk24 := (hk15.below hb19 hk15.size).trans hb27.kp
  have hp25 := hb27.pa
  go_wp2_with fail
  refine (small_any _ pb sz (take s) hp25).mono ?_
  rintro e w29 ⟨rfl, hg28⟩
  have l30 := hg28.kp.lies l23 (by omega)
  have hk31 := hk24.trans hg28.kp
  go_wp2_with fail
  refine (small_any _ pb sz ((name sz [2] (take s)).2) hg28.pa).mono ?_
  rintro e w33 ⟨rfl, hg32⟩
  have l34 := hg32.kp.lies l30 (by omega)
  have hk35 := hk31.trans hg32.kp
  have hb36 := below_new (w33) (.cells #[.string (ba tEq), .string (ba tIn)] 9)
  have hS37 : Sl ((w33).alloc (.cells #[.string (ba tEq), .string (ba tIn)] 9)) (.slice (some ⟨w33.heap.size, 0, none⟩) 2 2) [tEq, tIn] := Sl.new [tEq, tIn] (by simp) (by simp) 2 2 rfl rfl
  have hbd : ∀ t, [tEq, tIn][0]? = some t → (must1 sz t ((name sz [2] (name sz [2] (take s)).2).2)).ws.length < n := by
    intro t ht
    simp at ht
    subst ht
    have h1 := (le_must1 sz tEq (name sz [2] (name sz [2] (take s)).2).2).1; have h2 := (nice_name sz [2] (take s)).1; have h3 := (nice_name sz [2] (name sz [2] (take s)).2).1; omega
  have hi38 := behind_any ex pb sz n hxn hx _ ((name sz [2] (name sz [2] (take s)).2).2) (hg32.pa.below hb36) _ [tEq, tIn] hS37 (Off.new (by have := l34.lt; omega)) hbd
  have HI39 := Lib.hid hi38
  clear hi38 hS37 hbd
  have hszb : w.heap.size + 1 ≤ (w33).heap.size := l34.lt
  go_wp2_with fail
  refine HI39.out.mono ?_
  rintro e w40 ⟨v45, rfl, hA44, hg41⟩
  have l42 := hg41.kp.lies (l34.later hb36) (by omega)
  have hk43 := (hk35.below hb36 hk35.size).trans hg41.kp
  have hszb2 := hb36.size
  have hA46 := hA44.low tmOK (lo' := w.heap.size + 1) (by omega)
  obtain ⟨Ak, nk, ck, rfl⟩ := hA46.slice
  go_wp2_with (first | (refine wpList_store_rowTo rfl 39 (.tmp 2) (.tmp 48) rfl rfl _ _ rfl rfl 39 _ l42 sz39 rfl (by kernel_rfl) ?_))
  refine bodyPost_ret (v := .agg (tmC 8 (whr sz s) (name sz [2] (take s)).1 (name sz [2] (name sz [2] (take s)).2).1 0 (.slice Ak nk ck) (.slice none 0 0)).toArray) (results_cell_row rfl _ _ w.heap.size 39 (tmC 8 (whr sz s) (name sz [2] (take s)).1 (name sz [2] (name sz [2] (take s)).2).1 0 (.slice Ak nk ck) (.slice none 0 0)).toArray (0, 0) _ rfl (l42.setRow _) Tryz.underlying39 rfl sz39) rfl ?_
  exact ⟨tmC 8 (whr sz s) (name sz [2] (take s)).1 (name sz [2] (name sz [2] (take s)).2).1 0 (.slice Ak nk ck) (.slice none 0 0), rfl, HT.mono (HT.setRow (HT.of_acc 8 (whr sz s) (name sz [2] (take s)).1 (name sz [2] (name sz [2] (take s)).2).1 0 hA46 (Acc.nil _ _)) (fun g (hg : w.heap.size + 1 ≤ g) => by omega) _) (fun g (hg : w.heap.size + 1 ≤ g) _ => by omega), hg41.pa.setRow hplt _, hk43.setRow (Nat.le_refl _) _⟩

set_option maxRecDepth 100000 in
set_option maxHeartbeats 2000000 in
theorem here_3 (ex : St → Tm × St) (pb sz n : Nat) (hxn : Nice ex) (hx : ExOK ex pb sz n) (_hways : WaysOK ex pb sz n) (_hcl : ClausesOK ex pb sz n) (_hassign : SideOK 77 (assign sz ex) pb sz n) (w : World) (s : St) (hp : PA w pb sz s) (hn : s.ws.length ≤ n) (H0 : Hid (isT [tFun] s = false)) (H1 : Hid (isT [tLet] s = false)) (H2 : Hid (isT [tRec] s = false)) (H3 : Hid (isT [tIf] s = true)) :
    Calls Tryz.prog 60 #[.pointer (some ⟨pb, 0, none⟩)] w (TermEnd pb sz (fun g => w.heap.size ≤ g) w (exprHere sz ex s)) := by
  have hplt := hp.lt
  have l0 := Lies.new w 39 zC
  have hp0 := hp.alloc (.cells zC 39)
  have hk0 := (Kp.refl pb w).alloc (.cells zC 39)
  unfold zC at l0 hp0 hk0
  have hr : exprHere sz ex s = (.mk 9 (whr sz s) [] [] 0 (behind sz ex [tIf, tThen, tElse] s).1 [], (behind sz ex [tIf, tThen, tElse] s).2) := by unfold exprHere; simp only [H0.out, H1.out, H2.out, H3.out, Bool.false_eq_true, if_false, if_true]
  have HR := Lib.hid hr
  clear hr
  rw [HR.out]
  clear HR
  have hpos := isT_pos H3.out
  go_enter Tryz.func60, Tryz.ntmps60
  go_wp2_with fail
  refine (where_any _ pb sz s hp0).mono ?_
  rintro e w' ⟨rfl, rfl⟩
  have hb1 := below_new (w.alloc (.cells #[.int .i64 0, .int .i64 0, .string ⟨#[]⟩, .string ⟨#[]⟩, .int .i64 0, .slice none 0 0, .slice none 0 0, .int .i64 0, .string ⟨#[]⟩, .int .i64 0, .slice none 0 0, .slice none 0 0, .int .i64 0, .slice none 0 0, .int .i64 0, .int .i64 0, .string ⟨#[]⟩, .int .i64 0, .slice none 0 0, .slice none 0 0, .int .i64 0] 39)) (.cells #[.string (ba tFun)] 9)
  have hS2 : Sl ((w.alloc (.cells #[.int .i64 0, .int .i64 0, .string ⟨#[]⟩, .string ⟨#[]⟩, .int .i64 0, .slice none 0 0, .slice none 0 0, .int .i64 0, .string ⟨#[]⟩, .int .i64 0, .slice none 0 0, .slice none 0 0, .int .i64 0, .slice none 0 0, .int .i64 0, .int .i64 0, .string ⟨#[]⟩, .int .i64 0, .slice none 0 0, .slice none 0 0, .int .i64 0] 39)).alloc (.cells #[.string (ba tFun)] 9)) (.slice (some ⟨w.heap.size + 1, 0, none⟩) 1 1) [tFun] := Sl.new [tFun] (by simp) (by simp) 1 1 rfl rfl
  have hi3 := takeIf_no _ [tFun] _ pb sz s (hp0.below hb1) hS2 H0.out
  have HI4 := Lib.hid hi3
  clear hi3 hS2
  go_wp2_with fail
  refine HI4.out.mono ?_
  rintro e w8 ⟨rfl, hb9⟩
  have l5 := (l0.later hb1).later hb9
  have hk6 := (hk0.below hb1 hk0.size).below hb9 (Nat.le_trans hk0.size hb1.size)
  have hp7 := (hp0.below hb1).below hb9
  have hb10 := below_new (w8) (.cells #[.string (ba tLet)] 9)
  have hS11 : Sl ((w8).alloc (.cells #[.string (ba tLet)] 9)) (.slice (some ⟨w8.heap.size, 0, none⟩) 1 1) [tLet] := Sl.new [tLet] (by simp) (by simp) 1 1 rfl rfl
  have hi12 := takeIf_no _ [tLet] _ pb sz s (hp7.below hb10) hS11 H1.out
  have HI13 := Lib.hid hi12
  clear hi12 hS11
  go_wp2_with fail
  refine HI13.out.mono ?_
  rintro e w17 ⟨rfl, hb18⟩
  have l14 := (l5.later hb10).later hb18
  have hk15 := (hk6.below hb10 hk6.size).below hb18 (Nat.le_trans hk6.size hb10.size)
  have hp16 := (hp7.below hb10).below hb18
  have hb19 := below_new (w17) (.cells #[.string (ba tRec)] 9)
  have hS20 : Sl ((w17).alloc (.cells #[.string (ba tRec)] 9)) (.slice (some ⟨w17.heap.size, 0, none⟩) 1 1) [tRec] := Sl.new [tRec] (by simp) (by simp) 1 1 rfl rfl
  have hi21 := takeIf_no _ [tRec] _ pb sz s (hp16.below hb19) hS20 H2.out
  have HI22 := Lib.hid hi21
  clear hi21 hS20
  go_wp2_with fail
  refine HI22.out.mono ?_
  rintro e w26 ⟨rfl, hb27⟩
  have l23 := (l14.later hb19).later hb27
  have hk24 := (hk15.below hb19 hk15.size).below hb27 (Nat.le_trans hk15.size hb19.size)
  have hp25 := (hp16.below hb19).below hb27
  have hb28 := below_new (w26) (.cells #[.string (ba tIf)] 9)
  have hS29 : Sl ((w26).alloc (.cells #[.string (ba tIf)] 9)) (.slice (some ⟨w26.heap.size, 0, none⟩) 1 1) [tIf] := Sl.new [tIf] (by simp) (by simp) 1 1 rfl rfl
  have hi30 := is_any _ [tIf] _ pb sz s (hp25.below hb28) hS29
  rw [H3.out] at hi30
  have HI31 := Lib.hid hi30
  clear hi30 hS29
  go_wp2_with fail
  refine HI31.out.mono ?_
  rintro e w35 ⟨rfl, hb36⟩
  have l32 := (l23.later hb28).later hb36
  have hk33 := (hk24.below hb28 hk24.size).below hb36 (Nat.le_trans hk24.size hb28.size)
  have hp34 := (hp25.below hb28).below hb36
  have hb37 := below_new (w35) (.cells #[.string (ba tIf), .string (ba tThen), .string (ba tElse)] 9)
  have hS38 : Sl ((w35).alloc (.cells #[.string (ba tIf), .string (ba tThen), .string (ba tElse)] 9)) (.slice (some ⟨w35.heap.size, 0, none⟩) 3 3) [tIf, tThen, tElse] := Sl.new [tIf, tThen, tElse] (by simp) (by simp) 3 3 rfl rfl
  have hbd : ∀ t, [tIf, tThen, tElse][0]? = some t → (must1 sz t (s)).ws.length < n := by
    intro t ht
    simp at ht
    subst ht
    have := must1_lt (sz := sz) H3.out; omega
  have hi39 := behind_any ex pb sz n hxn hx _ (s) (hp34.below hb37) _ [tIf, tThen, tElse] hS38 (Off.new (by have := l32.lt; omega)) hbd
  have HI40 := Lib.hid hi39
  clear hi39 hS38 hbd
  have hszb : w.heap.size + 1 ≤ (w35).heap.size := l32.lt
  go_wp2_with fail
  refine HI40.out.mono ?_
  rintro e w41 ⟨v46, rfl, hA45, hg42⟩
  have l43 := hg42.kp.lies (l32.later hb37) (by omega)
  have hk44 := (hk33.below hb37 hk33.size).trans hg42.kp
  have hszb2 := hb37.size
  have hA47 := hA45.low tmOK (lo' := w.heap.size + 1) (by omega)
  obtain ⟨Ak, nk, ck, rfl⟩ := hA47.slice
  go_wp2_with (first | (refine wpList_store_rowTo rfl 39 (.tmp 2) (.tmp 59) rfl rfl _ _ rfl rfl 39 _ l43 sz39 rfl (by kernel_rfl) ?_))
  refine bodyPost_ret (v := .agg (tmC 9 (whr sz s) [] [] 0 (.slice Ak nk ck) (.slice none 0 0)).toArray) (results_cell_row rfl _ _ w.heap.size 39 (tmC 9 (whr sz s) [] [] 0 (.slice Ak nk ck) (.slice none 0 0)).toArray (0, 0) _ rfl (l43.setRow _) Tryz.underlying39 rfl sz39) rfl ?_
  exact ⟨tmC 9 (whr sz s) [] [] 0 (.slice Ak nk ck) (.slice none 0 0), rfl, HT.mono (HT.setRow (HT.of_acc 9 (whr sz s) [] [] 0 hA47 (Acc.nil _ _)) (fun g (hg : w.heap.size + 1 ≤ g) => by omega) _) (fun g (hg : w.heap.size + 1 ≤ g) _ => by omega), hg42.pa.setRow hplt _, hk44.setRow (Nat.le_refl _) _⟩

set_option maxRecDepth 100000 in
set_option maxHeartbeats 2000000 in
theorem here_4 (ex : St → Tm × St) (pb sz n : Nat) (hxn : Nice ex) (hx : ExOK ex pb sz n) (hways : WaysOK ex pb sz n) (_hcl : ClausesOK ex pb sz n) (_hassign : SideOK 77 (assign sz ex) pb sz n) (w : World) (s : St) (hp : PA w pb sz s) (hn : s.ws.length ≤ n) (H0 : Hid (isT [tFun] s = false)) (H1 : Hid (isT [tLet] s = false)) (H2 : Hid (isT [tRec] s = false)) (H3 : Hid (isT [tIf] s = false)) (H4 : Hid (isT [tMatch] s = true)) :
    Calls Tryz.prog 60 #[.pointer (some ⟨pb, 0, none⟩)] w (TermEnd pb sz (fun g => w.heap.size ≤ g) w (exprHere sz ex s)) := by
  have hplt := hp.lt
  have l0 := Lies.new w 39 zC
  have hp0 := hp.alloc (.cells zC 39)
  have hk0 := (Kp.refl pb w).alloc (.cells zC 39)
  unfold zC at l0 hp0 hk0
  have hr : exprHere sz ex s = (.mk 12 (whr sz s) [] [] 0 (behind sz ex [tMatch] s).1 (Pz.ways sz ex (behind sz ex [tMatch] s).2).1, (Pz.ways sz ex (behind sz ex [tMatch] s).2).2) := by unfold exprHere; simp only [H0.out, H1.out, H2.out, H3.out, H4.out, Bool.false_eq_true, if_false, if_true]
  have HR := Lib.hid hr
  clear hr
  rw [HR.out]
  clear HR
  have hpos := isT_pos H4.out
  go_enter Tryz.func60, Tryz.ntmps60
  go_wp2_with fail
  refine (where_any _ pb sz s hp0).mono ?_
  rintro e w' ⟨rfl, rfl⟩
  have hb1 := below_new (w.alloc (.cells #[.int .i64 0, .int .i64 0, .string ⟨#[]⟩, .string ⟨#[]⟩, .int .i64 0, .slice none 0 0, .slice none 0 0, .int .i64 0, .string ⟨#[]⟩, .int .i64 0, .slice none 0 0, .slice none 0 0, .int .i64 0, .slice none 0 0, .int .i64 0, .int .i64 0, .string ⟨#[]⟩, .int .i64 0, .slice none 0 0, .slice none 0 0, .int .i64 0] 39)) (.cells #[.string (ba tFun)] 9)
  have hS2 : Sl ((w.alloc (.cells #[.int .i64 0, .int .i64 0, .string ⟨#[]⟩, .string ⟨#[]⟩, .int .i64 0, .slice none 0 0, .slice none 0 0, .int .i64 0, .string ⟨#[]⟩, .int .i64 0, .slice none 0 0, .slice none 0 0, .int .i64 0, .slice none 0 0, .int .i64 0, .int .i64 0, .string ⟨#[]⟩, .int .i64 0, .slice none 0 0, .slice none 0 0, .int .i64 0] 39)).alloc (.cells #[.string (ba tFun)] 9)) (.slice (some ⟨w.heap.size + 1, 0, none⟩) 1 1) [tFun] := Sl.new [tFun] (by simp) (by simp) 1 1 rfl rfl
  have hi3 := takeIf_no _ [tFun] _ pb sz s (hp0.below hb1) hS2 H0.out
  have HI4 := Lib.hid hi3
  clear hi3 hS2
  go_wp2_with fail
  refine HI4.out.mono ?_
  rintro e w8 ⟨rfl, hb9⟩
  have l5 := (l0.later hb1).later hb9
  have hk6 := (hk0.below hb1 hk0.size).below hb9 (Nat.le_trans hk0.size hb1.size)
  have hp7 := (hp0.below hb1).below hb9
  have hb10 := below_new (w8) (.cells #[.string (ba tLet)] 9)
  have hS11 : Sl ((w8).alloc (.cells #[.string (ba tLet)] 9)) (.slice (some ⟨w8.heap.size, 0, none⟩) 1 1) [tLet] := Sl.new [tLet] (by simp) (by simp) 1 1 rfl rfl
  have hi12 := takeIf_no _ [tLet] _ pb sz s (hp7.below hb10) hS11 H1.out
  have HI13 := Lib.hid hi12
  clear hi12 hS11
  go_wp2_with fail
  refine HI13.out.mono ?_
  rintro e w17 ⟨rfl, hb18⟩
  have l14 := (l5.later hb10).later hb18
  have hk15 := (hk6.below hb10 hk6.size).below hb18 (Nat.le_trans hk6.size hb10.size)
  have hp16 := (hp7.below hb10).below hb18
  have hb19 := below_new (w17) (.cells #[.string (ba tRec)] 9)
  have hS20 : Sl ((w17).alloc (.cells #[.string (ba tRec)] 9)) (.slice (some ⟨w17.heap.size, 0, none⟩) 1 1) [tRec] := Sl.new [tRec] (by simp) (by simp) 1 1 rfl rfl
  have hi21 := takeIf_no _ [tRec] _ pb sz s (hp16.below hb19) hS20 H2.out
  have HI22 := Lib.hid hi21
  clear hi21 hS20
  go_wp2_with fail
  refine HI22.out.mono ?_
  rintro e w26 ⟨rfl, hb27⟩
  have l23 := (l14.later hb19).later hb27
  have hk24 := (hk15.below hb19 hk15.size).below hb27 (Nat.le_trans hk15.size hb19.size)
  have hp25 := (hp16.below hb19).below hb27
  have hb28 := below_new (w26) (.cells #[.string (ba tIf)] 9)
  have hS29 : Sl ((w26).alloc (.cells #[.string (ba tIf)] 9)) (.slice (some ⟨w26.heap.size, 0, none⟩) 1 1) [tIf] := Sl.new [tIf] (by simp) (by simp) 1 1 rfl rfl
  have hi30 := is_any _ [tIf] _ pb sz s (hp25.below hb28) hS29
  rw [H3.out] at hi30
  have HI31 := Lib.hid hi30
  clear hi30 hS29
  go_wp2_with fail
  refine HI31.out.mono ?_
  rintro e w35 ⟨rfl, hb36⟩
  have l32 := (l23.later hb28).later hb36
  have hk33 := (hk24.below hb28 hk24.size).below hb36 (Nat.le_trans hk24.size hb28.size)
  have hp34 := (hp25.below hb28).below hb36
  have hb37 := below_new (w35) (.cells #[.string (ba tMatch)] 9)
  have hS38 : Sl ((w35).alloc (.cells #[.string (ba tMatch)] 9)) (.slice (some ⟨w35.heap.size, 0, none⟩) 1 1) [tMatch] := Sl.new [tMatch] (by simp) (by simp) 1 1 rfl rfl
  have hi39 := is_any _ [tMatch] _ pb sz s (hp34.below hb37) hS38
  rw [H4.out] at hi39
  have HI40 := Lib.hid hi39
  clear hi39 hS38
  go_wp2_with fail
  refine HI40.out.mono ?_
  rintro e w44 ⟨rfl, hb45⟩
  have l41 := (l32.later hb37).later hb45
  have hk42 := (hk33.below hb37 hk33.size).below hb45 (Nat.le_trans hk33.size hb37.size)
  have hp43 := (hp34.below hb37).below hb45
  have hb46 := below_new (w44) (.cells #[.string (ba tMatch)] 9)
  have hS47 : Sl ((w44).alloc (.cells #[.string (ba tMatch)] 9)) (.slice (some ⟨w44.heap.size, 0, none⟩) 1 1) [tMatch] := Sl.new [tMatch] (by simp) (by simp) 1 1 rfl rfl
  have hbd : ∀ t, [tMatch][0]? = some t → (must1 sz t (s)).ws.length < n := by
    intro t ht
    simp at ht
    subst ht
    have := must1_lt (sz := sz) H4.out; omega
  have hi48 := behind_any ex pb sz n hxn hx _ (s) (hp43.below hb46) _ [tMatch] hS47 (Off.new (by have := l41.lt; omega)) hbd
  have HI49 := Lib.hid hi48
  clear hi48 hS47 hbd
  have hszb : w.heap.size + 1 ≤ (w44).heap.size := l41.lt
  go_wp2_with fail
  refine HI49.out.mono ?_
  rintro e w50 ⟨v55, rfl, hA54, hg51⟩
  have l52 := hg51.kp.lies (l41.later hb46) (by omega)
  have hk53 := (hk42.below hb46 hk42.size).trans hg51.kp
  have hszb2 := hb46.size
  have hA56 := hA54.low tmOK (lo' := w.heap.size + 1) (by omega)
  have hbw : ((behind sz ex [tMatch] s).2).ws.length < n := by have h1 := must1_lt (sz := sz) H4.out; have h2 := (hxn (must1 sz tMatch s)).1; show (ex (must1 sz tMatch s)).2.ws.length < n; omega
  have hszc : w.heap.size + 1 ≤ (w50).heap.size := l52.lt
  have hcw := hways (w50) ((behind sz ex [tMatch] s).2) hg51.pa hbw
  have HCW := Lib.hid hcw
  clear hcw
  go_wp2_with fail
  refine HCW.out.mono ?_
  rintro e w57 ⟨v62, rfl, hB61, hg58⟩
  have l59 := hg58.kp.lies l52 (by omega)
  have hk60 := hk53.trans hg58.kp
  have hB63 := hB61.low armOK (lo' := w.heap.size + 1) (by omega)
  have hA64 := hA56.kp tmOK hg58.kp (by omega)
  obtain ⟨Ak, nk, ck, rfl⟩ := hA64.slice
  obtain ⟨Aa, na, ca, rfl⟩ := hB63.slice
  go_wp2_with (first | (refine wpList_store_rowTo rfl 39 (.tmp 2) (.tmp 72) rfl rfl _ _ rfl rfl 39 _ l59 sz39 rfl (by kernel_rfl) ?_))
  refine bodyPost_ret (v := .agg (tmC 12 (whr sz s) [] [] 0 (.slice Ak nk ck) (.slice Aa na ca)).toArray) (results_cell_row rfl _ _ w.heap.size 39 (tmC 12 (whr sz s) [] [] 0 (.slice Ak nk ck) (.slice Aa na ca)).toArray (0, 0) _ rfl (l59.setRow _) Tryz.underlying39 rfl sz39) rfl ?_
  exact ⟨tmC 12 (whr sz s) [] [] 0 (.slice Ak nk ck) (.slice Aa na ca), rfl, HT.mono (HT.setRow (HT.of_acc 12 (whr sz s) [] [] 0 hA64 hB63) (fun g (hg : w.heap.size + 1 ≤ g) => by omega) _) (fun g (hg : w.heap.size + 1 ≤ g) _ => by omega), hg58.pa.setRow hplt _, hk60.setRow (Nat.le_refl _) _⟩

set_option maxRecDepth 100000 in
set_option maxHeartbeats 2000000 in
theorem here_5 (ex : St → Tm × St) (pb sz n : Nat) (hxn : Nice ex) (hx : ExOK ex pb sz n) (_hways : WaysOK ex pb sz n) (hcl : ClausesOK ex pb sz n) (_hassign : SideOK 77 (assign sz ex) pb sz n) (w : World) (s : St) (hp : PA w pb sz s) (hn : s.ws.length ≤ n) (H0 : Hid (isT [tFun] s = false)) (H1 : Hid (isT [tLet] s = false)) (H2 : Hid (isT [tRec] s = false)) (H3 : Hid (isT [tIf] s = false)) (H4 : Hid (isT [tMatch] s = false)) (H5 : Hid (isT [tHandle] s = true)) :
    Calls Tryz.prog 60 #[.pointer (some ⟨pb, 0, none⟩)] w (TermEnd pb sz (fun g => w.heap.size ≤ g) w (exprHere sz ex s)) := by
  have hplt := hp.lt
  have l0 := Lies.new w 39 zC
  have hp0 := hp.alloc (.cells zC 39)
  have hk0 := (Kp.refl pb w).alloc (.cells zC 39)
  unfold zC at l0 hp0 hk0
  have hr : exprHere sz ex s = (.mk 14 (whr sz s) (name sz [3] (take s)).1 [] 0 [(ex (name sz [3] (take s)).2).1] (clauses sz ex (ex (name sz [3] (take s)).2).2).1, (clauses sz ex (ex (name sz [3] (take s)).2).2).2) := by unfold exprHere; simp only [H0.out, H1.out, H2.out, H3.out, H4.out, H5.out, Bool.false_eq_true, if_false, if_true]
  have HR := Lib.hid hr
  clear hr
  rw [HR.out]
  clear HR
  have hpos := isT_pos H5.out
  have htl := take_lt hpos
  go_enter Tryz.func60, Tryz.ntmps60
  go_wp2_with fail
  refine (where_any _ pb sz s hp0).mono ?_
  rintro e w' ⟨rfl, rfl⟩
  have hb1 := below_new (w.alloc (.cells #[.int .i64 0, .int .i64 0, .string ⟨#[]⟩, .string ⟨#[]⟩, .int .i64 0, .slice none 0 0, .slice none 0 0, .int .i64 0, .string ⟨#[]⟩, .int .i64 0, .slice none 0 0, .slice none 0 0, .int .i64 0, .slice none 0 0, .int .i64 0, .int .i64 0, .string ⟨#[]⟩, .int .i64 0, .slice none 0 0, .slice none 0 0, .int .i64 0] 39)) (.cells #[.string (ba tFun)] 9)
  have hS2 : Sl ((w.alloc (.cells #[.int .i64 0, .int .i64 0, .string ⟨#[]⟩, .string ⟨#[]⟩, .int .i64 0, .slice none 0 0, .slice none 0 0, .int .i64 0, .string ⟨#[]⟩, .int .i64 0, .slice none 0 0, .slice none 0 0, .int .i64 0, .slice none 0 0, .int .i64 0, .int .i64 0, .string ⟨#[]⟩, .int .i64 0, .slice none 0 0, .slice none 0 0, .int .i64 0] 39)).alloc (.cells #[.string (ba tFun)] 9)) (.slice (some ⟨w.heap.size + 1, 0, none⟩) 1 1) [tFun] := Sl.new [tFun] (by simp) (by simp) 1 1 rfl rfl
  have hi3 := takeIf_no _ [tFun] _ pb sz s (hp0.below hb1) hS2 H0.out
  have HI4 := Lib.hid hi3
  clear hi3 hS2
  go_wp2_with fail
  refine HI4.out.mono ?_
  rintro e w8 ⟨rfl, hb9⟩
  have l5 := (l0.later hb1).later hb9
  have hk6 := (hk0.below hb1 hk0.size).below hb9 (Nat.le_trans hk0.size hb1.size)
  have hp7 := (hp0.below hb1).below hb9
  have hb10 := below_new (w8) (.cells #[.string (ba tLet)] 9)
  have hS11 : Sl ((w8).alloc (.cells #[.string (ba tLet)] 9)) (.slice (some ⟨w8.heap.size, 0, none⟩) 1 1) [tLet] := Sl.new [tLet] (by simp) (by simp) 1 1 rfl rfl
  have hi12 := takeIf_no _ [tLet] _ pb sz s (hp7.below hb10) hS11 H1.out
  have HI13 := Lib.hid hi12
  clear hi12 hS11
  go_wp2_with fail
  refine HI13.out.mono ?_
  rintro e w17 ⟨rfl, hb18⟩
  have l14 := (l5.later hb10).later hb18
  have hk15 := (hk6.below hb10 hk6.size).below hb18 (Nat.le_trans hk6.size hb10.size)
  have hp16 := (hp7.below hb10).below hb18
  have hb19 := below_new (w17) (.cells #[.string (ba tRec)] 9)
  have hS20 : Sl ((w17).alloc (.cells #[.string (ba tRec)] 9)) (.slice (some ⟨w17.heap.size, 0, none⟩) 1 1) [tRec] := Sl.new [tRec] (by simp) (by simp) 1 1 rfl rfl
  have hi21 := takeIf_no _ [tRec] _ pb sz s (hp16.below hb19) hS20 H2.out
  have HI22 := Lib.hid hi21
  clear hi21 hS20
  go_wp2_with fail
  refine HI22.out.mono ?_
  rintro e w26 ⟨rfl, hb27⟩
  have l23 := (l14.later hb19).later hb27
  have hk24 := (hk15.below hb19 hk15.size).below hb27 (Nat.le_trans hk15.size hb19.size)
  have hp25 := (hp16.below hb19).below hb27
  have hb28 := below_new (w26) (.cells #[.string (ba tIf)] 9)
  have hS29 : Sl ((w26).alloc (.cells #[.string (ba tIf)] 9)) (.slice (some ⟨w26.heap.size, 0, none⟩) 1 1) [tIf] := Sl.new [tIf] (by simp) (by simp) 1 1 rfl rfl
  have hi30 := is_any _ [tIf] _ pb sz s (hp25.below hb28) hS29
  rw [H3.out] at hi30
  have HI31 := Lib.hid hi30
  clear hi30 hS29
  go_wp2_with fail
  refine HI31.out.mono ?_
  rintro e w35 ⟨rfl, hb36⟩
  have l32 := (l23.later hb28).later hb36
  have hk33 := (hk24.below hb28 hk24.size).below hb36 (Nat.le_trans hk24.size hb28.size)
  have hp34 := (hp25.below hb28).below hb36
  have hb37 := below_new (w35) (.cells #[.string (ba tMatch)] 9)
  have hS38 : Sl ((w35).alloc (.cells #[.string (ba tMatch)] 9)) (.slice (some ⟨w35.heap.size, 0, none⟩) 1 1) [tMatch] := Sl.new [tMatch] (by simp) (by simp) 1 1 rfl rfl
  have hi39 := is_any _ [tMatch] _ pb sz s (hp34.below hb37) hS38
  rw [H4.out] at hi39
  have HI40 := Lib.hid hi39
  clear hi39 hS38
  go_wp2_with fail
  refine HI40.out.mono ?_
  rintro e w44 ⟨rfl, hb45⟩
  have l41 := (l32.later hb37).later hb45
  have hk42 := (hk33.below hb37 hk33.size).below hb45 (Nat.le_trans hk33.size hb37.size)
  have hp43 := (hp34.below hb37).below hb45
  have hb46 := below_new (w44) (.cells #[.string (ba tHandle)] 9)
  have hS47 : Sl ((w44).alloc (.cells #[.string (ba tHandle)] 9)) (.slice (some ⟨w44.heap.size, 0, none⟩) 1 1) [tHandle] := Sl.new [tHandle] (by simp) (by simp) 1 1 rfl rfl
  have hi48 := takeIf_yes _ [tHandle] _ pb sz s (hp43.below hb46) hS47 H5.out
  have HI49 := Lib.hid hi48
  clear hi48 hS47
  go_wp2_with fail
  refine HI49.out.mono ?_
  rintro e w53 ⟨rfl, hb54⟩
  have l50 := hb54.kp.lies (l41.later hb46) (by omega)
  have hk51 := (hk42.below hb46 hk42.size).trans hb54.kp
  have hp52 := hb54.pa
  go_wp2_with fail
  refine (large_any _ pb sz (take s) hp52).mono ?_
  rintro e w56 ⟨rfl, hg55⟩
  have l57 := hg55.kp.lies l50 (by omega)
  have hk58 := hk51.trans hg55.kp
  have hbx : (name sz [3] (take s)).2.ws.length < n := by have h2 := (nice_name sz [3] (take s)).1; omega
  have hszx : w.heap.size + 1 ≤ w56.heap.size := l57.lt
  have hcx := hx w56 (name sz [3] (take s)).2 hg55.pa hbx
  have HCX := Lib.hid hcx
  clear hcx
  go_wp2_with fail
  refine HCX.out.mono ?_
  rintro e wx ⟨l, rfl, ht, hgx⟩
  have lx := (hgx.kp.lies l57 (by omega)).alloc (.cells l.toArray 39)
  have kx := (hk58.trans hgx.kp).alloc (.cells l.toArray 39)
  have px := hgx.pa.alloc (.cells l.toArray 39)
  have hszx2 := hgx.kp.size
  have hlen := ht.len
  have HLN := Lib.hid hlen
  clear hlen
  have ax := Acc.one (lo := w.heap.size + 1) (w := wx) (ht.mono (Q := fun k => w.heap.size + 1 ≤ k) (fun k (hk : w56.heap.size ≤ k) _ => by omega)) (by omega)
  obtain ⟨ie, hie, hiz, his⟩ := info39
  have hbw : ((ex (name sz [3] (take s)).2).2).ws.length < n := by have h2 := (hxn (name sz [3] (take s)).2).1; omega
  have hcw := hcl (wx.alloc (.cells l.toArray 39)) ((ex (name sz [3] (take s)).2).2) px hbw
  have HCW := Lib.hid hcw
  clear hcw
  go_wp2_with (first | (refine wpList_buildSlice rfl 30 39 1 _ rfl l.toArray ie (.agg zC) Tryz.underlying30 hie hiz (by rw [his]; decide) (by rw [his]; decide) (by rw [his, Array.toList_map]; exact fill_one l HLN.out ((Array.range (1 * 21)).map ((Value.agg zC).cells[· % (Value.agg zC).cells.size]!)) (by simp)) ?_))
  refine HCW.out.mono ?_
  rintro e w59 ⟨va, rfl, hBa, hg60⟩
  have ly := hg60.kp.lies lx (by omega)
  have ky := kx.trans hg60.kp
  have hB2 := hBa.low armOK (lo' := w.heap.size + 1) (by simp; omega)
  have hA2 := ax.kp tmOK hg60.kp (by omega)
  obtain ⟨Aa, na, ca, rfl⟩ := hB2.slice
  go_wp2_with (first | (refine wpList_store_rowTo rfl 39 (.tmp 2) (.tmp 87) rfl rfl _ _ rfl rfl 39 _ ly sz39 rfl (by kernel_rfl) ?_))
  refine bodyPost_ret (v := .agg (tmC 14 (whr sz s) (name sz [3] (take s)).1 [] 0 (.slice (some ⟨wx.heap.size, 0, none⟩) 1 1) (.slice Aa na ca)).toArray) (results_cell_row rfl _ _ w.heap.size 39 (tmC 14 (whr sz s) (name sz [3] (take s)).1 [] 0 (.slice (some ⟨wx.heap.size, 0, none⟩) 1 1) (.slice Aa na ca)).toArray (0, 0) _ rfl (ly.setRow _) Tryz.underlying39 rfl sz39) rfl ?_
  exact ⟨tmC 14 (whr sz s) (name sz [3] (take s)).1 [] 0 (.slice (some ⟨wx.heap.size, 0, none⟩) 1 1) (.slice Aa na ca), rfl, HT.mono (HT.setRow (HT.of_acc 14 (whr sz s) (name sz [3] (take s)).1 [] 0 hA2 hB2) (fun g (hg : w.heap.size + 1 ≤ g) => by omega) _) (fun g (hg : w.heap.size + 1 ≤ g) _ => by omega), hg60.pa.setRow hplt _, ky.setRow (Nat.le_refl _) _⟩

set_option maxRecDepth 100000 in
set_option maxHeartbeats 2000000 in
theorem here_6 (ex : St → Tm × St) (pb sz n : Nat) (_hxn : Nice ex) (_hx : ExOK ex pb sz n) (_hways : WaysOK ex pb sz n) (_hcl : ClausesOK ex pb sz n) (hassign : SideOK 77 (assign sz ex) pb sz n) (w : World) (s : St) (hp : PA w pb sz s) (hn : s.ws.length ≤ n) (H0 : Hid (isT [tFun] s = false)) (H1 : Hid (isT [tLet] s = false)) (H2 : Hid (isT [tRec] s = false)) (H3 : Hid (isT [tIf] s = false)) (H4 : Hid (isT [tMatch] s = false)) (H5 : Hid (isT [tHandle] s = false)) :
    Calls Tryz.prog 60 #[.pointer (some ⟨pb, 0, none⟩)] w (TermEnd pb sz (fun g => w.heap.size ≤ g) w (exprHere sz ex s)) := by
  have hplt := hp.lt
  have l0 := Lies.new w 39 zC
  have hp0 := hp.alloc (.cells zC 39)
  have hk0 := (Kp.refl pb w).alloc (.cells zC 39)
  unfold zC at l0 hp0 hk0
  have hr : exprHere sz ex s = assign sz ex s := by unfold exprHere; simp only [H0.out, H1.out, H2.out, H3.out, H4.out, H5.out, Bool.false_eq_true, if_false]
  have HR := Lib.hid hr
  clear hr
  rw [HR.out]
  clear HR
  go_enter Tryz.func60, Tryz.ntmps60
  go_wp2_with fail
  refine (where_any _ pb sz s hp0).mono ?_
  rintro e w' ⟨rfl, rfl⟩
  have hb1 := below_new (w.alloc (.cells #[.int .i64 0, .int .i64 0, .string ⟨#[]⟩, .string ⟨#[]⟩, .int .i64 0, .slice none 0 0, .slice none 0 0, .int .i64 0, .string ⟨#[]⟩, .int .i64 0, .slice none 0 0, .slice none 0 0, .int .i64 0, .slice none 0 0, .int .i64 0, .int .i64 0, .string ⟨#[]⟩, .int .i64 0, .slice none 0 0, .slice none 0 0, .int .i64 0] 39)) (.cells #[.string (ba tFun)] 9)
  have hS2 : Sl ((w.alloc (.cells #[.int .i64 0, .int .i64 0, .string ⟨#[]⟩, .string ⟨#[]⟩, .int .i64 0, .slice none 0 0, .slice none 0 0, .int .i64 0, .string ⟨#[]⟩, .int .i64 0, .slice none 0 0, .slice none 0 0, .int .i64 0, .slice none 0 0, .int .i64 0, .int .i64 0, .string ⟨#[]⟩, .int .i64 0, .slice none 0 0, .slice none 0 0, .int .i64 0] 39)).alloc (.cells #[.string (ba tFun)] 9)) (.slice (some ⟨w.heap.size + 1, 0, none⟩) 1 1) [tFun] := Sl.new [tFun] (by simp) (by simp) 1 1 rfl rfl
  have hi3 := takeIf_no _ [tFun] _ pb sz s (hp0.below hb1) hS2 H0.out
  have HI4 := Lib.hid hi3
  clear hi3 hS2
  go_wp2_with fail
  refine HI4.out.mono ?_
  rintro e w8 ⟨rfl, hb9⟩
  have l5 := (l0.later hb1).later hb9
  have hk6 := (hk0.below hb1 hk0.size).below hb9 (Nat.le_trans hk0.size hb1.size)
  have hp7 := (hp0.below hb1).below hb9
  have hb10 := below_new (w8) (.cells #[.string (ba tLet)] 9)
  have hS11 : Sl ((w8).alloc (.cells #[.string (ba tLet)] 9)) (.slice (some ⟨w8.heap.size, 0, none⟩) 1 1) [tLet] := Sl.new [tLet] (by simp) (by simp) 1 1 rfl rfl
  have hi12 := takeIf_no _ [tLet] _ pb sz s (hp7.below hb10) hS11 H1.out
  have HI13 := Lib.hid hi12
  clear hi12 hS11
  go_wp2_with fail
  refine HI13.out.mono ?_
  rintro e w17 ⟨rfl, hb18⟩
  have l14 := (l5.later hb10).later hb18
  have hk15 := (hk6.below hb10 hk6.size).below hb18 (Nat.le_trans hk6.size hb10.size)
  have hp16 := (hp7.below hb10).below hb18
  have hb19 := below_new (w17) (.cells #[.string (ba tRec)] 9)
  have hS20 : Sl ((w17).alloc (.cells #[.string (ba tRec)] 9)) (.slice (some ⟨w17.heap.size, 0, none⟩) 1 1) [tRec] := Sl.new [tRec] (by simp) (by simp) 1 1 rfl rfl
  have hi21 := takeIf_no _ [tRec] _ pb sz s (hp16.below hb19) hS20 H2.out
  have HI22 := Lib.hid hi21
  clear hi21 hS20
  go_wp2_with fail
  refine HI22.out.mono ?_
  rintro e w26 ⟨rfl, hb27⟩
  have l23 := (l14.later hb19).later hb27
  have hk24 := (hk15.below hb19 hk15.size).below hb27 (Nat.le_trans hk15.size hb19.size)
  have hp25 := (hp16.below hb19).below hb27
  have hb28 := below_new (w26) (.cells #[.string (ba tIf)] 9)
  have hS29 : Sl ((w26).alloc (.cells #[.string (ba tIf)] 9)) (.slice (some ⟨w26.heap.size, 0, none⟩) 1 1) [tIf] := Sl.new [tIf] (by simp) (by simp) 1 1 rfl rfl
  have hi30 := is_any _ [tIf] _ pb sz s (hp25.below hb28) hS29
  rw [H3.out] at hi30
  have HI31 := Lib.hid hi30
  clear hi30 hS29
  go_wp2_with fail
  refine HI31.out.mono ?_
  rintro e w35 ⟨rfl, hb36⟩
  have l32 := (l23.later hb28).later hb36
  have hk33 := (hk24.below hb28 hk24.size).below hb36 (Nat.le_trans hk24.size hb28.size)
  have hp34 := (hp25.below hb28).below hb36
  have hb37 := below_new (w35) (.cells #[.string (ba tMatch)] 9)
  have hS38 : Sl ((w35).alloc (.cells #[.string (ba tMatch)] 9)) (.slice (some ⟨w35.heap.size, 0, none⟩) 1 1) [tMatch] := Sl.new [tMatch] (by simp) (by simp) 1 1 rfl rfl
  have hi39 := is_any _ [tMatch] _ pb sz s (hp34.below hb37) hS38
  rw [H4.out] at hi39
  have HI40 := Lib.hid hi39
  clear hi39 hS38
  go_wp2_with fail
  refine HI40.out.mono ?_
  rintro e w44 ⟨rfl, hb45⟩
  have l41 := (l32.later hb37).later hb45
  have hk42 := (hk33.below hb37 hk33.size).below hb45 (Nat.le_trans hk33.size hb37.size)
  have hp43 := (hp34.below hb37).below hb45
  have hb46 := below_new (w44) (.cells #[.string (ba tHandle)] 9)
  have hS47 : Sl ((w44).alloc (.cells #[.string (ba tHandle)] 9)) (.slice (some ⟨w44.heap.size, 0, none⟩) 1 1) [tHandle] := Sl.new [tHandle] (by simp) (by simp) 1 1 rfl rfl
  have hi48 := takeIf_no _ [tHandle] _ pb sz s (hp43.below hb46) hS47 H5.out
  have HI49 := Lib.hid hi48
  clear hi48 hS47
  go_wp2_with fail
  refine HI49.out.mono ?_
  rintro e w53 ⟨rfl, hb54⟩
  have l50 := (l41.later hb46).later hb54
  have hk51 := (hk42.below hb46 hk42.size).below hb54 (Nat.le_trans hk42.size hb46.size)
  have hp52 := (hp43.below hb46).below hb54
  have hca := hassign.2 (w53) s hp52 hn
  have HCA := Lib.hid hca
  clear hca
  have hszc : w.heap.size + 1 ≤ (w53).heap.size := l50.lt
  go_wp2_with fail
  refine HCA.out.mono ?_
  rintro e wz ⟨l, rfl, ht, hg⟩
  have lz := hg.kp.lies l50 (by omega)
  have kz := hk51.trans hg.kp
  have hlen := ht.len
  have HLN := Lib.hid hlen
  clear hlen
  go_wp2_with (first | (refine wpList_store_rowTo rfl 39 (.tmp 2) (.tmp 89) rfl rfl _ _ rfl rfl 39 _ lz (by rw [sz39]; simp [HLN.out]) (by simp [HLN.out]) ht.one ?_))
  refine bodyPost_ret (v := .agg l.toArray) (results_cell_row rfl _ _ w.heap.size 39 l.toArray (0, 0) _ rfl (lz.setRow _) Tryz.underlying39 rfl (by rw [sz39]; simp [HLN.out])) rfl ?_
  exact ⟨l, rfl, HT.mono (HT.setRow ht (fun g (hg : (w53).heap.size ≤ g) => by omega) _) (fun g (hg : (w53).heap.size ≤ g) _ => by omega), hg.pa.setRow hplt _, kz.setRow (Nat.le_refl _) _⟩
end Go.Proofs.YtnkfkaahjplnmaaGreatDoor

/- exprHere, whichever its way. -/
namespace Go.Proofs.YtnkfkaahjplnmaaGreatDoor
open Go.RowKit Pz

theorem here_any (ex : St → Tm × St) (pb sz n : Nat) (hxn : Nice ex) (hx : ExOK ex pb sz n) (hways : WaysOK ex pb sz n) (hcl : ClausesOK ex pb sz n) (hassign : SideOK 77 (assign sz ex) pb sz n) (w : World) (s : St) (hp : PA w pb sz s) (hn : s.ws.length ≤ n) :
    Calls Tryz.prog 60 #[.pointer (some ⟨pb, 0, none⟩)] w (TermEnd pb sz (fun g => w.heap.size ≤ g) w (exprHere sz ex s)) := by
  by_cases h0 : isT [tFun] s = true
  · exact here_0 ex pb sz n hxn hx hways hcl hassign w s hp hn (Lib.hid h0)
  rw [Bool.not_eq_true] at h0
  by_cases h1 : isT [tLet] s = true
  · exact here_1 ex pb sz n hxn hx hways hcl hassign w s hp hn (Lib.hid h0) (Lib.hid h1)
  rw [Bool.not_eq_true] at h1
  by_cases h2 : isT [tRec] s = true
  · exact here_2 ex pb sz n hxn hx hways hcl hassign w s hp hn (Lib.hid h0) (Lib.hid h1) (Lib.hid h2)
  rw [Bool.not_eq_true] at h2
  by_cases h3 : isT [tIf] s = true
  · exact here_3 ex pb sz n hxn hx hways hcl hassign w s hp hn (Lib.hid h0) (Lib.hid h1) (Lib.hid h2) (Lib.hid h3)
  rw [Bool.not_eq_true] at h3
  by_cases h4 : isT [tMatch] s = true
  · exact here_4 ex pb sz n hxn hx hways hcl hassign w s hp hn (Lib.hid h0) (Lib.hid h1) (Lib.hid h2) (Lib.hid h3) (Lib.hid h4)
  rw [Bool.not_eq_true] at h4
  by_cases h5 : isT [tHandle] s = true
  · exact here_5 ex pb sz n hxn hx hways hcl hassign w s hp hn (Lib.hid h0) (Lib.hid h1) (Lib.hid h2) (Lib.hid h3) (Lib.hid h4) (Lib.hid h5)
  rw [Bool.not_eq_true] at h5
  exact here_6 ex pb sz n hxn hx hways hcl hassign w s hp hn (Lib.hid h0) (Lib.hid h1) (Lib.hid h2) (Lib.hid h3) (Lib.hid h4) (Lib.hid h5)
end Go.Proofs.YtnkfkaahjplnmaaGreatDoor

/- The contract of what reads a way of a match. -/
namespace Go.Proofs.YtnkfkaahjplnmaaGreatDoor
open Go.RowKit Pz

theorem vars_no {s : St} (h : isOf [2] s = false) (n : Nat) : vars n s = ([], s) := by
  cases n with
  | zero => rfl
  | succ n => unfold vars; rw [h]; rfl
theorem vars_yes {s : St} (h : isOf [2] s = true) (n : Nat) : vars (n + 1) s = ((hd s).t :: (vars n (take s)).1, (vars n (take s)).2) := by rw [vars, if_pos h]
theorem info_str : (Tryz.prog.info? 9).map (fun i => (i.zero, i.size, i.bytes)) = some (some (.string ⟨#[]⟩), 1, 16) := by kernel_rfl
/-- The cells of an arm whose body is yet to be read. -/
def armC (nm : Str) (vv : Value) : List Value := [Value.string (ba nm), vv] ++ zC.toList
theorem armC_len (nm : Str) (vv : Value) : (armC nm vv).length = 23 := rfl
theorem armC_one (nm : Str) (vv : Value) (hv : vv.oneCell' = true) : (armC nm vv).toArray.all (·.oneCell') = true := arm_ones nm vv zC.toList hv zC_ones

structure WayRel (pb sz n N M : Nat) (w : World) (nm : Str) (res : List Str × St) (g : Nat) (wr : World) (zs : List Str) (vv : Value) (s : St) : Prop where
  goes : Goes pb sz w s wr
  box : Lies wr M 83 (armC nm vv).toArray
  out : Lies wr N 83 zA
  own : wr.ownsRow (M + 1) 9 1 vv zs.length (zs.map fun t => .string (ba t))
  lg : s.ws.length ≤ g
  ln : zs.length + s.ws.length < n
  res : res = (zs ++ (vars g s).1, (vars g s).2)
def WayAny (pb sz n N M : Nat) (w : World) (nm : Str) (res : List Str × St) (g : Nat) (wr : World) : Prop := ∃ zs vv s, WayRel pb sz n N M w nm res g wr zs vv s

set_option maxRecDepth 100000 in
set_option maxHeartbeats 4000000 in
theorem way_any (ex : St → Tm × St) (pb sz n : Nat) (hx : ExOK ex pb sz n) (hnb : n ≤ 2000000) (w : World) (s : St) (hp : PA w pb sz s) (hn : s.ws.length < n) :
    Calls Tryz.prog 86 #[.pointer (some ⟨pb, 0, none⟩)] w (ItEnd ArmIt pb sz w (way sz ex s)) := by
  have hplt := hp.lt
  have l0 := Lies.new w 83 zA
  have hp0 := hp.alloc (.cells zA 83)
  have hk0 := (Kp.refl pb w).alloc (.cells zA 83)
  have hni := nice_name sz [3] s
  have hla := large_any _ pb sz s hp0
  unfold way
  dsimp only
  generalize name sz [3] s = R at hla hni ⊢
  have HLA := Lib.hid hla
  clear hla
  have lw1 := fun w1 : World => Lies.new w1 83 zA
  unfold zA zC at l0 hp0 hk0 HLA lw1
  go_enter Tryz.func86, Tryz.ntmps86
  go_wp2_with fail
  refine HLA.out.mono ?_
  rintro e w1 ⟨rfl, hg1⟩
  have l1 := hg1.kp.lies l0 (by omega)
  have lz := lw1 w1
  clear lw1 HLA l0
  have hs65 : (Tryz.prog.info? 83).map (·.size) = some (armC R.1 (.slice none 0 0)).toArray.size := by rw [sz65]; rfl
  have hone := armC_one R.1 (.slice none 0 0) rfl
  have H65 := Lib.hid hs65
  have HON := Lib.hid hone
  clear hs65 hone
  go_wp2_with (first | (refine wpList_store_rowTo rfl 83 (.tmp 3) (.tmp 6) rfl rfl w1.heap.size (armC R.1 (.slice none 0 0)).toArray rfl rfl 83 _ lz H65.out rfl HON.out ?_; rw [set_new rfl]))
  have l2 := l1.alloc (.cells (armC R.1 (.slice none 0 0)).toArray 83)
  have lB := Lies.new w1 83 (armC R.1 (.slice none 0 0)).toArray
  have hsz1 : w.heap.size + 1 ≤ w1.heap.size := by have := hg1.kp.size; simp at this; omega
  have hk1 : Kp pb w w1 := hk0.trans hg1.kp
  have hle : R.2.ws.length ≤ s.ws.length := hni.1
  have hst : WayRel pb sz n w.heap.size w1.heap.size w R.1 (vars R.2.ws.length R.2) R.2.ws.length (w1.alloc (.cells (armC R.1 (.slice none 0 0)).toArray 83)) [] (.slice none 0 0) R.2 :=
    ⟨⟨hg1.pa.alloc _, hk1.alloc _⟩, lB, l2, World.ownsRow_nil _ _ _ _, Nat.le_refl _, by simp; omega, by simp⟩
  clear lz l1 l2 lB hg1 hp0 hk0 hk1 HON H65
  go_loopg [11] R.2.ws.length (fun g _ wr => WayAny pb sz n w.heap.size w1.heap.size w R.1 (vars R.2.ws.length R.2) g wr)
  case atStart => exact ⟨_, _, _, hst⟩
  case round =>
    obtain ⟨zs, vv, s', hR⟩ := hrel
    have hpr := hR.goes.pa
    have HR := Lib.hid hR
    have hb2 := below_new wr (.cells #[.int .i64 2] 3)
    have hS2 : Il (wr.alloc (.cells #[.int .i64 2] 3)) (.slice (some ⟨wr.heap.size, 0, none⟩) 1 1) [2] := Il.new [2] (by simp) (by simp) 1 1 rfl rfl
    have hi := isOf_any _ [2] _ pb sz s' (hpr.below hb2) hS2
    have hszr : w1.heap.size < wr.heap.size := hR.box.lt
    have lb2 := hR.box.later hb2
    have lo2 := hR.out.later hb2
    clear hst hS2 hR
    cases hT : isOf [2] s'
    · rw [hT] at hi
      have HI := Lib.hid hi
      have HT' := Lib.hid hT
      clear hi hT
      go_wp2_with fail
      refine HI.out.mono ?_
      rintro e w' ⟨rfl, rfl⟩
      have hgo := HR.out.goes
      have hres := HR.out.res
      rw [vars_no HT'.out, List.append_nil] at hres
      have hown := (OwnP.of HR.out.own).same (w' := wr.alloc (.cells #[.int .i64 2] 3)) (fun g _ hlt => hb2.block g hlt)
      have hmn := (le_must1 sz tArrow s').1
      have hln := HR.out.ln
      have hdo := does_any ex pb sz n hx R.1 zs vv (fun g => w1.heap.size + 1 ≤ g) (fun g (hg : w1.heap.size + 1 ≤ g) => by omega) _ s' (hpr.below hb2) (by omega) hown
      have HRES := Lib.hid hres
      have HD := Lib.hid hdo
      have hs65 : (Tryz.prog.info? 83).map (·.size) = some (armC R.1 vv).toArray.size := by rw [sz65]; rfl
      have H65 := Lib.hid hs65
      clear hdo hown hmn hs65 hres
      go_wp2_with (first | (refine wpList_load_row rfl 83 (.tmp 3) rfl _ rfl 83 _ (0, 0) _ lb2 Tryz.underlying83 rfl H65.out ?_))
      refine HD.out.mono ?_
      rintro e w3 ⟨l, rfl, ht, hg3⟩
      have l3 := hg3.kp.lies lo2 (by omega)
      have hlen := armOK.len ht
      have hs2 : (Tryz.prog.info? 83).map (·.size) = some l.toArray.size := by rw [sz65]; simp [hlen]
      have H2 := Lib.hid hs2
      have hzz : zA.size = l.toArray.size := by simp [hlen, zA, zC]
      have HZ := Lib.hid hzz
      have hon := all_oneCell_toArray (armOK.one ht)
      have HON := Lib.hid hon
      clear hlen hs2 hzz hon
      go_wp2_with (first | (refine wpList_store_rowTo rfl 83 (.tmp 2) (.tmp 24) rfl rfl _ _ rfl rfl 83 _ l3 H2.out HZ.out HON.out ?_))
      refine bodyPost_ret (v := .agg l.toArray) (results_cell_row rfl _ _ w.heap.size 83 l.toArray (0, 0) _ rfl (l3.setRow _) Tryz.underlying83 rfl H2.out) rfl ?_
      have hgs := (hgo.below hb2).trans hg3
      rw [HRES.out]
      refine ⟨l, rfl, ?_, hgs.pa.setRow hplt _, hgs.kp.setRow (Nat.le_refl _) _⟩
      refine armOK.mono (armOK.same ht (fun g hg _ => heap_setRow _ _ _ _ ?_)) (fun g hg _ => ?_)
      · rcases hg with hg | hg
        · have : w1.heap.size + 1 ≤ g := hg
          omega
        · simp only [World.size_alloc] at hg; omega
      · rcases hg with hg | hg
        · have : w1.heap.size + 1 ≤ g := hg
          show w.heap.size ≤ g
          omega
        · simp only [World.size_alloc] at hg; show w.heap.size ≤ g; omega
    · rw [hT] at hi
      have HI := Lib.hid hi
      have HT' := Lib.hid hT
      obtain ⟨x, r, hw⟩ := ws_cons (isOf_pos hT)
      clear hi hT
      go_wp2_with fail
      refine HI.out.mono ?_
      rintro e w' ⟨rfl, rfl⟩
      go_wp2_with fail
      have hszb := hb2.size
      refine TillLast.start (S := fun w' => Lies w' w1.heap.size 83 (armC R.1 vv).toArray) (z := 10) (by kernel_rfl) ?_
      have hS : Lies (wr.alloc (.cells #[.int .i64 2] 3)).drew w1.heap.size 83 (armC R.1 vv).toArray := lb2
      have hpd0 := hpr.below hb2
      have hpd : PA (wr.alloc (.cells #[.int .i64 2] 3)).drew pb sz s' := hpd0
      have hkd : Kp pb wr (wr.alloc (.cells #[.int .i64 2] 3)).drew := ((Kp.refl pb wr).below hb2 (Nat.le_refl _)).drew
      have hod : Lies (wr.alloc (.cells #[.int .i64 2] 3)).drew w.heap.size 83 zA := lo2
      have hszd : wr.heap.size ≤ (wr.alloc (.cells #[.int .i64 2] 3)).drew.heap.size := hszb
      generalize (wr.alloc (.cells #[.int .i64 2] 3)).drew = wd at hS hpd hkd hod hszd ⊢
      refine TillLast.take (i := 0) (oi := _) (v := .pointer (some ⟨w1.heap.size, 1, none⟩)) rfl (by kernel_rfl) (by kernel_rfl) (by kernel_rfl) (by kernel_rfl) (by decide) (by kernel_rfl) (fun _ _ _ h => h) (Or.inl ⟨by rfl, ?_⟩) hS ?_
      · intro w' hS'
        go_simp
      try simp only [Act.put, List.setIfInBounds_toArray]
      refine TillLast.take (i := 1) (oi := _) (v := vv) rfl (by kernel_rfl) (by kernel_rfl) (by kernel_rfl) (by kernel_rfl) (by decide) (by kernel_rfl) (fun _ _ _ h => h) (Or.inl ⟨by rfl, ?_⟩) hS ?_
      · intro w' hS'
        have c1 : w'.cell? ⟨w1.heap.size, 1, none⟩ = some vv := hS'.cell 1
        go_simp
      try simp only [Act.put]
      refine TillLast.take (i := 2) (oi := _) (v := .pointer (some ⟨pb, 0, none⟩)) rfl (by kernel_rfl) (by kernel_rfl) (by kernel_rfl) (by kernel_rfl) (by decide) (by kernel_rfl) (fun _ _ _ h => h) (Or.inl ⟨by rfl, ?_⟩) hS ?_
      · intro w' hS'
        go_simp
      try simp only [Act.put]
      refine TillLast.take (i := 3) (oi := _) (v := .pointer (some ⟨pb, 0, none⟩)) rfl (by kernel_rfl) (by kernel_rfl) (by kernel_rfl) (by kernel_rfl) (by decide) (by kernel_rfl) (fun _ _ _ h => h) (Or.inl ⟨by rfl, ?_⟩) hS ?_
      · intro w' hS'
        go_simp
      try simp only [Act.put]
      refine TillLast.take (i := 4) (oi := _) (v := .pointer (some ⟨pb, 0, none⟩)) rfl (by kernel_rfl) (by kernel_rfl) (by kernel_rfl) (by kernel_rfl) (by decide) (by kernel_rfl) (fun _ _ _ h => h) (Or.inl ⟨by rfl, ?_⟩) hS ?_
      · intro w' hS'
        go_simp
      try simp only [Act.put]
      refine TillLast.ready (rs := [5]) (by kernel_rfl) (by simp) ?_
      refine NextAll.cons (o := _) rfl (fun K hK => ?_) NextAll.nil
      go_simp
      refine (take_any _ pb sz s' hpd x r hw).mono ?_
      rintro e w3 ⟨rfl, hg3⟩
      try dsimp only
      have hS3 := hg3.kp.lies hS (by omega)
      refine hK.out _ _ (fun _ => hS3) ?_
      clear hK K
      have hk3 := hkd.trans hg3.kp
      have ho3 := hg3.kp.lies hod (by omega)
      have hsz3 := hg3.kp.size
      unfold tkV
      try simp only [Act.put, List.setIfInBounds_toArray, List.set_cons_zero, List.set_cons_succ]
      refine TillLast.ready (rs := [6]) (by kernel_rfl) (by simp) ?_
      refine NextAll.cons (o := _) rfl (fun K hK => ?_) NextAll.nil
      have hfl1 := tok_field1
      go_simp
      refine hK.out _ _ (fun _ => hS3) ?_
      clear hK K hfl1
      try simp only [Act.put, List.setIfInBounds_toArray, List.set_cons_zero, List.set_cons_succ]
      refine TillLast.ready (rs := [7]) (by kernel_rfl) (by simp) ?_
      refine NextAll.cons (o := _) rfl (fun K hK => ?_) NextAll.nil
      go_simp
      have hb4 := below_new w3 (.cells #[.string (ba x.t)] 9)
      have hS4 := hS3.later hb4
      refine hK.out _ _ (fun _ => hS4) ?_
      clear hK K
      have hk4 := hk3.below hb4 hk3.size
      have hp4 := hg3.pa.below hb4
      have ho4 := ho3.later hb4
      have hsz4 := hb4.size
      have hN := Lies.new w3 9 #[.string (ba x.t)]
      have hgo := HR.out.goes
      have hkr : Kp pb wr (w3.alloc (.cells #[.string (ba x.t)] 9)) := hk4
      have hown : (w3.alloc (.cells #[.string (ba x.t)] 9)).ownsRow (w1.heap.size + 1) 9 1 vv zs.length (zs.map fun t => .string (ba t)) := (OwnP.of HR.out.own).same (fun g (hg : w1.heap.size + 1 ≤ g) hlt => hkr.block g hlt (fun e => by injection e with e; omega))
      have hln := HR.out.ln
      have hrow := own_block HR.out.own
      obtain ⟨i0, hi, hz0, hz1, hz2⟩ := info_parts info_str
      try simp only [Act.put, List.setIfInBounds_toArray, List.set_cons_zero, List.set_cons_succ]
      refine TillLast.ready (rs := [8]) (by kernel_rfl) (by simp) ?_
      refine NextAll.cons (o := _) rfl (fun K hK => ?_) NextAll.nil
      rw [if_pos (by rfl)]
      refine wp_append_at (.tmp 13) (.tmp 19) 33 rfl (w1.heap.size + 1) 9 i0 (.string ⟨#[]⟩) 1 16 Tryz.underlying33 hi hz0 hz1 hz2 rfl (by decide) vv zs.length _ rfl hown ⟨w3.heap.size, 0, none⟩ 1 1 [.string (ba x.t)] rfl rfl (lies_news hN) (by simp [Value.oneCell']) (by unfold maxLen; omega) (by omega) (by omega) rfl ?_
      intro v' w5 hown5 hgr hat
      have hrowk : ∀ k, vv.ownBlock = some k → w1.heap.size + 1 ≤ k ∧ k < wr.heap.size := hrow
      have hS5 := hS4.grown hgr (fun e => by have := (hrowk _ e.symm).1; omega)
      have ho5 := ho4.grown hgr (fun e => by have := (hrowk _ e.symm).1; omega)
      refine hK.out _ _ (fun _ => hS5) ?_
      clear hK K
      have hkw5 := (hgo.kp.trans hk4).grown hgr (fun k hk => by have := (hrowk k hk).1; omega)
      have hp5 := hp4.grown hgr (fun k hk => by have := (hrowk k hk).1; omega)
      have hvf : ∃ A k c, v' = .slice A k c := by rcases (OwnP.of hown5).2 with ⟨h, _⟩ | ⟨g, cap, cur, h, _⟩ <;> exact ⟨_, _, _, h⟩
      have hsz5 := hgr.size
      obtain ⟨A5, k5, c5, hvf⟩ := hvf
      subst hvf
      try simp only [Act.put, List.setIfInBounds_toArray]
      refine TillLast.ready (rs := [9]) (by kernel_rfl) (by simp) ?_
      refine NextAll.cons (o := _) rfl (fun K hK => ?_) NextAll.nil
      go_simp
      refine hK.out _ _ (fun _ => hS5) ?_
      clear hK K
      try simp only [Act.put, List.setIfInBounds_toArray, List.set_cons_zero, List.set_cons_succ]
      refine TillLast.ready (rs := [10]) (by kernel_rfl) (by simp) ?_
      refine NextAll.cons (o := _) rfl (fun K hK => ?_) NextAll.nil
      have hcv : w5.cell? ⟨w1.heap.size, 1, none⟩ = some vv := hS5.cell 1
      have hfv := hS5.free 1
      go_simp
      refine hK.out _ _ (fun h => absurd (h.symm.trans (by kernel_rfl : _ = true)) (by decide)) ?_
      clear hK K hcv hfv
      have hB6 : Lies (w5.setCell ⟨w1.heap.size, 1, none⟩ (.slice A5 k5 c5)) w1.heap.size 83 (armC R.1 (.slice A5 k5 c5)).toArray := hS5.set 1 (.slice A5 k5 c5)
      have ho6 := ho5.far (p := ⟨w1.heap.size, 1, none⟩) (by show w.heap.size ≠ w1.heap.size; omega) (.slice A5 k5 c5)
      have hp6 := hp5.far (p := ⟨w1.heap.size, 1, none⟩) (by show pb < w1.heap.size; omega) (.slice A5 k5 c5)
      have hk6 := hkw5.setCell (p := ⟨w1.heap.size, 1, none⟩) (.inr (by show w.heap.size ≤ w1.heap.size; omega)) (.slice A5 k5 c5)
      have hown6 : (w5.setCell ⟨w1.heap.size, 1, none⟩ (.slice A5 k5 c5)).ownsRow (w1.heap.size + 1) 9 1 (.slice A5 k5 c5) (zs ++ [x.t]).length ((zs ++ [x.t]).map fun t => .string (ba t)) := by
        rw [List.length_append, List.map_append]
        exact (OwnP.of hown5).same (fun g (hg : w1.heap.size + 1 ≤ g) _ => Below.heap_setCell _ _ _ _ (by show g ≠ w1.heap.size; omega))
      try simp only [Act.put, List.setIfInBounds_toArray, List.set_cons_zero, List.set_cons_succ]
      refine TillLast.done (by kernel_rfl) ?_ _
      have htl := take_lt (isOf_pos HT'.out)
      have hlg := HR.out.lg
      go_wp2_with fail
      go_roundg (gk - 1)
      case measure => omega
      case rel =>
        refine ⟨zs ++ [x.t], _, take s', ⟨hp6, hk6⟩, hB6, ho6, hown6, by omega, by simp; omega, ?_⟩
        have hr := HR.out.res
        obtain ⟨g', rfl⟩ : ∃ g', gk = g' + 1 := ⟨gk - 1, by omega⟩
        rw [vars_yes HT'.out, hd_cons hw] at hr
        rw [hr]
        simp
end Go.Proofs.YtnkfkaahjplnmaaGreatDoor

/- The contract of what reads the ways of a match. -/
namespace Go.Proofs.YtnkfkaahjplnmaaGreatDoor
open Go.RowKit Pz

set_option maxRecDepth 100000 in
set_option maxHeartbeats 16000000 in
theorem waysC_any {item : St → Arm × St} (pb sz vb qb lo n : Nat) (w0 : World) (w : World) (s : St) (acc : List Arm) (hp : PA w pb sz s) (hJ : CapJ ArmIt 83 23 31 pb vb qb lo w0 w acc) (hc : Caps pb vb qb lo w0) (hlo : lo ≤ w.heap.size) (hnb : n ≤ 2000000) (hacc : acc.length < n)
    (hit : ∀ W, PA W pb sz s → Calls Tryz.prog 86 #[.pointer (some ⟨pb, 0, none⟩)] W (ItEnd ArmIt pb sz W (item s))) :
    Calls Tryz.prog 85 #[.pointer (some ⟨vb, 0, none⟩), .pointer (some ⟨qb, 0, none⟩)] w (ClosEnd ArmIt 83 23 31 pb sz vb qb lo w0 (item s) acc) := by
  obtain ⟨⟨v, hlv, hA⟩, hlq, hkp⟩ := hJ
  obtain ⟨hpv, hpq, hvq, hvl, hql, hwv, hwq⟩ := hc
  obtain ⟨A, c, hvf, hvb⟩ := hA.form
  subst hvf
  obtain ⟨i0, hi, hz0, hz1, hz2⟩ := info_parts info_arm
  have HIT := Lib.hid hit
  clear hit
  go_enter Tryz.func85, Tryz.ntmps85
  go_wp2_with fail
  refine TillLast.start (S := fun w' => Lies w' vb 31 #[.slice A acc.length c] ∧ Lies w' qb 100 #[.pointer (some ⟨pb, 0, none⟩)]) (z := 8) (by kernel_rfl) ?_
  have hS : Lies w.drew vb 31 #[.slice A acc.length c] ∧ Lies w.drew qb 100 #[.pointer (some ⟨pb, 0, none⟩)] := ⟨hlv, hlq⟩
  have hp : PA w.drew pb sz s := hp
  have hA : Acc ArmIt 83 23 w.drew lo acc (.slice A acc.length c) := hA.keep armOK (fun _ _ _ => rfl)
  have hkp : Kp pb w0 w.drew := hkp.drew
  have hlo : lo ≤ w.drew.heap.size := hlo
  have hdr : w.drew.heap.size = w.heap.size := rfl
  refine TillLast.take (i := 0) (oi := _) (v := .slice A acc.length c) rfl (by kernel_rfl) (by kernel_rfl) (by kernel_rfl) (by kernel_rfl) (by decide) (by kernel_rfl) (fun _ _ _ h => h) (Or.inl ⟨by rfl, ?_⟩) hS ?_
  · intro w' hS'
    have c0 := hS'.1.cell 0
    go_simp
  try simp only [Act.put, List.setIfInBounds_toArray]
  refine TillLast.take (i := 1) (oi := _) (v := .pointer (some ⟨pb, 0, none⟩)) rfl (by kernel_rfl) (by kernel_rfl) (by kernel_rfl) (by kernel_rfl) (by decide) (by kernel_rfl) (fun _ _ _ h => h) (Or.inl ⟨by rfl, ?_⟩) hS ?_
  · intro w' hS'
    have c0 := hS'.2.cell 0
    go_simp
  try simp only [Act.put]
  refine TillLast.take (i := 3) (oi := _) (v := .int .i64 (acc.length : Int)) rfl (by kernel_rfl) (by kernel_rfl) (by kernel_rfl) (by kernel_rfl) (by decide) (by kernel_rfl) (fun _ _ _ h => h) (Or.inl ⟨by rfl, ?_⟩) hS ?_
  · intro w' hS'
    go_simp
  try simp only [Act.put]
  refine TillLast.ready (rs := [2, 4]) (by kernel_rfl) (by simp) ?_
  refine NextAll.cons (o := _) rfl (fun K hK => ?_) (NextAll.cons (o := _) rfl (fun K hK => ?_) NextAll.nil)
  · skip
    go_simp
    refine (HIT.out _ hp).mono ?_
    rintro e w1 ⟨l, rfl, ht, hg6⟩
    try dsimp only
    have hS2 : Lies w1 vb 31 #[.slice A acc.length c] ∧ Lies w1 qb 100 #[.pointer (some ⟨pb, 0, none⟩)] := ⟨hg6.kp.lies hS.1 (by omega), hg6.kp.lies hS.2 (by omega)⟩
    refine hK.out _ _ (fun _ => hS2) ?_
    clear hK K
    have hk3 := hkp.trans hg6.kp
    have hlo4 : lo ≤ w1.heap.size := Nat.le_trans hlo hg6.kp.size
    have hszc := hg6.kp.size
    have ti5 := (armOK).mono (Q := fun k => (w.drew).heap.size ≤ k ∧ k < w1.heap.size) ht (fun k h1 h2 => ⟨h1, h2⟩)
    clear ht
    have hA7 := hA.kp armOK hg6.kp (by omega)
    try simp only [Act.put, List.setIfInBounds_toArray, List.set_cons_zero, List.set_cons_succ]
    refine TillLast.ready (rs := [4]) (by kernel_rfl) (by simp) ?_
    refine NextAll.cons (o := _) rfl (fun K hK => ?_) NextAll.nil
    rw [if_pos (by rfl)]
    refine wp_buildSlice 31 83 1 _ rfl ((Value.string ⟨#[]⟩ :: Value.slice none 0 0 :: zC.toList)).toArray i0 (.agg zA) Tryz.underlying31 hi hz0 (by rw [hz1]; decide) (by rw [hz1]; decide) (by rw [hz1, Array.toList_map]; exact fill_row (sz := 23) (by decide) ((Value.string ⟨#[]⟩ :: Value.slice none 0 0 :: zC.toList)) rfl ((Array.range (1 * 23)).map ((Value.agg zA).cells[· % (Value.agg zA).cells.size]!)) (by simp)) ?_
    have hb11 := below_new (w1) (.cells ((Value.string ⟨#[]⟩ :: Value.slice none 0 0 :: zC.toList)).toArray 83)
    have hS8 := And.intro (hS2.1.alloc (.cells ((Value.string ⟨#[]⟩ :: Value.slice none 0 0 :: zC.toList)).toArray 83)) (hS2.2.alloc (.cells ((Value.string ⟨#[]⟩ :: Value.slice none 0 0 :: zC.toList)).toArray 83))
    refine hK.out _ _ (fun _ => hS8) ?_
    clear hK K
    have hk9 := hk3.below hb11 hk3.size
    have hlo10 := Nat.le_trans hlo4 hb11.size
    have hN12 := Lies.new (w1) 83 ((Value.string ⟨#[]⟩ :: Value.slice none 0 0 :: zC.toList)).toArray
    have hpa13 := hg6.pa.below hb11
    have hA14 := hA7.later armOK hb11
    have ti15 := (armOK).same ti5 (fun g _ hg => hb11.block g hg)
    have hszb := hb11.size
    try simp only [Act.put, List.setIfInBounds_toArray]
    refine TillLast.ready (rs := [5]) (by kernel_rfl) (by simp) ?_
    refine NextAll.cons (o := _) rfl (fun K hK => ?_) NextAll.nil
    rw [if_pos (by rfl)]
    obtain ⟨xs, hx1, hx2, hx3⟩ := hA14
    refine wp_append_at (.tmp 2) (.tmp 6) 31 rfl lo 83 i0 (.agg zA) 23 352 Tryz.underlying31 hi hz0 hz1 hz2 rfl (by decide) (.slice A acc.length c) acc.length xs.flatten rfl hx2 ⟨(w1).heap.size, 0, none⟩ 1 1 ((Value.string ⟨#[]⟩ :: Value.slice none 0 0 :: zC.toList)) rfl rfl (lies_news hN12) zA_ones (by unfold maxLen; omega) (by omega) hlo10 rfl ?_
    intro v' w16 hown hgr hat
    have hrow : ∀ k, (Value.slice A acc.length c).ownBlock = some k → lo ≤ k ∧ k < w.heap.size := hvb
    have hS17 : Lies w16 vb 31 #[.slice A acc.length c] ∧ Lies w16 qb 100 #[.pointer (some ⟨pb, 0, none⟩)] := ⟨hS8.1.grown hgr (fun e => by have := (hrow vb e.symm).1; omega), hS8.2.grown hgr (fun e => by have := (hrow qb e.symm).1; omega)⟩
    refine hK.out _ _ (fun _ => hS17) ?_
    clear hK K
    have hB20 := Acc.place armOK hx1 hx3 hown hgr hat
    have hk18 := hk9.grown hgr (fun k hk => by have := (hrow k hk).1; omega)
    have hlo19 := Nat.le_trans hlo10 hgr.size
    have hpa21 := hpa13.grown hgr (fun k hk => by have := (hrow k hk).1; omega)
    have ti22 := (armOK).same ti15 (fun g hg hlt => hgr.block g hlt (fun e => by have := (hrow g e.symm).2; have := hg.1; omega))
    obtain ⟨g, c', hvf, hcc, hlg, hgl⟩ := hB20.form
    subst hvf
    have hgat : (lo ≤ g ∧ g < w.heap.size) ∨ g = ((w1).alloc (.cells ((Value.string ⟨#[]⟩ :: Value.slice none 0 0 :: zC.toList)).toArray 83)).heap.size := hat.imp (fun h => hrow g h.symm) (fun h => by injection h)
    have hgsz := hgr.size
    clear hx1 hx2 hx3 hown hgr hat
    have hc0 : (0 : Int) ≤ (acc.length : Int) := by omega
    have hc1 : (acc.length : Int) < (acc.length : Int) + 1 := by omega
    try simp only [Act.put]
    have hV23 := hS17.1
    have hQ24 := hS17.2
    refine TillLast.ready (rs := [6, 8]) (by kernel_rfl) (by simp) ?_
    refine NextAll.cons (o := _) rfl (fun K hK => ?_) (NextAll.cons (o := _) rfl (fun K hK => ?_) NextAll.nil)
    · skip
      go_simp
      refine hK.out _ _ (fun _ => And.intro hV23 hQ24) ?_
      clear hK K
      try simp only [Act.put, List.setIfInBounds_toArray, List.set_cons_zero, List.set_cons_succ]
      refine TillLast.ready (rs := [7, 8]) (by kernel_rfl) (by simp) ?_
      refine NextAll.cons (o := _) rfl (fun K hK => ?_) (NextAll.cons (o := _) rfl (fun K hK => ?_) NextAll.nil)
      · skip
        rw [if_pos (by rfl)]
        have hlen := (armOK).len ti22
        have hthr := hB20.there rfl
        refine wp_store_mid 83 _ _ rfl g (acc.length * 23) l.toArray (by simp [Act.eval]) rfl (by show World.there _ g _ l.length; rw [hlen]; exact hthr) (by rw [sz65]; simp [hlen]) (all_oneCell_toArray ((armOK).one ti22)) ?_
        rw [List.toList_toArray]
        have hV25 := hV23.farCells (g' := g) (acc.length * 23) l (by omega)
        have hQ26 := hQ24.farCells (g' := g) (acc.length * 23) l (by omega)
        refine hK.out _ _ (fun _ => And.intro hV25 hQ26) ?_
        clear hK K
        have hF27 := Acc1.fill armOK hB20 rfl ((armOK).mono (Q := fun k => lo ≤ k ∧ k ≠ g) ti22 (fun k hk _ => by have h1 := hk.1; have h2 := hk.2; try simp only [World.size_alloc] at h1 h2 hgat hgl; rcases hgat with hgat | hgat <;> omega))
        have hpa28 := hpa21.setCells (g := g) (by omega) (acc.length * 23) l
        have hk29 := hk18.setCells (g := g) (by omega) (acc.length * 23) l
        try simp only [Act.put, List.setIfInBounds_toArray]
        refine TillLast.ready (rs := [8]) (by kernel_rfl) (by simp) ?_
        refine NextAll.cons (o := _) rfl (fun K hK => ?_) NextAll.nil
        have hcv := hV25.cell 0
        have hfv := hV25.free 0
        go_simp
        refine hK.out _ _ (fun h => absurd (h.symm.trans (by kernel_rfl : _ = true)) (by decide)) ?_
        clear hK K hcv hfv
        have hV30 := hV25.set 0 (.slice (some ⟨g, 0, none⟩) (acc.length + 1) c')
        have hQ31 := hQ26.far (p := ⟨vb, 0, none⟩) (fun e => hvq e.symm) (.slice (some ⟨g, 0, none⟩) (acc.length + 1) c')
        have hpa32 := hpa28.far (p := ⟨vb, 0, none⟩) hpv (.slice (some ⟨g, 0, none⟩) (acc.length + 1) c')
        have hk33 := hk29.setCell (p := ⟨vb, 0, none⟩) (.inr hwv) (.slice (some ⟨g, 0, none⟩) (acc.length + 1) c')
        have hF34 := hF27.keep armOK (w' := ((w16).setCells g (acc.length * 23) l).setCell ⟨vb, 0, none⟩ (.slice (some ⟨g, 0, none⟩) (acc.length + 1) c')) (fun k hk _ => Below.heap_setCell _ _ _ _ (by show k ≠ vb; omega))
        try simp only [Act.put, List.setIfInBounds_toArray, List.set_cons_zero, List.set_cons_succ]
        refine TillLast.done (by kernel_rfl) ?_ _
        go_wp2_with fail
        go_end0
        exact ⟨rfl, hpa32, ⟨_, hV30, hF34⟩, hQ31, hk33⟩
      · skip
        have hcv := hV23.cell 0
        have hfv := hV23.free 0
        go_simp
        refine hK.out _ _ (fun h => absurd (h.symm.trans (by kernel_rfl : _ = true)) (by decide)) ?_
        clear hK K hcv hfv
        have hV35 := hV23.set 0 (.slice (some ⟨g, 0, none⟩) (acc.length + 1) c')
        have hQ36 := hQ24.far (p := ⟨vb, 0, none⟩) (fun e => hvq e.symm) (.slice (some ⟨g, 0, none⟩) (acc.length + 1) c')
        have hpa37 := hpa21.far (p := ⟨vb, 0, none⟩) hpv (.slice (some ⟨g, 0, none⟩) (acc.length + 1) c')
        have hk38 := hk18.setCell (p := ⟨vb, 0, none⟩) (.inr hwv) (.slice (some ⟨g, 0, none⟩) (acc.length + 1) c')
        have hB39 := hB20.keep armOK (w' := (w16).setCell ⟨vb, 0, none⟩ (.slice (some ⟨g, 0, none⟩) (acc.length + 1) c')) (fun k hk _ => Below.heap_setCell _ _ _ _ (by show k ≠ vb; omega))
        have ti40 := (armOK).same (w' := (w16).setCell ⟨vb, 0, none⟩ (.slice (some ⟨g, 0, none⟩) (acc.length + 1) c')) ti22 (fun k hk _ => Below.heap_setCell _ _ _ _ (by have := hk.1; show k ≠ vb; omega))
        try simp only [Act.put, List.setIfInBounds_toArray, List.set_cons_zero, List.set_cons_succ]
        refine TillLast.ready (rs := [7]) (by kernel_rfl) (by simp) ?_
        refine NextAll.cons (o := _) rfl (fun K hK => ?_) NextAll.nil
        rw [if_pos (by rfl)]
        have hlen := (armOK).len ti40
        have hthr := hB39.there rfl
        refine wp_store_mid 83 _ _ rfl g (acc.length * 23) l.toArray (by simp [Act.eval]) rfl (by show World.there _ g _ l.length; rw [hlen]; exact hthr) (by rw [sz65]; simp [hlen]) (all_oneCell_toArray ((armOK).one ti40)) ?_
        rw [List.toList_toArray]
        have hV41 := hV35.farCells (g' := g) (acc.length * 23) l (by omega)
        have hQ42 := hQ36.farCells (g' := g) (acc.length * 23) l (by omega)
        refine hK.out _ _ (fun h => absurd (h.symm.trans (by kernel_rfl : _ = true)) (by decide)) ?_
        clear hK K
        have hF43 := Acc1.fill armOK hB39 rfl ((armOK).mono (Q := fun k => lo ≤ k ∧ k ≠ g) ti40 (fun k hk _ => by have h1 := hk.1; have h2 := hk.2; try simp only [World.size_alloc] at h1 h2 hgat hgl; rcases hgat with hgat | hgat <;> omega))
        have hpa44 := hpa37.setCells (g := g) (by omega) (acc.length * 23) l
        have hk45 := hk38.setCells (g := g) (by omega) (acc.length * 23) l
        try simp only [Act.put, List.setIfInBounds_toArray]
        refine TillLast.done (by kernel_rfl) ?_ _
        go_wp2_with fail
        go_end0
        exact ⟨rfl, hpa44, ⟨_, hV41, hF43⟩, hQ42, hk45⟩
    · skip
      have hcv := hV23.cell 0
      have hfv := hV23.free 0
      go_simp
      refine hK.out _ _ (fun h => absurd (h.symm.trans (by kernel_rfl : _ = true)) (by decide)) ?_
      clear hK K hcv hfv
      have hV46 := hV23.set 0 (.slice (some ⟨g, 0, none⟩) (acc.length + 1) c')
      have hQ47 := hQ24.far (p := ⟨vb, 0, none⟩) (fun e => hvq e.symm) (.slice (some ⟨g, 0, none⟩) (acc.length + 1) c')
      have hpa48 := hpa21.far (p := ⟨vb, 0, none⟩) hpv (.slice (some ⟨g, 0, none⟩) (acc.length + 1) c')
      have hk49 := hk18.setCell (p := ⟨vb, 0, none⟩) (.inr hwv) (.slice (some ⟨g, 0, none⟩) (acc.length + 1) c')
      have hB50 := hB20.keep armOK (w' := (w16).setCell ⟨vb, 0, none⟩ (.slice (some ⟨g, 0, none⟩) (acc.length + 1) c')) (fun k hk _ => Below.heap_setCell _ _ _ _ (by show k ≠ vb; omega))
      have ti51 := (armOK).same (w' := (w16).setCell ⟨vb, 0, none⟩ (.slice (some ⟨g, 0, none⟩) (acc.length + 1) c')) ti22 (fun k hk _ => Below.heap_setCell _ _ _ _ (by have := hk.1; show k ≠ vb; omega))
      try simp only [Act.put, List.setIfInBounds_toArray, List.set_cons_zero, List.set_cons_succ]
      refine TillLast.ready (rs := [6]) (by kernel_rfl) (by simp) ?_
      refine NextAll.cons (o := _) rfl (fun K hK => ?_) NextAll.nil
      go_simp
      refine hK.out _ _ (fun h => absurd (h.symm.trans (by kernel_rfl : _ = true)) (by decide)) ?_
      clear hK K
      try simp only [Act.put, List.setIfInBounds_toArray, List.set_cons_zero, List.set_cons_succ]
      refine TillLast.ready (rs := [7]) (by kernel_rfl) (by simp) ?_
      refine NextAll.cons (o := _) rfl (fun K hK => ?_) NextAll.nil
      rw [if_pos (by rfl)]
      have hlen := (armOK).len ti51
      have hthr := hB50.there rfl
      refine wp_store_mid 83 _ _ rfl g (acc.length * 23) l.toArray (by simp [Act.eval]) rfl (by show World.there _ g _ l.length; rw [hlen]; exact hthr) (by rw [sz65]; simp [hlen]) (all_oneCell_toArray ((armOK).one ti51)) ?_
      rw [List.toList_toArray]
      have hV52 := hV46.farCells (g' := g) (acc.length * 23) l (by omega)
      have hQ53 := hQ47.farCells (g' := g) (acc.length * 23) l (by omega)
      refine hK.out _ _ (fun h => absurd (h.symm.trans (by kernel_rfl : _ = true)) (by decide)) ?_
      clear hK K
      have hF54 := Acc1.fill armOK hB50 rfl ((armOK).mono (Q := fun k => lo ≤ k ∧ k ≠ g) ti51 (fun k hk _ => by have h1 := hk.1; have h2 := hk.2; try simp only [World.size_alloc] at h1 h2 hgat hgl; rcases hgat with hgat | hgat <;> omega))
      have hpa55 := hpa48.setCells (g := g) (by omega) (acc.length * 23) l
      have hk56 := hk49.setCells (g := g) (by omega) (acc.length * 23) l
      try simp only [Act.put, List.setIfInBounds_toArray]
      refine TillLast.done (by kernel_rfl) ?_ _
      go_wp2_with fail
      go_end0
      exact ⟨rfl, hpa55, ⟨_, hV52, hF54⟩, hQ53, hk56⟩
  · skip
    rw [if_pos (by rfl)]
    refine wp_buildSlice 31 83 1 _ rfl ((Value.string ⟨#[]⟩ :: Value.slice none 0 0 :: zC.toList)).toArray i0 (.agg zA) Tryz.underlying31 hi hz0 (by rw [hz1]; decide) (by rw [hz1]; decide) (by rw [hz1, Array.toList_map]; exact fill_row (sz := 23) (by decide) ((Value.string ⟨#[]⟩ :: Value.slice none 0 0 :: zC.toList)) rfl ((Array.range (1 * 23)).map ((Value.agg zA).cells[· % (Value.agg zA).cells.size]!)) (by simp)) ?_
    have hb60 := below_new (w.drew) (.cells ((Value.string ⟨#[]⟩ :: Value.slice none 0 0 :: zC.toList)).toArray 83)
    have hS57 := And.intro (hS.1.alloc (.cells ((Value.string ⟨#[]⟩ :: Value.slice none 0 0 :: zC.toList)).toArray 83)) (hS.2.alloc (.cells ((Value.string ⟨#[]⟩ :: Value.slice none 0 0 :: zC.toList)).toArray 83))
    refine hK.out _ _ (fun _ => hS57) ?_
    clear hK K
    have hk58 := hkp.below hb60 hkp.size
    have hlo59 := Nat.le_trans hlo hb60.size
    have hN61 := Lies.new (w.drew) 83 ((Value.string ⟨#[]⟩ :: Value.slice none 0 0 :: zC.toList)).toArray
    have hpa62 := hp.below hb60
    have hA63 := hA.later armOK hb60
    have hszb := hb60.size
    try simp only [Act.put]
    refine TillLast.ready (rs := [2]) (by kernel_rfl) (by simp) ?_
    refine NextAll.cons (o := _) rfl (fun K hK => ?_) NextAll.nil
    go_simp
    refine (HIT.out _ hpa62).mono ?_
    rintro e w64 ⟨l, rfl, ht, hg69⟩
    try dsimp only
    have hS65 : Lies w64 vb 31 #[.slice A acc.length c] ∧ Lies w64 qb 100 #[.pointer (some ⟨pb, 0, none⟩)] := ⟨hg69.kp.lies hS57.1 (by omega), hg69.kp.lies hS57.2 (by omega)⟩
    refine hK.out _ _ (fun _ => hS65) ?_
    clear hK K
    have hk66 := hk58.trans hg69.kp
    have hlo67 : lo ≤ w64.heap.size := Nat.le_trans hlo59 hg69.kp.size
    have hszc := hg69.kp.size
    have ti68 := (armOK).mono (Q := fun k => ((w.drew).alloc (.cells ((Value.string ⟨#[]⟩ :: Value.slice none 0 0 :: zC.toList)).toArray 83)).heap.size ≤ k ∧ k < w64.heap.size) ht (fun k h1 h2 => ⟨h1, h2⟩)
    clear ht
    have hA70 := hA63.kp armOK hg69.kp (by omega)
    have hN71 := hg69.kp.lies hN61 (by omega)
    try simp only [Act.put, List.setIfInBounds_toArray, List.set_cons_zero, List.set_cons_succ]
    refine TillLast.ready (rs := [5]) (by kernel_rfl) (by simp) ?_
    refine NextAll.cons (o := _) rfl (fun K hK => ?_) NextAll.nil
    rw [if_pos (by rfl)]
    obtain ⟨xs, hx1, hx2, hx3⟩ := hA70
    refine wp_append_at (.tmp 2) (.tmp 6) 31 rfl lo 83 i0 (.agg zA) 23 352 Tryz.underlying31 hi hz0 hz1 hz2 rfl (by decide) (.slice A acc.length c) acc.length xs.flatten rfl hx2 ⟨(w.drew).heap.size, 0, none⟩ 1 1 ((Value.string ⟨#[]⟩ :: Value.slice none 0 0 :: zC.toList)) rfl rfl (lies_news hN71) zA_ones (by unfold maxLen; omega) (by omega) hlo67 rfl ?_
    intro v' w72 hown hgr hat
    have hrow : ∀ k, (Value.slice A acc.length c).ownBlock = some k → lo ≤ k ∧ k < w.heap.size := hvb
    have hS73 : Lies w72 vb 31 #[.slice A acc.length c] ∧ Lies w72 qb 100 #[.pointer (some ⟨pb, 0, none⟩)] := ⟨hS65.1.grown hgr (fun e => by have := (hrow vb e.symm).1; omega), hS65.2.grown hgr (fun e => by have := (hrow qb e.symm).1; omega)⟩
    refine hK.out _ _ (fun _ => hS73) ?_
    clear hK K
    have hB76 := Acc.place armOK hx1 hx3 hown hgr hat
    have hk74 := hk66.grown hgr (fun k hk => by have := (hrow k hk).1; omega)
    have hlo75 := Nat.le_trans hlo67 hgr.size
    have hpa77 := hg69.pa.grown hgr (fun k hk => by have := (hrow k hk).1; omega)
    have ti78 := (armOK).same ti68 (fun g hg hlt => hgr.block g hlt (fun e => by have := (hrow g e.symm).2; have := hg.1; omega))
    obtain ⟨g, c', hvf, hcc, hlg, hgl⟩ := hB76.form
    subst hvf
    have hgat : (lo ≤ g ∧ g < w.heap.size) ∨ g = (w64).heap.size := hat.imp (fun h => hrow g h.symm) (fun h => by injection h)
    have hgsz := hgr.size
    clear hx1 hx2 hx3 hown hgr hat
    have hc0 : (0 : Int) ≤ (acc.length : Int) := by omega
    have hc1 : (acc.length : Int) < (acc.length : Int) + 1 := by omega
    try simp only [Act.put, List.setIfInBounds_toArray]
    have hV79 := hS73.1
    have hQ80 := hS73.2
    refine TillLast.ready (rs := [6, 8]) (by kernel_rfl) (by simp) ?_
    refine NextAll.cons (o := _) rfl (fun K hK => ?_) (NextAll.cons (o := _) rfl (fun K hK => ?_) NextAll.nil)
    · skip
      go_simp
      refine hK.out _ _ (fun _ => And.intro hV79 hQ80) ?_
      clear hK K
      try simp only [Act.put, List.setIfInBounds_toArray, List.set_cons_zero, List.set_cons_succ]
      refine TillLast.ready (rs := [7, 8]) (by kernel_rfl) (by simp) ?_
      refine NextAll.cons (o := _) rfl (fun K hK => ?_) (NextAll.cons (o := _) rfl (fun K hK => ?_) NextAll.nil)
      · skip
        rw [if_pos (by rfl)]
        have hlen := (armOK).len ti78
        have hthr := hB76.there rfl
        refine wp_store_mid 83 _ _ rfl g (acc.length * 23) l.toArray (by simp [Act.eval]) rfl (by show World.there _ g _ l.length; rw [hlen]; exact hthr) (by rw [sz65]; simp [hlen]) (all_oneCell_toArray ((armOK).one ti78)) ?_
        rw [List.toList_toArray]
        have hV81 := hV79.farCells (g' := g) (acc.length * 23) l (by omega)
        have hQ82 := hQ80.farCells (g' := g) (acc.length * 23) l (by omega)
        refine hK.out _ _ (fun _ => And.intro hV81 hQ82) ?_
        clear hK K
        have hF83 := Acc1.fill armOK hB76 rfl ((armOK).mono (Q := fun k => lo ≤ k ∧ k ≠ g) ti78 (fun k hk _ => by have h1 := hk.1; have h2 := hk.2; try simp only [World.size_alloc] at h1 h2 hgat hgl; rcases hgat with hgat | hgat <;> omega))
        have hpa84 := hpa77.setCells (g := g) (by omega) (acc.length * 23) l
        have hk85 := hk74.setCells (g := g) (by omega) (acc.length * 23) l
        try simp only [Act.put, List.setIfInBounds_toArray]
        refine TillLast.ready (rs := [8]) (by kernel_rfl) (by simp) ?_
        refine NextAll.cons (o := _) rfl (fun K hK => ?_) NextAll.nil
        have hcv := hV81.cell 0
        have hfv := hV81.free 0
        go_simp
        refine hK.out _ _ (fun h => absurd (h.symm.trans (by kernel_rfl : _ = true)) (by decide)) ?_
        clear hK K hcv hfv
        have hV86 := hV81.set 0 (.slice (some ⟨g, 0, none⟩) (acc.length + 1) c')
        have hQ87 := hQ82.far (p := ⟨vb, 0, none⟩) (fun e => hvq e.symm) (.slice (some ⟨g, 0, none⟩) (acc.length + 1) c')
        have hpa88 := hpa84.far (p := ⟨vb, 0, none⟩) hpv (.slice (some ⟨g, 0, none⟩) (acc.length + 1) c')
        have hk89 := hk85.setCell (p := ⟨vb, 0, none⟩) (.inr hwv) (.slice (some ⟨g, 0, none⟩) (acc.length + 1) c')
        have hF90 := hF83.keep armOK (w' := ((w72).setCells g (acc.length * 23) l).setCell ⟨vb, 0, none⟩ (.slice (some ⟨g, 0, none⟩) (acc.length + 1) c')) (fun k hk _ => Below.heap_setCell _ _ _ _ (by show k ≠ vb; omega))
        try simp only [Act.put, List.setIfInBounds_toArray, List.set_cons_zero, List.set_cons_succ]
        refine TillLast.done (by kernel_rfl) ?_ _
        go_wp2_with fail
        go_end0
        exact ⟨rfl, hpa88, ⟨_, hV86, hF90⟩, hQ87, hk89⟩
      · skip
        have hcv := hV79.cell 0
        have hfv := hV79.free 0
        go_simp
        refine hK.out _ _ (fun h => absurd (h.symm.trans (by kernel_rfl : _ = true)) (by decide)) ?_
        clear hK K hcv hfv
        have hV91 := hV79.set 0 (.slice (some ⟨g, 0, none⟩) (acc.length + 1) c')
        have hQ92 := hQ80.far (p := ⟨vb, 0, none⟩) (fun e => hvq e.symm) (.slice (some ⟨g, 0, none⟩) (acc.length + 1) c')
        have hpa93 := hpa77.far (p := ⟨vb, 0, none⟩) hpv (.slice (some ⟨g, 0, none⟩) (acc.length + 1) c')
        have hk94 := hk74.setCell (p := ⟨vb, 0, none⟩) (.inr hwv) (.slice (some ⟨g, 0, none⟩) (acc.length + 1) c')
        have hB95 := hB76.keep armOK (w' := (w72).setCell ⟨vb, 0, none⟩ (.slice (some ⟨g, 0, none⟩) (acc.length + 1) c')) (fun k hk _ => Below.heap_setCell _ _ _ _ (by show k ≠ vb; omega))
        have ti96 := (armOK).same (w' := (w72).setCell ⟨vb, 0, none⟩ (.slice (some ⟨g, 0, none⟩) (acc.length + 1) c')) ti78 (fun k hk _ => Below.heap_setCell _ _ _ _ (by have := hk.1; show k ≠ vb; omega))
        try simp only [Act.put, List.setIfInBounds_toArray, List.set_cons_zero, List.set_cons_succ]
        refine TillLast.ready (rs := [7]) (by kernel_rfl) (by simp) ?_
        refine NextAll.cons (o := _) rfl (fun K hK => ?_) NextAll.nil
        rw [if_pos (by rfl)]
        have hlen := (armOK).len ti96
        have hthr := hB95.there rfl
        refine wp_store_mid 83 _ _ rfl g (acc.length * 23) l.toArray (by simp [Act.eval]) rfl (by show World.there _ g _ l.length; rw [hlen]; exact hthr) (by rw [sz65]; simp [hlen]) (all_oneCell_toArray ((armOK).one ti96)) ?_
        rw [List.toList_toArray]
        have hV97 := hV91.farCells (g' := g) (acc.length * 23) l (by omega)
        have hQ98 := hQ92.farCells (g' := g) (acc.length * 23) l (by omega)
        refine hK.out _ _ (fun h => absurd (h.symm.trans (by kernel_rfl : _ = true)) (by decide)) ?_
        clear hK K
        have hF99 := Acc1.fill armOK hB95 rfl ((armOK).mono (Q := fun k => lo ≤ k ∧ k ≠ g) ti96 (fun k hk _ => by have h1 := hk.1; have h2 := hk.2; try simp only [World.size_alloc] at h1 h2 hgat hgl; rcases hgat with hgat | hgat <;> omega))
        have hpa100 := hpa93.setCells (g := g) (by omega) (acc.length * 23) l
        have hk101 := hk94.setCells (g := g) (by omega) (acc.length * 23) l
        try simp only [Act.put, List.setIfInBounds_toArray]
        refine TillLast.done (by kernel_rfl) ?_ _
        go_wp2_with fail
        go_end0
        exact ⟨rfl, hpa100, ⟨_, hV97, hF99⟩, hQ98, hk101⟩
    · skip
      have hcv := hV79.cell 0
      have hfv := hV79.free 0
      go_simp
      refine hK.out _ _ (fun h => absurd (h.symm.trans (by kernel_rfl : _ = true)) (by decide)) ?_
      clear hK K hcv hfv
      have hV102 := hV79.set 0 (.slice (some ⟨g, 0, none⟩) (acc.length + 1) c')
      have hQ103 := hQ80.far (p := ⟨vb, 0, none⟩) (fun e => hvq e.symm) (.slice (some ⟨g, 0, none⟩) (acc.length + 1) c')
      have hpa104 := hpa77.far (p := ⟨vb, 0, none⟩) hpv (.slice (some ⟨g, 0, none⟩) (acc.length + 1) c')
      have hk105 := hk74.setCell (p := ⟨vb, 0, none⟩) (.inr hwv) (.slice (some ⟨g, 0, none⟩) (acc.length + 1) c')
      have hB106 := hB76.keep armOK (w' := (w72).setCell ⟨vb, 0, none⟩ (.slice (some ⟨g, 0, none⟩) (acc.length + 1) c')) (fun k hk _ => Below.heap_setCell _ _ _ _ (by show k ≠ vb; omega))
      have ti107 := (armOK).same (w' := (w72).setCell ⟨vb, 0, none⟩ (.slice (some ⟨g, 0, none⟩) (acc.length + 1) c')) ti78 (fun k hk _ => Below.heap_setCell _ _ _ _ (by have := hk.1; show k ≠ vb; omega))
      try simp only [Act.put, List.setIfInBounds_toArray, List.set_cons_zero, List.set_cons_succ]
      refine TillLast.ready (rs := [6]) (by kernel_rfl) (by simp) ?_
      refine NextAll.cons (o := _) rfl (fun K hK => ?_) NextAll.nil
      go_simp
      refine hK.out _ _ (fun h => absurd (h.symm.trans (by kernel_rfl : _ = true)) (by decide)) ?_
      clear hK K
      try simp only [Act.put, List.setIfInBounds_toArray, List.set_cons_zero, List.set_cons_succ]
      refine TillLast.ready (rs := [7]) (by kernel_rfl) (by simp) ?_
      refine NextAll.cons (o := _) rfl (fun K hK => ?_) NextAll.nil
      rw [if_pos (by rfl)]
      have hlen := (armOK).len ti107
      have hthr := hB106.there rfl
      refine wp_store_mid 83 _ _ rfl g (acc.length * 23) l.toArray (by simp [Act.eval]) rfl (by show World.there _ g _ l.length; rw [hlen]; exact hthr) (by rw [sz65]; simp [hlen]) (all_oneCell_toArray ((armOK).one ti107)) ?_
      rw [List.toList_toArray]
      have hV108 := hV102.farCells (g' := g) (acc.length * 23) l (by omega)
      have hQ109 := hQ103.farCells (g' := g) (acc.length * 23) l (by omega)
      refine hK.out _ _ (fun h => absurd (h.symm.trans (by kernel_rfl : _ = true)) (by decide)) ?_
      clear hK K
      have hF110 := Acc1.fill armOK hB106 rfl ((armOK).mono (Q := fun k => lo ≤ k ∧ k ≠ g) ti107 (fun k hk _ => by have h1 := hk.1; have h2 := hk.2; try simp only [World.size_alloc] at h1 h2 hgat hgl; rcases hgat with hgat | hgat <;> omega))
      have hpa111 := hpa104.setCells (g := g) (by omega) (acc.length * 23) l
      have hk112 := hk105.setCells (g := g) (by omega) (acc.length * 23) l
      try simp only [Act.put, List.setIfInBounds_toArray]
      refine TillLast.done (by kernel_rfl) ?_ _
      go_wp2_with fail
      go_end0
      exact ⟨rfl, hpa111, ⟨_, hV108, hF110⟩, hQ109, hk112⟩

theorem enter_ways1 (args : Array Value) (w : World) : (callFunc 85 args).run Tryz.prog w = .ok (.enter 85 args) w := by go_simp
theorem waysCtx {ex : St → Tm × St} {pb sz n vb qb lo : Nat} {w0 : World} (hxn : Nice ex) (hx : ExOK ex pb sz n) (hnb : n ≤ 2000000) (hc : Caps pb vb qb lo w0) :
    ListCtx 85 #[.pointer (some ⟨vb, 0, none⟩), .pointer (some ⟨qb, 0, none⟩)] (way sz ex) pb sz n (JL ArmIt 83 23 31 pb vb qb lo w0) where
  ent := enter_ways1
  kp := fun w w' acc h hk => ⟨h.1.keep armOK hc hk, Nat.le_trans h.2 hk.size⟩
  nice := nice_way hxn
  item := fun w s acc hp hJ hl => by
    have hlen : s.ws.length < n := by omega
    refine (waysC_any (item := way sz ex) pb sz vb qb lo n w0 w s acc hp hJ.1 hc hJ.2 hnb (by omega) (fun W hW => (way_any ex pb sz n hx hnb W s hW hlen).mono fun _ _ h => h)).mono ?_
    rintro e w' ⟨h1, h2, h3⟩
    refine ⟨h1, h2, h3, ?_⟩
    obtain ⟨v, _, hA⟩ := h3.ex
    obtain ⟨xs, hx1, hx2, _⟩ := hA
    rcases hx2.2 with ⟨_, h⟩ | ⟨g, _, _, _, hg, hh, _⟩
    · simp at h
    · have := lt_of_block hh; omega

set_option maxRecDepth 100000 in
set_option maxHeartbeats 4000000 in
theorem ways_any (ex : St → Tm × St) (pb sz n : Nat) (hxn : Nice ex) (hx : ExOK ex pb sz n) (hnb : n ≤ 2000000) : WaysOK ex pb sz n := by
  intro w s hp hn
  have hplt := hp.lt
  have hlq := (Lies.new w 100 #[.pointer (some ⟨pb, 0, none⟩)]).alloc (.cells #[.slice none 0 0] 31)
  have hlv := Lies.new' (w.alloc (.cells #[.pointer (some ⟨pb, 0, none⟩)] 100)) 31 #[.slice none 0 0] (N := w.heap.size + 1) (by simp)
  have hk := ((Kp.refl pb w).alloc (.cells #[.pointer (some ⟨pb, 0, none⟩)] 100)).alloc (.cells #[.slice none 0 0] 31)
  have hp1 := (hp.alloc (.cells #[.pointer (some ⟨pb, 0, none⟩)] 100)).alloc (.cells #[.slice none 0 0] 31)
  have hz : ((w.alloc (.cells #[.pointer (some ⟨pb, 0, none⟩)] 100)).alloc (.cells #[.slice none 0 0] 31)).heap.size = w.heap.size + 2 := by simp
  have hle := (le_must1 sz tLb s).1
  have hcaps : Caps pb (w.heap.size + 1) w.heap.size (w.heap.size + 2) w := ⟨by omega, by omega, by omega, by omega, by omega, by omega, by omega⟩
  have hJ : JL ArmIt 83 23 31 pb (w.heap.size + 1) w.heap.size (w.heap.size + 2) w ((w.alloc (.cells #[.pointer (some ⟨pb, 0, none⟩)] 100)).alloc (.cells #[.slice none 0 0] 31)) [] := ⟨⟨⟨_, hlv, Acc.nil _ _⟩, hlq, hk⟩, by omega⟩
  have hl := list_any 85 _ (way sz ex) pb sz n _ (waysCtx hxn hx hnb hcaps) tLb tSemi tRb _ s hp1 hJ (by omega)
  have HL := Lib.hid hl
  have d0 := hlq.cell 0
  clear hl
  go_enter Tryz.func75, Tryz.ntmps75
  go_wp2_with fail
  refine HL.out.mono ?_
  rintro e w2 ⟨rfl, hp2, hJ2⟩
  obtain ⟨⟨⟨v, hlv2, hA2⟩, _, hk2⟩, _⟩ := hJ2
  have d1 := hlv2.cell 0
  go_wp2_with fail
  go_ret
  exact ⟨_, rfl, hA2.low armOK (by omega), hp2, hk2⟩
end Go.Proofs.YtnkfkaahjplnmaaGreatDoor

/- The contract of what reads the clauses of a handle. -/
namespace Go.Proofs.YtnkfkaahjplnmaaGreatDoor
open Go.RowKit Pz

theorem Acc.lit {α : Type} {It : World → (Nat → Prop) → α → List Value → Prop} {e : TypeId} {sz : Nat} (ok : ItOK sz It) {w : World} {lo : Nat} {a : α} {l : List Value} (ht : It w (fun k => lo ≤ k) a l) (hlo : lo ≤ w.heap.size) : Acc It e sz (w.alloc (.cells l.toArray e)) lo [a] (.slice (some ⟨w.heap.size, 0, none⟩) 1 1) := by
  have hr := Rw.lit w (fun k => lo ≤ k) e sz [l] (by simpa using ok.len ht) rfl hlo (n := 1) rfl (by unfold maxLen; omega)
  have e1 : [l].flatten = l := by simp
  rw [e1] at hr
  refine ⟨[l], rfl, by have h2 : OwnP _ _ _ _ _ _ _ := hr.2; rw [e1] at h2; rw [e1]; exact h2, fun i b m ha hm => ?_⟩
  match i, ha, hm with
  | 0, ha, hm =>
    simp at ha hm
    subst ha hm
    refine ok.mono (ok.same (ok.mono (Q := fun k => lo ≤ k ∧ k < w.heap.size) ht (fun k h hlt => ⟨h, hlt⟩)) (fun g _ hlt => (below_new w (.cells l.toArray e)).block g hlt)) (fun k hk _ => ⟨hk.1, ?_⟩)
    intro he
    have : k = w.heap.size := by injection he
    have := hk.2
    omega
  | i + 1, ha, _ => simp at ha
theorem own_names {w : World} {P : Nat → Prop} (ts : List Str) (hP : P w.heap.size) (n : Nat) (hn : n = ts.length) (hm : n ≤ 1000) : OwnP (w.alloc (.cells (ts.map fun t => Value.string (ba t)).toArray 9)) P 9 1 (.slice (some ⟨w.heap.size, 0, none⟩) n n) ts.length (ts.map fun t => .string (ba t)) := by
  subst hn
  refine ⟨by simp, .inr ⟨w.heap.size, ts.length, _, rfl, hP, Lies.new w 9 _, Nat.le_refl _, by unfold maxLen; omega, by simp, ?_⟩⟩
  rw [List.toList_toArray]
  exact List.take_of_length_le (by simp)

structure ClRel (ex : St → Tm × St) (pb sz n : Nat) (w : World) (res : List Arm × St) (g : Nat) (v : Value) (wr : World) (zs : List Arm) (s : St) : Prop where
  goes : Goes pb sz w s wr
  acc : Acc ArmIt 83 23 wr w.heap.size zs v
  lg : s.ws.length ≤ g
  ln : zs.length + s.ws.length ≤ n
  res : res = (zs ++ (more (clause sz ex) tSemi g s).1, (more (clause sz ex) tSemi g s).2)
def ClAny (ex : St → Tm × St) (pb sz n : Nat) (w : World) (res : List Arm × St) (g : Nat) (v : Value) (wr : World) : Prop := ∃ zs s, ClRel ex pb sz n w res g v wr zs s

set_option maxRecDepth 100000 in
set_option maxHeartbeats 4000000 in
theorem clauses_any (ex : St → Tm × St) (pb sz n : Nat) (hxn : Nice ex) (hx : ExOK ex pb sz n) (hnb : n ≤ 2000000) : ClausesOK ex pb sz n := by
  intro w s hp hn
  have hplt := hp.lt
  have hb0 := below_new w (.cells #[.string (ba tLb), .string (ba tReturn)] 9)
  have hS0 : Sl (w.alloc (.cells #[.string (ba tLb), .string (ba tReturn)] 9)) (.slice (some ⟨w.heap.size, 0, none⟩) 2 2) [tLb, tReturn] := Sl.new [tLb, tReturn] rfl (by simp) 2 2 rfl rfl
  have hm := must_any _ [tLb, tReturn] _ pb sz s (hp.below hb0) hS0 (Off.new (by omega))
  have hle1 := (le_must sz [tLb, tReturn] s).1
  unfold clauses
  dsimp only
  generalize must sz [tLb, tReturn] s = s1 at hm hle1 ⊢
  have hle2 := (nice_name sz [2] s1).1
  have hsm := fun w1 (h : PA w1 pb sz s1) => small_any w1 pb sz s1 h
  generalize name sz [2] s1 = R1 at hle2 hsm ⊢
  have hle3 := (le_must1 sz tArrow R1.2).1
  have hle4 := (nice_does (sz := sz) hxn tReturn [R1.1] R1.2).1
  have HM := Lib.hid hm
  have HSM := Lib.hid hsm
  obtain ⟨i0, hi, hz0, hz1, hz2⟩ := info_parts info_arm
  clear hm hS0 hsm
  go_enter Tryz.func76, Tryz.ntmps76
  go_wp2_with fail
  refine HM.out.mono ?_
  rintro e w1 ⟨rfl, hg1⟩
  go_wp2_with fail
  refine (HSM.out w1 hg1.pa).mono ?_
  rintro e w2 ⟨rfl, hg2⟩
  have hgo2 : Goes pb sz w R1.2 w2 := (Goes.from hp hb0 hg1).trans hg2
  have hsz2 := hgo2.kp.size
  go_wp2_with fail
  have hb3 := below_new w2 (.cells #[.string (ba R1.1)] 9)
  have hgo3 := hgo2.below hb3
  have hown : OwnP (w2.alloc (.cells #[.string (ba R1.1)] 9)) (fun g => w2.heap.size ≤ g) 9 1 (.slice (some ⟨w2.heap.size, 0, none⟩) 1 1) [R1.1].length ([R1.1].map fun t => .string (ba t)) := own_names [R1.1] (Nat.le_refl _) 1 rfl (by omega)
  refine (does_any ex pb sz n hx tReturn [R1.1] _ (fun g => w2.heap.size ≤ g) (fun g (hg : w2.heap.size ≤ g) => by have := hgo2.pa.lt; omega) _ R1.2 hgo3.pa (by omega) hown).mono ?_
  rintro e w4 ⟨l, rfl, ht, hg4⟩
  have hlen := armOK.len ht
  have HL := Lib.hid hlen
  have hsz3 := hgo3.kp.size
  have hgo4 := hgo3.trans hg4
  have hsz4 := hgo4.kp.size
  have hta := armOK.mono (Q := fun k => w.heap.size ≤ k) ht (fun g hg _ => by
    rcases hg with hg | hg
    · have : w2.heap.size ≤ g := hg
      omega
    · show w.heap.size ≤ g
      omega)
  have hacc := Acc.lit (e := 83) armOK hta hsz4
  have hgo5 := hgo4.below (below_new w4 (.cells l.toArray 83))
  clear hlen ht hta hgo2 hgo3 hgo4 hg1 hg2 hg4 hown hb0 hb3 HM HSM
  generalize hr0 : does sz ex tReturn [R1.1] R1.2 = r at hle4 hacc hgo5
  have HR0 := Lib.hid hr0
  clear hr0
  have hst : ClRel ex pb sz n w (r.1 :: (more (clause sz ex) tSemi r.2.ws.length r.2).1, (more (clause sz ex) tSemi r.2.ws.length r.2).2) r.2.ws.length (.slice (some ⟨w4.heap.size, 0, none⟩) 1 1) (w4.alloc (.cells l.toArray 83)) [r.1] r.2 :=
    ⟨hgo5, hacc, Nat.le_refl _, by simp; omega, by simp⟩
  clear hacc hgo5
  go_wp2_with (first | (refine wpList_buildSlice rfl 31 83 1 _ rfl l.toArray i0 (.agg zA) Tryz.underlying31 hi hz0 (by rw [hz1]; decide) (by rw [hz1]; decide) (by rw [hz1, Array.toList_map]; exact fill_row (sz := 23) (by decide) l HL.out ((Array.range (1 * 23)).map ((Value.agg zA).cells[· % (Value.agg zA).cells.size]!)) (by simp)) ?_))
  go_loopg [3] r.2.ws.length (fun g v wr => ClAny ex pb sz n w (r.1 :: (more (clause sz ex) tSemi r.2.ws.length r.2).1, (more (clause sz ex) tSemi r.2.ws.length r.2).2) g v wr)
  case atStart => exact ⟨_, _, hst⟩
  case round =>
    obtain ⟨zs, s', hR⟩ := hrel
    clear hst
    have hgo := hR.goes
    have hacc := hR.acc
    have HR := Lib.hid hR
    clear hR
    have hb1 := below_new wr (.cells #[.string (ba tSemi)] 9)
    have hS1 : Sl (wr.alloc (.cells #[.string (ba tSemi)] 9)) (.slice (some ⟨wr.heap.size, 0, none⟩) 1 1) [tSemi] := Sl.new [tSemi] rfl (by simp) 1 1 rfl rfl
    cases hT : isT [tSemi] s'
    · have hti := takeIf_no _ [tSemi] _ pb sz s' (hgo.pa.below hb1) hS1 hT
      have HI := Lib.hid hti
      have hres := HR.out.res
      rw [more_no hT, List.append_nil] at hres
      have HRES := Lib.hid hres
      clear hti hS1 hres
      go_wp2_with fail
      refine HI.out.mono ?_
      rintro e w5 ⟨rfl, hb5⟩
      have hgo5 := (hgo.below hb1).below hb5
      have hacc5 := (hacc.later armOK hb1).later armOK hb5
      have hb6 := below_new w5 (.cells #[.string (ba tRb)] 9)
      have hS6 : Sl (w5.alloc (.cells #[.string (ba tRb)] 9)) (.slice (some ⟨w5.heap.size, 0, none⟩) 1 1) [tRb] := Sl.new [tRb] rfl (by simp) 1 1 rfl rfl
      have hm6 := must_any _ [tRb] _ pb sz s' (hgo5.pa.below hb6) hS6 (Off.new hgo5.pa.lt)
      have HM6 := Lib.hid hm6
      clear hm6 hS6
      go_wp2_with fail
      refine HM6.out.mono ?_
      rintro e w7 ⟨rfl, hg7⟩
      have hacc7 := (hacc5.later armOK hb6).kp armOK hg7.kp hplt
      have hgo7 := (hgo5.below hb6).trans hg7
      go_wp2_with fail
      go_ret
      have hr := HRES.out
      simp only [Prod.mk.injEq] at hr
      obtain ⟨hr1, hr2⟩ := hr
      rw [HR0.out, hr1, hr2]
      exact ⟨_, rfl, hacc7, hgo7⟩
    · have hti := takeIf_yes _ [tSemi] _ pb sz s' (hgo.pa.below hb1) hS1 hT
      have HI := Lib.hid hti
      have HT' := Lib.hid hT
      have htl := take_lt (isT_pos hT)
      have hln := HR.out.ln
      have hlg := HR.out.lg
      have hvB : ∀ k, u3.ownBlock = some k → k < wr.heap.size := fun k hk => by
        obtain ⟨ys, _, hy2, _⟩ := hacc
        exact (own_block hy2 k hk).2
      clear hti hS1
      go_wp2_with fail
      refine HI.out.mono ?_
      rintro e w5 ⟨rfl, hg5⟩
      have hG5 := Goes.from hgo.pa hb1 hg5
      go_wp2_with fail
      refine (small_any _ pb sz _ hg5.pa).mono ?_
      rintro e w6 ⟨rfl, hg6⟩
      go_wp2_with fail
      refine (small_any _ pb sz _ hg6.pa).mono ?_
      rintro e w7 ⟨rfl, hg7⟩
      go_wp2_with fail
      refine (small_any _ pb sz _ hg7.pa).mono ?_
      rintro e w8 ⟨rfl, hg8⟩
      have hG8 := ((hG5.trans hg6).trans hg7).trans hg8
      have hl1 := (nice_name sz [2] (take s')).1
      have hl2 := (nice_name sz [2] (name sz [2] (take s')).2).1
      have hl3 := (nice_name sz [2] (name sz [2] (name sz [2] (take s')).2).2).1
      have hl4 := (le_must1 sz tArrow (name sz [2] (name sz [2] (name sz [2] (take s')).2).2).2).1
      go_wp2_with fail
      have hb9 := below_new w8 (.cells #[.string (ba (name sz [2] (name sz [2] (take s')).2).1), .string (ba (name sz [2] (name sz [2] (name sz [2] (take s')).2).2).1)] 9)
      have hG9 := hG8.below hb9
      have hown9 : OwnP (w8.alloc (.cells #[.string (ba (name sz [2] (name sz [2] (take s')).2).1), .string (ba (name sz [2] (name sz [2] (name sz [2] (take s')).2).2).1)] 9)) (fun g => w8.heap.size ≤ g) 9 1 (.slice (some ⟨w8.heap.size, 0, none⟩) 2 2) [(name sz [2] (name sz [2] (take s')).2).1, (name sz [2] (name sz [2] (name sz [2] (take s')).2).2).1].length ([(name sz [2] (name sz [2] (take s')).2).1, (name sz [2] (name sz [2] (name sz [2] (take s')).2).2).1].map fun t => .string (ba t)) := own_names [_, _] (Nat.le_refl _) 2 rfl (by omega)
      refine (does_any ex pb sz n hx (name sz [2] (take s')).1 [(name sz [2] (name sz [2] (take s')).2).1, (name sz [2] (name sz [2] (name sz [2] (take s')).2).2).1] _ (fun g => w8.heap.size ≤ g) (fun g (hg : w8.heap.size ≤ g) => by have := hG8.pa.lt; omega) _ (name sz [2] (name sz [2] (name sz [2] (take s')).2).2).2 hG9.pa (by omega) hown9).mono ?_
      rintro e w10 ⟨l, rfl, ht, hg10⟩
      have hG10 := hG9.trans hg10
      have hlen2 := armOK.len ht
      have HL2 := Lib.hid hlen2
      have hon := armOK.one ht
      have HON := Lib.hid hon
      have hacc10 := (hacc.kp armOK hG10.kp hplt).later armOK (below_new w10 (.cells l.toArray 83))
      obtain ⟨xs, hx1, hx2, hx3⟩ := hacc10
      have hszr := hgo.kp.size
      have hsz8 := hG8.kp.size
      have hsz9 := hG9.kp.size
      have hsz10 := hG10.kp.size
      have hta := armOK.mono (Q := fun k => wr.heap.size ≤ k) ht (fun g hg _ => by
        rcases hg with hg | hg
        · have : w8.heap.size ≤ g := hg
          omega
        · show wr.heap.size ≤ g
          omega)
      have HX1 := Lib.hid hx1
      clear hlen2 hon ht hown9 hb9 hb1 hx1
      go_wp2_with (first | (refine wpList_buildSlice rfl 31 83 1 _ rfl l.toArray i0 (.agg zA) Tryz.underlying31 hi hz0 (by rw [hz1]; decide) (by rw [hz1]; decide) (by rw [hz1, Array.toList_map]; exact fill_row (sz := 23) (by decide) l HL2.out ((Array.range (1 * 23)).map ((Value.agg zA).cells[· % (Value.agg zA).cells.size]!)) (by simp)) ?_) | (at_builtin; go_loud (refine wpList_append_own_at _ rfl (.tmp 19) (.tmp 30) 31 rfl w.heap.size 83 i0 (.agg zA) 23 352 Tryz.underlying31 hi hz0 hz1 hz2 rfl (by decide) _ zs.length xs.flatten rfl hx2 ⟨w10.heap.size, 0, none⟩ 1 1 l rfl (by rw [HL2.out]) (new_cells _ _ _ rfl) HON.out (by unfold maxLen; omega) (by omega) (by simp; omega) ?_); intro v' w11 hown hgr _ hat))
      go_roundg (gk - 1)
      case measure => omega
      case rel =>
        have hrow : ∀ q, u3.ownBlock = some q → w.heap.size ≤ q := fun q hq => (own_block hx2 q hq).1
        have hgo2 := hgo.trans hG10
        refine ⟨zs ++ [(clause sz ex (take s')).1], (clause sz ex (take s')).2, ⟨(hgo2.pa.alloc _).grown hgr (fun q hq => by have := hrow q hq; omega), (hgo2.kp.alloc _).grown hgr hrow⟩, ?_, ?_, ?_, ?_⟩
        · exact Acc.snoc armOK HX1.out hx3 (armOK.same hta (fun g _ hlt => (below_new w10 (.cells l.toArray 83)).block g hlt)) hszr hvB hown hgr hat
        · have := (nice_clause (sz := sz) hxn (take s')).1
          omega
        · have := (nice_clause (sz := sz) hxn (take s')).1
          simp
          omega
        · have hr := HR.out.res
          obtain ⟨g', rfl⟩ : ∃ g', gk = g' + 1 := ⟨gk - 1, by omega⟩
          rw [more_yes HT'.out] at hr
          rw [hr]
          simp
end Go.Proofs.YtnkfkaahjplnmaaGreatDoor
