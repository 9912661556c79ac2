/- The contract of Right: the whole. -/
import Derived.Test.YtjeolmcjhpkcbaaDoorTyO
import Derived.Outline
namespace Go.Proofs.YtjeolmcjhpkcbaaDoor
open Go.RowKit

theorem Strs.unique {w : World} {v : Value} {a b : List Str} (h1 : Strs w v a) (h2 : Strs w v b) : a = b := by
  obtain ⟨A, c, rfl, _, _, hc⟩ := h1
  obtain ⟨A', c', he, _, _, hc'⟩ := h2
  injection he with hA hl _
  subst hA
  apply List.ext_getElem? 
  intro i
  by_cases hi : i < a.length
  · obtain ⟨g, o, rfl, hx⟩ := hc (by omega)
    obtain ⟨g', o', hg, hx'⟩ := hc' (by omega)
    injection hg with hg
    injection hg with hg ho _
    subst hg ho
    have e1 := hx i _ (List.getElem?_eq_getElem hi)
    have e2 := hx' i _ (List.getElem?_eq_getElem (show i < b.length by omega))
    rw [e1] at e2
    injection e2 with e2
    injection e2 with e2
    rw [ba_eq] at e2
    rw [List.getElem?_eq_getElem hi, List.getElem?_eq_getElem (show i < b.length by omega), e2]
  · rw [List.getElem?_eq_none (by omega), List.getElem?_eq_none (by omega)]
theorem TA.unique {w : World} {a : Addr} {t : Ty} (h : TA w a t) : ∀ {u : Ty}, TA w a u → t = u := by
  induction h with
  | mk a k nm v kids ls rv kv lv h0 hat hr hk hl hks ih =>
    intro u hu
    obtain ⟨k', nm', v', kids', ls', rv'⟩ := u
    obtain ⟨kv', lv', _, _, hr', hk', hl', hks'⟩ := hu.open
    have e : ∀ (i : Nat) (x y : Value), (tyC k nm v kv lv rv)[i]? = some x → (tyC k' nm' v' kv' lv' rv')[i]? = some y → x = y := by
      intro i x y hx hy
      have h1 := hr i x hx
      have h2 := hr' i y hy
      rw [h1] at h2
      exact Option.some.inj h2
    have e0 := e 0 _ _ rfl rfl
    have e1 := e 1 _ _ rfl rfl
    have e2 := e 2 _ _ rfl rfl
    have e3 := e 3 _ _ rfl rfl
    have e4 := e 4 _ _ rfl rfl
    have e5 := e 5 _ _ rfl rfl
    injection e0 with _ e0
    injection e1 with e1
    injection e2 with _ e2
    injection e5 with _ e5
    rw [ba_eq] at e1
    subst e0 e1 e2 e3 e4 e5
    obtain rfl := hl.unique hl'
    have hn : kids.length = kids'.length := by
      have h1 := rowA_len hk
      have h2 := rowA_len hk'
      omega
    congr 1
    apply List.ext_getElem?
    intro i
    by_cases hi : i < kids.length
    · have h1 : kids[i]? = some kids[i] := List.getElem?_eq_getElem hi
      have h2 : kids'[i]? = some kids'[i] := List.getElem?_eq_getElem (by omega)
      rw [h1, h2, ih i _ h1 (hks' i _ h2)]
    · rw [List.getElem?_eq_none (by omega), List.getElem?_eq_none (by omega)]
theorem ok_all {w0 : World} {M : List Addr} (hM : ∀ x ∈ M, OkAt w0 M x) {a : Addr} {t : Ty} (h : TA w0 a t) : a ∈ M → okT t = true := by
  have hta := h
  induction h with
  | mk a k nm v kids ls rv kv lv h0 hat hr hk hl hks ih =>
    intro ha
    obtain ⟨u, hu, hal, hy⟩ := hM a ha
    obtain rfl := hta.unique hu
    rw [okT, Bool.and_eq_true]
    refine ⟨hal, ?_⟩
    rw [okL_iff]
    intro t ht
    obtain ⟨i, hi⟩ := List.mem_iff_getElem?.1 ht
    have hil := (List.getElem?_eq_some_iff.1 hi).1
    refine ih i t hi (hks i t hi) (hy _ ?_)
    rw [kids_of hr]
    exact List.mem_of_getElem? (rowA_get hk hil)
def rightT (t : Ty) : Bool := decide (t.deep ≤ 200) && okT t

set_option maxRecDepth 100000 in
set_option maxHeartbeats 4000000 in
theorem rightAll_any (l : List Value) (t : Ty) (w : World) (ht : TV w t l) (hs : t.size ≤ 90000000) :
    Calls Tryd.prog 13 #[.agg l.toArray] w fun e w' => e = .returned (.bool (rightT t)) ∧ Below w.heap.size w w' := by
  have htv := ht
  obtain ⟨k, nm, v, kids, ls, rv⟩ := t
  obtain ⟨kv, lv, rfl, hsk, hsl, _⟩ := ht
  obtain ⟨A, q, rfl, _⟩ := hsk
  obtain ⟨A2, q2, rfl, _⟩ := hsl.slice
  generalize hT : Ty.mk k nm v kids ls rv = T at *
  obtain ⟨w0, hw0⟩ : ∃ w0, w0 = w.alloc (.cells (tyC k nm v (.slice A kids.length q) (.slice A2 ls.length q2) rv).toArray 27) := ⟨_, rfl⟩
  have hb0 : Below w.heap.size w w0 := by rw [hw0]; exact below_new w _
  have l0 : Lies w0 w.heap.size 27 (tyC k nm v (.slice A kids.length q) (.slice A2 ls.length q2) rv).toArray := by rw [hw0]; exact Lies.new w _ _
  have hta : TA w0 ⟨w.heap.size, 0, none⟩ T := by rw [hw0]; exact htv.new _ rfl
  have hd := depth_any _ T w0 (htv.later hb0) hs
  unfold tyC at *
  have HD := Lib.hid hd
  have HW := Lib.hid hw0
  have hmm := @run_makeMap Tryd.prog
  clear hd hw0 hsl hT
  unfold rightT
  by_cases hdp : T.deep ≤ 200
  · have hmin : min T.deep 201 = T.deep := by omega
    have hdi : ((T.deep : Nat) : Int) ≤ 200 := by omega
    rw [hmin] at HD
    go_enter Tryd.func13, Tryd.ntmps13
    go_wp2_with fail
    rw [← HW.out]
    refine HD.out.mono ?_
    rintro e w1 ⟨rfl, hb1⟩
    have hB1 : Below w.heap.size w w1 := hb0.trans (hb1.mono hb0.size)
    have hta1 := hta.later hb1
    have hcn := counts_any w1
    have HCN := Lib.hid hcn
    clear hcn
    go_wp2_with fail
    refine HCN.out.mono ?_
    rintro e w2 ⟨rfl, hI2, hb2⟩
    have hB2 : Below w.heap.size w w2 := hB1.trans (hb2.mono hB1.size)
    have hbm := below_new w2 (.map #[] 0)
    have hlt := hI2.lt
    have hrt := right_any w1 w1.heap.size w2.heap.size (Nat.le_refl _) hb2.size (by omega) hta1 (w2.alloc (.map #[] 0)) [] (hb2.trans (hbm.mono hb2.size)) (hI2.keep (hbm.block _ hlt)) (Sn.made w2) (fun x hx => by cases hx)
    have HRT := Lib.hid hrt
    clear hrt hI2
    go_wp2_with fail
    refine HRT.out.mono ?_
    rintro e w3 ⟨r, M, rfl, _, hbt, ht, hf⟩
    have hB3 : Below w.heap.size w w3 := (hB2.trans (hbm.mono hB2.size)).trans ((hbt.below (B := w2.heap.size) (Nat.le_refl _) (by simp)).mono hB2.size)
    have hres : okT T = r := by
      cases r
      · exact hf rfl
      · obtain ⟨t1, _, t3⟩ := ht rfl
        exact ok_all (fun x hx => t3 x hx (by simp)) hta1 t1
    have HRES := Lib.hid hres
    clear ht hf hres
    cases r
    · go_wp2
      go_ret
      exact ⟨ret_bool (by rw [HRES.out]; simp), hB3⟩
    · go_wp2
      go_ret
      exact ⟨ret_bool (by rw [HRES.out]; simp [hdp]), hB3⟩
  · have hmin : min T.deep 201 = 201 := by omega
    have hdd : decide (T.deep ≤ 200) = false := decide_eq_false hdp
    rw [hmin] at HD
    go_enter Tryd.func13, Tryd.ntmps13
    go_wp2_with fail
    rw [← HW.out]
    refine HD.out.mono ?_
    rintro e w1 ⟨rfl, hb1⟩
    go_wp2
    go_ret
    exact ⟨ret_bool (by rw [hdd]; rfl), hb0.trans (hb1.mono hb0.size)⟩
end Go.Proofs.YtjeolmcjhpkcbaaDoor
