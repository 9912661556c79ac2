/- The machine of package source: a step. -/
import Derived.Test.YtmodmojocclmaaaGreatDoorMg06
import Derived.Test.YtmodmojocclmaaaGreatDoorMg16
import Derived.Deep.RegionHeld3
namespace Go.Proofs.YtmodmojocclmaaaGreatDoor.K
open Go Go.RowKit
namespace So

section
variable {w0 : World} {mb : Nat} {H : Mem} {s : St} {w : World}
theorem fin_no {s : St} (h : ¬ (s.out = 0 ∧ s.at_.isNone ∧ s.above.isEmpty ∧ s.hs.isEmpty)) : fin s = s := by unfold fin; rw [if_neg h]
theorem fin_yes {s : St} (h : s.out = 0 ∧ s.at_.isNone ∧ s.above.isEmpty ∧ s.hs.isEmpty) : fin s = { s with out := 1 } := by unfold fin; rw [if_pos h]
theorem MS.out {i : Int} (h : MS w0 mb H s w) : MS w0 mb H { s with out := i } (w.setCell ⟨mb, 11, none⟩ (.int .i64 i)) := by
 obtain ⟨tv, ev, v0, v1, v2, v3, fv, hv, cv, iv, lv, h⟩ := h
 exact ⟨_, _, _, _, _, _, _, _, _, _, _, h.core.set 11 _, h.lies.set 11 _, h.at_, h.above, h.hs, h.input⟩
theorem MR.steps {tv ev v0 v1 v2 v3 fv hv cv iv lv : Value} (h : MR w0 mb H s tv ev v0 v1 v2 v3 fv hv cv iv lv w) : MR w0 mb H { s with steps := s.steps + 1 } tv ev v0 v1 v2 v3 fv hv cv iv lv (w.setCell ⟨mb, 12, none⟩ (.int .i64 ((s.steps : Int) + 1))) := by
 have hl := h.lies.set 12 (.int .i64 ((s.steps : Int) + 1))
 refine ⟨h.core.set 12 _, ?_, h.at_, h.above, h.hs, h.input⟩
 rw [show ((s.steps : Int) + 1) = ((s.steps + 1 : Nat) : Int) by omega] at hl ⊢
 exact hl
def StepEnd (w0 : World) (mb : Nat) (H : Mem) (S : St) (e : Ending) (w' : World) : Prop := e = .returned (.bool true) ∧ ∃ H', MLe H H' ∧ MS w0 mb H' S w'
set_option maxRecDepth 100000 in
set_option maxHeartbeats 4000000 in
theorem step_over (h : MS w0 mb H s w) (ho : s.out ≠ 0) : Calls Tryz.prog 17 #[pt mb] w fun e w' => e = .returned (.bool false) ∧ w' = w := by
 obtain ⟨tv, ev, v0, v1, v2, v3, fv, hv, cv, iv, lv, h⟩ := h
 have z11 : w.cell? ⟨mb, 11, none⟩ = some (.int .i64 s.out) := h.lies.cell 11
 have hd : (s.out == 0) = false := by rw [beq_eq_false_iff_ne]; exact ho
 clear h ho
 unfold pt at *
 go_enter Tryz.func17, Tryz.ntmps17
 go_wp2
 go_ret
 exact ⟨rfl, rfl⟩
set_option maxRecDepth 100000 in
set_option maxHeartbeats 4000000 in
theorem step_term (h : MS w0 mb H s w) (ho : s.out = 0) (B : Bd s) (hst : s.steps ≤ 1000000) {t : Tm} {en : Env} (ha : s.at_ = some (t, en)) :
  Calls Tryz.prog 17 #[pt mb] w (StepEnd w0 mb H (step s)) := by
 obtain ⟨tv, ev, v0, v1, v2, v3, fv, hv, cv, iv, lv, h⟩ := h
 have z11 : w.cell? ⟨mb, 11, none⟩ = some (.int .i64 s.out) := h.lies.cell 11
 have z12 : w.cell? ⟨mb, 12, none⟩ = some (.int .i64 (s.steps : Int)) := h.lies.cell 12
 rw [ho] at z11
 have f12 := h.lies.free 12
 have h1 : MR w0 mb H { s with steps := s.steps + 1 } tv ev v0 v1 v2 v3 fv hv cv iv lv (w.setCell ⟨mb, 12, none⟩ (.int .i64 ((s.steps : Int) + 1))) := h.steps
 have hsi : (0 : Int) ≤ (s.steps : Int) := by omega
 have hsj : (s.steps : Int) ≤ 1000000 := by omega
 obtain ⟨S2, hS2⟩ : ∃ S2, S2 = body { s with steps := s.steps + 1 } := ⟨_, rfl⟩
 have hst : step s = fin S2 := by rw [hS2]; rfl
 rw [hst]
 clear hst
 have hbo : body { s with steps := s.steps + 1 } = enter t en { s with steps := s.steps + 1 } := by unfold body; rw [ha]
 have hat := h1.at_
 rw [show ({ s with steps := s.steps + 1 } : St).at_ = some (t, en) from ha] at hat
 obtain ⟨⟨tb, to, rfl, htm⟩, _⟩ := hat
 have y0 : (w.setCell ⟨mb, 12, none⟩ (.int .i64 ((s.steps : Int) + 1))).cell? ⟨mb, 0, none⟩ = some (ptO tb to) := h1.lies.cell 0
 have hen := enter_any ⟨_, _, _, _, _, _, _, _, _, _, _, h1⟩ ha htm B.trace B.cells
 rw [← hbo, ← hS2] at hen
 have HEN := Lib.hid hen
 clear h h1 htm hen hbo hS2 ha ho B
 obtain ⟨W, hW⟩ : ∃ W, W = w.setCell ⟨mb, 12, none⟩ (.int .i64 ((s.steps : Int) + 1)) := ⟨_, rfl⟩
 rw [← hW] at HEN
 have HW := Lib.hid hW
 clear hW
 unfold pt ptO at *
 go_enter Tryz.func17, Tryz.ntmps17
 go_wp2_with fail
 rw [← HW.out]
 go_wp2_with fail
 refine HEN.out.mono ?_
 rintro e w5 ⟨rfl, H5, k5, m5⟩
 have K5 := Lib.hid k5
 have M5 := Lib.hid m5
 clear k5 m5
 obtain ⟨tv2, ev2, v02, v12, v22, v32, fv2, hv2, cv2, iv2, lv2, m9⟩ := M5.out
 have y11 : w5.cell? ⟨mb, 11, none⟩ = some (.int .i64 S2.out) := m9.lies.cell 11
 have y0 : w5.cell? ⟨mb, 0, none⟩ = some tv2 := m9.lies.cell 0
 have f11 := m9.lies.free 11
 have hat2 := m9.at_
 have HEM := Lib.hid (empty_any M5.out)
 clear m9
 by_cases ho2 : S2.out = 0
 ·have hd2 : (S2.out == 0) = true := by rw [ho2]; rfl
  cases hq : S2.at_ with
  | some p =>
   have HFI := Lib.hid (fin_no (s := S2) (fun h => by rw [hq] at h; simp at h))
   rw [hq] at hat2
   obtain ⟨⟨b2, o2, rfl, _⟩, _⟩ := hat2
   clear hq
   unfold ptO at *
   go_wp2_with fail
   go_ret
   refine ⟨rfl, H5, K5.out, ?_⟩
   rw [HFI.out]
   exact M5.out
  | none =>
   rw [hq] at hat2
   obtain ⟨rfl, _⟩ := hat2
   have HQ := Lib.hid hq
   have HO2 := Lib.hid ho2
   clear hq ho2
   go_wp2_with fail
   refine HEM.out.mono ?_
   rintro e w6 ⟨rfl, rfl⟩
   cases hem : (S2.above.isEmpty && S2.hs.isEmpty) with
   | true =>
    have HFI := Lib.hid (fin_yes (s := S2) (by rw [Bool.and_eq_true] at hem; rw [HQ.out]; exact ⟨HO2.out, rfl, hem.1, hem.2⟩))
    clear hem
    go_wp2_with fail
    go_ret
    refine ⟨rfl, H5, K5.out, ?_⟩
    rw [HFI.out]
    exact M5.out.out
   | false =>
    have HFI := Lib.hid (fin_no (s := S2) (fun h => by rw [h.2.2.1, h.2.2.2] at hem; cases hem))
    clear hem
    go_wp2_with fail
    go_ret
    refine ⟨rfl, H5, K5.out, ?_⟩
    rw [HFI.out]
    exact M5.out
 ·have hd2 : (S2.out == 0) = false := by rw [beq_eq_false_iff_ne]; exact ho2
  have HFI := Lib.hid (fin_no (s := S2) (fun h => ho2 h.1))
  clear ho2
  go_wp2_with fail
  go_ret
  refine ⟨rfl, H5, K5.out, ?_⟩
  rw [HFI.out]
  exact M5.out
set_option maxRecDepth 100000 in
set_option maxHeartbeats 4000000 in
theorem step_val (h : MS w0 mb H s w) (ho : s.out = 0) (B : Bd s) (hst : s.steps ≤ 1000000) (ha : s.at_ = none) (hne : s.above ≠ [] ∨ s.hs ≠ []) :
  Calls Tryz.prog 17 #[pt mb] w (StepEnd w0 mb H (step s)) := by
 obtain ⟨tv, ev, v0, v1, v2, v3, fv, hv, cv, iv, lv, h⟩ := h
 have z11 : w.cell? ⟨mb, 11, none⟩ = some (.int .i64 s.out) := h.lies.cell 11
 have z12 : w.cell? ⟨mb, 12, none⟩ = some (.int .i64 (s.steps : Int)) := h.lies.cell 12
 rw [ho] at z11
 have f12 := h.lies.free 12
 have h1 : MR w0 mb H { s with steps := s.steps + 1 } tv ev v0 v1 v2 v3 fv hv cv iv lv (w.setCell ⟨mb, 12, none⟩ (.int .i64 ((s.steps : Int) + 1))) := h.steps
 have hsi : (0 : Int) ≤ (s.steps : Int) := by omega
 have hsj : (s.steps : Int) ≤ 1000000 := by omega
 obtain ⟨S2, hS2⟩ : ∃ S2, S2 = body { s with steps := s.steps + 1 } := ⟨_, rfl⟩
 have hst : step s = fin S2 := by rw [hS2]; rfl
 rw [hst]
 clear hst
 have hat := h1.at_
 rw [show ({ s with steps := s.steps + 1 } : St).at_ = none from ha] at hat
 obtain ⟨rfl, hvv⟩ := hat
 have h1d : MR w0 mb H { s with steps := s.steps + 1 } (.pointer none) ev v0 v1 v2 v3 fv hv cv iv lv (w.setCell ⟨mb, 12, none⟩ (.int .i64 ((s.steps : Int) + 1))).drew := ⟨h1.core.drew, h1.lies, h1.at_, h1.above, h1.hs, h1.input⟩
 have hpo := pop_any h1d ha hne ⟨B.trace, B.cells, B.hs, B.konts⟩
 have y0 : (w.setCell ⟨mb, 12, none⟩ (.int .i64 ((s.steps : Int) + 1))).cell? ⟨mb, 0, none⟩ = some (.pointer none) := h1.lies.cell 0
 have hs0 : ∀ (s2 : St) (x y : Value) (V : World), MR w0 mb H s2 (.pointer none) ev v0 v1 v2 v3 x y cv iv lv V → V.cell? ⟨mb, 2, none⟩ = some v0 ∧ V.cell? ⟨mb, 3, none⟩ = some v1 ∧ V.cell? ⟨mb, 4, none⟩ = some v2 ∧ V.cell? ⟨mb, 5, none⟩ = some v3 := fun s2 x y V hV => ⟨hV.lies.cell 2, hV.lies.cell 3, hV.lies.cell 4, hV.lies.cell 5⟩
 obtain ⟨k, n, c, f, hls, hf⟩ := hvv.four
 injection hls with e1 hls
 injection hls with e2 hls
 injection hls with e3 hls
 injection hls with e4 _
 subst e1 e2 e3 e4
 obtain ⟨x0, x1, x2, x3⟩ := hs0 _ _ _ _ h1d
 have HSS := Lib.hid hs0
 have HVV := Lib.hid hvv
 have HPO := Lib.hid hpo
 have HS2 := Lib.hid hS2
 clear h h1 h1d hvv hpo hS2 ha ho B hne hs0
 obtain ⟨W, hW⟩ : ∃ W, W = w.setCell ⟨mb, 12, none⟩ (.int .i64 ((s.steps : Int) + 1)) := ⟨_, rfl⟩
 rw [← hW] at HPO x0 x1 x2 x3
 have HW := Lib.hid hW
 clear hW
 unfold pt at *
 rcases hf with rfl | ⟨ft, fx, rfl⟩
 ·go_enter Tryz.func17, Tryz.ntmps17
  go_wp2_with fail
  rw [← HW.out]
  go_wp2_with fail
  refine wp_region_held_drew (S := fun VV => True) (by kernel_rfl) ?_ (fun hHeld => ?_)
  ·trivial
  refine tkH 0 26 rfl ?_
  try simp only [Act.put, s1, s2, s3]
  refine tkH 1 27 rfl ?_
  try simp only [Act.put, s1, s2, s3]
  refine tkH 2 28 rfl ?_
  try simp only [Act.put, s1, s2, s3]
  refine tkH 4 30 rfl ?_
  try simp only [Act.put, s1, s2, s3]
  refine tkH 5 31 rfl ?_
  try simp only [Act.put, s1, s2, s3]
  refine tkH 6 32 rfl ?_
  try simp only [Act.put, s1, s2, s3]
  refine tkH 7 33 rfl ?_
  try simp only [Act.put, s1, s2, s3]
  refine wpAnyH_ready (rs := [3, 8]) (by kernel_rfl) (by simp) ?_
  refine AllReadyH.cons (o := ⟨some 29, _, _, _, _, _⟩) rfl (fun K hK => ?_) (AllReadyH.cons (o := ⟨some 34, _, _, _, _, _⟩) rfl (fun K hK => ?_) AllReadyH.nil)
  ·go_simp
   refine HPO.out.mono ?_
   rintro e w3 ⟨T, b, F, s2, x, y, rfl, hM, hN, hE, m3, hT⟩
   obtain ⟨q0, q1, q2, q3⟩ := HSS.out _ _ _ _ m3
   have HT := Lib.hid (hT w3 ⟨_, _, _, _, _, _, _, _, _, _, _, m3⟩ _ HVV.out)
   clear m3 hT
   (try dsimp only)
   refine hK.out _ _ ?_ (fun hHeld => ?_)
   ·trivial
   clear hK K
   try simp only [Act.put, s1, s2, s3]
   refine tkH 9 35 rfl ?_
   try simp only [Act.put, s1, s2, s3]
   refine tkH 10 36 rfl ?_
   try simp only [Act.put, s1, s2, s3]
   refine tkH 11 37 rfl ?_
   try simp only [Act.put, s1, s2, s3]
   refine rd1 8 (some 34) rfl fun K hK => ?_
   go_simp
   refine hK.out _ _ ?_ (fun hHeld => ?_)
   ·trivial
   clear hK K
   try simp only [Act.put, s1, s2, s3]
   refine rd1 12 (some 38) rfl fun K hK => ?_
   go_simp
   refine HT.out.mono ?_
   rintro e w5 ⟨rfl, H5, k5, m5⟩
   have K5 := Lib.hid k5
   have M5 := Lib.hid (HS2.out.symm ▸ m5 : MS w0 mb H5 S2 w5)
   clear k5 m5
   (try dsimp only)
   refine hK.out _ _ ?_ (fun hHeld => ?_)
   ·trivial
   clear hK K
   try simp only [Act.put, s1, s2, s3]
   refine wpAnyH_done (by kernel_rfl) ?_ _
   obtain ⟨tv2, ev2, v02, v12, v22, v32, fv2, hv2, cv2, iv2, lv2, m9⟩ := M5.out
   have y11 : w5.cell? ⟨mb, 11, none⟩ = some (.int .i64 S2.out) := m9.lies.cell 11
   have y0 : w5.cell? ⟨mb, 0, none⟩ = some tv2 := m9.lies.cell 0
   have f11 := m9.lies.free 11
   have hat2 := m9.at_
   have HEM := Lib.hid (empty_any M5.out)
   clear m9
   by_cases ho2 : S2.out = 0
   ·have hd2 : (S2.out == 0) = true := by rw [ho2]; rfl
    cases hq : S2.at_ with
    | some p =>
     have HFI := Lib.hid (fin_no (s := S2) (fun h => by rw [hq] at h; simp at h))
     rw [hq] at hat2
     obtain ⟨⟨b2, o2, rfl, _⟩, _⟩ := hat2
     clear hq
     unfold ptO at *
     go_wp2_with fail
     go_ret
     refine ⟨rfl, H5, K5.out, ?_⟩
     rw [HFI.out]
     exact M5.out
    | none =>
     rw [hq] at hat2
     obtain ⟨rfl, _⟩ := hat2
     have HQ := Lib.hid hq
     have HO2 := Lib.hid ho2
     clear hq ho2
     go_wp2_with fail
     refine HEM.out.mono ?_
     rintro e w6 ⟨rfl, rfl⟩
     cases hem : (S2.above.isEmpty && S2.hs.isEmpty) with
     | true =>
      have HFI := Lib.hid (fin_yes (s := S2) (by rw [Bool.and_eq_true] at hem; rw [HQ.out]; exact ⟨HO2.out, rfl, hem.1, hem.2⟩))
      clear hem
      go_wp2_with fail
      go_ret
      refine ⟨rfl, H5, K5.out, ?_⟩
      rw [HFI.out]
      exact M5.out.out
     | false =>
      have HFI := Lib.hid (fin_no (s := S2) (fun h => by rw [h.2.2.1, h.2.2.2] at hem; cases hem))
      clear hem
      go_wp2_with fail
      go_ret
      refine ⟨rfl, H5, K5.out, ?_⟩
      rw [HFI.out]
      exact M5.out
   ·have hd2 : (S2.out == 0) = false := by rw [beq_eq_false_iff_ne]; exact ho2
    have HFI := Lib.hid (fin_no (s := S2) (fun h => ho2 h.1))
    clear ho2
    go_wp2_with fail
    go_ret
    refine ⟨rfl, H5, K5.out, ?_⟩
    rw [HFI.out]
    exact M5.out
  ·go_simp
   refine hK.out _ _ ?_ (fun hHeld => ?_)
   ·trivial
   clear hK K
   try simp only [Act.put, s1, s2, s3]
   refine rd1 3 (some 29) rfl fun K hK => ?_
   go_simp
   refine HPO.out.mono ?_
   rintro e w3 ⟨T, b, F, s2, x, y, rfl, hM, hN, hE, m3, hT⟩
   obtain ⟨q0, q1, q2, q3⟩ := HSS.out _ _ _ _ m3
   have HT := Lib.hid (hT w3 ⟨_, _, _, _, _, _, _, _, _, _, _, m3⟩ _ HVV.out)
   clear m3 hT
   (try dsimp only)
   refine hK.out _ _ ?_ (fun hHeld => ?_)
   ·trivial
   clear hK K
   try simp only [Act.put, s1, s2, s3]
   refine tkH 9 35 rfl ?_
   try simp only [Act.put, s1, s2, s3]
   refine tkH 10 36 rfl ?_
   try simp only [Act.put, s1, s2, s3]
   refine tkH 11 37 rfl ?_
   try simp only [Act.put, s1, s2, s3]
   refine rd1 12 (some 38) rfl fun K hK => ?_
   go_simp
   refine HT.out.mono ?_
   rintro e w5 ⟨rfl, H5, k5, m5⟩
   have K5 := Lib.hid k5
   have M5 := Lib.hid (HS2.out.symm ▸ m5 : MS w0 mb H5 S2 w5)
   clear k5 m5
   (try dsimp only)
   refine hK.out _ _ ?_ (fun hHeld => ?_)
   ·trivial
   clear hK K
   try simp only [Act.put, s1, s2, s3]
   refine wpAnyH_done (by kernel_rfl) ?_ _
   obtain ⟨tv2, ev2, v02, v12, v22, v32, fv2, hv2, cv2, iv2, lv2, m9⟩ := M5.out
   have y11 : w5.cell? ⟨mb, 11, none⟩ = some (.int .i64 S2.out) := m9.lies.cell 11
   have y0 : w5.cell? ⟨mb, 0, none⟩ = some tv2 := m9.lies.cell 0
   have f11 := m9.lies.free 11
   have hat2 := m9.at_
   have HEM := Lib.hid (empty_any M5.out)
   clear m9
   by_cases ho2 : S2.out = 0
   ·have hd2 : (S2.out == 0) = true := by rw [ho2]; rfl
    cases hq : S2.at_ with
    | some p =>
     have HFI := Lib.hid (fin_no (s := S2) (fun h => by rw [hq] at h; simp at h))
     rw [hq] at hat2
     obtain ⟨⟨b2, o2, rfl, _⟩, _⟩ := hat2
     clear hq
     unfold ptO at *
     go_wp2_with fail
     go_ret
     refine ⟨rfl, H5, K5.out, ?_⟩
     rw [HFI.out]
     exact M5.out
    | none =>
     rw [hq] at hat2
     obtain ⟨rfl, _⟩ := hat2
     have HQ := Lib.hid hq
     have HO2 := Lib.hid ho2
     clear hq ho2
     go_wp2_with fail
     refine HEM.out.mono ?_
     rintro e w6 ⟨rfl, rfl⟩
     cases hem : (S2.above.isEmpty && S2.hs.isEmpty) with
     | true =>
      have HFI := Lib.hid (fin_yes (s := S2) (by rw [Bool.and_eq_true] at hem; rw [HQ.out]; exact ⟨HO2.out, rfl, hem.1, hem.2⟩))
      clear hem
      go_wp2_with fail
      go_ret
      refine ⟨rfl, H5, K5.out, ?_⟩
      rw [HFI.out]
      exact M5.out.out
     | false =>
      have HFI := Lib.hid (fin_no (s := S2) (fun h => by rw [h.2.2.1, h.2.2.2] at hem; cases hem))
      clear hem
      go_wp2_with fail
      go_ret
      refine ⟨rfl, H5, K5.out, ?_⟩
      rw [HFI.out]
      exact M5.out
   ·have hd2 : (S2.out == 0) = false := by rw [beq_eq_false_iff_ne]; exact ho2
    have HFI := Lib.hid (fin_no (s := S2) (fun h => ho2 h.1))
    clear ho2
    go_wp2_with fail
    go_ret
    refine ⟨rfl, H5, K5.out, ?_⟩
    rw [HFI.out]
    exact M5.out
 ·go_enter Tryz.func17, Tryz.ntmps17
  go_wp2_with fail
  rw [← HW.out]
  go_wp2_with fail
  refine wp_region_held_drew (S := fun VV => True) (by kernel_rfl) ?_ (fun hHeld => ?_)
  ·trivial
  refine tkH 0 26 rfl ?_
  try simp only [Act.put, s1, s2, s3]
  refine tkH 1 27 rfl ?_
  try simp only [Act.put, s1, s2, s3]
  refine tkH 2 28 rfl ?_
  try simp only [Act.put, s1, s2, s3]
  refine tkH 4 30 rfl ?_
  try simp only [Act.put, s1, s2, s3]
  refine tkH 5 31 rfl ?_
  try simp only [Act.put, s1, s2, s3]
  refine tkH 6 32 rfl ?_
  try simp only [Act.put, s1, s2, s3]
  refine tkH 7 33 rfl ?_
  try simp only [Act.put, s1, s2, s3]
  refine wpAnyH_ready (rs := [3, 8]) (by kernel_rfl) (by simp) ?_
  refine AllReadyH.cons (o := ⟨some 29, _, _, _, _, _⟩) rfl (fun K hK => ?_) (AllReadyH.cons (o := ⟨some 34, _, _, _, _, _⟩) rfl (fun K hK => ?_) AllReadyH.nil)
  ·go_simp
   refine HPO.out.mono ?_
   rintro e w3 ⟨T, b, F, s2, x, y, rfl, hM, hN, hE, m3, hT⟩
   obtain ⟨q0, q1, q2, q3⟩ := HSS.out _ _ _ _ m3
   have HT := Lib.hid (hT w3 ⟨_, _, _, _, _, _, _, _, _, _, _, m3⟩ _ HVV.out)
   clear m3 hT
   (try dsimp only)
   refine hK.out _ _ ?_ (fun hHeld => ?_)
   ·trivial
   clear hK K
   try simp only [Act.put, s1, s2, s3]
   refine tkH 9 35 rfl ?_
   try simp only [Act.put, s1, s2, s3]
   refine tkH 10 36 rfl ?_
   try simp only [Act.put, s1, s2, s3]
   refine tkH 11 37 rfl ?_
   try simp only [Act.put, s1, s2, s3]
   refine rd1 8 (some 34) rfl fun K hK => ?_
   go_simp
   refine hK.out _ _ ?_ (fun hHeld => ?_)
   ·trivial
   clear hK K
   try simp only [Act.put, s1, s2, s3]
   refine rd1 12 (some 38) rfl fun K hK => ?_
   go_simp
   refine HT.out.mono ?_
   rintro e w5 ⟨rfl, H5, k5, m5⟩
   have K5 := Lib.hid k5
   have M5 := Lib.hid (HS2.out.symm ▸ m5 : MS w0 mb H5 S2 w5)
   clear k5 m5
   (try dsimp only)
   refine hK.out _ _ ?_ (fun hHeld => ?_)
   ·trivial
   clear hK K
   try simp only [Act.put, s1, s2, s3]
   refine wpAnyH_done (by kernel_rfl) ?_ _
   obtain ⟨tv2, ev2, v02, v12, v22, v32, fv2, hv2, cv2, iv2, lv2, m9⟩ := M5.out
   have y11 : w5.cell? ⟨mb, 11, none⟩ = some (.int .i64 S2.out) := m9.lies.cell 11
   have y0 : w5.cell? ⟨mb, 0, none⟩ = some tv2 := m9.lies.cell 0
   have f11 := m9.lies.free 11
   have hat2 := m9.at_
   have HEM := Lib.hid (empty_any M5.out)
   clear m9
   by_cases ho2 : S2.out = 0
   ·have hd2 : (S2.out == 0) = true := by rw [ho2]; rfl
    cases hq : S2.at_ with
    | some p =>
     have HFI := Lib.hid (fin_no (s := S2) (fun h => by rw [hq] at h; simp at h))
     rw [hq] at hat2
     obtain ⟨⟨b2, o2, rfl, _⟩, _⟩ := hat2
     clear hq
     unfold ptO at *
     go_wp2_with fail
     go_ret
     refine ⟨rfl, H5, K5.out, ?_⟩
     rw [HFI.out]
     exact M5.out
    | none =>
     rw [hq] at hat2
     obtain ⟨rfl, _⟩ := hat2
     have HQ := Lib.hid hq
     have HO2 := Lib.hid ho2
     clear hq ho2
     go_wp2_with fail
     refine HEM.out.mono ?_
     rintro e w6 ⟨rfl, rfl⟩
     cases hem : (S2.above.isEmpty && S2.hs.isEmpty) with
     | true =>
      have HFI := Lib.hid (fin_yes (s := S2) (by rw [Bool.and_eq_true] at hem; rw [HQ.out]; exact ⟨HO2.out, rfl, hem.1, hem.2⟩))
      clear hem
      go_wp2_with fail
      go_ret
      refine ⟨rfl, H5, K5.out, ?_⟩
      rw [HFI.out]
      exact M5.out.out
     | false =>
      have HFI := Lib.hid (fin_no (s := S2) (fun h => by rw [h.2.2.1, h.2.2.2] at hem; cases hem))
      clear hem
      go_wp2_with fail
      go_ret
      refine ⟨rfl, H5, K5.out, ?_⟩
      rw [HFI.out]
      exact M5.out
   ·have hd2 : (S2.out == 0) = false := by rw [beq_eq_false_iff_ne]; exact ho2
    have HFI := Lib.hid (fin_no (s := S2) (fun h => ho2 h.1))
    clear ho2
    go_wp2_with fail
    go_ret
    refine ⟨rfl, H5, K5.out, ?_⟩
    rw [HFI.out]
    exact M5.out
  ·go_simp
   refine hK.out _ _ ?_ (fun hHeld => ?_)
   ·trivial
   clear hK K
   try simp only [Act.put, s1, s2, s3]
   refine rd1 3 (some 29) rfl fun K hK => ?_
   go_simp
   refine HPO.out.mono ?_
   rintro e w3 ⟨T, b, F, s2, x, y, rfl, hM, hN, hE, m3, hT⟩
   obtain ⟨q0, q1, q2, q3⟩ := HSS.out _ _ _ _ m3
   have HT := Lib.hid (hT w3 ⟨_, _, _, _, _, _, _, _, _, _, _, m3⟩ _ HVV.out)
   clear m3 hT
   (try dsimp only)
   refine hK.out _ _ ?_ (fun hHeld => ?_)
   ·trivial
   clear hK K
   try simp only [Act.put, s1, s2, s3]
   refine tkH 9 35 rfl ?_
   try simp only [Act.put, s1, s2, s3]
   refine tkH 10 36 rfl ?_
   try simp only [Act.put, s1, s2, s3]
   refine tkH 11 37 rfl ?_
   try simp only [Act.put, s1, s2, s3]
   refine rd1 12 (some 38) rfl fun K hK => ?_
   go_simp
   refine HT.out.mono ?_
   rintro e w5 ⟨rfl, H5, k5, m5⟩
   have K5 := Lib.hid k5
   have M5 := Lib.hid (HS2.out.symm ▸ m5 : MS w0 mb H5 S2 w5)
   clear k5 m5
   (try dsimp only)
   refine hK.out _ _ ?_ (fun hHeld => ?_)
   ·trivial
   clear hK K
   try simp only [Act.put, s1, s2, s3]
   refine wpAnyH_done (by kernel_rfl) ?_ _
   obtain ⟨tv2, ev2, v02, v12, v22, v32, fv2, hv2, cv2, iv2, lv2, m9⟩ := M5.out
   have y11 : w5.cell? ⟨mb, 11, none⟩ = some (.int .i64 S2.out) := m9.lies.cell 11
   have y0 : w5.cell? ⟨mb, 0, none⟩ = some tv2 := m9.lies.cell 0
   have f11 := m9.lies.free 11
   have hat2 := m9.at_
   have HEM := Lib.hid (empty_any M5.out)
   clear m9
   by_cases ho2 : S2.out = 0
   ·have hd2 : (S2.out == 0) = true := by rw [ho2]; rfl
    cases hq : S2.at_ with
    | some p =>
     have HFI := Lib.hid (fin_no (s := S2) (fun h => by rw [hq] at h; simp at h))
     rw [hq] at hat2
     obtain ⟨⟨b2, o2, rfl, _⟩, _⟩ := hat2
     clear hq
     unfold ptO at *
     go_wp2_with fail
     go_ret
     refine ⟨rfl, H5, K5.out, ?_⟩
     rw [HFI.out]
     exact M5.out
    | none =>
     rw [hq] at hat2
     obtain ⟨rfl, _⟩ := hat2
     have HQ := Lib.hid hq
     have HO2 := Lib.hid ho2
     clear hq ho2
     go_wp2_with fail
     refine HEM.out.mono ?_
     rintro e w6 ⟨rfl, rfl⟩
     cases hem : (S2.above.isEmpty && S2.hs.isEmpty) with
     | true =>
      have HFI := Lib.hid (fin_yes (s := S2) (by rw [Bool.and_eq_true] at hem; rw [HQ.out]; exact ⟨HO2.out, rfl, hem.1, hem.2⟩))
      clear hem
      go_wp2_with fail
      go_ret
      refine ⟨rfl, H5, K5.out, ?_⟩
      rw [HFI.out]
      exact M5.out.out
     | false =>
      have HFI := Lib.hid (fin_no (s := S2) (fun h => by rw [h.2.2.1, h.2.2.2] at hem; cases hem))
      clear hem
      go_wp2_with fail
      go_ret
      refine ⟨rfl, H5, K5.out, ?_⟩
      rw [HFI.out]
      exact M5.out
   ·have hd2 : (S2.out == 0) = false := by rw [beq_eq_false_iff_ne]; exact ho2
    have HFI := Lib.hid (fin_no (s := S2) (fun h => ho2 h.1))
    clear ho2
    go_wp2_with fail
    go_ret
    refine ⟨rfl, H5, K5.out, ?_⟩
    rw [HFI.out]
    exact M5.out
end
end So
end Go.Proofs.YtmodmojocclmaaaGreatDoor.K

/- The machine of package source: what is told of a value without kids. -/
namespace Go.Proofs.YtmodmojocclmaaaGreatDoor.K
open Go Go.RowKit
namespace So

def vtL (k n : Int) : Array Value := #[.int .i64 k, .int .i64 n, .string ⟨#[]⟩, .slice none 0 0]
set_option maxRecDepth 100000 in
set_option maxHeartbeats 4000000 in
theorem kids_lit (w : World) (k n : Int) : Calls Tryz.prog 61 #[.agg (litL k n).toArray] w fun e w' => e = .returned (.slice none 0 0) ∧ Below w.heap.size w w' := by
 unfold litL
 go_enter Tryz.func61, Tryz.ntmps61
 go_wp2
 go_ret
 exact ⟨rfl, (Below.refl _ _).alloc (Nat.le_refl _) _⟩
set_option maxRecDepth 100000 in
set_option maxHeartbeats 4000000 in
theorem pieces_lit (w : World) (k n : Int) (most : Int) : Calls Tryz.prog 42 #[.agg (litL k n).toArray, .int .i64 most] w fun e w' => e = .returned (.int .i64 1) ∧ Below w.heap.size w w' := by
 unfold litL
 go_enter Tryz.func42, Tryz.ntmps42
 go_wp2_with fail
 have hk := kids_lit (w.alloc (.cells [.int .i64 k, .int .i64 n, .pointer none, .nilIface].toArray 68)) k n
 unfold litL at hk
 refine hk.mono ?_
 rintro e w1 ⟨rfl, hb⟩
 have HB := Lib.hid (((Below.refl w.heap.size w).alloc (Nat.le_refl _) _).trans (hb.mono (by simp)))
 clear hk hb
 go_wp2_with fail
 go_loopw [5, 11] (fun c x wr => c = .int .i64 1 ∧ x = .int .i64 0 ∧ wr = w1) (fun _ _ _ => 0)
 case atStart => exact ⟨rfl, rfl, rfl⟩
 case round =>
  obtain ⟨rfl, rfl, rfl⟩ := hrel
  go_wp2
  go_ret
  exact ⟨rfl, HB.out⟩
theorem szV : (Tryz.prog.info? 38).map (·.size) = some 4 := by kernel_rfl
set_option maxRecDepth 100000 in
set_option maxHeartbeats 4000000 in
theorem alone_lit (w : World) (k n : Int) : Calls Tryz.prog 43 #[.agg (litL k n).toArray] w fun e w' => e = .returned (.agg (vtL k n)) ∧ Below w.heap.size w w' := by
 unfold litL
 go_enter Tryz.func43, Tryz.ntmps43
 go_wp2
 have hl : Lies (((w.alloc (.cells #[.int .i64 k, .int .i64 n, .pointer none, .nilIface] 68)).alloc (.cells (vtL k n) 38)).alloc (.cells (vtL k n) 38)) (w.heap.size + 1) 38 (vtL k n) := by
  have := (Lies.new (w.alloc (.cells #[.int .i64 k, .int .i64 n, .pointer none, .nilIface] 68)) 38 (vtL k n)).alloc (.cells (vtL k n) 38)
  simpa using this
 refine bodyPost_ret (v := .agg (vtL k n)) (results_cell_row rfl _ _ (w.heap.size + 1) 38 _ (0, 0) _ rfl hl Tryz.underlying38 rfl szV) rfl ?_
 exact ⟨rfl, (((Below.refl _ _).alloc (Nat.le_refl _) _).alloc (by simp) _).alloc (by simp; omega) _⟩
set_option maxRecDepth 100000 in
set_option maxHeartbeats 4000000 in
theorem whole_lit (w : World) (k n : Int) : Calls Tryz.prog 44 #[.agg (litL k n).toArray] w fun e w' => e = .returned (.agg (vtL k n)) ∧ Below w.heap.size w w' := by
 unfold litL
 go_enter Tryz.func44, Tryz.ntmps44
 obtain ⟨W0, hW0⟩ : ∃ W0, W0 = (w.alloc (.cells #[.int .i64 k, .int .i64 n, .pointer none, .nilIface] 68)).alloc (.cells #[.int .i64 0, .int .i64 0, .string ⟨#[]⟩, .slice none 0 0] 38) := ⟨_, rfl⟩
 have hz0 : W0.heap.size = w.heap.size + 1 + 1 := by rw [hW0]; simp
 have hB0 : Below w.heap.size w W0 := by rw [hW0]; exact ((Below.refl _ _).alloc (Nat.le_refl _) _).alloc (by simp) _
 have lb0 : Lies W0 w.heap.size 68 #[.int .i64 k, .int .i64 n, .pointer none, .nilIface] := by rw [hW0]; exact (Lies.new w _ _).alloc _
 have lz0 : Lies W0 (w.heap.size + 1) 38 #[.int .i64 0, .int .i64 0, .string ⟨#[]⟩, .slice none 0 0] := by
  rw [hW0]
  have := Lies.new (w.alloc (.cells #[.int .i64 k, .int .i64 n, .pointer none, .nilIface] 68)) 38 #[.int .i64 0, .int .i64 0, .string ⟨#[]⟩, .slice none 0 0]
  simpa using this
 have ha := alone_lit W0 k n
 unfold litL vtL at ha
 rw [hW0] at ha
 have HA := Lib.hid ha
 clear ha
 go_wp2_with fail
 refine HA.out.mono ?_
 rintro e w1 ⟨rfl, hb1⟩
 rw [← hW0] at hb1
 have lb1 : Lies w1 w.heap.size 68 #[.int .i64 k, .int .i64 n, .pointer none, .nilIface] := (hb1.block _ (by omega)).trans lb0
 have lz1 : Lies w1 (w.heap.size + 1) 38 #[.int .i64 0, .int .i64 0, .string ⟨#[]⟩, .slice none 0 0] := (hb1.block _ (by omega)).trans lz0
 have hs1 := hb1.size
 have p0 : w1.cell? ⟨w.heap.size, 0, none⟩ = some (.int .i64 k) := lb1.cell 0
 have p1 : w1.cell? ⟨w.heap.size, 1, none⟩ = some (.int .i64 n) := lb1.cell 1
 have p2 : w1.cell? ⟨w.heap.size, 2, none⟩ = some (.pointer none) := lb1.cell 2
 have p3 : w1.cell? ⟨w.heap.size, 3, none⟩ = some .nilIface := lb1.cell 3
 have lba := lb1.alloc (.cells #[.int .i64 k, .int .i64 n, .string ⟨#[]⟩, .slice none 0 0] 38)
 have a0 : (w1.alloc (.cells #[.int .i64 k, .int .i64 n, .string ⟨#[]⟩, .slice none 0 0] 38)).cell? ⟨w.heap.size, 0, none⟩ = some (.int .i64 k) := lba.cell 0
 have a1 : (w1.alloc (.cells #[.int .i64 k, .int .i64 n, .string ⟨#[]⟩, .slice none 0 0] 38)).cell? ⟨w.heap.size, 1, none⟩ = some (.int .i64 n) := lba.cell 1
 have a2 : (w1.alloc (.cells #[.int .i64 k, .int .i64 n, .string ⟨#[]⟩, .slice none 0 0] 38)).cell? ⟨w.heap.size, 2, none⟩ = some (.pointer none) := lba.cell 2
 have a3 : (w1.alloc (.cells #[.int .i64 k, .int .i64 n, .string ⟨#[]⟩, .slice none 0 0] 38)).cell? ⟨w.heap.size, 3, none⟩ = some .nilIface := lba.cell 3
 have hk := kids_lit (w1.alloc (.cells (vtL k n) 38)) k n
 unfold litL vtL at hk
 have HK := Lib.hid hk
 have HB1 := Lib.hid hb1
 have HB0 := Lib.hid hB0
 have LZ := Lib.hid lz1
 clear hk hb1 lb1 lba lz1 hB0 lb0 lz0 hW0
 go_wp2_with fail
 refine HK.out.mono ?_
 rintro e w2 ⟨rfl, hb2⟩
 have HB2 := Lib.hid hb2
 clear hb2
 go_wp2_with fail
 go_loopw [11] (fun x wr => x = .int .i64 0 ∧ wr = w2) (fun _ _ => 0)
 case atStart => exact ⟨rfl, rfl⟩
 case round =>
  obtain ⟨rfl, rfl⟩ := hrel
  have l3 : Lies wr w1.heap.size 38 (vtL k n) := (HB2.out.block _ (by simp)).trans (Lies.new w1 _ _)
  have l2 : Lies wr (w.heap.size + 1) 38 #[.int .i64 0, .int .i64 0, .string ⟨#[]⟩, .slice none 0 0] := (HB2.out.block _ (by simp; omega)).trans (LZ.out.alloc _)
  have q0 : wr.cell? ⟨w1.heap.size, 0, none⟩ = some (.int .i64 k) := l3.cell 0
  have q1 : wr.cell? ⟨w1.heap.size, 1, none⟩ = some (.int .i64 n) := l3.cell 1
  have q2 : wr.cell? ⟨w1.heap.size, 2, none⟩ = some (.string ⟨#[]⟩) := l3.cell 2
  have q3 : wr.cell? ⟨w1.heap.size, 3, none⟩ = some (.slice none 0 0) := l3.cell 3
  have z0 : wr.cell? ⟨w.heap.size + 1, 0, none⟩ = some (.int .i64 0) := l2.cell 0
  have z1 : wr.cell? ⟨w.heap.size + 1, 1, none⟩ = some (.int .i64 0) := l2.cell 1
  have z2 : wr.cell? ⟨w.heap.size + 1, 2, none⟩ = some (.string ⟨#[]⟩) := l2.cell 2
  have z3 : wr.cell? ⟨w.heap.size + 1, 3, none⟩ = some (.slice none 0 0) := l2.cell 3
  have f0 := l2.free 0
  have f1 := l2.free 1
  have f2 := l2.free 2
  have f3 := l2.free 3
  go_wp2
  have l4 : Lies ((((wr.setCell ⟨w.heap.size + 1, 0, none⟩ (.int .i64 k)).setCell ⟨w.heap.size + 1, 1, none⟩ (.int .i64 n)).setCell ⟨w.heap.size + 1, 2, none⟩ (.string ⟨#[]⟩)).setCell ⟨w.heap.size + 1, 3, none⟩ (.slice none 0 0)) (w.heap.size + 1) 38 (vtL k n) := (((l2.set 0 _).set 1 _).set 2 _).set 3 _
  have hA : Below w.heap.size w wr := ((HB0.out.trans (HB1.out.mono (by omega))).alloc (by have := HB1.out.size; omega) _).trans (HB2.out.mono (by simp; omega))
  refine bodyPost_ret (v := .agg (vtL k n)) (results_cell_row rfl _ _ (w.heap.size + 1) 38 _ (0, 0) _ rfl l4 Tryz.underlying38 rfl szV) rfl ?_
  exact ⟨rfl, (((hA.setCell (p := ⟨w.heap.size + 1, 0, none⟩) (by show w.heap.size ≤ w.heap.size + 1; omega) _).setCell (p := ⟨w.heap.size + 1, 1, none⟩) (by show w.heap.size ≤ w.heap.size + 1; omega) _).setCell (p := ⟨w.heap.size + 1, 2, none⟩) (by show w.heap.size ≤ w.heap.size + 1; omega) _).setCell (p := ⟨w.heap.size + 1, 3, none⟩) (by show w.heap.size ≤ w.heap.size + 1; omega) _⟩
set_option maxRecDepth 100000 in
set_option maxHeartbeats 4000000 in
theorem told_lit (w : World) (k n : Int) : Calls Tryz.prog 24 #[.agg (litL k n).toArray] w fun e w' => e = .returned (.agg (vtL k n)) ∧ Below w.heap.size w w' := by
 unfold litL
 go_enter Tryz.func24, Tryz.ntmps24
 obtain ⟨W0, hW0⟩ : ∃ W0, W0 = (w.alloc (.cells #[.int .i64 k, .int .i64 n, .pointer none, .nilIface] 68)).alloc (.cells #[.int .i64 0, .int .i64 0, .string ⟨#[]⟩, .slice none 0 0] 38) := ⟨_, rfl⟩
 have hz0 : W0.heap.size = w.heap.size + 1 + 1 := by rw [hW0]; simp
 have hB0 : Below w.heap.size w W0 := by rw [hW0]; exact ((Below.refl _ _).alloc (Nat.le_refl _) _).alloc (by simp) _
 have lb0 : Lies W0 w.heap.size 68 #[.int .i64 k, .int .i64 n, .pointer none, .nilIface] := by rw [hW0]; exact (Lies.new w _ _).alloc _
 have lz0 : Lies W0 (w.heap.size + 1) 38 #[.int .i64 0, .int .i64 0, .string ⟨#[]⟩, .slice none 0 0] := by
  rw [hW0]
  have := Lies.new (w.alloc (.cells #[.int .i64 k, .int .i64 n, .pointer none, .nilIface] 68)) 38 #[.int .i64 0, .int .i64 0, .string ⟨#[]⟩, .slice none 0 0]
  simpa using this
 have ha := pieces_lit W0 k n 10000
 unfold litL at ha
 rw [hW0] at ha
 have HA := Lib.hid ha
 clear ha
 go_wp2_with fail
 refine HA.out.mono ?_
 rintro e w1 ⟨rfl, hb1⟩
 rw [← hW0] at hb1
 have lb1 : Lies w1 w.heap.size 68 #[.int .i64 k, .int .i64 n, .pointer none, .nilIface] := (hb1.block _ (by omega)).trans lb0
 have lz1 : Lies w1 (w.heap.size + 1) 38 #[.int .i64 0, .int .i64 0, .string ⟨#[]⟩, .slice none 0 0] := (hb1.block _ (by omega)).trans lz0
 have hs1 := hb1.size
 have p0 : w1.cell? ⟨w.heap.size, 0, none⟩ = some (.int .i64 k) := lb1.cell 0
 have p1 : w1.cell? ⟨w.heap.size, 1, none⟩ = some (.int .i64 n) := lb1.cell 1
 have p2 : w1.cell? ⟨w.heap.size, 2, none⟩ = some (.pointer none) := lb1.cell 2
 have p3 : w1.cell? ⟨w.heap.size, 3, none⟩ = some .nilIface := lb1.cell 3
 have hk := whole_lit w1 k n
 unfold litL vtL at hk
 have HK := Lib.hid hk
 have HB1 := Lib.hid hb1
 have HB0 := Lib.hid hB0
 have LZ := Lib.hid lz1
 clear hk hb1 lb1 lz1 hB0 lb0 lz0 hW0
 go_wp2_with fail
 refine HK.out.mono ?_
 rintro e wr ⟨rfl, hb2⟩
 have HB2 := Lib.hid hb2
 clear hb2
 have l2 : Lies wr (w.heap.size + 1) 38 #[.int .i64 0, .int .i64 0, .string ⟨#[]⟩, .slice none 0 0] := (HB2.out.block _ (by omega)).trans LZ.out
 have z0 : wr.cell? ⟨w.heap.size + 1, 0, none⟩ = some (.int .i64 0) := l2.cell 0
 have z1 : wr.cell? ⟨w.heap.size + 1, 1, none⟩ = some (.int .i64 0) := l2.cell 1
 have z2 : wr.cell? ⟨w.heap.size + 1, 2, none⟩ = some (.string ⟨#[]⟩) := l2.cell 2
 have z3 : wr.cell? ⟨w.heap.size + 1, 3, none⟩ = some (.slice none 0 0) := l2.cell 3
 have f0 := l2.free 0
 have f1 := l2.free 1
 have f2 := l2.free 2
 have f3 := l2.free 3
 go_wp2
 have l4 : Lies ((((wr.setCell ⟨w.heap.size + 1, 0, none⟩ (.int .i64 k)).setCell ⟨w.heap.size + 1, 1, none⟩ (.int .i64 n)).setCell ⟨w.heap.size + 1, 2, none⟩ (.string ⟨#[]⟩)).setCell ⟨w.heap.size + 1, 3, none⟩ (.slice none 0 0)) (w.heap.size + 1) 38 (vtL k n) := (((l2.set 0 _).set 1 _).set 2 _).set 3 _
 have hA : Below w.heap.size w wr := (HB0.out.trans (HB1.out.mono (by omega))).trans (HB2.out.mono (by have := HB1.out.size; omega))
 refine bodyPost_ret (v := .agg (vtL k n)) (results_cell_row rfl _ _ (w.heap.size + 1) 38 _ (0, 0) _ rfl l4 Tryz.underlying38 rfl szV) rfl ?_
 exact ⟨rfl, (((hA.setCell (p := ⟨w.heap.size + 1, 0, none⟩) (by show w.heap.size ≤ w.heap.size + 1; omega) _).setCell (p := ⟨w.heap.size + 1, 1, none⟩) (by show w.heap.size ≤ w.heap.size + 1; omega) _).setCell (p := ⟨w.heap.size + 1, 2, none⟩) (by show w.heap.size ≤ w.heap.size + 1; omega) _).setCell (p := ⟨w.heap.size + 1, 3, none⟩) (by show w.heap.size ≤ w.heap.size + 1; omega) _⟩

end So
end Go.Proofs.YtmodmojocclmaaaGreatDoor.K
