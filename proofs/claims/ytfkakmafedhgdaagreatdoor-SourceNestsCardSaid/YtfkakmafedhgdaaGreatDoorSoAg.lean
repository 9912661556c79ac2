/- The machine of package source: a step. -/
import Derived.Test.YtfkakmafedhgdaaGreatDoorMg06
import Derived.Test.YtfkakmafedhgdaaGreatDoorMg23
import Derived.Deep.RegionHeld3
namespace Go.Proofs.YtfkakmafedhgdaaGreatDoor.K
open Go Go.RowKit
namespace So

section
variable {w0 : World} {mb : Nat} {H : Mem} {s : St} {w : World}
theorem fin_no {s : St} (h : ¬ (s.out = 0 ∧ s.at_.isNone ∧ s.above.isEmpty ∧ s.hs.isEmpty)) : fin s = s := by unfold fin; rw [if_neg h]
theorem fin_yes {s : St} (h : s.out = 0 ∧ s.at_.isNone ∧ s.above.isEmpty ∧ s.hs.isEmpty) : fin s = { s with out := 1 } := by unfold fin; rw [if_pos h]
theorem MS.out {i : Int} (h : MS w0 mb H s w) : MS w0 mb H { s with out := i } (w.setCell ⟨mb, 11, none⟩ (.int .i64 i)) := by
  obtain ⟨tv, ev, v0, v1, v2, v3, fv, hv, cv, iv, lv, h⟩ := h
  exact ⟨_, _, _, _, _, _, _, _, _, _, _, h.core.set 11 _, h.lies.set 11 _, h.at_, h.above, h.hs, h.input⟩
theorem MR.steps {tv ev v0 v1 v2 v3 fv hv cv iv lv : Value} (h : MR w0 mb H s tv ev v0 v1 v2 v3 fv hv cv iv lv w) : MR w0 mb H { s with steps := s.steps + 1 } tv ev v0 v1 v2 v3 fv hv cv iv lv (w.setCell ⟨mb, 12, none⟩ (.int .i64 ((s.steps : Int) + 1))) := by
  have hl := h.lies.set 12 (.int .i64 ((s.steps : Int) + 1))
  refine ⟨h.core.set 12 _, ?_, h.at_, h.above, h.hs, h.input⟩
  rw [show ((s.steps : Int) + 1) = ((s.steps + 1 : Nat) : Int) by omega] at hl ⊢
  exact hl
/-- What a step answers. -/
def StepEnd (w0 : World) (mb : Nat) (H : Mem) (S : St) (e : Ending) (w' : World) : Prop := e = .returned (.bool true) ∧ ∃ H', MLe H H' ∧ MS w0 mb H' S w'
set_option maxRecDepth 100000 in
set_option maxHeartbeats 4000000 in
theorem step_over (h : MS w0 mb H s w) (ho : s.out ≠ 0) : Calls Tryz.prog 17 #[pt mb] w fun e w' => e = .returned (.bool false) ∧ w' = w := by
  obtain ⟨tv, ev, v0, v1, v2, v3, fv, hv, cv, iv, lv, h⟩ := h
  have z11 : w.cell? ⟨mb, 11, none⟩ = some (.int .i64 s.out) := h.lies.cell 11
  have hd : (s.out == 0) = false := by rw [beq_eq_false_iff_ne]; exact ho
  clear h ho
  unfold pt at *
  go_enter Tryz.func17, Tryz.ntmps17
  go_wp2
  go_ret
  exact ⟨rfl, rfl⟩
set_option maxRecDepth 100000 in
set_option maxHeartbeats 4000000 in
theorem step_term (h : MS w0 mb H s w) (ho : s.out = 0) (B : Bd s) (hst : s.steps ≤ 1000000) {t : Tm} {en : Env} (ha : s.at_ = some (t, en)) :
    Calls Tryz.prog 17 #[pt mb] w (StepEnd w0 mb H (step s)) := by
  obtain ⟨tv, ev, v0, v1, v2, v3, fv, hv, cv, iv, lv, h⟩ := h
  have z11 : w.cell? ⟨mb, 11, none⟩ = some (.int .i64 s.out) := h.lies.cell 11
  have z12 : w.cell? ⟨mb, 12, none⟩ = some (.int .i64 (s.steps : Int)) := h.lies.cell 12
  rw [ho] at z11
  have f12 := h.lies.free 12
  have h1 : MR w0 mb H { s with steps := s.steps + 1 } tv ev v0 v1 v2 v3 fv hv cv iv lv (w.setCell ⟨mb, 12, none⟩ (.int .i64 ((s.steps : Int) + 1))) := h.steps
  have hsi : (0 : Int) ≤ (s.steps : Int) := by omega
  have hsj : (s.steps : Int) ≤ 1000000 := by omega
  obtain ⟨S2, hS2⟩ : ∃ S2, S2 = body { s with steps := s.steps + 1 } := ⟨_, rfl⟩
  have hst : step s = fin S2 := by rw [hS2]; rfl
  rw [hst]
  clear hst
  have hbo : body { s with steps := s.steps + 1 } = enter t en { s with steps := s.steps + 1 } := by unfold body; rw [ha]
  have hat := h1.at_
  rw [show ({ s with steps := s.steps + 1 } : St).at_ = some (t, en) from ha] at hat
  obtain ⟨⟨tb, to, rfl, htm⟩, _⟩ := hat
  have y0 : (w.setCell ⟨mb, 12, none⟩ (.int .i64 ((s.steps : Int) + 1))).cell? ⟨mb, 0, none⟩ = some (ptO tb to) := h1.lies.cell 0
  have hen := enter_any ⟨_, _, _, _, _, _, _, _, _, _, _, h1⟩ ha htm B.trace B.cells
  rw [← hbo, ← hS2] at hen
  have HEN := Lib.hid hen
  clear h h1 htm hen hbo hS2 ha ho B
  obtain ⟨W, hW⟩ : ∃ W, W = w.setCell ⟨mb, 12, none⟩ (.int .i64 ((s.steps : Int) + 1)) := ⟨_, rfl⟩
  rw [← hW] at HEN
  have HW := Lib.hid hW
  clear hW
  unfold pt ptO at *
  go_enter Tryz.func17, Tryz.ntmps17
  go_wp2_with fail
  rw [← HW.out]
  go_wp2_with fail
  refine HEN.out.mono ?_
  rintro e w5 ⟨rfl, H5, k5, m5⟩
  have K5 := Lib.hid k5
  have M5 := Lib.hid m5
  clear k5 m5
  obtain ⟨tv2, ev2, v02, v12, v22, v32, fv2, hv2, cv2, iv2, lv2, m9⟩ := M5.out
  have y11 : w5.cell? ⟨mb, 11, none⟩ = some (.int .i64 S2.out) := m9.lies.cell 11
  have y0 : w5.cell? ⟨mb, 0, none⟩ = some tv2 := m9.lies.cell 0
  have f11 := m9.lies.free 11
  have hat2 := m9.at_
  have HEM := Lib.hid (empty_any M5.out)
  clear m9
  by_cases ho2 : S2.out = 0
  · have hd2 : (S2.out == 0) = true := by rw [ho2]; rfl
    cases hq : S2.at_ with
    | some p =>
      have HFI := Lib.hid (fin_no (s := S2) (fun h => by rw [hq] at h; simp at h))
      rw [hq] at hat2
      obtain ⟨⟨b2, o2, rfl, _⟩, _⟩ := hat2
      clear hq
      unfold ptO at *
      go_wp2_with fail
      go_ret
      refine ⟨rfl, H5, K5.out, ?_⟩
      rw [HFI.out]
      exact M5.out
    | none =>
      rw [hq] at hat2
      obtain ⟨rfl, _⟩ := hat2
      have HQ := Lib.hid hq
      have HO2 := Lib.hid ho2
      clear hq ho2
      go_wp2_with fail
      refine HEM.out.mono ?_
      rintro e w6 ⟨rfl, rfl⟩
      cases hem : (S2.above.isEmpty && S2.hs.isEmpty) with
      | true =>
        have HFI := Lib.hid (fin_yes (s := S2) (by rw [Bool.and_eq_true] at hem; rw [HQ.out]; exact ⟨HO2.out, rfl, hem.1, hem.2⟩))
        clear hem
        go_wp2_with fail
        go_ret
        refine ⟨rfl, H5, K5.out, ?_⟩
        rw [HFI.out]
        exact M5.out.out
      | false =>
        have HFI := Lib.hid (fin_no (s := S2) (fun h => by rw [h.2.2.1, h.2.2.2] at hem; cases hem))
        clear hem
        go_wp2_with fail
        go_ret
        refine ⟨rfl, H5, K5.out, ?_⟩
        rw [HFI.out]
        exact M5.out
  · have hd2 : (S2.out == 0) = false := by rw [beq_eq_false_iff_ne]; exact ho2
    have HFI := Lib.hid (fin_no (s := S2) (fun h => ho2 h.1))
    clear ho2
    go_wp2_with fail
    go_ret
    refine ⟨rfl, H5, K5.out, ?_⟩
    rw [HFI.out]
    exact M5.out
set_option maxRecDepth 100000 in
set_option maxHeartbeats 4000000 in
theorem step_val (h : MS w0 mb H s w) (ho : s.out = 0) (B : Bd s) (hst : s.steps ≤ 1000000) (ha : s.at_ = none) (hne : s.above ≠ [] ∨ s.hs ≠ []) :
    Calls Tryz.prog 17 #[pt mb] w (StepEnd w0 mb H (step s)) := by
  obtain ⟨tv, ev, v0, v1, v2, v3, fv, hv, cv, iv, lv, h⟩ := h
  have z11 : w.cell? ⟨mb, 11, none⟩ = some (.int .i64 s.out) := h.lies.cell 11
  have z12 : w.cell? ⟨mb, 12, none⟩ = some (.int .i64 (s.steps : Int)) := h.lies.cell 12
  rw [ho] at z11
  have f12 := h.lies.free 12
  have h1 : MR w0 mb H { s with steps := s.steps + 1 } tv ev v0 v1 v2 v3 fv hv cv iv lv (w.setCell ⟨mb, 12, none⟩ (.int .i64 ((s.steps : Int) + 1))) := h.steps
  have hsi : (0 : Int) ≤ (s.steps : Int) := by omega
  have hsj : (s.steps : Int) ≤ 1000000 := by omega
  obtain ⟨S2, hS2⟩ : ∃ S2, S2 = body { s with steps := s.steps + 1 } := ⟨_, rfl⟩
  have hst : step s = fin S2 := by rw [hS2]; rfl
  rw [hst]
  clear hst
  have hat := h1.at_
  rw [show ({ s with steps := s.steps + 1 } : St).at_ = none from ha] at hat
  obtain ⟨rfl, hvv⟩ := hat
  have h1d : MR w0 mb H { s with steps := s.steps + 1 } (.pointer none) ev v0 v1 v2 v3 fv hv cv iv lv (w.setCell ⟨mb, 12, none⟩ (.int .i64 ((s.steps : Int) + 1))).drew := ⟨h1.core.drew, h1.lies, h1.at_, h1.above, h1.hs, h1.input⟩
  have hpo := pop_any h1d ha hne ⟨B.trace, B.cells, B.hs, B.konts⟩
  have y0 : (w.setCell ⟨mb, 12, none⟩ (.int .i64 ((s.steps : Int) + 1))).cell? ⟨mb, 0, none⟩ = some (.pointer none) := h1.lies.cell 0
  have hs0 : ∀ (s2 : St) (x y : Value) (V : World), MR w0 mb H s2 (.pointer none) ev v0 v1 v2 v3 x y cv iv lv V → V.cell? ⟨mb, 2, none⟩ = some v0 ∧ V.cell? ⟨mb, 3, none⟩ = some v1 ∧ V.cell? ⟨mb, 4, none⟩ = some v2 ∧ V.cell? ⟨mb, 5, none⟩ = some v3 := fun s2 x y V hV => ⟨hV.lies.cell 2, hV.lies.cell 3, hV.lies.cell 4, hV.lies.cell 5⟩
  obtain ⟨k, n, c, f, hls, hf⟩ := hvv.four
  injection hls with e1 hls
  injection hls with e2 hls
  injection hls with e3 hls
  injection hls with e4 _
  subst e1 e2 e3 e4
  obtain ⟨x0, x1, x2, x3⟩ := hs0 _ _ _ _ h1d
  have HSS := Lib.hid hs0
  have HVV := Lib.hid hvv
  have HPO := Lib.hid hpo
  have HS2 := Lib.hid hS2
  clear h h1 h1d hvv hpo hS2 ha ho B hne hs0
  obtain ⟨W, hW⟩ : ∃ W, W = w.setCell ⟨mb, 12, none⟩ (.int .i64 ((s.steps : Int) + 1)) := ⟨_, rfl⟩
  rw [← hW] at HPO x0 x1 x2 x3
  have HW := Lib.hid hW
  clear hW
  unfold pt at *
  rcases hf with rfl | ⟨ft, fx, rfl⟩
  · go_enter Tryz.func17, Tryz.ntmps17
    go_wp2_with fail
    rw [← HW.out]
    go_wp2_with fail
    refine wp_region_held_drew (S := fun VV => True) (by kernel_rfl) ?_ (fun hHeld => ?_)
    · trivial
    refine tkH 0 26 rfl ?_
    try simp only [Act.put, s1, s2, s3]
    refine tkH 1 27 rfl ?_
    try simp only [Act.put, s1, s2, s3]
    refine tkH 2 28 rfl ?_
    try simp only [Act.put, s1, s2, s3]
    refine tkH 4 30 rfl ?_
    try simp only [Act.put, s1, s2, s3]
    refine tkH 5 31 rfl ?_
    try simp only [Act.put, s1, s2, s3]
    refine tkH 6 32 rfl ?_
    try simp only [Act.put, s1, s2, s3]
    refine tkH 7 33 rfl ?_
    try simp only [Act.put, s1, s2, s3]
    refine wpAnyH_ready (rs := [3, 8]) (by kernel_rfl) (by simp) ?_
    refine AllReadyH.cons (o := ⟨some 29, _, _, _, _, _⟩) rfl (fun K hK => ?_) (AllReadyH.cons (o := ⟨some 34, _, _, _, _, _⟩) rfl (fun K hK => ?_) AllReadyH.nil)
    · go_simp
      refine HPO.out.mono ?_
      rintro e w3 ⟨T, b, F, s2, x, y, rfl, hM, hN, hE, m3, hT⟩
      obtain ⟨q0, q1, q2, q3⟩ := HSS.out _ _ _ _ m3
      have HT := Lib.hid (hT w3 ⟨_, _, _, _, _, _, _, _, _, _, _, m3⟩ _ HVV.out)
      clear m3 hT
      (try dsimp only)
      refine hK.out _ _ ?_ (fun hHeld => ?_)
      · trivial
      clear hK K
      try simp only [Act.put, s1, s2, s3]
      refine tkH 9 35 rfl ?_
      try simp only [Act.put, s1, s2, s3]
      refine tkH 10 36 rfl ?_
      try simp only [Act.put, s1, s2, s3]
      refine tkH 11 37 rfl ?_
      try simp only [Act.put, s1, s2, s3]
      refine rd1 8 (some 34) rfl fun K hK => ?_
      go_simp
      refine hK.out _ _ ?_ (fun hHeld => ?_)
      · trivial
      clear hK K
      try simp only [Act.put, s1, s2, s3]
      refine rd1 12 (some 38) rfl fun K hK => ?_
      go_simp
      refine HT.out.mono ?_
      rintro e w5 ⟨rfl, H5, k5, m5⟩
      have K5 := Lib.hid k5
      have M5 := Lib.hid (HS2.out.symm ▸ m5 : MS w0 mb H5 S2 w5)
      clear k5 m5
      (try dsimp only)
      refine hK.out _ _ ?_ (fun hHeld => ?_)
      · trivial
      clear hK K
      try simp only [Act.put, s1, s2, s3]
      refine wpAnyH_done (by kernel_rfl) ?_ _
      obtain ⟨tv2, ev2, v02, v12, v22, v32, fv2, hv2, cv2, iv2, lv2, m9⟩ := M5.out
      have y11 : w5.cell? ⟨mb, 11, none⟩ = some (.int .i64 S2.out) := m9.lies.cell 11
      have y0 : w5.cell? ⟨mb, 0, none⟩ = some tv2 := m9.lies.cell 0
      have f11 := m9.lies.free 11
      have hat2 := m9.at_
      have HEM := Lib.hid (empty_any M5.out)
      clear m9
      by_cases ho2 : S2.out = 0
      · have hd2 : (S2.out == 0) = true := by rw [ho2]; rfl
        cases hq : S2.at_ with
        | some p =>
          have HFI := Lib.hid (fin_no (s := S2) (fun h => by rw [hq] at h; simp at h))
          rw [hq] at hat2
          obtain ⟨⟨b2, o2, rfl, _⟩, _⟩ := hat2
          clear hq
          unfold ptO at *
          go_wp2_with fail
          go_ret
          refine ⟨rfl, H5, K5.out, ?_⟩
          rw [HFI.out]
          exact M5.out
        | none =>
          rw [hq] at hat2
          obtain ⟨rfl, _⟩ := hat2
          have HQ := Lib.hid hq
          have HO2 := Lib.hid ho2
          clear hq ho2
          go_wp2_with fail
          refine HEM.out.mono ?_
          rintro e w6 ⟨rfl, rfl⟩
          cases hem : (S2.above.isEmpty && S2.hs.isEmpty) with
          | true =>
            have HFI := Lib.hid (fin_yes (s := S2) (by rw [Bool.and_eq_true] at hem; rw [HQ.out]; exact ⟨HO2.out, rfl, hem.1, hem.2⟩))
            clear hem
            go_wp2_with fail
            go_ret
            refine ⟨rfl, H5, K5.out, ?_⟩
            rw [HFI.out]
            exact M5.out.out
          | false =>
            have HFI := Lib.hid (fin_no (s := S2) (fun h => by rw [h.2.2.1, h.2.2.2] at hem; cases hem))
            clear hem
            go_wp2_with fail
            go_ret
            refine ⟨rfl, H5, K5.out, ?_⟩
            rw [HFI.out]
            exact M5.out
      · have hd2 : (S2.out == 0) = false := by rw [beq_eq_false_iff_ne]; exact ho2
        have HFI := Lib.hid (fin_no (s := S2) (fun h => ho2 h.1))
        clear ho2
        go_wp2_with fail
        go_ret
        refine ⟨rfl, H5, K5.out, ?_⟩
        rw [HFI.out]
        exact M5.out
    · go_simp
      refine hK.out _ _ ?_ (fun hHeld => ?_)
      · trivial
      clear hK K
      try simp only [Act.put, s1, s2, s3]
      refine rd1 3 (some 29) rfl fun K hK => ?_
      go_simp
      refine HPO.out.mono ?_
      rintro e w3 ⟨T, b, F, s2, x, y, rfl, hM, hN, hE, m3, hT⟩
      obtain ⟨q0, q1, q2, q3⟩ := HSS.out _ _ _ _ m3
      have HT := Lib.hid (hT w3 ⟨_, _, _, _, _, _, _, _, _, _, _, m3⟩ _ HVV.out)
      clear m3 hT
      (try dsimp only)
      refine hK.out _ _ ?_ (fun hHeld => ?_)
      · trivial
      clear hK K
      try simp only [Act.put, s1, s2, s3]
      refine tkH 9 35 rfl ?_
      try simp only [Act.put, s1, s2, s3]
      refine tkH 10 36 rfl ?_
      try simp only [Act.put, s1, s2, s3]
      refine tkH 11 37 rfl ?_
      try simp only [Act.put, s1, s2, s3]
      refine rd1 12 (some 38) rfl fun K hK => ?_
      go_simp
      refine HT.out.mono ?_
      rintro e w5 ⟨rfl, H5, k5, m5⟩
      have K5 := Lib.hid k5
      have M5 := Lib.hid (HS2.out.symm ▸ m5 : MS w0 mb H5 S2 w5)
      clear k5 m5
      (try dsimp only)
      refine hK.out _ _ ?_ (fun hHeld => ?_)
      · trivial
      clear hK K
      try simp only [Act.put, s1, s2, s3]
      refine wpAnyH_done (by kernel_rfl) ?_ _
      obtain ⟨tv2, ev2, v02, v12, v22, v32, fv2, hv2, cv2, iv2, lv2, m9⟩ := M5.out
      have y11 : w5.cell? ⟨mb, 11, none⟩ = some (.int .i64 S2.out) := m9.lies.cell 11
      have y0 : w5.cell? ⟨mb, 0, none⟩ = some tv2 := m9.lies.cell 0
      have f11 := m9.lies.free 11
      have hat2 := m9.at_
      have HEM := Lib.hid (empty_any M5.out)
      clear m9
      by_cases ho2 : S2.out = 0
      · have hd2 : (S2.out == 0) = true := by rw [ho2]; rfl
        cases hq : S2.at_ with
        | some p =>
          have HFI := Lib.hid (fin_no (s := S2) (fun h => by rw [hq] at h; simp at h))
          rw [hq] at hat2
          obtain ⟨⟨b2, o2, rfl, _⟩, _⟩ := hat2
          clear hq
          unfold ptO at *
          go_wp2_with fail
          go_ret
          refine ⟨rfl, H5, K5.out, ?_⟩
          rw [HFI.out]
          exact M5.out
        | none =>
          rw [hq] at hat2
          obtain ⟨rfl, _⟩ := hat2
          have HQ := Lib.hid hq
          have HO2 := Lib.hid ho2
          clear hq ho2
          go_wp2_with fail
          refine HEM.out.mono ?_
          rintro e w6 ⟨rfl, rfl⟩
          cases hem : (S2.above.isEmpty && S2.hs.isEmpty) with
          | true =>
            have HFI := Lib.hid (fin_yes (s := S2) (by rw [Bool.and_eq_true] at hem; rw [HQ.out]; exact ⟨HO2.out, rfl, hem.1, hem.2⟩))
            clear hem
            go_wp2_with fail
            go_ret
            refine ⟨rfl, H5, K5.out, ?_⟩
            rw [HFI.out]
            exact M5.out.out
          | false =>
            have HFI := Lib.hid (fin_no (s := S2) (fun h => by rw [h.2.2.1, h.2.2.2] at hem; cases hem))
            clear hem
            go_wp2_with fail
            go_ret
            refine ⟨rfl, H5, K5.out, ?_⟩
            rw [HFI.out]
            exact M5.out
      · have hd2 : (S2.out == 0) = false := by rw [beq_eq_false_iff_ne]; exact ho2
        have HFI := Lib.hid (fin_no (s := S2) (fun h => ho2 h.1))
        clear ho2
        go_wp2_with fail
        go_ret
        refine ⟨rfl, H5, K5.out, ?_⟩
        rw [HFI.out]
        exact M5.out
  · go_enter Tryz.func17, Tryz.ntmps17
    go_wp2_with fail
    rw [← HW.out]
    go_wp2_with fail
    refine wp_region_held_drew (S := fun VV => True) (by kernel_rfl) ?_ (fun hHeld => ?_)
    · trivial
    refine tkH 0 26 rfl ?_
    try simp only [Act.put, s1, s2, s3]
    refine tkH 1 27 rfl ?_
    try simp only [Act.put, s1, s2, s3]
    refine tkH 2 28 rfl ?_
    try simp only [Act.put, s1, s2, s3]
    refine tkH 4 30 rfl ?_
    try simp only [Act.put, s1, s2, s3]
    refine tkH 5 31 rfl ?_
    try simp only [Act.put, s1, s2, s3]
    refine tkH 6 32 rfl ?_
    try simp only [Act.put, s1, s2, s3]
    refine tkH 7 33 rfl ?_
    try simp only [Act.put, s1, s2, s3]
    refine wpAnyH_ready (rs := [3, 8]) (by kernel_rfl) (by simp) ?_
    refine AllReadyH.cons (o := ⟨some 29, _, _, _, _, _⟩) rfl (fun K hK => ?_) (AllReadyH.cons (o := ⟨some 34, _, _, _, _, _⟩) rfl (fun K hK => ?_) AllReadyH.nil)
    · go_simp
      refine HPO.out.mono ?_
      rintro e w3 ⟨T, b, F, s2, x, y, rfl, hM, hN, hE, m3, hT⟩
      obtain ⟨q0, q1, q2, q3⟩ := HSS.out _ _ _ _ m3
      have HT := Lib.hid (hT w3 ⟨_, _, _, _, _, _, _, _, _, _, _, m3⟩ _ HVV.out)
      clear m3 hT
      (try dsimp only)
      refine hK.out _ _ ?_ (fun hHeld => ?_)
      · trivial
      clear hK K
      try simp only [Act.put, s1, s2, s3]
      refine tkH 9 35 rfl ?_
      try simp only [Act.put, s1, s2, s3]
      refine tkH 10 36 rfl ?_
      try simp only [Act.put, s1, s2, s3]
      refine tkH 11 37 rfl ?_
      try simp only [Act.put, s1, s2, s3]
      refine rd1 8 (some 34) rfl fun K hK => ?_
      go_simp
      refine hK.out _ _ ?_ (fun hHeld => ?_)
      · trivial
      clear hK K
      try simp only [Act.put, s1, s2, s3]
      refine rd1 12 (some 38) rfl fun K hK => ?_
      go_simp
      refine HT.out.mono ?_
      rintro e w5 ⟨rfl, H5, k5, m5⟩
      have K5 := Lib.hid k5
      have M5 := Lib.hid (HS2.out.symm ▸ m5 : MS w0 mb H5 S2 w5)
      clear k5 m5
      (try dsimp only)
      refine hK.out _ _ ?_ (fun hHeld => ?_)
      · trivial
      clear hK K
      try simp only [Act.put, s1, s2, s3]
      refine wpAnyH_done (by kernel_rfl) ?_ _
      obtain ⟨tv2, ev2, v02, v12, v22, v32, fv2, hv2, cv2, iv2, lv2, m9⟩ := M5.out
      have y11 : w5.cell? ⟨mb, 11, none⟩ = some (.int .i64 S2.out) := m9.lies.cell 11
      have y0 : w5.cell? ⟨mb, 0, none⟩ = some tv2 := m9.lies.cell 0
      have f11 := m9.lies.free 11
      have hat2 := m9.at_
      have HEM := Lib.hid (empty_any M5.out)
      clear m9
      by_cases ho2 : S2.out = 0
      · have hd2 : (S2.out == 0) = true := by rw [ho2]; rfl
        cases hq : S2.at_ with
        | some p =>
          have HFI := Lib.hid (fin_no (s := S2) (fun h => by rw [hq] at h; simp at h))
          rw [hq] at hat2
          obtain ⟨⟨b2, o2, rfl, _⟩, _⟩ := hat2
          clear hq
          unfold ptO at *
          go_wp2_with fail
          go_ret
          refine ⟨rfl, H5, K5.out, ?_⟩
          rw [HFI.out]
          exact M5.out
        | none =>
          rw [hq] at hat2
          obtain ⟨rfl, _⟩ := hat2
          have HQ := Lib.hid hq
          have HO2 := Lib.hid ho2
          clear hq ho2
          go_wp2_with fail
          refine HEM.out.mono ?_
          rintro e w6 ⟨rfl, rfl⟩
          cases hem : (S2.above.isEmpty && S2.hs.isEmpty) with
          | true =>
            have HFI := Lib.hid (fin_yes (s := S2) (by rw [Bool.and_eq_true] at hem; rw [HQ.out]; exact ⟨HO2.out, rfl, hem.1, hem.2⟩))
            clear hem
            go_wp2_with fail
            go_ret
            refine ⟨rfl, H5, K5.out, ?_⟩
            rw [HFI.out]
            exact M5.out.out
          | false =>
            have HFI := Lib.hid (fin_no (s := S2) (fun h => by rw [h.2.2.1, h.2.2.2] at hem; cases hem))
            clear hem
            go_wp2_with fail
            go_ret
            refine ⟨rfl, H5, K5.out, ?_⟩
            rw [HFI.out]
            exact M5.out
      · have hd2 : (S2.out == 0) = false := by rw [beq_eq_false_iff_ne]; exact ho2
        have HFI := Lib.hid (fin_no (s := S2) (fun h => ho2 h.1))
        clear ho2
        go_wp2_with fail
        go_ret
        refine ⟨rfl, H5, K5.out, ?_⟩
        rw [HFI.out]
        exact M5.out
    · go_simp
      refine hK.out _ _ ?_ (fun hHeld => ?_)
      · trivial
      clear hK K
      try simp only [Act.put, s1, s2, s3]
      refine rd1 3 (some 29) rfl fun K hK => ?_
      go_simp
      refine HPO.out.mono ?_
      rintro e w3 ⟨T, b, F, s2, x, y, rfl, hM, hN, hE, m3, hT⟩
      obtain ⟨q0, q1, q2, q3⟩ := HSS.out _ _ _ _ m3
      have HT := Lib.hid (hT w3 ⟨_, _, _, _, _, _, _, _, _, _, _, m3⟩ _ HVV.out)
      clear m3 hT
      (try dsimp only)
      refine hK.out _ _ ?_ (fun hHeld => ?_)
      · trivial
      clear hK K
      try simp only [Act.put, s1, s2, s3]
      refine tkH 9 35 rfl ?_
      try simp only [Act.put, s1, s2, s3]
      refine tkH 10 36 rfl ?_
      try simp only [Act.put, s1, s2, s3]
      refine tkH 11 37 rfl ?_
      try simp only [Act.put, s1, s2, s3]
      refine rd1 12 (some 38) rfl fun K hK => ?_
      go_simp
      refine HT.out.mono ?_
      rintro e w5 ⟨rfl, H5, k5, m5⟩
      have K5 := Lib.hid k5
      have M5 := Lib.hid (HS2.out.symm ▸ m5 : MS w0 mb H5 S2 w5)
      clear k5 m5
      (try dsimp only)
      refine hK.out _ _ ?_ (fun hHeld => ?_)
      · trivial
      clear hK K
      try simp only [Act.put, s1, s2, s3]
      refine wpAnyH_done (by kernel_rfl) ?_ _
      obtain ⟨tv2, ev2, v02, v12, v22, v32, fv2, hv2, cv2, iv2, lv2, m9⟩ := M5.out
      have y11 : w5.cell? ⟨mb, 11, none⟩ = some (.int .i64 S2.out) := m9.lies.cell 11
      have y0 : w5.cell? ⟨mb, 0, none⟩ = some tv2 := m9.lies.cell 0
      have f11 := m9.lies.free 11
      have hat2 := m9.at_
      have HEM := Lib.hid (empty_any M5.out)
      clear m9
      by_cases ho2 : S2.out = 0
      · have hd2 : (S2.out == 0) = true := by rw [ho2]; rfl
        cases hq : S2.at_ with
        | some p =>
          have HFI := Lib.hid (fin_no (s := S2) (fun h => by rw [hq] at h; simp at h))
          rw [hq] at hat2
          obtain ⟨⟨b2, o2, rfl, _⟩, _⟩ := hat2
          clear hq
          unfold ptO at *
          go_wp2_with fail
          go_ret
          refine ⟨rfl, H5, K5.out, ?_⟩
          rw [HFI.out]
          exact M5.out
        | none =>
          rw [hq] at hat2
          obtain ⟨rfl, _⟩ := hat2
          have HQ := Lib.hid hq
          have HO2 := Lib.hid ho2
          clear hq ho2
          go_wp2_with fail
          refine HEM.out.mono ?_
          rintro e w6 ⟨rfl, rfl⟩
          cases hem : (S2.above.isEmpty && S2.hs.isEmpty) with
          | true =>
            have HFI := Lib.hid (fin_yes (s := S2) (by rw [Bool.and_eq_true] at hem; rw [HQ.out]; exact ⟨HO2.out, rfl, hem.1, hem.2⟩))
            clear hem
            go_wp2_with fail
            go_ret
            refine ⟨rfl, H5, K5.out, ?_⟩
            rw [HFI.out]
            exact M5.out.out
          | false =>
            have HFI := Lib.hid (fin_no (s := S2) (fun h => by rw [h.2.2.1, h.2.2.2] at hem; cases hem))
            clear hem
            go_wp2_with fail
            go_ret
            refine ⟨rfl, H5, K5.out, ?_⟩
            rw [HFI.out]
            exact M5.out
      · have hd2 : (S2.out == 0) = false := by rw [beq_eq_false_iff_ne]; exact ho2
        have HFI := Lib.hid (fin_no (s := S2) (fun h => ho2 h.1))
        clear ho2
        go_wp2_with fail
        go_ret
        refine ⟨rfl, H5, K5.out, ?_⟩
        rw [HFI.out]
        exact M5.out
end
end So
end Go.Proofs.YtfkakmafedhgdaaGreatDoor.K
