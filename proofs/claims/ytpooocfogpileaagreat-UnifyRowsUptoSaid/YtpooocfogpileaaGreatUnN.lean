/- The law UnifyRows: its walk. -/
import Derived.Test.YtpooocfogpileaaGreatMaR
import Derived.Test.YtpooocfogpileaaGreatMaS
import Derived.Deep.CutRange
import Derived.Outline
namespace Go.Proofs.YtpooocfogpileaaGreat
open Go.RowKit

theorem err_num {w' : World} {o : Option (RowF × Int)} {m : Nat} {A1 : Option Addr} {n1 c1 : Nat} {A2 : Option Addr} {n2 c2 : Nat} {k err : Int} (h : match o with | none => err = 5 | some p => err = 0 ∧ k = p.2 ∧ SubV w' (.agg #[.slice A1 n1 c1, .slice A2 n2 c2]) m T0 p.1) : err = errOf o := by
  cases o with
  | none => exact h
  | some p => exact h.1
set_option maxRecDepth 100000 in
set_option maxHeartbeats 8000000 in
theorem unifyRows_walk (w : World) (lva lvb : Value) (la lb : List Str) (va vb : Int) (hra : StrR w lva la) (hrb : StrR w lvb lb) (hsa : ∀ s ∈ la, s.length ≤ maxLen) (hsb : ∀ s ∈ lb, s.length ≤ maxLen) (hva : i64ok va) (hvb : i64ok vb) :
    Calls Tryz.prog 3 #[.agg #[lva, .int .i64 va], .agg #[lvb, .int .i64 vb]] w fun e w' => e = .returned (.bool true) ∧ Below w.heap.size w w' := by
  have hra0 := hra
  have hrb0 := hrb
  obtain ⟨A1, c1, rfl, hc1, hm1⟩ := hra.form
  obtain ⟨A2, c2, rfl, hc2, hm2⟩ := hrb.form
  obtain ⟨NA, hNA⟩ : ∃ N, N = la.length := ⟨_, rfl⟩
  obtain ⟨NB, hNB⟩ : ∃ N, N = lb.length := ⟨_, rfl⟩
  rw [← hNA] at hc1 hra0 ⊢
  rw [← hNB] at hc2 hrb0 ⊢
  have HNA := Lib.hid hNA
  have HNB := Lib.hid hNB
  have HRA := Lib.hid hra0
  have HRB := Lib.hid hrb0
  have HMA := Lib.hid (fun (j : Nat) s (h : la[j]? = some s) => hm1 j s h)
  have HMB := Lib.hid (fun (j : Nat) s (h : lb[j]? = some s) => hm2 j s h)
  have HSA := Lib.hid hsa
  have HSB := Lib.hid hsb
  have HVA := Lib.hid hva
  have HVB := Lib.hid hvb
  clear hNA hNB hra hrb hra0 hrb0 hm1 hm2 hsa hsb hva hvb
  obtain ⟨W, hW⟩ : ∃ W, W = (w.alloc (.cells #[.slice A1 NA c1, .int .i64 va] 24)).alloc (.cells #[.slice A2 NB c2, .int .i64 vb] 24) := ⟨_, rfl⟩
  have hb : Below w.heap.size w W := by rw [hW]; exact ((Below.refl _ w).alloc (Nat.le_refl _) _).alloc (by simp) _
  have ka : Lies W w.heap.size 24 #[.slice A1 NA c1, .int .i64 va] := by rw [hW]; exact (Lies.new _ _ _).alloc _
  have kb : Lies W (w.heap.size + 1) 24 #[.slice A2 NB c2, .int .i64 vb] := by rw [hW]; exact Lies.new' _ _ _ (by simp)
  have HC := Lib.hid (shown7_any W)
  have HW := Lib.hid hW
  have HB := Lib.hid hb
  have HKA := Lib.hid ka
  have HKB := Lib.hid kb
  clear hW hb ka kb
  go_enter Tryz.func3, Tryz.ntmps3
  go_wp2_with fail
  rw [← HW.out]
  refine HC.out.mono ?_
  rintro e w1 ⟨rfl, hb1⟩
  have HB := Lib.hid (HB.out.trans (hb1.mono HB.out.size))
  have HKA := Lib.hid (HKA.out.later hb1)
  have HKB := Lib.hid (HKB.out.later hb1)
  have HC := Lib.hid (rrow_any _ la va w1 (HRA.out.keep HB.out.block))
  have a0 := HKA.out.cell 0
  have a1 := HKA.out.cell 1
  clear hb1
  go_wp2_with fail
  refine HC.out.mono ?_
  rintro e w2 ⟨r1, rfl, hr1, hb2⟩
  have HB := Lib.hid (HB.out.trans (hb2.mono HB.out.size))
  have HKA := Lib.hid (HKA.out.later hb2)
  have HKB := Lib.hid (HKB.out.later hb2)
  have HR1 := Lib.hid hr1
  have b0 := HKB.out.cell 0
  have b1 := HKB.out.cell 1
  clear hb2 hr1 a0 a1
  cases r1
  · go_wp2_with fail
    go_ret
    exact ⟨rfl, HB.out⟩
  have h0a := HR1.out rfl
  have HC := Lib.hid (rrow_any _ lb vb w2 (HRB.out.keep HB.out.block))
  have H0A := Lib.hid h0a
  clear h0a
  go_wp2_with fail
  refine HC.out.mono ?_
  rintro e w4 ⟨r2, rfl, hr2, hb3⟩
  have HB := Lib.hid (HB.out.trans (hb3.mono HB.out.size))
  have HKA := Lib.hid (HKA.out.later hb3)
  have HKB := Lib.hid (HKB.out.later hb3)
  have HR2 := Lib.hid hr2
  have a0 := HKA.out.cell 0
  have a1 := HKA.out.cell 1
  have b0 := HKB.out.cell 0
  have b1 := HKB.out.cell 1
  clear hb3 hr2
  cases r2
  · go_wp2_with fail
    go_ret
    exact ⟨rfl, HB.out⟩
  have H0B := Lib.hid (HR2.out rfl)
  by_cases hA : 10 < NA
  · have hAi : (10 : Int) < (NA : Int) := by omega
    have hAd : decide (10 < NA) = true := by simp [hA]
    go_wp2_with fail
    go_ret
    exact ⟨rfl, HB.out⟩
  have hAi : ¬ ((10 : Int) < (NA : Int)) := by omega
  have hAd : decide (10 < NA) = false := by simp [hA]
  by_cases hBx : 10 < NB
  · have hBi : (10 : Int) < (NB : Int) := by omega
    have hBd : decide (10 < NB) = true := by simp [hBx]
    go_wp2_with fail
    go_ret
    exact ⟨rfl, HB.out⟩
  have hBi : ¬ ((10 : Int) < (NB : Int)) := by omega
  have hBd : decide (10 < NB) = false := by simp [hBx]
  by_cases hva8 : 8 < va
  · have hd : decide (8 < va) = true := by simp [hva8]
    go_wp2_with fail
    go_ret
    exact ⟨rfl, HB.out⟩
  have hva8d : decide (8 < va) = false := by simp [hva8]
  by_cases hvb8 : 8 < vb
  · have hd : decide (8 < vb) = true := by simp [hvb8]
    go_wp2_with fail
    go_ret
    exact ⟨rfl, HB.out⟩
  have hvb8d : decide (8 < vb) = false := by simp [hvb8]
  have HRW := Lib.hid (show ∀ X : World, Below w4.heap.size w4 X → _ from fun X hx => unifyRows_any X noneV 0 (SubV.none X 0) (by omega) _ _ la lb va vb 9 (HRA.out.keep (HB.out.trans (hx.mono HB.out.size)).block) (HRB.out.keep (HB.out.trans (hx.mono HB.out.size)).block) HSA.out HSB.out HVA.out HVB.out (by omega) (by omega) (by omega))
  unfold noneV at HRW
  have HKS := Lib.hid (show ∀ X : World, Below w4.heap.size w4 X → (X.cell? ⟨w.heap.size, 0, none⟩ = some (.slice A1 NA c1) ∧ X.cell? ⟨w.heap.size, 1, none⟩ = some (.int .i64 va)) ∧ X.cell? ⟨w.heap.size + 1, 0, none⟩ = some (.slice A2 NB c2) ∧ X.cell? ⟨w.heap.size + 1, 1, none⟩ = some (.int .i64 vb) from fun X hx => ⟨⟨(HKA.out.later hx).cell 0, (HKA.out.later hx).cell 1⟩, (HKB.out.later hx).cell 0, (HKB.out.later hx).cell 1⟩)
  go_upto_region 4 with fail
  go_cut [6, 7, 8] from 52 to 59 (fun _ _ e wx => e = .int .i64 (errOf (rowsRes la lb va vb 9)) ∧ Below w4.heap.size w4 wx)
  case first =>
    clear a0 a1 b0 b1 hAi hAd hBi hBd hva8d hvb8d
    refine wp_region_held_drew (S := fun X => (X.cell? ⟨w.heap.size, 0, none⟩ = some (.slice A1 NA c1) ∧ X.cell? ⟨w.heap.size, 1, none⟩ = some (.int .i64 va)) ∧ X.cell? ⟨w.heap.size + 1, 0, none⟩ = some (.slice A2 NB c2) ∧ X.cell? ⟨w.heap.size + 1, 1, none⟩ = some (.int .i64 vb)) (by kernel_rfl) ?_ (fun hHeld => ?_)
    · exact HKS.out _ (Below.refl w4.heap.size w4).drew
    refine wpAnyH_take (i := 1) (oi := ⟨some 54, _, _, _, _, _⟩) (v := ?_) rfl (by kernel_rfl) (by kernel_rfl) (by kernel_rfl) (fun _ _ _ h => h) (Or.inl ⟨by kernel_rfl, ?_⟩) (by assumption) ?_
    rotate_left
    · (intro w' hSw; (try dsimp only at hSw); go_split_ands; go_simp; first | done | with_reducible rfl)
    try simp only [Act.put, List.setIfInBounds_toArray, List.set_cons_zero, List.set_cons_succ]
    refine wpAnyH_take (i := 2) (oi := ⟨some 55, _, _, _, _, _⟩) (v := ?_) rfl (by kernel_rfl) (by kernel_rfl) (by kernel_rfl) (fun _ _ _ h => h) (Or.inl ⟨by kernel_rfl, ?_⟩) (by assumption) ?_
    rotate_left
    · (intro w' hSw; (try dsimp only at hSw); go_split_ands; go_simp; first | done | with_reducible rfl)
    try simp only [Act.put, List.setIfInBounds_toArray, List.set_cons_zero, List.set_cons_succ]
    refine wpAnyH_ready (rs := [0, 8]) (by kernel_rfl) (by simp) ?_
    refine AllReadyH.cons (o := ⟨some 53, _, _, _, _, _⟩) rfl (fun K hK => ?_) (AllReadyH.cons (o := ⟨some 6, _, _, _, _, _⟩) rfl (fun K hK => ?_) (AllReadyH.nil))
    · go_simp
      go_at_call 8
      refine (none_any _).mono ?_
      unfold noneV
      rintro e x3 ⟨rfl, hba⟩
      have hbx3 : Below w4.heap.size w4 x3 := (((Below.refl w4.heap.size w4)).drew).trans (hba.mono (((Below.refl w4.heap.size w4)).drew).size)
      clear hba
      refine hK.out _ _ ?_ (fun hHeld => ?_)
      · exact HKS.out _ hbx3
      clear hK K
      try simp only [Act.put, List.setIfInBounds_toArray, List.set_cons_zero, List.set_cons_succ]
      refine wpAnyH_ready (rs := [3, 8]) (by kernel_rfl) (by simp) ?_
      refine AllReadyH.cons (o := ⟨some 56, _, _, _, _, _⟩) rfl (fun K hK => ?_) (AllReadyH.cons (o := ⟨some 6, _, _, _, _, _⟩) rfl (fun K hK => ?_) (AllReadyH.nil))
      · go_simp
        go_at_call 7
        refine (HRW.out _ (hbx3)).mono ?_
        rintro e x5 ⟨⟨B1, d1, e1, B2, d2, e2, k, err, rfl, herr⟩, hba⟩
        have HERR := Lib.hid herr
        clear herr
        have hbx5 : Below w4.heap.size w4 x5 := (hbx3).trans (hba.mono (hbx3).size)
        clear hba
        refine hK.out _ _ ?_ (fun hHeld => ?_)
        · exact HKS.out _ hbx5
        clear hK K
        try simp only [Act.put, List.setIfInBounds_toArray, List.set_cons_zero, List.set_cons_succ]
        refine wpAnyH_take (i := 4) (oi := ⟨some 52, _, _, _, _, _⟩) (v := ?_) rfl (by kernel_rfl) (by kernel_rfl) (by kernel_rfl) (fun _ _ _ h => h) (Or.inl ⟨by kernel_rfl, ?_⟩) (by assumption) ?_
        rotate_left
        · (intro w' hSw; (try dsimp only at hSw); go_split_ands; go_simp; first | done | with_reducible rfl)
        try simp only [Act.put, List.setIfInBounds_toArray, List.set_cons_zero, List.set_cons_succ]
        refine wpAnyH_take (i := 5) (oi := ⟨some 57, _, _, _, _, _⟩) (v := ?_) rfl (by kernel_rfl) (by kernel_rfl) (by kernel_rfl) (fun _ _ _ h => h) (Or.inl ⟨by kernel_rfl, ?_⟩) (by assumption) ?_
        rotate_left
        · (intro w' hSw; (try dsimp only at hSw); go_split_ands; go_simp; first | done | with_reducible rfl)
        try simp only [Act.put, List.setIfInBounds_toArray, List.set_cons_zero, List.set_cons_succ]
        refine wpAnyH_take (i := 6) (oi := ⟨some 58, _, _, _, _, _⟩) (v := ?_) rfl (by kernel_rfl) (by kernel_rfl) (by kernel_rfl) (fun _ _ _ h => h) (Or.inl ⟨by kernel_rfl, ?_⟩) (by assumption) ?_
        rotate_left
        · (intro w' hSw; (try dsimp only at hSw); go_split_ands; go_simp; first | done | with_reducible rfl)
        try simp only [Act.put, List.setIfInBounds_toArray, List.set_cons_zero, List.set_cons_succ]
        refine wpAnyH_take (i := 7) (oi := ⟨some 59, _, _, _, _, _⟩) (v := ?_) rfl (by kernel_rfl) (by kernel_rfl) (by kernel_rfl) (fun _ _ _ h => h) (Or.inl ⟨by kernel_rfl, ?_⟩) (by assumption) ?_
        rotate_left
        · (intro w' hSw; (try dsimp only at hSw); go_split_ands; go_simp; first | done | with_reducible rfl)
        try simp only [Act.put, List.setIfInBounds_toArray, List.set_cons_zero, List.set_cons_succ]
        refine wpAnyH_ready (rs := [8]) (by kernel_rfl) (by simp) ?_
        refine AllReadyH.cons (o := ⟨some 6, _, _, _, _, _⟩) rfl (fun K hK => ?_) (AllReadyH.nil)
        go_simp
        refine hK.out _ _ ?_ (fun hHeld => ?_)
        · exact HKS.out _ (((hbx5).alloc (hbx5).size _))
        clear hK K
        try simp only [Act.put, List.setIfInBounds_toArray, List.set_cons_zero, List.set_cons_succ]
        refine wpAnyH_ready (rs := [9]) (by kernel_rfl) (by simp) ?_
        refine AllReadyH.cons (o := ⟨none, _, _, _, _, _⟩) rfl (fun K hK => ?_) (AllReadyH.nil)
        rw [if_pos (by kernel_rfl)]
        refine wp_store_row _ _ _ rfl (x5.heap.size) #[.slice B1 d1 e1, .slice B2 d2 e2] rfl rfl 34 #[.slice none 0 0, .slice none 0 0] (show Lies ((x5.alloc (.cells #[.slice none 0 0, .slice none 0 0] 34))) (x5.heap.size) 34 #[.slice none 0 0, .slice none 0 0] from Lies.new x5 _ _) (by kernel_rfl) rfl (by simp [Value.oneCell']) ?_
        obtain ⟨z1, hz1⟩ : ∃ X, X = ((x5.alloc (.cells #[.slice none 0 0, .slice none 0 0] 34))).setRow (x5.heap.size) #[.slice B1 d1 e1, .slice B2 d2 e2] := ⟨_, rfl⟩
        rw [← hz1]
        have HZ1 := Lib.hid hz1
        clear hz1
        have hbz : Below w4.heap.size w4 z1 := by rw [HZ1.out]; exact Sb.below_setRow (((hbx5).alloc (hbx5).size _)) ((hbx5).size) _
        refine hK.out _ _ ?_ (fun hHeld => ?_)
        · exact HKS.out _ hbz
        clear hK K
        try simp only [Act.put]
        refine wpAnyH_take (i := 10) (oi := ⟨some 7, _, _, _, _, _⟩) (v := ?_) rfl (by kernel_rfl) (by kernel_rfl) (by kernel_rfl) (fun _ _ _ h => h) (Or.inl ⟨by kernel_rfl, ?_⟩) (by assumption) ?_
        rotate_left
        · (intro w' hSw; (try dsimp only at hSw); go_split_ands; go_simp; first | done | with_reducible rfl)
        try simp only [Act.put, List.setIfInBounds_toArray, List.set_cons_zero, List.set_cons_succ]
        refine wpAnyH_take (i := 11) (oi := ⟨some 8, _, _, _, _, _⟩) (v := ?_) rfl (by kernel_rfl) (by kernel_rfl) (by kernel_rfl) (fun _ _ _ h => h) (Or.inl ⟨by kernel_rfl, ?_⟩) (by assumption) ?_
        rotate_left
        · (intro w' hSw; (try dsimp only at hSw); go_split_ands; go_simp; first | done | with_reducible rfl)
        try simp only [Act.put, List.setIfInBounds_toArray, List.set_cons_zero, List.set_cons_succ]
        refine wpAnyH_done (by kernel_rfl) ?_ _
        go_wp2_with fail
        go_meet
        exact ⟨by rw [← err_num HERR.out], hbz⟩
      · go_simp
        refine hK.out _ _ ?_ (fun hHeld => ?_)
        · exact HKS.out _ (((hbx3).alloc (hbx3).size _))
        clear hK K
        try simp only [Act.put, List.setIfInBounds_toArray, List.set_cons_zero, List.set_cons_succ]
        refine wpAnyH_ready (rs := [3]) (by kernel_rfl) (by simp) ?_
        refine AllReadyH.cons (o := ⟨some 56, _, _, _, _, _⟩) rfl (fun K hK => ?_) (AllReadyH.nil)
        go_simp
        go_at_call 7
        refine (HRW.out _ (((hbx3).alloc (hbx3).size _))).mono ?_
        rintro e x5 ⟨⟨B1, d1, e1, B2, d2, e2, k, err, rfl, herr⟩, hba⟩
        have HERR := Lib.hid herr
        clear herr
        have hbx5 : Below w4.heap.size w4 x5 := (((hbx3).alloc (hbx3).size _)).trans (hba.mono (((hbx3).alloc (hbx3).size _)).size)
        have HQ1 := Lib.hid (Lies.later (show Lies ((x3.alloc (.cells #[.slice none 0 0, .slice none 0 0] 34))) (x3.heap.size) 34 #[.slice none 0 0, .slice none 0 0] from Lies.new x3 _ _) hba)
        clear hba
        refine hK.out _ _ ?_ (fun hHeld => ?_)
        · exact HKS.out _ hbx5
        clear hK K
        try simp only [Act.put, List.setIfInBounds_toArray, List.set_cons_zero, List.set_cons_succ]
        refine wpAnyH_take (i := 4) (oi := ⟨some 52, _, _, _, _, _⟩) (v := ?_) rfl (by kernel_rfl) (by kernel_rfl) (by kernel_rfl) (fun _ _ _ h => h) (Or.inl ⟨by kernel_rfl, ?_⟩) (by assumption) ?_
        rotate_left
        · (intro w' hSw; (try dsimp only at hSw); go_split_ands; go_simp; first | done | with_reducible rfl)
        try simp only [Act.put, List.setIfInBounds_toArray, List.set_cons_zero, List.set_cons_succ]
        refine wpAnyH_take (i := 5) (oi := ⟨some 57, _, _, _, _, _⟩) (v := ?_) rfl (by kernel_rfl) (by kernel_rfl) (by kernel_rfl) (fun _ _ _ h => h) (Or.inl ⟨by kernel_rfl, ?_⟩) (by assumption) ?_
        rotate_left
        · (intro w' hSw; (try dsimp only at hSw); go_split_ands; go_simp; first | done | with_reducible rfl)
        try simp only [Act.put, List.setIfInBounds_toArray, List.set_cons_zero, List.set_cons_succ]
        refine wpAnyH_take (i := 6) (oi := ⟨some 58, _, _, _, _, _⟩) (v := ?_) rfl (by kernel_rfl) (by kernel_rfl) (by kernel_rfl) (fun _ _ _ h => h) (Or.inl ⟨by kernel_rfl, ?_⟩) (by assumption) ?_
        rotate_left
        · (intro w' hSw; (try dsimp only at hSw); go_split_ands; go_simp; first | done | with_reducible rfl)
        try simp only [Act.put, List.setIfInBounds_toArray, List.set_cons_zero, List.set_cons_succ]
        refine wpAnyH_take (i := 7) (oi := ⟨some 59, _, _, _, _, _⟩) (v := ?_) rfl (by kernel_rfl) (by kernel_rfl) (by kernel_rfl) (fun _ _ _ h => h) (Or.inl ⟨by kernel_rfl, ?_⟩) (by assumption) ?_
        rotate_left
        · (intro w' hSw; (try dsimp only at hSw); go_split_ands; go_simp; first | done | with_reducible rfl)
        try simp only [Act.put, List.setIfInBounds_toArray, List.set_cons_zero, List.set_cons_succ]
        refine wpAnyH_ready (rs := [9]) (by kernel_rfl) (by simp) ?_
        refine AllReadyH.cons (o := ⟨none, _, _, _, _, _⟩) rfl (fun K hK => ?_) (AllReadyH.nil)
        rw [if_pos (by kernel_rfl)]
        refine wp_store_row _ _ _ rfl (x3.heap.size) #[.slice B1 d1 e1, .slice B2 d2 e2] rfl rfl 34 #[.slice none 0 0, .slice none 0 0] (show Lies (x5) (x3.heap.size) 34 #[.slice none 0 0, .slice none 0 0] from HQ1.out) (by kernel_rfl) rfl (by simp [Value.oneCell']) ?_
        obtain ⟨z1, hz1⟩ : ∃ X, X = (x5).setRow (x3.heap.size) #[.slice B1 d1 e1, .slice B2 d2 e2] := ⟨_, rfl⟩
        rw [← hz1]
        have HZ1 := Lib.hid hz1
        clear hz1
        have hbz : Below w4.heap.size w4 z1 := by rw [HZ1.out]; exact Sb.below_setRow (hbx5) ((hbx3).size) _
        refine hK.out _ _ ?_ (fun hHeld => ?_)
        · exact HKS.out _ hbz
        clear hK K
        try simp only [Act.put]
        refine wpAnyH_take (i := 10) (oi := ⟨some 7, _, _, _, _, _⟩) (v := ?_) rfl (by kernel_rfl) (by kernel_rfl) (by kernel_rfl) (fun _ _ _ h => h) (Or.inl ⟨by kernel_rfl, ?_⟩) (by assumption) ?_
        rotate_left
        · (intro w' hSw; (try dsimp only at hSw); go_split_ands; go_simp; first | done | with_reducible rfl)
        try simp only [Act.put, List.setIfInBounds_toArray, List.set_cons_zero, List.set_cons_succ]
        refine wpAnyH_take (i := 11) (oi := ⟨some 8, _, _, _, _, _⟩) (v := ?_) rfl (by kernel_rfl) (by kernel_rfl) (by kernel_rfl) (fun _ _ _ h => h) (Or.inl ⟨by kernel_rfl, ?_⟩) (by assumption) ?_
        rotate_left
        · (intro w' hSw; (try dsimp only at hSw); go_split_ands; go_simp; first | done | with_reducible rfl)
        try simp only [Act.put, List.setIfInBounds_toArray, List.set_cons_zero, List.set_cons_succ]
        refine wpAnyH_done (by kernel_rfl) ?_ _
        go_wp2_with fail
        go_meet
        exact ⟨by rw [← err_num HERR.out], hbz⟩
    · go_simp
      refine hK.out _ _ ?_ (fun hHeld => ?_)
      · exact HKS.out _ (((((Below.refl w4.heap.size w4)).alloc ((Below.refl w4.heap.size w4)).size _)).drew)
      clear hK K
      try simp only [Act.put, List.setIfInBounds_toArray, List.set_cons_zero, List.set_cons_succ]
      refine wpAnyH_ready (rs := [0]) (by kernel_rfl) (by simp) ?_
      refine AllReadyH.cons (o := ⟨some 53, _, _, _, _, _⟩) rfl (fun K hK => ?_) (AllReadyH.nil)
      go_simp
      go_at_call 8
      refine (none_any _).mono ?_
      unfold noneV
      rintro e x3 ⟨rfl, hba⟩
      have hbx3 : Below w4.heap.size w4 x3 := (((((Below.refl w4.heap.size w4)).alloc ((Below.refl w4.heap.size w4)).size _)).drew).trans (hba.mono (((((Below.refl w4.heap.size w4)).alloc ((Below.refl w4.heap.size w4)).size _)).drew).size)
      have HQ0 := Lib.hid (Lies.later (show Lies ((w4.alloc (.cells #[.slice none 0 0, .slice none 0 0] 34)).drew) (w4.heap.size) 34 #[.slice none 0 0, .slice none 0 0] from Lies.new w4 _ _) hba)
      clear hba
      refine hK.out _ _ ?_ (fun hHeld => ?_)
      · exact HKS.out _ hbx3
      clear hK K
      try simp only [Act.put, List.setIfInBounds_toArray, List.set_cons_zero, List.set_cons_succ]
      refine wpAnyH_ready (rs := [3]) (by kernel_rfl) (by simp) ?_
      refine AllReadyH.cons (o := ⟨some 56, _, _, _, _, _⟩) rfl (fun K hK => ?_) (AllReadyH.nil)
      go_simp
      go_at_call 7
      refine (HRW.out _ (hbx3)).mono ?_
      rintro e x5 ⟨⟨B1, d1, e1, B2, d2, e2, k, err, rfl, herr⟩, hba⟩
      have HERR := Lib.hid herr
      clear herr
      have hbx5 : Below w4.heap.size w4 x5 := (hbx3).trans (hba.mono (hbx3).size)
      have HQ1 := Lib.hid (Lies.later HQ0.out hba)
      clear hba
      refine hK.out _ _ ?_ (fun hHeld => ?_)
      · exact HKS.out _ hbx5
      clear hK K
      try simp only [Act.put, List.setIfInBounds_toArray, List.set_cons_zero, List.set_cons_succ]
      refine wpAnyH_take (i := 4) (oi := ⟨some 52, _, _, _, _, _⟩) (v := ?_) rfl (by kernel_rfl) (by kernel_rfl) (by kernel_rfl) (fun _ _ _ h => h) (Or.inl ⟨by kernel_rfl, ?_⟩) (by assumption) ?_
      rotate_left
      · (intro w' hSw; (try dsimp only at hSw); go_split_ands; go_simp; first | done | with_reducible rfl)
      try simp only [Act.put, List.setIfInBounds_toArray, List.set_cons_zero, List.set_cons_succ]
      refine wpAnyH_take (i := 5) (oi := ⟨some 57, _, _, _, _, _⟩) (v := ?_) rfl (by kernel_rfl) (by kernel_rfl) (by kernel_rfl) (fun _ _ _ h => h) (Or.inl ⟨by kernel_rfl, ?_⟩) (by assumption) ?_
      rotate_left
      · (intro w' hSw; (try dsimp only at hSw); go_split_ands; go_simp; first | done | with_reducible rfl)
      try simp only [Act.put, List.setIfInBounds_toArray, List.set_cons_zero, List.set_cons_succ]
      refine wpAnyH_take (i := 6) (oi := ⟨some 58, _, _, _, _, _⟩) (v := ?_) rfl (by kernel_rfl) (by kernel_rfl) (by kernel_rfl) (fun _ _ _ h => h) (Or.inl ⟨by kernel_rfl, ?_⟩) (by assumption) ?_
      rotate_left
      · (intro w' hSw; (try dsimp only at hSw); go_split_ands; go_simp; first | done | with_reducible rfl)
      try simp only [Act.put, List.setIfInBounds_toArray, List.set_cons_zero, List.set_cons_succ]
      refine wpAnyH_take (i := 7) (oi := ⟨some 59, _, _, _, _, _⟩) (v := ?_) rfl (by kernel_rfl) (by kernel_rfl) (by kernel_rfl) (fun _ _ _ h => h) (Or.inl ⟨by kernel_rfl, ?_⟩) (by assumption) ?_
      rotate_left
      · (intro w' hSw; (try dsimp only at hSw); go_split_ands; go_simp; first | done | with_reducible rfl)
      try simp only [Act.put, List.setIfInBounds_toArray, List.set_cons_zero, List.set_cons_succ]
      refine wpAnyH_ready (rs := [9]) (by kernel_rfl) (by simp) ?_
      refine AllReadyH.cons (o := ⟨none, _, _, _, _, _⟩) rfl (fun K hK => ?_) (AllReadyH.nil)
      rw [if_pos (by kernel_rfl)]
      refine wp_store_row _ _ _ rfl (w4.heap.size) #[.slice B1 d1 e1, .slice B2 d2 e2] rfl rfl 34 #[.slice none 0 0, .slice none 0 0] (show Lies (x5) (w4.heap.size) 34 #[.slice none 0 0, .slice none 0 0] from HQ1.out) (by kernel_rfl) rfl (by simp [Value.oneCell']) ?_
      obtain ⟨z1, hz1⟩ : ∃ X, X = (x5).setRow (w4.heap.size) #[.slice B1 d1 e1, .slice B2 d2 e2] := ⟨_, rfl⟩
      rw [← hz1]
      have HZ1 := Lib.hid hz1
      clear hz1
      have hbz : Below w4.heap.size w4 z1 := by rw [HZ1.out]; exact Sb.below_setRow (hbx5) (((Below.refl w4.heap.size w4)).size) _
      refine hK.out _ _ ?_ (fun hHeld => ?_)
      · exact HKS.out _ hbz
      clear hK K
      try simp only [Act.put]
      refine wpAnyH_take (i := 10) (oi := ⟨some 7, _, _, _, _, _⟩) (v := ?_) rfl (by kernel_rfl) (by kernel_rfl) (by kernel_rfl) (fun _ _ _ h => h) (Or.inl ⟨by kernel_rfl, ?_⟩) (by assumption) ?_
      rotate_left
      · (intro w' hSw; (try dsimp only at hSw); go_split_ands; go_simp; first | done | with_reducible rfl)
      try simp only [Act.put, List.setIfInBounds_toArray, List.set_cons_zero, List.set_cons_succ]
      refine wpAnyH_take (i := 11) (oi := ⟨some 8, _, _, _, _, _⟩) (v := ?_) rfl (by kernel_rfl) (by kernel_rfl) (by kernel_rfl) (fun _ _ _ h => h) (Or.inl ⟨by kernel_rfl, ?_⟩) (by assumption) ?_
      rotate_left
      · (intro w' hSw; (try dsimp only at hSw); go_split_ands; go_simp; first | done | with_reducible rfl)
      try simp only [Act.put, List.setIfInBounds_toArray, List.set_cons_zero, List.set_cons_succ]
      refine wpAnyH_done (by kernel_rfl) ?_ _
      go_wp2_with fail
      go_meet
      exact ⟨by rw [← err_num HERR.out], hbz⟩
  case rest =>
    obtain ⟨rfl, hbx⟩ := hcut
    obtain ⟨x0, rfl⟩ : ∃ X, X = wc := ⟨_, rfl⟩
    have HB := Lib.hid (HB.out.trans (hbx.mono HB.out.size))
    have HKA := Lib.hid (HKA.out.later hbx)
    have HKB := Lib.hid (HKB.out.later hbx)
    have a0 := HKA.out.cell 0
    have a1 := HKA.out.cell 1
    have b0 := HKB.out.cell 0
    have b1 := HKB.out.cell 1
    have HER := Lib.hid (fun (wi ov : Bool) (h1 : wi = true ↔ fitsIn la lb) (h2 : ov = true ↔ fitsIn lb la) => err_want la lb va vb 9 wi ov h1 h2 H0A.out H0B.out)
    obtain ⟨er, her⟩ : ∃ e, e = errOf (rowsRes la lb va vb 9) := ⟨_, rfl⟩
    rw [← her] at HER ⊢
    clear hbx her HRW HKS hAi hAd hBi hBd hva8d hvb8d hA hBx hva8 hvb8
    go_wp2_with fail
    go_loopw [10, 12] (fun ov iv wr => ∃ (k : Nat) (A9 : Option Addr) (n9 c9 : Nat), k ≤ NB ∧ iv = .int .i64 k ∧ ov = .bool (lAll la (lb.take k)).2 ∧ Lies wr x0.heap.size 24 #[.slice A9 n9 c9, .int .i64 va] ∧ StrR wr (.slice A9 n9 c9) (lAll la (lb.take k)).1 ∧ Below x0.heap.size x0 wr) (fun _ iv _ => NB - (intOf iv).toNat)
    case atStart => exact ⟨0, A1, NA, c1, Nat.zero_le _, rfl, rfl, Lies.new x0 _ _, HRA.out.keep (fun i hi => (Below.heap_alloc x0 _ i (Nat.lt_of_lt_of_le hi HB.out.size)).trans (HB.out.block i hi)), below_new x0 _⟩
    case round =>
      obtain ⟨k, A9, n9, c9, hk, rfl, rfl, hl, hs, hB⟩ := hrel
      have HL := Lib.hid hl
      have HSX := Lib.hid hs
      have HBr := Lib.hid hB
      have HBw := Lib.hid (HB.out.trans (hB.mono HB.out.size))
      have hkl := HKB.out.later hB
      have b0 := hkl.cell 0
      have g0 := hl.cell 0
      have g1 := hl.cell 1
      have HKL := Lib.hid hkl
      clear hl hs hB hkl
      by_cases hlt : k < NB
      · obtain ⟨x, hx⟩ : ∃ x, lb[k]? = some x := ⟨_, List.getElem?_eq_getElem (by have := HNB.out; omega)⟩
        obtain ⟨g, o, rfl, h6⟩ := HMB.out k x hx
        have z6 := (HBw.out.cell (p := ⟨g, o + k, none⟩) (World.block_lt_of_cell? w _ h6)).trans h6
        have hst := lAll_step la lb k x hx
        obtain ⟨st, hste⟩ : ∃ st, st = lAll la (lb.take k) := ⟨_, rfl⟩
        rw [← hste] at hst HSX ⊢
        have HST := Lib.hid hst
        have HLS := Lib.hid (show ∀ X : World, Below wr.heap.size wr X → _ from fun X hx => less_any X _ st.1 va x (HSX.out.keep hx.block))
        have HKS := Lib.hid (show ∀ X : World, Below wr.heap.size wr X → (X.cell? ⟨x0.heap.size, 0, none⟩ = some (.slice A9 n9 c9) ∧ X.cell? ⟨x0.heap.size, 1, none⟩ = some (.int .i64 va)) ∧ X.cell? ⟨w.heap.size + 1, 0, none⟩ = some (.slice (some ⟨g, o, none⟩) NB c2) ∧ X.cell? ⟨g, o + k, none⟩ = some (.string (ba x)) from fun X hx => ⟨⟨(HL.out.later hx).cell 0, (HL.out.later hx).cell 1⟩, (HKL.out.later hx).cell 0, (hx.cell (p := ⟨g, o + k, none⟩) (World.block_lt_of_cell? wr _ z6)).trans z6⟩)
        have hlti : (k : Int) < (NB : Int) := by omega
        have hkc : k < c2 := by omega
        obtain ⟨ob, hob⟩ : ∃ b, b = st.2 := ⟨_, rfl⟩
        have HOB := Lib.hid hob
        rw [← hob]
        clear h6 hx hst hste hob
        go_upto_region 11 with fail
        go_cut [13, 14] from 68 to 77 (fun p is wx => ∃ (g13 : Nat) (A5 : Option Addr) (n5 c5 : Nat), p = .pointer (some ⟨g13, 0, none⟩) ∧ is = .bool (decide (x ∈ st.1)) ∧ Lies wx g13 24 #[.slice A5 n5 c5, .int .i64 va] ∧ wr.heap.size ≤ g13 ∧ StrR wx (.slice A5 n5 c5) (st.1.erase x) ∧ Below wr.heap.size wr wx)
        case first =>
          clear b0 g0 g1 z6
          refine wp_region_held_drew (S := fun X => (X.cell? ⟨x0.heap.size, 0, none⟩ = some (.slice A9 n9 c9) ∧ X.cell? ⟨x0.heap.size, 1, none⟩ = some (.int .i64 va)) ∧ X.cell? ⟨w.heap.size + 1, 0, none⟩ = some (.slice (some ⟨g, o, none⟩) NB c2) ∧ X.cell? ⟨g, o + k, none⟩ = some (.string (ba x))) (by kernel_rfl) ?_ (fun hHeld => ?_)
          · exact HKS.out _ (Below.refl wr.heap.size wr).drew
          refine wpAnyH_take (i := 0) (oi := ⟨some 69, _, _, _, _, _⟩) (v := ?_) rfl (by kernel_rfl) (by kernel_rfl) (by kernel_rfl) (fun _ _ _ h => h) (Or.inl ⟨by kernel_rfl, ?_⟩) (by assumption) ?_
          rotate_left
          · (intro w' hSw; (try dsimp only at hSw); go_split_ands; go_simp; first | done | with_reducible rfl)
          try simp only [Act.put, List.setIfInBounds_toArray, List.set_cons_zero, List.set_cons_succ]
          refine wpAnyH_take (i := 1) (oi := ⟨some 70, _, _, _, _, _⟩) (v := ?_) rfl (by kernel_rfl) (by kernel_rfl) (by kernel_rfl) (fun _ _ _ h => h) (Or.inl ⟨by kernel_rfl, ?_⟩) (by assumption) ?_
          rotate_left
          · (intro w' hSw; (try dsimp only at hSw); go_split_ands; go_simp; first | done | with_reducible rfl)
          try simp only [Act.put, List.setIfInBounds_toArray, List.set_cons_zero, List.set_cons_succ]
          refine wpAnyH_take (i := 2) (oi := ⟨some 71, _, _, _, _, _⟩) (v := ?_) rfl (by kernel_rfl) (by kernel_rfl) (by kernel_rfl) (fun _ _ _ h => h) (Or.inl ⟨by kernel_rfl, ?_⟩) (by assumption) ?_
          rotate_left
          · (intro w' hSw; (try dsimp only at hSw); go_split_ands; go_simp; first | done | with_reducible rfl)
          try simp only [Act.put, List.setIfInBounds_toArray, List.set_cons_zero, List.set_cons_succ]
          refine wpAnyH_take (i := 3) (oi := ⟨some 72, _, _, _, _, _⟩) (v := ?_) rfl (by kernel_rfl) (by kernel_rfl) (by kernel_rfl) (fun _ _ _ h => h) (Or.inl ⟨by kernel_rfl, ?_⟩) (by assumption) ?_
          rotate_left
          · (intro w' hSw; (try dsimp only at hSw); go_split_ands; go_simp; first | done | with_reducible rfl)
          try simp only [Act.put, List.setIfInBounds_toArray, List.set_cons_zero, List.set_cons_succ]
          refine wpAnyH_take (i := 4) (oi := ⟨some 73, _, _, _, _, _⟩) (v := ?_) rfl (by kernel_rfl) (by kernel_rfl) (by kernel_rfl) (fun _ _ _ h => h) (Or.inl ⟨by kernel_rfl, ?_⟩) (by assumption) ?_
          rotate_left
          · (intro w' hSw; (try dsimp only at hSw); go_split_ands; go_simp; first | done | with_reducible rfl)
          try simp only [Act.put, List.setIfInBounds_toArray, List.set_cons_zero, List.set_cons_succ]
          refine wpAnyH_take (i := 5) (oi := ⟨some 74, _, _, _, _, _⟩) (v := ?_) rfl (by kernel_rfl) (by kernel_rfl) (by kernel_rfl) (fun _ _ _ h => h) (Or.inl ⟨by kernel_rfl, ?_⟩) (by assumption) ?_
          rotate_left
          · (intro w' hSw; (try dsimp only at hSw); go_split_ands; go_simp; first | done | with_reducible rfl)
          try simp only [Act.put, List.setIfInBounds_toArray, List.set_cons_zero, List.set_cons_succ]
          refine wpAnyH_ready (rs := [6, 10]) (by kernel_rfl) (by simp) ?_
          refine AllReadyH.cons (o := ⟨some 75, _, _, _, _, _⟩) rfl (fun K hK => ?_) (AllReadyH.cons (o := ⟨some 13, _, _, _, _, _⟩) rfl (fun K hK => ?_) (AllReadyH.nil))
          · go_simp
            go_at_call 9
            refine (HLS.out _ (((Below.refl wr.heap.size wr)).drew)).mono ?_
            rintro e x5 ⟨v5, rfl, hsr, hba⟩
            obtain ⟨A5, n5, c5, rfl⟩ : ∃ A n c, v5 = .slice A n c := by rcases hsr.1 with ⟨rfl, _⟩ | ⟨_, _, rfl, _⟩ <;> exact ⟨_, _, _, rfl⟩
            have HSR := Lib.hid hsr
            clear hsr
            have hbx5 : Below wr.heap.size wr x5 := (((Below.refl wr.heap.size wr)).drew).trans (hba.mono (((Below.refl wr.heap.size wr)).drew).size)
            clear hba
            refine hK.out _ _ ?_ (fun hHeld => ?_)
            · exact HKS.out _ hbx5
            clear hK K
            try simp only [Act.put, List.setIfInBounds_toArray, List.set_cons_zero, List.set_cons_succ]
            refine wpAnyH_take (i := 7) (oi := ⟨some 68, _, _, _, _, _⟩) (v := ?_) rfl (by kernel_rfl) (by kernel_rfl) (by kernel_rfl) (fun _ _ _ h => h) (Or.inl ⟨by kernel_rfl, ?_⟩) (by assumption) ?_
            rotate_left
            · (intro w' hSw; (try dsimp only at hSw); go_split_ands; go_simp; first | done | with_reducible rfl)
            try simp only [Act.put, List.setIfInBounds_toArray, List.set_cons_zero, List.set_cons_succ]
            refine wpAnyH_take (i := 8) (oi := ⟨some 76, _, _, _, _, _⟩) (v := ?_) rfl (by kernel_rfl) (by kernel_rfl) (by kernel_rfl) (fun _ _ _ h => h) (Or.inl ⟨by kernel_rfl, ?_⟩) (by assumption) ?_
            rotate_left
            · (intro w' hSw; (try dsimp only at hSw); go_split_ands; go_simp; first | done | with_reducible rfl)
            try simp only [Act.put, List.setIfInBounds_toArray, List.set_cons_zero, List.set_cons_succ]
            refine wpAnyH_take (i := 9) (oi := ⟨some 77, _, _, _, _, _⟩) (v := ?_) rfl (by kernel_rfl) (by kernel_rfl) (by kernel_rfl) (fun _ _ _ h => h) (Or.inl ⟨by kernel_rfl, ?_⟩) (by assumption) ?_
            rotate_left
            · (intro w' hSw; (try dsimp only at hSw); go_split_ands; go_simp; first | done | with_reducible rfl)
            try simp only [Act.put, List.setIfInBounds_toArray, List.set_cons_zero, List.set_cons_succ]
            refine wpAnyH_ready (rs := [10]) (by kernel_rfl) (by simp) ?_
            refine AllReadyH.cons (o := ⟨some 13, _, _, _, _, _⟩) rfl (fun K hK => ?_) (AllReadyH.nil)
            go_simp
            refine hK.out _ _ ?_ (fun hHeld => ?_)
            · exact HKS.out _ (((hbx5).alloc (hbx5).size _))
            clear hK K
            try simp only [Act.put, List.setIfInBounds_toArray, List.set_cons_zero, List.set_cons_succ]
            refine wpAnyH_ready (rs := [11]) (by kernel_rfl) (by simp) ?_
            refine AllReadyH.cons (o := ⟨none, _, _, _, _, _⟩) rfl (fun K hK => ?_) (AllReadyH.nil)
            rw [if_pos (by kernel_rfl)]
            refine wp_store_row _ _ _ rfl (x5.heap.size) #[.slice A5 n5 c5, .int .i64 va] rfl rfl 24 #[.slice none 0 0, .int .i64 0] (show Lies ((x5.alloc (.cells #[.slice none 0 0, .int .i64 0] 24))) (x5.heap.size) 24 #[.slice none 0 0, .int .i64 0] from Lies.new x5 _ _) (by kernel_rfl) rfl (by simp [Value.oneCell']) ?_
            obtain ⟨z1, hz1⟩ : ∃ X, X = ((x5.alloc (.cells #[.slice none 0 0, .int .i64 0] 24))).setRow (x5.heap.size) #[.slice A5 n5 c5, .int .i64 va] := ⟨_, rfl⟩
            rw [← hz1]
            have HZ1 := Lib.hid hz1
            clear hz1
            have hbz : Below wr.heap.size wr z1 := by rw [HZ1.out]; exact Sb.below_setRow (((hbx5).alloc (hbx5).size _)) ((hbx5).size) _
            refine hK.out _ _ ?_ (fun hHeld => ?_)
            · exact HKS.out _ hbz
            clear hK K
            try simp only [Act.put]
            refine wpAnyH_take (i := 12) (oi := ⟨some 14, _, _, _, _, _⟩) (v := ?_) rfl (by kernel_rfl) (by kernel_rfl) (by kernel_rfl) (fun _ _ _ h => h) (Or.inl ⟨by kernel_rfl, ?_⟩) (by assumption) ?_
            rotate_left
            · (intro w' hSw; (try dsimp only at hSw); go_split_ands; go_simp; first | done | with_reducible rfl)
            try simp only [Act.put, List.setIfInBounds_toArray, List.set_cons_zero, List.set_cons_succ]
            refine wpAnyH_done (by kernel_rfl) ?_ _
            go_wp2_with fail
            go_meet
            exact ⟨x5.heap.size, A5, n5, c5, rfl, rfl, (show Lies z1 (x5.heap.size) 24 #[.slice A5 n5 c5, .int .i64 va] from by rw [HZ1.out]; exact Sb.setRow_at (show Lies ((x5.alloc (.cells #[.slice none 0 0, .int .i64 0] 24))) (x5.heap.size) 24 #[.slice none 0 0, .int .i64 0] from Lies.new x5 _ _) _), (hbx5).size, HSR.out.keep (fun i hi => by rw [HZ1.out]; exact (Sb.setRow_other _ _ _ _ (by omega)).trans (Below.heap_alloc x5 _ i hi)), hbz⟩
          · go_simp
            refine hK.out _ _ ?_ (fun hHeld => ?_)
            · exact HKS.out _ (((((Below.refl wr.heap.size wr)).alloc ((Below.refl wr.heap.size wr)).size _)).drew)
            clear hK K
            try simp only [Act.put, List.setIfInBounds_toArray, List.set_cons_zero, List.set_cons_succ]
            refine wpAnyH_ready (rs := [6]) (by kernel_rfl) (by simp) ?_
            refine AllReadyH.cons (o := ⟨some 75, _, _, _, _, _⟩) rfl (fun K hK => ?_) (AllReadyH.nil)
            go_simp
            go_at_call 9
            refine (HLS.out _ (((((Below.refl wr.heap.size wr)).alloc ((Below.refl wr.heap.size wr)).size _)).drew)).mono ?_
            rintro e x5 ⟨v5, rfl, hsr, hba⟩
            obtain ⟨A5, n5, c5, rfl⟩ : ∃ A n c, v5 = .slice A n c := by rcases hsr.1 with ⟨rfl, _⟩ | ⟨_, _, rfl, _⟩ <;> exact ⟨_, _, _, rfl⟩
            have HSR := Lib.hid hsr
            clear hsr
            have hbx5 : Below wr.heap.size wr x5 := (((((Below.refl wr.heap.size wr)).alloc ((Below.refl wr.heap.size wr)).size _)).drew).trans (hba.mono (((((Below.refl wr.heap.size wr)).alloc ((Below.refl wr.heap.size wr)).size _)).drew).size)
            have HQ0 := Lib.hid (Lies.later (show Lies ((wr.alloc (.cells #[.slice none 0 0, .int .i64 0] 24)).drew) (wr.heap.size) 24 #[.slice none 0 0, .int .i64 0] from Lies.new wr _ _) hba)
            clear hba
            refine hK.out _ _ ?_ (fun hHeld => ?_)
            · exact HKS.out _ hbx5
            clear hK K
            try simp only [Act.put, List.setIfInBounds_toArray, List.set_cons_zero, List.set_cons_succ]
            refine wpAnyH_take (i := 7) (oi := ⟨some 68, _, _, _, _, _⟩) (v := ?_) rfl (by kernel_rfl) (by kernel_rfl) (by kernel_rfl) (fun _ _ _ h => h) (Or.inl ⟨by kernel_rfl, ?_⟩) (by assumption) ?_
            rotate_left
            · (intro w' hSw; (try dsimp only at hSw); go_split_ands; go_simp; first | done | with_reducible rfl)
            try simp only [Act.put, List.setIfInBounds_toArray, List.set_cons_zero, List.set_cons_succ]
            refine wpAnyH_take (i := 8) (oi := ⟨some 76, _, _, _, _, _⟩) (v := ?_) rfl (by kernel_rfl) (by kernel_rfl) (by kernel_rfl) (fun _ _ _ h => h) (Or.inl ⟨by kernel_rfl, ?_⟩) (by assumption) ?_
            rotate_left
            · (intro w' hSw; (try dsimp only at hSw); go_split_ands; go_simp; first | done | with_reducible rfl)
            try simp only [Act.put, List.setIfInBounds_toArray, List.set_cons_zero, List.set_cons_succ]
            refine wpAnyH_take (i := 9) (oi := ⟨some 77, _, _, _, _, _⟩) (v := ?_) rfl (by kernel_rfl) (by kernel_rfl) (by kernel_rfl) (fun _ _ _ h => h) (Or.inl ⟨by kernel_rfl, ?_⟩) (by assumption) ?_
            rotate_left
            · (intro w' hSw; (try dsimp only at hSw); go_split_ands; go_simp; first | done | with_reducible rfl)
            try simp only [Act.put, List.setIfInBounds_toArray, List.set_cons_zero, List.set_cons_succ]
            refine wpAnyH_ready (rs := [11]) (by kernel_rfl) (by simp) ?_
            refine AllReadyH.cons (o := ⟨none, _, _, _, _, _⟩) rfl (fun K hK => ?_) (AllReadyH.nil)
            rw [if_pos (by kernel_rfl)]
            refine wp_store_row _ _ _ rfl (wr.heap.size) #[.slice A5 n5 c5, .int .i64 va] rfl rfl 24 #[.slice none 0 0, .int .i64 0] (show Lies (x5) (wr.heap.size) 24 #[.slice none 0 0, .int .i64 0] from HQ0.out) (by kernel_rfl) rfl (by simp [Value.oneCell']) ?_
            obtain ⟨z1, hz1⟩ : ∃ X, X = (x5).setRow (wr.heap.size) #[.slice A5 n5 c5, .int .i64 va] := ⟨_, rfl⟩
            rw [← hz1]
            have HZ1 := Lib.hid hz1
            clear hz1
            have hbz : Below wr.heap.size wr z1 := by rw [HZ1.out]; exact Sb.below_setRow (hbx5) (((Below.refl wr.heap.size wr)).size) _
            refine hK.out _ _ ?_ (fun hHeld => ?_)
            · exact HKS.out _ hbz
            clear hK K
            try simp only [Act.put]
            refine wpAnyH_take (i := 12) (oi := ⟨some 14, _, _, _, _, _⟩) (v := ?_) rfl (by kernel_rfl) (by kernel_rfl) (by kernel_rfl) (fun _ _ _ h => h) (Or.inl ⟨by kernel_rfl, ?_⟩) (by assumption) ?_
            rotate_left
            · (intro w' hSw; (try dsimp only at hSw); go_split_ands; go_simp; first | done | with_reducible rfl)
            try simp only [Act.put, List.setIfInBounds_toArray, List.set_cons_zero, List.set_cons_succ]
            refine wpAnyH_done (by kernel_rfl) ?_ _
            go_wp2_with fail
            go_meet
            exact ⟨wr.heap.size, A5, n5, c5, rfl, rfl, (show Lies z1 (wr.heap.size) 24 #[.slice A5 n5 c5, .int .i64 va] from by rw [HZ1.out]; exact Sb.setRow_at (show Lies (x5) (wr.heap.size) 24 #[.slice none 0 0, .int .i64 0] from HQ0.out) _), ((Below.refl wr.heap.size wr)).size, HSR.out.off (z := wr.heap.size) HQ0.out (fun i h1 _ => by rw [HZ1.out]; exact Sb.setRow_other _ _ _ _ h1), hbz⟩
        case rest =>
          obtain ⟨g13, A5, n5, c5, rfl, rfl, hl13, hg13, hs13, hbx⟩ := hcut
          obtain ⟨x2, rfl⟩ : ∃ X, X = wc := ⟨_, rfl⟩
          have hl2 := HL.out.later hbx
          have q0 := hl13.cell 0
          have q1 := hl13.cell 1
          have g0 := hl2.cell 0
          have g1 := hl2.cell 1
          have f0 := hl2.free 0
          have f1 := hl2.free 1
          have lg := hl2.lt
          have HL2 := Lib.hid hl2
          have HS13 := Lib.hid hs13
          have HBX := Lib.hid (HBr.out.trans (hbx.mono HBr.out.size))
          obtain ⟨ib, hib⟩ : ∃ b, b = decide (x ∈ st.1) := ⟨_, rfl⟩
          have HIB := Lib.hid hib
          rw [← hib]
          clear hl13 hg13 hs13 hbx hl2 hib b0 z6
          cases ob
          · go_wp2_with fail
            go_roundw
            case rel => exact ⟨k + 1, A5, n5, c5, by omega, by simp, by rw [HST.out]; unfold lStep; rw [← HOB.out]; rfl, (HL2.out.set 0 _).set 1 _, by rw [HST.out]; exact HS13.out.off HL2.out (fun i h1 _ => (Below.heap_setCell _ ⟨x0.heap.size, 1, none⟩ _ i h1).trans (Below.heap_setCell _ ⟨x0.heap.size, 0, none⟩ _ i h1)), (HBX.out.setCell (p := ⟨x0.heap.size, 0, none⟩) (Nat.le_refl _) _).setCell (p := ⟨x0.heap.size, 1, none⟩) (Nat.le_refl _) _⟩
            case measure => simp [intOf]; omega
          · go_wp2_with fail
            go_roundw
            case rel => exact ⟨k + 1, A5, n5, c5, by omega, by simp, by rw [HST.out]; unfold lStep; rw [← HOB.out, ← HIB.out]; simp, (HL2.out.set 0 _).set 1 _, by rw [HST.out]; exact HS13.out.off HL2.out (fun i h1 _ => (Below.heap_setCell _ ⟨x0.heap.size, 1, none⟩ _ i h1).trans (Below.heap_setCell _ ⟨x0.heap.size, 0, none⟩ _ i h1)), (HBX.out.setCell (p := ⟨x0.heap.size, 0, none⟩) (Nat.le_refl _) _).setCell (p := ⟨x0.heap.size, 1, none⟩) (Nat.le_refl _) _⟩
            case measure => simp [intOf]; omega
      · obtain rfl : NB = k := by omega
        rw [HNB.out, List.take_length]
        obtain ⟨ov, hov⟩ : ∃ b, b = (lAll la lb).2 := ⟨_, rfl⟩
        rw [← hov, ← HNB.out]
        have HOv := Lib.hid hov
        clear hov g0 g1
        have HB := HBw
        have HKA := Lib.hid (HKA.out.later HBr.out)
        have HKB := HKL
        have a0 := HKA.out.cell 0
        have a1 := HKA.out.cell 1
        have b1 := HKB.out.cell 1
        obtain ⟨x1, rfl⟩ : ∃ X, X = wr := ⟨_, rfl⟩
        clear HSX HL HBw HBr HKL
        go_wp2_with fail
        go_loopw [9, 16] (fun ov iv wr => ∃ (k : Nat) (A9 : Option Addr) (n9 c9 : Nat), k ≤ NA ∧ iv = .int .i64 k ∧ ov = .bool (lAll lb (la.take k)).2 ∧ Lies wr x1.heap.size 24 #[.slice A9 n9 c9, .int .i64 vb] ∧ StrR wr (.slice A9 n9 c9) (lAll lb (la.take k)).1 ∧ Below x1.heap.size x1 wr) (fun _ iv _ => NA - (intOf iv).toNat)
        case atStart => exact ⟨0, A2, NB, c2, Nat.zero_le _, rfl, rfl, Lies.new x1 _ _, HRB.out.keep (fun i hi => (Below.heap_alloc x1 _ i (Nat.lt_of_lt_of_le hi HB.out.size)).trans (HB.out.block i hi)), below_new x1 _⟩
        case round =>
          obtain ⟨k, A9, n9, c9, hk, rfl, rfl, hl, hs, hB⟩ := hrel
          have HL := Lib.hid hl
          have HSX := Lib.hid hs
          have HBr := Lib.hid hB
          have HBw := Lib.hid (HB.out.trans (hB.mono HB.out.size))
          have hkl := HKA.out.later hB
          have b0 := hkl.cell 0
          have g0 := hl.cell 0
          have g1 := hl.cell 1
          have HKL := Lib.hid hkl
          clear hl hs hB hkl
          by_cases hlt : k < NA
          · obtain ⟨x, hx⟩ : ∃ x, la[k]? = some x := ⟨_, List.getElem?_eq_getElem (by have := HNA.out; omega)⟩
            obtain ⟨g, o, rfl, h6⟩ := HMA.out k x hx
            have z6 := (HBw.out.cell (p := ⟨g, o + k, none⟩) (World.block_lt_of_cell? w _ h6)).trans h6
            have hst := lAll_step lb la k x hx
            obtain ⟨st, hste⟩ : ∃ st, st = lAll lb (la.take k) := ⟨_, rfl⟩
            rw [← hste] at hst HSX ⊢
            have HST := Lib.hid hst
            have HLS := Lib.hid (show ∀ X : World, Below wr.heap.size wr X → _ from fun X hx => less_any X _ st.1 vb x (HSX.out.keep hx.block))
            have HKS := Lib.hid (show ∀ X : World, Below wr.heap.size wr X → (X.cell? ⟨x1.heap.size, 0, none⟩ = some (.slice A9 n9 c9) ∧ X.cell? ⟨x1.heap.size, 1, none⟩ = some (.int .i64 vb)) ∧ X.cell? ⟨w.heap.size, 0, none⟩ = some (.slice (some ⟨g, o, none⟩) NA c1) ∧ X.cell? ⟨g, o + k, none⟩ = some (.string (ba x)) from fun X hx => ⟨⟨(HL.out.later hx).cell 0, (HL.out.later hx).cell 1⟩, (HKL.out.later hx).cell 0, (hx.cell (p := ⟨g, o + k, none⟩) (World.block_lt_of_cell? wr _ z6)).trans z6⟩)
            have hlti : (k : Int) < (NA : Int) := by omega
            have hkc : k < c1 := by omega
            obtain ⟨ob, hob⟩ : ∃ b, b = st.2 := ⟨_, rfl⟩
            have HOB := Lib.hid hob
            rw [← hob]
            clear h6 hx hst hste hob
            go_upto_region 18 with fail
            go_cut [17, 18] from 91 to 100 (fun p is wx => ∃ (g13 : Nat) (A5 : Option Addr) (n5 c5 : Nat), p = .pointer (some ⟨g13, 0, none⟩) ∧ is = .bool (decide (x ∈ st.1)) ∧ Lies wx g13 24 #[.slice A5 n5 c5, .int .i64 vb] ∧ wr.heap.size ≤ g13 ∧ StrR wx (.slice A5 n5 c5) (st.1.erase x) ∧ Below wr.heap.size wr wx)
            case first =>
              clear b0 g0 g1 z6
              refine wp_region_held_drew (S := fun X => (X.cell? ⟨x1.heap.size, 0, none⟩ = some (.slice A9 n9 c9) ∧ X.cell? ⟨x1.heap.size, 1, none⟩ = some (.int .i64 vb)) ∧ X.cell? ⟨w.heap.size, 0, none⟩ = some (.slice (some ⟨g, o, none⟩) NA c1) ∧ X.cell? ⟨g, o + k, none⟩ = some (.string (ba x))) (by kernel_rfl) ?_ (fun hHeld => ?_)
              · exact HKS.out _ (Below.refl wr.heap.size wr).drew
              refine wpAnyH_take (i := 0) (oi := ⟨some 92, _, _, _, _, _⟩) (v := ?_) rfl (by kernel_rfl) (by kernel_rfl) (by kernel_rfl) (fun _ _ _ h => h) (Or.inl ⟨by kernel_rfl, ?_⟩) (by assumption) ?_
              rotate_left
              · (intro w' hSw; (try dsimp only at hSw); go_split_ands; go_simp; first | done | with_reducible rfl)
              try simp only [Act.put, List.setIfInBounds_toArray, List.set_cons_zero, List.set_cons_succ]
              refine wpAnyH_take (i := 1) (oi := ⟨some 93, _, _, _, _, _⟩) (v := ?_) rfl (by kernel_rfl) (by kernel_rfl) (by kernel_rfl) (fun _ _ _ h => h) (Or.inl ⟨by kernel_rfl, ?_⟩) (by assumption) ?_
              rotate_left
              · (intro w' hSw; (try dsimp only at hSw); go_split_ands; go_simp; first | done | with_reducible rfl)
              try simp only [Act.put, List.setIfInBounds_toArray, List.set_cons_zero, List.set_cons_succ]
              refine wpAnyH_take (i := 2) (oi := ⟨some 94, _, _, _, _, _⟩) (v := ?_) rfl (by kernel_rfl) (by kernel_rfl) (by kernel_rfl) (fun _ _ _ h => h) (Or.inl ⟨by kernel_rfl, ?_⟩) (by assumption) ?_
              rotate_left
              · (intro w' hSw; (try dsimp only at hSw); go_split_ands; go_simp; first | done | with_reducible rfl)
              try simp only [Act.put, List.setIfInBounds_toArray, List.set_cons_zero, List.set_cons_succ]
              refine wpAnyH_take (i := 3) (oi := ⟨some 95, _, _, _, _, _⟩) (v := ?_) rfl (by kernel_rfl) (by kernel_rfl) (by kernel_rfl) (fun _ _ _ h => h) (Or.inl ⟨by kernel_rfl, ?_⟩) (by assumption) ?_
              rotate_left
              · (intro w' hSw; (try dsimp only at hSw); go_split_ands; go_simp; first | done | with_reducible rfl)
              try simp only [Act.put, List.setIfInBounds_toArray, List.set_cons_zero, List.set_cons_succ]
              refine wpAnyH_take (i := 4) (oi := ⟨some 96, _, _, _, _, _⟩) (v := ?_) rfl (by kernel_rfl) (by kernel_rfl) (by kernel_rfl) (fun _ _ _ h => h) (Or.inl ⟨by kernel_rfl, ?_⟩) (by assumption) ?_
              rotate_left
              · (intro w' hSw; (try dsimp only at hSw); go_split_ands; go_simp; first | done | with_reducible rfl)
              try simp only [Act.put, List.setIfInBounds_toArray, List.set_cons_zero, List.set_cons_succ]
              refine wpAnyH_take (i := 5) (oi := ⟨some 97, _, _, _, _, _⟩) (v := ?_) rfl (by kernel_rfl) (by kernel_rfl) (by kernel_rfl) (fun _ _ _ h => h) (Or.inl ⟨by kernel_rfl, ?_⟩) (by assumption) ?_
              rotate_left
              · (intro w' hSw; (try dsimp only at hSw); go_split_ands; go_simp; first | done | with_reducible rfl)
              try simp only [Act.put, List.setIfInBounds_toArray, List.set_cons_zero, List.set_cons_succ]
              refine wpAnyH_ready (rs := [6, 10]) (by kernel_rfl) (by simp) ?_
              refine AllReadyH.cons (o := ⟨some 98, _, _, _, _, _⟩) rfl (fun K hK => ?_) (AllReadyH.cons (o := ⟨some 17, _, _, _, _, _⟩) rfl (fun K hK => ?_) (AllReadyH.nil))
              · go_simp
                go_at_call 9
                refine (HLS.out _ (((Below.refl wr.heap.size wr)).drew)).mono ?_
                rintro e x5 ⟨v5, rfl, hsr, hba⟩
                obtain ⟨A5, n5, c5, rfl⟩ : ∃ A n c, v5 = .slice A n c := by rcases hsr.1 with ⟨rfl, _⟩ | ⟨_, _, rfl, _⟩ <;> exact ⟨_, _, _, rfl⟩
                have HSR := Lib.hid hsr
                clear hsr
                have hbx5 : Below wr.heap.size wr x5 := (((Below.refl wr.heap.size wr)).drew).trans (hba.mono (((Below.refl wr.heap.size wr)).drew).size)
                clear hba
                refine hK.out _ _ ?_ (fun hHeld => ?_)
                · exact HKS.out _ hbx5
                clear hK K
                try simp only [Act.put, List.setIfInBounds_toArray, List.set_cons_zero, List.set_cons_succ]
                refine wpAnyH_take (i := 7) (oi := ⟨some 91, _, _, _, _, _⟩) (v := ?_) rfl (by kernel_rfl) (by kernel_rfl) (by kernel_rfl) (fun _ _ _ h => h) (Or.inl ⟨by kernel_rfl, ?_⟩) (by assumption) ?_
                rotate_left
                · (intro w' hSw; (try dsimp only at hSw); go_split_ands; go_simp; first | done | with_reducible rfl)
                try simp only [Act.put, List.setIfInBounds_toArray, List.set_cons_zero, List.set_cons_succ]
                refine wpAnyH_take (i := 8) (oi := ⟨some 99, _, _, _, _, _⟩) (v := ?_) rfl (by kernel_rfl) (by kernel_rfl) (by kernel_rfl) (fun _ _ _ h => h) (Or.inl ⟨by kernel_rfl, ?_⟩) (by assumption) ?_
                rotate_left
                · (intro w' hSw; (try dsimp only at hSw); go_split_ands; go_simp; first | done | with_reducible rfl)
                try simp only [Act.put, List.setIfInBounds_toArray, List.set_cons_zero, List.set_cons_succ]
                refine wpAnyH_take (i := 9) (oi := ⟨some 100, _, _, _, _, _⟩) (v := ?_) rfl (by kernel_rfl) (by kernel_rfl) (by kernel_rfl) (fun _ _ _ h => h) (Or.inl ⟨by kernel_rfl, ?_⟩) (by assumption) ?_
                rotate_left
                · (intro w' hSw; (try dsimp only at hSw); go_split_ands; go_simp; first | done | with_reducible rfl)
                try simp only [Act.put, List.setIfInBounds_toArray, List.set_cons_zero, List.set_cons_succ]
                refine wpAnyH_ready (rs := [10]) (by kernel_rfl) (by simp) ?_
                refine AllReadyH.cons (o := ⟨some 17, _, _, _, _, _⟩) rfl (fun K hK => ?_) (AllReadyH.nil)
                go_simp
                refine hK.out _ _ ?_ (fun hHeld => ?_)
                · exact HKS.out _ (((hbx5).alloc (hbx5).size _))
                clear hK K
                try simp only [Act.put, List.setIfInBounds_toArray, List.set_cons_zero, List.set_cons_succ]
                refine wpAnyH_ready (rs := [11]) (by kernel_rfl) (by simp) ?_
                refine AllReadyH.cons (o := ⟨none, _, _, _, _, _⟩) rfl (fun K hK => ?_) (AllReadyH.nil)
                rw [if_pos (by kernel_rfl)]
                refine wp_store_row _ _ _ rfl (x5.heap.size) #[.slice A5 n5 c5, .int .i64 vb] rfl rfl 24 #[.slice none 0 0, .int .i64 0] (show Lies ((x5.alloc (.cells #[.slice none 0 0, .int .i64 0] 24))) (x5.heap.size) 24 #[.slice none 0 0, .int .i64 0] from Lies.new x5 _ _) (by kernel_rfl) rfl (by simp [Value.oneCell']) ?_
                obtain ⟨z1, hz1⟩ : ∃ X, X = ((x5.alloc (.cells #[.slice none 0 0, .int .i64 0] 24))).setRow (x5.heap.size) #[.slice A5 n5 c5, .int .i64 vb] := ⟨_, rfl⟩
                rw [← hz1]
                have HZ1 := Lib.hid hz1
                clear hz1
                have hbz : Below wr.heap.size wr z1 := by rw [HZ1.out]; exact Sb.below_setRow (((hbx5).alloc (hbx5).size _)) ((hbx5).size) _
                refine hK.out _ _ ?_ (fun hHeld => ?_)
                · exact HKS.out _ hbz
                clear hK K
                try simp only [Act.put]
                refine wpAnyH_take (i := 12) (oi := ⟨some 18, _, _, _, _, _⟩) (v := ?_) rfl (by kernel_rfl) (by kernel_rfl) (by kernel_rfl) (fun _ _ _ h => h) (Or.inl ⟨by kernel_rfl, ?_⟩) (by assumption) ?_
                rotate_left
                · (intro w' hSw; (try dsimp only at hSw); go_split_ands; go_simp; first | done | with_reducible rfl)
                try simp only [Act.put, List.setIfInBounds_toArray, List.set_cons_zero, List.set_cons_succ]
                refine wpAnyH_done (by kernel_rfl) ?_ _
                go_wp2_with fail
                go_meet
                exact ⟨x5.heap.size, A5, n5, c5, rfl, rfl, (show Lies z1 (x5.heap.size) 24 #[.slice A5 n5 c5, .int .i64 vb] from by rw [HZ1.out]; exact Sb.setRow_at (show Lies ((x5.alloc (.cells #[.slice none 0 0, .int .i64 0] 24))) (x5.heap.size) 24 #[.slice none 0 0, .int .i64 0] from Lies.new x5 _ _) _), (hbx5).size, HSR.out.keep (fun i hi => by rw [HZ1.out]; exact (Sb.setRow_other _ _ _ _ (by omega)).trans (Below.heap_alloc x5 _ i hi)), hbz⟩
              · go_simp
                refine hK.out _ _ ?_ (fun hHeld => ?_)
                · exact HKS.out _ (((((Below.refl wr.heap.size wr)).alloc ((Below.refl wr.heap.size wr)).size _)).drew)
                clear hK K
                try simp only [Act.put, List.setIfInBounds_toArray, List.set_cons_zero, List.set_cons_succ]
                refine wpAnyH_ready (rs := [6]) (by kernel_rfl) (by simp) ?_
                refine AllReadyH.cons (o := ⟨some 98, _, _, _, _, _⟩) rfl (fun K hK => ?_) (AllReadyH.nil)
                go_simp
                go_at_call 9
                refine (HLS.out _ (((((Below.refl wr.heap.size wr)).alloc ((Below.refl wr.heap.size wr)).size _)).drew)).mono ?_
                rintro e x5 ⟨v5, rfl, hsr, hba⟩
                obtain ⟨A5, n5, c5, rfl⟩ : ∃ A n c, v5 = .slice A n c := by rcases hsr.1 with ⟨rfl, _⟩ | ⟨_, _, rfl, _⟩ <;> exact ⟨_, _, _, rfl⟩
                have HSR := Lib.hid hsr
                clear hsr
                have hbx5 : Below wr.heap.size wr x5 := (((((Below.refl wr.heap.size wr)).alloc ((Below.refl wr.heap.size wr)).size _)).drew).trans (hba.mono (((((Below.refl wr.heap.size wr)).alloc ((Below.refl wr.heap.size wr)).size _)).drew).size)
                have HQ0 := Lib.hid (Lies.later (show Lies ((wr.alloc (.cells #[.slice none 0 0, .int .i64 0] 24)).drew) (wr.heap.size) 24 #[.slice none 0 0, .int .i64 0] from Lies.new wr _ _) hba)
                clear hba
                refine hK.out _ _ ?_ (fun hHeld => ?_)
                · exact HKS.out _ hbx5
                clear hK K
                try simp only [Act.put, List.setIfInBounds_toArray, List.set_cons_zero, List.set_cons_succ]
                refine wpAnyH_take (i := 7) (oi := ⟨some 91, _, _, _, _, _⟩) (v := ?_) rfl (by kernel_rfl) (by kernel_rfl) (by kernel_rfl) (fun _ _ _ h => h) (Or.inl ⟨by kernel_rfl, ?_⟩) (by assumption) ?_
                rotate_left
                · (intro w' hSw; (try dsimp only at hSw); go_split_ands; go_simp; first | done | with_reducible rfl)
                try simp only [Act.put, List.setIfInBounds_toArray, List.set_cons_zero, List.set_cons_succ]
                refine wpAnyH_take (i := 8) (oi := ⟨some 99, _, _, _, _, _⟩) (v := ?_) rfl (by kernel_rfl) (by kernel_rfl) (by kernel_rfl) (fun _ _ _ h => h) (Or.inl ⟨by kernel_rfl, ?_⟩) (by assumption) ?_
                rotate_left
                · (intro w' hSw; (try dsimp only at hSw); go_split_ands; go_simp; first | done | with_reducible rfl)
                try simp only [Act.put, List.setIfInBounds_toArray, List.set_cons_zero, List.set_cons_succ]
                refine wpAnyH_take (i := 9) (oi := ⟨some 100, _, _, _, _, _⟩) (v := ?_) rfl (by kernel_rfl) (by kernel_rfl) (by kernel_rfl) (fun _ _ _ h => h) (Or.inl ⟨by kernel_rfl, ?_⟩) (by assumption) ?_
                rotate_left
                · (intro w' hSw; (try dsimp only at hSw); go_split_ands; go_simp; first | done | with_reducible rfl)
                try simp only [Act.put, List.setIfInBounds_toArray, List.set_cons_zero, List.set_cons_succ]
                refine wpAnyH_ready (rs := [11]) (by kernel_rfl) (by simp) ?_
                refine AllReadyH.cons (o := ⟨none, _, _, _, _, _⟩) rfl (fun K hK => ?_) (AllReadyH.nil)
                rw [if_pos (by kernel_rfl)]
                refine wp_store_row _ _ _ rfl (wr.heap.size) #[.slice A5 n5 c5, .int .i64 vb] rfl rfl 24 #[.slice none 0 0, .int .i64 0] (show Lies (x5) (wr.heap.size) 24 #[.slice none 0 0, .int .i64 0] from HQ0.out) (by kernel_rfl) rfl (by simp [Value.oneCell']) ?_
                obtain ⟨z1, hz1⟩ : ∃ X, X = (x5).setRow (wr.heap.size) #[.slice A5 n5 c5, .int .i64 vb] := ⟨_, rfl⟩
                rw [← hz1]
                have HZ1 := Lib.hid hz1
                clear hz1
                have hbz : Below wr.heap.size wr z1 := by rw [HZ1.out]; exact Sb.below_setRow (hbx5) (((Below.refl wr.heap.size wr)).size) _
                refine hK.out _ _ ?_ (fun hHeld => ?_)
                · exact HKS.out _ hbz
                clear hK K
                try simp only [Act.put]
                refine wpAnyH_take (i := 12) (oi := ⟨some 18, _, _, _, _, _⟩) (v := ?_) rfl (by kernel_rfl) (by kernel_rfl) (by kernel_rfl) (fun _ _ _ h => h) (Or.inl ⟨by kernel_rfl, ?_⟩) (by assumption) ?_
                rotate_left
                · (intro w' hSw; (try dsimp only at hSw); go_split_ands; go_simp; first | done | with_reducible rfl)
                try simp only [Act.put, List.setIfInBounds_toArray, List.set_cons_zero, List.set_cons_succ]
                refine wpAnyH_done (by kernel_rfl) ?_ _
                go_wp2_with fail
                go_meet
                exact ⟨wr.heap.size, A5, n5, c5, rfl, rfl, (show Lies z1 (wr.heap.size) 24 #[.slice A5 n5 c5, .int .i64 vb] from by rw [HZ1.out]; exact Sb.setRow_at (show Lies (x5) (wr.heap.size) 24 #[.slice none 0 0, .int .i64 0] from HQ0.out) _), ((Below.refl wr.heap.size wr)).size, HSR.out.off (z := wr.heap.size) HQ0.out (fun i h1 _ => by rw [HZ1.out]; exact Sb.setRow_other _ _ _ _ h1), hbz⟩
            case rest =>
              obtain ⟨g13, A5, n5, c5, rfl, rfl, hl13, hg13, hs13, hbx⟩ := hcut
              obtain ⟨x2, rfl⟩ : ∃ X, X = wc := ⟨_, rfl⟩
              have hl2 := HL.out.later hbx
              have q0 := hl13.cell 0
              have q1 := hl13.cell 1
              have g0 := hl2.cell 0
              have g1 := hl2.cell 1
              have f0 := hl2.free 0
              have f1 := hl2.free 1
              have lg := hl2.lt
              have HL2 := Lib.hid hl2
              have HS13 := Lib.hid hs13
              have HBX := Lib.hid (HBr.out.trans (hbx.mono HBr.out.size))
              obtain ⟨ib, hib⟩ : ∃ b, b = decide (x ∈ st.1) := ⟨_, rfl⟩
              have HIB := Lib.hid hib
              rw [← hib]
              clear hl13 hg13 hs13 hbx hl2 hib b0 z6
              cases ob
              · go_wp2_with fail
                go_roundw
                case rel => exact ⟨k + 1, A5, n5, c5, by omega, by simp, by rw [HST.out]; unfold lStep; rw [← HOB.out]; rfl, (HL2.out.set 0 _).set 1 _, by rw [HST.out]; exact HS13.out.off HL2.out (fun i h1 _ => (Below.heap_setCell _ ⟨x1.heap.size, 1, none⟩ _ i h1).trans (Below.heap_setCell _ ⟨x1.heap.size, 0, none⟩ _ i h1)), (HBX.out.setCell (p := ⟨x1.heap.size, 0, none⟩) (Nat.le_refl _) _).setCell (p := ⟨x1.heap.size, 1, none⟩) (Nat.le_refl _) _⟩
                case measure => simp [intOf]; omega
              · go_wp2_with fail
                go_roundw
                case rel => exact ⟨k + 1, A5, n5, c5, by omega, by simp, by rw [HST.out]; unfold lStep; rw [← HOB.out, ← HIB.out]; simp, (HL2.out.set 0 _).set 1 _, by rw [HST.out]; exact HS13.out.off HL2.out (fun i h1 _ => (Below.heap_setCell _ ⟨x1.heap.size, 1, none⟩ _ i h1).trans (Below.heap_setCell _ ⟨x1.heap.size, 0, none⟩ _ i h1)), (HBX.out.setCell (p := ⟨x1.heap.size, 0, none⟩) (Nat.le_refl _) _).setCell (p := ⟨x1.heap.size, 1, none⟩) (Nat.le_refl _) _⟩
                case measure => simp [intOf]; omega
          · obtain rfl : NA = k := by omega
            rw [HNA.out, List.take_length]
            obtain ⟨ow, how⟩ : ∃ b, b = (lAll lb la).2 := ⟨_, rfl⟩
            rw [← how, ← HNA.out]
            have HOw := Lib.hid how
            clear how g0 g1
            have HE := Lib.hid (HER.out ow ov (by rw [HOw.out]; exact lAll_ok lb la) (by rw [HOv.out]; exact lAll_ok la lb))
            have hkb := HKB.out.later HBr.out
            have a1 := HKL.out.cell 1
            have b1 := hkb.cell 1
            have HBW := HBw
            clear hkb HOv HOw HER HSX HL HBr HBw HKL HKB HC
            by_cases hv : va = vb
            · have hvb : (va == vb) = true := by simp [hv]
              by_cases pvb : 0 < vb
              · have hvbd : decide (0 < vb) = true := decide_eq_true pvb
                have hvad : decide (0 < va) = decide (0 < vb) := by rw [hv]
                rw [hvbd] at hvad
                cases ow <;> cases ov
                · have he := HE.out
                  rw [if_pos hv] at he
                  simp at he
                  go_wp2_with fail
                  go_ret
                  refine ⟨?_, HBW.out⟩
                  first | rfl | (show Ending.returned (.bool (!(er == 0))) = .returned (.bool true); simp [he]; done)
                · have he := HE.out
                  rw [if_pos hv] at he
                  simp at he
                  go_wp2_with fail
                  go_ret
                  refine ⟨?_, HBW.out⟩
                  first | rfl | (show Ending.returned (.bool (!(er == 0))) = .returned (.bool true); simp [he]; done)
                · have he := HE.out
                  rw [if_pos hv] at he
                  simp at he
                  go_wp2_with fail
                  go_ret
                  refine ⟨?_, HBW.out⟩
                  first | rfl | (show Ending.returned (.bool (!(er == 0))) = .returned (.bool true); simp [he]; done)
                · have he := HE.out
                  rw [if_pos hv] at he
                  simp at he
                  go_wp2_with fail
                  go_ret
                  refine ⟨?_, HBW.out⟩
                  first | rfl | (show Ending.returned (.bool (!(er == 0))) = .returned (.bool true); simp [he]; done)
              · have hvbd : decide (0 < vb) = false := decide_eq_false pvb
                have hvad : decide (0 < va) = decide (0 < vb) := by rw [hv]
                rw [hvbd] at hvad
                cases ow <;> cases ov
                · have he := HE.out
                  rw [if_pos hv] at he
                  simp at he
                  go_wp2_with fail
                  go_ret
                  refine ⟨?_, HBW.out⟩
                  first | rfl | (show Ending.returned (.bool (!(er == 0))) = .returned (.bool true); simp [he]; done)
                · have he := HE.out
                  rw [if_pos hv] at he
                  simp at he
                  go_wp2_with fail
                  go_ret
                  refine ⟨?_, HBW.out⟩
                  first | rfl | (show Ending.returned (.bool (!(er == 0))) = .returned (.bool true); simp [he]; done)
                · have he := HE.out
                  rw [if_pos hv] at he
                  simp at he
                  go_wp2_with fail
                  go_ret
                  refine ⟨?_, HBW.out⟩
                  first | rfl | (show Ending.returned (.bool (!(er == 0))) = .returned (.bool true); simp [he]; done)
                · have he := HE.out
                  rw [if_pos hv] at he
                  simp at he
                  go_wp2_with fail
                  go_ret
                  refine ⟨?_, HBW.out⟩
                  first | rfl | (show Ending.returned (.bool (!(er == 0))) = .returned (.bool true); simp [he]; done)
            · have hvb : (va == vb) = false := by simp [hv]
              by_cases pvb : 0 < vb
              · have hvbd : decide (0 < vb) = true := decide_eq_true pvb
                by_cases pva : 0 < va
                · have hvad : decide (0 < va) = true := decide_eq_true pva
                  cases ow <;> cases ov
                  · have he := HE.out
                    rw [if_neg hv, hvbd, hvad] at he
                    simp at he
                    go_wp2_with fail
                    go_ret
                    refine ⟨?_, HBW.out⟩
                    first | rfl | (show Ending.returned (.bool (!(er == 0))) = .returned (.bool true); simp [he]; done)
                  · have he := HE.out
                    rw [if_neg hv, hvbd, hvad] at he
                    simp at he
                    go_wp2_with fail
                    go_ret
                    refine ⟨?_, HBW.out⟩
                    first | rfl | (show Ending.returned (.bool (!(er == 0))) = .returned (.bool true); simp [he]; done)
                  · have he := HE.out
                    rw [if_neg hv, hvbd, hvad] at he
                    simp at he
                    go_wp2_with fail
                    go_ret
                    refine ⟨?_, HBW.out⟩
                    first | rfl | (show Ending.returned (.bool (!(er == 0))) = .returned (.bool true); simp [he]; done)
                  · have he := HE.out
                    rw [if_neg hv, hvbd, hvad] at he
                    simp at he
                    go_wp2_with fail
                    go_ret
                    refine ⟨?_, HBW.out⟩
                    first | rfl | (show Ending.returned (.bool (!(er == 0))) = .returned (.bool true); simp [he]; done)
                · have hvad : decide (0 < va) = false := decide_eq_false pva
                  cases ow <;> cases ov
                  · have he := HE.out
                    rw [if_neg hv, hvbd, hvad] at he
                    simp at he
                    go_wp2_with fail
                    go_ret
                    refine ⟨?_, HBW.out⟩
                    first | rfl | (show Ending.returned (.bool (!(er == 0))) = .returned (.bool true); simp [he]; done)
                  · have he := HE.out
                    rw [if_neg hv, hvbd, hvad] at he
                    simp at he
                    go_wp2_with fail
                    go_ret
                    refine ⟨?_, HBW.out⟩
                    first | rfl | (show Ending.returned (.bool (!(er == 0))) = .returned (.bool true); simp [he]; done)
                  · have he := HE.out
                    rw [if_neg hv, hvbd, hvad] at he
                    simp at he
                    go_wp2_with fail
                    go_ret
                    refine ⟨?_, HBW.out⟩
                    first | rfl | (show Ending.returned (.bool (!(er == 0))) = .returned (.bool true); simp [he]; done)
                  · have he := HE.out
                    rw [if_neg hv, hvbd, hvad] at he
                    simp at he
                    go_wp2_with fail
                    go_ret
                    refine ⟨?_, HBW.out⟩
                    first | rfl | (show Ending.returned (.bool (!(er == 0))) = .returned (.bool true); simp [he]; done)
              · have hvbd : decide (0 < vb) = false := decide_eq_false pvb
                by_cases pva : 0 < va
                · have hvad : decide (0 < va) = true := decide_eq_true pva
                  cases ow <;> cases ov
                  · have he := HE.out
                    rw [if_neg hv, hvbd, hvad] at he
                    simp at he
                    go_wp2_with fail
                    go_ret
                    refine ⟨?_, HBW.out⟩
                    first | rfl | (show Ending.returned (.bool (!(er == 0))) = .returned (.bool true); simp [he]; done)
                  · have he := HE.out
                    rw [if_neg hv, hvbd, hvad] at he
                    simp at he
                    go_wp2_with fail
                    go_ret
                    refine ⟨?_, HBW.out⟩
                    first | rfl | (show Ending.returned (.bool (!(er == 0))) = .returned (.bool true); simp [he]; done)
                  · have he := HE.out
                    rw [if_neg hv, hvbd, hvad] at he
                    simp at he
                    go_wp2_with fail
                    go_ret
                    refine ⟨?_, HBW.out⟩
                    first | rfl | (show Ending.returned (.bool (!(er == 0))) = .returned (.bool true); simp [he]; done)
                  · have he := HE.out
                    rw [if_neg hv, hvbd, hvad] at he
                    simp at he
                    go_wp2_with fail
                    go_ret
                    refine ⟨?_, HBW.out⟩
                    first | rfl | (show Ending.returned (.bool (!(er == 0))) = .returned (.bool true); simp [he]; done)
                · have hvad : decide (0 < va) = false := decide_eq_false pva
                  cases ow <;> cases ov
                  · have he := HE.out
                    rw [if_neg hv, hvbd, hvad] at he
                    simp at he
                    go_wp2_with fail
                    go_ret
                    refine ⟨?_, HBW.out⟩
                    first | rfl | (show Ending.returned (.bool (!(er == 0))) = .returned (.bool true); simp [he]; done)
                  · have he := HE.out
                    rw [if_neg hv, hvbd, hvad] at he
                    simp at he
                    go_wp2_with fail
                    go_ret
                    refine ⟨?_, HBW.out⟩
                    first | rfl | (show Ending.returned (.bool (!(er == 0))) = .returned (.bool true); simp [he]; done)
                  · have he := HE.out
                    rw [if_neg hv, hvbd, hvad] at he
                    simp at he
                    go_wp2_with fail
                    go_ret
                    refine ⟨?_, HBW.out⟩
                    first | rfl | (show Ending.returned (.bool (!(er == 0))) = .returned (.bool true); simp [he]; done)
                  · have he := HE.out
                    rw [if_neg hv, hvbd, hvad] at he
                    simp at he
                    go_wp2_with fail
                    go_ret
                    refine ⟨?_, HBW.out⟩
                    first | rfl | (show Ending.returned (.bool (!(er == 0))) = .returned (.bool true); simp [he]; done)
end Go.Proofs.YtpooocfogpileaaGreat
