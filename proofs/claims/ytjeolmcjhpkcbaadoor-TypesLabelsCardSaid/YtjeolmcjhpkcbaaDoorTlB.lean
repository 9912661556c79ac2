/- The walk of the law TypesLabels. -/
import Derived.Test.YtjeolmcjhpkcbaaDoorTlA
import Derived.Test.YtjeolmcjhpkcbaaDoorTsC
import Derived.Outline
namespace Go.Proofs.YtjeolmcjhpkcbaaDoor
open Go.RowKit Go.Shelf Go.Sort

theorem calm_cases (L : List Str) (rv : Int) (s : Str) : (calmR L rv = false ∧ calmR (sortS (L ++ [s])) rv = false) ∨ (calmR L rv = true ∧ s = conB ∧ calmR (sortS (L ++ [s])) rv = true) ∨ (calmR L rv = true ∧ s ≠ conB ∧ calmR (sortS (L ++ [s])) rv = false) := by
  rw [calm_add]
  by_cases h : s = conB
  · cases hc : calmR L rv
    · exact .inl ⟨rfl, by simp⟩
    · exact .inr (.inl ⟨rfl, h, by simp [h]⟩)
  · cases hc : calmR L rv
    · exact .inl ⟨rfl, by simp⟩
    · exact .inr (.inr ⟨rfl, h, by simp [h]⟩)

set_option maxRecDepth 100000 in
set_option maxHeartbeats 8000000 in


theorem typesLabels_any (u : Value) (ls : List Str) (rv : Int) (s : Str) (w : World) (hv : Strs w u ls) (hf : Fm u) :
    Calls Tryd.prog 5 #[.agg #[u, .int .i64 rv], .string (ba s)] w (Yes w) := by
  have hv0 := hv
  obtain ⟨A, c, rfl, hlc, hm0⟩ := hv.slice
  have hl0 : ls.length ≤ 9223372036854775807 := by unfold maxLen at hm0; omega
  have hm : (min (ls.length : Int) ((100 : Nat) : Int)).toNat = (ls.take 100).length := by rw [List.length_take]; omega
  have hb1 := hv0.cut 100
  have hL : (ls.take 100).length ≤ 100 := by rw [List.length_take]; omega
  have hLc : (ls.take 100).length ≤ c := by rw [List.length_take]; omega
  have hLl : (ls.take 100).length ≤ ls.length := by rw [List.length_take]; omega
  generalize ls.take 100 = L at hm hb1 hL hLc hLl
  have hM3 : min (ls.length : Int) 100 = (L.length : Int) := by omega
  have HM := Lib.hid hM3
  have HB1 := Lib.hid hb1
  clear hm hv0 hv hb1 hf hM3
  have hbn0 := below_new w (.cells #[.slice A ls.length c, .int .i64 rv] 25)
  have n0 := Lies.new w 25 #[.slice A ls.length c, .int .i64 rv]
  go_enter Tryd.func5, Tryd.ntmps5
  go_wp2_with fail
  refine (shown_any _).mono ?_
  rintro e w1 ⟨rfl, hB1⟩
  have n1 := n0.later hB1
  have c0 := n1.cell 0
  have c1 := n1.cell 1
  have f0 := n1.free 0
  have hB01 := hbn0.trans (hB1.mono hbn0.size)
  have hlt1 := n1.lt
  have k2 := n1.set 0 (.slice A L.length c)
  have hB02 := hB01.setCell (p := ⟨w.heap.size, 0, none⟩) (Nat.le_refl _) (.slice A L.length c)
  have hst2 := HB1.out.later hB02
  obtain ⟨w2, hw2⟩ : ∃ w2, w2 = w1.setCell ⟨w.heap.size, 0, none⟩ (.slice A L.length c) := ⟨_, rfl⟩
  rw [← hw2] at k2 hB02 hst2
  have hr2 := rightRow_any _ L rv w2 hst2 (by omega)
  have HR2 := Lib.hid hr2
  have HW2 := Lib.hid hw2
  have HK2 := Lib.hid k2
  have HST2 := Lib.hid hst2
  have HB02 := Lib.hid hB02
  clear hr2 hw2 k2 hst2 hB02 n0 hbn0 n1 hB1 hB01
  go_wp2_with fail
  rw [HM.out, Int.toNat_natCast, ← HW2.out]
  refine HR2.out.mono ?_
  rintro e w3 ⟨rfl, hB3⟩
  have hB03 := HB02.out.trans (hB3.mono HB02.out.size)
  cases hok : rowOk L rv with
  | false =>
    clear hok
    go_wp2
    go_ret
    exact ⟨rfl, hB03⟩
  | true =>
    by_cases hse : s = []
    · have hbs : (ba s).toList.isEmpty = true := by rw [ba_toList, hse]; rfl
      clear hse hok
      go_wp2
      go_ret
      exact ⟨rfl, hB03⟩
    · have hbs : (ba s).toList.isEmpty = false := by rw [ba_toList]; cases s with | nil => exact absurd rfl hse | cons _ _ => rfl
      have hM1 := add_ok hok hse
      have hM2 := add_less hok s
      have hM4 := add_len L s
      have hM5 := add_mem L s
      have hM6 := calm_cases L rv s
      have hM7 : calmR (sortS (L ++ [conB])) rv = calmR L rv := by rw [calm_add]; simp
      obtain ⟨M, hMd⟩ : ∃ M, M = sortS (L ++ [s]) := ⟨_, rfl⟩
      rw [← hMd] at hM1 hM2 hM4 hM5 hM6
      have hst3 := HST2.out.later hB3
      have k3 := HK2.out.later hB3
      have hadd := add_any _ L rv s w3 hst3 (by omega)
      rw [← hMd] at hadd
      have d0 := k3.cell 0
      have d1 := k3.cell 1
      have HADD := Lib.hid hadd
      have HM1 := Lib.hid hM1
      have HM2 := Lib.hid hM2
      have HM5 := Lib.hid hM5
      have HM6 := Lib.hid hM6
      have HM7 := Lib.hid hM7
      have HST3 := Lib.hid hst3
      have HK3 := Lib.hid k3
      have HSE := Lib.hid hse
      have hlM : M.length ≤ 1000 := by omega
      have HM4 := Lib.hid hM4
      clear hadd hM4 hM1 hM2 hM5 hM6 hM7 hst3 k3 hse hok hMd
      go_wp2_with fail
      refine HADD.out.mono ?_
      rintro e w4 ⟨vm, rfl, ho4, hb4⟩
      obtain ⟨gm, cm, rfl⟩ := own_shape ho4 (HM4.out : _ = L.length + 1)
      obtain ⟨w5, hw5⟩ : ∃ w5, w5 = w4.alloc (.cells #[.slice (some ⟨gm, 0, none⟩) (L.length + 1) cm, .int .i64 rv] 25) := ⟨_, rfl⟩
      have hb5 : Below w4.heap.size w4 w5 := by rw [hw5]; exact below_new _ _
      have n5 : Lies w5 w4.heap.size 25 #[.slice (some ⟨gm, 0, none⟩) (L.length + 1) cm, .int .i64 rv] := by rw [hw5]; exact Lies.new _ _ _
      have hB35 : Below w3.heap.size w3 w5 := hb4.trans (hb5.mono hb4.size)
      have sm5 : Strs w5 (.slice (some ⟨gm, 0, none⟩) (L.length + 1) cm) M := ho4.strs.later hb5
      have hls := lessRow_any _ M rv s w5 sm5 hlM
      rw [HM2.out, decide_eq_true HM5.out] at hls
      have HLS := Lib.hid hls
      have HW5 := Lib.hid hw5
      have HN5 := Lib.hid n5
      have HB35 := Lib.hid hB35
      have HSM5 := Lib.hid sm5
      have hs5 : w5.heap.size = w4.heap.size + 1 := by rw [hw5]; simp
      have HS5 := Lib.hid hs5
      clear hls hw5 n5 hB35 sm5 ho4 hb5 hs5
      unfold rowV
      go_wp2_with fail
      rw [← HW5.out]
      refine HLS.out.mono ?_
      rintro e w6 ⟨vb, rfl, ho6, hb6⟩
      obtain ⟨gb, cb, rfl⟩ := own_shape ho6 (rfl : _ = L.length)
      obtain ⟨w7, hw7⟩ : ∃ w7, w7 = w6.alloc (.cells #[.slice (some ⟨gb, 0, none⟩) L.length cb, .int .i64 rv] 25) := ⟨_, rfl⟩
      have hb7 : Below w6.heap.size w6 w7 := by rw [hw7]; exact below_new _ _
      have n7 : Lies w7 w6.heap.size 25 #[.slice (some ⟨gb, 0, none⟩) L.length cb, .int .i64 rv] := by rw [hw7]; exact Lies.new _ _ _
      have hB57 : Below w5.heap.size w5 w7 := hb6.trans (hb7.mono hb6.size)
      have hB37 : Below w3.heap.size w3 w7 := HB35.out.trans (hB57.mono HB35.out.size)
      have hB07 : Below w.heap.size w w7 := hB03.trans (hB37.mono hB03.size)
      have sb7 : Strs w7 (.slice (some ⟨gb, 0, none⟩) L.length cb) L := ho6.strs.later hb7
      have sm7 := HSM5.out.later hB57
      have sr7 := HST3.out.later hB37
      have m7 := HN5.out.later hB57
      have r7 := HK3.out.later hB37
      have x0 := m7.cell 0
      have x1 := m7.cell 1
      have y0 := n7.cell 0
      have y1 := n7.cell 1
      have z0 := r7.cell 0
      have z1 := r7.cell 1
      have hS7 : w7.cell? ⟨w.heap.size, 0, none⟩ = some (.slice A L.length c) ∧ w7.cell? ⟨w.heap.size, 1, none⟩ = some (.int .i64 rv) ∧ w7.cell? ⟨w4.heap.size, 0, none⟩ = some (.slice (some ⟨gm, 0, none⟩) (L.length + 1) cm) ∧ w7.cell? ⟨w4.heap.size, 1, none⟩ = some (.int .i64 rv) ∧ w7.cell? ⟨w6.heap.size, 0, none⟩ = some (.slice (some ⟨gb, 0, none⟩) L.length cb) ∧ w7.cell? ⟨w6.heap.size, 1, none⟩ = some (.int .i64 rv) := ⟨z0, z1, x0, x1, y0, y1⟩
      have hRM := rightRow_any _ M rv w7 sm7 (by omega)
      rw [HM1.out] at hRM
      have HRM := Lib.hid hRM
      have HW7 := Lib.hid hw7
      have HS7 := Lib.hid hS7
      have HSB7 := Lib.hid sb7
      have HSM7 := Lib.hid sm7
      have HSR7 := Lib.hid sr7
      have HB07 := Lib.hid hB07
      clear hRM hw7 hS7 sb7 sm7 sr7 hB07 m7 n7 r7 hB57 hB37 ho6 hb7 hb6 hb4 hB03 d0 d1 c0 c1 f0 x0 x1 y0 y1 z0 z1 hB3
      unfold rowV
      have hS8 := HS7.out
      rw [HW7.out] at hS8
      obtain ⟨z0, z1, x0, x1, y0, y1⟩ := hS8
      go_wp2_with fail
      rw [← HW7.out]
      refine HRM.out.mono ?_
      rintro e w8 ⟨rfl, hb8⟩
      have hSR := sameRow_any _ _ L L rv rv w8 (HSB7.out.later hb8) (HSR7.out.later hb8) (by omega) (by omega)
      rw [show decide (rv = rv ∧ L = L) = true by simp] at hSR
      have HSR := Lib.hid hSR
      clear z0 z1 x0 x1 y0 y1 hSR
      obtain ⟨z0, z1, x0, x1, y0, y1, _⟩ := keepS HS7.out hb8
      go_wp2_with fail
      refine HSR.out.mono ?_
      rintro e w9 ⟨rfl, hb9⟩
      have hb79 := hb8.trans (hb9.mono hb8.size)
      have hS9 := keepS HS7.out hb79
      have hS9 : w9.cell? ⟨w.heap.size, 0, none⟩ = some (.slice A L.length c) ∧ w9.cell? ⟨w.heap.size, 1, none⟩ = some (.int .i64 rv) ∧ w9.cell? ⟨w4.heap.size, 0, none⟩ = some (.slice (some ⟨gm, 0, none⟩) (L.length + 1) cm) ∧ w9.cell? ⟨w4.heap.size, 1, none⟩ = some (.int .i64 rv) ∧ w9.cell? ⟨w6.heap.size, 0, none⟩ = some (.slice (some ⟨gb, 0, none⟩) L.length cb) ∧ w9.cell? ⟨w6.heap.size, 1, none⟩ = some (.int .i64 rv) := ⟨hS9.1, hS9.2.1, hS9.2.2.1, hS9.2.2.2.1, hS9.2.2.2.2.1, hS9.2.2.2.2.2.1⟩
      have HS9 := Lib.hid hS9
      have HB79 := Lib.hid hb79
      clear z0 z1 x0 x1 y0 y1 hb79 hb9 hb8
      obtain ⟨z0, z1, x0, x1, y0, y1⟩ := hS9
      have hcM : ∀ W, Below w9.heap.size w9 W → Calls Tryd.prog 22 #[.agg #[.slice (some ⟨gm, 0, none⟩) (L.length + 1) cm, .int .i64 rv]] W fun e w' => e = .returned (.bool (calmR M rv)) ∧ Below w9.heap.size w9 w' := fun W hW => (calm_any _ M rv W ((HSM7.out.later HB79.out).later hW) (by omega)).mono fun e w' h => ⟨h.1, hW.trans (h.2.mono hW.size)⟩
      have hcL : ∀ W, Below w9.heap.size w9 W → Calls Tryd.prog 22 #[.agg #[.slice A L.length c, .int .i64 rv]] W fun e w' => e = .returned (.bool (calmR L rv)) ∧ Below w9.heap.size w9 w' := fun W hW => (calm_any _ L rv W ((HSR7.out.later HB79.out).later hW) (by omega)).mono fun e w' h => ⟨h.1, hW.trans (h.2.mono hW.size)⟩
      have hcs := HM6.out
      rcases hcs with ⟨h1, h2⟩ | ⟨h1, h3, h2⟩ | ⟨h1, h3, h2⟩
      rw [h1] at hcL
      rw [h2] at hcM
      focus go_wp2
      refine wp_region_held_drew (S := fun w' => w'.cell? ⟨w.heap.size, 0, none⟩ = some (.slice A L.length c) ∧ w'.cell? ⟨w.heap.size, 1, none⟩ = some (.int .i64 rv) ∧ w'.cell? ⟨w4.heap.size, 0, none⟩ = some (.slice (some ⟨gm, 0, none⟩) (L.length + 1) cm) ∧ w'.cell? ⟨w4.heap.size, 1, none⟩ = some (.int .i64 rv) ∧ w'.cell? ⟨w6.heap.size, 0, none⟩ = some (.slice (some ⟨gb, 0, none⟩) L.length cb) ∧ w'.cell? ⟨w6.heap.size, 1, none⟩ = some (.int .i64 rv) ∧ Below w9.heap.size w9 w') (by kernel_rfl) ?_ (fun hHeld => ?_)
      · exact keepS HS9.out (Below.refl _ _).drew
      refine wpAnyH_take (i := 0) (oi := ⟨some 62, _, _, _, _, _⟩) (v := ?_) rfl (by kernel_rfl) (by kernel_rfl) (by kernel_rfl) (fun _ _ _ h => h) (Or.inl ⟨by kernel_rfl, ?_⟩) (by assumption) ?_
      rotate_left
      · (intro w' hSw; (try dsimp only at hSw); go_split_ands; go_simp; first | done | with_reducible rfl)
      try simp only [Act.put, List.setIfInBounds_toArray, List.set_cons_zero, List.set_cons_succ]
      refine wpAnyH_take (i := 2) (oi := ⟨some 64, _, _, _, _, _⟩) (v := ?_) rfl (by kernel_rfl) (by kernel_rfl) (by kernel_rfl) (fun _ _ _ h => h) (Or.inl ⟨by kernel_rfl, ?_⟩) (by assumption) ?_
      rotate_left
      · (intro w' hSw; (try dsimp only at hSw); go_split_ands; go_simp; first | done | with_reducible rfl)
      try simp only [Act.put, List.setIfInBounds_toArray, List.set_cons_zero, List.set_cons_succ]
      refine wpAnyH_ready (rs := [1]) (by kernel_rfl) (by simp) ?_
      refine AllReadyH.cons (o := ⟨some 63, _, _, _, _, _⟩) rfl (fun K hK => ?_) AllReadyH.nil
      (go_simp; go_at_call 22; refine (hcM _ (Below.refl _ _).drew).mono ?_; rintro e v1 ⟨rfl, b1⟩)
      refine hK.out _ _ ?_ (fun hHeld => ?_)
      · exact keepS HS9.out b1
      clear hK K
      try simp only [Act.put, List.setIfInBounds_toArray, List.set_cons_zero, List.set_cons_succ]
      refine wpAnyH_ready (rs := [3]) (by kernel_rfl) (by simp) ?_
      refine AllReadyH.cons (o := ⟨some 65, _, _, _, _, _⟩) rfl (fun K hK => ?_) AllReadyH.nil
      (go_simp; go_at_call 22; refine (hcL _ b1).mono ?_; rintro e v2 ⟨rfl, b2⟩)
      refine hK.out _ _ ?_ (fun hHeld => ?_)
      · exact keepS HS9.out b2
      clear hK K
      try simp only [Act.put, List.setIfInBounds_toArray, List.set_cons_zero, List.set_cons_succ]
      refine wpAnyH_take (i := 4) (oi := ⟨some 66, _, _, _, _, _⟩) (v := ?_) rfl (by kernel_rfl) (by kernel_rfl) (by kernel_rfl) (fun _ _ _ h => h) (Or.inl ⟨by kernel_rfl, ?_⟩) (by assumption) ?_
      rotate_left
      · (intro w' hSw; (try dsimp only at hSw); go_split_ands; go_simp; first | done | with_reducible rfl)
      try simp only [Act.put, List.setIfInBounds_toArray, List.set_cons_zero, List.set_cons_succ]
      refine wpAnyH_take (i := 5) (oi := ⟨some 67, _, _, _, _, _⟩) (v := undef) rfl (by kernel_rfl) (by kernel_rfl) (by kernel_rfl) (fun _ _ _ h => h) (Or.inr ⟨by kernel_rfl, rfl⟩) (by assumption) ?_
      try simp only [Act.put, List.setIfInBounds_toArray, List.set_cons_zero, List.set_cons_succ]
      refine wpAnyH_take (i := 6) (oi := ⟨some 68, _, _, _, _, _⟩) (v := undef) rfl (by kernel_rfl) (by kernel_rfl) (by kernel_rfl) (fun _ _ _ h => h) (Or.inr ⟨by kernel_rfl, rfl⟩) (by assumption) ?_
      try simp only [Act.put, List.setIfInBounds_toArray, List.set_cons_zero, List.set_cons_succ]
      refine wpAnyH_take (i := 7) (oi := ⟨some 69, _, _, _, _, _⟩) (v := ?_) rfl (by kernel_rfl) (by kernel_rfl) (by kernel_rfl) (fun _ _ _ h => h) (Or.inl ⟨by kernel_rfl, ?_⟩) (by assumption) ?_
      rotate_left
      · (intro w' hSw; (try dsimp only at hSw); go_split_ands; go_simp; first | done | with_reducible rfl)
      try simp only [Act.put, List.setIfInBounds_toArray, List.set_cons_zero, List.set_cons_succ]
      refine wpAnyH_take (i := 8) (oi := ⟨some 70, _, _, _, _, _⟩) (v := ?_) rfl (by kernel_rfl) (by kernel_rfl) (by kernel_rfl) (fun _ _ _ h => h) (Or.inl ⟨by kernel_rfl, ?_⟩) (by assumption) ?_
      rotate_left
      · (intro w' hSw; (try dsimp only at hSw); go_split_ands; go_simp; first | done | with_reducible rfl)
      try simp only [Act.put, List.setIfInBounds_toArray, List.set_cons_zero, List.set_cons_succ]
      refine wpAnyH_done (by kernel_rfl) ?_ _
      clear h1 h2
      rotate_left
      rw [h1] at hcL
      rw [h2] at hcM
      have hcon : ((ba s).toList == [99, 111, 110, 115, 111, 108, 101]) = true := by rw [ba_toList, h3]; rfl
      clear h3
      focus go_wp2
      focus go_region_held3 (fun w' => w'.cell? ⟨w.heap.size, 0, none⟩ = some (.slice A L.length c) ∧ w'.cell? ⟨w.heap.size, 1, none⟩ = some (.int .i64 rv) ∧ w'.cell? ⟨w4.heap.size, 0, none⟩ = some (.slice (some ⟨gm, 0, none⟩) (L.length + 1) cm) ∧ w'.cell? ⟨w4.heap.size, 1, none⟩ = some (.int .i64 rv) ∧ w'.cell? ⟨w6.heap.size, 0, none⟩ = some (.slice (some ⟨gb, 0, none⟩) L.length cb) ∧ w'.cell? ⟨w6.heap.size, 1, none⟩ = some (.int .i64 rv) ∧ Below w9.heap.size w9 w')
        (first | exact keepS HS9.out (Below.refl _ _).drew | exact keepS HS9.out b2 | exact keepS HS9.out b1)
        (first | (go_at_call 22; refine (hcL _ b1).mono ?_; rintro e v2 ⟨rfl, b2⟩) | (go_at_call 22; refine (hcM _ (Below.refl _ _).drew).mono ?_; rintro e v1 ⟨rfl, b1⟩))
      clear h1 h2 hcon
      rotate_left
      rw [h1] at hcL
      rw [h2] at hcM
      have hcon : ((ba s).toList == [99, 111, 110, 115, 111, 108, 101]) = false := by rw [ba_toList]; exact beq_false_of_ne h3
      clear h3
      focus go_wp2
      focus go_region_held3 (fun w' => w'.cell? ⟨w.heap.size, 0, none⟩ = some (.slice A L.length c) ∧ w'.cell? ⟨w.heap.size, 1, none⟩ = some (.int .i64 rv) ∧ w'.cell? ⟨w4.heap.size, 0, none⟩ = some (.slice (some ⟨gm, 0, none⟩) (L.length + 1) cm) ∧ w'.cell? ⟨w4.heap.size, 1, none⟩ = some (.int .i64 rv) ∧ w'.cell? ⟨w6.heap.size, 0, none⟩ = some (.slice (some ⟨gb, 0, none⟩) L.length cb) ∧ w'.cell? ⟨w6.heap.size, 1, none⟩ = some (.int .i64 rv) ∧ Below w9.heap.size w9 w')
        (first | exact keepS HS9.out (Below.refl _ _).drew | exact keepS HS9.out b2 | exact keepS HS9.out b1)
        (first | (go_at_call 22; refine (hcL _ b1).mono ?_; rintro e v2 ⟨rfl, b2⟩) | (go_at_call 22; refine (hcM _ (Below.refl _ _).drew).mono ?_; rintro e v1 ⟨rfl, b1⟩))
      clear h1 h2 hcon
      rotate_left
      all_goals (
        obtain ⟨z0, z1, x0, x1, y0, y1, _⟩ := keepS HS9.out b2
        have hsv := (HSR7.out.later HB79.out).later b2
        have HSV := Lib.hid hsv
        have hBv : Below w.heap.size w v2 := (HB07.out.trans (HB79.out.mono HB07.out.size)).trans (b2.mono (by have h1 := HB07.out.size; have h2 := HB79.out.size; omega))
        have HBV := Lib.hid hBv
        clear hsv hBv
        focus go_wp2_with fail
        focus go_loop [9, 10] (fun h i => ∃ k : Nat, k ≤ L.length ∧ h = .bool (decide (s ∈ L.take k)) ∧ i = .int .i64 k) (fun _ i => L.length - (intOf i).toNat)
        focus case atStart => exact ⟨0, Nat.zero_le _, by simp, rfl⟩
        focus case round =>
          obtain ⟨k, hk, rfl, rfl⟩ := hrel
          by_cases hlt : k < L.length
          · obtain ⟨x, hx⟩ : ∃ x, L[k]? = some x := ⟨_, List.getElem?_eq_getElem hlt⟩
            have htk := take_step L k x hx
            obtain ⟨A', c', h1, _, _, h4⟩ := HSV.out
            obtain ⟨g, o, h5, h6⟩ := h4 (by omega)
            injection h1 with h1
            subst h1 h5
            have hc1 : v2.cell? ⟨g, o + k, none⟩ = some (.string (ba x)) := h6 k x hx
            clear h4 h6 hx
            have hlti : (k : Int) < (L.length : Int) := by omega
            cases hd : decide (s ∈ L.take k) with
            | true =>
              have hm2 : decide (s ∈ L.take (k + 1)) = true := by rw [htk]; exact decide_eq_true (List.mem_append_left _ (of_decide_eq_true hd))
              clear hd htk
              focus go_wp2
              go_round
              case rel => exact ⟨k + 1, by omega, by rw [hm2], by go_num⟩
              case measure => simp [intOf]; omega
            | false =>
              have hm2 : decide (s ∈ L.take (k + 1)) = ((ba x).toList == (ba s).toList) := by
                rw [htk, ba_toList, ba_toList]
                have hd := of_decide_eq_false hd
                by_cases h : x = s
                · rw [h, beq_self_eq_true]
                  exact decide_eq_true (by simp)
                · rw [beq_false_of_ne h]
                  refine decide_eq_false fun hm => ?_
                  rcases List.mem_append.1 hm with hm | hm
                  · exact hd hm
                  · exact h (List.mem_singleton.1 hm).symm
              clear hd htk
              focus go_wp2
              go_round
              case rel => exact ⟨k + 1, by omega, by rw [hm2], by go_num⟩
              case measure => simp [intOf]; omega
          · obtain rfl : k = L.length := by omega
            rw [List.take_length]
            have hle := lessRow_any _ L rv s v2 HSV.out (by omega)
            have HLE := Lib.hid hle
            clear hle hcM hcL
            go_wp2_with fail
            refine HLE.out.mono ?_
            rintro e w10 ⟨vl, rfl, ho10, hb10⟩
            obtain ⟨gl, cl, rfl⟩ := own_shape ho10 (rfl : _ = (lessL L s).length)
            obtain ⟨w11, hw11⟩ : ∃ w11, w11 = w10.alloc (.cells #[.slice (some ⟨gl, 0, none⟩) (lessL L s).length cl, .int .i64 rv] 25) := ⟨_, rfl⟩
            have hb11 : Below w10.heap.size w10 w11 := by rw [hw11]; exact below_new _ _
            have n11 : Lies w11 w10.heap.size 25 #[.slice (some ⟨gl, 0, none⟩) (lessL L s).length cl, .int .i64 rv] := by rw [hw11]; exact Lies.new _ _ _
            have hBv11 : Below v2.heap.size v2 w11 := hb10.trans (hb11.mono hb10.size)
            have sr11 := HSV.out.later hBv11
            have sl11 := ho10.strs.later hb11
            have hS9 := keepS ⟨z0, z1, z0, z1, z0, z1⟩ hBv11
            have hS11 : w11.cell? ⟨w.heap.size, 0, none⟩ = some (.slice A L.length c) ∧ w11.cell? ⟨w.heap.size, 1, none⟩ = some (.int .i64 rv) ∧ w11.cell? ⟨w10.heap.size, 0, none⟩ = some (.slice (some ⟨gl, 0, none⟩) (lessL L s).length cl) ∧ w11.cell? ⟨w10.heap.size, 1, none⟩ = some (.int .i64 rv) ∧ w11.cell? ⟨w.heap.size, 0, none⟩ = some (.slice A L.length c) ∧ w11.cell? ⟨w.heap.size, 1, none⟩ = some (.int .i64 rv) := ⟨hS9.1, hS9.2.1, n11.cell 0, n11.cell 1, hS9.1, hS9.2.1⟩
            have HS11 := Lib.hid hS11
            have hBend : Below w.heap.size w w11 := HBV.out.trans (hBv11.mono HBV.out.size)
            have hA : ∀ W, Below w11.heap.size w11 W → Calls Tryd.prog 19 #[.agg #[.slice A L.length c, .int .i64 rv], .string ⟨#[99, 111, 110, 115, 111, 108, 101]⟩] W fun e w' => ∃ g' c', e = .returned (.agg #[.slice (some ⟨g', 0, none⟩) (L.length + 1) c', .int .i64 rv]) ∧ Strs w' (.slice (some ⟨g', 0, none⟩) (L.length + 1) c') (sortS (L ++ [conB])) ∧ Below w11.heap.size w11 w' := fun W hW => (add_any _ L rv conB W (sr11.later hW) (by omega)).mono fun e w' ⟨v', h1, h2, h3⟩ => by
              obtain ⟨g', c', rfl⟩ := own_shape h2 (add_len L conB)
              exact ⟨g', c', h1, h2.strs, hW.trans (h3.mono hW.size)⟩
            have hC1 : ∀ W g' c', Strs W (.slice (some ⟨g', 0, none⟩) (L.length + 1) c') (sortS (L ++ [conB])) → Below w11.heap.size w11 W → Calls Tryd.prog 22 #[.agg #[.slice (some ⟨g', 0, none⟩) (L.length + 1) c', .int .i64 rv]] W fun e w' => e = .returned (.bool (calmR L rv)) ∧ Below w11.heap.size w11 w' := fun W g' c' hs hW => (calm_any _ _ rv W hs (by rw [add_len]; omega)).mono fun e w' h => ⟨by rw [h.1, HM7.out], hW.trans (h.2.mono hW.size)⟩
            have hC2 : ∀ W, Below w11.heap.size w11 W → Calls Tryd.prog 22 #[.agg #[.slice A L.length c, .int .i64 rv]] W fun e w' => e = .returned (.bool (calmR L rv)) ∧ Below w11.heap.size w11 w' := fun W hW => (calm_any _ L rv W (sr11.later hW) (by omega)).mono fun e w' h => ⟨h.1, hW.trans (h.2.mono hW.size)⟩
            have HW11 := Lib.hid hw11
            clear z0 z1 x0 x1 y0 y1 hS9 hS11 hw11 n11 hb10 hb11 ho10 hBv11 hlt
            cases hd : decide (s ∈ L) with
            | true =>
              clear hd
              unfold rowV
              go_wp2
              rw [← HW11.out]
              refine wp_region_held_drew (S := fun w' => w'.cell? ⟨w.heap.size, 0, none⟩ = some (.slice A L.length c) ∧ w'.cell? ⟨w.heap.size, 1, none⟩ = some (.int .i64 rv) ∧ w'.cell? ⟨w10.heap.size, 0, none⟩ = some (.slice (some ⟨gl, 0, none⟩) (lessL L s).length cl) ∧ w'.cell? ⟨w10.heap.size, 1, none⟩ = some (.int .i64 rv) ∧ w'.cell? ⟨w.heap.size, 0, none⟩ = some (.slice A L.length c) ∧ w'.cell? ⟨w.heap.size, 1, none⟩ = some (.int .i64 rv) ∧ Below w11.heap.size w11 w') (by kernel_rfl) ?_ (fun hHeld => ?_)
              · exact keepS HS11.out (Below.refl _ _).drew
              refine wpAnyH_take (i := 0) (oi := ⟨some 94, _, _, _, _, _⟩) (v := ?_) rfl (by kernel_rfl) (by kernel_rfl) (by kernel_rfl) (fun _ _ _ h => h) (Or.inl ⟨by kernel_rfl, ?_⟩) (by assumption) ?_
              rotate_left
              · (intro w' hSw; (try dsimp only at hSw); go_split_ands; go_simp; first | done | with_reducible rfl)
              try simp only [Act.put, List.setIfInBounds_toArray, List.set_cons_zero, List.set_cons_succ]
              refine wpAnyH_take (i := 1) (oi := ⟨some 95, _, _, _, _, _⟩) (v := ?_) rfl (by kernel_rfl) (by kernel_rfl) (by kernel_rfl) (fun _ _ _ h => h) (Or.inl ⟨by kernel_rfl, ?_⟩) (by assumption) ?_
              rotate_left
              · (intro w' hSw; (try dsimp only at hSw); go_split_ands; go_simp; first | done | with_reducible rfl)
              try simp only [Act.put, List.setIfInBounds_toArray, List.set_cons_zero, List.set_cons_succ]
              refine wpAnyH_take (i := 2) (oi := ⟨some 96, _, _, _, _, _⟩) (v := ?_) rfl (by kernel_rfl) (by kernel_rfl) (by kernel_rfl) (fun _ _ _ h => h) (Or.inl ⟨by kernel_rfl, ?_⟩) (by assumption) ?_
              rotate_left
              · (intro w' hSw; (try dsimp only at hSw); go_split_ands; go_simp; first | done | with_reducible rfl)
              try simp only [Act.put, List.setIfInBounds_toArray, List.set_cons_zero, List.set_cons_succ]
              refine wpAnyH_take (i := 3) (oi := ⟨some 97, _, _, _, _, _⟩) (v := ?_) rfl (by kernel_rfl) (by kernel_rfl) (by kernel_rfl) (fun _ _ _ h => h) (Or.inl ⟨by kernel_rfl, ?_⟩) (by assumption) ?_
              rotate_left
              · (intro w' hSw; (try dsimp only at hSw); go_split_ands; go_simp; first | done | with_reducible rfl)
              try simp only [Act.put, List.setIfInBounds_toArray, List.set_cons_zero, List.set_cons_succ]
              refine wpAnyH_take (i := 4) (oi := ⟨some 98, _, _, _, _, _⟩) (v := ?_) rfl (by kernel_rfl) (by kernel_rfl) (by kernel_rfl) (fun _ _ _ h => h) (Or.inl ⟨by kernel_rfl, ?_⟩) (by assumption) ?_
              rotate_left
              · (intro w' hSw; (try dsimp only at hSw); go_split_ands; go_simp; first | done | with_reducible rfl)
              try simp only [Act.put, List.setIfInBounds_toArray, List.set_cons_zero, List.set_cons_succ]
              refine wpAnyH_take (i := 5) (oi := ⟨some 99, _, _, _, _, _⟩) (v := ?_) rfl (by kernel_rfl) (by kernel_rfl) (by kernel_rfl) (fun _ _ _ h => h) (Or.inl ⟨by kernel_rfl, ?_⟩) (by assumption) ?_
              rotate_left
              · (intro w' hSw; (try dsimp only at hSw); go_split_ands; go_simp; first | done | with_reducible rfl)
              try simp only [Act.put, List.setIfInBounds_toArray, List.set_cons_zero, List.set_cons_succ]
              refine wpAnyH_take (i := 6) (oi := ⟨some 100, _, _, _, _, _⟩) (v := ?_) rfl (by kernel_rfl) (by kernel_rfl) (by kernel_rfl) (fun _ _ _ h => h) (Or.inl ⟨by kernel_rfl, ?_⟩) (by assumption) ?_
              rotate_left
              · (intro w' hSw; (try dsimp only at hSw); go_split_ands; go_simp; first | done | with_reducible rfl)
              try simp only [Act.put, List.setIfInBounds_toArray, List.set_cons_zero, List.set_cons_succ]
              refine wpAnyH_take (i := 7) (oi := ⟨some 101, _, _, _, _, _⟩) (v := ?_) rfl (by kernel_rfl) (by kernel_rfl) (by kernel_rfl) (fun _ _ _ h => h) (Or.inl ⟨by kernel_rfl, ?_⟩) (by assumption) ?_
              rotate_left
              · (intro w' hSw; (try dsimp only at hSw); go_split_ands; go_simp; first | done | with_reducible rfl)
              try simp only [Act.put, List.setIfInBounds_toArray, List.set_cons_zero, List.set_cons_succ]
              refine wpAnyH_take (i := 8) (oi := ⟨some 102, _, _, _, _, _⟩) (v := ?_) rfl (by kernel_rfl) (by kernel_rfl) (by kernel_rfl) (fun _ _ _ h => h) (Or.inl ⟨by kernel_rfl, ?_⟩) (by assumption) ?_
              rotate_left
              · (intro w' hSw; (try dsimp only at hSw); go_split_ands; go_simp; first | done | with_reducible rfl)
              try simp only [Act.put, List.setIfInBounds_toArray, List.set_cons_zero, List.set_cons_succ]
              refine wpAnyH_take (i := 9) (oi := ⟨some 103, _, _, _, _, _⟩) (v := undef) rfl (by kernel_rfl) (by kernel_rfl) (by kernel_rfl) (fun _ _ _ h => h) (Or.inr ⟨by kernel_rfl, rfl⟩) (by assumption) ?_
              try simp only [Act.put, List.setIfInBounds_toArray, List.set_cons_zero, List.set_cons_succ]
              refine wpAnyH_take (i := 10) (oi := ⟨some 104, _, _, _, _, _⟩) (v := undef) rfl (by kernel_rfl) (by kernel_rfl) (by kernel_rfl) (fun _ _ _ h => h) (Or.inr ⟨by kernel_rfl, rfl⟩) (by assumption) ?_
              try simp only [Act.put, List.setIfInBounds_toArray, List.set_cons_zero, List.set_cons_succ]
              refine wpAnyH_take (i := 11) (oi := ⟨some 105, _, _, _, _, _⟩) (v := undef) rfl (by kernel_rfl) (by kernel_rfl) (by kernel_rfl) (fun _ _ _ h => h) (Or.inr ⟨by kernel_rfl, rfl⟩) (by assumption) ?_
              try simp only [Act.put, List.setIfInBounds_toArray, List.set_cons_zero, List.set_cons_succ]
              refine wpAnyH_take (i := 12) (oi := ⟨some 106, _, _, _, _, _⟩) (v := ?_) rfl (by kernel_rfl) (by kernel_rfl) (by kernel_rfl) (fun _ _ _ h => h) (Or.inl ⟨by kernel_rfl, ?_⟩) (by assumption) ?_
              rotate_left
              · (intro w' hSw; (try dsimp only at hSw); go_split_ands; go_simp; first | done | with_reducible rfl)
              try simp only [Act.put, List.setIfInBounds_toArray, List.set_cons_zero, List.set_cons_succ]
              refine wpAnyH_take (i := 13) (oi := ⟨some 107, _, _, _, _, _⟩) (v := ?_) rfl (by kernel_rfl) (by kernel_rfl) (by kernel_rfl) (fun _ _ _ h => h) (Or.inl ⟨by kernel_rfl, ?_⟩) (by assumption) ?_
              rotate_left
              · (intro w' hSw; (try dsimp only at hSw); go_split_ands; go_simp; first | done | with_reducible rfl)
              try simp only [Act.put, List.setIfInBounds_toArray, List.set_cons_zero, List.set_cons_succ]
              refine wpAnyH_take (i := 14) (oi := ⟨some 108, _, _, _, _, _⟩) (v := ?_) rfl (by kernel_rfl) (by kernel_rfl) (by kernel_rfl) (fun _ _ _ h => h) (Or.inl ⟨by kernel_rfl, ?_⟩) (by assumption) ?_
              rotate_left
              · (intro w' hSw; (try dsimp only at hSw); go_split_ands; go_simp; first | done | with_reducible rfl)
              try simp only [Act.put, List.setIfInBounds_toArray, List.set_cons_zero, List.set_cons_succ]
              refine wpAnyH_take (i := 15) (oi := ⟨some 109, _, _, _, _, _⟩) (v := ?_) rfl (by kernel_rfl) (by kernel_rfl) (by kernel_rfl) (fun _ _ _ h => h) (Or.inl ⟨by kernel_rfl, ?_⟩) (by assumption) ?_
              rotate_left
              · (intro w' hSw; (try dsimp only at hSw); go_split_ands; go_simp; first | done | with_reducible rfl)
              try simp only [Act.put, List.setIfInBounds_toArray, List.set_cons_zero, List.set_cons_succ]
              refine wpAnyH_take (i := 18) (oi := ⟨some 112, _, _, _, _, _⟩) (v := ?_) rfl (by kernel_rfl) (by kernel_rfl) (by kernel_rfl) (fun _ _ _ h => h) (Or.inl ⟨by kernel_rfl, ?_⟩) (by assumption) ?_
              rotate_left
              · (intro w' hSw; (try dsimp only at hSw); go_split_ands; go_simp; first | done | with_reducible rfl)
              try simp only [Act.put, List.setIfInBounds_toArray, List.set_cons_zero, List.set_cons_succ]
              refine wpAnyH_ready (rs := [16]) (by kernel_rfl) (by simp) ?_
              refine AllReadyH.cons (o := ⟨some 110, _, _, _, _, _⟩) rfl (fun K hK => ?_) AllReadyH.nil
              (go_simp; go_at_call 19; refine (hA _ (Below.refl _ _).drew).mono ?_; rintro e v4 ⟨g', c', rfl, hs4, b4⟩)
              refine hK.out _ _ ?_ (fun hHeld => ?_)
              · exact keepS HS11.out b4
              clear hK K
              try simp only [Act.put, List.setIfInBounds_toArray, List.set_cons_zero, List.set_cons_succ]
              refine wpAnyH_ready (rs := [17]) (by kernel_rfl) (by simp) ?_
              refine AllReadyH.cons (o := ⟨some 111, _, _, _, _, _⟩) rfl (fun K hK => ?_) AllReadyH.nil
              (go_simp; go_at_call 22; refine (hC1 _ _ _ hs4 b4).mono ?_; rintro e v5 ⟨rfl, b5⟩)
              refine hK.out _ _ ?_ (fun hHeld => ?_)
              · exact keepS HS11.out b5
              clear hK K
              try simp only [Act.put, List.setIfInBounds_toArray, List.set_cons_zero, List.set_cons_succ]
              refine wpAnyH_ready (rs := [19]) (by kernel_rfl) (by simp) ?_
              refine AllReadyH.cons (o := ⟨some 113, _, _, _, _, _⟩) rfl (fun K hK => ?_) AllReadyH.nil
              (go_simp; go_at_call 22; refine (hC2 _ b5).mono ?_; rintro e v6 ⟨rfl, b6⟩)
              refine hK.out _ _ ?_ (fun hHeld => ?_)
              · exact keepS HS11.out b6
              clear hK K
              try simp only [Act.put, List.setIfInBounds_toArray, List.set_cons_zero, List.set_cons_succ]
              refine wpAnyH_take (i := 20) (oi := ⟨some 114, _, _, _, _, _⟩) (v := ?_) rfl (by kernel_rfl) (by kernel_rfl) (by kernel_rfl) (fun _ _ _ h => h) (Or.inl ⟨by kernel_rfl, ?_⟩) (by assumption) ?_
              rotate_left
              · (intro w' hSw; (try dsimp only at hSw); go_split_ands; go_simp; first | done | with_reducible rfl)
              try simp only [Act.put, List.setIfInBounds_toArray, List.set_cons_zero, List.set_cons_succ]
              refine wpAnyH_take (i := 21) (oi := ⟨some 115, _, _, _, _, _⟩) (v := ?_) rfl (by kernel_rfl) (by kernel_rfl) (by kernel_rfl) (fun _ _ _ h => h) (Or.inl ⟨by kernel_rfl, ?_⟩) (by assumption) ?_
              rotate_left
              · (intro w' hSw; (try dsimp only at hSw); go_split_ands; go_simp; first | done | with_reducible rfl)
              try simp only [Act.put, List.setIfInBounds_toArray, List.set_cons_zero, List.set_cons_succ]
              refine wpAnyH_take (i := 22) (oi := ⟨some 4, _, _, _, _, _⟩) (v := ?_) rfl (by kernel_rfl) (by kernel_rfl) (by kernel_rfl) (fun _ _ _ h => h) (Or.inl ⟨by kernel_rfl, ?_⟩) (by assumption) ?_
              rotate_left
              · (intro w' hSw; (try dsimp only at hSw); go_split_ands; go_simp; first | done | with_reducible rfl)
              try simp only [Act.put, List.setIfInBounds_toArray, List.set_cons_zero, List.set_cons_succ]
              refine wpAnyH_done (by kernel_rfl) ?_ _
              go_wp2
              go_ret
              exact ⟨rfl, hBend.trans (b6.mono hBend.size)⟩
            | false =>
              have hlL : lessL L s = L := less_not (of_decide_eq_false hd)
              have hSa : ∀ W, Below w11.heap.size w11 W → Calls Tryd.prog 21 #[.agg #[.slice (some ⟨gl, 0, none⟩) (lessL L s).length cl, .int .i64 rv], .agg #[.slice A L.length c, .int .i64 rv]] W fun e w' => e = .returned (.bool true) ∧ Below w11.heap.size w11 w' := fun W hW => (sameRow_any _ _ (lessL L s) L rv rv W (sl11.later hW) (sr11.later hW) (by rw [hlL]; omega) (by omega)).mono fun e w' h => ⟨by rw [h.1, hlL]; simp, hW.trans (h.2.mono hW.size)⟩
              clear hd hlL
              unfold rowV
              go_wp2
              rw [← HW11.out]
              focus go_region_held3 (fun w' => w'.cell? ⟨w.heap.size, 0, none⟩ = some (.slice A L.length c) ∧ w'.cell? ⟨w.heap.size, 1, none⟩ = some (.int .i64 rv) ∧ w'.cell? ⟨w10.heap.size, 0, none⟩ = some (.slice (some ⟨gl, 0, none⟩) (lessL L s).length cl) ∧ w'.cell? ⟨w10.heap.size, 1, none⟩ = some (.int .i64 rv) ∧ w'.cell? ⟨w.heap.size, 0, none⟩ = some (.slice A L.length c) ∧ w'.cell? ⟨w.heap.size, 1, none⟩ = some (.int .i64 rv) ∧ Below w11.heap.size w11 w')
                (first | exact keepS HS11.out (Below.refl _ _).drew | exact keepS HS11.out b6 | exact keepS HS11.out b5 | exact keepS HS11.out b4 | exact keepS HS11.out b3)
                (first | (go_at_call 21; refine (hSa _ (Below.refl _ _).drew).mono ?_; rintro e v3 ⟨rfl, b3⟩) | (go_at_call 19; refine (hA _ b3).mono ?_; rintro e v4 ⟨g', c', rfl, hs4, b4⟩) | (go_at_call 22; refine (hC2 _ b5).mono ?_; rintro e v6 ⟨rfl, b6⟩) | (go_at_call 22; refine (hC1 _ _ _ hs4 b4).mono ?_; rintro e v5 ⟨rfl, b5⟩))
              go_wp2
              go_ret
              exact ⟨rfl, hBend.trans (b6.mono hBend.size)⟩
      )
end Go.Proofs.YtjeolmcjhpkcbaaDoor
