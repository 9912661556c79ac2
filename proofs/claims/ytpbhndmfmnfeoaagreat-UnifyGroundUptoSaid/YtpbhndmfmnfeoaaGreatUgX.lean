/- types at a type variable and a type without variables, either way round. -/
import Derived.Test.YtpbhndmfmnfeoaaGreatUnGt
import Derived.Test.YtpbhndmfmnfeoaaGreatMg36
import Derived.Outline
namespace Go.Proofs.YtpbhndmfmnfeoaaGreat.Ug
open Go.RowKit Si Sf

set_option maxRecDepth 100000 in
set_option maxHeartbeats 16000000 in
theorem typesL_any (w : World) (bu m : Nat) (nx lvl n : Int) (u : Ty) (la lb : List Value) (hn : i64ok n) (hsu : u.size ≤ 200) (hg : gr u) (hu : UnV w bu m R0 nx) (hm : m ≤ 900) (hta : TRV w (tvT n) la) (htb : TRV w u lb) :
    Calls Tryz.prog 22 #[.pointer (some ⟨bu, 0, none⟩), .agg la.toArray, .agg lb.toArray, .int .i64 lvl] w fun e w' => e = .returned (.int .i64 0) ∧ UnT w' bu (m + 2) (setF T0 n u) R0 nx ∧ w.grownBy w' (some bu) := by
  obtain ⟨t, ht7⟩ : ∃ t, t = tvT n := ⟨_, rfl⟩
  rw [← ht7] at hta
  have hst : t.size ≤ 200 := by rw [ht7]; unfold tvT; simp [Ty.size, Ty.sizeL]
  have HGG := Lib.hid hg
  have HU := Lib.hid hu
  have HM := Lib.hid hm
  have HN0 := Lib.hid hn
  obtain ⟨C1, p1, q1, C2, p2, q2, hl, hs⟩ := hu
  have hbu := hl.lt
  obtain ⟨k1, nm1, v1, A1, n1, c1, B1, m1, d1, rv1, rfl⟩ := hta.form
  obtain ⟨k2, nm2, v2, A2, n2, c2, B2, m2, d2, rv2, rfl⟩ := htb.form
  obtain ⟨UU, hUU⟩ : ∃ UU, UU = u := ⟨_, rfl⟩
  rw [← hUU]
  have HUU := Lib.hid hUU
  clear hUU
  obtain ⟨k, nm, v, kids, ls, rv⟩ := t
  obtain ⟨k', nm', v', kids', ls', rv'⟩ := u
  have HT7 := Lib.hid ht7
  have HBU := Lib.hid hbu
  have HSZ := Lib.hid (And.intro hst hsu)
  clear ht7 hn
  obtain ⟨W, hW⟩ : ∃ W, W = (((w.alloc (.cells #[.pointer (some ⟨bu, 0, none⟩)] 65)).alloc (.cells #[.int .i64 k1, .string (ba nm1), .int .i64 v1, .slice A1 n1 c1, .slice B1 m1 d1, .int .i64 rv1] 44)).alloc (.cells #[.int .i64 k2, .string (ba nm2), .int .i64 v2, .slice A2 n2 c2, .slice B2 m2 d2, .int .i64 rv2] 44)).alloc (.cells #[.int .i64 lvl] 3) := ⟨_, rfl⟩
  have hb : Below w.heap.size w W := by rw [hW]; exact ((((Below.refl _ w).alloc (Nat.le_refl _) _).alloc (by simp) _).alloc (by simp; omega) _).alloc (by simp; omega) _
  have kx : Lies W w.heap.size 65 #[.pointer (some ⟨bu, 0, none⟩)] := by rw [hW]; exact (((Lies.new _ _ _).alloc _).alloc _).alloc _
  have ka : Lies W (w.heap.size + 1) 44 #[.int .i64 k1, .string (ba nm1), .int .i64 v1, .slice A1 n1 c1, .slice B1 m1 d1, .int .i64 rv1] := by rw [hW]; exact ((Lies.new' _ _ _ (by simp)).alloc _).alloc _
  have kb : Lies W (w.heap.size + 1 + 1) 44 #[.int .i64 k2, .string (ba nm2), .int .i64 v2, .slice A2 n2 c2, .slice B2 m2 d2, .int .i64 rv2] := by rw [hW]; exact (Lies.new' _ _ _ (by simp)).alloc _
  have HKL := Lib.hid (show Lies W (w.heap.size + 1 + 1 + 1) 3 #[.int .i64 lvl] from by rw [hW]; exact Lies.new' _ _ _ (by simp))
  have hwz : W.heap.size = w.heap.size + 4 := by rw [hW]; simp
  have hlu := hl.later hb
  have HK := Lib.hid (show ∀ X : World, Below W.heap.size W X → (X.cell? ⟨w.heap.size, 0, none⟩ = some (.pointer (some ⟨bu, 0, none⟩))) ∧ (X.cell? ⟨bu, 0, none⟩ = some (.slice C1 p1 q1) ∧ X.cell? ⟨bu, 1, none⟩ = some (.slice C2 p2 q2)) ∧ (X.cell? ⟨w.heap.size + 1, 0, none⟩ = some (.int .i64 k1) ∧ X.cell? ⟨w.heap.size + 1, 1, none⟩ = some (.string (ba nm1)) ∧ X.cell? ⟨w.heap.size + 1, 2, none⟩ = some (.int .i64 v1) ∧ X.cell? ⟨w.heap.size + 1, 3, none⟩ = some (.slice A1 n1 c1) ∧ X.cell? ⟨w.heap.size + 1, 4, none⟩ = some (.slice B1 m1 d1) ∧ X.cell? ⟨w.heap.size + 1, 5, none⟩ = some (.int .i64 rv1)) ∧ (X.cell? ⟨w.heap.size + 1 + 1, 0, none⟩ = some (.int .i64 k2) ∧ X.cell? ⟨w.heap.size + 1 + 1, 1, none⟩ = some (.string (ba nm2)) ∧ X.cell? ⟨w.heap.size + 1 + 1, 2, none⟩ = some (.int .i64 v2) ∧ X.cell? ⟨w.heap.size + 1 + 1, 3, none⟩ = some (.slice A2 n2 c2) ∧ X.cell? ⟨w.heap.size + 1 + 1, 4, none⟩ = some (.slice B2 m2 d2) ∧ X.cell? ⟨w.heap.size + 1 + 1, 5, none⟩ = some (.int .i64 rv2)) from fun X hx => ⟨(kx.later hx).cell 0, ⟨(hlu.later hx).cell 0, (hlu.later hx).cell 1⟩, ⟨(ka.later hx).cell 0, (ka.later hx).cell 1, (ka.later hx).cell 2, (ka.later hx).cell 3, (ka.later hx).cell 4, (ka.later hx).cell 5⟩, (kb.later hx).cell 0, (kb.later hx).cell 1, (kb.later hx).cell 2, (kb.later hx).cell 3, (kb.later hx).cell 4, (kb.later hx).cell 5⟩)
  have HCA := Lib.hid (show ∀ X : World, Below W.heap.size W X → Calls Tryz.prog 16 #[.agg #[.slice C1 p1 q1, .slice C2 p2 q2], .agg #[.int .i64 k1, .string (ba nm1), .int .i64 v1, .slice A1 n1 c1, .slice B1 m1 d1, .int .i64 rv1]] X fun e w' => ∃ l', e = .returned (.agg l'.toArray) ∧ (∀ w'', Kept (fun b => b < X.heap.size + 3) w' w'' → TFV w'' (.mk k nm v kids ls rv) l' ∧ Tree1 (X.heap.size + 3) l' w'') ∧ Below X.heap.size X w' from fun X hx => by
    have h := apply_anyJ X _ m T0 R0 (hs.keepL (blank_self (hb.trans (hx.mono hb.size)))) (by omega) (.mk k nm v kids ls rv) _ (hta.keep (hb.trans (hx.mono hb.size)).block) (rowsFree0 T0 _) (by rw [pcsT0]; omega)
    rw [apT0] at h
    exact h)
  have HCB := Lib.hid (show ∀ X : World, Below W.heap.size W X → Calls Tryz.prog 16 #[.agg #[.slice C1 p1 q1, .slice C2 p2 q2], .agg #[.int .i64 k2, .string (ba nm2), .int .i64 v2, .slice A2 n2 c2, .slice B2 m2 d2, .int .i64 rv2]] X fun e w' => ∃ l', e = .returned (.agg l'.toArray) ∧ (∀ w'', Kept (fun b => b < X.heap.size + 3) w' w'' → TFV w'' (.mk k' nm' v' kids' ls' rv') l' ∧ Tree1 (X.heap.size + 3) l' w'') ∧ Below X.heap.size X w' from fun X hx => by
    have h := apply_anyJ X _ m T0 R0 (hs.keepL (blank_self (hb.trans (hx.mono hb.size)))) (by omega) (.mk k' nm' v' kids' ls' rv') _ (htb.keep (hb.trans (hx.mono hb.size)).block) (rowsFree0 T0 _) (by rw [pcsT0]; omega)
    rw [apT0] at h
    exact h)
  have HW := Lib.hid hW
  have HB := Lib.hid hb
  have HKX := Lib.hid kx
  have HKA := Lib.hid ka
  have HKB := Lib.hid kb
  have HWZ := Lib.hid hwz
  clear hW hb kx ka kb hwz hlu hl hs hta htb hst hsu hg hm
  go_enter Tryz.func22, Tryz.ntmps22
  go_wp2_with fail
  rw [← HW.out]
  go_upto_region 1 with fail
  refine TillLast.start (S := fun X => (X.cell? ⟨w.heap.size, 0, none⟩ = some (.pointer (some ⟨bu, 0, none⟩))) ∧ (X.cell? ⟨bu, 0, none⟩ = some (.slice C1 p1 q1) ∧ X.cell? ⟨bu, 1, none⟩ = some (.slice C2 p2 q2)) ∧ (X.cell? ⟨w.heap.size + 1, 0, none⟩ = some (.int .i64 k1) ∧ X.cell? ⟨w.heap.size + 1, 1, none⟩ = some (.string (ba nm1)) ∧ X.cell? ⟨w.heap.size + 1, 2, none⟩ = some (.int .i64 v1) ∧ X.cell? ⟨w.heap.size + 1, 3, none⟩ = some (.slice A1 n1 c1) ∧ X.cell? ⟨w.heap.size + 1, 4, none⟩ = some (.slice B1 m1 d1) ∧ X.cell? ⟨w.heap.size + 1, 5, none⟩ = some (.int .i64 rv1)) ∧ (X.cell? ⟨w.heap.size + 1 + 1, 0, none⟩ = some (.int .i64 k2) ∧ X.cell? ⟨w.heap.size + 1 + 1, 1, none⟩ = some (.string (ba nm2)) ∧ X.cell? ⟨w.heap.size + 1 + 1, 2, none⟩ = some (.int .i64 v2) ∧ X.cell? ⟨w.heap.size + 1 + 1, 3, none⟩ = some (.slice A2 n2 c2) ∧ X.cell? ⟨w.heap.size + 1 + 1, 4, none⟩ = some (.slice B2 m2 d2) ∧ X.cell? ⟨w.heap.size + 1 + 1, 5, none⟩ = some (.int .i64 rv2))) (z := 12) (by kernel_rfl) ?_
  have hHeld : (W.drew.cell? ⟨w.heap.size, 0, none⟩ = some (.pointer (some ⟨bu, 0, none⟩))) ∧ (W.drew.cell? ⟨bu, 0, none⟩ = some (.slice C1 p1 q1) ∧ W.drew.cell? ⟨bu, 1, none⟩ = some (.slice C2 p2 q2)) ∧ (W.drew.cell? ⟨w.heap.size + 1, 0, none⟩ = some (.int .i64 k1) ∧ W.drew.cell? ⟨w.heap.size + 1, 1, none⟩ = some (.string (ba nm1)) ∧ W.drew.cell? ⟨w.heap.size + 1, 2, none⟩ = some (.int .i64 v1) ∧ W.drew.cell? ⟨w.heap.size + 1, 3, none⟩ = some (.slice A1 n1 c1) ∧ W.drew.cell? ⟨w.heap.size + 1, 4, none⟩ = some (.slice B1 m1 d1) ∧ W.drew.cell? ⟨w.heap.size + 1, 5, none⟩ = some (.int .i64 rv1)) ∧ (W.drew.cell? ⟨w.heap.size + 1 + 1, 0, none⟩ = some (.int .i64 k2) ∧ W.drew.cell? ⟨w.heap.size + 1 + 1, 1, none⟩ = some (.string (ba nm2)) ∧ W.drew.cell? ⟨w.heap.size + 1 + 1, 2, none⟩ = some (.int .i64 v2) ∧ W.drew.cell? ⟨w.heap.size + 1 + 1, 3, none⟩ = some (.slice A2 n2 c2) ∧ W.drew.cell? ⟨w.heap.size + 1 + 1, 4, none⟩ = some (.slice B2 m2 d2) ∧ W.drew.cell? ⟨w.heap.size + 1 + 1, 5, none⟩ = some (.int .i64 rv2)) := HK.out _ (Below.refl _ _).drew
  refine TillLast.takeT (i := 0) 12 (oi := ⟨some 9, _, _, _, _, _⟩) (v := ?_) rfl (by kernel_rfl) (by kernel_rfl) (by kernel_rfl) (by kernel_rfl) (by kernel_rfl) (by decide) (by kernel_rfl) (fun _ _ _ h => h) (Or.inl ⟨by kernel_rfl, ?_⟩) (by assumption) ?_
  rotate_left
  · (intro w' hSw; (try dsimp only at hSw); go_split_ands; go_simp; first | done | with_reducible rfl)
  try simp only [Act.put, List.setIfInBounds_toArray, List.set_cons_zero, List.set_cons_succ]
  refine TillLast.takeT (i := 1) 12 (oi := ⟨some 10, _, _, _, _, _⟩) (v := ?_) rfl (by kernel_rfl) (by kernel_rfl) (by kernel_rfl) (by kernel_rfl) (by kernel_rfl) (by decide) (by kernel_rfl) (fun _ _ _ h => h) (Or.inl ⟨by kernel_rfl, ?_⟩) (by assumption) ?_
  rotate_left
  · (intro w' hSw; (try dsimp only at hSw); go_split_ands; go_simp; first | done | with_reducible rfl)
  try simp only [Act.put, List.setIfInBounds_toArray, List.set_cons_zero, List.set_cons_succ]
  refine TillLast.takeT (i := 2) 12 (oi := ⟨some 11, _, _, _, _, _⟩) (v := ?_) rfl (by kernel_rfl) (by kernel_rfl) (by kernel_rfl) (by kernel_rfl) (by kernel_rfl) (by decide) (by kernel_rfl) (fun _ _ _ h => h) (Or.inl ⟨by kernel_rfl, ?_⟩) (by assumption) ?_
  rotate_left
  · (intro w' hSw; (try dsimp only at hSw); go_split_ands; go_simp; first | done | with_reducible rfl)
  try simp only [Act.put, List.setIfInBounds_toArray, List.set_cons_zero, List.set_cons_succ]
  refine TillLast.takeT (i := 3) 12 (oi := ⟨some 12, _, _, _, _, _⟩) (v := ?_) rfl (by kernel_rfl) (by kernel_rfl) (by kernel_rfl) (by kernel_rfl) (by kernel_rfl) (by decide) (by kernel_rfl) (fun _ _ _ h => h) (Or.inl ⟨by kernel_rfl, ?_⟩) (by assumption) ?_
  rotate_left
  · (intro w' hSw; (try dsimp only at hSw); go_split_ands; go_simp; first | done | with_reducible rfl)
  try simp only [Act.put, List.setIfInBounds_toArray, List.set_cons_zero, List.set_cons_succ]
  refine TillLast.takeT (i := 4) 12 (oi := ⟨some 13, _, _, _, _, _⟩) (v := ?_) rfl (by kernel_rfl) (by kernel_rfl) (by kernel_rfl) (by kernel_rfl) (by kernel_rfl) (by decide) (by kernel_rfl) (fun _ _ _ h => h) (Or.inl ⟨by kernel_rfl, ?_⟩) (by assumption) ?_
  rotate_left
  · (intro w' hSw; (try dsimp only at hSw); go_split_ands; go_simp; first | done | with_reducible rfl)
  try simp only [Act.put, List.setIfInBounds_toArray, List.set_cons_zero, List.set_cons_succ]
  refine TillLast.takeT (i := 6) 12 (oi := ⟨some 15, _, _, _, _, _⟩) (v := ?_) rfl (by kernel_rfl) (by kernel_rfl) (by kernel_rfl) (by kernel_rfl) (by kernel_rfl) (by decide) (by kernel_rfl) (fun _ _ _ h => h) (Or.inl ⟨by kernel_rfl, ?_⟩) (by assumption) ?_
  rotate_left
  · (intro w' hSw; (try dsimp only at hSw); go_split_ands; go_simp; first | done | with_reducible rfl)
  try simp only [Act.put, List.setIfInBounds_toArray, List.set_cons_zero, List.set_cons_succ]
  refine TillLast.takeT (i := 7) 12 (oi := ⟨some 16, _, _, _, _, _⟩) (v := ?_) rfl (by kernel_rfl) (by kernel_rfl) (by kernel_rfl) (by kernel_rfl) (by kernel_rfl) (by decide) (by kernel_rfl) (fun _ _ _ h => h) (Or.inl ⟨by kernel_rfl, ?_⟩) (by assumption) ?_
  rotate_left
  · (intro w' hSw; (try dsimp only at hSw); go_split_ands; go_simp; first | done | with_reducible rfl)
  try simp only [Act.put, List.setIfInBounds_toArray, List.set_cons_zero, List.set_cons_succ]
  refine TillLast.takeT (i := 8) 12 (oi := ⟨some 17, _, _, _, _, _⟩) (v := ?_) rfl (by kernel_rfl) (by kernel_rfl) (by kernel_rfl) (by kernel_rfl) (by kernel_rfl) (by decide) (by kernel_rfl) (fun _ _ _ h => h) (Or.inl ⟨by kernel_rfl, ?_⟩) (by assumption) ?_
  rotate_left
  · (intro w' hSw; (try dsimp only at hSw); go_split_ands; go_simp; first | done | with_reducible rfl)
  try simp only [Act.put, List.setIfInBounds_toArray, List.set_cons_zero, List.set_cons_succ]
  refine TillLast.takeT (i := 9) 12 (oi := ⟨some 18, _, _, _, _, _⟩) (v := ?_) rfl (by kernel_rfl) (by kernel_rfl) (by kernel_rfl) (by kernel_rfl) (by kernel_rfl) (by decide) (by kernel_rfl) (fun _ _ _ h => h) (Or.inl ⟨by kernel_rfl, ?_⟩) (by assumption) ?_
  rotate_left
  · (intro w' hSw; (try dsimp only at hSw); go_split_ands; go_simp; first | done | with_reducible rfl)
  try simp only [Act.put, List.setIfInBounds_toArray, List.set_cons_zero, List.set_cons_succ]
  refine TillLast.takeT (i := 10) 12 (oi := ⟨some 19, _, _, _, _, _⟩) (v := ?_) rfl (by kernel_rfl) (by kernel_rfl) (by kernel_rfl) (by kernel_rfl) (by kernel_rfl) (by decide) (by kernel_rfl) (fun _ _ _ h => h) (Or.inl ⟨by kernel_rfl, ?_⟩) (by assumption) ?_
  rotate_left
  · (intro w' hSw; (try dsimp only at hSw); go_split_ands; go_simp; first | done | with_reducible rfl)
  try simp only [Act.put, List.setIfInBounds_toArray, List.set_cons_zero, List.set_cons_succ]
  refine TillLast.ready (rs := [5]) (by kernel_rfl) (by simp) ?_
  refine NextAll.cons (o := ⟨some 14, _, _, _, _, _⟩) rfl (fun K hK => ?_) NextAll.nil
  go_simp
  go_at_call 16
  refine (HCA.out _ (Below.refl _ _).drew).mono ?_
  rintro e x4 ⟨l5, rfl, ho5, hba⟩
  obtain ⟨A3, n3, c3, B3, m3, d3, rfl⟩ := (ho5 x4 ⟨Nat.le_refl _, fun _ _ _ => rfl⟩).1.trv.shape
  have hb4 : Below W.heap.size W x4 := (Below.refl _ _).drew.trans hba
  have HB34 := Lib.hid hb4.size
  have HO5 := Lib.hid ho5
  unfold tyC
  refine hK.out _ _ (fun _ => HK.out _ hb4) ?_
  clear hK K hHeld ho5 hba
  try simp only [Act.put, List.setIfInBounds_toArray, List.set_cons_zero, List.set_cons_succ]
  refine TillLast.ready (rs := [11]) (by kernel_rfl) (by simp) ?_
  refine NextAll.cons (o := ⟨some 20, _, _, _, _, _⟩) rfl (fun K hK => ?_) NextAll.nil
  go_simp
  go_at_call 16
  refine (HCB.out _ hb4).mono ?_
  rintro e x5 ⟨l6, rfl, ho6, hba⟩
  obtain ⟨A4, n4, c4, B4, m4, d4, rfl⟩ := (ho6 x5 ⟨Nat.le_refl _, fun _ _ _ => rfl⟩).1.trv.shape
  have hb5 : Below W.heap.size W x5 := hb4.trans (hba.mono hb4.size)
  have HO6 := Lib.hid ho6
  have HB45 := Lib.hid hba
  have HB5 := Lib.hid hb5
  unfold tyC
  refine hK.out _ _ (fun _ => HK.out _ hb5) ?_
  clear hK K ho6 hba hb4 hb5
  try simp only [Act.put, List.setIfInBounds_toArray, List.set_cons_zero, List.set_cons_succ]
  refine TillLast.ready (rs := [12]) (by kernel_rfl) (by simp) ?_
  refine NextAll.cons (o := ⟨none, _, _, _, _, _⟩) rfl (fun K hK => ?_) NextAll.nil
  rw [if_pos (by kernel_rfl)]
  refine wp_store_row _ _ _ rfl (w.heap.size + 1) #[.int .i64 k, .string (ba nm), .int .i64 v, .slice A3 n3 c3, .slice B3 m3 d3, .int .i64 rv] rfl rfl 44 #[.int .i64 k1, .string (ba nm1), .int .i64 v1, .slice A1 n1 c1, .slice B1 m1 d1, .int .i64 rv1] (HKA.out.later HB5.out) (by kernel_rfl) rfl (by simp [Value.oneCell']) ?_
  obtain ⟨x6, hx6⟩ : ∃ X, X = x5.setRow (w.heap.size + 1) #[.int .i64 k, .string (ba nm), .int .i64 v, .slice A3 n3 c3, .slice B3 m3 d3, .int .i64 rv] := ⟨_, rfl⟩
  rw [← hx6]
  have HX6 := Lib.hid hx6
  clear hx6
  refine hK.out _ _ (fun h => absurd (h.symm.trans (by kernel_rfl : _ = true)) (by decide)) ?_
  clear hK K
  try simp only [Act.put]
  refine TillLast.ready (rs := [13]) (by kernel_rfl) (by simp) ?_
  refine NextAll.cons (o := ⟨none, _, _, _, _, _⟩) rfl (fun K hK => ?_) NextAll.nil
  rw [if_pos (by kernel_rfl)]
  refine wp_store_row _ _ _ rfl (w.heap.size + 1 + 1) #[.int .i64 k', .string (ba nm'), .int .i64 v', .slice A4 n4 c4, .slice B4 m4 d4, .int .i64 rv'] rfl rfl 44 #[.int .i64 k2, .string (ba nm2), .int .i64 v2, .slice A2 n2 c2, .slice B2 m2 d2, .int .i64 rv2] (by rw [HX6.out]; exact (Sb.setRow_far (HKB.out.later HB5.out) _ (by omega))) (by kernel_rfl) rfl (by simp [Value.oneCell']) ?_
  obtain ⟨x7, hx7⟩ : ∃ X, X = x6.setRow (w.heap.size + 1 + 1) #[.int .i64 k', .string (ba nm'), .int .i64 v', .slice A4 n4 c4, .slice B4 m4 d4, .int .i64 rv'] := ⟨_, rfl⟩
  rw [← hx7]
  have HX7 := Lib.hid hx7
  clear hx7
  refine hK.out _ _ (fun h => absurd (h.symm.trans (by kernel_rfl : _ = true)) (by decide)) ?_
  clear hK K
  try simp only [Act.put]
  refine TillLast.done (by kernel_rfl) ?_ _
  have hf7 : ∀ i, i ≠ w.heap.size + 1 → i ≠ w.heap.size + 1 + 1 → x7.heap[i]? = x5.heap[i]? := fun i h1 h2 => by
    rw [HX7.out, HX6.out]
    exact (Sb.setRow_other _ _ _ _ h2).trans (Sb.setRow_other _ _ _ _ h1)
  have hws := HB.out.size
  have hw5 := HB5.out.size
  have hwz := HWZ.out
  have hz7 : x7.heap.size = x5.heap.size := by rw [HX7.out, HX6.out]; simp [World.setRow]
  have hkx : Lies x7 w.heap.size _ _ := (hf7 _ (by omega) (by omega)).trans (HKX.out.later HB5.out)
  have hka : Lies x7 (w.heap.size + 1) 44 #[.int .i64 k, .string (ba nm), .int .i64 v, .slice A3 n3 c3, .slice B3 m3 d3, .int .i64 rv] := by rw [HX7.out]; exact Sb.setRow_far (by rw [HX6.out]; exact Sb.setRow_at (HKA.out.later HB5.out) _) _ (by omega)
  have hkb : Lies x7 (w.heap.size + 1 + 1) 44 #[.int .i64 k', .string (ba nm'), .int .i64 v', .slice A4 n4 c4, .slice B4 m4 d4, .int .i64 rv'] := by rw [HX7.out]; exact Sb.setRow_at (by rw [HX6.out]; exact Sb.setRow_far (HKB.out.later HB5.out) _ (by omega)) _
  have hb7 : Below w.heap.size w x7 := by
    have h0 := HB.out.trans (HB5.out.mono HB.out.size)
    exact ⟨by rw [HX7.out, HX6.out]; exact h0.os, by rw [HX7.out, HX6.out]; exact h0.tape, by rw [HX7.out, HX6.out]; exact h0.output, by rw [hz7]; exact h0.size, fun i hi => (hf7 i (by omega) (by omega)).trans (h0.block i hi)⟩

  have h34 := HB34.out
  have hbu := HBU.out
  have hdw : W.drew.heap.size = w.heap.size + 4 := by rw [← hwz]; rfl
  have hkep4 : Kept (fun b => b < w.heap.size + 7) x4 x7 := ⟨by have := HB45.out.size; omega, fun b hb hn => (hf7 b (fun e => hn (by show b < w.heap.size + 7; omega)) (fun e => hn (by show b < w.heap.size + 7; omega))).trans (HB45.out.block b hb)⟩
  have hkep5 : Kept (fun b => b < x4.heap.size + 3) x5 x7 := ⟨by omega, fun b hb hn => hf7 b (fun e => hn (by show b < x4.heap.size + 3; omega)) (fun e => hn (by show b < x4.heap.size + 3; omega))⟩
  have HOA := Lib.hid (show (∀ X, Kept (fun b => b < w.heap.size + 7) x4 X → TFV X (.mk k nm v kids ls rv) (tyC k nm v (.slice A3 n3 c3) (.slice B3 m3 d3) rv) ∧ Tree1 (w.heap.size + 7) (tyC k nm v (.slice A3 n3 c3) (.slice B3 m3 d3) rv) X) from fun X hX => by
    have h := HO5.out X (by rw [hdw]; exact hX)
    rw [hdw] at h
    exact h)
  have HOB := Lib.hid (show (∀ X, Kept (fun b => b < x4.heap.size + 3) x5 X → TFV X (.mk k' nm' v' kids' ls' rv') (tyC k' nm' v' (.slice A4 n4 c4) (.slice B4 m4 d4) rv')) from fun X hX => (HO6.out X hX).1)
  have hsame := same_two x7 x7 (Below.refl _ _) (.mk k nm v kids ls rv) (.mk k' nm' v' kids' ls' rv') _ _ (w.heap.size + 7) x4.heap.size (fun b => ¬ b < x4.heap.size + 3 ∧ b < x7.heap.size) (HOA.out x7 hkep4).1 (Tree2.of (HOA.out x4 ⟨Nat.le_refl _, fun _ _ _ => rfl⟩).2 hkep4) (by have := HB45.out.size; omega) (fun g _ h2 h3 => h3.1 (by omega)) (fun b hb => hb.2) (HOB.out x7 hkep5).trv (tbk_of (X := fun b => b < x4.heap.size + 3) (HOB.out _ (kept_blank_s hkep5))) (by have := HSZ.out; omega)
  unfold tyC at hsame
  have a0 := hka.cell 0
  have a1 := hka.cell 1
  have a2 := hka.cell 2
  have a3 := hka.cell 3
  have a4 := hka.cell 4
  have a5 := hka.cell 5
  have b0 := hkb.cell 0
  have b1 := hkb.cell 1
  have b2 := hkb.cell 2
  have b3 := hkb.cell 3
  have b4 := hkb.cell 4
  have b5 := hkb.cell 5
  have hkl : Lies x7 (w.heap.size + 1 + 1 + 1) 3 #[.int .i64 lvl] := (hf7 _ (by omega) (by omega)).trans (HKL.out.later HB5.out)
  have HSM := Lib.hid hsame
  have HKX7 := Lib.hid hkx
  have HKA7 := Lib.hid hka
  have HKB7 := Lib.hid hkb
  have HKL7 := Lib.hid hkl
  have HB7 := Lib.hid hb7
  have HK4 := Lib.hid hkep4
  have HK5 := Lib.hid hkep5
  have HSZ7 := Lib.hid (And.intro hbu (And.intro h34 hdw))
  have HWS := Lib.hid (show x7.heap.size = x5.heap.size ∧ w.heap.size + 4 = W.heap.size ∧ W.heap.size ≤ x4.heap.size ∧ x4.heap.size ≤ x5.heap.size from ⟨hz7, by omega, by omega, HB45.out.size⟩)
  clear hf7 hws hw5 hwz hz7 HX6 HX7 HO6 HO5 HB5 HB45 h34 hkx hka hkb hkl hb7 hkep4 hkep5 HB34 hsame hbu hdw HKX HKA HKB HKL HWZ HBU
  go_wp2_with fail
  refine HSM.out.mono ?_
  rintro e x8 ⟨sb, rfl, hsb, hb8⟩
  have HSB := Lib.hid hsb
  have HB8 := Lib.hid hb8
  have HBW8 := Lib.hid (HB7.out.trans (hb8.mono HB7.out.size))
  clear hsb HSM
  have a0 := (HKA7.out.later hb8).cell 0
  have a1 := (HKA7.out.later hb8).cell 1
  have a2 := (HKA7.out.later hb8).cell 2
  have a3 := (HKA7.out.later hb8).cell 3
  have a4 := (HKA7.out.later hb8).cell 4
  have a5 := (HKA7.out.later hb8).cell 5
  have b0 := (HKB7.out.later hb8).cell 0
  have b1 := (HKB7.out.later hb8).cell 1
  have b2 := (HKB7.out.later hb8).cell 2
  have b3 := (HKB7.out.later hb8).cell 3
  have b4 := (HKB7.out.later hb8).cell 4
  have b5 := (HKB7.out.later hb8).cell 5
  have q0 := (HKX7.out.later hb8).cell 0
  have l0 := (HKL7.out.later hb8).cell 0
  clear hb8

  have ht7 := HT7.out
  unfold tvT at ht7
  injection ht7 with e1 e2 e3 e4 e5 e6
  have hg := HGG.out
  rw [gr] at hg
  have hk7' := hg.1.1
  have hne : ¬ (.mk k nm v kids ls rv : Ty) = .mk k' nm' v' kids' ls' rv' := fun h => by injection h with h _; exact hk7' (h.symm.trans e1)
  cases sb
  case true => exact absurd (HSB.out.1 rfl) hne
  case false =>
    have hb8 := HB8.out
    have hbt := beTypeG_any x8 bu m nx (HU.out.later HBW8.out) HM.out n HN0.out _ _ (HOB.out x8 (kept_below HK5.out hb8)) HGG.out HSZ.out.2
    rw [← HUU.out] at hbt
    unfold tyC at hbt
    have HBT := Lib.hid hbt
    subst e1 e3
    clear hbt hb8 hne hg hk7'
    go_wp2_with fail
    refine HBT.out.mono ?_
    rintro e x9 ⟨rfl, h1, h2⟩
    have H1 := Lib.hid h1
    have H2 := Lib.hid h2
    clear h1 h2
    go_wp2
    go_ret
    exact ⟨rfl, H1.out, below_grown HBW8.out H2.out⟩
set_option maxRecDepth 100000 in
set_option maxHeartbeats 16000000 in
theorem typesR_any (w : World) (bu m : Nat) (nx lvl n : Int) (t : Ty) (la lb : List Value) (hn : i64ok n) (hst : t.size ≤ 200) (hg : gr t) (hu : UnV w bu m R0 nx) (hm : m ≤ 900) (hta : TRV w t la) (htb : TRV w (tvT n) lb) :
    Calls Tryz.prog 22 #[.pointer (some ⟨bu, 0, none⟩), .agg la.toArray, .agg lb.toArray, .int .i64 lvl] w fun e w' => e = .returned (.int .i64 0) ∧ UnT w' bu (m + 2) (setF T0 n t) R0 nx ∧ w.grownBy w' (some bu) := by
  obtain ⟨u, ht7⟩ : ∃ u, u = tvT n := ⟨_, rfl⟩
  rw [← ht7] at htb
  have hsu : u.size ≤ 200 := by rw [ht7]; unfold tvT; simp [Ty.size, Ty.sizeL]
  have HGG := Lib.hid hg
  have HU := Lib.hid hu
  have HM := Lib.hid hm
  have HN0 := Lib.hid hn
  obtain ⟨C1, p1, q1, C2, p2, q2, hl, hs⟩ := hu
  have hbu := hl.lt
  obtain ⟨k1, nm1, v1, A1, n1, c1, B1, m1, d1, rv1, rfl⟩ := hta.form
  obtain ⟨k2, nm2, v2, A2, n2, c2, B2, m2, d2, rv2, rfl⟩ := htb.form
  obtain ⟨UU, hUU⟩ : ∃ UU, UU = t := ⟨_, rfl⟩
  rw [← hUU]
  have HUU := Lib.hid hUU
  clear hUU
  obtain ⟨k, nm, v, kids, ls, rv⟩ := t
  obtain ⟨k', nm', v', kids', ls', rv'⟩ := u
  have HT7 := Lib.hid ht7
  have HBU := Lib.hid hbu
  have HSZ := Lib.hid (And.intro hst hsu)
  clear ht7 hn
  obtain ⟨W, hW⟩ : ∃ W, W = (((w.alloc (.cells #[.pointer (some ⟨bu, 0, none⟩)] 65)).alloc (.cells #[.int .i64 k1, .string (ba nm1), .int .i64 v1, .slice A1 n1 c1, .slice B1 m1 d1, .int .i64 rv1] 44)).alloc (.cells #[.int .i64 k2, .string (ba nm2), .int .i64 v2, .slice A2 n2 c2, .slice B2 m2 d2, .int .i64 rv2] 44)).alloc (.cells #[.int .i64 lvl] 3) := ⟨_, rfl⟩
  have hb : Below w.heap.size w W := by rw [hW]; exact ((((Below.refl _ w).alloc (Nat.le_refl _) _).alloc (by simp) _).alloc (by simp; omega) _).alloc (by simp; omega) _
  have kx : Lies W w.heap.size 65 #[.pointer (some ⟨bu, 0, none⟩)] := by rw [hW]; exact (((Lies.new _ _ _).alloc _).alloc _).alloc _
  have ka : Lies W (w.heap.size + 1) 44 #[.int .i64 k1, .string (ba nm1), .int .i64 v1, .slice A1 n1 c1, .slice B1 m1 d1, .int .i64 rv1] := by rw [hW]; exact ((Lies.new' _ _ _ (by simp)).alloc _).alloc _
  have kb : Lies W (w.heap.size + 1 + 1) 44 #[.int .i64 k2, .string (ba nm2), .int .i64 v2, .slice A2 n2 c2, .slice B2 m2 d2, .int .i64 rv2] := by rw [hW]; exact (Lies.new' _ _ _ (by simp)).alloc _
  have HKL := Lib.hid (show Lies W (w.heap.size + 1 + 1 + 1) 3 #[.int .i64 lvl] from by rw [hW]; exact Lies.new' _ _ _ (by simp))
  have hwz : W.heap.size = w.heap.size + 4 := by rw [hW]; simp
  have hlu := hl.later hb
  have HK := Lib.hid (show ∀ X : World, Below W.heap.size W X → (X.cell? ⟨w.heap.size, 0, none⟩ = some (.pointer (some ⟨bu, 0, none⟩))) ∧ (X.cell? ⟨bu, 0, none⟩ = some (.slice C1 p1 q1) ∧ X.cell? ⟨bu, 1, none⟩ = some (.slice C2 p2 q2)) ∧ (X.cell? ⟨w.heap.size + 1, 0, none⟩ = some (.int .i64 k1) ∧ X.cell? ⟨w.heap.size + 1, 1, none⟩ = some (.string (ba nm1)) ∧ X.cell? ⟨w.heap.size + 1, 2, none⟩ = some (.int .i64 v1) ∧ X.cell? ⟨w.heap.size + 1, 3, none⟩ = some (.slice A1 n1 c1) ∧ X.cell? ⟨w.heap.size + 1, 4, none⟩ = some (.slice B1 m1 d1) ∧ X.cell? ⟨w.heap.size + 1, 5, none⟩ = some (.int .i64 rv1)) ∧ (X.cell? ⟨w.heap.size + 1 + 1, 0, none⟩ = some (.int .i64 k2) ∧ X.cell? ⟨w.heap.size + 1 + 1, 1, none⟩ = some (.string (ba nm2)) ∧ X.cell? ⟨w.heap.size + 1 + 1, 2, none⟩ = some (.int .i64 v2) ∧ X.cell? ⟨w.heap.size + 1 + 1, 3, none⟩ = some (.slice A2 n2 c2) ∧ X.cell? ⟨w.heap.size + 1 + 1, 4, none⟩ = some (.slice B2 m2 d2) ∧ X.cell? ⟨w.heap.size + 1 + 1, 5, none⟩ = some (.int .i64 rv2)) from fun X hx => ⟨(kx.later hx).cell 0, ⟨(hlu.later hx).cell 0, (hlu.later hx).cell 1⟩, ⟨(ka.later hx).cell 0, (ka.later hx).cell 1, (ka.later hx).cell 2, (ka.later hx).cell 3, (ka.later hx).cell 4, (ka.later hx).cell 5⟩, (kb.later hx).cell 0, (kb.later hx).cell 1, (kb.later hx).cell 2, (kb.later hx).cell 3, (kb.later hx).cell 4, (kb.later hx).cell 5⟩)
  have HCA := Lib.hid (show ∀ X : World, Below W.heap.size W X → Calls Tryz.prog 16 #[.agg #[.slice C1 p1 q1, .slice C2 p2 q2], .agg #[.int .i64 k1, .string (ba nm1), .int .i64 v1, .slice A1 n1 c1, .slice B1 m1 d1, .int .i64 rv1]] X fun e w' => ∃ l', e = .returned (.agg l'.toArray) ∧ (∀ w'', Kept (fun b => b < X.heap.size + 3) w' w'' → TFV w'' (.mk k nm v kids ls rv) l' ∧ Tree1 (X.heap.size + 3) l' w'') ∧ Below X.heap.size X w' from fun X hx => by
    have h := apply_anyJ X _ m T0 R0 (hs.keepL (blank_self (hb.trans (hx.mono hb.size)))) (by omega) (.mk k nm v kids ls rv) _ (hta.keep (hb.trans (hx.mono hb.size)).block) (rowsFree0 T0 _) (by rw [pcsT0]; omega)
    rw [apT0] at h
    exact h)
  have HCB := Lib.hid (show ∀ X : World, Below W.heap.size W X → Calls Tryz.prog 16 #[.agg #[.slice C1 p1 q1, .slice C2 p2 q2], .agg #[.int .i64 k2, .string (ba nm2), .int .i64 v2, .slice A2 n2 c2, .slice B2 m2 d2, .int .i64 rv2]] X fun e w' => ∃ l', e = .returned (.agg l'.toArray) ∧ (∀ w'', Kept (fun b => b < X.heap.size + 3) w' w'' → TFV w'' (.mk k' nm' v' kids' ls' rv') l' ∧ Tree1 (X.heap.size + 3) l' w'') ∧ Below X.heap.size X w' from fun X hx => by
    have h := apply_anyJ X _ m T0 R0 (hs.keepL (blank_self (hb.trans (hx.mono hb.size)))) (by omega) (.mk k' nm' v' kids' ls' rv') _ (htb.keep (hb.trans (hx.mono hb.size)).block) (rowsFree0 T0 _) (by rw [pcsT0]; omega)
    rw [apT0] at h
    exact h)
  have HW := Lib.hid hW
  have HB := Lib.hid hb
  have HKX := Lib.hid kx
  have HKA := Lib.hid ka
  have HKB := Lib.hid kb
  have HWZ := Lib.hid hwz
  clear hW hb kx ka kb hwz hlu hl hs hta htb hst hsu hg hm
  go_enter Tryz.func22, Tryz.ntmps22
  go_wp2_with fail
  rw [← HW.out]
  go_upto_region 1 with fail
  refine TillLast.start (S := fun X => (X.cell? ⟨w.heap.size, 0, none⟩ = some (.pointer (some ⟨bu, 0, none⟩))) ∧ (X.cell? ⟨bu, 0, none⟩ = some (.slice C1 p1 q1) ∧ X.cell? ⟨bu, 1, none⟩ = some (.slice C2 p2 q2)) ∧ (X.cell? ⟨w.heap.size + 1, 0, none⟩ = some (.int .i64 k1) ∧ X.cell? ⟨w.heap.size + 1, 1, none⟩ = some (.string (ba nm1)) ∧ X.cell? ⟨w.heap.size + 1, 2, none⟩ = some (.int .i64 v1) ∧ X.cell? ⟨w.heap.size + 1, 3, none⟩ = some (.slice A1 n1 c1) ∧ X.cell? ⟨w.heap.size + 1, 4, none⟩ = some (.slice B1 m1 d1) ∧ X.cell? ⟨w.heap.size + 1, 5, none⟩ = some (.int .i64 rv1)) ∧ (X.cell? ⟨w.heap.size + 1 + 1, 0, none⟩ = some (.int .i64 k2) ∧ X.cell? ⟨w.heap.size + 1 + 1, 1, none⟩ = some (.string (ba nm2)) ∧ X.cell? ⟨w.heap.size + 1 + 1, 2, none⟩ = some (.int .i64 v2) ∧ X.cell? ⟨w.heap.size + 1 + 1, 3, none⟩ = some (.slice A2 n2 c2) ∧ X.cell? ⟨w.heap.size + 1 + 1, 4, none⟩ = some (.slice B2 m2 d2) ∧ X.cell? ⟨w.heap.size + 1 + 1, 5, none⟩ = some (.int .i64 rv2))) (z := 12) (by kernel_rfl) ?_
  have hHeld : (W.drew.cell? ⟨w.heap.size, 0, none⟩ = some (.pointer (some ⟨bu, 0, none⟩))) ∧ (W.drew.cell? ⟨bu, 0, none⟩ = some (.slice C1 p1 q1) ∧ W.drew.cell? ⟨bu, 1, none⟩ = some (.slice C2 p2 q2)) ∧ (W.drew.cell? ⟨w.heap.size + 1, 0, none⟩ = some (.int .i64 k1) ∧ W.drew.cell? ⟨w.heap.size + 1, 1, none⟩ = some (.string (ba nm1)) ∧ W.drew.cell? ⟨w.heap.size + 1, 2, none⟩ = some (.int .i64 v1) ∧ W.drew.cell? ⟨w.heap.size + 1, 3, none⟩ = some (.slice A1 n1 c1) ∧ W.drew.cell? ⟨w.heap.size + 1, 4, none⟩ = some (.slice B1 m1 d1) ∧ W.drew.cell? ⟨w.heap.size + 1, 5, none⟩ = some (.int .i64 rv1)) ∧ (W.drew.cell? ⟨w.heap.size + 1 + 1, 0, none⟩ = some (.int .i64 k2) ∧ W.drew.cell? ⟨w.heap.size + 1 + 1, 1, none⟩ = some (.string (ba nm2)) ∧ W.drew.cell? ⟨w.heap.size + 1 + 1, 2, none⟩ = some (.int .i64 v2) ∧ W.drew.cell? ⟨w.heap.size + 1 + 1, 3, none⟩ = some (.slice A2 n2 c2) ∧ W.drew.cell? ⟨w.heap.size + 1 + 1, 4, none⟩ = some (.slice B2 m2 d2) ∧ W.drew.cell? ⟨w.heap.size + 1 + 1, 5, none⟩ = some (.int .i64 rv2)) := HK.out _ (Below.refl _ _).drew
  refine TillLast.takeT (i := 0) 12 (oi := ⟨some 9, _, _, _, _, _⟩) (v := ?_) rfl (by kernel_rfl) (by kernel_rfl) (by kernel_rfl) (by kernel_rfl) (by kernel_rfl) (by decide) (by kernel_rfl) (fun _ _ _ h => h) (Or.inl ⟨by kernel_rfl, ?_⟩) (by assumption) ?_
  rotate_left
  · (intro w' hSw; (try dsimp only at hSw); go_split_ands; go_simp; first | done | with_reducible rfl)
  try simp only [Act.put, List.setIfInBounds_toArray, List.set_cons_zero, List.set_cons_succ]
  refine TillLast.takeT (i := 1) 12 (oi := ⟨some 10, _, _, _, _, _⟩) (v := ?_) rfl (by kernel_rfl) (by kernel_rfl) (by kernel_rfl) (by kernel_rfl) (by kernel_rfl) (by decide) (by kernel_rfl) (fun _ _ _ h => h) (Or.inl ⟨by kernel_rfl, ?_⟩) (by assumption) ?_
  rotate_left
  · (intro w' hSw; (try dsimp only at hSw); go_split_ands; go_simp; first | done | with_reducible rfl)
  try simp only [Act.put, List.setIfInBounds_toArray, List.set_cons_zero, List.set_cons_succ]
  refine TillLast.takeT (i := 2) 12 (oi := ⟨some 11, _, _, _, _, _⟩) (v := ?_) rfl (by kernel_rfl) (by kernel_rfl) (by kernel_rfl) (by kernel_rfl) (by kernel_rfl) (by decide) (by kernel_rfl) (fun _ _ _ h => h) (Or.inl ⟨by kernel_rfl, ?_⟩) (by assumption) ?_
  rotate_left
  · (intro w' hSw; (try dsimp only at hSw); go_split_ands; go_simp; first | done | with_reducible rfl)
  try simp only [Act.put, List.setIfInBounds_toArray, List.set_cons_zero, List.set_cons_succ]
  refine TillLast.takeT (i := 3) 12 (oi := ⟨some 12, _, _, _, _, _⟩) (v := ?_) rfl (by kernel_rfl) (by kernel_rfl) (by kernel_rfl) (by kernel_rfl) (by kernel_rfl) (by decide) (by kernel_rfl) (fun _ _ _ h => h) (Or.inl ⟨by kernel_rfl, ?_⟩) (by assumption) ?_
  rotate_left
  · (intro w' hSw; (try dsimp only at hSw); go_split_ands; go_simp; first | done | with_reducible rfl)
  try simp only [Act.put, List.setIfInBounds_toArray, List.set_cons_zero, List.set_cons_succ]
  refine TillLast.takeT (i := 4) 12 (oi := ⟨some 13, _, _, _, _, _⟩) (v := ?_) rfl (by kernel_rfl) (by kernel_rfl) (by kernel_rfl) (by kernel_rfl) (by kernel_rfl) (by decide) (by kernel_rfl) (fun _ _ _ h => h) (Or.inl ⟨by kernel_rfl, ?_⟩) (by assumption) ?_
  rotate_left
  · (intro w' hSw; (try dsimp only at hSw); go_split_ands; go_simp; first | done | with_reducible rfl)
  try simp only [Act.put, List.setIfInBounds_toArray, List.set_cons_zero, List.set_cons_succ]
  refine TillLast.takeT (i := 6) 12 (oi := ⟨some 15, _, _, _, _, _⟩) (v := ?_) rfl (by kernel_rfl) (by kernel_rfl) (by kernel_rfl) (by kernel_rfl) (by kernel_rfl) (by decide) (by kernel_rfl) (fun _ _ _ h => h) (Or.inl ⟨by kernel_rfl, ?_⟩) (by assumption) ?_
  rotate_left
  · (intro w' hSw; (try dsimp only at hSw); go_split_ands; go_simp; first | done | with_reducible rfl)
  try simp only [Act.put, List.setIfInBounds_toArray, List.set_cons_zero, List.set_cons_succ]
  refine TillLast.takeT (i := 7) 12 (oi := ⟨some 16, _, _, _, _, _⟩) (v := ?_) rfl (by kernel_rfl) (by kernel_rfl) (by kernel_rfl) (by kernel_rfl) (by kernel_rfl) (by decide) (by kernel_rfl) (fun _ _ _ h => h) (Or.inl ⟨by kernel_rfl, ?_⟩) (by assumption) ?_
  rotate_left
  · (intro w' hSw; (try dsimp only at hSw); go_split_ands; go_simp; first | done | with_reducible rfl)
  try simp only [Act.put, List.setIfInBounds_toArray, List.set_cons_zero, List.set_cons_succ]
  refine TillLast.takeT (i := 8) 12 (oi := ⟨some 17, _, _, _, _, _⟩) (v := ?_) rfl (by kernel_rfl) (by kernel_rfl) (by kernel_rfl) (by kernel_rfl) (by kernel_rfl) (by decide) (by kernel_rfl) (fun _ _ _ h => h) (Or.inl ⟨by kernel_rfl, ?_⟩) (by assumption) ?_
  rotate_left
  · (intro w' hSw; (try dsimp only at hSw); go_split_ands; go_simp; first | done | with_reducible rfl)
  try simp only [Act.put, List.setIfInBounds_toArray, List.set_cons_zero, List.set_cons_succ]
  refine TillLast.takeT (i := 9) 12 (oi := ⟨some 18, _, _, _, _, _⟩) (v := ?_) rfl (by kernel_rfl) (by kernel_rfl) (by kernel_rfl) (by kernel_rfl) (by kernel_rfl) (by decide) (by kernel_rfl) (fun _ _ _ h => h) (Or.inl ⟨by kernel_rfl, ?_⟩) (by assumption) ?_
  rotate_left
  · (intro w' hSw; (try dsimp only at hSw); go_split_ands; go_simp; first | done | with_reducible rfl)
  try simp only [Act.put, List.setIfInBounds_toArray, List.set_cons_zero, List.set_cons_succ]
  refine TillLast.takeT (i := 10) 12 (oi := ⟨some 19, _, _, _, _, _⟩) (v := ?_) rfl (by kernel_rfl) (by kernel_rfl) (by kernel_rfl) (by kernel_rfl) (by kernel_rfl) (by decide) (by kernel_rfl) (fun _ _ _ h => h) (Or.inl ⟨by kernel_rfl, ?_⟩) (by assumption) ?_
  rotate_left
  · (intro w' hSw; (try dsimp only at hSw); go_split_ands; go_simp; first | done | with_reducible rfl)
  try simp only [Act.put, List.setIfInBounds_toArray, List.set_cons_zero, List.set_cons_succ]
  refine TillLast.ready (rs := [5]) (by kernel_rfl) (by simp) ?_
  refine NextAll.cons (o := ⟨some 14, _, _, _, _, _⟩) rfl (fun K hK => ?_) NextAll.nil
  go_simp
  go_at_call 16
  refine (HCA.out _ (Below.refl _ _).drew).mono ?_
  rintro e x4 ⟨l5, rfl, ho5, hba⟩
  obtain ⟨A3, n3, c3, B3, m3, d3, rfl⟩ := (ho5 x4 ⟨Nat.le_refl _, fun _ _ _ => rfl⟩).1.trv.shape
  have hb4 : Below W.heap.size W x4 := (Below.refl _ _).drew.trans hba
  have HB34 := Lib.hid hb4.size
  have HO5 := Lib.hid ho5
  unfold tyC
  refine hK.out _ _ (fun _ => HK.out _ hb4) ?_
  clear hK K hHeld ho5 hba
  try simp only [Act.put, List.setIfInBounds_toArray, List.set_cons_zero, List.set_cons_succ]
  refine TillLast.ready (rs := [11]) (by kernel_rfl) (by simp) ?_
  refine NextAll.cons (o := ⟨some 20, _, _, _, _, _⟩) rfl (fun K hK => ?_) NextAll.nil
  go_simp
  go_at_call 16
  refine (HCB.out _ hb4).mono ?_
  rintro e x5 ⟨l6, rfl, ho6, hba⟩
  obtain ⟨A4, n4, c4, B4, m4, d4, rfl⟩ := (ho6 x5 ⟨Nat.le_refl _, fun _ _ _ => rfl⟩).1.trv.shape
  have hb5 : Below W.heap.size W x5 := hb4.trans (hba.mono hb4.size)
  have HO6 := Lib.hid ho6
  have HB45 := Lib.hid hba
  have HB5 := Lib.hid hb5
  unfold tyC
  refine hK.out _ _ (fun _ => HK.out _ hb5) ?_
  clear hK K ho6 hba hb4 hb5
  try simp only [Act.put, List.setIfInBounds_toArray, List.set_cons_zero, List.set_cons_succ]
  refine TillLast.ready (rs := [12]) (by kernel_rfl) (by simp) ?_
  refine NextAll.cons (o := ⟨none, _, _, _, _, _⟩) rfl (fun K hK => ?_) NextAll.nil
  rw [if_pos (by kernel_rfl)]
  refine wp_store_row _ _ _ rfl (w.heap.size + 1) #[.int .i64 k, .string (ba nm), .int .i64 v, .slice A3 n3 c3, .slice B3 m3 d3, .int .i64 rv] rfl rfl 44 #[.int .i64 k1, .string (ba nm1), .int .i64 v1, .slice A1 n1 c1, .slice B1 m1 d1, .int .i64 rv1] (HKA.out.later HB5.out) (by kernel_rfl) rfl (by simp [Value.oneCell']) ?_
  obtain ⟨x6, hx6⟩ : ∃ X, X = x5.setRow (w.heap.size + 1) #[.int .i64 k, .string (ba nm), .int .i64 v, .slice A3 n3 c3, .slice B3 m3 d3, .int .i64 rv] := ⟨_, rfl⟩
  rw [← hx6]
  have HX6 := Lib.hid hx6
  clear hx6
  refine hK.out _ _ (fun h => absurd (h.symm.trans (by kernel_rfl : _ = true)) (by decide)) ?_
  clear hK K
  try simp only [Act.put]
  refine TillLast.ready (rs := [13]) (by kernel_rfl) (by simp) ?_
  refine NextAll.cons (o := ⟨none, _, _, _, _, _⟩) rfl (fun K hK => ?_) NextAll.nil
  rw [if_pos (by kernel_rfl)]
  refine wp_store_row _ _ _ rfl (w.heap.size + 1 + 1) #[.int .i64 k', .string (ba nm'), .int .i64 v', .slice A4 n4 c4, .slice B4 m4 d4, .int .i64 rv'] rfl rfl 44 #[.int .i64 k2, .string (ba nm2), .int .i64 v2, .slice A2 n2 c2, .slice B2 m2 d2, .int .i64 rv2] (by rw [HX6.out]; exact (Sb.setRow_far (HKB.out.later HB5.out) _ (by omega))) (by kernel_rfl) rfl (by simp [Value.oneCell']) ?_
  obtain ⟨x7, hx7⟩ : ∃ X, X = x6.setRow (w.heap.size + 1 + 1) #[.int .i64 k', .string (ba nm'), .int .i64 v', .slice A4 n4 c4, .slice B4 m4 d4, .int .i64 rv'] := ⟨_, rfl⟩
  rw [← hx7]
  have HX7 := Lib.hid hx7
  clear hx7
  refine hK.out _ _ (fun h => absurd (h.symm.trans (by kernel_rfl : _ = true)) (by decide)) ?_
  clear hK K
  try simp only [Act.put]
  refine TillLast.done (by kernel_rfl) ?_ _
  have hf7 : ∀ i, i ≠ w.heap.size + 1 → i ≠ w.heap.size + 1 + 1 → x7.heap[i]? = x5.heap[i]? := fun i h1 h2 => by
    rw [HX7.out, HX6.out]
    exact (Sb.setRow_other _ _ _ _ h2).trans (Sb.setRow_other _ _ _ _ h1)
  have hws := HB.out.size
  have hw5 := HB5.out.size
  have hwz := HWZ.out
  have hz7 : x7.heap.size = x5.heap.size := by rw [HX7.out, HX6.out]; simp [World.setRow]
  have hkx : Lies x7 w.heap.size _ _ := (hf7 _ (by omega) (by omega)).trans (HKX.out.later HB5.out)
  have hka : Lies x7 (w.heap.size + 1) 44 #[.int .i64 k, .string (ba nm), .int .i64 v, .slice A3 n3 c3, .slice B3 m3 d3, .int .i64 rv] := by rw [HX7.out]; exact Sb.setRow_far (by rw [HX6.out]; exact Sb.setRow_at (HKA.out.later HB5.out) _) _ (by omega)
  have hkb : Lies x7 (w.heap.size + 1 + 1) 44 #[.int .i64 k', .string (ba nm'), .int .i64 v', .slice A4 n4 c4, .slice B4 m4 d4, .int .i64 rv'] := by rw [HX7.out]; exact Sb.setRow_at (by rw [HX6.out]; exact Sb.setRow_far (HKB.out.later HB5.out) _ (by omega)) _
  have hb7 : Below w.heap.size w x7 := by
    have h0 := HB.out.trans (HB5.out.mono HB.out.size)
    exact ⟨by rw [HX7.out, HX6.out]; exact h0.os, by rw [HX7.out, HX6.out]; exact h0.tape, by rw [HX7.out, HX6.out]; exact h0.output, by rw [hz7]; exact h0.size, fun i hi => (hf7 i (by omega) (by omega)).trans (h0.block i hi)⟩

  have h34 := HB34.out
  have hbu := HBU.out
  have hdw : W.drew.heap.size = w.heap.size + 4 := by rw [← hwz]; rfl
  have hkep4 : Kept (fun b => b < w.heap.size + 7) x4 x7 := ⟨by have := HB45.out.size; omega, fun b hb hn => (hf7 b (fun e => hn (by show b < w.heap.size + 7; omega)) (fun e => hn (by show b < w.heap.size + 7; omega))).trans (HB45.out.block b hb)⟩
  have hkep5 : Kept (fun b => b < x4.heap.size + 3) x5 x7 := ⟨by omega, fun b hb hn => hf7 b (fun e => hn (by show b < x4.heap.size + 3; omega)) (fun e => hn (by show b < x4.heap.size + 3; omega))⟩
  have HOA := Lib.hid (show (∀ X, Kept (fun b => b < w.heap.size + 7) x4 X → TFV X (.mk k nm v kids ls rv) (tyC k nm v (.slice A3 n3 c3) (.slice B3 m3 d3) rv) ∧ Tree1 (w.heap.size + 7) (tyC k nm v (.slice A3 n3 c3) (.slice B3 m3 d3) rv) X) from fun X hX => by
    have h := HO5.out X (by rw [hdw]; exact hX)
    rw [hdw] at h
    exact h)
  have HOB := Lib.hid (show (∀ X, Kept (fun b => b < x4.heap.size + 3) x5 X → TFV X (.mk k' nm' v' kids' ls' rv') (tyC k' nm' v' (.slice A4 n4 c4) (.slice B4 m4 d4) rv')) from fun X hX => (HO6.out X hX).1)
  have hsame := same_two x7 x7 (Below.refl _ _) (.mk k nm v kids ls rv) (.mk k' nm' v' kids' ls' rv') _ _ (w.heap.size + 7) x4.heap.size (fun b => ¬ b < x4.heap.size + 3 ∧ b < x7.heap.size) (HOA.out x7 hkep4).1 (Tree2.of (HOA.out x4 ⟨Nat.le_refl _, fun _ _ _ => rfl⟩).2 hkep4) (by have := HB45.out.size; omega) (fun g _ h2 h3 => h3.1 (by omega)) (fun b hb => hb.2) (HOB.out x7 hkep5).trv (tbk_of (X := fun b => b < x4.heap.size + 3) (HOB.out _ (kept_blank_s hkep5))) (by have := HSZ.out; omega)
  unfold tyC at hsame
  have a0 := hka.cell 0
  have a1 := hka.cell 1
  have a2 := hka.cell 2
  have a3 := hka.cell 3
  have a4 := hka.cell 4
  have a5 := hka.cell 5
  have b0 := hkb.cell 0
  have b1 := hkb.cell 1
  have b2 := hkb.cell 2
  have b3 := hkb.cell 3
  have b4 := hkb.cell 4
  have b5 := hkb.cell 5
  have hkl : Lies x7 (w.heap.size + 1 + 1 + 1) 3 #[.int .i64 lvl] := (hf7 _ (by omega) (by omega)).trans (HKL.out.later HB5.out)
  have HSM := Lib.hid hsame
  have HKX7 := Lib.hid hkx
  have HKA7 := Lib.hid hka
  have HKB7 := Lib.hid hkb
  have HKL7 := Lib.hid hkl
  have HB7 := Lib.hid hb7
  have HK4 := Lib.hid hkep4
  have HK5 := Lib.hid hkep5
  have HSZ7 := Lib.hid (And.intro hbu (And.intro h34 hdw))
  have HWS := Lib.hid (show x7.heap.size = x5.heap.size ∧ w.heap.size + 4 = W.heap.size ∧ W.heap.size ≤ x4.heap.size ∧ x4.heap.size ≤ x5.heap.size from ⟨hz7, by omega, by omega, HB45.out.size⟩)
  clear hf7 hws hw5 hwz hz7 HX6 HX7 HO6 HO5 HB5 HB45 h34 hkx hka hkb hkl hb7 hkep4 hkep5 HB34 hsame hbu hdw HKX HKA HKB HKL HWZ HBU
  go_wp2_with fail
  refine HSM.out.mono ?_
  rintro e x8 ⟨sb, rfl, hsb, hb8⟩
  have HSB := Lib.hid hsb
  have HB8 := Lib.hid hb8
  have HBW8 := Lib.hid (HB7.out.trans (hb8.mono HB7.out.size))
  clear hsb HSM
  have a0 := (HKA7.out.later hb8).cell 0
  have a1 := (HKA7.out.later hb8).cell 1
  have a2 := (HKA7.out.later hb8).cell 2
  have a3 := (HKA7.out.later hb8).cell 3
  have a4 := (HKA7.out.later hb8).cell 4
  have a5 := (HKA7.out.later hb8).cell 5
  have b0 := (HKB7.out.later hb8).cell 0
  have b1 := (HKB7.out.later hb8).cell 1
  have b2 := (HKB7.out.later hb8).cell 2
  have b3 := (HKB7.out.later hb8).cell 3
  have b4 := (HKB7.out.later hb8).cell 4
  have b5 := (HKB7.out.later hb8).cell 5
  have q0 := (HKX7.out.later hb8).cell 0
  have l0 := (HKL7.out.later hb8).cell 0
  clear hb8

  have ht7 := HT7.out
  unfold tvT at ht7
  injection ht7 with e1 e2 e3 e4 e5 e6
  have hg := HGG.out
  rw [gr] at hg
  have hk7 := hg.1.1
  have hne : ¬ (.mk k nm v kids ls rv : Ty) = .mk k' nm' v' kids' ls' rv' := fun h => by injection h with h _; exact hk7 (h.trans e1)
  cases sb
  case true => exact absurd (HSB.out.1 rfl) hne
  case false =>
    have hkb7 : (k == 7) = false := by simpa using hk7
    have hb8 := HB8.out
    have hbt := beTypeG_any x8 bu m nx (HU.out.later HBW8.out) HM.out n HN0.out _ _ (HOA.out x8 (kept_below HK4.out hb8)).1 HGG.out HSZ.out.1
    rw [← HUU.out] at hbt
    unfold tyC at hbt
    have HBT := Lib.hid hbt
    subst e1 e3
    clear hbt hb8 hne hg hk7
    go_wp2_with fail
    refine HBT.out.mono ?_
    rintro e x9 ⟨rfl, h1, h2⟩
    have H1 := Lib.hid h1
    have H2 := Lib.hid h2
    clear h1 h2
    go_wp2
    go_ret
    exact ⟨rfl, H1.out, below_grown HBW8.out H2.out⟩
end Go.Proofs.YtpbhndmfmnfeoaaGreat.Ug
