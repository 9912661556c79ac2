/- types at two types without variables. -/
import Derived.Test.YtpbhndmfmnfeoaaGreatUnGp
import Derived.Test.YtpbhndmfmnfeoaaGreatMg33
import Derived.Outline
namespace Go.Proofs.YtpbhndmfmnfeoaaGreat.Ug
open Go.RowKit Si Sf

/-- What types answers at two types without variables, which are said to be one or not. -/
def TEnd (w : World) (bu M : Nat) (nx : Int) (q : Prop) (e : Ending) (w' : World) : Prop :=
  ∃ err, e = .returned (.int .i64 err) ∧ ((err ≠ 0 → err = 5 ∧ ¬ q) ∧ (err = 0 → q ∧ UnV w' bu M R0 nx)) ∧ w.grownBy w' (some bu)
theorem kept_of {s : Nat} {w X Y : World} {bu : Nat} (h : Kept (fun b => b < s) w X) (hg : X.grownBy Y (some bu)) (hbu : bu < s) : Kept (fun b => b < s) w Y :=
  ⟨Nat.le_trans h.1 hg.size, fun b hb hn => (hg.block b (Nat.lt_of_lt_of_le hb h.1) (fun e => hn (by have := Option.some.inj e; show b < s; omega))).trans (h.2 b hb hn)⟩
theorem kept_below {s : Nat} {w X Y : World} (h : Kept (fun b => b < s) w X) (hg : Below X.heap.size X Y) : Kept (fun b => b < s) w Y :=
  ⟨Nat.le_trans h.1 hg.size, fun b hb hn => (hg.block b (Nat.lt_of_lt_of_le hb h.1)).trans (h.2 b hb hn)⟩
theorem str_at {X : World} {k : Int} {nm : Str} {v : Int} {kids : List Ty} {ls : List Str} {rv : Int} {k' : Int} {nm' : Str} {v' : Int} {kv lv : Value} {rv' : Int} (h : TFV X (.mk k nm v kids ls rv) (tyC k' nm' v' kv lv rv')) : StrR X lv ls := by
  obtain ⟨kv2, lv2, e, _, hl, _⟩ := h
  unfold tyC at e
  simp only [List.cons.injEq] at e
  obtain ⟨_, _, _, _, rfl, _⟩ := e
  exact hl
theorem two_of {l : List Ty} (h : l.length = 2) : ∃ a b, l = [a, b] := by
  match l, h with
  | [a, b], _ => exact ⟨a, b, rfl⟩
theorem one_of {l : List Ty} (h : l.length = 1) : ∃ a, l = [a] := by
  match l, h with
  | [a], _ => exact ⟨a, rfl⟩
set_option maxRecDepth 100000 in
set_option maxHeartbeats 16000000 in
theorem types_in : ∀ (N : Nat) (t u : Ty) (w : World) (bu m : Nat) (nx lvl : Int) (la lb : List Value), t.size ≤ N → t.size ≤ 100 → u.size ≤ 100 → gr t → gr u → UnV w bu m R0 nx → m + 4 * t.size ≤ 900 → 0 ≤ lvl ∧ lvl + t.size ≤ 200 → (0 < nx ∧ nx ≤ 1000000) → TRV w t la → TRV w u lb →
    Calls Tryz.prog 22 #[.pointer (some ⟨bu, 0, none⟩), .agg la.toArray, .agg lb.toArray, .int .i64 lvl] w (TEnd w bu (m + 4 * t.size) nx (t = u))
  | 0, t, _, _, _, _, _, _, _, _, h, _, _, _, _, _, _, _, _, _, _ => by obtain ⟨k, nm, v, kids, ls, rv⟩ := t; simp only [Ty.size] at h; omega
  | N + 1, t, u, w, bu, m, nx, lvl, la, lb, hsz, hst, hsu, hg, hg', hu, hm, hlv, hnx, hta, htb => by
    have ih := types_in N
    have HU := Lib.hid hu
    have HM := Lib.hid hm
    have HLV := Lib.hid hlv
    have HNX := Lib.hid hnx
    obtain ⟨C1, p1, q1, C2, p2, q2, hl, hs⟩ := hu
    have hbu := hl.lt
    obtain ⟨k1, nm1, v1, A1, n1, c1, B1, m1, d1, rv1, rfl⟩ := hta.form
    obtain ⟨k2, nm2, v2, A2, n2, c2, B2, m2, d2, rv2, rfl⟩ := htb.form
    obtain ⟨k, nm, v, kids, ls, rv⟩ := t
    obtain ⟨k', nm', v', kids', ls', rv'⟩ := u
    have HBU := Lib.hid hbu
    have HG := Lib.hid hg
    have HG' := Lib.hid hg'
    have IH := Lib.hid ih
    obtain ⟨QQ, hQQ⟩ : ∃ QQ : Prop, QQ = (Ty.mk k nm v kids ls rv = Ty.mk k' nm' v' kids' ls' rv') := ⟨_, rfl⟩
    obtain ⟨MM, hMM⟩ : ∃ MM, MM = m + 4 * (Ty.mk k nm v kids ls rv).size := ⟨_, rfl⟩
    rw [← hQQ, ← hMM]
    have HQQ := Lib.hid hQQ
    have HMM := Lib.hid hMM
    clear hQQ hMM
    have HSZ := Lib.hid (And.intro hsz (And.intro hst hsu))
    clear hnx
    obtain ⟨W, hW⟩ : ∃ W, W = (((w.alloc (.cells #[.pointer (some ⟨bu, 0, none⟩)] 65)).alloc (.cells #[.int .i64 k1, .string (ba nm1), .int .i64 v1, .slice A1 n1 c1, .slice B1 m1 d1, .int .i64 rv1] 44)).alloc (.cells #[.int .i64 k2, .string (ba nm2), .int .i64 v2, .slice A2 n2 c2, .slice B2 m2 d2, .int .i64 rv2] 44)).alloc (.cells #[.int .i64 lvl] 3) := ⟨_, rfl⟩
    have hb : Below w.heap.size w W := by rw [hW]; exact ((((Below.refl _ w).alloc (Nat.le_refl _) _).alloc (by simp) _).alloc (by simp; omega) _).alloc (by simp; omega) _
    have kx : Lies W w.heap.size 65 #[.pointer (some ⟨bu, 0, none⟩)] := by rw [hW]; exact (((Lies.new _ _ _).alloc _).alloc _).alloc _
    have ka : Lies W (w.heap.size + 1) 44 #[.int .i64 k1, .string (ba nm1), .int .i64 v1, .slice A1 n1 c1, .slice B1 m1 d1, .int .i64 rv1] := by rw [hW]; exact ((Lies.new' _ _ _ (by simp)).alloc _).alloc _
    have kb : Lies W (w.heap.size + 1 + 1) 44 #[.int .i64 k2, .string (ba nm2), .int .i64 v2, .slice A2 n2 c2, .slice B2 m2 d2, .int .i64 rv2] := by rw [hW]; exact (Lies.new' _ _ _ (by simp)).alloc _
    have HKL := Lib.hid (show Lies W (w.heap.size + 1 + 1 + 1) 3 #[.int .i64 lvl] from by rw [hW]; exact Lies.new' _ _ _ (by simp))
    have hwz : W.heap.size = w.heap.size + 4 := by rw [hW]; simp
    have hlu := hl.later hb
    have HK := Lib.hid (show ∀ X : World, Below W.heap.size W X → (X.cell? ⟨w.heap.size, 0, none⟩ = some (.pointer (some ⟨bu, 0, none⟩))) ∧ (X.cell? ⟨bu, 0, none⟩ = some (.slice C1 p1 q1) ∧ X.cell? ⟨bu, 1, none⟩ = some (.slice C2 p2 q2)) ∧ (X.cell? ⟨w.heap.size + 1, 0, none⟩ = some (.int .i64 k1) ∧ X.cell? ⟨w.heap.size + 1, 1, none⟩ = some (.string (ba nm1)) ∧ X.cell? ⟨w.heap.size + 1, 2, none⟩ = some (.int .i64 v1) ∧ X.cell? ⟨w.heap.size + 1, 3, none⟩ = some (.slice A1 n1 c1) ∧ X.cell? ⟨w.heap.size + 1, 4, none⟩ = some (.slice B1 m1 d1) ∧ X.cell? ⟨w.heap.size + 1, 5, none⟩ = some (.int .i64 rv1)) ∧ (X.cell? ⟨w.heap.size + 1 + 1, 0, none⟩ = some (.int .i64 k2) ∧ X.cell? ⟨w.heap.size + 1 + 1, 1, none⟩ = some (.string (ba nm2)) ∧ X.cell? ⟨w.heap.size + 1 + 1, 2, none⟩ = some (.int .i64 v2) ∧ X.cell? ⟨w.heap.size + 1 + 1, 3, none⟩ = some (.slice A2 n2 c2) ∧ X.cell? ⟨w.heap.size + 1 + 1, 4, none⟩ = some (.slice B2 m2 d2) ∧ X.cell? ⟨w.heap.size + 1 + 1, 5, none⟩ = some (.int .i64 rv2)) from fun X hx => ⟨(kx.later hx).cell 0, ⟨(hlu.later hx).cell 0, (hlu.later hx).cell 1⟩, ⟨(ka.later hx).cell 0, (ka.later hx).cell 1, (ka.later hx).cell 2, (ka.later hx).cell 3, (ka.later hx).cell 4, (ka.later hx).cell 5⟩, (kb.later hx).cell 0, (kb.later hx).cell 1, (kb.later hx).cell 2, (kb.later hx).cell 3, (kb.later hx).cell 4, (kb.later hx).cell 5⟩)
    have HCA := Lib.hid (show ∀ X : World, Below W.heap.size W X → Calls Tryz.prog 16 #[.agg #[.slice C1 p1 q1, .slice C2 p2 q2], .agg #[.int .i64 k1, .string (ba nm1), .int .i64 v1, .slice A1 n1 c1, .slice B1 m1 d1, .int .i64 rv1]] X fun e w' => ∃ l', e = .returned (.agg l'.toArray) ∧ (∀ w'', Kept (fun b => b < X.heap.size + 3) w' w'' → TFV w'' (.mk k nm v kids ls rv) l' ∧ Tree1 (X.heap.size + 3) l' w'') ∧ Below X.heap.size X w' from fun X hx => by
      have h := apply_anyJ X _ m T0 R0 (hs.keepL (blank_self (hb.trans (hx.mono hb.size)))) (by omega) (.mk k nm v kids ls rv) _ (hta.keep (hb.trans (hx.mono hb.size)).block) (rowsFree0 T0 _) (by rw [pcsT0]; omega)
      rw [apT0] at h
      exact h)
    have HCB := Lib.hid (show ∀ X : World, Below W.heap.size W X → Calls Tryz.prog 16 #[.agg #[.slice C1 p1 q1, .slice C2 p2 q2], .agg #[.int .i64 k2, .string (ba nm2), .int .i64 v2, .slice A2 n2 c2, .slice B2 m2 d2, .int .i64 rv2]] X fun e w' => ∃ l', e = .returned (.agg l'.toArray) ∧ (∀ w'', Kept (fun b => b < X.heap.size + 3) w' w'' → TFV w'' (.mk k' nm' v' kids' ls' rv') l' ∧ Tree1 (X.heap.size + 3) l' w'') ∧ Below X.heap.size X w' from fun X hx => by
      have h := apply_anyJ X _ m T0 R0 (hs.keepL (blank_self (hb.trans (hx.mono hb.size)))) (by omega) (.mk k' nm' v' kids' ls' rv') _ (htb.keep (hb.trans (hx.mono hb.size)).block) (rowsFree0 T0 _) (by rw [pcsT0]; omega)
      rw [apT0] at h
      exact h)
    have HW := Lib.hid hW
    have HB := Lib.hid hb
    have HKX := Lib.hid kx
    have HKA := Lib.hid ka
    have HKB := Lib.hid kb
    have HWZ := Lib.hid hwz
    clear hW hb kx ka kb hwz hlu hl hs hta htb ih hsz hst hsu hg hg' hm hlv
    go_enter Tryz.func22, Tryz.ntmps22
    go_wp2_with fail
    rw [← HW.out]
    go_upto_region 1 with fail
    refine TillLast.start (S := fun X => (X.cell? ⟨w.heap.size, 0, none⟩ = some (.pointer (some ⟨bu, 0, none⟩))) ∧ (X.cell? ⟨bu, 0, none⟩ = some (.slice C1 p1 q1) ∧ X.cell? ⟨bu, 1, none⟩ = some (.slice C2 p2 q2)) ∧ (X.cell? ⟨w.heap.size + 1, 0, none⟩ = some (.int .i64 k1) ∧ X.cell? ⟨w.heap.size + 1, 1, none⟩ = some (.string (ba nm1)) ∧ X.cell? ⟨w.heap.size + 1, 2, none⟩ = some (.int .i64 v1) ∧ X.cell? ⟨w.heap.size + 1, 3, none⟩ = some (.slice A1 n1 c1) ∧ X.cell? ⟨w.heap.size + 1, 4, none⟩ = some (.slice B1 m1 d1) ∧ X.cell? ⟨w.heap.size + 1, 5, none⟩ = some (.int .i64 rv1)) ∧ (X.cell? ⟨w.heap.size + 1 + 1, 0, none⟩ = some (.int .i64 k2) ∧ X.cell? ⟨w.heap.size + 1 + 1, 1, none⟩ = some (.string (ba nm2)) ∧ X.cell? ⟨w.heap.size + 1 + 1, 2, none⟩ = some (.int .i64 v2) ∧ X.cell? ⟨w.heap.size + 1 + 1, 3, none⟩ = some (.slice A2 n2 c2) ∧ X.cell? ⟨w.heap.size + 1 + 1, 4, none⟩ = some (.slice B2 m2 d2) ∧ X.cell? ⟨w.heap.size + 1 + 1, 5, none⟩ = some (.int .i64 rv2))) (z := 12) (by kernel_rfl) ?_
    have hHeld : (W.drew.cell? ⟨w.heap.size, 0, none⟩ = some (.pointer (some ⟨bu, 0, none⟩))) ∧ (W.drew.cell? ⟨bu, 0, none⟩ = some (.slice C1 p1 q1) ∧ W.drew.cell? ⟨bu, 1, none⟩ = some (.slice C2 p2 q2)) ∧ (W.drew.cell? ⟨w.heap.size + 1, 0, none⟩ = some (.int .i64 k1) ∧ W.drew.cell? ⟨w.heap.size + 1, 1, none⟩ = some (.string (ba nm1)) ∧ W.drew.cell? ⟨w.heap.size + 1, 2, none⟩ = some (.int .i64 v1) ∧ W.drew.cell? ⟨w.heap.size + 1, 3, none⟩ = some (.slice A1 n1 c1) ∧ W.drew.cell? ⟨w.heap.size + 1, 4, none⟩ = some (.slice B1 m1 d1) ∧ W.drew.cell? ⟨w.heap.size + 1, 5, none⟩ = some (.int .i64 rv1)) ∧ (W.drew.cell? ⟨w.heap.size + 1 + 1, 0, none⟩ = some (.int .i64 k2) ∧ W.drew.cell? ⟨w.heap.size + 1 + 1, 1, none⟩ = some (.string (ba nm2)) ∧ W.drew.cell? ⟨w.heap.size + 1 + 1, 2, none⟩ = some (.int .i64 v2) ∧ W.drew.cell? ⟨w.heap.size + 1 + 1, 3, none⟩ = some (.slice A2 n2 c2) ∧ W.drew.cell? ⟨w.heap.size + 1 + 1, 4, none⟩ = some (.slice B2 m2 d2) ∧ W.drew.cell? ⟨w.heap.size + 1 + 1, 5, none⟩ = some (.int .i64 rv2)) := HK.out _ (Below.refl _ _).drew
    refine TillLast.takeT (i := 0) 12 (oi := ⟨some 9, _, _, _, _, _⟩) (v := ?_) rfl (by kernel_rfl) (by kernel_rfl) (by kernel_rfl) (by kernel_rfl) (by kernel_rfl) (by decide) (by kernel_rfl) (fun _ _ _ h => h) (Or.inl ⟨by kernel_rfl, ?_⟩) (by assumption) ?_
    rotate_left
    · (intro w' hSw; (try dsimp only at hSw); go_split_ands; go_simp; first | done | with_reducible rfl)
    try simp only [Act.put, List.setIfInBounds_toArray, List.set_cons_zero, List.set_cons_succ]
    refine TillLast.takeT (i := 1) 12 (oi := ⟨some 10, _, _, _, _, _⟩) (v := ?_) rfl (by kernel_rfl) (by kernel_rfl) (by kernel_rfl) (by kernel_rfl) (by kernel_rfl) (by decide) (by kernel_rfl) (fun _ _ _ h => h) (Or.inl ⟨by kernel_rfl, ?_⟩) (by assumption) ?_
    rotate_left
    · (intro w' hSw; (try dsimp only at hSw); go_split_ands; go_simp; first | done | with_reducible rfl)
    try simp only [Act.put, List.setIfInBounds_toArray, List.set_cons_zero, List.set_cons_succ]
    refine TillLast.takeT (i := 2) 12 (oi := ⟨some 11, _, _, _, _, _⟩) (v := ?_) rfl (by kernel_rfl) (by kernel_rfl) (by kernel_rfl) (by kernel_rfl) (by kernel_rfl) (by decide) (by kernel_rfl) (fun _ _ _ h => h) (Or.inl ⟨by kernel_rfl, ?_⟩) (by assumption) ?_
    rotate_left
    · (intro w' hSw; (try dsimp only at hSw); go_split_ands; go_simp; first | done | with_reducible rfl)
    try simp only [Act.put, List.setIfInBounds_toArray, List.set_cons_zero, List.set_cons_succ]
    refine TillLast.takeT (i := 3) 12 (oi := ⟨some 12, _, _, _, _, _⟩) (v := ?_) rfl (by kernel_rfl) (by kernel_rfl) (by kernel_rfl) (by kernel_rfl) (by kernel_rfl) (by decide) (by kernel_rfl) (fun _ _ _ h => h) (Or.inl ⟨by kernel_rfl, ?_⟩) (by assumption) ?_
    rotate_left
    · (intro w' hSw; (try dsimp only at hSw); go_split_ands; go_simp; first | done | with_reducible rfl)
    try simp only [Act.put, List.setIfInBounds_toArray, List.set_cons_zero, List.set_cons_succ]
    refine TillLast.takeT (i := 4) 12 (oi := ⟨some 13, _, _, _, _, _⟩) (v := ?_) rfl (by kernel_rfl) (by kernel_rfl) (by kernel_rfl) (by kernel_rfl) (by kernel_rfl) (by decide) (by kernel_rfl) (fun _ _ _ h => h) (Or.inl ⟨by kernel_rfl, ?_⟩) (by assumption) ?_
    rotate_left
    · (intro w' hSw; (try dsimp only at hSw); go_split_ands; go_simp; first | done | with_reducible rfl)
    try simp only [Act.put, List.setIfInBounds_toArray, List.set_cons_zero, List.set_cons_succ]
    refine TillLast.takeT (i := 6) 12 (oi := ⟨some 15, _, _, _, _, _⟩) (v := ?_) rfl (by kernel_rfl) (by kernel_rfl) (by kernel_rfl) (by kernel_rfl) (by kernel_rfl) (by decide) (by kernel_rfl) (fun _ _ _ h => h) (Or.inl ⟨by kernel_rfl, ?_⟩) (by assumption) ?_
    rotate_left
    · (intro w' hSw; (try dsimp only at hSw); go_split_ands; go_simp; first | done | with_reducible rfl)
    try simp only [Act.put, List.setIfInBounds_toArray, List.set_cons_zero, List.set_cons_succ]
    refine TillLast.takeT (i := 7) 12 (oi := ⟨some 16, _, _, _, _, _⟩) (v := ?_) rfl (by kernel_rfl) (by kernel_rfl) (by kernel_rfl) (by kernel_rfl) (by kernel_rfl) (by decide) (by kernel_rfl) (fun _ _ _ h => h) (Or.inl ⟨by kernel_rfl, ?_⟩) (by assumption) ?_
    rotate_left
    · (intro w' hSw; (try dsimp only at hSw); go_split_ands; go_simp; first | done | with_reducible rfl)
    try simp only [Act.put, List.setIfInBounds_toArray, List.set_cons_zero, List.set_cons_succ]
    refine TillLast.takeT (i := 8) 12 (oi := ⟨some 17, _, _, _, _, _⟩) (v := ?_) rfl (by kernel_rfl) (by kernel_rfl) (by kernel_rfl) (by kernel_rfl) (by kernel_rfl) (by decide) (by kernel_rfl) (fun _ _ _ h => h) (Or.inl ⟨by kernel_rfl, ?_⟩) (by assumption) ?_
    rotate_left
    · (intro w' hSw; (try dsimp only at hSw); go_split_ands; go_simp; first | done | with_reducible rfl)
    try simp only [Act.put, List.setIfInBounds_toArray, List.set_cons_zero, List.set_cons_succ]
    refine TillLast.takeT (i := 9) 12 (oi := ⟨some 18, _, _, _, _, _⟩) (v := ?_) rfl (by kernel_rfl) (by kernel_rfl) (by kernel_rfl) (by kernel_rfl) (by kernel_rfl) (by decide) (by kernel_rfl) (fun _ _ _ h => h) (Or.inl ⟨by kernel_rfl, ?_⟩) (by assumption) ?_
    rotate_left
    · (intro w' hSw; (try dsimp only at hSw); go_split_ands; go_simp; first | done | with_reducible rfl)
    try simp only [Act.put, List.setIfInBounds_toArray, List.set_cons_zero, List.set_cons_succ]
    refine TillLast.takeT (i := 10) 12 (oi := ⟨some 19, _, _, _, _, _⟩) (v := ?_) rfl (by kernel_rfl) (by kernel_rfl) (by kernel_rfl) (by kernel_rfl) (by kernel_rfl) (by decide) (by kernel_rfl) (fun _ _ _ h => h) (Or.inl ⟨by kernel_rfl, ?_⟩) (by assumption) ?_
    rotate_left
    · (intro w' hSw; (try dsimp only at hSw); go_split_ands; go_simp; first | done | with_reducible rfl)
    try simp only [Act.put, List.setIfInBounds_toArray, List.set_cons_zero, List.set_cons_succ]
    refine TillLast.ready (rs := [5]) (by kernel_rfl) (by simp) ?_
    refine NextAll.cons (o := ⟨some 14, _, _, _, _, _⟩) rfl (fun K hK => ?_) NextAll.nil
    go_simp
    go_at_call 16
    refine (HCA.out _ (Below.refl _ _).drew).mono ?_
    rintro e x4 ⟨l5, rfl, ho5, hba⟩
    obtain ⟨A3, n3, c3, B3, m3, d3, rfl⟩ := (ho5 x4 ⟨Nat.le_refl _, fun _ _ _ => rfl⟩).1.trv.shape
    have hb4 : Below W.heap.size W x4 := (Below.refl _ _).drew.trans hba
    have HB34 := Lib.hid hb4.size
    have HO5 := Lib.hid ho5
    unfold tyC
    refine hK.out _ _ (fun _ => HK.out _ hb4) ?_
    clear hK K hHeld ho5 hba
    try simp only [Act.put, List.setIfInBounds_toArray, List.set_cons_zero, List.set_cons_succ]
    refine TillLast.ready (rs := [11]) (by kernel_rfl) (by simp) ?_
    refine NextAll.cons (o := ⟨some 20, _, _, _, _, _⟩) rfl (fun K hK => ?_) NextAll.nil
    go_simp
    go_at_call 16
    refine (HCB.out _ hb4).mono ?_
    rintro e x5 ⟨l6, rfl, ho6, hba⟩
    obtain ⟨A4, n4, c4, B4, m4, d4, rfl⟩ := (ho6 x5 ⟨Nat.le_refl _, fun _ _ _ => rfl⟩).1.trv.shape
    have hb5 : Below W.heap.size W x5 := hb4.trans (hba.mono hb4.size)
    have HO6 := Lib.hid ho6
    have HB45 := Lib.hid hba
    have HB5 := Lib.hid hb5
    unfold tyC
    refine hK.out _ _ (fun _ => HK.out _ hb5) ?_
    clear hK K ho6 hba hb4 hb5
    try simp only [Act.put, List.setIfInBounds_toArray, List.set_cons_zero, List.set_cons_succ]
    refine TillLast.ready (rs := [12]) (by kernel_rfl) (by simp) ?_
    refine NextAll.cons (o := ⟨none, _, _, _, _, _⟩) rfl (fun K hK => ?_) NextAll.nil
    rw [if_pos (by kernel_rfl)]
    refine wp_store_row _ _ _ rfl (w.heap.size + 1) #[.int .i64 k, .string (ba nm), .int .i64 v, .slice A3 n3 c3, .slice B3 m3 d3, .int .i64 rv] rfl rfl 44 #[.int .i64 k1, .string (ba nm1), .int .i64 v1, .slice A1 n1 c1, .slice B1 m1 d1, .int .i64 rv1] (HKA.out.later HB5.out) (by kernel_rfl) rfl (by simp [Value.oneCell']) ?_
    obtain ⟨x6, hx6⟩ : ∃ X, X = x5.setRow (w.heap.size + 1) #[.int .i64 k, .string (ba nm), .int .i64 v, .slice A3 n3 c3, .slice B3 m3 d3, .int .i64 rv] := ⟨_, rfl⟩
    rw [← hx6]
    have HX6 := Lib.hid hx6
    clear hx6
    refine hK.out _ _ (fun h => absurd (h.symm.trans (by kernel_rfl : _ = true)) (by decide)) ?_
    clear hK K
    try simp only [Act.put]
    refine TillLast.ready (rs := [13]) (by kernel_rfl) (by simp) ?_
    refine NextAll.cons (o := ⟨none, _, _, _, _, _⟩) rfl (fun K hK => ?_) NextAll.nil
    rw [if_pos (by kernel_rfl)]
    refine wp_store_row _ _ _ rfl (w.heap.size + 1 + 1) #[.int .i64 k', .string (ba nm'), .int .i64 v', .slice A4 n4 c4, .slice B4 m4 d4, .int .i64 rv'] rfl rfl 44 #[.int .i64 k2, .string (ba nm2), .int .i64 v2, .slice A2 n2 c2, .slice B2 m2 d2, .int .i64 rv2] (by rw [HX6.out]; exact (Sb.setRow_far (HKB.out.later HB5.out) _ (by omega))) (by kernel_rfl) rfl (by simp [Value.oneCell']) ?_
    obtain ⟨x7, hx7⟩ : ∃ X, X = x6.setRow (w.heap.size + 1 + 1) #[.int .i64 k', .string (ba nm'), .int .i64 v', .slice A4 n4 c4, .slice B4 m4 d4, .int .i64 rv'] := ⟨_, rfl⟩
    rw [← hx7]
    have HX7 := Lib.hid hx7
    clear hx7
    refine hK.out _ _ (fun h => absurd (h.symm.trans (by kernel_rfl : _ = true)) (by decide)) ?_
    clear hK K
    try simp only [Act.put]
    refine TillLast.done (by kernel_rfl) ?_ _
    have hf7 : ∀ i, i ≠ w.heap.size + 1 → i ≠ w.heap.size + 1 + 1 → x7.heap[i]? = x5.heap[i]? := fun i h1 h2 => by
      rw [HX7.out, HX6.out]
      exact (Sb.setRow_other _ _ _ _ h2).trans (Sb.setRow_other _ _ _ _ h1)
    have hws := HB.out.size
    have hw5 := HB5.out.size
    have hwz := HWZ.out
    have hz7 : x7.heap.size = x5.heap.size := by rw [HX7.out, HX6.out]; simp [World.setRow]
    have hkx : Lies x7 w.heap.size _ _ := (hf7 _ (by omega) (by omega)).trans (HKX.out.later HB5.out)
    have hka : Lies x7 (w.heap.size + 1) 44 #[.int .i64 k, .string (ba nm), .int .i64 v, .slice A3 n3 c3, .slice B3 m3 d3, .int .i64 rv] := by rw [HX7.out]; exact Sb.setRow_far (by rw [HX6.out]; exact Sb.setRow_at (HKA.out.later HB5.out) _) _ (by omega)
    have hkb : Lies x7 (w.heap.size + 1 + 1) 44 #[.int .i64 k', .string (ba nm'), .int .i64 v', .slice A4 n4 c4, .slice B4 m4 d4, .int .i64 rv'] := by rw [HX7.out]; exact Sb.setRow_at (by rw [HX6.out]; exact Sb.setRow_far (HKB.out.later HB5.out) _ (by omega)) _
    have hb7 : Below w.heap.size w x7 := by
      have h0 := HB.out.trans (HB5.out.mono HB.out.size)
      exact ⟨by rw [HX7.out, HX6.out]; exact h0.os, by rw [HX7.out, HX6.out]; exact h0.tape, by rw [HX7.out, HX6.out]; exact h0.output, by rw [hz7]; exact h0.size, fun i hi => (hf7 i (by omega) (by omega)).trans (h0.block i hi)⟩

    have h34 := HB34.out
    have hbu := HBU.out
    have hdw : W.drew.heap.size = w.heap.size + 4 := by rw [← hwz]; rfl
    have hkep4 : Kept (fun b => b < w.heap.size + 7) x4 x7 := ⟨by have := HB45.out.size; omega, fun b hb hn => (hf7 b (fun e => hn (by show b < w.heap.size + 7; omega)) (fun e => hn (by show b < w.heap.size + 7; omega))).trans (HB45.out.block b hb)⟩
    have hkep5 : Kept (fun b => b < x4.heap.size + 3) x5 x7 := ⟨by omega, fun b hb hn => hf7 b (fun e => hn (by show b < x4.heap.size + 3; omega)) (fun e => hn (by show b < x4.heap.size + 3; omega))⟩
    have HOA := Lib.hid (show (∀ X, Kept (fun b => b < w.heap.size + 7) x4 X → TFV X (.mk k nm v kids ls rv) (tyC k nm v (.slice A3 n3 c3) (.slice B3 m3 d3) rv) ∧ Tree1 (w.heap.size + 7) (tyC k nm v (.slice A3 n3 c3) (.slice B3 m3 d3) rv) X) from fun X hX => by
      have h := HO5.out X (by rw [hdw]; exact hX)
      rw [hdw] at h
      exact h)
    have HOB := Lib.hid (show (∀ X, Kept (fun b => b < x4.heap.size + 3) x5 X → TFV X (.mk k' nm' v' kids' ls' rv') (tyC k' nm' v' (.slice A4 n4 c4) (.slice B4 m4 d4) rv')) from fun X hX => (HO6.out X hX).1)
    have hsame := same_two x7 x7 (Below.refl _ _) (.mk k nm v kids ls rv) (.mk k' nm' v' kids' ls' rv') _ _ (w.heap.size + 7) x4.heap.size (fun b => ¬ b < x4.heap.size + 3 ∧ b < x7.heap.size) (HOA.out x7 hkep4).1 (Tree2.of (HOA.out x4 ⟨Nat.le_refl _, fun _ _ _ => rfl⟩).2 hkep4) (by have := HB45.out.size; omega) (fun g _ h2 h3 => h3.1 (by omega)) (fun b hb => hb.2) (HOB.out x7 hkep5).trv (tbk_of (X := fun b => b < x4.heap.size + 3) (HOB.out _ (kept_blank_s hkep5))) (by have := HSZ.out.2.1; omega)
    unfold tyC at hsame
    have a0 := hka.cell 0
    have a1 := hka.cell 1
    have a2 := hka.cell 2
    have a3 := hka.cell 3
    have a4 := hka.cell 4
    have a5 := hka.cell 5
    have b0 := hkb.cell 0
    have b1 := hkb.cell 1
    have b2 := hkb.cell 2
    have b3 := hkb.cell 3
    have b4 := hkb.cell 4
    have b5 := hkb.cell 5
    have hkl : Lies x7 (w.heap.size + 1 + 1 + 1) 3 #[.int .i64 lvl] := (hf7 _ (by omega) (by omega)).trans (HKL.out.later HB5.out)
    have HSM := Lib.hid hsame
    have HKX7 := Lib.hid hkx
    have HKA7 := Lib.hid hka
    have HKB7 := Lib.hid hkb
    have HKL7 := Lib.hid hkl
    have HB7 := Lib.hid hb7
    have HK4 := Lib.hid hkep4
    have HK5 := Lib.hid hkep5
    have HSZ7 := Lib.hid (And.intro hbu (And.intro h34 hdw))
    have HWS := Lib.hid (show x7.heap.size = x5.heap.size ∧ w.heap.size + 4 = W.heap.size ∧ W.heap.size ≤ x4.heap.size ∧ x4.heap.size ≤ x5.heap.size from ⟨hz7, by omega, by omega, HB45.out.size⟩)
    clear hf7 hws hw5 hwz hz7 HX6 HX7 HO6 HO5 HB5 HB45 h34 hkx hka hkb hkl hb7 hkep4 hkep5 HB34 hsame hbu hdw HKX HKA HKB HKL HWZ HBU
    go_wp2_with fail
    refine HSM.out.mono ?_
    rintro e x8 ⟨sb, rfl, hsb, hb8⟩
    have HSB := Lib.hid hsb
    have HB8 := Lib.hid hb8
    have HBW8 := Lib.hid (HB7.out.trans (hb8.mono HB7.out.size))
    clear hsb HSM
    have a0 := (HKA7.out.later hb8).cell 0
    have a1 := (HKA7.out.later hb8).cell 1
    have a2 := (HKA7.out.later hb8).cell 2
    have a3 := (HKA7.out.later hb8).cell 3
    have a4 := (HKA7.out.later hb8).cell 4
    have a5 := (HKA7.out.later hb8).cell 5
    have b0 := (HKB7.out.later hb8).cell 0
    have b1 := (HKB7.out.later hb8).cell 1
    have b2 := (HKB7.out.later hb8).cell 2
    have b3 := (HKB7.out.later hb8).cell 3
    have b4 := (HKB7.out.later hb8).cell 4
    have b5 := (HKB7.out.later hb8).cell 5
    have q0 := (HKX7.out.later hb8).cell 0
    have l0 := (HKL7.out.later hb8).cell 0
    clear hb8
    cases sb
    case true =>
      go_wp2
      go_ret
      exact ⟨0, rfl, ⟨fun h => absurd rfl h, fun _ => ⟨by rw [HQQ.out]; exact HSB.out.1 trivial, (HU.out.later HBW8.out).mono (by rw [HMM.out]; omega)⟩⟩, below_grown HBW8.out (grown_refl _ _)⟩
    case false =>
      have hne : ¬ (.mk k nm v kids ls rv : Ty) = .mk k' nm' v' kids' ls' rv' := fun h => by have := HSB.out.2 h; cases this
      have HNE := Lib.hid (show ¬ QQ from by rw [HQQ.out]; exact hne)
      clear hne
      obtain ⟨⟨hk7, hrv0, hsl, hlen, h5, h6⟩, hgl⟩ := HG.out
      obtain ⟨⟨hk7', hrv0', hsl', hlen', h5', h6'⟩, hgl'⟩ := HG'.out
      have hkb7 : (k == 7) = false := by simpa using hk7
      have hkb7' : (k' == 7) = false := by simpa using hk7'
      have hn3 : n3 = kids.length := by
        obtain ⟨kv, lv2, e, hsl, _⟩ := (HOA.out x7 HK4.out).1
        unfold tyC at e
        simp only [List.cons.injEq] at e
        obtain ⟨_, _, _, rfl, _⟩ := e
        obtain ⟨A', c', e4, _⟩ := hsl.slr.form
        injection e4
      have hn4 : n4 = kids'.length := by
        obtain ⟨kv, lv2, e, hsl, _⟩ := HOB.out x7 HK5.out
        unfold tyC at e
        simp only [List.cons.injEq] at e
        obtain ⟨_, _, _, rfl, _⟩ := e
        obtain ⟨A', c', e4, _⟩ := hsl.slr.form
        injection e4
      have HP := Lib.hid (And.intro (And.intro hrv0 (And.intro hsl (And.intro hlen (And.intro h5 (And.intro h6 hgl))))) (And.intro hrv0' (And.intro hsl' (And.intro hlen' (And.intro h5' (And.intro h6' hgl'))))))
      have HN34 := Lib.hid (And.intro hn3 hn4)
      by_cases hk5 : k = 5 ∧ k' = 5
      case pos =>
        obtain ⟨rfl, rfl⟩ := hk5
        obtain ⟨hnm, hv, hl2⟩ := h5 rfl
        obtain ⟨hnm', hv', hl2'⟩ := h5' rfl
        obtain ⟨t0, t1, rfl⟩ := two_of hl2
        obtain ⟨u0, u1, rfl⟩ := two_of hl2'
        obtain rfl : n3 = 2 := hn3
        obtain rfl : n4 = 2 := hn4
        subst hrv0 hrv0'
        have hw4 : IntKind.i64.wrap (400 - lvl) = 400 - lvl := IntWalk.i64_in _ (by have := HLV.out; omega)
        have hm4 : (((400 - lvl).toNat : Nat) : Int) = 400 - lvl := by have := HLV.out; omega
        have HQ := Lib.hid (And.intro (And.intro hnm (And.intro hv (And.intro hsl hlen))) (And.intro (And.intro hnm' (And.intro hv' (And.intro hsl' hlen'))) (And.intro hgl hgl')))
        clear hsl hlen h5 h6 hgl hsl' hlen' h5' h6' hgl' hk7 hk7' hnm hv hl2 hnm' hv' hl2'
        go_wp2_with fail
        refine (both_any x8 5 5 nm nm' v v' A3 A4 2 2 c3 c4 B3 B4 m3 m4 d3 d4 0 0 5 2).mono ?_
        rintro e x9 ⟨rfl, hb9⟩
        rw [(show decide ((5 : Int) = 5 ∧ (5 : Int) = 5 ∧ ((2 : Nat) : Int) = 2 ∧ ((2 : Nat) : Int) = 2) = true from by decide)]
        have hb9' := HB8.out.trans (hb9.mono HB8.out.size)
        have HB9 := Lib.hid hb9'
        have a0 := (HKA7.out.later hb9').cell 0
        have a1 := (HKA7.out.later hb9').cell 1
        have a2 := (HKA7.out.later hb9').cell 2
        have a3 := (HKA7.out.later hb9').cell 3
        have a4 := (HKA7.out.later hb9').cell 4
        have a5 := (HKA7.out.later hb9').cell 5
        have b0 := (HKB7.out.later hb9').cell 0
        have b1 := (HKB7.out.later hb9').cell 1
        have b2 := (HKB7.out.later hb9').cell 2
        have b3 := (HKB7.out.later hb9').cell 3
        have b4 := (HKB7.out.later hb9').cell 4
        have b5 := (HKB7.out.later hb9').cell 5
        have q0 := (HKX7.out.later hb9').cell 0
        have l0 := (HKL7.out.later hb9').cell 0
        clear hb9 hb9'
        have hby := beyond_any (.mk 5 nm v [t0, t1] ls 0) x9 _ (400 - lvl).toNat (by have := HSZ.out.2.1; have := HLV.out; omega) (by have := HLV.out; omega) (HOA.out x9 (kept_below HK4.out HB9.out)).1.trv
        unfold tyC at hby
        rw [hm4] at hby
        go_wp2_with fail
        refine hby.mono ?_
        rintro e x10 ⟨rfl, hb9⟩
        have hb9' := HB9.out.trans (hb9.mono HB9.out.size)
        have HB10 := Lib.hid hb9'
        have a0 := (HKA7.out.later hb9').cell 0
        have a1 := (HKA7.out.later hb9').cell 1
        have a2 := (HKA7.out.later hb9').cell 2
        have a3 := (HKA7.out.later hb9').cell 3
        have a4 := (HKA7.out.later hb9').cell 4
        have a5 := (HKA7.out.later hb9').cell 5
        have b0 := (HKB7.out.later hb9').cell 0
        have b1 := (HKB7.out.later hb9').cell 1
        have b2 := (HKB7.out.later hb9').cell 2
        have b3 := (HKB7.out.later hb9').cell 3
        have b4 := (HKB7.out.later hb9').cell 4
        have b5 := (HKB7.out.later hb9').cell 5
        have q0 := (HKX7.out.later hb9').cell 0
        have l0 := (HKL7.out.later hb9').cell 0
        clear hb9 hb9' hby
        go_wp2_with fail
        obtain ⟨Z, hZ⟩ : ∃ Z, Z = x10.alloc (.cells #[.func (.func 40) #[] #[.pointer (some ⟨w.heap.size, 0, none⟩), .pointer (some ⟨w.heap.size + 1, 0, none⟩), .pointer (some ⟨w.heap.size + 1 + 1, 0, none⟩), .pointer (some ⟨w.heap.size + 1 + 1 + 1, 0, none⟩)], .func (.func 41) #[] #[.pointer (some ⟨w.heap.size, 0, none⟩), .pointer (some ⟨w.heap.size + 1, 0, none⟩), .pointer (some ⟨w.heap.size + 1 + 1, 0, none⟩)], .func (.func 42) #[] #[.pointer (some ⟨w.heap.size, 0, none⟩), .pointer (some ⟨w.heap.size + 1, 0, none⟩), .pointer (some ⟨w.heap.size + 1 + 1, 0, none⟩), .pointer (some ⟨w.heap.size + 1 + 1 + 1, 0, none⟩)]] 70) := ⟨_, rfl⟩
        rw [← hZ]
        have hbz : Below x10.heap.size x10 Z := by rw [hZ]; exact below_new _ _
        have ng : Lies Z x10.heap.size 70 #[.func (.func 40) #[] #[.pointer (some ⟨w.heap.size, 0, none⟩), .pointer (some ⟨w.heap.size + 1, 0, none⟩), .pointer (some ⟨w.heap.size + 1 + 1, 0, none⟩), .pointer (some ⟨w.heap.size + 1 + 1 + 1, 0, none⟩)], .func (.func 41) #[] #[.pointer (some ⟨w.heap.size, 0, none⟩), .pointer (some ⟨w.heap.size + 1, 0, none⟩), .pointer (some ⟨w.heap.size + 1 + 1, 0, none⟩)], .func (.func 42) #[] #[.pointer (some ⟨w.heap.size, 0, none⟩), .pointer (some ⟨w.heap.size + 1, 0, none⟩), .pointer (some ⟨w.heap.size + 1 + 1, 0, none⟩), .pointer (some ⟨w.heap.size + 1 + 1 + 1, 0, none⟩)]] := by rw [hZ]; exact Lies.new _ _ _
        have hz7 := HB10.out.trans (hbz.mono HB10.out.size)
        have hwZ : Below w.heap.size w Z := HB7.out.trans (hz7.mono HB7.out.size)
        have hbu := HSZ7.out.1
        have hlv := HLV.out
        have hmm := HM.out
        have hsz := HSZ.out
        have h34 := HSZ7.out.2.1
        have h33 := HSZ7.out.2.2
        have h10 := HB10.out.size
        have h77 := HB7.out.size
        have hx47 := HK4.out.1
        have hws := HWS.out
        simp only [Ty.size, Ty.sizeL] at hlv hmm hsz
        have hZ4 := kept_below HK4.out hz7
        have hZ5 := kept_below HK5.out hz7
        have cz : ∀ (X : World), Z.grownBy X (some bu) → ∀ (a : Addr) v, a.block ≠ bu → Z.cell? a = some v → X.cell? a = some v := fun X hg a v h1 h2 => (World.cell?_of_block (hg.block a.block (World.block_lt_of_cell? Z a h2) (fun e => h1 (Option.some.inj e)))).trans h2
        have e0 := (HKX7.out.later hz7).cell 0
        have e1 := (HKL7.out.later hz7).cell 0
        have e2 := (HKA7.out.later hz7).cell 3
        have e3 := (HKB7.out.later hz7).cell 3
        have e4 := (HKA7.out.later hz7).cell 4
        have e5 := (HKB7.out.later hz7).cell 4
        have e6 := (HKA7.out.later hz7).cell 5
        have e7 := (HKB7.out.later hz7).cell 5
        obtain ⟨gA, oA, eA, -, hcA, hsA, kA0, nmA0, vA0, AA0, nA0, cA0, BA0, mA0, dA0, rA0, htA0, hrA0⟩ := kid_at (HOA.out Z hZ4).1 (HOA.out _ (kept_blank_s hZ4)).1 0 t0 rfl
        obtain ⟨gB, oB, eB, -, hcB, hsB, kB0, nmB0, vB0, AB0, nB0, cB0, BB0, mB0, dB0, rB0, htB0, hrB0⟩ := kid_at (HOB.out Z hZ5) (HOB.out _ (kept_blank_s hZ5)) 0 u0 rfl
        obtain ⟨g1, hg1⟩ : ∃ g1, g1 = gA := ⟨_, rfl⟩
        obtain ⟨o1, ho1⟩ : ∃ o1, o1 = oA := ⟨_, rfl⟩
        obtain ⟨g2, hg2⟩ : ∃ g2, g2 = gB := ⟨_, rfl⟩
        obtain ⟨o2, ho2⟩ : ∃ o2, o2 = oB := ⟨_, rfl⟩
        subst hg1 ho1 hg2 ho2 eA eB
        rw [Nat.zero_mul, Nat.add_zero] at hrA0 hrB0
        obtain ⟨y0, y1, y2, y3, y4, y5⟩ := reads6 (b := g1) (o := o1) hrA0
        obtain ⟨z0, z1, z2, z3, z4, z5⟩ := reads6 (b := g2) (o := o2) hrB0
        have hs1 := step1_any Z w.heap.size (w.heap.size + 1) (w.heap.size + 1 + 1) (w.heap.size + 1 + 1 + 1) bu g1 o1 g2 o2 2 c3 c4 lvl kA0 vA0 rA0 kB0 vB0 rB0 nmA0 nmB0 AA0 AB0 BA0 BB0 nA0 cA0 mA0 dA0 nB0 cB0 mB0 dB0 hlv.1 (by omega) (by omega) (by omega) (by omega) ⟨by omega, by omega, by omega, by omega, by omega, by omega⟩ (fun err w' => (err ≠ 0 → err = 5 ∧ ¬ t0 = u0) ∧ (err = 0 → t0 = u0 ∧ UnV w' bu (m + 4 * t0.size) R0 nx)) ⟨e0, e1, e2, e3, ⟨y0, y1, y2, y3, y4, y5⟩, ⟨z0, z1, z2, z3, z4, z5⟩⟩ (fun X hX => IH.out t0 u0 X bu m nx (lvl + 1) _ _ (by omega) (by omega) (by omega) HQ.out.2.2.1.1 HQ.out.2.2.2.1 (HU.out.later (hwZ.trans (hX.mono hwZ.size))) (by omega) ⟨by omega, by omega⟩ HNX.out (htA0.later hX) (htB0.later hX))
        have hc1 := hs1.mono (R' := fun e w' => ∃ err, e = .returned (.int .i64 err) ∧ (err ≠ 0 → err = 5 ∧ Z.grownBy w' (some bu)) ∧ (err = 0 → t0 = u0 ∧ UnV w' bu (m + 4 * t0.size) R0 nx ∧ Z.grownBy w' (some bu))) (fun e w' ⟨err, h1, ⟨h2, h3⟩, h4⟩ => ⟨err, h1, fun h => ⟨(h2 h).1, h4⟩, fun h => ⟨(h3 h).1, (h3 h).2, h4⟩⟩)
        have hc2 : ∀ X, (t0 = u0 ∧ UnV X bu (m + 4 * t0.size) R0 nx ∧ Z.grownBy X (some bu)) → X.cell? ⟨x10.heap.size, 1, none⟩ = some (.func (.func 41) #[] #[.pointer (some ⟨w.heap.size, 0, none⟩), .pointer (some ⟨w.heap.size + 1, 0, none⟩), .pointer (some ⟨w.heap.size + 1 + 1, 0, none⟩)]) ∧ Calls Tryz.prog 41 #[.pointer (some ⟨w.heap.size, 0, none⟩), .pointer (some ⟨w.heap.size + 1, 0, none⟩), .pointer (some ⟨w.heap.size + 1 + 1, 0, none⟩)] X fun e w' => ∃ err, e = .returned (.int .i64 err) ∧ (err ≠ 0 → err = 5 ∧ Z.grownBy w' (some bu)) ∧ (err = 0 → t0 = u0 ∧ ls = ls' ∧ UnV w' bu (m + 4 * t0.size + 4) R0 nx ∧ Z.grownBy w' (some bu)) := fun X ⟨hq, hux, hgx⟩ => by
          refine ⟨cz X hgx _ _ (by show x10.heap.size ≠ bu; omega) (ng.cell 1), ?_⟩
          have hX4 := kept_of hZ4 hgx (by omega)
          have hX5 := kept_of hZ5 hgx (by omega)
          have hrw := rows_any X bu (m + 4 * t0.size) nx hux (by omega) (.slice B3 m3 d3) (.slice B4 m4 d4) ls ls' 0 0 (str_at (HOA.out X hX4).1) (str_at (HOB.out X hX5)) HQ.out.1.2.2.2 HQ.out.2.1.2.2.2 (i64ok_of (by omega) (by omega)) (i64ok_of (by omega) (by omega)) HNX.out (by have := HNX.out; omega) (by have := HNX.out; omega)
          have hres := rows_res HQ.out.1.2.2.1 HQ.out.2.1.2.2.1 nx
          refine step2_any X w.heap.size (w.heap.size + 1) (w.heap.size + 1 + 1) bu B3 B4 m3 d3 m4 d4 0 0 (fun err w' => (err ≠ 0 → err = 5 ∧ Z.grownBy w' (some bu)) ∧ (err = 0 → t0 = u0 ∧ ls = ls' ∧ UnV w' bu (m + 4 * t0.size + 4) R0 nx ∧ Z.grownBy w' (some bu))) ⟨cz X hgx _ _ (by show w.heap.size ≠ bu; omega) e0, ⟨cz X hgx _ _ (by show w.heap.size + 1 ≠ bu; omega) e4, cz X hgx _ _ (by show w.heap.size + 1 ≠ bu; omega) e6⟩, ⟨cz X hgx _ _ (by show w.heap.size + 1 + 1 ≠ bu; omega) e5, cz X hgx _ _ (by show w.heap.size + 1 + 1 ≠ bu; omega) e7⟩⟩ (hrw.mono fun e w' hr => ?_)
          obtain ⟨hr1, hr2⟩ := hr
          by_cases hls : ls = ls'
          · rw [hres.1 hls] at hr1
            exact ⟨0, hr1.1, fun h => absurd rfl h, fun _ => ⟨hq, hls, hr1.2, grown_trans hgx hr2⟩⟩
          · rw [hres.2 hls] at hr1
            exact ⟨5, hr1, fun _ => ⟨rfl, grown_trans hgx hr2⟩, fun h => absurd h (by decide)⟩
        have hc3 : ∀ X, (t0 = u0 ∧ ls = ls' ∧ UnV X bu (m + 4 * t0.size + 4) R0 nx ∧ Z.grownBy X (some bu)) → X.cell? ⟨x10.heap.size, 2, none⟩ = some (.func (.func 42) #[] #[.pointer (some ⟨w.heap.size, 0, none⟩), .pointer (some ⟨w.heap.size + 1, 0, none⟩), .pointer (some ⟨w.heap.size + 1 + 1, 0, none⟩), .pointer (some ⟨w.heap.size + 1 + 1 + 1, 0, none⟩)]) ∧ Calls Tryz.prog 42 #[.pointer (some ⟨w.heap.size, 0, none⟩), .pointer (some ⟨w.heap.size + 1, 0, none⟩), .pointer (some ⟨w.heap.size + 1 + 1, 0, none⟩), .pointer (some ⟨w.heap.size + 1 + 1 + 1, 0, none⟩)] X fun e w' => ∃ err, e = .returned (.int .i64 err) ∧ (err ≠ 0 → err = 5 ∧ Z.grownBy w' (some bu)) ∧ (err = 0 → (t0 = u0 ∧ ls = ls' ∧ t1 = u1) ∧ Z.grownBy w' (some bu)) := fun X ⟨hq, hl, hux, hgx⟩ => by
          refine ⟨cz X hgx _ _ (by show x10.heap.size ≠ bu; omega) (ng.cell 2), ?_⟩
          have hX4 := kept_of hZ4 hgx (by omega)
          have hX5 := kept_of hZ5 hgx (by omega)
          obtain ⟨gA, oA, eA, -, hcA, hsA, kA1, nmA1, vA1, AA1, nA1, cA1, BA1, mA1, dA1, rA1, htA1, hrA1⟩ := kid_at (HOA.out X hX4).1 (HOA.out _ (kept_blank_s hX4)).1 1 t1 rfl
          obtain ⟨gB, oB, eB, -, hcB, hsB, kB1, nmB1, vB1, AB1, nB1, cB1, BB1, mB1, dB1, rB1, htB1, hrB1⟩ := kid_at (HOB.out X hX5) (HOB.out _ (kept_blank_s hX5)) 1 u1 rfl
          injection eA with eA; injection eA with eA1 eA2; subst eA1 eA2
          injection eB with eB; injection eB with eB1 eB2; subst eB1 eB2
          rw [Nat.one_mul] at hrA1 hrB1
          obtain ⟨y0, y1, y2, y3, y4, y5⟩ := reads6 (b := g1) (o := o1 + 6) hrA1
          obtain ⟨z0, z1, z2, z3, z4, z5⟩ := reads6 (b := g2) (o := o2 + 6) hrB1
          have hs3 := step3_any X w.heap.size (w.heap.size + 1) (w.heap.size + 1 + 1) (w.heap.size + 1 + 1 + 1) bu g1 o1 g2 o2 2 c3 c4 lvl kA1 vA1 rA1 kB1 vB1 rB1 nmA1 nmB1 AA1 AB1 BA1 BB1 nA1 cA1 mA1 dA1 nB1 cB1 mB1 dB1 hlv.1 (by omega) (by omega) (by omega) (by omega) ⟨by omega, by omega, by omega, by omega, by omega, by omega⟩ (fun err w' => (err ≠ 0 → err = 5 ∧ ¬ t1 = u1) ∧ (err = 0 → t1 = u1 ∧ UnV w' bu ((m + 4 * t0.size + 4) + 4 * t1.size) R0 nx)) ⟨cz X hgx _ _ (by show w.heap.size ≠ bu; omega) e0, cz X hgx _ _ (by show w.heap.size + 1 + 1 + 1 ≠ bu; omega) e1, cz X hgx _ _ (by show w.heap.size + 1 ≠ bu; omega) e2, cz X hgx _ _ (by show w.heap.size + 1 + 1 ≠ bu; omega) e3, ⟨y0, y1, y2, y3, y4, y5⟩, ⟨z0, z1, z2, z3, z4, z5⟩⟩ (fun Y hY => IH.out t1 u1 Y bu (m + 4 * t0.size + 4) nx (lvl + 1) _ _ (by omega) (by omega) (by omega) HQ.out.2.2.1.2.1 HQ.out.2.2.2.2.1 (hux.later hY) (by omega) ⟨by omega, by omega⟩ HNX.out (htA1.later hY) (htB1.later hY))
          exact hs3.mono (fun e w' ⟨err, h1, ⟨h2, h3⟩, h4⟩ => ⟨err, h1, fun h => ⟨(h2 h).1, grown_trans hgx h4⟩, fun h => ⟨⟨hq, hl, (h3 h).1⟩, grown_trans hgx h4⟩⟩)
        have HO := Lib.hid (inOrder3_any Z x10.heap.size _ _ _ (fun err w' => err = 5 ∧ Z.grownBy w' (some bu)) (fun X => t0 = u0 ∧ UnV X bu (m + 4 * t0.size) R0 nx ∧ Z.grownBy X (some bu)) (fun X => t0 = u0 ∧ ls = ls' ∧ UnV X bu (m + 4 * t0.size + 4) R0 nx ∧ Z.grownBy X (some bu)) (fun X => (t0 = u0 ∧ ls = ls' ∧ t1 = u1) ∧ Z.grownBy X (some bu)) (ng.cell 0) hc1 hc2 hc3)
        have HWZ := Lib.hid hwZ
        clear hc1 hc2 hc3 hs1 cz hZ4 hZ5 y0 y1 y2 y3 y4 y5 z0 z1 z2 z3 z4 z5 e0 e1 e2 e3 e4 e5 e6 e7 ng hz7 hwZ hbz hZ htA0 htB0 hrA0 hrB0
        refine HO.out.mono ?_
        rintro e z ⟨err, rfl, hf, hp⟩
        have HF := Lib.hid hf
        have HPP := Lib.hid hp
        clear hf hp
        go_wp2
        go_ret
        refine ⟨err, rfl, ⟨fun h => ⟨(HF.out h).1, HNE.out⟩, fun h => absurd ?_ HNE.out⟩, ?_⟩
        · obtain ⟨⟨e1, e2, e3⟩, _⟩ := HPP.out h
          rw [HQQ.out, HQ.out.1.1, HQ.out.1.2.1, HQ.out.2.1.1, HQ.out.2.1.2.1, e1, e2, e3]
        · by_cases h : err = 0
          · exact below_grown HWZ.out (HPP.out h).2
          · exact below_grown HWZ.out (HF.out h).2
      case neg =>
        by_cases hk6 : k = 6 ∧ k' = 6
        case pos =>
          obtain ⟨rfl, rfl⟩ := hk6
          obtain ⟨hnm, hv, hl2, hls0⟩ := h6 rfl
          obtain ⟨hnm', hv', hl2', hls0'⟩ := h6' rfl
          obtain ⟨t0, rfl⟩ := one_of hl2
          obtain ⟨u0, rfl⟩ := one_of hl2'
          obtain rfl : n3 = 1 := hn3
          obtain rfl : n4 = 1 := hn4
          subst hrv0 hrv0'
          have hw4 : IntKind.i64.wrap (400 - lvl) = 400 - lvl := IntWalk.i64_in _ (by have := HLV.out; omega)
          have hm4 : (((400 - lvl).toNat : Nat) : Int) = 400 - lvl := by have := HLV.out; omega
          have hw5 : IntKind.i64.wrap (lvl + 1) = lvl + 1 := IntWalk.i64_in _ (by have := HLV.out; omega)
          have HQ := Lib.hid (And.intro (And.intro hnm (And.intro hv hls0)) (And.intro (And.intro hnm' (And.intro hv' hls0')) (And.intro hgl hgl')))
          clear hsl hlen h5 h6 hgl hsl' hlen' h5' h6' hgl' hk7 hk7' hk5 hnm hv hl2 hnm' hv' hl2' hls0 hls0'
          go_wp2_with fail
          refine (both_any x8 6 6 nm nm' v v' A3 A4 1 1 c3 c4 B3 B4 m3 m4 d3 d4 0 0 5 2).mono ?_
          rintro e x9 ⟨rfl, hb9⟩
          rw [(show decide ((6 : Int) = 5 ∧ (6 : Int) = 5 ∧ ((1 : Nat) : Int) = 2 ∧ ((1 : Nat) : Int) = 2) = false from by decide)]
          have hb9' := HB8.out.trans (hb9.mono HB8.out.size)
          have HB9 := Lib.hid hb9'
          have a0 := (HKA7.out.later hb9').cell 0
          have a1 := (HKA7.out.later hb9').cell 1
          have a2 := (HKA7.out.later hb9').cell 2
          have a3 := (HKA7.out.later hb9').cell 3
          have a4 := (HKA7.out.later hb9').cell 4
          have a5 := (HKA7.out.later hb9').cell 5
          have b0 := (HKB7.out.later hb9').cell 0
          have b1 := (HKB7.out.later hb9').cell 1
          have b2 := (HKB7.out.later hb9').cell 2
          have b3 := (HKB7.out.later hb9').cell 3
          have b4 := (HKB7.out.later hb9').cell 4
          have b5 := (HKB7.out.later hb9').cell 5
          have q0 := (HKX7.out.later hb9').cell 0
          have l0 := (HKL7.out.later hb9').cell 0
          clear hb9 hb9'
          go_wp2_with fail
          refine (both_any x9 6 6 nm nm' v v' A3 A4 1 1 c3 c4 B3 B4 m3 m4 d3 d4 0 0 6 1).mono ?_
          rintro e xA ⟨rfl, hb9⟩
          rw [(show decide ((6 : Int) = 6 ∧ (6 : Int) = 6 ∧ ((1 : Nat) : Int) = 1 ∧ ((1 : Nat) : Int) = 1) = true from by decide)]
          have hb9' := HB9.out.trans (hb9.mono HB9.out.size)
          have HBA := Lib.hid hb9'
          have a0 := (HKA7.out.later hb9').cell 0
          have a1 := (HKA7.out.later hb9').cell 1
          have a2 := (HKA7.out.later hb9').cell 2
          have a3 := (HKA7.out.later hb9').cell 3
          have a4 := (HKA7.out.later hb9').cell 4
          have a5 := (HKA7.out.later hb9').cell 5
          have b0 := (HKB7.out.later hb9').cell 0
          have b1 := (HKB7.out.later hb9').cell 1
          have b2 := (HKB7.out.later hb9').cell 2
          have b3 := (HKB7.out.later hb9').cell 3
          have b4 := (HKB7.out.later hb9').cell 4
          have b5 := (HKB7.out.later hb9').cell 5
          have q0 := (HKX7.out.later hb9').cell 0
          have l0 := (HKL7.out.later hb9').cell 0
          clear hb9 hb9'
          have hby := beyond_any (.mk 6 nm v [t0] ls 0) xA _ (400 - lvl).toNat (by have := HSZ.out.2.1; have := HLV.out; omega) (by have := HLV.out; omega) (HOA.out xA (kept_below HK4.out HBA.out)).1.trv
          unfold tyC at hby
          rw [hm4] at hby
          go_wp2_with fail
          refine hby.mono ?_
          rintro e x10 ⟨rfl, hb9⟩
          have hb9' := HBA.out.trans (hb9.mono HBA.out.size)
          have HB10 := Lib.hid hb9'
          have a0 := (HKA7.out.later hb9').cell 0
          have a1 := (HKA7.out.later hb9').cell 1
          have a2 := (HKA7.out.later hb9').cell 2
          have a3 := (HKA7.out.later hb9').cell 3
          have a4 := (HKA7.out.later hb9').cell 4
          have a5 := (HKA7.out.later hb9').cell 5
          have b0 := (HKB7.out.later hb9').cell 0
          have b1 := (HKB7.out.later hb9').cell 1
          have b2 := (HKB7.out.later hb9').cell 2
          have b3 := (HKB7.out.later hb9').cell 3
          have b4 := (HKB7.out.later hb9').cell 4
          have b5 := (HKB7.out.later hb9').cell 5
          have q0 := (HKX7.out.later hb9').cell 0
          have l0 := (HKL7.out.later hb9').cell 0
          clear hb9 hb9' hby
          have hbu := HSZ7.out.1
          have hlv := HLV.out
          have hmm := HM.out
          have hsz := HSZ.out
          have h34 := HSZ7.out.2.1
          have h33 := HSZ7.out.2.2
          have h10 := HB10.out.size
          have h77 := HB7.out.size
          have hx47 := HK4.out.1
          have hws := HWS.out
          simp only [Ty.size, Ty.sizeL] at hlv hmm hsz
          have hwX : Below w.heap.size w x10 := HB7.out.trans (HB10.out.mono HB7.out.size)
          have hZ4 := kept_below HK4.out HB10.out
          have hZ5 := kept_below HK5.out HB10.out
          obtain ⟨gA, oA, eA, -, hcA, hsA, kA0, nmA0, vA0, AA0, nA0, cA0, BA0, mA0, dA0, rA0, htA0, hrA0⟩ := kid_at (HOA.out x10 hZ4).1 (HOA.out _ (kept_blank_s hZ4)).1 0 t0 rfl
          obtain ⟨gB, oB, eB, -, hcB, hsB, kB0, nmB0, vB0, AB0, nB0, cB0, BB0, mB0, dB0, rB0, htB0, hrB0⟩ := kid_at (HOB.out x10 hZ5) (HOB.out _ (kept_blank_s hZ5)) 0 u0 rfl
          obtain ⟨g1, hg1⟩ : ∃ g1, g1 = gA := ⟨_, rfl⟩
          obtain ⟨o1, ho1⟩ : ∃ o1, o1 = oA := ⟨_, rfl⟩
          obtain ⟨g2, hg2⟩ : ∃ g2, g2 = gB := ⟨_, rfl⟩
          obtain ⟨o2, ho2⟩ : ∃ o2, o2 = oB := ⟨_, rfl⟩
          subst hg1 ho1 hg2 ho2 eA eB
          rw [Nat.zero_mul, Nat.add_zero] at hrA0 hrB0
          obtain ⟨y0, y1, y2, y3, y4, y5⟩ := reads6 (b := g1) (o := o1) hrA0
          obtain ⟨z0, z1, z2, z3, z4, z5⟩ := reads6 (b := g2) (o := o2) hrB0
          have HK := Lib.hid (show ∀ X : World, x10.grownBy X (some bu) → X.cell? ⟨w.heap.size, 0, none⟩ = some (.pointer (some ⟨bu, 0, none⟩)) ∧ X.cell? ⟨w.heap.size + 1 + 1 + 1, 0, none⟩ = some (.int .i64 lvl) ∧ X.cell? ⟨w.heap.size + 1, 3, none⟩ = some (.slice (some ⟨g1, o1, none⟩) 1 c3) ∧ X.cell? ⟨w.heap.size + 1 + 1, 3, none⟩ = some (.slice (some ⟨g2, o2, none⟩) 1 c4) ∧ (X.cell? ⟨g1, o1, none⟩ = some (.int .i64 kA0) ∧ X.cell? ⟨g1, o1 + 1, none⟩ = some (.string (ba nmA0)) ∧ X.cell? ⟨g1, o1 + 2, none⟩ = some (.int .i64 vA0) ∧ X.cell? ⟨g1, o1 + 3, none⟩ = some (.slice AA0 nA0 cA0) ∧ X.cell? ⟨g1, o1 + 4, none⟩ = some (.slice BA0 mA0 dA0) ∧ X.cell? ⟨g1, o1 + 5, none⟩ = some (.int .i64 rA0)) ∧ (X.cell? ⟨g2, o2, none⟩ = some (.int .i64 kB0) ∧ X.cell? ⟨g2, o2 + 1, none⟩ = some (.string (ba nmB0)) ∧ X.cell? ⟨g2, o2 + 2, none⟩ = some (.int .i64 vB0) ∧ X.cell? ⟨g2, o2 + 3, none⟩ = some (.slice AB0 nB0 cB0) ∧ X.cell? ⟨g2, o2 + 4, none⟩ = some (.slice BB0 mB0 dB0) ∧ X.cell? ⟨g2, o2 + 5, none⟩ = some (.int .i64 rB0)) from fun X hx => by
            have e : ∀ (p : Addr) (u : Value), x10.cell? p = some u → p.block ≠ bu → X.cell? p = some u := fun p u hp hne => (World.cell?_of_block (hx.block p.block (World.block_lt_of_cell? x10 _ hp) (fun h => hne (Option.some.inj h)))).trans hp
            have j1 : w.heap.size ≠ bu := by omega
            have j2 : w.heap.size + 1 ≠ bu := by omega
            have j3 : w.heap.size + 1 + 1 ≠ bu := by omega
            have j4 : w.heap.size + 1 + 1 + 1 ≠ bu := by omega
            have j5 : g1 ≠ bu := by omega
            have j6 : g2 ≠ bu := by omega
            exact ⟨e _ _ q0 j1, e _ _ l0 j4, e _ _ a3 j2, e _ _ b3 j3, ⟨e _ _ y0 j5, e _ _ y1 j5, e _ _ y2 j5, e _ _ y3 j5, e _ _ y4 j5, e _ _ y5 j5⟩, e _ _ z0 j6, e _ _ z1 j6, e _ _ z2 j6, e _ _ z3 j6, e _ _ z4 j6, e _ _ z5 j6⟩)
          have HC := Lib.hid (fun X (hX : Below x10.heap.size x10 X) => IH.out t0 u0 X bu m nx (lvl + 1) _ _ (by omega) (by omega) (by omega) HQ.out.2.2.1.1 HQ.out.2.2.2.1 (HU.out.later (hwX.trans (hX.mono hwX.size))) (by omega) ⟨by omega, by omega⟩ HNX.out (htA0.later hX) (htB0.later hX))
          have HWX := Lib.hid hwX
          have HG0 := Lib.hid (show x10.grownBy x10.drew (some bu) from below_grown (Below.refl _ _).drew (grown_refl _ _))
          have hc30 : 0 < c3 := by omega
          have hc40 : 0 < c4 := by omega
          clear hZ4 hZ5 hwX htA0 htB0 hrA0 hrB0 hws hx47 h77 h10 h33 h34 hbu hlv hmm hsz hcA hcB hsA hsB hm4 hw4
          go_upto_region 13 with fail
          go_region_held3 (fun X => X.cell? ⟨w.heap.size, 0, none⟩ = some (.pointer (some ⟨bu, 0, none⟩)) ∧ X.cell? ⟨w.heap.size + 1 + 1 + 1, 0, none⟩ = some (.int .i64 lvl) ∧ X.cell? ⟨w.heap.size + 1, 3, none⟩ = some (.slice (some ⟨g1, o1, none⟩) 1 c3) ∧ X.cell? ⟨w.heap.size + 1 + 1, 3, none⟩ = some (.slice (some ⟨g2, o2, none⟩) 1 c4) ∧ (X.cell? ⟨g1, o1, none⟩ = some (.int .i64 kA0) ∧ X.cell? ⟨g1, o1 + 1, none⟩ = some (.string (ba nmA0)) ∧ X.cell? ⟨g1, o1 + 2, none⟩ = some (.int .i64 vA0) ∧ X.cell? ⟨g1, o1 + 3, none⟩ = some (.slice AA0 nA0 cA0) ∧ X.cell? ⟨g1, o1 + 4, none⟩ = some (.slice BA0 mA0 dA0) ∧ X.cell? ⟨g1, o1 + 5, none⟩ = some (.int .i64 rA0)) ∧ (X.cell? ⟨g2, o2, none⟩ = some (.int .i64 kB0) ∧ X.cell? ⟨g2, o2 + 1, none⟩ = some (.string (ba nmB0)) ∧ X.cell? ⟨g2, o2 + 2, none⟩ = some (.int .i64 vB0) ∧ X.cell? ⟨g2, o2 + 3, none⟩ = some (.slice AB0 nB0 cB0) ∧ X.cell? ⟨g2, o2 + 4, none⟩ = some (.slice BB0 mB0 dB0) ∧ X.cell? ⟨g2, o2 + 5, none⟩ = some (.int .i64 rB0)))
            (first | exact HK.out _ HG0.out | exact HK.out _ HG5.out)
            (first | (go_at_call 22; refine (HC.out _ (Below.refl _ _).drew).mono ?_; rintro e x5 ⟨err, rfl, hp5, hg5⟩; have HP5 := Lib.hid hp5; have HG5 := Lib.hid (below_grown (Below.refl _ _).drew hg5); clear hp5 hg5))
          go_wp2
          go_ret
          refine ⟨err, rfl, ⟨fun h => ⟨(HP5.out.1 h).1, HNE.out⟩, fun h => absurd ?_ HNE.out⟩, below_grown HWX.out HG5.out⟩
          have e1 := (HP5.out.2 h).1
          rw [HQQ.out, HQ.out.1.1, HQ.out.1.2.1, HQ.out.1.2.2, HQ.out.2.1.1, HQ.out.2.1.2.1, HQ.out.2.1.2.2, e1]
        case neg =>
          have HD5 := Lib.hid (show decide (k = 5 ∧ k' = 5 ∧ (n3 : Int) = 2 ∧ (n4 : Int) = 2) = false from decide_eq_false fun h => hk5 ⟨h.1, h.2.1⟩)
          have HD6 := Lib.hid (show decide (k = 6 ∧ k' = 6 ∧ (n3 : Int) = 1 ∧ (n4 : Int) = 1) = false from decide_eq_false fun h => hk6 ⟨h.1, h.2.1⟩)
          clear hrv0 hsl hlen h5 h6 hgl hrv0' hsl' hlen' h5' h6' hgl' hn3 hn4 hk5 hk6 hk7 hk7'
          go_wp2_with fail
          refine (both_any x8 k k' nm nm' v v' A3 A4 n3 n4 c3 c4 B3 B4 m3 m4 d3 d4 rv rv' 5 2).mono ?_
          rintro e x9 ⟨rfl, hb9⟩
          rw [HD5.out]
          have hb9' := HB8.out.trans (hb9.mono HB8.out.size)
          have HB9 := Lib.hid hb9'
          have a0 := (HKA7.out.later hb9').cell 0
          have a1 := (HKA7.out.later hb9').cell 1
          have a2 := (HKA7.out.later hb9').cell 2
          have a3 := (HKA7.out.later hb9').cell 3
          have a4 := (HKA7.out.later hb9').cell 4
          have a5 := (HKA7.out.later hb9').cell 5
          have b0 := (HKB7.out.later hb9').cell 0
          have b1 := (HKB7.out.later hb9').cell 1
          have b2 := (HKB7.out.later hb9').cell 2
          have b3 := (HKB7.out.later hb9').cell 3
          have b4 := (HKB7.out.later hb9').cell 4
          have b5 := (HKB7.out.later hb9').cell 5
          have q0 := (HKX7.out.later hb9').cell 0
          have l0 := (HKL7.out.later hb9').cell 0
          clear hb9 hb9'
          go_wp2_with fail
          refine (both_any x9 k k' nm nm' v v' A3 A4 n3 n4 c3 c4 B3 B4 m3 m4 d3 d4 rv rv' 6 1).mono ?_
          rintro e x10 ⟨rfl, hb10⟩
          rw [HD6.out]
          have HB10 := Lib.hid (HB7.out.trans ((HB9.out.trans (hb10.mono HB9.out.size)).mono HB7.out.size))
          clear hb10
          go_wp2
          go_ret
          exact ⟨5, rfl, ⟨fun _ => ⟨rfl, HNE.out⟩, fun h => absurd h (by decide)⟩, below_grown HB10.out (grown_refl _ _)⟩
end Go.Proofs.YtpbhndmfmnfeoaaGreat.Ug
