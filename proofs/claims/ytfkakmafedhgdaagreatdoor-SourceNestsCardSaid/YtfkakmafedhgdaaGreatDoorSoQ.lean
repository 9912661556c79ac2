/- The machine of package source: the step at a term. -/
import Derived.Test.YtfkakmafedhgdaaGreatDoorMg13
import Derived.Test.YtfkakmafedhgdaaGreatDoorSoE
import Derived.BigRegion
namespace Go.Proofs.YtfkakmafedhgdaaGreatDoor.K
open Go Go.RowKit
namespace So

theorem and_one (n : Int) : bits .and .i64 n 1 = n % 2 := by
  have h2 : (BitVec.ofInt 64 1).toNat = 1 := by decide
  have h : (BitVec.ofInt 64 n &&& BitVec.ofInt 64 1).toNat = (n % 2).toNat := by
    rw [BitVec.toNat_and, h2, Nat.and_one_is_mod, BitVec.toNat_ofInt]
    omega
  show IntKind.i64.wrap ((BitVec.ofInt 64 n &&& BitVec.ofInt 64 1).toNat : Int) = _
  rw [h]
  have : 0 ≤ n % 2 ∧ n % 2 < 2 := by omega
  rw [show ((n % 2).toNat : Int) = n % 2 by omega]
  exact IntWalk.i64_in _ (by omega)
theorem waits_len {t : Tm} (h : complete t = true) : if t.k = 6 then 2 ≤ t.kids.length else if t.k = 7 then 2 ≤ t.kids.length else if t.k = 9 then 3 ≤ t.kids.length else True := by
  unfold complete at h
  repeat' split at h
  all_goals (repeat' split)
  all_goals (first | trivial | (simp only [decide_eq_true_eq] at h; omega) | omega)
set_option maxRecDepth 100000 in
set_option maxHeartbeats 4000000 in
theorem enter_stuck {w0 : World} {mb : Nat} {H : Mem} {s : St} {w : World} (h : MS w0 mb H s w) {b o : Nat} {t : Tm} (ht : TmA H b o t) (hc : complete t = false) :
    Calls Tryz.prog 20 #[pt mb, ptO b o] w (MEnd w0 mb H (s.ends 4)) := by
  have hco := complete_any h.sub ht
  rw [hc] at hco
  have HC := Lib.hid hco
  have HM := Lib.hid (end_any h 4)
  clear hco hc h ht
  unfold pt ptO at *
  go_enter Tryz.func20, Tryz.ntmps20
  go_wp2_with fail
  refine HC.out.mono ?_
  rintro e w2 ⟨rfl, rfl⟩
  go_wp2_with fail
  refine HM.out.mono ?_
  rintro e w3 ⟨rfl, H3, k3, m3⟩
  go_wp2
  exact bodyPost_ret (results_none rfl _ _ _) rfl ⟨rfl, H3, k3, m3⟩
set_option maxRecDepth 100000 in
set_option maxHeartbeats 4000000 in
theorem enter_var {w0 : World} {mb : Nat} {H : Mem} {s : St} {w : World} (h : MS w0 mb H s w) {t : Tm} {en : Env} (ha : s.at_ = some (t, en)) {b o : Nat} (ht : TmA H b o t) (hc : complete t = true) (hk : t.k = 1) :
    Calls Tryz.prog 20 #[pt mb, ptO b o] w (MEnd w0 mb H (lookS t.nm en s)) := by
  have hco := complete_any h.sub ht
  rw [hc] at hco
  have HC := Lib.hid hco
  obtain ⟨x, z1, hen⟩ := h.env ha
  obtain ⟨r0h, r2h, r3h, r4h, B, d, r6h, har⟩ := ht.heads
  have r0 := r0h.cell h.sub
  have r2 := r2h.cell h.sub
  have r3 := r3h.cell h.sub
  have r4 := r4h.cell h.sub
  have r6 := r6h.cell h.sub
  rw [hk] at r0
  have HM := Lib.hid (look_any h ha t.nm)
  clear hco hc h ht hen har r0h r2h r3h r4h r6h ha
  unfold pt ptO at *
  go_enter Tryz.func20, Tryz.ntmps20
  go_wp2_with fail
  refine HC.out.mono ?_
  rintro e w2 ⟨rfl, rfl⟩
  go_wp2_with fail
  refine HM.out.mono ?_
  rintro e w3 ⟨rfl, H3, k3, m3⟩
  go_wp2
  go_end0
  exact ⟨rfl, H3, k3, m3⟩
set_option maxRecDepth 100000 in
set_option maxHeartbeats 4000000 in
theorem enter_int {w0 : World} {mb : Nat} {H : Mem} {s : St} {w : World} (h : MS w0 mb H s w) {t : Tm} {en : Env} (ha : s.at_ = some (t, en)) {b o : Nat} (ht : TmA H b o t) (hc : complete t = true) (hk : t.k = 2) :
    Calls Tryz.prog 20 #[pt mb, ptO b o] w (MEnd w0 mb H (s.has (.lit 1 t.n))) := by
  have hco := complete_any h.sub ht
  rw [hc] at hco
  have HC := Lib.hid hco
  obtain ⟨x, z1, hen⟩ := h.env ha
  obtain ⟨r0h, r2h, r3h, r4h, B, d, r6h, har⟩ := ht.heads
  have r0 := r0h.cell h.sub
  have r2 := r2h.cell h.sub
  have r3 := r3h.cell h.sub
  have r4 := r4h.cell h.sub
  have r6 := r6h.cell h.sub
  rw [hk] at r0
  have HM := Lib.hid (fun W (hb : Below w.heap.size w W) => answer_any (h.later hb) (.lit 1 (t.n) (by simp) : VV H s.cells.length (.lit 1 (t.n)) (litL 1 (t.n))))
  clear hco hc h ht hen har r0h r2h r3h r4h r6h ha
  unfold pt ptO at *
  go_enter Tryz.func20, Tryz.ntmps20
  go_wp2_with fail
  refine HC.out.mono ?_
  rintro e w2 ⟨rfl, rfl⟩
  go_wp2_with fail
  refine (number_any _ _).mono ?_
  rintro e w3 ⟨rfl, hb3⟩
  have HA := Lib.hid (HM.out _ hb3)
  clear hb3
  unfold litL
  go_wp2_with fail
  refine HA.out.mono ?_
  rintro e w4 ⟨rfl, H4, k4, m4⟩
  go_wp2
  go_end0
  exact ⟨rfl, H4, k4, m4⟩
set_option maxRecDepth 100000 in
set_option maxHeartbeats 4000000 in
theorem enter_bool {w0 : World} {mb : Nat} {H : Mem} {s : St} {w : World} (h : MS w0 mb H s w) {t : Tm} {en : Env} (ha : s.at_ = some (t, en)) {b o : Nat} (ht : TmA H b o t) (hc : complete t = true) (hk : t.k = 3) :
    Calls Tryz.prog 20 #[pt mb, ptO b o] w (MEnd w0 mb H (s.has (.lit 2 (t.n % 2)))) := by
  have hco := complete_any h.sub ht
  rw [hc] at hco
  have HC := Lib.hid hco
  obtain ⟨x, z1, hen⟩ := h.env ha
  obtain ⟨r0h, r2h, r3h, r4h, B, d, r6h, har⟩ := ht.heads
  have r0 := r0h.cell h.sub
  have r2 := r2h.cell h.sub
  have r3 := r3h.cell h.sub
  have r4 := r4h.cell h.sub
  have r6 := r6h.cell h.sub
  rw [hk] at r0
  have HM := Lib.hid (fun W (hb : Below w.heap.size w W) => answer_any (h.later hb) (.lit 2 (t.n % 2) (by simp) : VV H s.cells.length (.lit 2 (t.n % 2)) (litL 2 (t.n % 2))))
  clear hco hc h ht hen har r0h r2h r3h r4h r6h ha
  unfold pt ptO at *
  go_enter Tryz.func20, Tryz.ntmps20
  go_wp2_with fail
  refine HC.out.mono ?_
  rintro e w2 ⟨rfl, rfl⟩
  go_wp2_with fail
  rw [and_one]
  refine (truth_any _ _).mono ?_
  rintro e w3 ⟨rfl, hb3⟩
  have HA := Lib.hid (HM.out _ hb3)
  clear hb3
  unfold litL
  go_wp2_with fail
  refine HA.out.mono ?_
  rintro e w4 ⟨rfl, H4, k4, m4⟩
  go_wp2
  go_end0
  exact ⟨rfl, H4, k4, m4⟩
set_option maxRecDepth 100000 in
set_option maxHeartbeats 4000000 in
theorem enter_unit {w0 : World} {mb : Nat} {H : Mem} {s : St} {w : World} (h : MS w0 mb H s w) {t : Tm} {en : Env} (ha : s.at_ = some (t, en)) {b o : Nat} (ht : TmA H b o t) (hc : complete t = true) (hk : t.k = 4) :
    Calls Tryz.prog 20 #[pt mb, ptO b o] w (MEnd w0 mb H (s.has unitV)) := by
  have hco := complete_any h.sub ht
  rw [hc] at hco
  have HC := Lib.hid hco
  obtain ⟨x, z1, hen⟩ := h.env ha
  obtain ⟨r0h, r2h, r3h, r4h, B, d, r6h, har⟩ := ht.heads
  have r0 := r0h.cell h.sub
  have r2 := r2h.cell h.sub
  have r3 := r3h.cell h.sub
  have r4 := r4h.cell h.sub
  have r6 := r6h.cell h.sub
  rw [hk] at r0
  have HM := Lib.hid (fun W (hb : Below w.heap.size w W) => answer_any (h.later hb) (.lit 3 (0) (by simp) : VV H s.cells.length (.lit 3 (0)) (litL 3 (0))))
  clear hco hc h ht hen har r0h r2h r3h r4h r6h ha
  unfold pt ptO at *
  go_enter Tryz.func20, Tryz.ntmps20
  go_wp2_with fail
  refine HC.out.mono ?_
  rintro e w2 ⟨rfl, rfl⟩
  go_wp2_with fail
  refine (unit_any _).mono ?_
  rintro e w3 ⟨rfl, hb3⟩
  have HA := Lib.hid (HM.out _ hb3)
  clear hb3
  unfold litL
  go_wp2_with fail
  refine HA.out.mono ?_
  rintro e w4 ⟨rfl, H4, k4, m4⟩
  go_wp2
  go_end0
  exact ⟨rfl, H4, k4, m4⟩
set_option maxRecDepth 100000 in
set_option maxHeartbeats 4000000 in
theorem enter_gat10 {w0 : World} {mb : Nat} {H : Mem} {s : St} {w : World} (h : MS w0 mb H s w) {t : Tm} {en : Env} (ha : s.at_ = some (t, en)) {b o : Nat} (ht : TmA H b o t) (hc : complete t = true) (hk : t.k = 10) (htr : s.trace.length ≤ 1000000) (hce : s.cells.length ≤ 1000000) :
    Calls Tryz.prog 20 #[pt mb, ptO b o] w (MEnd w0 mb H (gather t en [] s)) := by
  have hco := complete_any h.sub ht
  rw [hc] at hco
  have HC := Lib.hid hco
  obtain ⟨x, z1, hen⟩ := h.env ha
  obtain ⟨r0h, r2h, r3h, r4h, B, d, r6h, har⟩ := ht.heads
  have r0 := r0h.cell h.sub
  have r2 := r2h.cell h.sub
  have r3 := r3h.cell h.sub
  have r4 := r4h.cell h.sub
  have r6 := r6h.cell h.sub
  rw [hk] at r0
  have hkp := h.alloc (.cells [ptO b o, .pointer x, .int .i64 0, .pointer none].toArray 113)
  have hq : t.k = 11 ∨ (t.k = 10 ∧ argc t.nm = some t.kids.length) := by
    refine .inr ⟨hk, ?_⟩
    have h1 := hc
    unfold complete at h1
    rw [if_neg (by rw [hk]; decide), if_neg (by rw [hk]; decide), if_neg (by rw [hk]; decide), if_neg (by rw [hk]; decide), if_pos hk, decide_eq_true_eq] at h1
    exact h1
  have HM := Lib.hid (gather_any hkp.2 (done := []) (ins_row _ _ _ _) (ht.le hkp.1) (hen.le hkp.1 (Nat.le_refl _)) .nil hq (Nat.zero_le _) htr hce)
  have HK := Lib.hid hkp.1
  clear hkp hq
  clear hco hc h ht hen har r0h r2h r3h r4h r6h ha
  unfold pt ptO at *
  go_enter Tryz.func20, Tryz.ntmps20
  go_wp2_with fail
  refine HC.out.mono ?_
  rintro e w2 ⟨rfl, rfl⟩
  go_wp2_with fail
  refine HM.out.mono ?_
  rintro e w3 ⟨rfl, H3, k3, m3⟩
  go_wp2
  go_end0
  exact ⟨rfl, H3, HK.out.trans k3, m3⟩
set_option maxRecDepth 100000 in
set_option maxHeartbeats 4000000 in
theorem enter_gat11 {w0 : World} {mb : Nat} {H : Mem} {s : St} {w : World} (h : MS w0 mb H s w) {t : Tm} {en : Env} (ha : s.at_ = some (t, en)) {b o : Nat} (ht : TmA H b o t) (hc : complete t = true) (hk : t.k = 11) (htr : s.trace.length ≤ 1000000) (hce : s.cells.length ≤ 1000000) :
    Calls Tryz.prog 20 #[pt mb, ptO b o] w (MEnd w0 mb H (gather t en [] s)) := by
  have hco := complete_any h.sub ht
  rw [hc] at hco
  have HC := Lib.hid hco
  obtain ⟨x, z1, hen⟩ := h.env ha
  obtain ⟨r0h, r2h, r3h, r4h, B, d, r6h, har⟩ := ht.heads
  have r0 := r0h.cell h.sub
  have r2 := r2h.cell h.sub
  have r3 := r3h.cell h.sub
  have r4 := r4h.cell h.sub
  have r6 := r6h.cell h.sub
  rw [hk] at r0
  have hkp := h.alloc (.cells [ptO b o, .pointer x, .int .i64 0, .pointer none].toArray 113)
  have hq : t.k = 11 ∨ (t.k = 10 ∧ argc t.nm = some t.kids.length) := by
    exact .inl hk
  have HM := Lib.hid (gather_any hkp.2 (done := []) (ins_row _ _ _ _) (ht.le hkp.1) (hen.le hkp.1 (Nat.le_refl _)) .nil hq (Nat.zero_le _) htr hce)
  have HK := Lib.hid hkp.1
  clear hkp hq
  clear hco hc h ht hen har r0h r2h r3h r4h r6h ha
  unfold pt ptO at *
  go_enter Tryz.func20, Tryz.ntmps20
  go_wp2_with fail
  refine HC.out.mono ?_
  rintro e w2 ⟨rfl, rfl⟩
  go_wp2_with fail
  refine HM.out.mono ?_
  rintro e w3 ⟨rfl, H3, k3, m3⟩
  go_wp2
  go_end0
  exact ⟨rfl, H3, HK.out.trans k3, m3⟩
set_option maxRecDepth 100000 in
set_option maxHeartbeats 4000000 in
theorem enter_wait {w0 : World} {mb : Nat} {H : Mem} {s : St} {w : World} (h : MS w0 mb H s w) {t : Tm} {en : Env} (ha : s.at_ = some (t, en)) {b o : Nat} (ht : TmA H b o t) (hc : complete t = true) (hk : t.k = 6 ∨ t.k = 7 ∨ t.k = 9 ∨ t.k = 12 ∨ t.k = 13) (hkn : 1 ≤ t.kids.length) :
    Calls Tryz.prog 20 #[pt mb, ptO b o] w (MEnd w0 mb H ((s.push (waitsF t en)).goes (kid t 0) en)) := by
  have hco := complete_any h.sub ht
  rw [hc] at hco
  have HC := Lib.hid hco
  obtain ⟨x, z1, hen⟩ := h.env ha
  obtain ⟨r0h, r2h, r3h, r4h, B, d, r6h, har⟩ := ht.heads
  have r0 := r0h.cell h.sub
  have r2 := r2h.cell h.sub
  have r3 := r3h.cell h.sub
  have r4 := r4h.cell h.sub
  have r6 := r6h.cell h.sub
  obtain ⟨g, ko, c, k5, hks⟩ := ht.kidsAt (by omega)
  have hwt := waits_any h.drew ha ht (waits_len hc)
  have hi0 : (0 : Int) < (t.kids.length : Int) := by omega
  have hn0 : 0 < t.kids.length := by omega
  have hkt : TmA H g ko (kid t 0) := by have := hks 0 (by omega); simpa using this
  obtain ⟨k, hkk⟩ : ∃ k, k = t.k := ⟨_, rfl⟩
  rw [← hkk] at r0 hk
  have n1 : (k == 1) = false := by rw [beq_eq_false_iff_ne]; omega
  have n2 : (k == 2) = false := by rw [beq_eq_false_iff_ne]; omega
  have n3 : (k == 3) = false := by rw [beq_eq_false_iff_ne]; omega
  have n4 : (k == 4) = false := by rw [beq_eq_false_iff_ne]; omega
  have n5 : (k == 5) = false := by rw [beq_eq_false_iff_ne]; omega
  have n8 : (k == 8) = false := by rw [beq_eq_false_iff_ne]; omega
  have n10 : (k == 10) = false := by rw [beq_eq_false_iff_ne]; omega
  have n11 : (k == 11) = false := by rw [beq_eq_false_iff_ne]; omega
  have n14 : (k == 14) = false := by rw [beq_eq_false_iff_ne]; omega
  have HWT := Lib.hid hwt
  have HEN := Lib.hid hen
  have HA := Lib.hid ha
  have K5 := Lib.hid k5
  have HKT := Lib.hid hkt
  have hsd : w.drew.cell? ⟨b, o, none⟩ = some (.int .i64 k) := r0
  have HSD := Lib.hid hsd
  have hs2 : ∀ {H' : Mem} {S : St} {W : World}, MLe H H' → MS w0 mb H' S W → W.cell? ⟨b, o, none⟩ = some (.int .i64 k) := fun q m => by rw [hkk]; exact (r0h.le q).cell m.sub
  have HS2 := Lib.hid (fun (H' : Mem) (S : St) (W : World) (q : MLe H H') (m : MS w0 mb H' S W) => hs2 q m)
  clear hco hc h ht hen har r0h r2h r3h r4h r6h ha hwt hks k5 hkt hsd hs2 hk hkk
  unfold pt ptO at *
  go_enter Tryz.func20, Tryz.ntmps20
  go_wp2_with fail
  refine HC.out.mono ?_
  rintro e w2 ⟨rfl, rfl⟩
  go_wp2_with fail
  go_region_held3 (fun VV => VV.cell? ⟨b, o, none⟩ = some (.int .i64 k))
    (first | with_reducible exact HSD.out | with_reducible exact hS2 | with_reducible exact hS3)
    ((first | (go_at_call 41; refine HWT.out.mono ?_; rintro e w3 ⟨H3, x3, rfl, k3, m3, f3⟩; have hS2 := HS2.out _ _ _ k3 m3; have K3 := Lib.hid k3; have M3 := Lib.hid m3; have F3 := Lib.hid f3; clear k3 m3 f3) | (go_at_call 40; refine (push_any M3.out F3.out).mono ?_; rintro e w4 ⟨rfl, H4, k4, m4⟩; have hS3 := HS2.out _ _ _ (K3.out.trans k4) m4; have K4 := Lib.hid k4; have M4 := Lib.hid m4; clear k4 m4)))
  all_goals
    obtain ⟨x5, y1, hen5⟩ := M4.out.env (t := t) (en := en) HA.out
    have y5 := (K5.out.le (K3.out.trans K4.out)).cell M4.out.sub
    have HAT := Lib.hid (at_any M4.out.drew (HKT.out.le (K3.out.trans K4.out)) hen5)
    clear hen5
    go_wp2_with fail
    go_still_tail 10, (by kernel_rfl)
    change wpList _ _ _ _ _ w4.drew
    go_wp2_with fail
    refine HAT.out.mono ?_
    rintro e w5 ⟨rfl, H5, k5, m5⟩
    go_wp2
    go_end0
    exact ⟨rfl, H5, (K3.out.trans K4.out).trans k5, m5⟩
end So
end Go.Proofs.YtfkakmafedhgdaaGreatDoor.K
