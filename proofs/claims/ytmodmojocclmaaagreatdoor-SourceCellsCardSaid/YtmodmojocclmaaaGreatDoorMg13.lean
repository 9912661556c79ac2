/- The machine of package source: the step at a term. -/
import Derived.Test.YtmodmojocclmaaaGreatDoorMg12
import Derived.Test.YtmodmojocclmaaaGreatDoorMg09
import Derived.Test.YtmodmojocclmaaaGreatDoorMg06
import Derived.BigRegion
import Derived.Deep.RegionHeld3
namespace Go.Proofs.YtmodmojocclmaaaGreatDoor.K
open Go Go.RowKit
namespace So

theorem and_one (n : Int) : bits .and .i64 n 1 = n % 2 := by
 have h2 : (BitVec.ofInt 64 1).toNat = 1 := by decide
 have h : (BitVec.ofInt 64 n &&& BitVec.ofInt 64 1).toNat = (n % 2).toNat := by
  rw [BitVec.toNat_and, h2, Nat.and_one_is_mod, BitVec.toNat_ofInt]
  omega
 show IntKind.i64.wrap ((BitVec.ofInt 64 n &&& BitVec.ofInt 64 1).toNat : Int) = _
 rw [h]
 have : 0 ≤ n % 2 ∧ n % 2 < 2 := by omega
 rw [show ((n % 2).toNat : Int) = n % 2 by omega]
 exact IntWalk.i64_in _ (by omega)
theorem waits_len {t : Tm} (h : complete t = true) : if t.k = 6 then 2 ≤ t.kids.length else if t.k = 7 then 2 ≤ t.kids.length else if t.k = 9 then 3 ≤ t.kids.length else True := by
 unfold complete at h
 repeat' split at h
 all_goals (repeat' split)
 all_goals (first | trivial | (simp only [decide_eq_true_eq] at h; omega) | omega)
set_option maxRecDepth 100000 in
set_option maxHeartbeats 4000000 in
theorem enter_stuck {w0 : World} {mb : Nat} {H : Mem} {s : St} {w : World} (h : MS w0 mb H s w) {b o : Nat} {t : Tm} (ht : TmA H b o t) (hc : complete t = false) :
  Calls Tryz.prog 20 #[pt mb, ptO b o] w (MEnd w0 mb H (s.ends 4)) := by
 have hco := complete_any h.sub ht
 rw [hc] at hco
 have HC := Lib.hid hco
 have HM := Lib.hid (end_any h 4)
 clear hco hc h ht
 unfold pt ptO at *
 go_enter Tryz.func20, Tryz.ntmps20
 go_wp2_with fail
 refine HC.out.mono ?_
 rintro e w2 ⟨rfl, rfl⟩
 go_wp2_with fail
 refine HM.out.mono ?_
 rintro e w3 ⟨rfl, H3, k3, m3⟩
 go_wp2
 exact bodyPost_ret (results_none rfl _ _ _) rfl ⟨rfl, H3, k3, m3⟩
set_option maxRecDepth 100000 in
set_option maxHeartbeats 4000000 in
theorem enter_var {w0 : World} {mb : Nat} {H : Mem} {s : St} {w : World} (h : MS w0 mb H s w) {t : Tm} {en : Env} (ha : s.at_ = some (t, en)) {b o : Nat} (ht : TmA H b o t) (hc : complete t = true) (hk : t.k = 1) :
  Calls Tryz.prog 20 #[pt mb, ptO b o] w (MEnd w0 mb H (lookS t.nm en s)) := by
 have hco := complete_any h.sub ht
 rw [hc] at hco
 have HC := Lib.hid hco
 obtain ⟨x, z1, hen⟩ := h.env ha
 obtain ⟨r0h, r2h, r3h, r4h, B, d, r6h, har⟩ := ht.heads
 have r0 := r0h.cell h.sub
 have r2 := r2h.cell h.sub
 have r3 := r3h.cell h.sub
 have r4 := r4h.cell h.sub
 have r6 := r6h.cell h.sub
 rw [hk] at r0
 have HM := Lib.hid (look_any h ha t.nm)
 clear hco hc h ht hen har r0h r2h r3h r4h r6h ha
 unfold pt ptO at *
 go_enter Tryz.func20, Tryz.ntmps20
 go_wp2_with fail
 refine HC.out.mono ?_
 rintro e w2 ⟨rfl, rfl⟩
 go_wp2_with fail
 refine HM.out.mono ?_
 rintro e w3 ⟨rfl, H3, k3, m3⟩
 go_wp2
 go_end0
 exact ⟨rfl, H3, k3, m3⟩
set_option maxRecDepth 100000 in
set_option maxHeartbeats 4000000 in
theorem enter_int {w0 : World} {mb : Nat} {H : Mem} {s : St} {w : World} (h : MS w0 mb H s w) {t : Tm} {en : Env} (ha : s.at_ = some (t, en)) {b o : Nat} (ht : TmA H b o t) (hc : complete t = true) (hk : t.k = 2) :
  Calls Tryz.prog 20 #[pt mb, ptO b o] w (MEnd w0 mb H (s.has (.lit 1 t.n))) := by
 have hco := complete_any h.sub ht
 rw [hc] at hco
 have HC := Lib.hid hco
 obtain ⟨x, z1, hen⟩ := h.env ha
 obtain ⟨r0h, r2h, r3h, r4h, B, d, r6h, har⟩ := ht.heads
 have r0 := r0h.cell h.sub
 have r2 := r2h.cell h.sub
 have r3 := r3h.cell h.sub
 have r4 := r4h.cell h.sub
 have r6 := r6h.cell h.sub
 rw [hk] at r0
 have HM := Lib.hid (fun W (hb : Below w.heap.size w W) => answer_any (h.later hb) (.lit 1 (t.n) (by simp) : VV H s.cells.length (.lit 1 (t.n)) (litL 1 (t.n))))
 clear hco hc h ht hen har r0h r2h r3h r4h r6h ha
 unfold pt ptO at *
 go_enter Tryz.func20, Tryz.ntmps20
 go_wp2_with fail
 refine HC.out.mono ?_
 rintro e w2 ⟨rfl, rfl⟩
 go_wp2_with fail
 refine (number_any _ _).mono ?_
 rintro e w3 ⟨rfl, hb3⟩
 have HA := Lib.hid (HM.out _ hb3)
 clear hb3
 unfold litL
 go_wp2_with fail
 refine HA.out.mono ?_
 rintro e w4 ⟨rfl, H4, k4, m4⟩
 go_wp2
 go_end0
 exact ⟨rfl, H4, k4, m4⟩
set_option maxRecDepth 100000 in
set_option maxHeartbeats 4000000 in
theorem enter_bool {w0 : World} {mb : Nat} {H : Mem} {s : St} {w : World} (h : MS w0 mb H s w) {t : Tm} {en : Env} (ha : s.at_ = some (t, en)) {b o : Nat} (ht : TmA H b o t) (hc : complete t = true) (hk : t.k = 3) :
  Calls Tryz.prog 20 #[pt mb, ptO b o] w (MEnd w0 mb H (s.has (.lit 2 (t.n % 2)))) := by
 have hco := complete_any h.sub ht
 rw [hc] at hco
 have HC := Lib.hid hco
 obtain ⟨x, z1, hen⟩ := h.env ha
 obtain ⟨r0h, r2h, r3h, r4h, B, d, r6h, har⟩ := ht.heads
 have r0 := r0h.cell h.sub
 have r2 := r2h.cell h.sub
 have r3 := r3h.cell h.sub
 have r4 := r4h.cell h.sub
 have r6 := r6h.cell h.sub
 rw [hk] at r0
 have HM := Lib.hid (fun W (hb : Below w.heap.size w W) => answer_any (h.later hb) (.lit 2 (t.n % 2) (by simp) : VV H s.cells.length (.lit 2 (t.n % 2)) (litL 2 (t.n % 2))))
 clear hco hc h ht hen har r0h r2h r3h r4h r6h ha
 unfold pt ptO at *
 go_enter Tryz.func20, Tryz.ntmps20
 go_wp2_with fail
 refine HC.out.mono ?_
 rintro e w2 ⟨rfl, rfl⟩
 go_wp2_with fail
 rw [and_one]
 refine (truth_any _ _).mono ?_
 rintro e w3 ⟨rfl, hb3⟩
 have HA := Lib.hid (HM.out _ hb3)
 clear hb3
 unfold litL
 go_wp2_with fail
 refine HA.out.mono ?_
 rintro e w4 ⟨rfl, H4, k4, m4⟩
 go_wp2
 go_end0
 exact ⟨rfl, H4, k4, m4⟩
set_option maxRecDepth 100000 in
set_option maxHeartbeats 4000000 in
theorem enter_unit {w0 : World} {mb : Nat} {H : Mem} {s : St} {w : World} (h : MS w0 mb H s w) {t : Tm} {en : Env} (ha : s.at_ = some (t, en)) {b o : Nat} (ht : TmA H b o t) (hc : complete t = true) (hk : t.k = 4) :
  Calls Tryz.prog 20 #[pt mb, ptO b o] w (MEnd w0 mb H (s.has unitV)) := by
 have hco := complete_any h.sub ht
 rw [hc] at hco
 have HC := Lib.hid hco
 obtain ⟨x, z1, hen⟩ := h.env ha
 obtain ⟨r0h, r2h, r3h, r4h, B, d, r6h, har⟩ := ht.heads
 have r0 := r0h.cell h.sub
 have r2 := r2h.cell h.sub
 have r3 := r3h.cell h.sub
 have r4 := r4h.cell h.sub
 have r6 := r6h.cell h.sub
 rw [hk] at r0
 have HM := Lib.hid (fun W (hb : Below w.heap.size w W) => answer_any (h.later hb) (.lit 3 (0) (by simp) : VV H s.cells.length (.lit 3 (0)) (litL 3 (0))))
 clear hco hc h ht hen har r0h r2h r3h r4h r6h ha
 unfold pt ptO at *
 go_enter Tryz.func20, Tryz.ntmps20
 go_wp2_with fail
 refine HC.out.mono ?_
 rintro e w2 ⟨rfl, rfl⟩
 go_wp2_with fail
 refine (unit_any _).mono ?_
 rintro e w3 ⟨rfl, hb3⟩
 have HA := Lib.hid (HM.out _ hb3)
 clear hb3
 unfold litL
 go_wp2_with fail
 refine HA.out.mono ?_
 rintro e w4 ⟨rfl, H4, k4, m4⟩
 go_wp2
 go_end0
 exact ⟨rfl, H4, k4, m4⟩
set_option maxRecDepth 100000 in
set_option maxHeartbeats 4000000 in
theorem enter_gat10 {w0 : World} {mb : Nat} {H : Mem} {s : St} {w : World} (h : MS w0 mb H s w) {t : Tm} {en : Env} (ha : s.at_ = some (t, en)) {b o : Nat} (ht : TmA H b o t) (hc : complete t = true) (hk : t.k = 10) (htr : s.trace.length ≤ 1000000) (hce : s.cells.length ≤ 1000000) :
  Calls Tryz.prog 20 #[pt mb, ptO b o] w (MEnd w0 mb H (gather t en [] s)) := by
 have hco := complete_any h.sub ht
 rw [hc] at hco
 have HC := Lib.hid hco
 obtain ⟨x, z1, hen⟩ := h.env ha
 obtain ⟨r0h, r2h, r3h, r4h, B, d, r6h, har⟩ := ht.heads
 have r0 := r0h.cell h.sub
 have r2 := r2h.cell h.sub
 have r3 := r3h.cell h.sub
 have r4 := r4h.cell h.sub
 have r6 := r6h.cell h.sub
 rw [hk] at r0
 have hkp := h.alloc (.cells [ptO b o, .pointer x, .int .i64 0, .pointer none].toArray 113)
 have hq : t.k = 11 ∨ (t.k = 10 ∧ argc t.nm = some t.kids.length) := by
  refine .inr ⟨hk, ?_⟩
  have h1 := hc
  unfold complete at h1
  rw [if_neg (by rw [hk]; decide), if_neg (by rw [hk]; decide), if_neg (by rw [hk]; decide), if_neg (by rw [hk]; decide), if_pos hk, decide_eq_true_eq] at h1
  exact h1
 have HM := Lib.hid (gather_any hkp.2 (done := []) (ins_row _ _ _ _) (ht.le hkp.1) (hen.le hkp.1 (Nat.le_refl _)) .nil hq (Nat.zero_le _) htr hce)
 have HK := Lib.hid hkp.1
 clear hkp hq
 clear hco hc h ht hen har r0h r2h r3h r4h r6h ha
 unfold pt ptO at *
 go_enter Tryz.func20, Tryz.ntmps20
 go_wp2_with fail
 refine HC.out.mono ?_
 rintro e w2 ⟨rfl, rfl⟩
 go_wp2_with fail
 refine HM.out.mono ?_
 rintro e w3 ⟨rfl, H3, k3, m3⟩
 go_wp2
 go_end0
 exact ⟨rfl, H3, HK.out.trans k3, m3⟩
set_option maxRecDepth 100000 in
set_option maxHeartbeats 4000000 in
theorem enter_gat11 {w0 : World} {mb : Nat} {H : Mem} {s : St} {w : World} (h : MS w0 mb H s w) {t : Tm} {en : Env} (ha : s.at_ = some (t, en)) {b o : Nat} (ht : TmA H b o t) (hc : complete t = true) (hk : t.k = 11) (htr : s.trace.length ≤ 1000000) (hce : s.cells.length ≤ 1000000) :
  Calls Tryz.prog 20 #[pt mb, ptO b o] w (MEnd w0 mb H (gather t en [] s)) := by
 have hco := complete_any h.sub ht
 rw [hc] at hco
 have HC := Lib.hid hco
 obtain ⟨x, z1, hen⟩ := h.env ha
 obtain ⟨r0h, r2h, r3h, r4h, B, d, r6h, har⟩ := ht.heads
 have r0 := r0h.cell h.sub
 have r2 := r2h.cell h.sub
 have r3 := r3h.cell h.sub
 have r4 := r4h.cell h.sub
 have r6 := r6h.cell h.sub
 rw [hk] at r0
 have hkp := h.alloc (.cells [ptO b o, .pointer x, .int .i64 0, .pointer none].toArray 113)
 have hq : t.k = 11 ∨ (t.k = 10 ∧ argc t.nm = some t.kids.length) := by
  exact .inl hk
 have HM := Lib.hid (gather_any hkp.2 (done := []) (ins_row _ _ _ _) (ht.le hkp.1) (hen.le hkp.1 (Nat.le_refl _)) .nil hq (Nat.zero_le _) htr hce)
 have HK := Lib.hid hkp.1
 clear hkp hq
 clear hco hc h ht hen har r0h r2h r3h r4h r6h ha
 unfold pt ptO at *
 go_enter Tryz.func20, Tryz.ntmps20
 go_wp2_with fail
 refine HC.out.mono ?_
 rintro e w2 ⟨rfl, rfl⟩
 go_wp2_with fail
 refine HM.out.mono ?_
 rintro e w3 ⟨rfl, H3, k3, m3⟩
 go_wp2
 go_end0
 exact ⟨rfl, H3, HK.out.trans k3, m3⟩
set_option maxRecDepth 100000 in
set_option maxHeartbeats 4000000 in
theorem enter_wait {w0 : World} {mb : Nat} {H : Mem} {s : St} {w : World} (h : MS w0 mb H s w) {t : Tm} {en : Env} (ha : s.at_ = some (t, en)) {b o : Nat} (ht : TmA H b o t) (hc : complete t = true) (hk : t.k = 6 ∨ t.k = 7 ∨ t.k = 9 ∨ t.k = 12 ∨ t.k = 13) (hkn : 1 ≤ t.kids.length) :
  Calls Tryz.prog 20 #[pt mb, ptO b o] w (MEnd w0 mb H ((s.push (waitsF t en)).goes (kid t 0) en)) := by
 have hco := complete_any h.sub ht
 rw [hc] at hco
 have HC := Lib.hid hco
 obtain ⟨x, z1, hen⟩ := h.env ha
 obtain ⟨r0h, r2h, r3h, r4h, B, d, r6h, har⟩ := ht.heads
 have r0 := r0h.cell h.sub
 have r2 := r2h.cell h.sub
 have r3 := r3h.cell h.sub
 have r4 := r4h.cell h.sub
 have r6 := r6h.cell h.sub
 obtain ⟨g, ko, c, k5, hks⟩ := ht.kidsAt (by omega)
 have hwt := waits_any h.drew ha ht (waits_len hc)
 have hi0 : (0 : Int) < (t.kids.length : Int) := by omega
 have hn0 : 0 < t.kids.length := by omega
 have hkt : TmA H g ko (kid t 0) := by have := hks 0 (by omega); simpa using this
 obtain ⟨k, hkk⟩ : ∃ k, k = t.k := ⟨_, rfl⟩
 rw [← hkk] at r0 hk
 have n1 : (k == 1) = false := by rw [beq_eq_false_iff_ne]; omega
 have n2 : (k == 2) = false := by rw [beq_eq_false_iff_ne]; omega
 have n3 : (k == 3) = false := by rw [beq_eq_false_iff_ne]; omega
 have n4 : (k == 4) = false := by rw [beq_eq_false_iff_ne]; omega
 have n5 : (k == 5) = false := by rw [beq_eq_false_iff_ne]; omega
 have n8 : (k == 8) = false := by rw [beq_eq_false_iff_ne]; omega
 have n10 : (k == 10) = false := by rw [beq_eq_false_iff_ne]; omega
 have n11 : (k == 11) = false := by rw [beq_eq_false_iff_ne]; omega
 have n14 : (k == 14) = false := by rw [beq_eq_false_iff_ne]; omega
 have HWT := Lib.hid hwt
 have HEN := Lib.hid hen
 have HA := Lib.hid ha
 have K5 := Lib.hid k5
 have HKT := Lib.hid hkt
 have hsd : w.drew.cell? ⟨b, o, none⟩ = some (.int .i64 k) := r0
 have HSD := Lib.hid hsd
 have hs2 : ∀ {H' : Mem} {S : St} {W : World}, MLe H H' → MS w0 mb H' S W → W.cell? ⟨b, o, none⟩ = some (.int .i64 k) := fun q m => by rw [hkk]; exact (r0h.le q).cell m.sub
 have HS2 := Lib.hid (fun (H' : Mem) (S : St) (W : World) (q : MLe H H') (m : MS w0 mb H' S W) => hs2 q m)
 clear hco hc h ht hen har r0h r2h r3h r4h r6h ha hwt hks k5 hkt hsd hs2 hk hkk
 unfold pt ptO at *
 go_enter Tryz.func20, Tryz.ntmps20
 go_wp2_with fail
 refine HC.out.mono ?_
 rintro e w2 ⟨rfl, rfl⟩
 go_wp2_with fail
 go_region_held3 (fun VV => VV.cell? ⟨b, o, none⟩ = some (.int .i64 k))
  (first | with_reducible exact HSD.out | with_reducible exact hS2 | with_reducible exact hS3)
  ((first | (go_at_call 41; refine HWT.out.mono ?_; rintro e w3 ⟨H3, x3, rfl, k3, m3, f3⟩; have hS2 := HS2.out _ _ _ k3 m3; have K3 := Lib.hid k3; have M3 := Lib.hid m3; have F3 := Lib.hid f3; clear k3 m3 f3) | (go_at_call 40; refine (push_any M3.out F3.out).mono ?_; rintro e w4 ⟨rfl, H4, k4, m4⟩; have hS3 := HS2.out _ _ _ (K3.out.trans k4) m4; have K4 := Lib.hid k4; have M4 := Lib.hid m4; clear k4 m4)))
 all_goals
  obtain ⟨x5, y1, hen5⟩ := M4.out.env (t := t) (en := en) HA.out
  have y5 := (K5.out.le (K3.out.trans K4.out)).cell M4.out.sub
  have HAT := Lib.hid (at_any M4.out.drew (HKT.out.le (K3.out.trans K4.out)) hen5)
  clear hen5
  go_wp2_with fail
  go_still_tail 10, (by kernel_rfl)
  change wpList _ _ _ _ _ w4.drew
  go_wp2_with fail
  refine HAT.out.mono ?_
  rintro e w5 ⟨rfl, H5, k5, m5⟩
  go_wp2
  go_end0
  exact ⟨rfl, H5, (K3.out.trans K4.out).trans k5, m5⟩
end So
end Go.Proofs.YtmodmojocclmaaaGreatDoor.K

/- The machine of package source: the step at a function, a rec, a handler. -/
namespace Go.Proofs.YtmodmojocclmaaaGreatDoor.K
open Go Go.RowKit
namespace So

def ValAny (w0 : World) (mb : Nat) (H : Mem) (s : St) (v : Val) (w : World) (e : Ending) (w' : World) : Prop := ∃ x, e = .returned (.agg x) ∧ MS w0 mb H s w' ∧ Below w.heap.size w w' ∧ ∃ l, x = l.toArray ∧ VV H s.cells.length v l
theorem fun_ms {w0 : World} {mb : Nat} {H : Mem} {s : St} {w : World} (h : MS w0 mb H s w) {v : Val} {T : TypeId} {x : Value} (hv : VV H s.cells.length v [.int .i64 6, .int .i64 0, .pointer none, .iface T x]) :
  Calls Tryz.prog 35 #[.iface T x] w (ValAny w0 mb H s v w) :=
 (fun_any w T x).mono fun _ _ ⟨h1, h2⟩ => ⟨_, h1, h.later h2, h2, _, rfl, hv⟩
theorem with_agg {w0 : World} {mb : Nat} {H : Mem} {s : St} {w : World} (h : MS w0 mb H s w) {en : Env} {x : Value} {nm : Str} {v : Val} {y : Array Value} (he : EV H s.cells.length en x) (hv : ∃ l, y = l.toArray ∧ VV H s.cells.length v l) :
  Calls Tryz.prog 37 #[x, .string (ba nm), .agg y] w (EEnd w0 mb H s ((nm, v) :: en)) := by
 obtain ⟨l, rfl, hv⟩ := hv
 exact with_any h he hv
set_option maxRecDepth 100000 in
set_option maxHeartbeats 4000000 in
theorem enter_fun {w0 : World} {mb : Nat} {H : Mem} {s : St} {w : World} (h : MS w0 mb H s w) {t : Tm} {en : Env} (ha : s.at_ = some (t, en)) {b o : Nat} (ht : TmA H b o t) (hc : complete t = true) (hk : t.k = 5) (hkn : 1 ≤ t.kids.length) :
  Calls Tryz.prog 20 #[pt mb, ptO b o] w (MEnd w0 mb H (s.has (.clo [] t.nm (kid t 0) en))) := by
 have hco := complete_any h.sub ht
 rw [hc] at hco
 have HC := Lib.hid hco
 obtain ⟨x, z1, hen⟩ := h.env ha
 obtain ⟨r0h, r2h, r3h, r4h, B, d, r6h, har⟩ := ht.heads
 have r0 := r0h.cell h.sub
 have r2 := r2h.cell h.sub
 have r3 := r3h.cell h.sub
 have r4 := r4h.cell h.sub
 have r6 := r6h.cell h.sub
 rw [hk] at r0
 obtain ⟨g, ko, c, k5, hks⟩ := ht.kidsAt (by omega)
 have r5 := k5.cell h.sub
 have hi0 : (0 : Int) < (t.kids.length : Int) := by omega
 have hn0 : 0 < t.kids.length := by omega
 have hkt : TmA H g ko (kid t 0) := by have := hks 0 (by omega); simpa using this
 obtain ⟨nm, hnm⟩ : ∃ nm, nm = t.nm := ⟨_, rfl⟩
 rw [← hnm] at r2 r2h ⊢
 have hkp := h.alloc (.cells [.string (ba []), .string (ba nm), ptO g ko, .pointer x].toArray 106)
 have hvv : VV _ s.cells.length (.clo [] nm (kid t 0) en) _ := .clo [] nm (kid t 0) en w.heap.size g ko (.pointer x) (ins_row H w.heap.size 106 _) (hkt.le hkp.1) (hen.le hkp.1 (Nat.le_refl _))
 have hs1 : ∀ V, Sub H V → V.cell? ⟨b, o + 2, none⟩ = some (.string (ba nm)) ∧ V.cell? ⟨b, o + 5, none⟩ = some (.slice (some ⟨g, ko, none⟩) t.kids.length c) := fun V hV => ⟨r2h.cell hV, k5.cell hV⟩
 have hsu : ∀ (H' : Mem) (S : St) (W : World), MLe H H' → MS w0 mb H' S W → Sub H W := fun H' S W k m b o hb => m.sub b o (k b o hb)
 have HS0 := Lib.hid (hs1 w.drew h.sub)
 have HSA := Lib.hid (hs1 (w.alloc (.cells [.string (ba []), .string (ba nm), ptO g ko, .pointer x].toArray 106)).drew (hsu _ _ _ hkp.1 hkp.2.drew))
 have HSS := Lib.hid hs1
 have HSU := Lib.hid hsu
 have z1d : w.drew.cell? ⟨mb, 1, none⟩ = some (.pointer x) := z1
 have HKP := Lib.hid hkp.1
 have HFU := Lib.hid (fun_ms hkp.2.drew hvv)
 clear hco hc h ht hen har r0h r2h r3h r4h r6h ha hks k5 hkt hk hnm hkp hvv hs1 hsu
 unfold pt ptO at *
 have hba : ba [] = ⟨#[]⟩ := rfl
 rw [hba] at HSA HFU HKP
 clear hba
 go_enter Tryz.func20, Tryz.ntmps20
 go_wp2_with fail
 refine HC.out.mono ?_
 rintro e w2 ⟨rfl, rfl⟩
 go_wp2_with fail
 refine wp_region_held_drew (S := fun VV => VV.cell? ⟨b, o + 2, none⟩ = some (.string (ba nm)) ∧ VV.cell? ⟨b, o + 5, none⟩ = some (.slice (some ⟨g, ko, none⟩) t.kids.length c)) (by kernel_rfl) ?_ (fun hHeld => ?_)
 ·exact HS0.out
 refine tkH 0 66 rfl ?_
 try simp only [Act.put, s1, s2, s3]
 refine tkH 1 67 rfl ?_
 try simp only [Act.put, s1, s2, s3]
 refine tkH 2 68 rfl ?_
 try simp only [Act.put, s1, s2, s3]
 refine tkH 3 69 rfl ?_
 try simp only [Act.put, s1, s2, s3]
 refine tkH 4 70 rfl ?_
 try simp only [Act.put, s1, s2, s3]
 refine tkH 5 71 rfl ?_
 try simp only [Act.put, s1, s2, s3]
 refine tkH 6 72 rfl ?_
 try simp only [Act.put, s1, s2, s3]
 refine tkH 7 73 rfl ?_
 try simp only [Act.put, s1, s2, s3]
 refine tkH 8 74 rfl ?_
 try simp only [Act.put, s1, s2, s3]
 refine tkH 9 75 rfl ?_
 try simp only [Act.put, s1, s2, s3]
 refine tkH 10 76 rfl ?_
 try simp only [Act.put, s1, s2, s3]
 refine tkH 11 77 rfl ?_
 try simp only [Act.put, s1, s2, s3]
 refine tkH 12 78 rfl ?_
 try simp only [Act.put, s1, s2, s3]
 refine rd1 13 (some 79) rfl fun K hK => ?_
 go_simp
 refine hK.out _ _ ?_ (fun hHeld => ?_)
 ·exact HS0.out
 clear hK K
 try simp only [Act.put, s1, s2, s3]
 refine tkH 14 80 rfl ?_
 try simp only [Act.put, s1, s2, s3]
 refine rd1 15 (some 81) rfl fun K hK => ?_
 go_simp
 refine hK.out _ _ ?_ (fun hHeld => ?_)
 ·exact HSA.out
 clear hK K
 try simp only [Act.put, s1, s2, s3]
 refine tkH 16 82 rfl ?_
 try simp only [Act.put, s1, s2, s3]
 refine rd1 17 (some 83) rfl fun K hK => ?_
 go_simp
 refine HFU.out.mono ?_
 rintro e w3 ⟨x3, rfl, m3, hb3, hx3⟩
 have hS2 := HSS.out _ (HSU.out _ _ _ HKP.out m3)
 have M3 := Lib.hid m3
 have X3 := Lib.hid hx3
 clear m3 hb3 hx3
 (try dsimp only)
 refine hK.out _ _ ?_ (fun hHeld => ?_)
 ·exact hS2
 clear hK K
 try simp only [Act.put, s1, s2, s3]
 refine rd1 18 (some 84) rfl fun K hK => ?_
 go_simp
 refine (answer_agg M3.out X3.out).mono ?_
 rintro e w4 ⟨rfl, H4, k4, m4⟩
 have hS3 := HSS.out _ (HSU.out _ _ _ (HKP.out.trans k4) m4)
 have K4 := Lib.hid k4
 have M4 := Lib.hid m4
 clear k4 m4
 (try dsimp only)
 refine hK.out _ _ ?_ (fun hHeld => ?_)
 ·exact hS3
 clear hK K
 try simp only [Act.put, s1, s2, s3]
 refine wpAnyH_done (by kernel_rfl) ?_ _
 go_wp2
 go_end0
 exact ⟨rfl, H4, HKP.out.trans K4.out, M4.out⟩
set_option maxRecDepth 100000 in
set_option maxHeartbeats 4000000 in
theorem enter_handle {w0 : World} {mb : Nat} {H : Mem} {s : St} {w : World} (h : MS w0 mb H s w) {t : Tm} {en : Env} (ha : s.at_ = some (t, en)) {b o : Nat} (ht : TmA H b o t) (hc : complete t = true) (hk : t.k = 14) (hkn : 1 ≤ t.kids.length) (hho : hdOk t.arms = true) :
  Calls Tryz.prog 20 #[pt mb, ptO b o] w (MEnd w0 mb H ((s.encl (t.arms, en)).goes (kid t 0) en)) := by
 have hco := complete_any h.sub ht
 rw [hc] at hco
 have HC := Lib.hid hco
 obtain ⟨x, z1, hen⟩ := h.env ha
 obtain ⟨r0h, r2h, r3h, r4h, B, d, r6h, har⟩ := ht.heads
 have r0 := r0h.cell h.sub
 have r2 := r2h.cell h.sub
 have r3 := r3h.cell h.sub
 have r4 := r4h.cell h.sub
 have r6 := r6h.cell h.sub
 rw [hk] at r0
 obtain ⟨g, ko, c, k5, hks⟩ := ht.kidsAt (by omega)
 have hi0 : (0 : Int) < (t.kids.length : Int) := by omega
 have hn0 : 0 < t.kids.length := by omega
 have hkt : TmA H g ko (kid t 0) := by have := hks 0 (by omega); simpa using this
 have hkp := h.alloc (.cells [.slice B t.arms.length d, .pointer x].toArray 117)
 have hhd : HdV _ s.cells.length t.arms en (pt w.heap.size) := .mk _ _ w.heap.size (.slice B t.arms.length d) (.pointer x) (ins_row H w.heap.size 117 _) (har.le hkp.1) hho (hen.le hkp.1 (Nat.le_refl _))
 have hs1 : ∀ V, Sub H V → V.cell? ⟨b, o + 6, none⟩ = some (.slice B t.arms.length d) := fun V hV => r6h.cell hV
 have hsu : ∀ (H' : Mem) (S : St) (W : World), MLe H H' → MS w0 mb H' S W → Sub H W := fun H' S W k m b o hb => m.sub b o (k b o hb)
 have HS0 := Lib.hid (hs1 w.drew h.sub)
 have HSA := Lib.hid (hs1 (w.alloc (.cells [.slice B t.arms.length d, .pointer x].toArray 117)).drew (hsu _ _ _ hkp.1 hkp.2.drew))
 have HSS := Lib.hid hs1
 have HSU := Lib.hid hsu
 have z1d : w.drew.cell? ⟨mb, 1, none⟩ = some (.pointer x) := z1
 have HKP := Lib.hid hkp.1
 have HEC := Lib.hid (encl_any hkp.2.drew hhd)
 have HKT := Lib.hid hkt
 have K5 := Lib.hid k5
 have HA := Lib.hid ha
 clear hco hc h ht hen har r0h r2h r3h r4h r6h ha hks k5 hkt hk hkp hhd hs1 hsu hho
 unfold pt ptO at *
 go_enter Tryz.func20, Tryz.ntmps20
 go_wp2_with fail
 refine HC.out.mono ?_
 rintro e w2 ⟨rfl, rfl⟩
 go_wp2_with fail
 refine wp_region_held_drew (S := fun VV => VV.cell? ⟨b, o + 6, none⟩ = some (.slice B t.arms.length d)) (by kernel_rfl) ?_ (fun hHeld => ?_)
 ·exact HS0.out
 refine tkH 0 139 rfl ?_
 try simp only [Act.put, s1, s2, s3]
 refine tkH 1 140 rfl ?_
 try simp only [Act.put, s1, s2, s3]
 refine tkH 2 141 rfl ?_
 try simp only [Act.put, s1, s2, s3]
 refine tkH 3 142 rfl ?_
 try simp only [Act.put, s1, s2, s3]
 refine tkH 4 143 rfl ?_
 try simp only [Act.put, s1, s2, s3]
 refine tkH 5 144 rfl ?_
 try simp only [Act.put, s1, s2, s3]
 refine tkH 6 145 rfl ?_
 try simp only [Act.put, s1, s2, s3]
 refine tkH 7 146 rfl ?_
 try simp only [Act.put, s1, s2, s3]
 refine tkH 8 147 rfl ?_
 try simp only [Act.put, s1, s2, s3]
 refine tkH 9 148 rfl ?_
 try simp only [Act.put, s1, s2, s3]
 refine rd1 10 (some 149) rfl fun K hK => ?_
 go_simp
 refine hK.out _ _ ?_ (fun hHeld => ?_)
 ·exact HS0.out
 clear hK K
 try simp only [Act.put, s1, s2, s3]
 refine tkH 11 150 rfl ?_
 try simp only [Act.put, s1, s2, s3]
 refine rd1 12 (some 151) rfl fun K hK => ?_
 go_simp
 refine hK.out _ _ ?_ (fun hHeld => ?_)
 ·exact HSA.out
 clear hK K
 try simp only [Act.put, s1, s2, s3]
 refine rd1 13 (some 152) rfl fun K hK => ?_
 go_simp
 refine HEC.out.mono ?_
 rintro e w4 ⟨rfl, H4, k4, m4⟩
 have hS2 := HSS.out _ (HSU.out _ _ _ (HKP.out.trans k4) m4)
 have K4 := Lib.hid k4
 have M4 := Lib.hid m4
 clear k4 m4
 (try dsimp only)
 refine hK.out _ _ ?_ (fun hHeld => ?_)
 ·exact hS2
 clear hK K
 try simp only [Act.put, s1, s2, s3]
 refine wpAnyH_done (by kernel_rfl) ?_ _
 all_goals
  obtain ⟨x5, y1, hen5⟩ := M4.out.env (t := t) (en := en) HA.out
  have y5 := (K5.out.le (HKP.out.trans K4.out)).cell M4.out.sub
  have HAT := Lib.hid (at_any M4.out.drew (HKT.out.le (HKP.out.trans K4.out)) hen5)
  clear hen5
  go_wp2_with fail
  go_still_tail 10, (by kernel_rfl)
  change wpList _ _ _ _ _ w4.drew
  go_wp2_with fail
  refine HAT.out.mono ?_
  rintro e w5 ⟨rfl, H5, k5, m5⟩
  go_wp2
  go_end0
  exact ⟨rfl, H5, (HKP.out.trans K4.out).trans k5, m5⟩
set_option maxRecDepth 100000 in
set_option maxHeartbeats 4000000 in
theorem enter_rec {w0 : World} {mb : Nat} {H : Mem} {s : St} {w : World} (h : MS w0 mb H s w) {t : Tm} {en : Env} (ha : s.at_ = some (t, en)) {b o : Nat} (ht : TmA H b o t) (hc : complete t = true) (hk : t.k = 8) (hkn : 2 ≤ t.kids.length) :
  Calls Tryz.prog 20 #[pt mb, ptO b o] w (MEnd w0 mb H (s.goes (kid t 1) ((t.nm, .clo t.nm t.pm (kid t 0) en) :: en))) := by
 have hco := complete_any h.sub ht
 rw [hc] at hco
 have HC := Lib.hid hco
 obtain ⟨x, z1, hen⟩ := h.env ha
 obtain ⟨r0h, r2h, r3h, r4h, B, d, r6h, har⟩ := ht.heads
 have r0 := r0h.cell h.sub
 have r2 := r2h.cell h.sub
 have r3 := r3h.cell h.sub
 have r4 := r4h.cell h.sub
 have r6 := r6h.cell h.sub
 rw [hk] at r0
 obtain ⟨g, ko, c, k5, hks⟩ := ht.kidsAt (by omega)
 have r5 := k5.cell h.sub
 have hi0 : (0 : Int) < (t.kids.length : Int) := by omega
 have hn0 : 0 < t.kids.length := by omega
 have hi1 : (1 : Int) < (t.kids.length : Int) := by omega
 have hn1 : 1 < t.kids.length := by omega
 have hkt : TmA H g ko (kid t 0) := by have := hks 0 (by omega); simpa using this
 have hkt1 : TmA H g (ko + 21) (kid t 1) := by have := hks 1 (by omega); simpa using this
 obtain ⟨nm, hnm⟩ : ∃ nm, nm = t.nm := ⟨_, rfl⟩
 obtain ⟨pm, hpm⟩ : ∃ pm, pm = t.pm := ⟨_, rfl⟩
 rw [← hnm] at r2 r2h ⊢
 rw [← hpm] at r3 ⊢
 have hkp := h.alloc (.cells [.string (ba nm), .string (ba pm), ptO g ko, .pointer x].toArray 106)
 have hvv : VV _ s.cells.length (.clo nm pm (kid t 0) en) _ := .clo nm pm (kid t 0) en w.heap.size g ko (.pointer x) (ins_row H w.heap.size 106 _) (hkt.le hkp.1) (hen.le hkp.1 (Nat.le_refl _))
 obtain ⟨W, hW⟩ : ∃ W, W = (w.alloc (.cells [.string (ba nm), .string (ba pm), ptO g ko, .pointer x].toArray 106)).drew := ⟨_, rfl⟩
 have hmW := hkp.2.drew
 rw [← hW] at hmW
 have hzW : W.cell? ⟨mb, 1, none⟩ = some (.pointer x) := by rw [hW]; exact ((below_new w _).cell (p := ⟨mb, 1, none⟩) h.lt).trans z1
 have hs1 : ∀ V, Sub H V → V.cell? ⟨b, o + 2, none⟩ = some (.string (ba nm)) ∧ V.cell? ⟨b, o + 5, none⟩ = some (.slice (some ⟨g, ko, none⟩) t.kids.length c) := fun V hV => ⟨r2h.cell hV, k5.cell hV⟩
 have hsu : ∀ (H' : Mem) (S : St) (W : World), MLe H H' → MS w0 mb H' S W → Sub H W := fun H' S W k m b o hb => m.sub b o (k b o hb)
 have u2 := (hs1 W (hsu _ _ _ hkp.1 hmW)).1
 have u5 := (hs1 W (hsu _ _ _ hkp.1 hmW)).2
 have HS0 := Lib.hid (hs1 W.drew (hsu _ _ _ hkp.1 hmW.drew))
 have HSS := Lib.hid hs1
 have HSU := Lib.hid hsu
 have hzd : W.drew.cell? ⟨mb, 1, none⟩ = some (.pointer x) := hzW
 have hlw := h.lt
 have HKP := Lib.hid hkp.1
 have HFU := Lib.hid (fun_ms hmW.drew hvv)
 have HEN := Lib.hid (hen.le hkp.1 (Nat.le_refl _))
 have HKT := Lib.hid (hkt1.le hkp.1)
 have HLT := Lib.hid hmW.lt
 have HW := Lib.hid hW
 clear hco hc h ht hen har r0h r2h r3h r4h r6h ha hks k5 hkt hk hnm hpm hkp hvv hs1 hsu hmW hW hkt1
 unfold pt ptO at *
 go_enter Tryz.func20, Tryz.ntmps20
 go_wp2_with fail
 refine HC.out.mono ?_
 rintro e w2 ⟨rfl, rfl⟩
 go_wp2_with fail
 go_region
 all_goals
  rw [← HW.out]
  go_wp2_with fail
  refine wp_region_held_drew (S := fun VV => VV.cell? ⟨b, o + 2, none⟩ = some (.string (ba nm)) ∧ VV.cell? ⟨b, o + 5, none⟩ = some (.slice (some ⟨g, ko, none⟩) t.kids.length c)) (by kernel_rfl) ?_ (fun hHeld => ?_)
  ·exact HS0.out
  refine tkH 0 106 rfl ?_
  try simp only [Act.put, s1, s2, s3]
  refine tkH 1 107 rfl ?_
  try simp only [Act.put, s1, s2, s3]
  refine tkH 2 108 rfl ?_
  try simp only [Act.put, s1, s2, s3]
  refine tkH 3 109 rfl ?_
  try simp only [Act.put, s1, s2, s3]
  refine tkH 4 110 rfl ?_
  try simp only [Act.put, s1, s2, s3]
  refine tkH 5 111 rfl ?_
  try simp only [Act.put, s1, s2, s3]
  refine tkH 6 112 rfl ?_
  try simp only [Act.put, s1, s2, s3]
  refine tkH 7 113 rfl ?_
  try simp only [Act.put, s1, s2, s3]
  refine tkH 8 114 rfl ?_
  try simp only [Act.put, s1, s2, s3]
  refine tkH 10 116 rfl ?_
  try simp only [Act.put, s1, s2, s3]
  refine tkH 11 117 rfl ?_
  try simp only [Act.put, s1, s2, s3]
  refine tkH 12 118 rfl ?_
  try simp only [Act.put, s1, s2, s3]
  refine tkH 13 119 rfl ?_
  try simp only [Act.put, s1, s2, s3]
  refine tkH 14 120 rfl ?_
  try simp only [Act.put, s1, s2, s3]
  refine tkH 15 121 rfl ?_
  try simp only [Act.put, s1, s2, s3]
  refine wpAnyH_ready (rs := [9, 16]) (by kernel_rfl) (by simp) ?_
  refine AllReadyH.cons (o := ⟨some 115, _, _, _, _, _⟩) rfl (fun K hK => ?_) (AllReadyH.cons (o := ⟨some 122, _, _, _, _, _⟩) rfl (fun K hK => ?_) AllReadyH.nil)
  ·go_simp
   refine hK.out _ _ ?_ (fun hHeld => ?_)
   ·exact HS0.out
   clear hK K
   try simp only [Act.put, s1, s2, s3]
   refine rd1 16 (some 122) rfl fun K hK => ?_
   go_simp
   refine HFU.out.mono ?_
   rintro e w3 ⟨x3, rfl, m3, hb3, hx3⟩
   have hS2 := HSS.out _ (HSU.out _ _ _ HKP.out m3)
   have z3 := (hb3.cell (p := ⟨mb, 1, none⟩) HLT.out).trans hzd
   have M3 := Lib.hid m3
   have X3 := Lib.hid hx3
   clear m3 hb3 hx3
   (try dsimp only)
   refine hK.out _ _ ?_ (fun hHeld => ?_)
   ·exact hS2
   clear hK K
   try simp only [Act.put, s1, s2, s3]
   refine rd1 17 (some 123) rfl fun K hK => ?_
   go_simp
   refine (with_agg M3.out HEN.out X3.out).mono ?_
   rintro e w4 ⟨H4, x4, rfl, k4, m4, he4⟩
   have hS3 := HSS.out _ (HSU.out _ _ _ (HKP.out.trans k4) m4)
   have K4 := Lib.hid k4
   have M4 := Lib.hid m4
   have E4 := Lib.hid he4
   clear k4 m4 he4
   (try dsimp only)
   refine hK.out _ _ ?_ (fun hHeld => ?_)
   ·exact hS3
   clear hK K
   try simp only [Act.put, s1, s2, s3]
   refine rd1 18 (some 124) rfl fun K hK => ?_
   go_simp
   refine (at_any M4.out (HKT.out.le K4.out) E4.out).mono ?_
   rintro e w5 ⟨rfl, H5, k5, m5⟩
   have hS4 := HSS.out _ (HSU.out _ _ _ ((HKP.out.trans K4.out).trans k5) m5)
   have K5 := Lib.hid k5
   have M5 := Lib.hid m5
   clear k5 m5
   (try dsimp only)
   refine hK.out _ _ ?_ (fun hHeld => ?_)
   ·exact hS4
   clear hK K
   try simp only [Act.put, s1, s2, s3]
   refine wpAnyH_done (by kernel_rfl) ?_ _
   go_wp2
   go_end0
   exact ⟨rfl, H5, (HKP.out.trans K4.out).trans K5.out, M5.out⟩
  ·go_simp
   refine HFU.out.mono ?_
   rintro e w3 ⟨x3, rfl, m3, hb3, hx3⟩
   have hS2 := HSS.out _ (HSU.out _ _ _ HKP.out m3)
   have z3 := (hb3.cell (p := ⟨mb, 1, none⟩) HLT.out).trans hzd
   have M3 := Lib.hid m3
   have X3 := Lib.hid hx3
   clear m3 hb3 hx3
   (try dsimp only)
   refine hK.out _ _ ?_ (fun hHeld => ?_)
   ·exact hS2
   clear hK K
   try simp only [Act.put, s1, s2, s3]
   refine rd1 9 (some 115) rfl fun K hK => ?_
   go_simp
   refine hK.out _ _ ?_ (fun hHeld => ?_)
   ·exact hS2
   clear hK K
   try simp only [Act.put, s1, s2, s3]
   refine rd1 17 (some 123) rfl fun K hK => ?_
   go_simp
   refine (with_agg M3.out HEN.out X3.out).mono ?_
   rintro e w4 ⟨H4, x4, rfl, k4, m4, he4⟩
   have hS3 := HSS.out _ (HSU.out _ _ _ (HKP.out.trans k4) m4)
   have K4 := Lib.hid k4
   have M4 := Lib.hid m4
   have E4 := Lib.hid he4
   clear k4 m4 he4
   (try dsimp only)
   refine hK.out _ _ ?_ (fun hHeld => ?_)
   ·exact hS3
   clear hK K
   try simp only [Act.put, s1, s2, s3]
   refine rd1 18 (some 124) rfl fun K hK => ?_
   go_simp
   refine (at_any M4.out (HKT.out.le K4.out) E4.out).mono ?_
   rintro e w5 ⟨rfl, H5, k5, m5⟩
   have hS4 := HSS.out _ (HSU.out _ _ _ ((HKP.out.trans K4.out).trans k5) m5)
   have K5 := Lib.hid k5
   have M5 := Lib.hid m5
   clear k5 m5
   (try dsimp only)
   refine hK.out _ _ ?_ (fun hHeld => ?_)
   ·exact hS4
   clear hK K
   try simp only [Act.put, s1, s2, s3]
   refine wpAnyH_done (by kernel_rfl) ?_ _
   go_wp2
   go_end0
   exact ⟨rfl, H5, (HKP.out.trans K4.out).trans K5.out, M5.out⟩
end So
end Go.Proofs.YtmodmojocclmaaaGreatDoor.K

/- The machine of package source: the step at a term, whole. -/
namespace Go.Proofs.YtmodmojocclmaaaGreatDoor.K
open Go Go.RowKit
namespace So

theorem complete_kinds {t : Tm} (h : complete t = true) : (t.k = 1 ∨ t.k = 2 ∨ t.k = 3 ∨ t.k = 4 ∨ t.k = 11 ∨ t.k = 10) ∨ ((t.k = 5 ∨ t.k = 12 ∨ t.k = 13) ∧ 1 ≤ t.kids.length) ∨ ((t.k = 6 ∨ t.k = 7 ∨ t.k = 8) ∧ 2 ≤ t.kids.length) ∨ (t.k = 9 ∧ 3 ≤ t.kids.length) ∨ (t.k = 14 ∧ 1 ≤ t.kids.length ∧ hdOk t.arms = true) := by
 unfold complete at h
 repeat' split at h
 ·rename_i h1; omega
 ·rename_i h1; simp only [decide_eq_true_eq] at h; exact .inr (.inl ⟨h1, h⟩)
 ·rename_i h1; simp only [decide_eq_true_eq] at h; exact .inr (.inr (.inl ⟨h1, h⟩))
 ·rename_i h1; simp only [decide_eq_true_eq] at h; exact .inr (.inr (.inr (.inl ⟨h1, h⟩)))
 ·rename_i h1; omega
 ·rename_i h1; simp only [Bool.and_eq_true, decide_eq_true_eq] at h; exact .inr (.inr (.inr (.inr ⟨h1, h⟩)))
 ·cases h
theorem enter_any {w0 : World} {mb : Nat} {H : Mem} {s : St} {w : World} (h : MS w0 mb H s w) {t : Tm} {en : Env} (ha : s.at_ = some (t, en)) {b o : Nat} (ht : TmA H b o t) (htr : s.trace.length ≤ 1000000) (hce : s.cells.length ≤ 1000000) :
  Calls Tryz.prog 20 #[pt mb, ptO b o] w (MEnd w0 mb H (enter t en s)) := by
 cases hc : complete t with
 | false =>
  have e : enter t en s = s.ends 4 := by unfold enter; rw [if_pos hc]
  rw [e]
  exact enter_stuck h ht hc
 | true =>
  have hf : ¬ complete t = false := by rw [hc]; decide
  have hwait : ∀ (hk : t.k = 6 ∨ t.k = 7 ∨ t.k = 9 ∨ t.k = 12 ∨ t.k = 13), enter t en s = (s.push (waitsF t en)).goes (kid t 0) en := fun hk => by
   unfold enter waitsF
   rw [if_neg hf, if_neg (by omega), if_neg (by omega), if_neg (by omega), if_neg (by omega), if_neg (by omega), if_neg (by omega), if_neg (by omega), if_neg (by omega)]
   rcases hk with hk | hk | hk | hk | hk
   ·rw [if_pos hk, if_pos hk]
   ·rw [if_neg (by omega), if_pos hk, if_neg (by omega), if_pos hk]
   ·rw [if_neg (by omega), if_neg (by omega), if_pos hk, if_neg (by omega), if_neg (by omega), if_pos hk]
   ·rw [if_neg (by omega), if_neg (by omega), if_neg (by omega), if_pos hk, if_neg (by omega), if_neg (by omega), if_neg (by omega), if_pos hk]
   ·rw [if_neg (by omega), if_neg (by omega), if_neg (by omega), if_neg (by omega), if_neg (by omega), if_neg (by omega), if_neg (by omega), if_neg (by omega)]
  rcases complete_kinds hc with hk | ⟨hk, hn⟩ | ⟨hk, hn⟩ | ⟨hk, hn⟩ | ⟨hk, hn, ho⟩
  ·rcases hk with hk | hk | hk | hk | hk | hk
   ·have e : enter t en s = lookS t.nm en s := by unfold enter lookS; rw [if_neg hf, if_pos hk]; cases find t.nm en <;> rfl
    rw [e]; exact enter_var h ha ht hc hk
   ·have e : enter t en s = s.has (.lit 1 t.n) := by unfold enter; rw [if_neg hf, if_neg (by omega), if_pos hk]
    rw [e]; exact enter_int h ha ht hc hk
   ·have e : enter t en s = s.has (.lit 2 (t.n % 2)) := by unfold enter; rw [if_neg hf, if_neg (by omega), if_neg (by omega), if_pos hk]
    rw [e]; exact enter_bool h ha ht hc hk
   ·have e : enter t en s = s.has unitV := by unfold enter; rw [if_neg hf, if_neg (by omega), if_neg (by omega), if_neg (by omega), if_pos hk]
    rw [e]; exact enter_unit h ha ht hc hk
   ·have e : enter t en s = gather t en [] s := by unfold enter; rw [if_neg hf, if_neg (by omega), if_neg (by omega), if_neg (by omega), if_neg (by omega), if_neg (by omega), if_neg (by omega), if_pos (.inr hk)]
    rw [e]; exact enter_gat11 h ha ht hc hk htr hce
   ·have e : enter t en s = gather t en [] s := by unfold enter; rw [if_neg hf, if_neg (by omega), if_neg (by omega), if_neg (by omega), if_neg (by omega), if_neg (by omega), if_neg (by omega), if_pos (.inl hk)]
    rw [e]; exact enter_gat10 h ha ht hc hk htr hce
  ·rcases hk with hk | hk | hk
   ·have e : enter t en s = s.has (.clo [] t.nm (kid t 0) en) := by unfold enter; rw [if_neg hf, if_neg (by omega), if_neg (by omega), if_neg (by omega), if_neg (by omega), if_pos hk]
    rw [e]; exact enter_fun h ha ht hc hk hn
   ·rw [hwait (by omega)]; exact enter_wait h ha ht hc (by omega) hn
   ·rw [hwait (by omega)]; exact enter_wait h ha ht hc (by omega) hn
  ·rcases hk with hk | hk | hk
   ·rw [hwait (by omega)]; exact enter_wait h ha ht hc (by omega) (by omega)
   ·rw [hwait (by omega)]; exact enter_wait h ha ht hc (by omega) (by omega)
   ·have e : enter t en s = s.goes (kid t 1) ((t.nm, .clo t.nm t.pm (kid t 0) en) :: en) := by unfold enter; rw [if_neg hf, if_neg (by omega), if_neg (by omega), if_neg (by omega), if_neg (by omega), if_neg (by omega), if_pos hk]
    rw [e]; exact enter_rec h ha ht hc hk hn
  ·rw [hwait (by omega)]; exact enter_wait h ha ht hc (by omega) (by omega)
  ·have e : enter t en s = (s.encl (t.arms, en)).goes (kid t 0) en := by unfold enter; rw [if_neg hf, if_neg (by omega), if_neg (by omega), if_neg (by omega), if_neg (by omega), if_neg (by omega), if_neg (by omega), if_neg (by omega), if_pos hk]
   rw [e]; exact enter_handle h ha ht hc hk hn ho
end So
end Go.Proofs.YtmodmojocclmaaaGreatDoor.K

/- The machine of package source: what becomes of a value that waited-for frames get. -/
namespace Go.Proofs.YtmodmojocclmaaaGreatDoor.K
open Go Go.RowKit
namespace So

def boxO (k n : Int) (c : Option Addr) (f : Value) : Obj := .cells [.int .i64 k, .int .i64 n, .pointer c, f].toArray 68
set_option maxRecDepth 100000 in
set_option maxHeartbeats 4000000 in
theorem take_arg {w0 : World} {mb : Nat} {H : Mem} {s : St} {w : World} (h : MS w0 mb H s w) {v : Val} {l : List Value} (hv : VV H s.cells.length v l) {t : Tm} {en : Env} {fb tb to : Nat} {ev : Value} (hr : HR H fb 0 [ptO tb to, ev]) (ht : TmA H tb to t) (he : EV H s.cells.length en ev) :
  Calls Tryz.prog 184 #[pt fb, pt mb, .agg l.toArray] w (MEnd w0 mb H ((s.push (.fn v)).goes t en)) := by
 obtain ⟨k, n, c, f, rfl, hf⟩ := hv.four
 have hkp := h.alloc (boxO k n c f)
 have hbx : HR (ins H w.heap.size (boxO k n c f)) w.heap.size 0 [.int .i64 k, .int .i64 n, .pointer c, f] := ins_row _ _ _ _
 have hsu : ∀ (H' : Mem) (S : St) (W : World), MLe H H' → MS w0 mb H' S W → Sub H W := fun H' S W k m b o hb => m.sub b o (k b o hb)
 obtain ⟨H1, hH1⟩ : ∃ H1, H1 = ins H w.heap.size (boxO k n c f) := ⟨_, rfl⟩
 rw [← hH1] at hkp hbx
 obtain ⟨k1, hm⟩ := hkp
 clear hH1
 have hv1 := hv.le k1 (Nat.le_refl s.cells.length)
 obtain ⟨W, hW⟩ : ∃ W, W = w.alloc (boxO k n c f) := ⟨_, rfl⟩
 rw [← hW] at hm
 have p0 := (hbx 0 _ rfl).cell hm.sub
 have p1 := (hbx 1 _ rfl).cell hm.sub
 have p2 := (hbx 2 _ rfl).cell hm.sub
 have p3 := (hbx 3 _ rfl).cell hm.sub
 have HW := Lib.hid hW
 have hkp2 := hm.alloc (.cells [.int .i64 k, .int .i64 n, .pointer c, f].toArray 290)
 have hfr : FV _ s.cells.length (.fn v) (.iface 288 (pt W.heap.size)) := .fn v W.heap.size _ (ins_row H1 W.heap.size 290 _) (hv1.le hkp2.1 (Nat.le_refl _))
 have hpu := push_any hkp2.2.drew hfr
 have hs1 : ∀ V, Sub H1 V → V.cell? ⟨w.heap.size, 0, none⟩ = some (.int .i64 k) ∧ V.cell? ⟨w.heap.size, 1, none⟩ = some (.int .i64 n) ∧ V.cell? ⟨w.heap.size, 2, none⟩ = some (.pointer c) ∧ V.cell? ⟨w.heap.size, 3, none⟩ = some f := fun V hV => ⟨(hbx 0 _ rfl).cell hV, (hbx 1 _ rfl).cell hV, (hbx 2 _ rfl).cell hV, (hbx 3 _ rfl).cell hV⟩
 have hsu1 : ∀ (H' : Mem) (S : St) (W : World), MLe H1 H' → MS w0 mb H' S W → Sub H1 W := fun H' S W k m b o hb => m.sub b o (k b o hb)
 have HS0 := Lib.hid (hs1 W.drew hm.sub)
 have HSA := Lib.hid (hs1 (W.alloc (.cells [.int .i64 k, .int .i64 n, .pointer c, f].toArray 290)).drew (hsu1 _ _ _ hkp2.1 hkp2.2.drew))
 have HSS := Lib.hid hs1
 have HSU := Lib.hid hsu1
 have HPU := Lib.hid hpu
 have HKP := Lib.hid hkp2.1
 have K1 := Lib.hid k1
 have G0 := Lib.hid (hr 0 _ rfl)
 have G1 := Lib.hid (hr 1 _ rfl)
 have HT := Lib.hid ht
 have HE := Lib.hid he
 obtain ⟨a, rfl⟩ := he.ptr
 clear h hv hm hv1 hkp2 hfr hpu hs1 hsu1 hsu k1 hr ht he hbx hW
 unfold pt ptO boxO at *
 rcases hf with rfl | ⟨ft, fx, rfl⟩
 ·go_enter Tryz.func184, Tryz.ntmps184
  go_wp2_with fail
  rw [← HW.out]
  go_wp2_with fail
  go_region_held3 (fun VV => VV.cell? ⟨w.heap.size, 0, none⟩ = some (.int .i64 k) ∧ VV.cell? ⟨w.heap.size, 1, none⟩ = some (.int .i64 n) ∧ VV.cell? ⟨w.heap.size, 2, none⟩ = some (.pointer c) ∧ VV.cell? ⟨w.heap.size, 3, none⟩ = some .nilIface)
   (first | with_reducible exact HS0.out | with_reducible exact HSA.out | with_reducible exact hS2)
   ((go_at_call 40; refine HPU.out.mono ?_; rintro e w3 ⟨rfl, H3, k3, m3⟩; have hS2 := HSS.out _ (HSU.out _ _ _ (HKP.out.trans k3) m3); have K3 := Lib.hid ((K1.out.trans HKP.out).trans k3); have M3 := Lib.hid m3; clear k3 m3))
  all_goals
   have x0 := (G0.out.le K3.out).cell M3.out.sub
   have x1 := (G1.out.le K3.out).cell M3.out.sub
   have HAT := Lib.hid (at_any M3.out.drew (HT.out.le K3.out) (HE.out.le K3.out (Nat.le_refl _)))
   go_wp2_with fail
   go_still_tail 9, (by kernel_rfl)
   change wpList _ _ _ _ _ w3.drew
   go_wp2_with fail
   refine HAT.out.mono ?_
   rintro e w5 ⟨rfl, H5, k5, m5⟩
   go_wp2
   go_end0
   exact ⟨rfl, H5, K3.out.trans k5, m5⟩
 ·go_enter Tryz.func184, Tryz.ntmps184
  go_wp2_with fail
  rw [← HW.out]
  go_wp2_with fail
  go_region_held3 (fun VV => VV.cell? ⟨w.heap.size, 0, none⟩ = some (.int .i64 k) ∧ VV.cell? ⟨w.heap.size, 1, none⟩ = some (.int .i64 n) ∧ VV.cell? ⟨w.heap.size, 2, none⟩ = some (.pointer c) ∧ VV.cell? ⟨w.heap.size, 3, none⟩ = some (.iface ft fx))
   (first | with_reducible exact HS0.out | with_reducible exact HSA.out | with_reducible exact hS2)
   ((go_at_call 40; refine HPU.out.mono ?_; rintro e w3 ⟨rfl, H3, k3, m3⟩; have hS2 := HSS.out _ (HSU.out _ _ _ (HKP.out.trans k3) m3); have K3 := Lib.hid ((K1.out.trans HKP.out).trans k3); have M3 := Lib.hid m3; clear k3 m3))
  all_goals
   have x0 := (G0.out.le K3.out).cell M3.out.sub
   have x1 := (G1.out.le K3.out).cell M3.out.sub
   have HAT := Lib.hid (at_any M3.out.drew (HT.out.le K3.out) (HE.out.le K3.out (Nat.le_refl _)))
   go_wp2_with fail
   go_still_tail 9, (by kernel_rfl)
   change wpList _ _ _ _ _ w3.drew
   go_wp2_with fail
   refine HAT.out.mono ?_
   rintro e w5 ⟨rfl, H5, k5, m5⟩
   go_wp2
   go_end0
   exact ⟨rfl, H5, K3.out.trans k5, m5⟩
end So
end Go.Proofs.YtmodmojocclmaaaGreatDoor.K
