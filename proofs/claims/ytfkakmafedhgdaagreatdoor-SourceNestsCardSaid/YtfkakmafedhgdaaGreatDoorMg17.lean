/- The machine of package source: the step at a term, whole. -/
import Derived.Test.YtfkakmafedhgdaaGreatDoorSoR
import Derived.Deep.RegionHeld3
namespace Go.Proofs.YtfkakmafedhgdaaGreatDoor.K
open Go Go.RowKit
namespace So

theorem complete_kinds {t : Tm} (h : complete t = true) : (t.k = 1 ∨ t.k = 2 ∨ t.k = 3 ∨ t.k = 4 ∨ t.k = 11 ∨ t.k = 10) ∨ ((t.k = 5 ∨ t.k = 12 ∨ t.k = 13) ∧ 1 ≤ t.kids.length) ∨ ((t.k = 6 ∨ t.k = 7 ∨ t.k = 8) ∧ 2 ≤ t.kids.length) ∨ (t.k = 9 ∧ 3 ≤ t.kids.length) ∨ (t.k = 14 ∧ 1 ≤ t.kids.length ∧ hdOk t.arms = true) := by
  unfold complete at h
  repeat' split at h
  · rename_i h1; omega
  · rename_i h1; simp only [decide_eq_true_eq] at h; exact .inr (.inl ⟨h1, h⟩)
  · rename_i h1; simp only [decide_eq_true_eq] at h; exact .inr (.inr (.inl ⟨h1, h⟩))
  · rename_i h1; simp only [decide_eq_true_eq] at h; exact .inr (.inr (.inr (.inl ⟨h1, h⟩)))
  · rename_i h1; omega
  · rename_i h1; simp only [Bool.and_eq_true, decide_eq_true_eq] at h; exact .inr (.inr (.inr (.inr ⟨h1, h⟩)))
  · cases h
theorem enter_any {w0 : World} {mb : Nat} {H : Mem} {s : St} {w : World} (h : MS w0 mb H s w) {t : Tm} {en : Env} (ha : s.at_ = some (t, en)) {b o : Nat} (ht : TmA H b o t) (htr : s.trace.length ≤ 1000000) (hce : s.cells.length ≤ 1000000) :
    Calls Tryz.prog 20 #[pt mb, ptO b o] w (MEnd w0 mb H (enter t en s)) := by
  cases hc : complete t with
  | false =>
    have e : enter t en s = s.ends 4 := by unfold enter; rw [if_pos hc]
    rw [e]
    exact enter_stuck h ht hc
  | true =>
    have hf : ¬ complete t = false := by rw [hc]; decide
    have hwait : ∀ (hk : t.k = 6 ∨ t.k = 7 ∨ t.k = 9 ∨ t.k = 12 ∨ t.k = 13), enter t en s = (s.push (waitsF t en)).goes (kid t 0) en := fun hk => by
      unfold enter waitsF
      rw [if_neg hf, if_neg (by omega), if_neg (by omega), if_neg (by omega), if_neg (by omega), if_neg (by omega), if_neg (by omega), if_neg (by omega), if_neg (by omega)]
      rcases hk with hk | hk | hk | hk | hk
      · rw [if_pos hk, if_pos hk]
      · rw [if_neg (by omega), if_pos hk, if_neg (by omega), if_pos hk]
      · rw [if_neg (by omega), if_neg (by omega), if_pos hk, if_neg (by omega), if_neg (by omega), if_pos hk]
      · rw [if_neg (by omega), if_neg (by omega), if_neg (by omega), if_pos hk, if_neg (by omega), if_neg (by omega), if_neg (by omega), if_pos hk]
      · rw [if_neg (by omega), if_neg (by omega), if_neg (by omega), if_neg (by omega), if_neg (by omega), if_neg (by omega), if_neg (by omega), if_neg (by omega)]
    rcases complete_kinds hc with hk | ⟨hk, hn⟩ | ⟨hk, hn⟩ | ⟨hk, hn⟩ | ⟨hk, hn, ho⟩
    · rcases hk with hk | hk | hk | hk | hk | hk
      · have e : enter t en s = lookS t.nm en s := by unfold enter lookS; rw [if_neg hf, if_pos hk]; cases find t.nm en <;> rfl
        rw [e]; exact enter_var h ha ht hc hk
      · have e : enter t en s = s.has (.lit 1 t.n) := by unfold enter; rw [if_neg hf, if_neg (by omega), if_pos hk]
        rw [e]; exact enter_int h ha ht hc hk
      · have e : enter t en s = s.has (.lit 2 (t.n % 2)) := by unfold enter; rw [if_neg hf, if_neg (by omega), if_neg (by omega), if_pos hk]
        rw [e]; exact enter_bool h ha ht hc hk
      · have e : enter t en s = s.has unitV := by unfold enter; rw [if_neg hf, if_neg (by omega), if_neg (by omega), if_neg (by omega), if_pos hk]
        rw [e]; exact enter_unit h ha ht hc hk
      · have e : enter t en s = gather t en [] s := by unfold enter; rw [if_neg hf, if_neg (by omega), if_neg (by omega), if_neg (by omega), if_neg (by omega), if_neg (by omega), if_neg (by omega), if_pos (.inr hk)]
        rw [e]; exact enter_gat11 h ha ht hc hk htr hce
      · have e : enter t en s = gather t en [] s := by unfold enter; rw [if_neg hf, if_neg (by omega), if_neg (by omega), if_neg (by omega), if_neg (by omega), if_neg (by omega), if_neg (by omega), if_pos (.inl hk)]
        rw [e]; exact enter_gat10 h ha ht hc hk htr hce
    · rcases hk with hk | hk | hk
      · have e : enter t en s = s.has (.clo [] t.nm (kid t 0) en) := by unfold enter; rw [if_neg hf, if_neg (by omega), if_neg (by omega), if_neg (by omega), if_neg (by omega), if_pos hk]
        rw [e]; exact enter_fun h ha ht hc hk hn
      · rw [hwait (by omega)]; exact enter_wait h ha ht hc (by omega) hn
      · rw [hwait (by omega)]; exact enter_wait h ha ht hc (by omega) hn
    · rcases hk with hk | hk | hk
      · rw [hwait (by omega)]; exact enter_wait h ha ht hc (by omega) (by omega)
      · rw [hwait (by omega)]; exact enter_wait h ha ht hc (by omega) (by omega)
      · have e : enter t en s = s.goes (kid t 1) ((t.nm, .clo t.nm t.pm (kid t 0) en) :: en) := by unfold enter; rw [if_neg hf, if_neg (by omega), if_neg (by omega), if_neg (by omega), if_neg (by omega), if_neg (by omega), if_pos hk]
        rw [e]; exact enter_rec h ha ht hc hk hn
    · rw [hwait (by omega)]; exact enter_wait h ha ht hc (by omega) (by omega)
    · have e : enter t en s = (s.encl (t.arms, en)).goes (kid t 0) en := by unfold enter; rw [if_neg hf, if_neg (by omega), if_neg (by omega), if_neg (by omega), if_neg (by omega), if_neg (by omega), if_neg (by omega), if_neg (by omega), if_pos hk]
      rw [e]; exact enter_handle h ha ht hc hk hn ho
end So
end Go.Proofs.YtfkakmafedhgdaaGreatDoor.K

/- The machine of package source: what becomes of a value that waited-for frames get. -/
namespace Go.Proofs.YtfkakmafedhgdaaGreatDoor.K
open Go Go.RowKit
namespace So

/-- The box of a value that was handed in. -/
def boxO (k n : Int) (c : Option Addr) (f : Value) : Obj := .cells [.int .i64 k, .int .i64 n, .pointer c, f].toArray 68
set_option maxRecDepth 100000 in
set_option maxHeartbeats 4000000 in
theorem take_arg {w0 : World} {mb : Nat} {H : Mem} {s : St} {w : World} (h : MS w0 mb H s w) {v : Val} {l : List Value} (hv : VV H s.cells.length v l) {t : Tm} {en : Env} {fb tb to : Nat} {ev : Value} (hr : HR H fb 0 [ptO tb to, ev]) (ht : TmA H tb to t) (he : EV H s.cells.length en ev) :
    Calls Tryz.prog 184 #[pt fb, pt mb, .agg l.toArray] w (MEnd w0 mb H ((s.push (.fn v)).goes t en)) := by
  obtain ⟨k, n, c, f, rfl, hf⟩ := hv.four
  have hkp := h.alloc (boxO k n c f)
  have hbx : HR (ins H w.heap.size (boxO k n c f)) w.heap.size 0 [.int .i64 k, .int .i64 n, .pointer c, f] := ins_row _ _ _ _
  have hsu : ∀ (H' : Mem) (S : St) (W : World), MLe H H' → MS w0 mb H' S W → Sub H W := fun H' S W k m b o hb => m.sub b o (k b o hb)
  obtain ⟨H1, hH1⟩ : ∃ H1, H1 = ins H w.heap.size (boxO k n c f) := ⟨_, rfl⟩
  rw [← hH1] at hkp hbx
  obtain ⟨k1, hm⟩ := hkp
  clear hH1
  have hv1 := hv.le k1 (Nat.le_refl s.cells.length)
  obtain ⟨W, hW⟩ : ∃ W, W = w.alloc (boxO k n c f) := ⟨_, rfl⟩
  rw [← hW] at hm
  have p0 := (hbx 0 _ rfl).cell hm.sub
  have p1 := (hbx 1 _ rfl).cell hm.sub
  have p2 := (hbx 2 _ rfl).cell hm.sub
  have p3 := (hbx 3 _ rfl).cell hm.sub
  have HW := Lib.hid hW
  have hkp2 := hm.alloc (.cells [.int .i64 k, .int .i64 n, .pointer c, f].toArray 290)
  have hfr : FV _ s.cells.length (.fn v) (.iface 288 (pt W.heap.size)) := .fn v W.heap.size _ (ins_row H1 W.heap.size 290 _) (hv1.le hkp2.1 (Nat.le_refl _))
  have hpu := push_any hkp2.2.drew hfr
  have hs1 : ∀ V, Sub H1 V → V.cell? ⟨w.heap.size, 0, none⟩ = some (.int .i64 k) ∧ V.cell? ⟨w.heap.size, 1, none⟩ = some (.int .i64 n) ∧ V.cell? ⟨w.heap.size, 2, none⟩ = some (.pointer c) ∧ V.cell? ⟨w.heap.size, 3, none⟩ = some f := fun V hV => ⟨(hbx 0 _ rfl).cell hV, (hbx 1 _ rfl).cell hV, (hbx 2 _ rfl).cell hV, (hbx 3 _ rfl).cell hV⟩
  have hsu1 : ∀ (H' : Mem) (S : St) (W : World), MLe H1 H' → MS w0 mb H' S W → Sub H1 W := fun H' S W k m b o hb => m.sub b o (k b o hb)
  have HS0 := Lib.hid (hs1 W.drew hm.sub)
  have HSA := Lib.hid (hs1 (W.alloc (.cells [.int .i64 k, .int .i64 n, .pointer c, f].toArray 290)).drew (hsu1 _ _ _ hkp2.1 hkp2.2.drew))
  have HSS := Lib.hid hs1
  have HSU := Lib.hid hsu1
  have HPU := Lib.hid hpu
  have HKP := Lib.hid hkp2.1
  have K1 := Lib.hid k1
  have G0 := Lib.hid (hr 0 _ rfl)
  have G1 := Lib.hid (hr 1 _ rfl)
  have HT := Lib.hid ht
  have HE := Lib.hid he
  obtain ⟨a, rfl⟩ := he.ptr
  clear h hv hm hv1 hkp2 hfr hpu hs1 hsu1 hsu k1 hr ht he hbx hW
  unfold pt ptO boxO at *
  rcases hf with rfl | ⟨ft, fx, rfl⟩
  · go_enter Tryz.func184, Tryz.ntmps184
    go_wp2_with fail
    rw [← HW.out]
    go_wp2_with fail
    go_region_held3 (fun VV => VV.cell? ⟨w.heap.size, 0, none⟩ = some (.int .i64 k) ∧ VV.cell? ⟨w.heap.size, 1, none⟩ = some (.int .i64 n) ∧ VV.cell? ⟨w.heap.size, 2, none⟩ = some (.pointer c) ∧ VV.cell? ⟨w.heap.size, 3, none⟩ = some .nilIface)
      (first | with_reducible exact HS0.out | with_reducible exact HSA.out | with_reducible exact hS2)
      ((go_at_call 40; refine HPU.out.mono ?_; rintro e w3 ⟨rfl, H3, k3, m3⟩; have hS2 := HSS.out _ (HSU.out _ _ _ (HKP.out.trans k3) m3); have K3 := Lib.hid ((K1.out.trans HKP.out).trans k3); have M3 := Lib.hid m3; clear k3 m3))
    all_goals
      have x0 := (G0.out.le K3.out).cell M3.out.sub
      have x1 := (G1.out.le K3.out).cell M3.out.sub
      have HAT := Lib.hid (at_any M3.out.drew (HT.out.le K3.out) (HE.out.le K3.out (Nat.le_refl _)))
      go_wp2_with fail
      go_still_tail 9, (by kernel_rfl)
      change wpList _ _ _ _ _ w3.drew
      go_wp2_with fail
      refine HAT.out.mono ?_
      rintro e w5 ⟨rfl, H5, k5, m5⟩
      go_wp2
      go_end0
      exact ⟨rfl, H5, K3.out.trans k5, m5⟩
  · go_enter Tryz.func184, Tryz.ntmps184
    go_wp2_with fail
    rw [← HW.out]
    go_wp2_with fail
    go_region_held3 (fun VV => VV.cell? ⟨w.heap.size, 0, none⟩ = some (.int .i64 k) ∧ VV.cell? ⟨w.heap.size, 1, none⟩ = some (.int .i64 n) ∧ VV.cell? ⟨w.heap.size, 2, none⟩ = some (.pointer c) ∧ VV.cell? ⟨w.heap.size, 3, none⟩ = some (.iface ft fx))
      (first | with_reducible exact HS0.out | with_reducible exact HSA.out | with_reducible exact hS2)
      ((go_at_call 40; refine HPU.out.mono ?_; rintro e w3 ⟨rfl, H3, k3, m3⟩; have hS2 := HSS.out _ (HSU.out _ _ _ (HKP.out.trans k3) m3); have K3 := Lib.hid ((K1.out.trans HKP.out).trans k3); have M3 := Lib.hid m3; clear k3 m3))
    all_goals
      have x0 := (G0.out.le K3.out).cell M3.out.sub
      have x1 := (G1.out.le K3.out).cell M3.out.sub
      have HAT := Lib.hid (at_any M3.out.drew (HT.out.le K3.out) (HE.out.le K3.out (Nat.le_refl _)))
      go_wp2_with fail
      go_still_tail 9, (by kernel_rfl)
      change wpList _ _ _ _ _ w3.drew
      go_wp2_with fail
      refine HAT.out.mono ?_
      rintro e w5 ⟨rfl, H5, k5, m5⟩
      go_wp2
      go_end0
      exact ⟨rfl, H5, K3.out.trans k5, m5⟩
end So
end Go.Proofs.YtfkakmafedhgdaaGreatDoor.K
