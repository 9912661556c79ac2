/- The machine of package source: what becomes of a value that waited-for frames get: let, if, a list of kids. -/
import Derived.Test.YtmodmojocclmaaaGreatDoorMg13
namespace Go.Proofs.YtmodmojocclmaaaGreatDoor.K
open Go Go.RowKit
namespace So

set_option maxRecDepth 100000 in
set_option maxHeartbeats 4000000 in
theorem take_name {w0 : World} {mb : Nat} {H : Mem} {s : St} {w : World} (h : MS w0 mb H s w) {v : Val} {l : List Value} (hv : VV H s.cells.length v l) {t : Tm} {en : Env} {nm : Str} {fb tb to : Nat} {ev : Value} (hr : HR H fb 0 [.string (ba nm), ptO tb to, ev]) (ht : TmA H tb to t) (he : EV H s.cells.length en ev) :
  Calls Tryz.prog 185 #[pt fb, pt mb, .agg l.toArray] w (MEnd w0 mb H (s.goes t ((nm, v) :: en))) := by
 obtain ⟨k, n, c, f, rfl, hf⟩ := hv.four
 have hkp := h.alloc (boxO k n c f)
 have hbx : HR (ins H w.heap.size (boxO k n c f)) w.heap.size 0 [.int .i64 k, .int .i64 n, .pointer c, f] := ins_row _ _ _ _
 have hsu : ∀ (H' : Mem) (S : St) (W : World), MLe H H' → MS w0 mb H' S W → Sub H W := fun H' S W k m b o hb => m.sub b o (k b o hb)
 obtain ⟨H1, hH1⟩ : ∃ H1, H1 = ins H w.heap.size (boxO k n c f) := ⟨_, rfl⟩
 rw [← hH1] at hkp hbx
 obtain ⟨k1, hm⟩ := hkp
 clear hH1
 have hv1 := hv.le k1 (Nat.le_refl s.cells.length)
 obtain ⟨W, hW⟩ : ∃ W, W = w.alloc (boxO k n c f) := ⟨_, rfl⟩
 rw [← hW] at hm
 have p0 := (hbx 0 _ rfl).cell hm.sub
 have p1 := (hbx 1 _ rfl).cell hm.sub
 have p2 := (hbx 2 _ rfl).cell hm.sub
 have p3 := (hbx 3 _ rfl).cell hm.sub
 have HW := Lib.hid hW
 obtain ⟨a, rfl⟩ := he.ptr
 have hwi := with_any hm.drew (nm := nm) (he.le k1 (Nat.le_refl _)) hv1
 have hs1 : ∀ V, Sub H1 V → (V.cell? ⟨w.heap.size, 0, none⟩ = some (.int .i64 k) ∧ V.cell? ⟨w.heap.size, 1, none⟩ = some (.int .i64 n) ∧ V.cell? ⟨w.heap.size, 2, none⟩ = some (.pointer c) ∧ V.cell? ⟨w.heap.size, 3, none⟩ = some f) ∧ V.cell? ⟨fb, 0, none⟩ = some (.string (ba nm)) ∧ V.cell? ⟨fb, 1, none⟩ = some (ptO tb to) ∧ V.cell? ⟨fb, 2, none⟩ = some (.pointer a) := fun V hV => ⟨⟨(hbx 0 _ rfl).cell hV, (hbx 1 _ rfl).cell hV, (hbx 2 _ rfl).cell hV, (hbx 3 _ rfl).cell hV⟩, ((hr 0 _ rfl).le k1).cell hV, ((hr 1 _ rfl).le k1).cell hV, ((hr 2 _ rfl).le k1).cell hV⟩
 have hsu1 : ∀ (H' : Mem) (S : St) (W : World), MLe H1 H' → MS w0 mb H' S W → Sub H1 W := fun H' S W k m b o hb => m.sub b o (k b o hb)
 have HS0 := Lib.hid (hs1 W.drew hm.sub)
 have HSS := Lib.hid hs1
 have HSU := Lib.hid hsu1
 have HWI := Lib.hid hwi
 have K1 := Lib.hid k1
 have HT := Lib.hid ht
 clear h hv hm hv1 hwi hs1 hsu1 hsu k1 hr ht he hbx hW
 unfold pt ptO boxO at *
 rcases hf with rfl | ⟨ft, fx, rfl⟩
 ·go_enter Tryz.func185, Tryz.ntmps185
  go_wp2_with fail
  rw [← HW.out]
  go_wp2_with fail
  go_region_held3 (fun VV => (VV.cell? ⟨w.heap.size, 0, none⟩ = some (.int .i64 k) ∧ VV.cell? ⟨w.heap.size, 1, none⟩ = some (.int .i64 n) ∧ VV.cell? ⟨w.heap.size, 2, none⟩ = some (.pointer c) ∧ VV.cell? ⟨w.heap.size, 3, none⟩ = some .nilIface) ∧ VV.cell? ⟨fb, 0, none⟩ = some (.string (ba nm)) ∧ VV.cell? ⟨fb, 1, none⟩ = some (.pointer (some ⟨tb, to, none⟩)) ∧ VV.cell? ⟨fb, 2, none⟩ = some (.pointer a))
   (first | with_reducible exact HS0.out | with_reducible exact hS2 | with_reducible exact hS3)
   ((first | (go_at_call 37; refine HWI.out.mono ?_; rintro e w3 ⟨H3, x3, rfl, k3, m3, e3⟩; have hS2 := HSS.out _ (HSU.out _ _ _ k3 m3); have K3 := Lib.hid k3; have M3 := Lib.hid m3; have E3 := Lib.hid e3; clear k3 m3 e3) | (go_at_call 36; refine (at_any M3.out ((HT.out.le K1.out).le K3.out) E3.out).mono ?_; rintro e w4 ⟨rfl, H4, k4, m4⟩; have hS3 := HSS.out _ (HSU.out _ _ _ (K3.out.trans k4) m4); have K4 := Lib.hid k4; have M4 := Lib.hid m4; clear k4 m4)))
  all_goals
   go_wp2
   go_end0
   exact ⟨rfl, H4, (K1.out.trans K3.out).trans K4.out, M4.out⟩
 ·go_enter Tryz.func185, Tryz.ntmps185
  go_wp2_with fail
  rw [← HW.out]
  go_wp2_with fail
  go_region_held3 (fun VV => (VV.cell? ⟨w.heap.size, 0, none⟩ = some (.int .i64 k) ∧ VV.cell? ⟨w.heap.size, 1, none⟩ = some (.int .i64 n) ∧ VV.cell? ⟨w.heap.size, 2, none⟩ = some (.pointer c) ∧ VV.cell? ⟨w.heap.size, 3, none⟩ = some (.iface ft fx)) ∧ VV.cell? ⟨fb, 0, none⟩ = some (.string (ba nm)) ∧ VV.cell? ⟨fb, 1, none⟩ = some (.pointer (some ⟨tb, to, none⟩)) ∧ VV.cell? ⟨fb, 2, none⟩ = some (.pointer a))
   (first | with_reducible exact HS0.out | with_reducible exact hS2 | with_reducible exact hS3)
   ((first | (go_at_call 37; refine HWI.out.mono ?_; rintro e w3 ⟨H3, x3, rfl, k3, m3, e3⟩; have hS2 := HSS.out _ (HSU.out _ _ _ k3 m3); have K3 := Lib.hid k3; have M3 := Lib.hid m3; have E3 := Lib.hid e3; clear k3 m3 e3) | (go_at_call 36; refine (at_any M3.out ((HT.out.le K1.out).le K3.out) E3.out).mono ?_; rintro e w4 ⟨rfl, H4, k4, m4⟩; have hS3 := HSS.out _ (HSU.out _ _ _ (K3.out.trans k4) m4); have K4 := Lib.hid k4; have M4 := Lib.hid m4; clear k4 m4)))
  all_goals
   go_wp2
   go_end0
   exact ⟨rfl, H4, (K1.out.trans K3.out).trans K4.out, M4.out⟩
set_option maxRecDepth 100000 in
set_option maxHeartbeats 4000000 in
theorem take_choice {w0 : World} {mb : Nat} {H : Mem} {s : St} {w : World} (h : MS w0 mb H s w) {v : Val} {l : List Value} (hv : VV H s.cells.length v l) {y no : Tm} {en : Env} {fb tb to ub uo : Nat} {ev : Value} (hr : HR H fb 0 [ptO tb to, ptO ub uo, ev]) (ht : TmA H tb to y) (hu : TmA H ub uo no) (he : EV H s.cells.length en ev) :
  Calls Tryz.prog 186 #[pt fb, pt mb, .agg l.toArray] w (MEnd w0 mb H (if kV v = 2 then (if nV v = 1 then s.goes y en else s.goes no en) else s.ends 4)) := by
 obtain ⟨k', hk'⟩ : ∃ k', k' = kV v := ⟨_, rfl⟩
 obtain ⟨n', hn'⟩ : ∃ n', n' = nV v := ⟨_, rfl⟩
 rw [← hk', ← hn']
 obtain ⟨k, n, c, f, rfl, hf⟩ := hv.four
 have hkk : k = k' := by
  obtain ⟨n2, c2, f2, he2, _⟩ := hv.kind
  simp only [List.cons.injEq, Value.int.injEq, true_and] at he2
  rw [hk', he2.1]
 have hnn : k' = 2 → n = n' := fun h2 => by
  rw [hk'] at h2
  rw [hn']
  cases v with
  | lit _ _ => cases hv; rfl
  | con => cases h2
  | clo => cases h2
  | res => cases h2
 subst hkk
 have h1 := h.alloc (boxO k n c f)
 have hm := h.later (below_new w (boxO k n c f))
 obtain ⟨W, hW⟩ : ∃ W, W = w.alloc (boxO k n c f) := ⟨_, rfl⟩
 rw [← hW] at hm
 have lb : Lies W w.heap.size 68 #[.int .i64 k, .int .i64 n, .pointer c, f] := by rw [hW]; exact Lies.new w _ _
 have p0 : W.cell? ⟨w.heap.size, 0, none⟩ = some (.int .i64 k) := lb.cell 0
 have p1 : W.cell? ⟨w.heap.size, 1, none⟩ = some (.int .i64 n) := lb.cell 1
 have g0 := (hr 0 _ rfl).cell hm.sub
 have g1 := (hr 1 _ rfl).cell hm.sub
 have g2 := (hr 2 _ rfl).cell hm.sub
 have HW := Lib.hid hW
 have HY := Lib.hid (at_any hm.drew ht he)
 have HN := Lib.hid (at_any hm.drew hu he)
 have HE := Lib.hid (end_any hm 4)
 obtain ⟨a, rfl⟩ := he.ptr
 clear h hm ht hu he hr hv hk' hn' hW lb h1
 unfold pt ptO boxO at *
 by_cases h2 : k = 2
 ·obtain rfl : n = n' := hnn h2
  rw [if_pos h2]
  subst h2
  clear hnn
  by_cases h3 : n = 1
  ·rw [if_pos h3]
   subst h3
   rcases hf with rfl | ⟨ft, fx, rfl⟩
   ·go_enter Tryz.func186, Tryz.ntmps186
    go_wp2_with fail
    rw [← HW.out]
    go_wp2_with fail
    go_still_tail 9, (by kernel_rfl)
    change wpList _ _ _ _ _ W.drew
    go_wp2_with fail
    refine HY.out.mono ?_
    rintro e w5 ⟨rfl, H5, k5, m5⟩
    go_wp2
    go_end0
    exact ⟨rfl, H5, k5, m5⟩
   ·go_enter Tryz.func186, Tryz.ntmps186
    go_wp2_with fail
    rw [← HW.out]
    go_wp2_with fail
    go_still_tail 9, (by kernel_rfl)
    change wpList _ _ _ _ _ W.drew
    go_wp2_with fail
    refine HY.out.mono ?_
    rintro e w5 ⟨rfl, H5, k5, m5⟩
    go_wp2
    go_end0
    exact ⟨rfl, H5, k5, m5⟩
  ·rw [if_neg h3]
   have n3 : (n == 1) = false := by rw [beq_eq_false_iff_ne]; exact h3
   rcases hf with rfl | ⟨ft, fx, rfl⟩
   ·go_enter Tryz.func186, Tryz.ntmps186
    go_wp2_with fail
    rw [← HW.out]
    go_wp2_with fail
    go_still_tail 9, (by kernel_rfl)
    change wpList _ _ _ _ _ W.drew
    go_wp2_with fail
    refine HN.out.mono ?_
    rintro e w5 ⟨rfl, H5, k5, m5⟩
    go_wp2
    go_end0
    exact ⟨rfl, H5, k5, m5⟩
   ·go_enter Tryz.func186, Tryz.ntmps186
    go_wp2_with fail
    rw [← HW.out]
    go_wp2_with fail
    go_still_tail 9, (by kernel_rfl)
    change wpList _ _ _ _ _ W.drew
    go_wp2_with fail
    refine HN.out.mono ?_
    rintro e w5 ⟨rfl, H5, k5, m5⟩
    go_wp2
    go_end0
    exact ⟨rfl, H5, k5, m5⟩
 ·rw [if_neg h2]
  have n2 : (k == 2) = false := by rw [beq_eq_false_iff_ne]; exact h2
  clear hnn
  rcases hf with rfl | ⟨ft, fx, rfl⟩
  ·go_enter Tryz.func186, Tryz.ntmps186
   go_wp2_with fail
   rw [← HW.out]
   go_wp2_with fail
   refine HE.out.mono ?_
   rintro e w5 ⟨rfl, H5, k5, m5⟩
   go_wp2
   go_end0
   exact ⟨rfl, H5, k5, m5⟩
  ·go_enter Tryz.func186, Tryz.ntmps186
   go_wp2_with fail
   rw [← HW.out]
   go_wp2_with fail
   refine HE.out.mono ?_
   rintro e w5 ⟨rfl, H5, k5, m5⟩
   go_wp2
   go_end0
   exact ⟨rfl, H5, k5, m5⟩
set_option maxRecDepth 100000 in
set_option maxHeartbeats 4000000 in
theorem take_gath {w0 : World} {mb : Nat} {H : Mem} {s : St} {w : World} (h : MS w0 mb H s w) {v : Val} {l : List Value} (hv : VV H s.cells.length v l) {t : Tm} {en : Env} {done : List Val} {fb tb to : Nat} {ev lv : Value} (hr : HR H fb 0 [ptO tb to, ev, .int .i64 (done.length : Int), lv]) (ht : TmA H tb to t) (he : EV H s.cells.length en ev) (hd : RV H s.cells.length done lv) (hk : t.k = 11 ∨ (t.k = 10 ∧ argc t.nm = some t.kids.length)) (hl : done.length < t.kids.length) (htr : s.trace.length ≤ 1000000) (hce : s.cells.length ≤ 1000000) :
  Calls Tryz.prog 181 #[pt fb, pt mb, .agg l.toArray] w (MEnd w0 mb H (gather t en (v :: done) s)) := by
 have hlb : done.length ≤ 2000000 := by
  obtain ⟨av, kv, rv, rest, _, ⟨A, c, _, _, hAl, _⟩, _, _⟩ := ht.open
  omega
 obtain ⟨k, n, c, f, rfl, hf⟩ := hv.four
 have hkp := h.alloc (boxO k n c f)
 have hbx : HR (ins H w.heap.size (boxO k n c f)) w.heap.size 0 [.int .i64 k, .int .i64 n, .pointer c, f] := ins_row _ _ _ _
 have hsu : ∀ (H' : Mem) (S : St) (W : World), MLe H H' → MS w0 mb H' S W → Sub H W := fun H' S W k m b o hb => m.sub b o (k b o hb)
 obtain ⟨H1, hH1⟩ : ∃ H1, H1 = ins H w.heap.size (boxO k n c f) := ⟨_, rfl⟩
 rw [← hH1] at hkp hbx
 obtain ⟨k1, hm⟩ := hkp
 clear hH1
 have hv1 := hv.le k1 (Nat.le_refl s.cells.length)
 obtain ⟨W, hW⟩ : ∃ W, W = w.alloc (boxO k n c f) := ⟨_, rfl⟩
 rw [← hW] at hm
 have p0 := (hbx 0 _ rfl).cell hm.sub
 have p1 := (hbx 1 _ rfl).cell hm.sub
 have p2 := (hbx 2 _ rfl).cell hm.sub
 have p3 := (hbx 3 _ rfl).cell hm.sub
 have HW := Lib.hid hW
 obtain ⟨a, rfl⟩ := he.ptr
 obtain ⟨y, rfl⟩ : ∃ y, lv = .pointer y := by cases hd <;> exact ⟨_, rfl⟩
 have hkp2 := hm.alloc (.cells [.int .i64 k, .int .i64 n, .pointer c, f, .pointer y].toArray 202)
 have hrv : RV _ s.cells.length (v :: done) (pt W.heap.size) := .cons v done W.heap.size [.int .i64 k, .int .i64 n, .pointer c, f] (.pointer y) (ins_row H1 W.heap.size 202 _) (hv1.le hkp2.1 (Nat.le_refl _)) ((hd.le k1 (Nat.le_refl _)).le hkp2.1 (Nat.le_refl _))
 have hkp3 := hkp2.2.alloc (.cells [ptO tb to, .pointer a, .int .i64 ((done.length : Int) + 1), pt W.heap.size].toArray 113)
 have hrow3 := ins_row (ins H1 W.heap.size (.cells [.int .i64 k, .int .i64 n, .pointer c, f, .pointer y].toArray 202)) (W.alloc (.cells [.int .i64 k, .int .i64 n, .pointer c, f, .pointer y].toArray 202)).heap.size 113 [ptO tb to, .pointer a, .int .i64 ((done.length : Int) + 1), pt W.heap.size]
 obtain ⟨HB, hHB⟩ : ∃ HB, HB = ins (ins H1 W.heap.size (.cells [.int .i64 k, .int .i64 n, .pointer c, f, .pointer y].toArray 202)) (W.alloc (.cells [.int .i64 k, .int .i64 n, .pointer c, f, .pointer y].toArray 202)).heap.size (.cells [ptO tb to, .pointer a, .int .i64 ((done.length : Int) + 1), pt W.heap.size].toArray 113) := ⟨_, rfl⟩
 rw [← hHB] at hkp3 hrow3
 clear hHB
 have k3 := (k1.trans hkp2.1).trans hkp3.1
 have hz : (W.alloc (.cells [.int .i64 k, .int .i64 n, .pointer c, f, .pointer y].toArray 202)).heap.size = W.heap.size + 1 := by simp
 have hga := gather_any hkp3.2.drew (t := t) (en := en) (done := v :: done) (b := (W.alloc (.cells [.int .i64 k, .int .i64 n, .pointer c, f, .pointer y].toArray 202)).heap.size) (tb := tb) (to := to) (ev := .pointer a) (lv := pt W.heap.size) (by rw [show ((v :: done).length : Int) = (done.length : Int) + 1 by rw [List.length_cons]; omega]; exact hrow3) (ht.le k3) (he.le k3 (Nat.le_refl _)) (hrv.le hkp3.1 (Nat.le_refl _)) hk (by rw [List.length_cons]; omega) htr hce
 have hs1 : ∀ V, Sub H1 V → (V.cell? ⟨w.heap.size, 0, none⟩ = some (.int .i64 k) ∧ V.cell? ⟨w.heap.size, 1, none⟩ = some (.int .i64 n) ∧ V.cell? ⟨w.heap.size, 2, none⟩ = some (.pointer c) ∧ V.cell? ⟨w.heap.size, 3, none⟩ = some f) ∧ V.cell? ⟨fb, 0, none⟩ = some (ptO tb to) ∧ V.cell? ⟨fb, 1, none⟩ = some (.pointer a) ∧ V.cell? ⟨fb, 2, none⟩ = some (.int .i64 (done.length : Int)) ∧ V.cell? ⟨fb, 3, none⟩ = some (.pointer y) := fun V hV => ⟨⟨(hbx 0 _ rfl).cell hV, (hbx 1 _ rfl).cell hV, (hbx 2 _ rfl).cell hV, (hbx 3 _ rfl).cell hV⟩, ((hr 0 _ rfl).le k1).cell hV, ((hr 1 _ rfl).le k1).cell hV, ((hr 2 _ rfl).le k1).cell hV, ((hr 3 _ rfl).le k1).cell hV⟩
 have hsu1 : ∀ (H' : Mem) (S : St) (W : World), MLe H1 H' → MS w0 mb H' S W → Sub H1 W := fun H' S W k m b o hb => m.sub b o (k b o hb)
 have HS0 := Lib.hid (hs1 W.drew hm.sub)
 have HSA := Lib.hid (hs1 (W.alloc (.cells [.int .i64 k, .int .i64 n, .pointer c, f, .pointer y].toArray 202)).drew (hsu1 _ _ _ hkp2.1 hkp2.2.drew))
 have HSB := Lib.hid (hs1 ((W.alloc (.cells [.int .i64 k, .int .i64 n, .pointer c, f, .pointer y].toArray 202)).alloc (.cells [ptO tb to, .pointer a, .int .i64 ((done.length : Int) + 1), pt W.heap.size].toArray 113)).drew (hsu1 _ _ _ (hkp2.1.trans hkp3.1) hkp3.2.drew))
 have HSS := Lib.hid hs1
 have HSU := Lib.hid hsu1
 have HKP := Lib.hid (hkp2.1.trans hkp3.1)
 rw [hz] at hga
 have HGA := Lib.hid hga
 have K1 := Lib.hid k1
 have hw1 : IntKind.i64.wrap ((done.length : Int) + 1) = (done.length : Int) + 1 := IntWalk.i64_in _ (by omega)
 have hp1 : (0 : Int) ≤ (done.length : Int) + 1 := by omega
 clear h hv hm hv1 hkp2 hkp3 hrv k3 hga hrow3 hs1 hsu1 hsu k1 hr ht he hd hbx hW hz hk hl
 unfold pt ptO boxO at *
 rcases hf with rfl | ⟨ft, fx, rfl⟩
 ·go_enter Tryz.func181, Tryz.ntmps181
  go_wp2_with fail
  rw [← HW.out]
  go_wp2_with fail
  go_region_held3 (fun VV => (VV.cell? ⟨w.heap.size, 0, none⟩ = some (.int .i64 k) ∧ VV.cell? ⟨w.heap.size, 1, none⟩ = some (.int .i64 n) ∧ VV.cell? ⟨w.heap.size, 2, none⟩ = some (.pointer c) ∧ VV.cell? ⟨w.heap.size, 3, none⟩ = some .nilIface) ∧ VV.cell? ⟨fb, 0, none⟩ = some (.pointer (some ⟨tb, to, none⟩)) ∧ VV.cell? ⟨fb, 1, none⟩ = some (.pointer a) ∧ VV.cell? ⟨fb, 2, none⟩ = some (.int .i64 (done.length : Int)) ∧ VV.cell? ⟨fb, 3, none⟩ = some (.pointer y))
   (first | with_reducible exact HS0.out | with_reducible exact HSA.out | with_reducible exact HSB.out | with_reducible exact hS2)
   ((go_at_call 38; refine HGA.out.mono ?_; rintro e w3 ⟨rfl, H3, k3, m3⟩; have hS2 := HSS.out _ (HSU.out _ _ _ (HKP.out.trans k3) m3); have K3 := Lib.hid ((K1.out.trans HKP.out).trans k3); have M3 := Lib.hid m3; clear k3 m3))
  all_goals
   go_wp2
   go_end0
   exact ⟨rfl, H3, K3.out, M3.out⟩
 ·go_enter Tryz.func181, Tryz.ntmps181
  go_wp2_with fail
  rw [← HW.out]
  go_wp2_with fail
  go_region_held3 (fun VV => (VV.cell? ⟨w.heap.size, 0, none⟩ = some (.int .i64 k) ∧ VV.cell? ⟨w.heap.size, 1, none⟩ = some (.int .i64 n) ∧ VV.cell? ⟨w.heap.size, 2, none⟩ = some (.pointer c) ∧ VV.cell? ⟨w.heap.size, 3, none⟩ = some (.iface ft fx)) ∧ VV.cell? ⟨fb, 0, none⟩ = some (.pointer (some ⟨tb, to, none⟩)) ∧ VV.cell? ⟨fb, 1, none⟩ = some (.pointer a) ∧ VV.cell? ⟨fb, 2, none⟩ = some (.int .i64 (done.length : Int)) ∧ VV.cell? ⟨fb, 3, none⟩ = some (.pointer y))
   (first | with_reducible exact HS0.out | with_reducible exact HSA.out | with_reducible exact HSB.out | with_reducible exact hS2)
   ((go_at_call 38; refine HGA.out.mono ?_; rintro e w3 ⟨rfl, H3, k3, m3⟩; have hS2 := HSS.out _ (HSU.out _ _ _ (HKP.out.trans k3) m3); have K3 := Lib.hid ((K1.out.trans HKP.out).trans k3); have M3 := Lib.hid m3; clear k3 m3))
  all_goals
   go_wp2
   go_end0
   exact ⟨rfl, H3, K3.out, M3.out⟩
end So
end Go.Proofs.YtmodmojocclmaaaGreatDoor.K

/- The machine of package source: a closure is called; a handler gets its value. -/
namespace Go.Proofs.YtmodmojocclmaaaGreatDoor.K
open Go Go.RowKit
namespace So

theorem ba_empty : (ba []).toList.isEmpty = true := by rw [ba_tl]; rfl
theorem ba_nonempty {l : Str} (h : l ≠ []) : (ba l).toList.isEmpty = false := by
 rw [ba_tl]
 cases l with
 | nil => exact absurd rfl h
 | cons => rfl
theorem ba_ne_nil {l : Str} (h : l ≠ []) : ¬ (ba l).toList = [] := by rw [ba_tl]; exact h
set_option maxRecDepth 100000 in
set_option maxHeartbeats 4000000 in
theorem take_clo0 {w0 : World} {mb : Nat} {H : Mem} {s : St} {w : World} (h : MS w0 mb H s w) {v : Val} {l : List Value} (hv : VV H s.cells.length v l) {own param : Str} {t : Tm} {en : Env} {fb tb to : Nat} {ev : Value} (hr : HR H fb 0 [.string (ba own), .string (ba param), ptO tb to, ev]) (ht : TmA H tb to t) (he : EV H s.cells.length en ev) (ho : own = []) :
  Calls Tryz.prog 180 #[pt fb, pt mb, .agg l.toArray] w (MEnd w0 mb H (s.goes t ((param, v) :: en))) := by
 obtain ⟨k, n, c, f, rfl, hf⟩ := hv.four
 have hkp := h.alloc (boxO k n c f)
 have hbx : HR (ins H w.heap.size (boxO k n c f)) w.heap.size 0 [.int .i64 k, .int .i64 n, .pointer c, f] := ins_row _ _ _ _
 have hsu : ∀ (H' : Mem) (S : St) (W : World), MLe H H' → MS w0 mb H' S W → Sub H W := fun H' S W k m b o hb => m.sub b o (k b o hb)
 obtain ⟨H1, hH1⟩ : ∃ H1, H1 = ins H w.heap.size (boxO k n c f) := ⟨_, rfl⟩
 rw [← hH1] at hkp hbx
 obtain ⟨k1, hm⟩ := hkp
 clear hH1
 have hv1 := hv.le k1 (Nat.le_refl s.cells.length)
 obtain ⟨W, hW⟩ : ∃ W, W = w.alloc (boxO k n c f) := ⟨_, rfl⟩
 rw [← hW] at hm
 have p0 := (hbx 0 _ rfl).cell hm.sub
 have p1 := (hbx 1 _ rfl).cell hm.sub
 have p2 := (hbx 2 _ rfl).cell hm.sub
 have p3 := (hbx 3 _ rfl).cell hm.sub
 have HW := Lib.hid hW
 obtain ⟨a, rfl⟩ := he.ptr
 have hvc : VV H1 s.cells.length (.clo own param t en) _ := .clo own param t en fb tb to (.pointer a) (hr.le k1) (ht.le k1) (he.le k1 (Nat.le_refl _))
 have g3 : W.cell? ⟨fb, 3, none⟩ = some (.pointer a) := ((hr 3 _ rfl).le k1).cell hm.sub
 have hs1 : ∀ V, Sub H1 V → (V.cell? ⟨w.heap.size, 0, none⟩ = some (.int .i64 k) ∧ V.cell? ⟨w.heap.size, 1, none⟩ = some (.int .i64 n) ∧ V.cell? ⟨w.heap.size, 2, none⟩ = some (.pointer c) ∧ V.cell? ⟨w.heap.size, 3, none⟩ = some f) ∧ V.cell? ⟨fb, 0, none⟩ = some (.string (ba own)) ∧ V.cell? ⟨fb, 1, none⟩ = some (.string (ba param)) ∧ V.cell? ⟨fb, 2, none⟩ = some (ptO tb to) := fun V hV => ⟨⟨(hbx 0 _ rfl).cell hV, (hbx 1 _ rfl).cell hV, (hbx 2 _ rfl).cell hV, (hbx 3 _ rfl).cell hV⟩, ((hr 0 _ rfl).le k1).cell hV, ((hr 1 _ rfl).le k1).cell hV, ((hr 2 _ rfl).le k1).cell hV⟩
 have hsu1 : ∀ (H' : Mem) (S : St) (W : World), MLe H1 H' → MS w0 mb H' S W → Sub H1 W := fun H' S W k m b o hb => m.sub b o (k b o hb)
 have g0 : W.cell? ⟨fb, 0, none⟩ = some (.string (ba own)) := (hs1 W hm.sub).2.1
 have u0 := g0
 have u3 := g3
 rw [hW] at u0 u3
 have HSS := Lib.hid hs1
 have HSU := Lib.hid hsu1
 have K1 := Lib.hid k1
 have HT := Lib.hid ht
 have em : (ba own).toList.isEmpty = true := by rw [ho]; exact ba_empty
 have hem : (ba own).toList = [] := by rw [ba_tl, ho]
 clear ho
 have HT0 := Lib.hid (HSS.out W.drew hm.sub)
 have KB := Lib.hid (MLe.refl H1)
 have HWB := Lib.hid (with_any hm.drew (nm := param) (he.le k1 (Nat.le_refl _)) hv1)
 clear h hv hm hv1 hs1 hsu1 hsu k1 hr ht he hbx hW hvc
 unfold pt ptO boxO at *
 rcases hf with rfl | ⟨ft, fx, rfl⟩
 ·go_enter Tryz.func180, Tryz.ntmps180
  go_wp2_with fail
  rw [← HW.out]
  go_wp2_with fail
  go_region_held3 (fun VV => (VV.cell? ⟨w.heap.size, 0, none⟩ = some (.int .i64 k) ∧ VV.cell? ⟨w.heap.size, 1, none⟩ = some (.int .i64 n) ∧ VV.cell? ⟨w.heap.size, 2, none⟩ = some (.pointer c) ∧ VV.cell? ⟨w.heap.size, 3, none⟩ = some .nilIface) ∧ VV.cell? ⟨fb, 0, none⟩ = some (.string (ba own)) ∧ VV.cell? ⟨fb, 1, none⟩ = some (.string (ba param)) ∧ VV.cell? ⟨fb, 2, none⟩ = some (.pointer (some ⟨tb, to, none⟩)))
   (first | with_reducible exact HT0.out | with_reducible exact hT2 | with_reducible exact hT3)
   ((first | (go_at_call 37; refine HWB.out.mono ?_; rintro e w5 ⟨H5, x5, rfl, k5, m5, e5⟩; have hT2 := HSS.out _ (HSU.out _ _ _ (KB.out.trans k5) m5); have K5 := Lib.hid (KB.out.trans k5); have M5 := Lib.hid m5; have E5 := Lib.hid e5; clear k5 m5 e5) | (go_at_call 36; refine (at_any M5.out ((HT.out.le K1.out).le K5.out) E5.out).mono ?_; rintro e w6 ⟨rfl, H6, k6, m6⟩; have hT3 := HSS.out _ (HSU.out _ _ _ (K5.out.trans k6) m6); have K6 := Lib.hid k6; have M6 := Lib.hid m6; clear k6 m6)))
  all_goals
   go_wp2
   go_end0
   exact ⟨rfl, H6, (K1.out.trans K5.out).trans K6.out, M6.out⟩
 ·go_enter Tryz.func180, Tryz.ntmps180
  go_wp2_with fail
  rw [← HW.out]
  go_wp2_with fail
  go_region_held3 (fun VV => (VV.cell? ⟨w.heap.size, 0, none⟩ = some (.int .i64 k) ∧ VV.cell? ⟨w.heap.size, 1, none⟩ = some (.int .i64 n) ∧ VV.cell? ⟨w.heap.size, 2, none⟩ = some (.pointer c) ∧ VV.cell? ⟨w.heap.size, 3, none⟩ = some (.iface ft fx)) ∧ VV.cell? ⟨fb, 0, none⟩ = some (.string (ba own)) ∧ VV.cell? ⟨fb, 1, none⟩ = some (.string (ba param)) ∧ VV.cell? ⟨fb, 2, none⟩ = some (.pointer (some ⟨tb, to, none⟩)))
   (first | with_reducible exact HT0.out | with_reducible exact hT2 | with_reducible exact hT3)
   ((first | (go_at_call 37; refine HWB.out.mono ?_; rintro e w5 ⟨H5, x5, rfl, k5, m5, e5⟩; have hT2 := HSS.out _ (HSU.out _ _ _ (KB.out.trans k5) m5); have K5 := Lib.hid (KB.out.trans k5); have M5 := Lib.hid m5; have E5 := Lib.hid e5; clear k5 m5 e5) | (go_at_call 36; refine (at_any M5.out ((HT.out.le K1.out).le K5.out) E5.out).mono ?_; rintro e w6 ⟨rfl, H6, k6, m6⟩; have hT3 := HSS.out _ (HSU.out _ _ _ (K5.out.trans k6) m6); have K6 := Lib.hid k6; have M6 := Lib.hid m6; clear k6 m6)))
  all_goals
   go_wp2
   go_end0
   exact ⟨rfl, H6, (K1.out.trans K5.out).trans K6.out, M6.out⟩
set_option maxRecDepth 100000 in
set_option maxHeartbeats 4000000 in
theorem take_clo1 {w0 : World} {mb : Nat} {H : Mem} {s : St} {w : World} (h : MS w0 mb H s w) {v : Val} {l : List Value} (hv : VV H s.cells.length v l) {own param : Str} {t : Tm} {en : Env} {fb tb to : Nat} {ev : Value} (hr : HR H fb 0 [.string (ba own), .string (ba param), ptO tb to, ev]) (ht : TmA H tb to t) (he : EV H s.cells.length en ev) (ho : own ≠ []) :
  Calls Tryz.prog 180 #[pt fb, pt mb, .agg l.toArray] w (MEnd w0 mb H (s.goes t ((param, v) :: (own, .clo own param t en) :: en))) := by
 obtain ⟨k, n, c, f, rfl, hf⟩ := hv.four
 have hkp := h.alloc (boxO k n c f)
 have hbx : HR (ins H w.heap.size (boxO k n c f)) w.heap.size 0 [.int .i64 k, .int .i64 n, .pointer c, f] := ins_row _ _ _ _
 have hsu : ∀ (H' : Mem) (S : St) (W : World), MLe H H' → MS w0 mb H' S W → Sub H W := fun H' S W k m b o hb => m.sub b o (k b o hb)
 obtain ⟨H1, hH1⟩ : ∃ H1, H1 = ins H w.heap.size (boxO k n c f) := ⟨_, rfl⟩
 rw [← hH1] at hkp hbx
 obtain ⟨k1, hm⟩ := hkp
 clear hH1
 have hv1 := hv.le k1 (Nat.le_refl s.cells.length)
 obtain ⟨W, hW⟩ : ∃ W, W = w.alloc (boxO k n c f) := ⟨_, rfl⟩
 rw [← hW] at hm
 have p0 := (hbx 0 _ rfl).cell hm.sub
 have p1 := (hbx 1 _ rfl).cell hm.sub
 have p2 := (hbx 2 _ rfl).cell hm.sub
 have p3 := (hbx 3 _ rfl).cell hm.sub
 have HW := Lib.hid hW
 obtain ⟨a, rfl⟩ := he.ptr
 have hvc : VV H1 s.cells.length (.clo own param t en) _ := .clo own param t en fb tb to (.pointer a) (hr.le k1) (ht.le k1) (he.le k1 (Nat.le_refl _))
 have g3 : W.cell? ⟨fb, 3, none⟩ = some (.pointer a) := ((hr 3 _ rfl).le k1).cell hm.sub
 have hs1 : ∀ V, Sub H1 V → (V.cell? ⟨w.heap.size, 0, none⟩ = some (.int .i64 k) ∧ V.cell? ⟨w.heap.size, 1, none⟩ = some (.int .i64 n) ∧ V.cell? ⟨w.heap.size, 2, none⟩ = some (.pointer c) ∧ V.cell? ⟨w.heap.size, 3, none⟩ = some f) ∧ V.cell? ⟨fb, 0, none⟩ = some (.string (ba own)) ∧ V.cell? ⟨fb, 1, none⟩ = some (.string (ba param)) ∧ V.cell? ⟨fb, 2, none⟩ = some (ptO tb to) := fun V hV => ⟨⟨(hbx 0 _ rfl).cell hV, (hbx 1 _ rfl).cell hV, (hbx 2 _ rfl).cell hV, (hbx 3 _ rfl).cell hV⟩, ((hr 0 _ rfl).le k1).cell hV, ((hr 1 _ rfl).le k1).cell hV, ((hr 2 _ rfl).le k1).cell hV⟩
 have hsu1 : ∀ (H' : Mem) (S : St) (W : World), MLe H1 H' → MS w0 mb H' S W → Sub H1 W := fun H' S W k m b o hb => m.sub b o (k b o hb)
 have g0 : W.cell? ⟨fb, 0, none⟩ = some (.string (ba own)) := (hs1 W hm.sub).2.1
 have u0 := g0
 have u3 := g3
 rw [hW] at u0 u3
 have HSS := Lib.hid hs1
 have HSU := Lib.hid hsu1
 have K1 := Lib.hid k1
 have HT := Lib.hid ht
 have em := ba_nonempty ho
 have hem := ba_ne_nil ho
 have HS0 := Lib.hid (HSS.out W.drew hm.sub)
 have HFU := Lib.hid (fun_ms hm.drew hvc)
 have HEN := Lib.hid (he.le k1 (Nat.le_refl s.cells.length))
 have HV1 := Lib.hid hv1
 clear h hv hm hv1 hs1 hsu1 hsu k1 hr ht he hbx hW hvc
 unfold pt ptO boxO at *
 rcases hf with rfl | ⟨ft, fx, rfl⟩
 ·go_enter Tryz.func180, Tryz.ntmps180
  go_wp2_with fail
  rw [← HW.out]
  go_wp2_with fail
  go_region_held3 (fun VV => (VV.cell? ⟨w.heap.size, 0, none⟩ = some (.int .i64 k) ∧ VV.cell? ⟨w.heap.size, 1, none⟩ = some (.int .i64 n) ∧ VV.cell? ⟨w.heap.size, 2, none⟩ = some (.pointer c) ∧ VV.cell? ⟨w.heap.size, 3, none⟩ = some .nilIface) ∧ VV.cell? ⟨fb, 0, none⟩ = some (.string (ba own)) ∧ VV.cell? ⟨fb, 1, none⟩ = some (.string (ba param)) ∧ VV.cell? ⟨fb, 2, none⟩ = some (.pointer (some ⟨tb, to, none⟩)))
   (first | with_reducible exact HS0.out | with_reducible exact hS2 | with_reducible exact hS3)
   ((first | (go_at_call 35; refine HFU.out.mono ?_; rintro e w3 ⟨x3, rfl, m3, _, hx3⟩; have hS2 := HSS.out _ (HSU.out _ _ _ (MLe.refl _) m3); have M3 := Lib.hid m3; have X3 := Lib.hid hx3; clear m3 hx3) | (go_at_call 37; refine (with_agg M3.out HEN.out X3.out).mono ?_; rintro e w4 ⟨H4, x4, rfl, k4, m4, e4⟩; have hS3 := HSS.out _ (HSU.out _ _ _ k4 m4); have KB := Lib.hid k4; have M4 := Lib.hid m4; have E4 := Lib.hid e4; clear k4 m4 e4)))
  all_goals
   have HWB := Lib.hid (with_any M4.out.drew (nm := param) E4.out (HV1.out.le KB.out (Nat.le_refl _)))
   have HT0 := Lib.hid (HSS.out w4.drew (HSU.out _ _ _ KB.out M4.out.drew))
   obtain ⟨a4, rfl⟩ := E4.out.ptr
   go_wp2_with fail
   go_region_held3 (fun VV => (VV.cell? ⟨w.heap.size, 0, none⟩ = some (.int .i64 k) ∧ VV.cell? ⟨w.heap.size, 1, none⟩ = some (.int .i64 n) ∧ VV.cell? ⟨w.heap.size, 2, none⟩ = some (.pointer c) ∧ VV.cell? ⟨w.heap.size, 3, none⟩ = some .nilIface) ∧ VV.cell? ⟨fb, 0, none⟩ = some (.string (ba own)) ∧ VV.cell? ⟨fb, 1, none⟩ = some (.string (ba param)) ∧ VV.cell? ⟨fb, 2, none⟩ = some (.pointer (some ⟨tb, to, none⟩)))
    (first | with_reducible exact HT0.out | with_reducible exact hT2 | with_reducible exact hT3)
    ((first | (go_at_call 37; refine HWB.out.mono ?_; rintro e w5 ⟨H5, x5, rfl, k5, m5, e5⟩; have hT2 := HSS.out _ (HSU.out _ _ _ (KB.out.trans k5) m5); have K5 := Lib.hid (KB.out.trans k5); have M5 := Lib.hid m5; have E5 := Lib.hid e5; clear k5 m5 e5) | (go_at_call 36; refine (at_any M5.out ((HT.out.le K1.out).le K5.out) E5.out).mono ?_; rintro e w6 ⟨rfl, H6, k6, m6⟩; have hT3 := HSS.out _ (HSU.out _ _ _ (K5.out.trans k6) m6); have K6 := Lib.hid k6; have M6 := Lib.hid m6; clear k6 m6)))
   all_goals
    go_wp2
    go_end0
    exact ⟨rfl, H6, (K1.out.trans K5.out).trans K6.out, M6.out⟩
 ·go_enter Tryz.func180, Tryz.ntmps180
  go_wp2_with fail
  rw [← HW.out]
  go_wp2_with fail
  go_region_held3 (fun VV => (VV.cell? ⟨w.heap.size, 0, none⟩ = some (.int .i64 k) ∧ VV.cell? ⟨w.heap.size, 1, none⟩ = some (.int .i64 n) ∧ VV.cell? ⟨w.heap.size, 2, none⟩ = some (.pointer c) ∧ VV.cell? ⟨w.heap.size, 3, none⟩ = some (.iface ft fx)) ∧ VV.cell? ⟨fb, 0, none⟩ = some (.string (ba own)) ∧ VV.cell? ⟨fb, 1, none⟩ = some (.string (ba param)) ∧ VV.cell? ⟨fb, 2, none⟩ = some (.pointer (some ⟨tb, to, none⟩)))
   (first | with_reducible exact HS0.out | with_reducible exact hS2 | with_reducible exact hS3)
   ((first | (go_at_call 35; refine HFU.out.mono ?_; rintro e w3 ⟨x3, rfl, m3, _, hx3⟩; have hS2 := HSS.out _ (HSU.out _ _ _ (MLe.refl _) m3); have M3 := Lib.hid m3; have X3 := Lib.hid hx3; clear m3 hx3) | (go_at_call 37; refine (with_agg M3.out HEN.out X3.out).mono ?_; rintro e w4 ⟨H4, x4, rfl, k4, m4, e4⟩; have hS3 := HSS.out _ (HSU.out _ _ _ k4 m4); have KB := Lib.hid k4; have M4 := Lib.hid m4; have E4 := Lib.hid e4; clear k4 m4 e4)))
  all_goals
   have HWB := Lib.hid (with_any M4.out.drew (nm := param) E4.out (HV1.out.le KB.out (Nat.le_refl _)))
   have HT0 := Lib.hid (HSS.out w4.drew (HSU.out _ _ _ KB.out M4.out.drew))
   obtain ⟨a4, rfl⟩ := E4.out.ptr
   go_wp2_with fail
   go_region_held3 (fun VV => (VV.cell? ⟨w.heap.size, 0, none⟩ = some (.int .i64 k) ∧ VV.cell? ⟨w.heap.size, 1, none⟩ = some (.int .i64 n) ∧ VV.cell? ⟨w.heap.size, 2, none⟩ = some (.pointer c) ∧ VV.cell? ⟨w.heap.size, 3, none⟩ = some (.iface ft fx)) ∧ VV.cell? ⟨fb, 0, none⟩ = some (.string (ba own)) ∧ VV.cell? ⟨fb, 1, none⟩ = some (.string (ba param)) ∧ VV.cell? ⟨fb, 2, none⟩ = some (.pointer (some ⟨tb, to, none⟩)))
    (first | with_reducible exact HT0.out | with_reducible exact hT2 | with_reducible exact hT3)
    ((first | (go_at_call 37; refine HWB.out.mono ?_; rintro e w5 ⟨H5, x5, rfl, k5, m5, e5⟩; have hT2 := HSS.out _ (HSU.out _ _ _ (KB.out.trans k5) m5); have K5 := Lib.hid (KB.out.trans k5); have M5 := Lib.hid m5; have E5 := Lib.hid e5; clear k5 m5 e5) | (go_at_call 36; refine (at_any M5.out ((HT.out.le K1.out).le K5.out) E5.out).mono ?_; rintro e w6 ⟨rfl, H6, k6, m6⟩; have hT3 := HSS.out _ (HSU.out _ _ _ (K5.out.trans k6) m6); have K6 := Lib.hid k6; have M6 := Lib.hid m6; clear k6 m6)))
   all_goals
    go_wp2
    go_end0
    exact ⟨rfl, H6, (K1.out.trans K5.out).trans K6.out, M6.out⟩
set_option maxRecDepth 100000 in
set_option maxHeartbeats 4000000 in
theorem take_hand {w0 : World} {mb : Nat} {H : Mem} {s : St} {w : World} (h : MS w0 mb H s w) {v : Val} {l : List Value} (hv : VV H s.cells.length v l) {arms : List Arm} {en : Env} {fb : Nat} {rv ev : Value} (hr : HR H fb 0 [rv, ev]) (hA : ArmsA H arms rv) (hho : hdOk arms = true) (he : EV H s.cells.length en ev) :
  Calls Tryz.prog 183 #[pt fb, pt mb, .agg l.toArray] w (MEnd w0 mb H (takeH (arms, en) v s)) := by
 obtain ⟨nm, x, xs, bd, rest, rfl⟩ : ∃ nm x xs bd rest, arms = (nm, x :: xs, bd) :: rest := by
  match arms, hho with
  | (nm, x :: xs, bd) :: rest, _ => exact ⟨nm, x, xs, bd, rest, rfl⟩
 have e : takeH ((nm, x :: xs, bd) :: rest, en) v s = s.goes bd ((x, v) :: en) := rfl
 rw [e]
 clear e hho
 obtain ⟨⟨A, d, rfl, _, _, hAA⟩, harm⟩ := hA
 obtain ⟨ag, ao, rfl⟩ := hAA (by simp)
 obtain ⟨vv, _, hv2, ⟨⟨VA, vc, rfl, _, _, hVA⟩, hvs⟩, htb⟩ := harm 0 _ rfl
 obtain ⟨vg, vo, rfl⟩ := hVA (by simp)
 have htb : TmA H ag (ao + 2) bd := by simpa [blk, off] using htb
 have hv2 : HC H ⟨ag, ao + 1, none⟩ (.slice (some ⟨vg, vo, none⟩) (x :: xs).length vc) := by simpa [blk, off] using hv2
 have hvx : HC H ⟨vg, vo, none⟩ (.string (ba x)) := by simpa [blk, off] using hvs 0 x rfl
 obtain ⟨vn, hvn⟩ : ∃ vn, vn = (x :: xs).length := ⟨_, rfl⟩
 obtain ⟨an, han⟩ : ∃ an, an = ((nm, x :: xs, bd) :: rest).length := ⟨_, rfl⟩
 have hvn0 : 0 < vn := by rw [hvn]; simp
 have han0 : 0 < an := by rw [han]; simp
 have hvni : (0 : Int) < (vn : Int) := by omega
 have hani : (0 : Int) < (an : Int) := by omega
 rw [← hvn] at hv2
 have g0h := hr 0 _ rfl
 rw [← han] at g0h
 clear hvn han harm hvs hAA hVA
 obtain ⟨k, n, c, f, rfl, hf⟩ := hv.four
 have hkp := h.alloc (boxO k n c f)
 have hbx : HR (ins H w.heap.size (boxO k n c f)) w.heap.size 0 [.int .i64 k, .int .i64 n, .pointer c, f] := ins_row _ _ _ _
 have hsu : ∀ (H' : Mem) (S : St) (W : World), MLe H H' → MS w0 mb H' S W → Sub H W := fun H' S W k m b o hb => m.sub b o (k b o hb)
 obtain ⟨H1, hH1⟩ : ∃ H1, H1 = ins H w.heap.size (boxO k n c f) := ⟨_, rfl⟩
 rw [← hH1] at hkp hbx
 obtain ⟨k1, hm⟩ := hkp
 clear hH1
 have hv1 := hv.le k1 (Nat.le_refl s.cells.length)
 obtain ⟨W, hW⟩ : ∃ W, W = w.alloc (boxO k n c f) := ⟨_, rfl⟩
 rw [← hW] at hm
 have p0 := (hbx 0 _ rfl).cell hm.sub
 have p1 := (hbx 1 _ rfl).cell hm.sub
 have p2 := (hbx 2 _ rfl).cell hm.sub
 have p3 := (hbx 3 _ rfl).cell hm.sub
 have HW := Lib.hid hW
 obtain ⟨a, rfl⟩ := he.ptr
 have g0 : W.cell? ⟨fb, 0, none⟩ = some (.slice (some ⟨ag, ao, none⟩) an d) := (g0h.le k1).cell hm.sub
 have u0 := g0
 rw [hW] at u0
 have hwi := with_any hm.drew (nm := x) (he.le k1 (Nat.le_refl _)) hv1
 have hs1 : ∀ V, Sub H1 V → (V.cell? ⟨w.heap.size, 0, none⟩ = some (.int .i64 k) ∧ V.cell? ⟨w.heap.size, 1, none⟩ = some (.int .i64 n) ∧ V.cell? ⟨w.heap.size, 2, none⟩ = some (.pointer c) ∧ V.cell? ⟨w.heap.size, 3, none⟩ = some f) ∧ V.cell? ⟨fb, 1, none⟩ = some (.pointer a) ∧ V.cell? ⟨ag, ao + 1, none⟩ = some (.slice (some ⟨vg, vo, none⟩) vn vc) ∧ V.cell? ⟨vg, vo, none⟩ = some (.string (ba x)) := fun V hV => ⟨⟨(hbx 0 _ rfl).cell hV, (hbx 1 _ rfl).cell hV, (hbx 2 _ rfl).cell hV, (hbx 3 _ rfl).cell hV⟩, ((hr 1 _ rfl).le k1).cell hV, (hv2.le k1).cell hV, (hvx.le k1).cell hV⟩
 have hsu1 : ∀ (H' : Mem) (S : St) (W : World), MLe H1 H' → MS w0 mb H' S W → Sub H1 W := fun H' S W k m b o hb => m.sub b o (k b o hb)
 have HS0 := Lib.hid (hs1 W.drew hm.sub)
 have HSS := Lib.hid hs1
 have HSU := Lib.hid hsu1
 have HWI := Lib.hid hwi
 have K1 := Lib.hid k1
 have HT := Lib.hid htb
 clear h hv hm hv1 hwi hs1 hsu1 hsu k1 hr htb he hbx hW g0h hv2 hvx
 unfold pt boxO at *
 rcases hf with rfl | ⟨ft, fx, rfl⟩
 ·go_enter Tryz.func183, Tryz.ntmps183
  go_wp2_with fail
  rw [← HW.out]
  go_wp2_with fail
  go_region_held3 (fun VV => (VV.cell? ⟨w.heap.size, 0, none⟩ = some (.int .i64 k) ∧ VV.cell? ⟨w.heap.size, 1, none⟩ = some (.int .i64 n) ∧ VV.cell? ⟨w.heap.size, 2, none⟩ = some (.pointer c) ∧ VV.cell? ⟨w.heap.size, 3, none⟩ = some .nilIface) ∧ VV.cell? ⟨fb, 1, none⟩ = some (.pointer a) ∧ VV.cell? ⟨ag, ao + 1, none⟩ = some (.slice (some ⟨vg, vo, none⟩) vn vc) ∧ VV.cell? ⟨vg, vo, none⟩ = some (.string (ba x)))
   (first | with_reducible exact HS0.out | with_reducible exact hS2 | with_reducible exact hS3)
   ((first | (go_at_call 37; refine HWI.out.mono ?_; rintro e w3 ⟨H3, x3, rfl, k3, m3, e3⟩; have hS2 := HSS.out _ (HSU.out _ _ _ k3 m3); have K3 := Lib.hid k3; have M3 := Lib.hid m3; have E3 := Lib.hid e3; clear k3 m3 e3) | (go_at_call 36; refine (at_any M3.out ((HT.out.le K1.out).le K3.out) E3.out).mono ?_; rintro e w4 ⟨rfl, H4, k4, m4⟩; have hS3 := HSS.out _ (HSU.out _ _ _ (K3.out.trans k4) m4); have K4 := Lib.hid k4; have M4 := Lib.hid m4; clear k4 m4)))
  all_goals
   go_wp2
   go_end0
   exact ⟨rfl, H4, (K1.out.trans K3.out).trans K4.out, M4.out⟩
 ·go_enter Tryz.func183, Tryz.ntmps183
  go_wp2_with fail
  rw [← HW.out]
  go_wp2_with fail
  go_region_held3 (fun VV => (VV.cell? ⟨w.heap.size, 0, none⟩ = some (.int .i64 k) ∧ VV.cell? ⟨w.heap.size, 1, none⟩ = some (.int .i64 n) ∧ VV.cell? ⟨w.heap.size, 2, none⟩ = some (.pointer c) ∧ VV.cell? ⟨w.heap.size, 3, none⟩ = some (.iface ft fx)) ∧ VV.cell? ⟨fb, 1, none⟩ = some (.pointer a) ∧ VV.cell? ⟨ag, ao + 1, none⟩ = some (.slice (some ⟨vg, vo, none⟩) vn vc) ∧ VV.cell? ⟨vg, vo, none⟩ = some (.string (ba x)))
   (first | with_reducible exact HS0.out | with_reducible exact hS2 | with_reducible exact hS3)
   ((first | (go_at_call 37; refine HWI.out.mono ?_; rintro e w3 ⟨H3, x3, rfl, k3, m3, e3⟩; have hS2 := HSS.out _ (HSU.out _ _ _ k3 m3); have K3 := Lib.hid k3; have M3 := Lib.hid m3; have E3 := Lib.hid e3; clear k3 m3 e3) | (go_at_call 36; refine (at_any M3.out ((HT.out.le K1.out).le K3.out) E3.out).mono ?_; rintro e w4 ⟨rfl, H4, k4, m4⟩; have hS3 := HSS.out _ (HSU.out _ _ _ (K3.out.trans k4) m4); have K4 := Lib.hid k4; have M4 := Lib.hid m4; clear k4 m4)))
  all_goals
   go_wp2
   go_end0
   exact ⟨rfl, H4, (K1.out.trans K3.out).trans K4.out, M4.out⟩
end So
end Go.Proofs.YtmodmojocclmaaaGreatDoor.K
