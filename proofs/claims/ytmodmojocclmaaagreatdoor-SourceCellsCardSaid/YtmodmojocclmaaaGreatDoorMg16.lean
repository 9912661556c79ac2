/- The machine of package source: an operation is asked for. -/
import Derived.Test.YtmodmojocclmaaaGreatDoorMg15
import Derived.BigQuiet
namespace Go.Proofs.YtmodmojocclmaaaGreatDoor.K
open Go Go.RowKit
namespace So

theorem MR.konts {w0 : World} {mb : Nat} {H : Mem} {s : St} {tv ev v0 v1 v2 v3 fv hv cv iv lv : Value} {w : World} (h : MR w0 mb H s tv ev v0 v1 v2 v3 fv hv cv iv lv w) :
  MS w0 mb H { s with konts := s.konts + 1 } (w.setCell ⟨mb, 13, none⟩ (.int .i64 ((s.konts : Int) + 1))) := by
 have hl := h.lies.set 13 (.int .i64 ((s.konts : Int) + 1))
 refine ⟨_, _, _, _, _, _, _, _, _, _, _, h.core.set 13 _, ?_, h.at_, h.above, h.hs, h.input⟩
 rw [show ((s.konts : Int) + 1) = ((s.konts + 1 : Nat) : Int) by omega] at hl ⊢
 exact hl
theorem cut_no {w0 : World} {mb : Nat} {H : Mem} {s : St} {w : World} (h : MS w0 mb H s w) (op : Str) (hb : s.hs.length ≤ 1000000) (hc : cut op s.above s.hs [] = none) :
  Calls Tryz.prog 189 #[.pointer (some ⟨mb, 6, none⟩), .string (ba op)] w fun e w' => e = .returned (.tuple #[.slice none 0 0, .pointer none]) ∧ MS w0 mb H s w' :=
 (cut_any h op hb).mono fun e w' h => by
  rcases h with ⟨_, h1, h2⟩ | ⟨_, _, _, _, _, _, _, _, hn, _⟩
  ·exact ⟨h1, h2⟩
  ·rw [hc] at hn; cases hn
def CutSome (w0 : World) (mb : Nat) (H : Mem) (s : St) (ps : List Part) (hd : Hd) (c : Arm) (be : List Frame) (hs : List (Hd × List Frame)) (e : Ending) (w' : World) : Prop :=
 ∃ V n q cb co, e = .returned (.tuple #[.slice V n q, ptO cb co]) ∧ CutYes w0 mb H s ps hd c be hs (.slice V n q) cb co w'
theorem cut_some {w0 : World} {mb : Nat} {H : Mem} {s : St} {w : World} (h : MS w0 mb H s w) (op : Str) (hb : s.hs.length ≤ 1000000) {ps : List Part} {hd : Hd} {c : Arm} {be : List Frame} {hs : List (Hd × List Frame)} (hc : cut op s.above s.hs [] = some (ps, hd, c, be, hs)) :
  Calls Tryz.prog 189 #[.pointer (some ⟨mb, 6, none⟩), .string (ba op)] w (CutSome w0 mb H s ps hd c be hs) :=
 (cut_any h op hb).mono fun e w' h => by
  rcases h with ⟨hn, _⟩ | ⟨_, _, _, _, _, sv, cb, co, hn, h1, h2⟩
  ·rw [hc] at hn; cases hn
  ·rw [hc] at hn
   cases hn
   obtain ⟨V, q, rfl⟩ : ∃ V q, sv = .slice V ps.length q := by
    obtain ⟨_, _, _, _, ⟨A, q, h3, _⟩, _⟩ := h2
    exact ⟨A, q, h3⟩
   exact ⟨V, _, q, cb, co, h1, h2⟩
set_option maxRecDepth 100000 in
set_option maxHeartbeats 4000000 in
theorem take_ask_no {w0 : World} {mb : Nat} {H : Mem} {s : St} {w : World} (h : MS w0 mb H s w) {v : Val} {l : List Value} (hv : VV H s.cells.length v l) {op : Str} {fb : Nat} (hr : HR H fb 0 [.string (ba op)]) (hb : s.hs.length ≤ 1000000) (hc : cut op s.above s.hs [] = none) :
  Calls Tryz.prog 188 #[pt fb, pt mb, .agg l.toArray] w (MEnd w0 mb H (s.ends 4)) := by
 obtain ⟨k, n, c, f, rfl, hf⟩ := hv.four
 have hkp := h.alloc (boxO k n c f)
 have hbx : HR (ins H w.heap.size (boxO k n c f)) w.heap.size 0 [.int .i64 k, .int .i64 n, .pointer c, f] := ins_row _ _ _ _
 have hsu : ∀ (H' : Mem) (S : St) (W : World), MLe H H' → MS w0 mb H' S W → Sub H W := fun H' S W k m b o hb => m.sub b o (k b o hb)
 obtain ⟨H1, hH1⟩ : ∃ H1, H1 = ins H w.heap.size (boxO k n c f) := ⟨_, rfl⟩
 rw [← hH1] at hkp hbx
 obtain ⟨k1, hm⟩ := hkp
 clear hH1
 have hv1 := hv.le k1 (Nat.le_refl s.cells.length)
 obtain ⟨W, hW⟩ : ∃ W, W = w.alloc (boxO k n c f) := ⟨_, rfl⟩
 rw [← hW] at hm
 have p0 := (hbx 0 _ rfl).cell hm.sub
 have p1 := (hbx 1 _ rfl).cell hm.sub
 have p2 := (hbx 2 _ rfl).cell hm.sub
 have p3 := (hbx 3 _ rfl).cell hm.sub
 have HW := Lib.hid hW
 have g0 := ((hr 0 _ rfl).le k1).cell hm.sub
 have hcu := cut_no hm.drew op hb hc
 have hs0 : ∀ V, Sub H1 V → V.cell? ⟨fb, 0, none⟩ = some (.string (ba op)) := fun V hV => ((hr 0 _ rfl).le k1).cell hV
 have HS0 := Lib.hid (hs0 W.drew hm.sub)
 have HSS := Lib.hid hs0
 have HCU := Lib.hid hcu
 have K1 := Lib.hid k1
 clear h hv hm hv1 hsu k1 hbx hW hr hcu hb hc hs0
 unfold pt boxO at *
 rcases hf with rfl | ⟨ft, fx, rfl⟩
 ·go_enter Tryz.func188, Tryz.ntmps188
  go_wp2_with fail
  rw [← HW.out]
  go_wp2_with fail
  go_region_held3 (fun VV => VV.cell? ⟨fb, 0, none⟩ = some (.string (ba op)))
   (first | with_reducible exact HS0.out | with_reducible exact hS2)
   ((go_at_call 189; refine HCU.out.mono ?_; rintro e w3 ⟨rfl, m3⟩; have hS2 := HSS.out _ m3.sub; have M3 := Lib.hid m3; clear m3))
  all_goals
   have HE := Lib.hid (end_any M3.out 4)
   go_wp2_with fail
   refine HE.out.mono ?_
   rintro e w5 ⟨rfl, H5, k5, m5⟩
   go_wp2
   exact bodyPost_ret (results_none rfl _ _ _) rfl ⟨rfl, H5, K1.out.trans k5, m5⟩
 ·go_enter Tryz.func188, Tryz.ntmps188
  go_wp2_with fail
  rw [← HW.out]
  go_wp2_with fail
  go_region_held3 (fun VV => VV.cell? ⟨fb, 0, none⟩ = some (.string (ba op)))
   (first | with_reducible exact HS0.out | with_reducible exact hS2)
   ((go_at_call 189; refine HCU.out.mono ?_; rintro e w3 ⟨rfl, m3⟩; have hS2 := HSS.out _ m3.sub; have M3 := Lib.hid m3; clear m3))
  all_goals
   have HE := Lib.hid (end_any M3.out 4)
   go_wp2_with fail
   refine HE.out.mono ?_
   rintro e w5 ⟨rfl, H5, k5, m5⟩
   go_wp2
   exact bodyPost_ret (results_none rfl _ _ _) rfl ⟨rfl, H5, K1.out.trans k5, m5⟩
set_option maxRecDepth 100000 in
set_option maxHeartbeats 4000000 in
theorem take_ask_yes {w0 : World} {mb : Nat} {H : Mem} {s : St} {w : World} (h : MS w0 mb H s w) {v : Val} {l : List Value} (hv : VV H s.cells.length v l) {op : Str} {fb : Nat} (hr : HR H fb 0 [.string (ba op)]) (hb : s.hs.length ≤ 1000000) (hko : s.konts ≤ 1000000) {ps : List Part} {hd : Hd} {cl : Arm} {be : List Frame} {hss : List (Hd × List Frame)} (hc : cut op s.above s.hs [] = some (ps, hd, cl, be, hss)) :
  Calls Tryz.prog 188 #[pt fb, pt mb, .agg l.toArray] w (MEnd w0 mb H ({ (s.goes cl.2.2 ((nmD cl.2.1 1, .res ps) :: (nmD cl.2.1 0, v) :: hd.2)) with above := be, hs := hss, konts := s.konts + 1 })) := by
 obtain ⟨k, n, c, f, rfl, hf⟩ := hv.four
 have hkp := h.alloc (boxO k n c f)
 have hbx : HR (ins H w.heap.size (boxO k n c f)) w.heap.size 0 [.int .i64 k, .int .i64 n, .pointer c, f] := ins_row _ _ _ _
 have hsu : ∀ (H' : Mem) (S : St) (W : World), MLe H H' → MS w0 mb H' S W → Sub H W := fun H' S W k m b o hb => m.sub b o (k b o hb)
 obtain ⟨H1, hH1⟩ : ∃ H1, H1 = ins H w.heap.size (boxO k n c f) := ⟨_, rfl⟩
 rw [← hH1] at hkp hbx
 obtain ⟨k1, hm⟩ := hkp
 clear hH1
 have hv1 := hv.le k1 (Nat.le_refl s.cells.length)
 obtain ⟨W, hW⟩ : ∃ W, W = w.alloc (boxO k n c f) := ⟨_, rfl⟩
 rw [← hW] at hm
 have p0 := (hbx 0 _ rfl).cell hm.sub
 have p1 := (hbx 1 _ rfl).cell hm.sub
 have p2 := (hbx 2 _ rfl).cell hm.sub
 have p3 := (hbx 3 _ rfl).cell hm.sub
 have HW := Lib.hid hW
 have g0 := ((hr 0 _ rfl).le k1).cell hm.sub
 have hcu := cut_some hm.drew op hb hc
 have hs0 : ∀ V, Sub H1 V → V.cell? ⟨fb, 0, none⟩ = some (.string (ba op)) := fun V hV => ((hr 0 _ rfl).le k1).cell hV
 have HS0 := Lib.hid (hs0 W.drew hm.sub)
 have HSS0 := Lib.hid hs0
 have HCU := Lib.hid hcu
 have HCC := Lib.hid hc
 have K1 := Lib.hid k1
 have HBX := Lib.hid hbx
 have HV1 := Lib.hid hv1
 have HKO := Lib.hid hko
 clear h hv hm hv1 hsu k1 hbx hW hr hcu hb hc hko hs0
 unfold pt boxO at *
 rcases hf with rfl | ⟨ft, fx, rfl⟩
 ·go_enter Tryz.func188, Tryz.ntmps188
  go_wp2_with fail
  rw [← HW.out]
  go_wp2_with fail
  go_region_held3 (fun VV => VV.cell? ⟨fb, 0, none⟩ = some (.string (ba op)))
   (first | with_reducible exact HS0.out | with_reducible exact hS2)
   ((go_at_call 189; refine HCU.out.mono ?_; rintro e w3 ⟨V3, n3, cap, cb, co, rfl, cy3⟩; have hS2 := HSS0.out _ (fun x y hx => by obtain ⟨H9, _, k9, m9, _⟩ := cy3; exact m9.sub x y (k9 _ _ hx)); have CY3 := Lib.hid cy3; clear cy3))
  all_goals
   obtain ⟨H3, zs, k3, m3, hsl, hrow, hpa, ⟨ps', ab, hps⟩, vv, hcv, hcs, hct, hc2⟩ := CY3.out
   clear CY3
   obtain ⟨A, cap2, hsv, hcap, hln, hA⟩ := hsl
   injection hsv with e1 e2 e3
   subst e1 e2 e3
   have hpl : ps.length = ps'.length + 1 := by rw [hps]; simp
   obtain ⟨m, hm⟩ : ∃ m, m = ps'.length := ⟨_, rfl⟩
   rw [← hm] at hpl
   obtain ⟨g, so, rfl⟩ := hA (by omega)
   obtain ⟨z, hz⟩ : ∃ z, zs[m]? = some z := ⟨_, List.getElem?_eq_getElem (by rw [hpa.1]; omega)⟩
   have hlast : ps[m]? = some (ab, hd) := by rw [hps, hm, List.getElem?_append_right (Nat.le_refl _)]; simp
   have hhd := (hpa.2 m _ z hlast hz).2
   obtain ⟨hb2, hz2⟩ := hhd.ptr
   rw [hz2] at hhd
   obtain ⟨rv, ev2, hrh, _, _, heh⟩ := hhd.open
   obtain ⟨a, rfl⟩ := heh.ptr
   obtain ⟨⟨VA, vc, rfl, _, _, hVA⟩, hvs⟩ := hcs
   rw [hc2] at hcv hVA hvs
   obtain ⟨vg, vo, rfl⟩ := hVA (by decide)
   obtain ⟨x0, x1, hx⟩ : ∃ x0 x1, cl.2.1 = [x0, x1] := by
    match cl.2.1, hc2 with
    | [x0, x1], _ => exact ⟨x0, x1, rfl⟩
   have hx0 : HC H3 ⟨vg, vo, none⟩ (.string (ba x0)) := hvs 0 x0 (by rw [hx]; rfl)
   have hx1 : HC H3 ⟨vg, vo + 1, none⟩ (.string (ba x1)) := hvs 1 x1 (by rw [hx]; rfl)
   have hz3 : HC H3 ⟨g, so + m * 2 + 1, none⟩ (.pointer (some ⟨hb2, 0, none⟩)) := by
    have h := hrow m z hz 1 _ rfl
    rw [hz2] at h
    exact h
   have hz4 : HC H3 ⟨hb2, 1, none⟩ (.pointer a) := hrh 1 _ rfl
   have hres : VV H3 s.cells.length (.res ps) [.int .i64 6, .int .i64 0, .pointer none, .iface 292 (.slice (some ⟨g, so, none⟩) ps.length cap)] :=
    .res ps _ (fun i => .pointer ((zs[i]?.getD (none, none)).1)) (fun i => .pointer ((zs[i]?.getD (none, none)).2)) ⟨_, _, rfl, hcap, hln, fun _ => ⟨_, _, rfl⟩⟩ (fun i hi => by
     obtain ⟨y, hy⟩ : ∃ y, zs[i]? = some y := ⟨_, List.getElem?_eq_getElem (by rw [hpa.1]; exact hi)⟩
     have h := hrow i y hy
     rw [hy]
     exact h) (fun i p hp => by
     obtain ⟨y, hy⟩ : ∃ y, zs[i]? = some y := ⟨_, List.getElem?_eq_getElem (by rw [hpa.1]; exact (List.getElem?_eq_some_iff.1 hp).1)⟩
     rw [hy]
     exact (hpa.2 i p y hp hy).1) (fun i p hp => by
     obtain ⟨y, hy⟩ : ∃ y, zs[i]? = some y := ⟨_, List.getElem?_eq_getElem (by rw [hpa.1]; exact (List.getElem?_eq_some_iff.1 hp).1)⟩
     rw [hy]
     exact (hpa.2 i p y hp hy).2)
   rw [hpl] at hres hcap ⊢
   have hnm0 : nmD cl.2.1 0 = x0 := by rw [hx]; rfl
   have hnm1 : nmD cl.2.1 1 = x1 := by rw [hx]; rfl
   have HN0 := Lib.hid hnm0
   have HN1 := Lib.hid hnm1
   obtain ⟨tv3, ev3, v03, v13, v23, v33, fv3, hv3, cv3, iv3, lv3, m3⟩ := m3
   have z13 : w3.cell? ⟨mb, 13, none⟩ = some (.int .i64 (s.konts : Int)) := m3.lies.cell 13
   have f13 := m3.lies.free 13
   have hk0 : (0 : Int) ≤ (s.konts : Int) := by omega
   have hk1 : (s.konts : Int) ≤ 1000000 := by have := HKO.out; omega
   have hms := m3.konts
   obtain ⟨w4, hw4⟩ : ∃ w4, w4 = w3.setCell ⟨mb, 13, none⟩ (.int .i64 ((s.konts : Int) + 1)) := ⟨_, rfl⟩
   have hms : MS w0 mb H3 { s with above := be, hs := hss, konts := s.konts + 1 } w4 := by rw [hw4]; exact hms
   have hs1 : ∀ V, Sub H3 V → (V.cell? ⟨w.heap.size, 0, none⟩ = some (.int .i64 k) ∧ V.cell? ⟨w.heap.size, 1, none⟩ = some (.int .i64 n) ∧ V.cell? ⟨w.heap.size, 2, none⟩ = some (.pointer c) ∧ V.cell? ⟨w.heap.size, 3, none⟩ = some .nilIface) ∧ (V.cell? ⟨vg, vo, none⟩ = some (.string (ba x0)) ∧ V.cell? ⟨vg, vo + 1, none⟩ = some (.string (ba x1)) ∧ V.cell? ⟨cb, co + 1, none⟩ = some (.slice (some ⟨vg, vo, none⟩) 2 vc)) ∧ V.cell? ⟨g, so + m * 2 + 1, none⟩ = some (.pointer (some ⟨hb2, 0, none⟩)) ∧ V.cell? ⟨hb2, 1, none⟩ = some (.pointer a) := fun V hV => ⟨⟨((HBX.out 0 _ rfl).le k3).cell hV, ((HBX.out 1 _ rfl).le k3).cell hV, ((HBX.out 2 _ rfl).le k3).cell hV, ((HBX.out 3 _ rfl).le k3).cell hV⟩, ⟨hx0.cell hV, hx1.cell hV, hcv.cell hV⟩, hz3.cell hV, hz4.cell hV⟩
   have hsu : ∀ (H' : Mem) (S : St) (W : World), MLe H3 H' → MS w0 mb H' S W → Sub H3 W := fun H' S W k m b o hb => m.sub b o (k b o hb)
   have HS0 := Lib.hid (hs1 w4.drew hms.drew.sub)
   have HSS := Lib.hid hs1
   have HSU := Lib.hid hsu
   have HWI := Lib.hid (with_any hms.drew (nm := x0) heh (HV1.out.le k3 (Nat.le_refl _)))
   have HMS := Lib.hid hms
   have HRES := Lib.hid hres
   have HCT := Lib.hid hct
   have K3 := Lib.hid k3
   have HW4 := Lib.hid hw4
   have hmc : m < cap := by omega
   have hmi : (m : Int) < (m : Int) + 1 := by omega
   have hm0 : (0 : Int) ≤ (m : Int) := by omega
   have hm1 : m + 1 ≤ 2000000 := by omega
   have hm2 : (m : Int) + 1 ≤ 2000000 := by omega
   have hwm : IntKind.i64.wrap (m : Int) = (m : Int) := IntWalk.i64_in _ (by omega)
   have hwm1 : IntKind.i64.wrap ((m : Int) + 1) = (m : Int) + 1 := IntWalk.i64_in _ (by omega)
   have hmm : m < m + 1 := by omega
   clear hA hln hps hpl hz hlast hhd hz2 hrh heh hvs hVA hx hx0 hx1 hz3 hz4 hres hnm0 hnm1 m3 hms hs1 hsu hw4 k3 hrow hpa hct hcv hm hc2 hcap
   unfold ptO
   go_wp2_with fail
   rw [← HW4.out]
   go_wp2_with fail
   go_region_held3 (fun VV => (VV.cell? ⟨w.heap.size, 0, none⟩ = some (.int .i64 k) ∧ VV.cell? ⟨w.heap.size, 1, none⟩ = some (.int .i64 n) ∧ VV.cell? ⟨w.heap.size, 2, none⟩ = some (.pointer c) ∧ VV.cell? ⟨w.heap.size, 3, none⟩ = some .nilIface) ∧ (VV.cell? ⟨vg, vo, none⟩ = some (.string (ba x0)) ∧ VV.cell? ⟨vg, vo + 1, none⟩ = some (.string (ba x1)) ∧ VV.cell? ⟨cb, co + 1, none⟩ = some (.slice (some ⟨vg, vo, none⟩) 2 vc)) ∧ VV.cell? ⟨g, so + m * 2 + 1, none⟩ = some (.pointer (some ⟨hb2, 0, none⟩)) ∧ VV.cell? ⟨hb2, 1, none⟩ = some (.pointer a))
    (first | with_reducible exact HS0.out | with_reducible exact hS5)
    ((go_at_call 37; refine HWI.out.mono ?_; rintro e w5 ⟨H5, x5, rfl, k5, m5, e5⟩; have hS5 := HSS.out _ (HSU.out _ _ _ k5 m5); have K5 := Lib.hid k5; have M5 := Lib.hid m5; have E5 := Lib.hid e5; clear k5 m5 e5))
   all_goals
    obtain ⟨a5, rfl⟩ := E5.out.ptr
    have HS6 := Lib.hid (HSS.out w5.drew (HSU.out _ _ _ K5.out M5.out.drew))
    have HFU := Lib.hid (fun_ms M5.out.drew (HRES.out.le K5.out (Nat.le_refl _)))
    go_wp2_with fail
    go_region_held3 (fun VV => (VV.cell? ⟨w.heap.size, 0, none⟩ = some (.int .i64 k) ∧ VV.cell? ⟨w.heap.size, 1, none⟩ = some (.int .i64 n) ∧ VV.cell? ⟨w.heap.size, 2, none⟩ = some (.pointer c) ∧ VV.cell? ⟨w.heap.size, 3, none⟩ = some .nilIface) ∧ (VV.cell? ⟨vg, vo, none⟩ = some (.string (ba x0)) ∧ VV.cell? ⟨vg, vo + 1, none⟩ = some (.string (ba x1)) ∧ VV.cell? ⟨cb, co + 1, none⟩ = some (.slice (some ⟨vg, vo, none⟩) 2 vc)) ∧ VV.cell? ⟨g, so + m * 2 + 1, none⟩ = some (.pointer (some ⟨hb2, 0, none⟩)) ∧ VV.cell? ⟨hb2, 1, none⟩ = some (.pointer a))
     (first | with_reducible exact HS6.out | with_reducible exact hS7 | with_reducible exact hS8 | with_reducible exact hS9)
     ((first | (go_at_call 35; refine HFU.out.mono ?_; rintro e w7 ⟨x7, rfl, m7, _, hx7⟩; have hS7 := HSS.out _ (HSU.out _ _ _ K5.out m7); have M7 := Lib.hid m7; have X7 := Lib.hid hx7; clear m7 hx7) | (go_at_call 37; refine (with_agg M7.out E5.out X7.out).mono ?_; rintro e w8 ⟨H8, x8, rfl, k8, m8, e8⟩; have hS8 := HSS.out _ (HSU.out _ _ _ (K5.out.trans k8) m8); have K8 := Lib.hid (K5.out.trans k8); have M8 := Lib.hid m8; have E8 := Lib.hid e8; clear k8 m8 e8) | (go_at_call 36; refine (at_any M8.out (HCT.out.le K8.out) E8.out).mono ?_; rintro e w9 ⟨rfl, H9, k9, m9⟩; have hS9 := HSS.out _ (HSU.out _ _ _ (K8.out.trans k9) m9); have K9 := Lib.hid (K8.out.trans k9); have M9 := Lib.hid m9; clear k9 m9)))
    all_goals
     go_wp2
     go_end0
     exact ⟨rfl, H9, (K1.out.trans K3.out).trans K9.out, by rw [HN0.out, HN1.out]; exact M9.out⟩
 ·go_enter Tryz.func188, Tryz.ntmps188
  go_wp2_with fail
  rw [← HW.out]
  go_wp2_with fail
  go_region_held3 (fun VV => VV.cell? ⟨fb, 0, none⟩ = some (.string (ba op)))
   (first | with_reducible exact HS0.out | with_reducible exact hS2)
   ((go_at_call 189; refine HCU.out.mono ?_; rintro e w3 ⟨V3, n3, cap, cb, co, rfl, cy3⟩; have hS2 := HSS0.out _ (fun x y hx => by obtain ⟨H9, _, k9, m9, _⟩ := cy3; exact m9.sub x y (k9 _ _ hx)); have CY3 := Lib.hid cy3; clear cy3))
  all_goals
   obtain ⟨H3, zs, k3, m3, hsl, hrow, hpa, ⟨ps', ab, hps⟩, vv, hcv, hcs, hct, hc2⟩ := CY3.out
   clear CY3
   obtain ⟨A, cap2, hsv, hcap, hln, hA⟩ := hsl
   injection hsv with e1 e2 e3
   subst e1 e2 e3
   have hpl : ps.length = ps'.length + 1 := by rw [hps]; simp
   obtain ⟨m, hm⟩ : ∃ m, m = ps'.length := ⟨_, rfl⟩
   rw [← hm] at hpl
   obtain ⟨g, so, rfl⟩ := hA (by omega)
   obtain ⟨z, hz⟩ : ∃ z, zs[m]? = some z := ⟨_, List.getElem?_eq_getElem (by rw [hpa.1]; omega)⟩
   have hlast : ps[m]? = some (ab, hd) := by rw [hps, hm, List.getElem?_append_right (Nat.le_refl _)]; simp
   have hhd := (hpa.2 m _ z hlast hz).2
   obtain ⟨hb2, hz2⟩ := hhd.ptr
   rw [hz2] at hhd
   obtain ⟨rv, ev2, hrh, _, _, heh⟩ := hhd.open
   obtain ⟨a, rfl⟩ := heh.ptr
   obtain ⟨⟨VA, vc, rfl, _, _, hVA⟩, hvs⟩ := hcs
   rw [hc2] at hcv hVA hvs
   obtain ⟨vg, vo, rfl⟩ := hVA (by decide)
   obtain ⟨x0, x1, hx⟩ : ∃ x0 x1, cl.2.1 = [x0, x1] := by
    match cl.2.1, hc2 with
    | [x0, x1], _ => exact ⟨x0, x1, rfl⟩
   have hx0 : HC H3 ⟨vg, vo, none⟩ (.string (ba x0)) := hvs 0 x0 (by rw [hx]; rfl)
   have hx1 : HC H3 ⟨vg, vo + 1, none⟩ (.string (ba x1)) := hvs 1 x1 (by rw [hx]; rfl)
   have hz3 : HC H3 ⟨g, so + m * 2 + 1, none⟩ (.pointer (some ⟨hb2, 0, none⟩)) := by
    have h := hrow m z hz 1 _ rfl
    rw [hz2] at h
    exact h
   have hz4 : HC H3 ⟨hb2, 1, none⟩ (.pointer a) := hrh 1 _ rfl
   have hres : VV H3 s.cells.length (.res ps) [.int .i64 6, .int .i64 0, .pointer none, .iface 292 (.slice (some ⟨g, so, none⟩) ps.length cap)] :=
    .res ps _ (fun i => .pointer ((zs[i]?.getD (none, none)).1)) (fun i => .pointer ((zs[i]?.getD (none, none)).2)) ⟨_, _, rfl, hcap, hln, fun _ => ⟨_, _, rfl⟩⟩ (fun i hi => by
     obtain ⟨y, hy⟩ : ∃ y, zs[i]? = some y := ⟨_, List.getElem?_eq_getElem (by rw [hpa.1]; exact hi)⟩
     have h := hrow i y hy
     rw [hy]
     exact h) (fun i p hp => by
     obtain ⟨y, hy⟩ : ∃ y, zs[i]? = some y := ⟨_, List.getElem?_eq_getElem (by rw [hpa.1]; exact (List.getElem?_eq_some_iff.1 hp).1)⟩
     rw [hy]
     exact (hpa.2 i p y hp hy).1) (fun i p hp => by
     obtain ⟨y, hy⟩ : ∃ y, zs[i]? = some y := ⟨_, List.getElem?_eq_getElem (by rw [hpa.1]; exact (List.getElem?_eq_some_iff.1 hp).1)⟩
     rw [hy]
     exact (hpa.2 i p y hp hy).2)
   rw [hpl] at hres hcap ⊢
   have hnm0 : nmD cl.2.1 0 = x0 := by rw [hx]; rfl
   have hnm1 : nmD cl.2.1 1 = x1 := by rw [hx]; rfl
   have HN0 := Lib.hid hnm0
   have HN1 := Lib.hid hnm1
   obtain ⟨tv3, ev3, v03, v13, v23, v33, fv3, hv3, cv3, iv3, lv3, m3⟩ := m3
   have z13 : w3.cell? ⟨mb, 13, none⟩ = some (.int .i64 (s.konts : Int)) := m3.lies.cell 13
   have f13 := m3.lies.free 13
   have hk0 : (0 : Int) ≤ (s.konts : Int) := by omega
   have hk1 : (s.konts : Int) ≤ 1000000 := by have := HKO.out; omega
   have hms := m3.konts
   obtain ⟨w4, hw4⟩ : ∃ w4, w4 = w3.setCell ⟨mb, 13, none⟩ (.int .i64 ((s.konts : Int) + 1)) := ⟨_, rfl⟩
   have hms : MS w0 mb H3 { s with above := be, hs := hss, konts := s.konts + 1 } w4 := by rw [hw4]; exact hms
   have hs1 : ∀ V, Sub H3 V → (V.cell? ⟨w.heap.size, 0, none⟩ = some (.int .i64 k) ∧ V.cell? ⟨w.heap.size, 1, none⟩ = some (.int .i64 n) ∧ V.cell? ⟨w.heap.size, 2, none⟩ = some (.pointer c) ∧ V.cell? ⟨w.heap.size, 3, none⟩ = some (.iface ft fx)) ∧ (V.cell? ⟨vg, vo, none⟩ = some (.string (ba x0)) ∧ V.cell? ⟨vg, vo + 1, none⟩ = some (.string (ba x1)) ∧ V.cell? ⟨cb, co + 1, none⟩ = some (.slice (some ⟨vg, vo, none⟩) 2 vc)) ∧ V.cell? ⟨g, so + m * 2 + 1, none⟩ = some (.pointer (some ⟨hb2, 0, none⟩)) ∧ V.cell? ⟨hb2, 1, none⟩ = some (.pointer a) := fun V hV => ⟨⟨((HBX.out 0 _ rfl).le k3).cell hV, ((HBX.out 1 _ rfl).le k3).cell hV, ((HBX.out 2 _ rfl).le k3).cell hV, ((HBX.out 3 _ rfl).le k3).cell hV⟩, ⟨hx0.cell hV, hx1.cell hV, hcv.cell hV⟩, hz3.cell hV, hz4.cell hV⟩
   have hsu : ∀ (H' : Mem) (S : St) (W : World), MLe H3 H' → MS w0 mb H' S W → Sub H3 W := fun H' S W k m b o hb => m.sub b o (k b o hb)
   have HS0 := Lib.hid (hs1 w4.drew hms.drew.sub)
   have HSS := Lib.hid hs1
   have HSU := Lib.hid hsu
   have HWI := Lib.hid (with_any hms.drew (nm := x0) heh (HV1.out.le k3 (Nat.le_refl _)))
   have HMS := Lib.hid hms
   have HRES := Lib.hid hres
   have HCT := Lib.hid hct
   have K3 := Lib.hid k3
   have HW4 := Lib.hid hw4
   have hmc : m < cap := by omega
   have hmi : (m : Int) < (m : Int) + 1 := by omega
   have hm0 : (0 : Int) ≤ (m : Int) := by omega
   have hm1 : m + 1 ≤ 2000000 := by omega
   have hm2 : (m : Int) + 1 ≤ 2000000 := by omega
   have hwm : IntKind.i64.wrap (m : Int) = (m : Int) := IntWalk.i64_in _ (by omega)
   have hwm1 : IntKind.i64.wrap ((m : Int) + 1) = (m : Int) + 1 := IntWalk.i64_in _ (by omega)
   have hmm : m < m + 1 := by omega
   clear hA hln hps hpl hz hlast hhd hz2 hrh heh hvs hVA hx hx0 hx1 hz3 hz4 hres hnm0 hnm1 m3 hms hs1 hsu hw4 k3 hrow hpa hct hcv hm hc2 hcap
   unfold ptO
   go_wp2_with fail
   rw [← HW4.out]
   go_wp2_with fail
   go_region_held3 (fun VV => (VV.cell? ⟨w.heap.size, 0, none⟩ = some (.int .i64 k) ∧ VV.cell? ⟨w.heap.size, 1, none⟩ = some (.int .i64 n) ∧ VV.cell? ⟨w.heap.size, 2, none⟩ = some (.pointer c) ∧ VV.cell? ⟨w.heap.size, 3, none⟩ = some (.iface ft fx)) ∧ (VV.cell? ⟨vg, vo, none⟩ = some (.string (ba x0)) ∧ VV.cell? ⟨vg, vo + 1, none⟩ = some (.string (ba x1)) ∧ VV.cell? ⟨cb, co + 1, none⟩ = some (.slice (some ⟨vg, vo, none⟩) 2 vc)) ∧ VV.cell? ⟨g, so + m * 2 + 1, none⟩ = some (.pointer (some ⟨hb2, 0, none⟩)) ∧ VV.cell? ⟨hb2, 1, none⟩ = some (.pointer a))
    (first | with_reducible exact HS0.out | with_reducible exact hS5)
    ((go_at_call 37; refine HWI.out.mono ?_; rintro e w5 ⟨H5, x5, rfl, k5, m5, e5⟩; have hS5 := HSS.out _ (HSU.out _ _ _ k5 m5); have K5 := Lib.hid k5; have M5 := Lib.hid m5; have E5 := Lib.hid e5; clear k5 m5 e5))
   all_goals
    obtain ⟨a5, rfl⟩ := E5.out.ptr
    have HS6 := Lib.hid (HSS.out w5.drew (HSU.out _ _ _ K5.out M5.out.drew))
    have HFU := Lib.hid (fun_ms M5.out.drew (HRES.out.le K5.out (Nat.le_refl _)))
    go_wp2_with fail
    go_region_held3 (fun VV => (VV.cell? ⟨w.heap.size, 0, none⟩ = some (.int .i64 k) ∧ VV.cell? ⟨w.heap.size, 1, none⟩ = some (.int .i64 n) ∧ VV.cell? ⟨w.heap.size, 2, none⟩ = some (.pointer c) ∧ VV.cell? ⟨w.heap.size, 3, none⟩ = some (.iface ft fx)) ∧ (VV.cell? ⟨vg, vo, none⟩ = some (.string (ba x0)) ∧ VV.cell? ⟨vg, vo + 1, none⟩ = some (.string (ba x1)) ∧ VV.cell? ⟨cb, co + 1, none⟩ = some (.slice (some ⟨vg, vo, none⟩) 2 vc)) ∧ VV.cell? ⟨g, so + m * 2 + 1, none⟩ = some (.pointer (some ⟨hb2, 0, none⟩)) ∧ VV.cell? ⟨hb2, 1, none⟩ = some (.pointer a))
     (first | with_reducible exact HS6.out | with_reducible exact hS7 | with_reducible exact hS8 | with_reducible exact hS9)
     ((first | (go_at_call 35; refine HFU.out.mono ?_; rintro e w7 ⟨x7, rfl, m7, _, hx7⟩; have hS7 := HSS.out _ (HSU.out _ _ _ K5.out m7); have M7 := Lib.hid m7; have X7 := Lib.hid hx7; clear m7 hx7) | (go_at_call 37; refine (with_agg M7.out E5.out X7.out).mono ?_; rintro e w8 ⟨H8, x8, rfl, k8, m8, e8⟩; have hS8 := HSS.out _ (HSU.out _ _ _ (K5.out.trans k8) m8); have K8 := Lib.hid (K5.out.trans k8); have M8 := Lib.hid m8; have E8 := Lib.hid e8; clear k8 m8 e8) | (go_at_call 36; refine (at_any M8.out (HCT.out.le K8.out) E8.out).mono ?_; rintro e w9 ⟨rfl, H9, k9, m9⟩; have hS9 := HSS.out _ (HSU.out _ _ _ (K8.out.trans k9) m9); have K9 := Lib.hid (K8.out.trans k9); have M9 := Lib.hid m9; clear k9 m9)))
    all_goals
     go_wp2
     go_end0
     exact ⟨rfl, H9, (K1.out.trans K3.out).trans K9.out, by rw [HN0.out, HN1.out]; exact M9.out⟩
end So
end Go.Proofs.YtmodmojocclmaaaGreatDoor.K

/- The machine of package source: what becomes of a value that a match waits for. -/
namespace Go.Proofs.YtmodmojocclmaaaGreatDoor.K
open Go Go.RowKit
namespace So

theorem VV.conOpen {H : Mem} {N : Nat} {nm : Str} {kids : List Val} {l : List Value} (h : VV H N (.con nm kids) l) : ∃ (cb : Nat) (kv : Value) (ls : Nat → List Value), HR H cb 0 [.string (ba nm), kv] ∧ Sl kv kids.length ∧ (∀ (i : Nat) v, kids[i]? = some v → VV H N v (ls i)) ∧ (∀ i, i < kids.length → HR H (blk kv) (off kv + i * 4) (ls i)) ∧ l = [.int .i64 4, .int .i64 0, pt cb, .nilIface] := by
 cases h with
 | con _ _ b kv ls hr hs hv hl => exact ⟨b, kv, ls, hr, hs, hv, hl, rfl⟩
theorem MS.drewN {w0 : World} {mb : Nat} {H : Mem} {s : St} {w : World} (h : MS w0 mb H s w) (q : Nat) : MS w0 mb H s (w.drewN q) := h.later ⟨rfl, rfl, rfl, Nat.le_refl _, fun _ _ => rfl⟩
def MaRel (w0 : World) (mb : Nat) (H : Mem) (s : St) (nm : Str) (n : Nat) (arms : List Arm) (x : Value) (wr : World) : Prop := ∃ i : Nat, i ≤ arms.length ∧ x = .int .i64 (i : Int) ∧ armFor nm n arms = armFor nm n (arms.drop i) ∧ MS w0 mb H s wr
def BiRel (w0 : World) (mb : Nat) (H : Mem) (s : St) (en : Env) (xs : List Str) (ks : List Val) (x y : Value) (wr : World) : Prop := ∃ (j : Nat) (ej : Env) (H2 : Mem), j ≤ xs.length ∧ x = .int .i64 (j : Int) ∧ binds en xs ks = binds ej (xs.drop j) (ks.drop j) ∧ MLe H H2 ∧ MS w0 mb H2 s wr ∧ EV H2 s.cells.length ej y
theorem binds_more {e : Env} {xs : List Str} {ks : List Val} {j : Nat} {x : Str} {k : Val} (hx : xs[j]? = some x) (hk : ks[j]? = some k) : binds e (xs.drop j) (ks.drop j) = binds ((x, k) :: e) (xs.drop (j + 1)) (ks.drop (j + 1)) := by
 obtain ⟨h1, h2⟩ := List.getElem?_eq_some_iff.1 hx
 obtain ⟨h3, h4⟩ := List.getElem?_eq_some_iff.1 hk
 rw [List.drop_eq_getElem_cons h1, List.drop_eq_getElem_cons h3, h2, h4]
 rfl
set_option maxRecDepth 100000 in
set_option maxHeartbeats 4000000 in
theorem take_mat_no {w0 : World} {mb : Nat} {H : Mem} {s : St} {w : World} (h : MS w0 mb H s w) {v : Val} {l : List Value} (hv : VV H s.cells.length v l) (hk : kV v ≠ 4) {arms : List Arm} {en : Env} {fb : Nat} {rv ev : Value} (hr : HR H fb 0 [rv, ev]) (hA : ArmsA H arms rv) (_he : EV H s.cells.length en ev) :
  Calls Tryz.prog 187 #[pt fb, pt mb, .agg l.toArray] w (MEnd w0 mb H (s.ends 4)) := by
 obtain ⟨k, n, f, rfl, hf⟩ : ∃ k n f, l = [.int .i64 k, .int .i64 n, .pointer none, f] ∧ IfV f := by
  cases hv with
  | lit _ _ _ => exact ⟨_, _, _, rfl, .inl rfl⟩
  | con => exact absurd rfl hk
  | clo => exact ⟨_, _, _, rfl, .inr ⟨_, _, rfl⟩⟩
  | res => exact ⟨_, _, _, rfl, .inr ⟨_, _, rfl⟩⟩

 have hkp := h.alloc (boxO k n none f)
 have hbx : HR (ins H w.heap.size (boxO k n none f)) w.heap.size 0 [.int .i64 k, .int .i64 n, .pointer none, f] := ins_row _ _ _ _
 have hsu : ∀ (H' : Mem) (S : St) (W : World), MLe H H' → MS w0 mb H' S W → Sub H W := fun H' S W k m b o hb => m.sub b o (k b o hb)
 obtain ⟨H1, hH1⟩ : ∃ H1, H1 = ins H w.heap.size (boxO k n none f) := ⟨_, rfl⟩
 rw [← hH1] at hkp hbx
 obtain ⟨k1, hm⟩ := hkp
 clear hH1
 have hv1 := hv.le k1 (Nat.le_refl s.cells.length)
 obtain ⟨W, hW⟩ : ∃ W, W = w.alloc (boxO k n none f) := ⟨_, rfl⟩
 rw [← hW] at hm
 have p0 := (hbx 0 _ rfl).cell hm.sub
 have p1 := (hbx 1 _ rfl).cell hm.sub
 have p2 := (hbx 2 _ rfl).cell hm.sub
 have p3 := (hbx 3 _ rfl).cell hm.sub
 have HW := Lib.hid hW
 obtain ⟨⟨A, d, rfl, hd, hal, hAA⟩, harm⟩ := hA
 have hab : (arms.length : Int) ≤ 2000000 := by omega
 have g0 : W.cell? ⟨fb, 0, none⟩ = some (.slice A arms.length d) := ((hr 0 _ rfl).le k1).cell hm.sub
 have u0 := g0
 rw [hW] at u0
 have hs1 : ∀ V, Sub H1 V → V.cell? ⟨w.heap.size, 2, none⟩ = some (.pointer none) ∧ V.cell? ⟨fb, 0, none⟩ = some (.slice A arms.length d) := fun V hV => ⟨(hbx 2 _ rfl).cell hV, ((hr 0 _ rfl).le k1).cell hV⟩
 have HSS := Lib.hid hs1
 have HMS := Lib.hid hm
 have K1 := Lib.hid k1
 have HAA := Lib.hid hAA
 clear h hv hm hv1 hsu k1 hbx hW hr _he harm hk hs1 hAA
 unfold pt boxO at *
 rcases hf with rfl | ⟨ft, fx, rfl⟩
 all_goals
  go_enter Tryz.func187, Tryz.ntmps187
  go_wp2_with fail
  rw [← HW.out]
  go_wp2_with fail
  go_loopw [16] (fun x wr => ∃ i : Nat, i ≤ arms.length ∧ x = .int .i64 (i : Int) ∧ MS w0 mb H1 s wr) (fun x _ => arms.length - (intOf x).toNat)
  case atStart => exact ⟨0, Nat.zero_le _, rfl, HMS.out⟩
  case round =>
   obtain ⟨i, hi, rfl, hms⟩ := hrel
   obtain ⟨q2, q0⟩ := HSS.out _ hms.sub
   have MM := Lib.hid hms
   have MN := Lib.hid (end_any hms 4)
   clear hms
   by_cases hlt : i < arms.length
   ·obtain ⟨ag, ao, rfl⟩ := HAA.out (by omega)
    have hid : i < d := by omega
    have hii : (i : Int) < (arms.length : Int) := by omega
    go_wp2_with fail
    go_quiet (fail)
    go_wp2
    go_roundw
    case rel => exact ⟨i + 1, by omega, by go_num, MM.out.drewN _⟩
    case measure => (simp [intOf] <;> omega)
   ·obtain rfl : i = arms.length := by omega
    go_wp2_with fail
    refine MN.out.mono ?_
    rintro e w5 ⟨rfl, H5, k5, m5⟩
    go_wp2
    exact bodyPost_ret (results_none rfl _ _ _) rfl ⟨rfl, H5, K1.out.trans k5, m5⟩
set_option maxRecDepth 100000 in
set_option maxHeartbeats 4000000 in
theorem take_mat_con {w0 : World} {mb : Nat} {H : Mem} {s : St} {w : World} (h : MS w0 mb H s w) {nm : Str} {kids : List Val} {l : List Value} (hv : VV H s.cells.length (.con nm kids) l) {arms : List Arm} {en : Env} {fb : Nat} {rv ev : Value} (hr : HR H fb 0 [rv, ev]) (hA : ArmsA H arms rv) (he : EV H s.cells.length en ev) :
  Calls Tryz.prog 187 #[pt fb, pt mb, .agg l.toArray] w (MEnd w0 mb H (take (.mat arms en) (.con nm kids) s)) := by
 obtain ⟨S, hS⟩ : ∃ S, S = take (.mat arms en) (.con nm kids) s := ⟨_, rfl⟩
 rw [← hS]
 have hyes : ∀ a, armFor nm kids.length arms = some a → s.goes a.2.2 (binds en a.2.1 kids) = S := fun a ha => by
  rw [hS]
  show _ = (match armFor nm kids.length arms with | some a => s.goes a.2.2 (binds en a.2.1 kids) | none => s.ends 4)
  rw [ha]
 have hno : armFor nm kids.length arms = none → s.ends 4 = S := fun ha => by
  rw [hS]
  show _ = (match armFor nm kids.length arms with | some a => s.goes a.2.2 (binds en a.2.1 kids) | none => s.ends 4)
  rw [ha]
 have HYES := Lib.hid hyes
 have HNO := Lib.hid hno
 clear hyes hno hS
 obtain ⟨cb, kvv, ls, hcr, hcs, hcv, hcl, rfl⟩ := hv.conOpen
 have hkp := h.alloc (boxO 4 0 (some ⟨cb, 0, none⟩) .nilIface)
 have hbx : HR (ins H w.heap.size (boxO 4 0 (some ⟨cb, 0, none⟩) .nilIface)) w.heap.size 0 [.int .i64 4, .int .i64 0, .pointer (some ⟨cb, 0, none⟩), .nilIface] := ins_row _ _ _ _
 obtain ⟨H1, hH1⟩ : ∃ H1, H1 = ins H w.heap.size (boxO 4 0 (some ⟨cb, 0, none⟩) .nilIface) := ⟨_, rfl⟩
 rw [← hH1] at hkp hbx
 obtain ⟨k1, hm⟩ := hkp
 clear hH1
 obtain ⟨W, hW⟩ : ∃ W, W = w.alloc (boxO 4 0 (some ⟨cb, 0, none⟩) .nilIface) := ⟨_, rfl⟩
 rw [← hW] at hm
 have HW := Lib.hid hW
 obtain ⟨⟨A, d, rfl, hd, hal, hAA⟩, harm⟩ := hA
 have hab : (arms.length : Int) ≤ 2000000 := by omega
 have g0 : W.cell? ⟨fb, 0, none⟩ = some (.slice A arms.length d) := ((hr 0 _ rfl).le k1).cell hm.sub
 have u0 := g0
 rw [hW] at u0
 obtain ⟨⟨KA, kc, rfl, hkc, hkl, hKA⟩⟩ := And.intro hcs True.intro |>.1 |> fun h => (⟨h⟩ : PLift _)
 obtain ⟨a, rfl⟩ := he.ptr
 obtain ⟨m, hmk⟩ : ∃ m, m = kids.length := ⟨_, rfl⟩
 have hc1 := hcr 1 _ rfl
 rw [← hmk] at hc1 hkc hkl
 have hs1 : ∀ V, Sub H1 V → V.cell? ⟨w.heap.size, 2, none⟩ = some (.pointer (some ⟨cb, 0, none⟩)) ∧ V.cell? ⟨fb, 0, none⟩ = some (.slice A arms.length d) ∧ V.cell? ⟨fb, 1, none⟩ = some (.pointer a) ∧ V.cell? ⟨cb, 0, none⟩ = some (.string (ba nm)) ∧ V.cell? ⟨cb, 1, none⟩ = some (.slice KA m kc) := fun V hV => ⟨(hbx 2 _ rfl).cell hV, ((hr 0 _ rfl).le k1).cell hV, ((hr 1 _ rfl).le k1).cell hV, ((hcr 0 _ rfl).le k1).cell hV, (hc1.le k1).cell hV⟩
 have hsu : ∀ (H' : Mem) (S : St) (W : World), MLe H1 H' → MS w0 mb H' S W → Sub H1 W := fun H' S W k m b o hb => m.sub b o (k b o hb)
 have hen := he.le k1 (Nat.le_refl s.cells.length)
 have HSS := Lib.hid hs1
 have HSU := Lib.hid hsu
 have HMS := Lib.hid hm
 have K1 := Lib.hid k1
 have HAA := Lib.hid hAA
 have HARM := Lib.hid (fun i x hx => by obtain ⟨vv, x1, x2, x3, x4⟩ := harm i x hx; exact ⟨vv, x1.le k1, x2.le k1, x3.le k1, x4.le k1⟩ : ∀ (i : Nat) x, arms[i]? = some x → ∃ vv, HC H1 ⟨blk (.slice A arms.length d), off (.slice A arms.length d) + i * 23, none⟩ (.string (ba x.1)) ∧ HC H1 ⟨blk (.slice A arms.length d), off (.slice A arms.length d) + i * 23 + 1, none⟩ vv ∧ StrsH H1 vv x.2.1 ∧ TmA H1 (blk (.slice A arms.length d)) (off (.slice A arms.length d) + i * 23 + 2) x.2.2)
 have HCV := Lib.hid (fun i v hi => (hcv i v hi).le k1 (Nat.le_refl _) : ∀ (i : Nat) v, kids[i]? = some v → VV H1 s.cells.length v (ls i))
 have HCL := Lib.hid (fun i hi => (hcl i hi).le k1 : ∀ i, i < kids.length → HR H1 (blk (.slice KA kids.length kc)) (off (.slice KA kids.length kc) + i * 4) (ls i))
 have HKA := Lib.hid hKA
 have HEN := Lib.hid hen
 have HMK := Lib.hid hmk
 clear h hv hm k1 hbx hW hr he harm hs1 hAA hcr hcs hcv hcl hsu hKA hen hc1 hmk
 unfold pt boxO at *
 go_enter Tryz.func187, Tryz.ntmps187
 go_wp2_with fail
 rw [← HW.out]
 go_wp2_with fail
 go_loopw [16] (fun x wr => MaRel w0 mb H1 s nm m arms x wr) (fun x _ => arms.length - (intOf x).toNat)
 case atStart => exact ⟨0, Nat.zero_le _, rfl, by simp, HMS.out⟩
 case round =>
  obtain ⟨i, hi, rfl, haf, hms⟩ := hrel
  obtain ⟨q2, q0, q1, c0, c1⟩ := HSS.out _ hms.sub
  have MM := Lib.hid hms
  have MN := Lib.hid (end_any hms 4)
  have HAF := Lib.hid haf
  clear haf
  by_cases hlt : i < arms.length
  ·obtain ⟨ar, hai⟩ : ∃ ar, arms[i]? = some ar := ⟨_, List.getElem?_eq_getElem hlt⟩
   obtain ⟨ag, ao, rfl⟩ := HAA.out (by omega)
   obtain ⟨vv, hn, hv, ⟨⟨V, vc, rfl, hvc, hvl, hVV⟩, hvs⟩, hbd⟩ := HARM.out i ar hai
   have a0 : wr.cell? ⟨ag, ao + i * 23, none⟩ = some (.string (ba ar.1)) := hn.cell hms.sub
   have a1 : wr.cell? ⟨ag, ao + i * 23 + 1, none⟩ = some (.slice V ar.2.1.length vc) := hv.cell hms.sub
   have hid : i < d := by omega
   have hii : (i : Int) < (arms.length : Int) := by omega
   have HAI := Lib.hid hai
   clear hai
   by_cases h1 : ar.1 = nm
   ·have t1 : ((ba ar.1).toList == (ba nm).toList) = true := by rw [h1]; simp
    by_cases h2 : ar.2.1.length = m
    ·have t2 : ((ar.2.1.length : Int) == (m : Int)) = true := by rw [h2]; simp
     have t3 : ((ar.2.1.length : Int) != (m : Int)) = false := by rw [h2]; simp
     have hres : armFor nm m arms = some ar := by rw [HAF.out]; exact armFor_yes HAI.out ⟨h1, h2⟩
     have HRES := Lib.hid hres
     have H2 := Lib.hid h2
     have HMN := Lib.hid (fun q => hms.drewN q : ∀ q, MS w0 mb H1 s (wr.drewN q))
     clear h1 h2 hres hms hn hv
     go_wp2_with fail
     go_quiet (fail)
     go_wp2_with fail
     try simp only [t3]
     go_loopw [63, 8] (fun x y wr2 => BiRel w0 mb H1 s en ar.2.1 kids x y wr2) (fun x _ _ => ar.2.1.length - (intOf x).toNat)
     case atStart => exact ⟨0, en, H1, Nat.zero_le _, rfl, by simp, MLe.refl _, HMN.out _, HEN.out⟩
     case round =>
      obtain ⟨j, ej, H3, hj, rfl, hb, k3, m3, he3⟩ := hrel
      obtain ⟨ya, rfl⟩ := he3.ptr
      obtain ⟨z2, _, _, _, z1⟩ := HSS.out _ (HSU.out _ _ _ k3 m3)
      have K3 := Lib.hid k3
      have HB := Lib.hid hb
      clear hb
      by_cases hlt2 : j < ar.2.1.length
      ·obtain ⟨xj, hxj⟩ : ∃ xj, ar.2.1[j]? = some xj := ⟨_, List.getElem?_eq_getElem hlt2⟩
       obtain ⟨kj, hkj⟩ : ∃ kj, kids[j]? = some kj := ⟨_, List.getElem?_eq_getElem (by rw [← HMK.out, ← H2.out]; exact hlt2)⟩
       obtain ⟨vg, vo, rfl⟩ := hVV (by omega)
       obtain ⟨kg, ko, rfl⟩ := HKA.out (by rw [← HMK.out, ← H2.out]; omega)
       have hz := ((hvs j xj hxj).le k3).cell m3.sub
       have z3 : wr.cell? ⟨vg, vo + j, none⟩ = some (.string (ba xj)) := hz
       have hvk := (HCV.out j kj hkj).le k3 (Nat.le_refl _)
       have hrk := (HCL.out j (by rw [← HMK.out, ← H2.out]; exact hlt2)).le k3
       obtain ⟨k', n', c', f', hls, hf'⟩ := hvk.four
       rw [hls] at hvk hrk
       have y0 : wr.cell? ⟨kg, ko + j * 4, none⟩ = some (.int .i64 k') := (hrk 0 _ rfl).cell m3.sub
       have y1 : wr.cell? ⟨kg, ko + j * 4 + 1, none⟩ = some (.int .i64 n') := (hrk 1 _ rfl).cell m3.sub
       have y2 : wr.cell? ⟨kg, ko + j * 4 + 2, none⟩ = some (.pointer c') := (hrk 2 _ rfl).cell m3.sub
       have y3 : wr.cell? ⟨kg, ko + j * 4 + 3, none⟩ = some f' := (hrk 3 _ rfl).cell m3.sub
       have hji : (j : Int) < (ar.2.1.length : Int) := by omega
       have hjm : (j : Int) < (m : Int) := by have := H2.out; omega
       have hjc : j < vc := by omega
       have hjk : j < kc := by have := H2.out; omega
       have HWI := Lib.hid (with_any m3 (nm := xj) he3 hvk)
       have HMO := Lib.hid (binds_more (e := ej) hxj hkj)
       clear hz hvk hrk hls m3 k3 he3 hxj hkj
       rcases hf' with rfl | ⟨ft', fx', rfl⟩
       all_goals
        go_wp2_with fail
        refine HWI.out.mono ?_
        rintro e w5 ⟨H5, x5, rfl, k5, m5, e5⟩
        have K5 := Lib.hid k5
        have M5 := Lib.hid m5
        have E5 := Lib.hid e5
        clear k5 m5 e5
        go_wp2
        go_roundw
        case rel => exact ⟨j + 1, _, H5, by omega, by go_num, HB.out.trans HMO.out, K3.out.trans K5.out, M5.out, E5.out⟩
        case measure => (simp [intOf] <;> omega)
      ·obtain rfl : j = ar.2.1.length := by omega
       have HAT := Lib.hid (at_any m3 (hbd.le k3) he3)
       have heq : binds en ar.2.1 kids = ej := by
        rw [HB.out, List.drop_eq_nil_of_le (Nat.le_refl _)]
        cases kids.drop ar.2.1.length <;> rfl
       have HEQ := Lib.hid heq
       clear heq m3 k3 he3
       go_wp2_with fail
       refine HAT.out.mono ?_
       rintro e w5 ⟨rfl, H5, k5, m5⟩
       go_wp2
       refine bodyPost_ret (results_none rfl _ _ _) rfl ?_
       rw [← HYES.out ar (by rw [← HMK.out]; exact HRES.out), HEQ.out]
       exact ⟨rfl, H5, (K1.out.trans K3.out).trans k5, m5⟩
    ·have t2 : ((ar.2.1.length : Int) == (m : Int)) = false := by rw [beq_eq_false_iff_ne]; omega
     have H2 := Lib.hid h2
     clear h1 h2 hms hn hv
     go_wp2_with fail
     go_quiet (fail)
     go_wp2
     go_roundw
     case rel => exact ⟨i + 1, by omega, by go_num, by rw [HAF.out]; exact armFor_no HAI.out (fun h => H2.out h.2), MM.out.drewN _⟩
     case measure => (simp [intOf] <;> omega)
   ·have t1 : ((ba ar.1).toList == (ba nm).toList) = false := tl_ne h1
    have H1 := Lib.hid h1
    clear h1 hms hn hv
    go_wp2_with fail
    go_quiet (fail)
    go_wp2
    go_roundw
    case rel => exact ⟨i + 1, by omega, by go_num, by rw [HAF.out]; exact armFor_no HAI.out (fun h => H1.out h.1), MM.out.drewN _⟩
    case measure => (simp [intOf] <;> omega)
  ·obtain rfl : i = arms.length := by omega
   go_wp2_with fail
   refine MN.out.mono ?_
   rintro e w5 ⟨rfl, H5, k5, m5⟩
   go_wp2
   refine bodyPost_ret (results_none rfl _ _ _) rfl ?_
   rw [← HNO.out (by rw [← HMK.out, HAF.out, List.drop_eq_nil_of_le (Nat.le_refl _)]; rfl)]
   exact ⟨rfl, H5, K1.out.trans k5, m5⟩
end So
end Go.Proofs.YtmodmojocclmaaaGreatDoor.K

/- The machine of package source: what becomes of a value, whatever frame gets it; frames are taken off. -/
namespace Go.Proofs.YtmodmojocclmaaaGreatDoor.K
open Go Go.RowKit
namespace So

section
variable {w0 : World} {mb : Nat} {H : Mem} {s : St} {w : World} {v : Val} {l : List Value}
theorem take_fn (h : MS w0 mb H s w) (hv : VV H s.cells.length v l) {f : Val} {fb : Nat} {lf : List Value} (hr : HR H fb 0 lf) (hvf : VV H s.cells.length f lf) :
  Calls Tryz.prog 194 #[pt fb, pt mb, .agg l.toArray] w (MEnd w0 mb H (callV f v s)) := by
 cases f with
 | lit k n =>
  refine take_fn_stuck h hv hr hvf ?_
  cases hvf with
  | lit _ _ hk => show k ≠ 6; omega
 | con nm kids => exact take_fn_stuck h hv hr hvf (show (4 : Int) ≠ 6 by decide)
 | clo own param body env => exact take_fn_clo h hv hr hvf
 | res parts => exact take_fn_res h hv hr hvf
theorem take_mat (h : MS w0 mb H s w) (hv : VV H s.cells.length v l) {arms : List Arm} {en : Env} {fb : Nat} {rv ev : Value} (hr : HR H fb 0 [rv, ev]) (hA : ArmsA H arms rv) (he : EV H s.cells.length en ev) :
  Calls Tryz.prog 187 #[pt fb, pt mb, .agg l.toArray] w (MEnd w0 mb H (take (.mat arms en) v s)) := by
 cases v with
 | lit k n =>
  refine take_mat_no h hv ?_ hr hA he
  cases hv with
  | lit _ _ hk => show k ≠ 4; omega
 | con nm kids => exact take_mat_con h hv hr hA he
 | clo own param body env => exact take_mat_no h hv (show (6 : Int) ≠ 4 by decide) hr hA he
 | res parts => exact take_mat_no h hv (show (6 : Int) ≠ 4 by decide) hr hA he
theorem take_ask (h : MS w0 mb H s w) (hv : VV H s.cells.length v l) {op : Str} {fb : Nat} (hr : HR H fb 0 [.string (ba op)]) (hb : s.hs.length ≤ 1000000) (hko : s.konts ≤ 1000000) :
  Calls Tryz.prog 188 #[pt fb, pt mb, .agg l.toArray] w (MEnd w0 mb H (take (.ask op) v s)) := by
 cases hq : cut op s.above s.hs [] with
 | none =>
  have e : take (.ask op) v s = s.ends 4 := by
   show (match cut op s.above s.hs [] with | none => s.ends 4 | some (ps, h, c, be, hs) => { (s.goes c.2.2 ((nmD c.2.1 1, .res ps) :: (nmD c.2.1 0, v) :: h.2)) with above := be, hs := hs, konts := s.konts + 1 }) = _
   rw [hq]
  rw [e]
  exact take_ask_no h hv hr hb hq
 | some x =>
  obtain ⟨ps, hd, c, be, hss⟩ := x
  have e : take (.ask op) v s = { (s.goes c.2.2 ((nmD c.2.1 1, .res ps) :: (nmD c.2.1 0, v) :: hd.2)) with above := be, hs := hss, konts := s.konts + 1 } := by
   show (match cut op s.above s.hs [] with | none => s.ends 4 | some (ps, h, c, be, hs) => { (s.goes c.2.2 ((nmD c.2.1 1, .res ps) :: (nmD c.2.1 0, v) :: h.2)) with above := be, hs := hs, konts := s.konts + 1 }) = _
   rw [hq]
  rw [e]
  exact take_ask_yes h hv hr hb hko hq
end

structure Bd (s : St) : Prop where
 trace : s.trace.length ≤ 1000000
 cells : s.cells.length ≤ 1000000
 hs : s.hs.length ≤ 1000000
 konts : s.konts ≤ 1000000

def Taker (w0 : World) (mb : Nat) (H : Mem) (N : Nat) (fv : Value) (go : Val → St → St) : Prop := ∃ (T : TypeId) (b : Nat) (F : Nat), fv = .iface T (pt b) ∧
 (∀ W : World, (method 403 T (pt b) "brocade/source.take").run Tryz.prog W = .ok (F, pt b) W) ∧ (∀ W : World, (nilAhead 403 T (pt b) "brocade/source.take").run Tryz.prog W = .ok (some false) W) ∧ (∀ (args : Array Value) (W : World), (callFunc F args).run Tryz.prog W = .ok (.enter F args) W) ∧
 ∀ (s : St) (w : World) (H' : Mem), MLe H H' → N ≤ s.cells.length → MS w0 mb H' s w → Bd s → ∀ (v : Val) (l : List Value), VV H' s.cells.length v l → Calls Tryz.prog F #[pt b, pt mb, .agg l.toArray] w (MEnd w0 mb H' (go v s))
theorem FV.taker {w0 : World} {mb : Nat} {H : Mem} {N : Nat} {f : Frame} {fv : Value} (hf : FV H N f fv) : Taker w0 mb H N fv (take f) := by
 cases hf with
 | arg t e b tb to ev hr ht he => exact ⟨157, b, 184, rfl, fun W => by unfold pt; kernel_rfl, fun W => by unfold pt; kernel_rfl, fun args W => by go_simp, fun s w H' k hN h B v l hv => take_arg h hv (hr.le k) (ht.le k) (he.le k hN)⟩
 | fn v b l hr hv2 => exact ⟨288, b, 194, rfl, fun W => by unfold pt; kernel_rfl, fun W => by unfold pt; kernel_rfl, fun args W => by go_simp, fun s w H' k hN h B v l hv => take_fn h hv (hr.le k) (hv2.le k hN)⟩
 | name nm t e b tb to ev hr ht he => exact ⟨160, b, 185, rfl, fun W => by unfold pt; kernel_rfl, fun W => by unfold pt; kernel_rfl, fun args W => by go_simp, fun s w H' k hN h B v l hv => take_name h hv (hr.le k) (ht.le k) (he.le k hN)⟩
 | choice y n e b tb to ub uo ev hr ht hu he => exact ⟨163, b, 186, rfl, fun W => by unfold pt; kernel_rfl, fun W => by unfold pt; kernel_rfl, fun args W => by go_simp, fun s w H' k hN h B v l hv => take_choice h hv (hr.le k) (ht.le k) (hu.le k) (he.le k hN)⟩
 | mat arms e b rv ev hr ha he => exact ⟨166, b, 187, rfl, fun W => by unfold pt; kernel_rfl, fun W => by unfold pt; kernel_rfl, fun args W => by go_simp, fun s w H' k hN h B v l hv => take_mat h hv (hr.le k) (ha.le k) (he.le k hN)⟩
 | ask op b hr => exact ⟨168, b, 188, rfl, fun W => by unfold pt; kernel_rfl, fun W => by unfold pt; kernel_rfl, fun args W => by go_simp, fun s w H' k hN h B v l hv => take_ask h hv (hr.le k) B.hs B.konts⟩
 | gath t e done b tb to ev lv hr ht he hd hg hl => exact ⟨110, b, 181, rfl, fun W => by unfold pt; kernel_rfl, fun W => by unfold pt; kernel_rfl, fun args W => by go_simp, fun s w H' k hN h B v l hv => take_gath h hv (hr.le k) (ht.le k) (he.le k hN) (hd.le k hN) hg hl B.trace B.cells⟩
theorem HdV.taker {w0 : World} {mb : Nat} {H : Mem} {N : Nat} {arms : List Arm} {e : Env} {hv : Value} (hf : HdV H N arms e hv) : ∃ b, hv = pt b ∧ Taker w0 mb H N (.iface 115 (pt b)) (takeH (arms, e)) := by
 cases hf with
 | mk _ _ b rv ev hr ha ho he => exact ⟨b, rfl, 115, b, 183, rfl, fun W => by unfold pt; kernel_rfl, fun W => by unfold pt; kernel_rfl, fun args W => by go_simp, fun s w H' k hN h B v l hv => take_hand h hv (hr.le k) (ha.le k) ho (he.le k hN)⟩
end So
end Go.Proofs.YtmodmojocclmaaaGreatDoor.K

/- The machine of package source: frames are taken off the stack; whether it is empty. -/
namespace Go.Proofs.YtmodmojocclmaaaGreatDoor.K
open Go Go.RowKit
namespace So

section
variable {w0 : World} {mb : Nat} {H : Mem} {s : St} {w : World}
theorem FV.ifacePt {N : Nat} {f : Frame} {x : Value} (h : FV H N f x) : ∃ T b, x = .iface T (pt b) := by cases h <;> exact ⟨_, _, rfl⟩
theorem FsV.consOpen {N : Nat} {f : Frame} {r : List Frame} {x : Value} (h : FsV H N (f :: r) x) : ∃ b T p y, x = pt b ∧ HR H b 0 [.iface T (pt p), .pointer y] ∧ FV H N f (.iface T (pt p)) ∧ FsV H N r (.pointer y) := by
 cases h with
 | cons _ _ b fv ov hr hf ht =>
  obtain ⟨y, rfl⟩ := ht.ptr
  obtain ⟨T, p, rfl⟩ := hf.ifacePt
  exact ⟨b, T, p, y, rfl, hr, hf, ht⟩
theorem HsV.consOpen {N : Nat} {h : Hd} {be : List Frame} {r : List (Hd × List Frame)} {x : Value} (k : HsV H N ((h, be) :: r) x) : ∃ b p y z, x = pt b ∧ HR H b 0 [pt p, .pointer y, .pointer z] ∧ HdV H N h.1 h.2 (pt p) ∧ FsV H N be (.pointer y) ∧ HsV H N r (.pointer z) := by
 cases k with
 | cons _ _ _ b hv fv ov hr hh hf ht =>
  obtain ⟨p, rfl⟩ := hh.ptr
  obtain ⟨y, rfl⟩ := hf.ptr
  obtain ⟨z, rfl⟩ := ht.ptr
  exact ⟨b, p, y, z, rfl, hr, hh, hf, ht⟩
def PopF (w0 : World) (mb : Nat) (H : Mem) (s : St) (f : Frame) (r : List Frame) (tv ev v0 v1 v2 v3 hv cv iv lv : Value) (e : Ending) (w' : World) : Prop := ∃ fv x, e = .returned fv ∧ FV H s.cells.length f fv ∧ MR w0 mb H { s with above := r } tv ev v0 v1 v2 v3 x hv cv iv lv w'
def PopH (w0 : World) (mb : Nat) (H : Mem) (s : St) (h : Hd) (be : List Frame) (r : List (Hd × List Frame)) (tv ev v0 v1 v2 v3 cv iv lv : Value) (e : Ending) (w' : World) : Prop := ∃ b x y, e = .returned (.iface 115 (pt b)) ∧ HdV H s.cells.length h.1 h.2 (pt b) ∧ MR w0 mb H { s with above := be, hs := r } tv ev v0 v1 v2 v3 x y cv iv lv w'
set_option maxRecDepth 100000 in
set_option maxHeartbeats 4000000 in
theorem pop_frame {tv ev v0 v1 v2 v3 fv hv cv iv lv : Value} (h : MR w0 mb H s tv ev v0 v1 v2 v3 fv hv cv iv lv w) {f : Frame} {r : List Frame} (ha : s.above = f :: r) :
  Calls Tryz.prog 21 #[.pointer (some ⟨mb, 6, none⟩)] w (PopF w0 mb H s f r tv ev v0 v1 v2 v3 hv cv iv lv) := by
 have hab := h.above
 rw [ha] at hab
 obtain ⟨b, T, p, y, rfl, hr, hf, ht⟩ := hab.consOpen
 have z6 : w.cell? ⟨mb, 6, none⟩ = some (pt b) := h.lies.cell 6
 have f6 := h.lies.free 6
 have c0 : w.cell? ⟨b, 0, none⟩ = some (.iface T (pt p)) := (hr 0 _ rfl).cell h.core.sub
 have c1 : w.cell? ⟨b, 1, none⟩ = some (.pointer y) := (hr 1 _ rfl).cell h.core.sub
 have d0 : (w.setCell ⟨mb, 6, none⟩ (.pointer y)).cell? ⟨b, 0, none⟩ = some (.iface T (pt p)) := (hr 0 _ rfl).cell (h.core.set 6 _).sub
 have HEND : Hid (MR w0 mb H { s with above := r } tv ev v0 v1 v2 v3 (.pointer y) hv cv iv lv (w.setCell ⟨mb, 6, none⟩ (.pointer y))) := Lib.hid ⟨h.core.set 6 _, h.lies.set 6 _, h.at_, ht, h.hs, h.input⟩
 have HF := Lib.hid hf
 clear h hab hr hf ht ha
 unfold pt at *
 go_enter Tryz.func21, Tryz.ntmps21
 go_wp2
 go_ret
 exact ⟨_, _, rfl, HF.out, HEND.out⟩
set_option maxRecDepth 100000 in
set_option maxHeartbeats 4000000 in
theorem pop_hand {tv ev v0 v1 v2 v3 fv hv cv iv lv : Value} (h : MR w0 mb H s tv ev v0 v1 v2 v3 fv hv cv iv lv w) {hd : Hd} {be : List Frame} {r : List (Hd × List Frame)} (ha : s.above = []) (hh : s.hs = (hd, be) :: r) :
  Calls Tryz.prog 21 #[.pointer (some ⟨mb, 6, none⟩)] w (PopH w0 mb H s hd be r tv ev v0 v1 v2 v3 cv iv lv) := by
 have hab := h.above
 rw [ha] at hab
 obtain rfl : fv = .pointer none := by cases hab; rfl
 have hhs := h.hs
 rw [hh] at hhs
 obtain ⟨b, p, y, z, rfl, hr, hd', hf, ht⟩ := hhs.consOpen
 have z6 : w.cell? ⟨mb, 6, none⟩ = some (.pointer none) := h.lies.cell 6
 have z7 : w.cell? ⟨mb, 7, none⟩ = some (pt b) := h.lies.cell 7
 have f6 := h.lies.free 6
 have f7 := h.lies.free 7
 have c1 : w.cell? ⟨b, 1, none⟩ = some (.pointer y) := (hr 1 _ rfl).cell h.core.sub
 have c2 : w.cell? ⟨b, 2, none⟩ = some (.pointer z) := (hr 2 _ rfl).cell h.core.sub
 have f7' := (h.lies.set 6 (.pointer y)).free 7
 have d0 : ((w.setCell ⟨mb, 6, none⟩ (.pointer y)).setCell ⟨mb, 7, none⟩ (.pointer z)).cell? ⟨b, 0, none⟩ = some (pt p) := (hr 0 _ rfl).cell ((h.core.set 6 _).set 7 _).sub
 have HEND : Hid (MR w0 mb H { s with above := be, hs := r } tv ev v0 v1 v2 v3 (.pointer y) (.pointer z) cv iv lv ((w.setCell ⟨mb, 6, none⟩ (.pointer y)).setCell ⟨mb, 7, none⟩ (.pointer z))) := Lib.hid ⟨(h.core.set 6 _).set 7 _, (h.lies.set 6 _).set 7 _, h.at_, hf, ht, h.input⟩
 have HF := Lib.hid hd'
 clear h hab hr hd' hf ht ha hhs hh
 unfold pt at *
 go_enter Tryz.func21, Tryz.ntmps21
 go_wp2
 go_ret
 exact ⟨_, _, _, rfl, HF.out, HEND.out⟩
set_option maxRecDepth 100000 in
set_option maxHeartbeats 4000000 in
theorem empty_any (h : MS w0 mb H s w) :
  Calls Tryz.prog 22 #[.pointer (some ⟨mb, 6, none⟩)] w fun e w' => e = .returned (.bool (s.above.isEmpty && s.hs.isEmpty)) ∧ w' = w := by
 obtain ⟨tv, ev, v0, v1, v2, v3, fv, hv, cv, iv, lv, h⟩ := h
 have z6 : w.cell? ⟨mb, 6, none⟩ = some fv := h.lies.cell 6
 have z7 : w.cell? ⟨mb, 7, none⟩ = some hv := h.lies.cell 7
 have h6 : (fv = .pointer none ∧ s.above.isEmpty = true) ∨ (∃ b, fv = pt b) ∧ s.above.isEmpty = false := by
  have := h.above
  cases hq : s.above with
  | nil => rw [hq] at this; cases this; exact .inl ⟨rfl, rfl⟩
  | cons f r => rw [hq] at this; obtain ⟨b, _, _, _, rfl, _⟩ := this.consOpen; exact .inr ⟨⟨b, rfl⟩, rfl⟩
 have h7 : (hv = .pointer none ∧ s.hs.isEmpty = true) ∨ (∃ b, hv = pt b) ∧ s.hs.isEmpty = false := by
  have := h.hs
  cases hq : s.hs with
  | nil => rw [hq] at this; cases this; exact .inl ⟨rfl, rfl⟩
  | cons f r => obtain ⟨hd, be⟩ := f; rw [hq] at this; obtain ⟨b, _, _, _, rfl, _⟩ := this.consOpen; exact .inr ⟨⟨b, rfl⟩, rfl⟩
 clear h
 rcases h6 with ⟨rfl, e1⟩ | ⟨⟨b, rfl⟩, e1⟩
 all_goals
  rcases h7 with ⟨rfl, e2⟩ | ⟨⟨b2, rfl⟩, e2⟩
  all_goals
   rw [e1, e2]
   clear e1 e2
   try unfold pt at *
   go_enter Tryz.func22, Tryz.ntmps22
   go_wp2
   go_ret
   first | exact ⟨rfl, rfl⟩ | simp
def PopEnd (w0 : World) (mb : Nat) (H : Mem) (s : St) (tv ev v0 v1 v2 v3 cv iv lv : Value) (e : Ending) (w' : World) : Prop := ∃ (T : TypeId) (b : Nat) (F : Nat) (s2 : St) (x y : Value), e = .returned (.iface T (pt b)) ∧
 (∀ W : World, (method 403 T (pt b) "brocade/source.take").run Tryz.prog W = .ok (F, pt b) W) ∧ (∀ W : World, (nilAhead 403 T (pt b) "brocade/source.take").run Tryz.prog W = .ok (some false) W) ∧ (∀ (args : Array Value) (W : World), (callFunc F args).run Tryz.prog W = .ok (.enter F args) W) ∧ MR w0 mb H s2 tv ev v0 v1 v2 v3 x y cv iv lv w' ∧
 ∀ W, MS w0 mb H s2 W → ∀ (l : List Value), VV H s.cells.length s.val l → Calls Tryz.prog F #[pt b, pt mb, .agg l.toArray] W (MEnd w0 mb H (body s))
theorem pop_any {tv ev v0 v1 v2 v3 fv hv cv iv lv : Value} (h : MR w0 mb H s tv ev v0 v1 v2 v3 fv hv cv iv lv w) (hat : s.at_ = none) (hne : s.above ≠ [] ∨ s.hs ≠ []) (B : Bd s) :
  Calls Tryz.prog 21 #[.pointer (some ⟨mb, 6, none⟩)] w (PopEnd w0 mb H s tv ev v0 v1 v2 v3 cv iv lv) := by
 cases hab : s.above with
 | cons f r =>
  have hbo : body s = take f s.val { s with above := r } := by unfold body; rw [hat, hab]
  rw [show PopEnd w0 mb H s tv ev v0 v1 v2 v3 cv iv lv = PopEnd w0 mb H s tv ev v0 v1 v2 v3 cv iv lv from rfl]
  refine (pop_frame h hab).mono fun e w' ⟨fv', x, he, hf, hm⟩ => ?_
  obtain ⟨T, b, F, rfl, h1, hN, hE, h2⟩ := hf.taker (w0 := w0) (mb := mb)
  refine ⟨T, b, F, { s with above := r }, x, _, he, h1, hN, hE, hm, fun W hW l hl => ?_⟩
  rw [hbo]
  exact h2 { s with above := r } W H (MLe.refl _) (Nat.le_refl _) hW ⟨B.trace, B.cells, B.hs, B.konts⟩ _ l hl
 | nil =>
  cases hhs : s.hs with
  | nil => rw [hab, hhs] at hne; simp at hne
  | cons p r =>
   obtain ⟨hd, be⟩ := p
   have hbo : body s = takeH hd s.val { s with above := be, hs := r } := by unfold body; rw [hat, hab, hhs]
   refine (pop_hand h hab hhs).mono fun e w' ⟨b, x, y, he, hf, hm⟩ => ?_
   obtain ⟨b', hbb, T, b2, F, h0, h1, hN, hE, h2⟩ := hf.taker (w0 := w0) (mb := mb)
   injection h0 with e1 e2
   subst e1
   have hbb2 : pt b = pt b2 := hbb.trans e2
   rw [hbb2] at he
   refine ⟨_, b2, F, { s with above := be, hs := r }, x, y, he, h1, hN, hE, hm, fun W hW l hl => ?_⟩
   rw [hbo]
   exact h2 { s with above := be, hs := r } W H (MLe.refl _) (Nat.le_refl _) hW ⟨B.trace, B.cells, by have := B.hs; rw [hhs] at this; simp at this; show r.length ≤ _; omega, B.konts⟩ _ l hl
end
end So
end Go.Proofs.YtmodmojocclmaaaGreatDoor.K
