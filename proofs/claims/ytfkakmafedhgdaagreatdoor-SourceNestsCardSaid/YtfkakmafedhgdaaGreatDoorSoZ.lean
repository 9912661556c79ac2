/- The machine of package source: a function is called. -/
import Derived.Test.YtfkakmafedhgdaaGreatDoorMg20
namespace Go.Proofs.YtfkakmafedhgdaaGreatDoor.K
open Go Go.RowKit
namespace So

set_option maxRecDepth 100000 in
set_option maxHeartbeats 4000000 in
theorem res_call {w0 : World} {mb : Nat} {H : Mem} {s : St} {w : World} (h : MS w0 mb H s w) {v : Val} {l : List Value} (hv : VV H s.cells.length v l) {parts : List Part} {sv : Value} {av hv' : Nat → Value} (hs : Sl sv parts.length) (hl : ∀ i, i < parts.length → HR H (blk sv) (off sv + i * 2) [av i, hv' i])
    (hfs : ∀ (i : Nat) p, parts[i]? = some p → FsV H s.cells.length p.1 (av i)) (hh : ∀ (i : Nat) p, parts[i]? = some p → HdV H s.cells.length p.2.1 p.2.2 (hv' i)) :
    Calls Tryz.prog 195 #[sv, pt mb, .agg l.toArray] w (MEnd w0 mb H (callV (.res parts) v s)) := by
  have e : callV (.res parts) v s = { s.has v with above := (put parts s.above s.hs).1, hs := (put parts s.above s.hs).2 } := rfl
  rw [e]
  clear e
  obtain ⟨k, n, c, f, rfl, hf⟩ := hv.four
  have hkp := h.alloc (boxO k n c f)
  have hbx : HR (ins H w.heap.size (boxO k n c f)) w.heap.size 0 [.int .i64 k, .int .i64 n, .pointer c, f] := ins_row _ _ _ _
  have hsu : ∀ (H' : Mem) (S : St) (W : World), MLe H H' → MS w0 mb H' S W → Sub H W := fun H' S W k m b o hb => m.sub b o (k b o hb)
  obtain ⟨H1, hH1⟩ : ∃ H1, H1 = ins H w.heap.size (boxO k n c f) := ⟨_, rfl⟩
  rw [← hH1] at hkp hbx
  obtain ⟨k1, hm⟩ := hkp
  clear hH1
  have hv1 := hv.le k1 (Nat.le_refl s.cells.length)
  obtain ⟨W, hW⟩ : ∃ W, W = w.alloc (boxO k n c f) := ⟨_, rfl⟩
  rw [← hW] at hm
  have p0 := (hbx 0 _ rfl).cell hm.sub
  have p1 := (hbx 1 _ rfl).cell hm.sub
  have p2 := (hbx 2 _ rfl).cell hm.sub
  have p3 := (hbx 3 _ rfl).cell hm.sub
  have HW := Lib.hid hW
  have hpu := put_any hm hs (fun i hi => (hl i hi).le k1) (fun i p hp => (hfs i p hp).le k1 (Nat.le_refl _)) (fun i p hp => (hh i p hp).le k1 (Nat.le_refl _))
  have hs1 : ∀ V, Sub H1 V → V.cell? ⟨w.heap.size, 0, none⟩ = some (.int .i64 k) ∧ V.cell? ⟨w.heap.size, 1, none⟩ = some (.int .i64 n) ∧ V.cell? ⟨w.heap.size, 2, none⟩ = some (.pointer c) ∧ V.cell? ⟨w.heap.size, 3, none⟩ = some f := fun V hV => ⟨(hbx 0 _ rfl).cell hV, (hbx 1 _ rfl).cell hV, (hbx 2 _ rfl).cell hV, (hbx 3 _ rfl).cell hV⟩
  rw [hW] at hpu
  have HPU := Lib.hid hpu
  have HSS := Lib.hid hs1
  have K1 := Lib.hid k1
  have HV1 := Lib.hid hv1
  obtain ⟨A, c', rfl, _, _, _⟩ := hs
  clear h hv hm hv1 hsu k1 hbx hW hl hfs hh hpu hs1
  unfold pt boxO at *
  rcases hf with rfl | ⟨ft, fx, rfl⟩
  · go_enter Tryz.func195, Tryz.ntmps195
    go_wp2_with fail
    refine HPU.out.mono ?_
    rintro e w3 ⟨rfl, H3, k3, m3⟩
    obtain ⟨q0, q1, q2, q3⟩ := HSS.out w3 (fun x y hx => m3.sub x y (k3 _ _ hx))
    have HAN := Lib.hid (answer_any m3 (HV1.out.le k3 (Nat.le_refl _)))
    have K3 := Lib.hid k3
    clear k3 m3
    go_wp2_with fail
    refine HAN.out.mono ?_
    rintro e w4 ⟨rfl, H4, k4, m4⟩
    go_wp2
    go_end0
    exact ⟨rfl, H4, (K1.out.trans K3.out).trans k4, m4⟩
  · go_enter Tryz.func195, Tryz.ntmps195
    go_wp2_with fail
    refine HPU.out.mono ?_
    rintro e w3 ⟨rfl, H3, k3, m3⟩
    obtain ⟨q0, q1, q2, q3⟩ := HSS.out w3 (fun x y hx => m3.sub x y (k3 _ _ hx))
    have HAN := Lib.hid (answer_any m3 (HV1.out.le k3 (Nat.le_refl _)))
    have K3 := Lib.hid k3
    clear k3 m3
    go_wp2_with fail
    refine HAN.out.mono ?_
    rintro e w4 ⟨rfl, H4, k4, m4⟩
    go_wp2
    go_end0
    exact ⟨rfl, H4, (K1.out.trans K3.out).trans k4, m4⟩
set_option maxRecDepth 100000 in
set_option maxHeartbeats 4000000 in
theorem take_fn_stuck {w0 : World} {mb : Nat} {H : Mem} {s : St} {w : World} (h : MS w0 mb H s w) {v : Val} {l : List Value} (hv : VV H s.cells.length v l) {f : Val} {fb : Nat} {lf : List Value} (hr : HR H fb 0 lf) (hvf : VV H s.cells.length f lf) (hk : kV f ≠ 6) :
    Calls Tryz.prog 194 #[pt fb, pt mb, .agg l.toArray] w (MEnd w0 mb H (s.ends 4)) := by
  obtain ⟨n2, c2, f2, rfl, _⟩ := hvf.kind
  obtain ⟨k2, hk2⟩ : ∃ k2, k2 = kV f := ⟨_, rfl⟩
  rw [← hk2] at hk hr
  have hne : (k2 == 6) = false := by rw [beq_eq_false_iff_ne]; exact hk
  obtain ⟨k, n, c, f', rfl, hf⟩ := hv.four
  have g0 := ((hr 0 _ rfl).cell (h.later (below_new w (boxO k n c f'))).sub)
  have HE := Lib.hid (end_any (h.later (below_new w (boxO k n c f'))) 4)
  clear h hv hr hvf hk2 hk
  unfold pt boxO at *
  rcases hf with rfl | ⟨ft, fx, rfl⟩
  · go_enter Tryz.func194, Tryz.ntmps194
    go_wp2_with fail
    refine HE.out.mono ?_
    rintro e w4 ⟨rfl, H4, k4, m4⟩
    go_wp2
    exact bodyPost_ret (results_none rfl _ _ _) rfl ⟨rfl, H4, k4, m4⟩
  · go_enter Tryz.func194, Tryz.ntmps194
    go_wp2_with fail
    refine HE.out.mono ?_
    rintro e w4 ⟨rfl, H4, k4, m4⟩
    go_wp2
    exact bodyPost_ret (results_none rfl _ _ _) rfl ⟨rfl, H4, k4, m4⟩
theorem VV.cloOpen {H : Mem} {N : Nat} {own param : Str} {body : Tm} {env : Env} {l : List Value} (h : VV H N (.clo own param body env) l) : ∃ cb tb to ev, HR H cb 0 [.string (ba own), .string (ba param), ptO tb to, ev] ∧ TmA H tb to body ∧ EV H N env ev ∧ l = [.int .i64 6, .int .i64 0, .pointer none, .iface 104 (pt cb)] := by
  cases h with
  | clo _ _ _ _ b tb to ev hr ht he => exact ⟨b, tb, to, ev, hr, ht, he, rfl⟩
theorem VV.resOpen {H : Mem} {N : Nat} {parts : List Part} {l : List Value} (h : VV H N (.res parts) l) : ∃ (sv : Value) (av hv : Nat → Value), Sl sv parts.length ∧ (∀ i, i < parts.length → HR H (blk sv) (off sv + i * 2) [av i, hv i]) ∧ (∀ (i : Nat) p, parts[i]? = some p → FsV H N p.1 (av i)) ∧ (∀ (i : Nat) p, parts[i]? = some p → HdV H N p.2.1 p.2.2 (hv i)) ∧ l = [.int .i64 6, .int .i64 0, .pointer none, .iface 292 sv] := by
  cases h with
  | res _ sv av hv hs hl hf hh => exact ⟨sv, av, hv, hs, hl, hf, hh, rfl⟩
set_option maxRecDepth 100000 in
set_option maxHeartbeats 4000000 in
theorem take_fn_clo {w0 : World} {mb : Nat} {H : Mem} {s : St} {w : World} (h : MS w0 mb H s w) {v : Val} {l : List Value} (hv : VV H s.cells.length v l) {own param : Str} {body : Tm} {env : Env} {fb : Nat} {lf : List Value} (hr : HR H fb 0 lf) (hvf : VV H s.cells.length (.clo own param body env) lf) :
    Calls Tryz.prog 194 #[pt fb, pt mb, .agg l.toArray] w (MEnd w0 mb H (callV (.clo own param body env) v s)) := by
  have hvf0 := hvf
  obtain ⟨cb, tb, to, ev, hcr, hct, hce, rfl⟩ := hvf.cloOpen
  obtain ⟨k, n, c, f, rfl, hf⟩ := hv.four
  have hkp := h.alloc (boxO k n c f)
  have hbx : HR (ins H w.heap.size (boxO k n c f)) w.heap.size 0 [.int .i64 k, .int .i64 n, .pointer c, f] := ins_row _ _ _ _
  have hsu : ∀ (H' : Mem) (S : St) (W : World), MLe H H' → MS w0 mb H' S W → Sub H W := fun H' S W k m b o hb => m.sub b o (k b o hb)
  obtain ⟨H1, hH1⟩ : ∃ H1, H1 = ins H w.heap.size (boxO k n c f) := ⟨_, rfl⟩
  rw [← hH1] at hkp hbx
  obtain ⟨k1, hm⟩ := hkp
  clear hH1
  have hv1 := hv.le k1 (Nat.le_refl s.cells.length)
  obtain ⟨W, hW⟩ : ∃ W, W = w.alloc (boxO k n c f) := ⟨_, rfl⟩
  rw [← hW] at hm
  have p0 := (hbx 0 _ rfl).cell hm.sub
  have p1 := (hbx 1 _ rfl).cell hm.sub
  have p2 := (hbx 2 _ rfl).cell hm.sub
  have p3 := (hbx 3 _ rfl).cell hm.sub
  have HW := Lib.hid hW
  have g0 := ((hr 0 _ rfl).le k1).cell hm.sub
  have g3 := ((hr 3 _ rfl).le k1).cell hm.sub
  have u0 := g0
  rw [hW] at u0
  have hcall : Calls Tryz.prog 180 #[pt cb, pt mb, .agg #[.int .i64 k, .int .i64 n, .pointer c, f]] W.drew (MEnd w0 mb H1 (callV (.clo own param body env) v s)) := by
    by_cases ho : own = []
    · have e : callV (.clo own param body env) v s = s.goes body ((param, v) :: env) := by show s.goes body ((param, v) :: (if own = [] then env else (own, .clo own param body env) :: env)) = _; rw [if_pos ho]
      rw [e]
      exact take_clo0 hm.drew hv1 (hcr.le k1) (hct.le k1) (hce.le k1 (Nat.le_refl _)) ho
    · have e : callV (.clo own param body env) v s = s.goes body ((param, v) :: (own, .clo own param body env) :: env) := by show s.goes body ((param, v) :: (if own = [] then env else (own, .clo own param body env) :: env)) = _; rw [if_neg ho]
      rw [e]
      exact take_clo1 hm.drew hv1 (hcr.le k1) (hct.le k1) (hce.le k1 (Nat.le_refl _)) ho
  have HM : ∀ W : World, (method 403 104 (.pointer (some ⟨cb, 0, none⟩)) "brocade/source.call").run Tryz.prog W = .ok (180, .pointer (some ⟨cb, 0, none⟩)) W := fun W => by kernel_rfl
  have HC := Lib.hid hcall
  have K1 := Lib.hid k1
  clear h hv hm hv1 hsu k1 hbx hW hr hcall hvf hvf0 hcr hct hce
  unfold pt boxO at *
  rcases hf with rfl | ⟨ft, fx, rfl⟩
  · go_enter Tryz.func194, Tryz.ntmps194
    go_wp2_with fail
    rw [← HW.out]
    go_wp2_with fail
    go_still_tail 7, (by kernel_rfl)
    change wpList _ _ _ _ _ W.drew
    go_wp2_with fail
    refine HC.out.mono ?_
    rintro e w4 ⟨rfl, H4, k4, m4⟩
    go_wp2
    go_end0
    exact ⟨rfl, H4, K1.out.trans k4, m4⟩
  · go_enter Tryz.func194, Tryz.ntmps194
    go_wp2_with fail
    rw [← HW.out]
    go_wp2_with fail
    go_still_tail 7, (by kernel_rfl)
    change wpList _ _ _ _ _ W.drew
    go_wp2_with fail
    refine HC.out.mono ?_
    rintro e w4 ⟨rfl, H4, k4, m4⟩
    go_wp2
    go_end0
    exact ⟨rfl, H4, K1.out.trans k4, m4⟩
set_option maxRecDepth 100000 in
set_option maxHeartbeats 4000000 in
theorem take_fn_res {w0 : World} {mb : Nat} {H : Mem} {s : St} {w : World} (h : MS w0 mb H s w) {v : Val} {l : List Value} (hv : VV H s.cells.length v l) {parts : List Part} {fb : Nat} {lf : List Value} (hr : HR H fb 0 lf) (hvf : VV H s.cells.length (.res parts) lf) :
    Calls Tryz.prog 194 #[pt fb, pt mb, .agg l.toArray] w (MEnd w0 mb H (callV (.res parts) v s)) := by
  have hvf0 := hvf
  obtain ⟨sv, av, hv', hss, hsl, hsf, hsh, rfl⟩ := hvf.resOpen
  obtain ⟨k, n, c, f, rfl, hf⟩ := hv.four
  have hkp := h.alloc (boxO k n c f)
  have hbx : HR (ins H w.heap.size (boxO k n c f)) w.heap.size 0 [.int .i64 k, .int .i64 n, .pointer c, f] := ins_row _ _ _ _
  have hsu : ∀ (H' : Mem) (S : St) (W : World), MLe H H' → MS w0 mb H' S W → Sub H W := fun H' S W k m b o hb => m.sub b o (k b o hb)
  obtain ⟨H1, hH1⟩ : ∃ H1, H1 = ins H w.heap.size (boxO k n c f) := ⟨_, rfl⟩
  rw [← hH1] at hkp hbx
  obtain ⟨k1, hm⟩ := hkp
  clear hH1
  have hv1 := hv.le k1 (Nat.le_refl s.cells.length)
  obtain ⟨W, hW⟩ : ∃ W, W = w.alloc (boxO k n c f) := ⟨_, rfl⟩
  rw [← hW] at hm
  have p0 := (hbx 0 _ rfl).cell hm.sub
  have p1 := (hbx 1 _ rfl).cell hm.sub
  have p2 := (hbx 2 _ rfl).cell hm.sub
  have p3 := (hbx 3 _ rfl).cell hm.sub
  have HW := Lib.hid hW
  have g0 := ((hr 0 _ rfl).le k1).cell hm.sub
  have g3 := ((hr 3 _ rfl).le k1).cell hm.sub
  have u0 := g0
  rw [hW] at u0
  have hcall : Calls Tryz.prog 195 #[sv, pt mb, .agg #[.int .i64 k, .int .i64 n, .pointer c, f]] W.drew (MEnd w0 mb H1 (callV (.res parts) v s)) :=
    res_call hm.drew hv1 hss (fun i hi => (hsl i hi).le k1) (fun i p hp => (hsf i p hp).le k1 (Nat.le_refl _)) (fun i p hp => (hsh i p hp).le k1 (Nat.le_refl _))
  have HM : ∀ W : World, (method 403 292 sv "brocade/source.call").run Tryz.prog W = .ok (195, sv) W := fun W => by kernel_rfl
  have HC := Lib.hid hcall
  have K1 := Lib.hid k1
  clear h hv hm hv1 hsu k1 hbx hW hr hcall hvf hvf0 hss hsl hsf hsh
  unfold pt boxO at *
  rcases hf with rfl | ⟨ft, fx, rfl⟩
  · go_enter Tryz.func194, Tryz.ntmps194
    go_wp2_with fail
    rw [← HW.out]
    go_wp2_with fail
    go_still_tail 7, (by kernel_rfl)
    change wpList _ _ _ _ _ W.drew
    go_wp2_with fail
    refine HC.out.mono ?_
    rintro e w4 ⟨rfl, H4, k4, m4⟩
    go_wp2
    go_end0
    exact ⟨rfl, H4, K1.out.trans k4, m4⟩
  · go_enter Tryz.func194, Tryz.ntmps194
    go_wp2_with fail
    rw [← HW.out]
    go_wp2_with fail
    go_still_tail 7, (by kernel_rfl)
    change wpList _ _ _ _ _ W.drew
    go_wp2_with fail
    refine HC.out.mono ?_
    rintro e w4 ⟨rfl, H4, k4, m4⟩
    go_wp2
    go_end0
    exact ⟨rfl, H4, K1.out.trans k4, m4⟩
end So
end Go.Proofs.YtfkakmafedhgdaaGreatDoor.K
