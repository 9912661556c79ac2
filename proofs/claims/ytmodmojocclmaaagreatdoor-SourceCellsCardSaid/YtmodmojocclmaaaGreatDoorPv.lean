/- The contract of what reads applications. -/
import Derived.Test.YtmodmojocclmaaaGreatDoorPu
import Derived.Deep.LoopGhost
import Derived.Outline
namespace Go.Proofs.YtmodmojocclmaaaGreatDoor
open Go.RowKit Pz

theorem atom_any (ex : St → Tm × St) (pb sz n : Nat) (hxn : Nice ex) (hx : ExOK ex pb sz n) (hnb : n ≤ 2000000) (w : World) (s : St) (hp : PA w pb sz s) (hn : s.ws.length ≤ n) :
  Calls Tryz.prog 152 #[.pointer (some ⟨pb, 0, none⟩)] w (AtomEnd pb sz w (atom sz ex s)) := by
 cases h0 : isOf [1] s
 ·cases h1 : isT [tTrue] s
  ·cases h2 : isT [tFalse] s
   ·cases h3 : isOf [2] s
    ·cases h4 : isOf [3] s
     ·cases h5 : isT [tRead] s
      ·cases h6 : isT [tOpen] s
       ·exact atom_7 ex pb sz n hxn hx hnb w s hp hn h0 h1 h2 h3 h4 h5 h6
       ·exact atom_6 ex pb sz n hxn hx hnb w s hp hn h0 h1 h2 h3 h4 h5 h6
      ·exact atom_5 ex pb sz n hxn hx hnb w s hp hn h0 h1 h2 h3 h4 h5
     ·exact atom_4 ex pb sz n hxn hx hnb w s hp hn h0 h1 h2 h3 h4
    ·exact atom_3 ex pb sz n hxn hx hnb w s hp hn h0 h1 h2 h3
   ·exact atom_2 ex pb sz n hxn hx hnb w s hp hn h0 h1 h2
  ·exact atom_1 ex pb sz n hxn hx hnb w s hp hn h0 h1
 ·exact atom_0 ex pb sz n hxn hx hnb w s hp hn h0

theorem app_none {sz : Nat} {ex : St → Tm × St} {s s1 : St} (h : atom sz ex s = (none, s1)) : app sz ex s = (.zero, fail sz 3 s1) := by unfold app; rw [h]
theorem app_some {sz : Nat} {ex : St → Tm × St} {s s1 : St} {t : Tm} (h : atom sz ex s = (some t, s1)) : app sz ex s = appMore sz ex (s1.ws.length + 1) t s1 := by unfold app; rw [h]
theorem appMore_none {sz : Nat} {ex : St → Tm × St} {s s1 : St} (h : atom sz ex s = (none, s1)) (n : Nat) (f : Tm) : appMore sz ex (n + 1) f s = (f, s1) := by rw [appMore, h]
theorem appMore_some {sz : Nat} {ex : St → Tm × St} {s s1 : St} {t : Tm} (h : atom sz ex s = (some t, s1)) (n : Nat) (f : Tm) : appMore sz ex (n + 1) f s = appMore sz ex n (.mk 6 f.pos [] [] 0 [f, t] []) s1 := by rw [appMore, h]

structure AppRel (ex : St → Tm × St) (pb sz n N M : Nat) (w : World) (res : Tm × St) (g : Nat) (wr : World) (t : Tm) (l : List Value) (s : St) : Prop where
 goes : Goes pb sz w s wr
 box : Lies wr M 33 l.toArray
 out : Lies wr N 33 zC
 ht : HT wr (fun k => N < k ∧ k ≠ M) t l
 lg : s.ws.length + 1 ≤ g
 ln : s.ws.length ≤ n
 res : appMore sz ex g t s = res
def AppAny (ex : St → Tm × St) (pb sz n N M : Nat) (w : World) (res : Tm × St) (g : Nat) (wr : World) : Prop := ∃ t l s, AppRel ex pb sz n N M w res g wr t l s

set_option maxRecDepth 100000 in
set_option maxHeartbeats 4000000 in
theorem app_any (ex : St → Tm × St) (pb sz n : Nat) (hxn : Nice ex) (hx : ExOK ex pb sz n) (hnb : n ≤ 2000000) (w : World) (s : St) (hp : PA w pb sz s) (hn : s.ws.length ≤ n) :
  Calls Tryz.prog 146 #[.pointer (some ⟨pb, 0, none⟩)] w (TermEnd pb sz (fun g => w.heap.size ≤ g) w (app sz ex s)) := by
 have hplt := hp.lt
 have l0 := Lies.new w 33 zC
 have hp1 := hp.alloc (.cells zC 33)
 have hk1 := (Kp.refl pb w).alloc (.cells zC 33)
 have ha := atom_any ex pb sz n hxn hx hnb _ s hp1 hn
 have hz : (w.alloc (.cells zC 33)).heap.size = w.heap.size + 1 := by simp
 obtain ⟨ie, hie, hiz, his⟩ := info39
 rcases hA : atom sz ex s with ⟨_ | t, s1⟩
 ·rw [app_none hA]
  rw [hA] at ha
  have HA := Lib.hid ha
  have HZ := Lib.hid hz
  unfold zC at l0 hk1
  clear ha hA hz hp1
  go_enter Tryz.func146, Tryz.ntmps146
  go_wp2_with fail
  refine HA.out.mono ?_
  rintro e w1 ⟨l, b, rfl, hb, ht, hpa, hkp⟩
  have hb' : b = false := hb.symm
  subst hb'
  have l1 := hkp.lies l0 (by omega)
  have lz := Lies.new w1 33 zC
  unfold zC at lz
  have hlen := ht.len
  have HL := Lib.hid hlen
  have hpa2 := hpa.alloc (.cells l.toArray 33)
  have hfa := fail_any 3 _ pb sz s1 hpa2
  have HF := Lib.hid hfa
  have l2 := l1.alloc (.cells l.toArray 33)
  have hk2 := (hk1.trans hkp).alloc (.cells l.toArray 33)
  clear hlen hfa
  go_wp2_with (first | (refine wpList_store_rowTo rfl 33 (.tmp 3) (.tmp 10) rfl rfl _ _ rfl rfl 33 _ lz (by rw [sz39]; simp [HL.out]) (by simp [HL.out]) ht.one ?_; rw [set_new rfl]))
  refine HF.out.mono ?_
  rintro e w3 ⟨rfl, hg3⟩
  have l3 := hg3.kp.lies l2 (by omega)
  go_wp2_with (first | (refine wpList_store_rowTo rfl 33 (.tmp 2) (.tmp 16) rfl rfl _ _ rfl rfl 33 _ l3 sz39 rfl (by kernel_rfl) ?_))
  refine bodyPost_ret (v := .agg (tmC 0 0 [] [] 0 (.slice none 0 0) (.slice none 0 0)).toArray) (results_cell_row rfl _ _ w.heap.size 33 _ (0, 0) _ rfl (l3.setRow _) Tryz.underlying33 rfl sz39) rfl ?_
  exact ⟨_, rfl, HT.leaf _ _ 0 0 [] [] 0, hg3.pa.setRow hplt _, (hk2.trans hg3.kp).setRow (Nat.le_refl _) _⟩
 ·rw [app_some hA]
  rw [hA] at ha
  have HA := Lib.hid ha
  have HZ := Lib.hid hz
  have hs1 := (nice_atom (sz := sz) hxn s).1
  rw [hA] at hs1
  have hs1' : s1.ws.length ≤ n := Nat.le_trans hs1 hn
  unfold zC at l0 hk1
  clear ha hA hz hp1 hs1
  go_enter Tryz.func146, Tryz.ntmps146
  go_wp2_with fail
  refine HA.out.mono ?_
  rintro e w1 ⟨l, b, rfl, hb, ht, hpa, hkp⟩
  have hb' : b = true := hb.symm
  subst hb'
  have l1 := hkp.lies l0 (by omega)
  have lz := Lies.new w1 33 zC
  unfold zC at lz
  have hlen := ht.len
  have HL := Lib.hid hlen
  have hsz1 : w.heap.size + 1 ≤ w1.heap.size := l1.lt
  have hst : AppRel ex pb sz n w.heap.size w1.heap.size w (appMore sz ex (s1.ws.length + 1) t s1) (s1.ws.length + 1) (w1.alloc (.cells l.toArray 33)) t l s1 :=
   ⟨⟨hpa.alloc _, (hk1.trans hkp).alloc _⟩, Lies.new _ _ _, l1.alloc _, (ht.lt.later (below_new _ _)).mono (fun k hk _ => by have h1 := hk.1; have h2 := hk.2; rw [HZ.out] at h1; omega), Nat.le_refl _, hs1', rfl⟩
  have ht1 := ht.one
  clear hlen hpa hkp l1 ht
  go_wp2_with (first | (refine wpList_store_rowTo rfl 33 (.tmp 3) (.tmp 10) rfl rfl _ _ rfl rfl 33 _ lz (by rw [sz39]; simp [HL.out]) (by simp [HL.out]) ht1 ?_; rw [set_new rfl]))
  clear lz HL ht1
  go_loopg [19] (s1.ws.length + 1) (fun g _ wr => AppAny ex pb sz n w.heap.size w1.heap.size w (appMore sz ex (s1.ws.length + 1) t s1) g wr)
  case atStart => exact ⟨_, _, _, hst⟩
  case round =>
   obtain ⟨t', l', s', hR⟩ := hrel
   have HR := Lib.hid hR
   have hbx := hR.box
   have hou := hR.out
   have ht' := hR.ht
   have hgo := hR.goes
   have hlen' := ht'.len
   have HL' := Lib.hid hlen'
   have ha' := atom_any ex pb sz n hxn hx hnb wr s' hgo.pa hR.ln
   have hat := ht'.at_
   unfold zC at hou
   clear hst hlen' hR
   rcases hA : atom sz ex s' with ⟨_ | t2, s2⟩
   ·rw [hA] at ha'
    have HA' := Lib.hid ha'
    have hres := HR.out.res
    obtain ⟨g', hg'⟩ : ∃ g', gk = g' + 1 := ⟨gk - 1, by have := HR.out.lg; omega⟩
    rw [hg', appMore_none hA] at hres
    have HRES := Lib.hid hres
    have HG := Lib.hid hg'
    clear ha' hA hres hg' hat
    go_wp2_with fail
    refine HA'.out.mono ?_
    rintro e w2 ⟨l2, b, rfl, hb, ht2, hpa2, hkp2⟩
    have hb' : b = false := hb.symm
    subst hb'
    have lz := Lies.new w2 33 zC
    unfold zC at lz
    have hlen2 := ht2.len
    have HL2 := Lib.hid hlen2
    have bx2 := (hkp2.lies hbx (by omega)).alloc (.cells l2.toArray 33)
    have ou2 := (hkp2.lies hou (by omega)).alloc (.cells l2.toArray 33)
    have ht3 := (ht'.kp hkp2 (fun k hk => by have := hk.1; omega)).later (below_new w2 (.cells l2.toArray 33))
    clear hlen2
    go_wp2_with (first | (refine wpList_store_rowTo rfl 33 (.tmp 5) (.tmp 20) rfl rfl _ _ rfl rfl 33 _ lz (by rw [sz39]; simp [HL2.out]) (by simp [HL2.out]) ht2.one ?_; rw [set_new rfl]) | (refine wpList_load_row rfl 33 (.tmp 3) rfl _ rfl 33 _ (0, 0) _ bx2 Tryz.underlying33 rfl (by rw [sz39]; simp [HL'.out]) ?_) | (refine wpList_store_rowTo rfl 33 (.tmp 2) (.tmp 24) rfl rfl _ _ rfl rfl 33 _ ou2 (by rw [sz39]; simp [HL'.out]) (by simp [HL'.out]) ht'.one ?_))
    refine bodyPost_ret (v := .agg l'.toArray) (results_cell_row rfl _ _ w.heap.size 33 _ (0, 0) _ rfl (ou2.setRow _) Tryz.underlying33 rfl (by rw [sz39]; simp [HL'.out])) rfl ?_
    rw [← HRES.out]
    refine ⟨l', rfl, HT.mono (HT.setRow ht3 (fun k hk => by have := hk.1; omega) _) (fun k hk _ => by have := hk.1; omega), (hpa2.alloc _).setRow hplt _, ((hgo.kp.trans hkp2).alloc _).setRow (Nat.le_refl _) _⟩
   ·rw [hA] at ha'
    have HA' := Lib.hid ha'
    have hres := HR.out.res
    obtain ⟨g', hg'⟩ : ∃ g', gk = g' + 1 := ⟨gk - 1, by have := HR.out.lg; omega⟩
    rw [hg', appMore_some hA] at hres
    have hless := atom_some (sz := sz) hxn hA
    have HRES := Lib.hid hres
    have HG := Lib.hid hg'
    have hlg := HR.out.lg
    have hln := HR.out.ln
    have hgk : g' + 1 = gk := hg'.symm
    clear ha' hA hres hg'
    go_wp2_with fail
    refine HA'.out.mono ?_
    rintro e w2 ⟨l2, b, rfl, hb, ht2, hpa2, hkp2⟩
    have hb' : b = true := hb.symm
    subst hb'
    have lz := Lies.new w2 33 zC
    unfold zC at lz
    have hlen2 := ht2.len
    have HL2 := Lib.hid hlen2
    have bx2 := (hkp2.lies hbx (by omega)).alloc (.cells l2.toArray 33)
    have ou2 := (hkp2.lies hou (by omega)).alloc (.cells l2.toArray 33)
    have bn2 := Lies.new w2 33 l2.toArray
    have ht3 := (ht'.lt.kp hkp2 (fun k hk => by have := hk.1.1; omega)).later (below_new w2 (.cells l2.toArray 33))
    have ht4 := ht2.lt.later (below_new w2 (.cells l2.toArray 33))
    have hc1 : (w2.alloc (.cells l2.toArray 33)).cell? ⟨w1.heap.size, 1, none⟩ = some (.int .i64 (t'.pos : Int)) := by rw [bx2.cell]; simpa using hat
    have hll : ∀ z ∈ [l', l2], z.length = 21 := by
     intro z hz
     simp only [List.mem_cons, List.not_mem_nil, or_false] at hz
     rcases hz with rfl | rfl
     ·exact HL'.out
     ·exact hlen2
    obtain ⟨M, hM⟩ : ∃ M, M = [l', l2].flatten := ⟨_, rfl⟩
    have HM := Lib.hid hM
    have hszr : wr.heap.size ≤ w2.heap.size := hkp2.size
    have hszb : w1.heap.size < wr.heap.size := hbx.lt
    have bx3 := bx2.alloc (.cells M.toArray 33)
    have ou3 := ou2.alloc (.cells M.toArray 33)
    clear hlen2 hM hat
    go_wp2_with (first | (refine wpList_store_rowTo rfl 33 (.tmp 5) (.tmp 20) rfl rfl _ _ rfl rfl 33 _ lz (by rw [sz39]; simp [HL2.out]) (by simp [HL2.out]) ht2.one ?_; rw [set_new rfl]) | (refine wpList_load_row rfl 33 (.tmp 3) rfl _ rfl 33 _ (0, 0) _ bx2 Tryz.underlying33 rfl (by rw [sz39]; simp [HL'.out]) ?_) | (refine wpList_load_row rfl 33 (.tmp 5) rfl _ rfl 33 _ (0, 0) _ bn2 Tryz.underlying33 rfl (by rw [sz39]; simp [HL2.out]) ?_) | (refine wpList_buildSlice rfl 24 33 2 _ rfl M.toArray ie (.agg zC) Tryz.underlying24 hie hiz (by rw [his]; decide) (by rw [his]; decide) (by rw [his, HM.out, Array.toList_map]; exact fill_terms [l', l2] hll ((Array.range (2 * 21)).map ((Value.agg zC).cells[· % (Value.agg zC).cells.size]!)) (by simp)) ?_) | (refine wpList_store_rowTo rfl 33 (.tmp 3) (.tmp 30) rfl rfl _ _ rfl rfl 33 _ bx3 sz39 (by simp [HL'.out]) (by kernel_rfl) ?_))
    go_roundg (gk - 1)
    case measure => omega
    case rel =>
     have hsn : (w2.alloc (.cells l2.toArray 33)).heap.size = w2.heap.size + 1 := by simp
     have hL : HT (((w2.alloc (.cells l2.toArray 33)).alloc (.cells M.toArray 33)).setRow w1.heap.size (tmC 6 t'.pos [] [] 0 (.slice (some ⟨w2.heap.size + 1, 0, none⟩) 2 2) (.slice none 0 0)).toArray) (fun k => w.heap.size < k ∧ k ≠ w1.heap.size) t' l' :=
      HT.mono (HT.setRow (ht3.later (below_new _ (.cells M.toArray 33))) (fun k hk => hk.1.2) _) (fun k hk _ => hk.1)
     have hRt : HT (((w2.alloc (.cells l2.toArray 33)).alloc (.cells M.toArray 33)).setRow w1.heap.size (tmC 6 t'.pos [] [] 0 (.slice (some ⟨w2.heap.size + 1, 0, none⟩) 2 2) (.slice none 0 0)).toArray) (fun k => w.heap.size < k ∧ k ≠ w1.heap.size) t2 l2 :=
      HT.mono (HT.setRow (ht4.later (below_new _ (.cells M.toArray 33))) (fun k hk => by have := hk.1; omega) _) (fun k hk _ => by have := hk.1; omega)
     have hrw : Rw (((w2.alloc (.cells l2.toArray 33)).alloc (.cells M.toArray 33)).setRow w1.heap.size (tmC 6 t'.pos [] [] 0 (.slice (some ⟨w2.heap.size + 1, 0, none⟩) 2 2) (.slice none 0 0)).toArray) (fun k => w.heap.size < k ∧ k ≠ w1.heap.size) 33 21 (.slice (some ⟨w2.heap.size + 1, 0, none⟩) 2 2) [l', l2] := by
      have h1 := Rw.lit (w2.alloc (.cells l2.toArray 33)) (fun k => w2.heap.size < k) 33 21 [l', l2] hll hsn (by omega) (n := 2) rfl (by unfold maxLen; omega)
      rw [← HM.out] at h1
      exact ⟨h1.1, (h1.2.same (fun k (hk : w2.heap.size < k) _ => heap_setRow _ _ _ _ (by omega))).mono (fun k (hk : w2.heap.size < k) _ => by omega)⟩
     refine ⟨.mk 6 t'.pos [] [] 0 [t', t2] [], tmC 6 t'.pos [] [] 0 (.slice (some ⟨w2.heap.size + 1, 0, none⟩) 2 2) (.slice none 0 0), s2, ?_⟩
     refine ⟨⟨((hpa2.alloc _).alloc _).setRow (by omega) _, (((hgo.kp.trans hkp2).alloc _).alloc _).setRow (by omega) _⟩, bx3.setRow _, ou3.farRow _ (by omega), ?_, by omega, by omega, ?_⟩
     ·refine HT.kids 6 t'.pos [] [] 0 hrw rfl ?_
      intro i tt c h1 h2
      match i, h1, h2 with
      | 0, h1, h2 => simp at h1 h2; subst h1 h2; exact hL
      | 1, h1, h2 => simp at h1 h2; subst h1 h2; exact hRt
      | i + 2, h1, h2 => simp at h1
     ·rw [show gk - 1 = g' by omega]
      exact HRES.out
end Go.Proofs.YtmodmojocclmaaaGreatDoor
