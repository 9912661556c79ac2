/- What is said of types, and then something else, where nothing is said of types before. -/
import Derived.Test.YtpbhndmfmnfeoaaGreatMg14
import Derived.Test.YtpbhndmfmnfeoaaGreatMg16
import Derived.Test.YtpbhndmfmnfeoaaGreatMg12
import Derived.Test.YtpbhndmfmnfeoaaGreatMg17
import Derived.Test.YtpbhndmfmnfeoaaGreatMg25
import Derived.Test.YtpbhndmfmnfeoaaGreatMg15
import Derived.Laws.IdiomRangeMap
import Derived.Deep.WholeRow
import Derived.Outline
import Derived.Deep.DeepCutAuto
import Derived.Deep.RegionHeld3
namespace Go.Proofs.YtpbhndmfmnfeoaaGreat.Ug
open Go.RowKit Go.Maps

set_option maxRecDepth 100000 in
set_option maxHeartbeats 8000000 in
theorem thenT_any (BX : Nat → Prop) (T : Int → Option Ty) (w : World) (vs vt : Value) (ms mt : Nat) (gs gt : GMap) (hs : SaidV (blank BX w) 6 vs ms gs) (ht : SaidV (blank BX w) 6 vt mt gt) (hgs : ∀ n, i64ok n → gs n = none) (hgt : TM (blank BX w) T gt) (hms : ms ≤ 10000) (hmt : mt ≤ 10000) (tv : Value) :
    Calls Tryz.prog 82 #[.agg #[vs], .agg #[vt], .func (.func 16) #[tv] #[]] w fun e w' => ∃ A n c, e = .returned (.agg #[.slice A n c]) ∧ (∀ wf, Kept (fun b => BX b ∧ b < w.heap.size) w' wf → ∃ g, SaidV wf 6 (.slice A n c) (ms + mt + 1) g ∧ TM wf T g) ∧ Below w.heap.size w w' := by
  have hkb : ∀ g, live (blank BX w) g → w.heap[g]? = (blank BX w).heap[g]? := fun g hg => (blank_at (blank_live hg).1).symm
  obtain ⟨A1, n1, c1, rfl⟩ := hs.one
  obtain ⟨A2, n2, c2, rfl⟩ := ht.one
  obtain ⟨zs, s1, s2, s3, s4, s5⟩ := hs.keepL hkb
  obtain ⟨zt, t1, t2, t3, t4, t5⟩ := ht.keepL hkb
  obtain ⟨W, hW⟩ : ∃ W, W = ((w.alloc (.cells #[.slice A1 n1 c1] 29)).alloc (.cells #[.slice A2 n2 c2] 29)).alloc (.cells #[.slice none 0 0] 29) := ⟨_, rfl⟩
  have hb : Below w.heap.size w W := by rw [hW]; exact (((Below.refl _ w).alloc (Nat.le_refl _) _).alloc (by simp) _).alloc (by simp; omega) _
  have k0 : Lies W w.heap.size 29 #[.slice A1 n1 c1] := by rw [hW]; exact ((Lies.new _ _ _).alloc _).alloc _
  have k1 : Lies W (w.heap.size + 1) 29 #[.slice A2 n2 c2] := by rw [hW]; exact (Lies.new' _ _ _ (by simp)).alloc _
  have k2 : Lies W (w.heap.size + 2) 29 #[.slice none 0 0] := by rw [hW]; exact Lies.new' _ _ _ (by simp)
  have hm1 := mergedT_any zt _ W (t1.keep hb.block) (fun l hl => (t2 l hl).later hb) (by omega) (by omega)
  have HW := Lib.hid hW
  have HB := Lib.hid hb
  have HK0 := Lib.hid k0
  have HK1 := Lib.hid k1
  have HK2 := Lib.hid k2
  have HM1 := Lib.hid hm1
  have HS1 := Lib.hid s1
  have HS2 := Lib.hid s2
  have HS3 := Lib.hid s3
  have HT3 := Lib.hid t3
  have HS4 := Lib.hid s4
  have HS5 := Lib.hid s5
  have HT5 := Lib.hid t5
  have HGS := Lib.hid hgs
  have HGT := Lib.hid hgt
  clear hm1 hW hb k0 k2 s1 s2 s3 s4 s5 t1 t2 t3 t4 t5 hgs hgt hs ht hkb
  have x1 := k1.cell 0
  rw [HW.out] at x1
  clear k1
  go_enter Tryz.func82, Tryz.ntmps82
  go_wp2_with fail
  rw [← HW.out]
  refine HM1.out.mono ?_
  rintro e w1 ⟨rfl, hM1, hb1⟩
  have hB1 := HB.out.trans (hb1.mono HB.out.size)
  have hx0 := (HK0.out.later hb1).cell 0
  have hmg := mergedT_any zs _ w1 (HS1.out.keep hB1.block) (fun l hl => (HS2.out l hl).later hB1) (by have := HS3.out; omega) (by have := HS4.out; omega)
  have HMG := Lib.hid hmg
  have HB1 := Lib.hid hB1
  have HK2 := Lib.hid (HK2.out.later hb1)
  have HM1 := Lib.hid hM1
  have hlt1 : W.heap.size < w1.heap.size := hM1.lt
  clear hmg hB1 hb1 hM1 x1 HK0 HK1
  go_wp2_with fail
  refine HMG.out.mono ?_
  rintro e w2 ⟨rfl, hM2, hb2⟩
  have HM1b := Lib.hid (HM1.out.later hb2)
  have HK2 := Lib.hid (HK2.out.later hb2)
  have HB2 := Lib.hid (HB1.out.trans (hb2.mono HB1.out.size))
  have hlt2 : w1.heap.size < w2.heap.size := hM2.lt
  obtain ⟨Ds, hos, hss⟩ := hM2
  have hsz : Maps.size Ds ≤ lySum zs := by
    obtain ⟨es, clock, _, _, hs, rfl⟩ := hos
    rw [Maps.size_eq, length_sorted]
    simpa using hs
  have HSZ := Lib.hid hsz
  have HSS := Lib.hid hss
  have HW1 := Lib.hid HB.out.size
  clear hsz hss hb2 HMG HM1 hx0
  go_wp2_with (first
    | (at_range; refine wpList_range_own _ rfl _ 129 rfl 3 44 keyedI Tryz.underlying129 (RV 6) _ _ _ rfl hos ?_; intro w3 hrg0 hg0 hs0)
    | go_in)
  go_frame
  have HG0 := Lib.hid hg0
  have HB3 := Lib.hid (HB2.out.grown hg0 HB2.out.size (fun j hj => by cases hj))
  have HM3 := Lib.hid (HM1b.out.keep (hg0.block _ HM1b.out.lt (by simp)))
  have HK3 := Lib.hid (show Lies w3 (w.heap.size + 2) _ _ from HK2.out.grown hg0 (by simp))
  have HSI := Lib.hid hs0
  clear hg0 hs0 hos HM1b HK2
  go_loopw [8] (fun _ wr => ∃ (left : Lit → Bool) (cnt : Nat), wr.ranges Tryz.prog 3 (RV 6) w1.heap.size w2.heap.size (lySum zs) Ds left cnt ∧
      MapI wr 6 W.heap.size (lySum zt) (lyOver zt) ∧ Lies wr (w.heap.size + 2) 29 #[.slice none 0 0] ∧ w3.heap.size ≤ wr.heap.size ∧ Below w.heap.size w wr)
    (fun _ wr => wr.rangeLeft w1.heap.size w2.heap.size)
  case atStart =>
    exact ⟨_, _, hrg0, HM3.out, HK3.out, Nat.le_refl _, HB3.out⟩
  case round =>
    obtain ⟨left, cnt, hrg, hout, hl2, hz3, hbw⟩ := hrel
    have hrlt := hrg.lt
    have HRG := Lib.hid hrg
    have HOUT := Lib.hid hout
    have HL2 := Lib.hid hl2
    have HZ3 := Lib.hid hz3
    have HBW := Lib.hid hbw
    clear hout hl2 hz3 hbw
    go_wp2_with (first
      | (at_next; refine wpList_next_ranges _ rfl _ rfl 3 keyedI (RV 6) (Value.int .i64) Value.agg (fun key kl hkey => by obtain ⟨x, rfl, _⟩ := Maps.keyOf_int_inv Tryz.underlying3 hkey; exact ⟨x, rfl⟩) (fun v y hv => by obtain ⟨cs, h, _⟩ := RV_inv hv; exact ⟨cs, h⟩) _ _ _ _ _ _ rfl hrg ?_ ?_)
      | go_in)
    · intro hc0 hl0
      clear hrg HRG hrg0
      obtain ⟨W7, hW7⟩ : ∃ X, X = wr.alloc (.cells #[.map (some W.heap.size)] 129) := ⟨_, rfl⟩
      have hb7 : Below wr.heap.size wr W7 := by rw [hW7]; exact below_new wr _
      have m2 := HL2.out.later hb7
      have mc0 := m2.cell 0
      have mf0 := m2.free 0
      have ml := m2.lt
      have hwr2 := HL2.out.lt
      clear m2 hb7
      rw [hW7] at mc0 mf0 ml
      clear hW7
      go_wp2_with fail
      obtain ⟨Wz, hWz⟩ : ∃ X, X = (wr.setCell ⟨w.heap.size + 1 + 1, 0, none⟩ (.slice (some ⟨wr.heap.size, 0, none⟩) 1 1)).alloc (.cells #[.map (some W.heap.size)] 129) := ⟨_, rfl⟩
      rw [← hWz]
      have nz : Lies Wz (w.heap.size + 2) 29 #[.slice (some ⟨wr.heap.size, 0, none⟩) 1 1] := by rw [hWz]; exact (HL2.out.set 0 _).alloc _
      have nm : Lies Wz wr.heap.size 129 #[.map (some W.heap.size)] := by rw [hWz]; exact Lies.new' _ _ _ (by simp [World.setCell])
      have hfz : ∀ i, i ≠ w.heap.size + 2 → i < wr.heap.size → Wz.heap[i]? = wr.heap[i]? := fun i h1 h2 => by
        rw [hWz, Below.heap_alloc _ _ i (by simpa [World.setCell] using h2)]
        exact Below.heap_setCell _ ⟨w.heap.size + 1 + 1, 0, none⟩ _ i h1
      have hsz : Wz.heap.size = wr.heap.size + 1 := by rw [hWz]; simp [World.setCell]
      have hbz : Below w.heap.size w Wz := by
        rw [hWz]
        exact (HBW.out.setCell (p := ⟨w.heap.size + 1 + 1, 0, none⟩) (by show w.heap.size ≤ w.heap.size + 1 + 1; omega) _).alloc (by simp [World.setCell]; omega) _
      refine bodyPost_ret (v := .agg #[.slice (some ⟨wr.heap.size, 0, none⟩) 1 1]) (results_cell_row rfl _ _ (w.heap.size + 2) 29 _ (0, 0) _ rfl nz Tryz.underlying29 rfl (by kernel_rfl)) rfl ?_
      refine ⟨_, _, _, rfl, ?_, hbz⟩
      intro wf hkf0
      have hkf : Kept (fun b => BX b ∧ b < w.heap.size) Wz wf := hkf0
      clear hkf0 hWz
      have hWs := HW1.out
      have hz3 := HZ3.out
      have hsi := HSI.out
      have hWsz : W.heap.size = w.heap.size + 3 := by rw [HW.out]; simp
      have far : ∀ i, w.heap.size + 2 < i → i < wr.heap.size → wf.heap[i]? = wr.heap[i]? := fun i h1 h2 =>
        (hkf.2 i (by omega) (fun e => by have := e.2; omega)).trans (hfz i (by omega) h2)
      refine ⟨lyOver zt, said_one1 (HOUT.out.keep (far _ (by omega) HOUT.out.lt)) ?_ (by have := HS3.out; have := HT3.out; omega) (by omega), fun n hn => ?_⟩
      · exact (World.cell?_of_block (a := ⟨wr.heap.size, 0, none⟩) (hkf.2 wr.heap.size (by omega) (fun e => by have := e.2; omega))).trans (nm.cell 0)
      · have h := TM.keepL (w' := wf) HGT.out (fun g hg => by
          obtain ⟨h1, h2⟩ := blank_live hg
          rw [blank_at (X := BX) (w := w) h1, hkf.2 g (by have := HBW.out.size; omega) (fun e => h1 e.1), hfz g (by omega) (by have := HBW.out.size; omega)]
          exact HBW.out.block g h2) n hn
        rw [← HT5.out n hn] at h
        exact h
    · intro x c kl yd yp w4 cnt1 hkey hlx hv hat hrg1 hlt hg1 hs1 hen
      obtain ⟨x', ex, rfl, hwx⟩ := Maps.keyOf_int_inv Tryz.underlying3 hkey
      cases ex
      obtain ⟨cs', ec, hfit, hyd⟩ := RV_inv hv
      cases ec
      cases hyd
      have h := (HSS.out x hwx).1.1
      rw [show Ds.atKey (kI x) .nil = _ from hat .nil, HS5.out x hwx, HGS.out x hwx] at h
      exact absurd ((hv_inj (a := some c) h).symm) (by simp)
end Go.Proofs.YtpbhndmfmnfeoaaGreat.Ug

/- What was said, and then something else, at once: where nothing is said of types before, and nothing of the variables of what was said. -/
namespace Go.Proofs.YtpbhndmfmnfeoaaGreat.Ug
open Go.RowKit

set_option maxRecDepth 100000 in
set_option maxHeartbeats 8000000 in
theorem then_any (BX : Nat → Prop) (T : Int → Option Ty) (w : World) (sv nv : Value) (m m' : Nat) (R R2 : Int → Option (List Str × Int)) (hs : SubV (blank BX w) sv m T0 R) (hn : SubV (blank BX w) nv m' T R2) (hm : m ≤ 10000) (hm' : m' ≤ 10000) (hcl : ∀ n r, i64ok n → R n = some r → insR R2 r.2 = none) :
    Calls Tryz.prog 66 #[sv, nv] w fun e w' => ∃ A1 n1 c1 A2 n2 c2, e = .returned (.agg #[.slice A1 n1 c1, .slice A2 n2 c2]) ∧ (∀ wf, Kept (fun b => BX b ∧ b < w.heap.size) w' wf → SubV wf (.agg #[.slice A1 n1 c1, .slice A2 n2 c2]) (m + m' + 1) T (thenF R R2)) ∧ Below w.heap.size w w' := by
  have hn0 := hn
  obtain ⟨vt, vr, gt, gr, rfl, hst, hsr, htm, hrm⟩ := hs
  obtain ⟨A1, n1, c1, rfl⟩ := hst.one
  obtain ⟨A2, n2, c2, rfl⟩ := hsr.one
  obtain ⟨ut, ur, kt, kr, rfl, hut, hur, kum, kum2⟩ := hn
  obtain ⟨A3, n3, c3, rfl⟩ := hut.one
  obtain ⟨A4, n4, c4, rfl⟩ := hur.one
  obtain ⟨W, hW⟩ : ∃ W, W = ((w.alloc (.cells #[.slice A1 n1 c1, .slice A2 n2 c2] 34)).alloc (.cells #[.slice A3 n3 c3, .slice A4 n4 c4] 34)).alloc (.cells #[.slice none 0 0, .slice none 0 0] 34) := ⟨_, rfl⟩
  have hb : Below w.heap.size w W := by rw [hW]; exact (((Below.refl _ w).alloc (Nat.le_refl _) _).alloc (by simp) _).alloc (by simp; omega) _
  have k0 : Lies W w.heap.size 34 #[.slice A1 n1 c1, .slice A2 n2 c2] := by rw [hW]; exact ((Lies.new _ _ _).alloc _).alloc _
  have k1 : Lies W (w.heap.size + 1) 34 #[.slice A3 n3 c3, .slice A4 n4 c4] := by rw [hW]; exact (Lies.new' _ _ _ (by simp)).alloc _
  have k2 : Lies W (w.heap.size + 2) 34 #[.slice none 0 0, .slice none 0 0] := by rw [hW]; exact Lies.new' _ _ _ (by simp)
  have hWsz : W.heap.size = w.heap.size + 3 := by rw [hW]; simp
  have hc1 : ∀ X : World, Below W.heap.size W X → _ := fun X hx => thenT_any (fun b => BX b ∨ w.heap.size ≤ b) T X _ _ m m' gt kt (hst.keepL (blank_later (hb.trans (hx.mono hb.size)))) (hut.keepL (blank_later (hb.trans (hx.mono hb.size)))) (fun n hn => htm n hn) (kum.keepL (blank_later (hb.trans (hx.mono hb.size)))) hm hm' (.agg #[.slice A3 n3 c3, .slice A4 n4 c4])
  have hc2 : ∀ X : World, Below W.heap.size W X → _ := fun X hx => thenR_any (fun b => BX b ∨ w.heap.size ≤ b) X _ _ m m' gr kr R R2 (hsr.keepL (blank_later (hb.trans (hx.mono hb.size)))) (hur.keepL (blank_later (hb.trans (hx.mono hb.size)))) (hrm.keepL (blank_later (hb.trans (hx.mono hb.size)))) (kum2.keepL (blank_later (hb.trans (hx.mono hb.size)))) hm hm' (.agg #[.slice A3 n3 c3, .slice A4 n4 c4])
    (fun Y r l hy hr hl => by
      obtain ⟨lv, rfl, hlv, hrv⟩ := hl
      have hbY : Below w.heap.size w Y := (hb.trans (hx.mono hb.size)).trans (hy.mono (Nat.le_trans hb.size hx.size))
      obtain ⟨n, hn, hR⟩ := hr
      exact applyRow_any Y _ m' T R2 (hn0.keepL (blank_self hbY)) (by omega) lv r.1 r.2 hlv hrv (hcl n r hn hR))
  have HW := Lib.hid hW
  have HB := Lib.hid hb
  have HK := Lib.hid (show ∀ X : World, Below W.heap.size W X → (X.cell? ⟨w.heap.size, 0, none⟩ = some (.slice A1 n1 c1) ∧ X.cell? ⟨w.heap.size, 1, none⟩ = some (.slice A2 n2 c2)) ∧ X.cell? ⟨w.heap.size + 1, 0, none⟩ = some (.slice A3 n3 c3) ∧ X.cell? ⟨w.heap.size + 1, 1, none⟩ = some (.slice A4 n4 c4) from
    fun X hx => ⟨⟨(k0.later hx).cell 0, (k0.later hx).cell 1⟩, (k1.later hx).cell 0, (k1.later hx).cell 1⟩)
  have HK4 := Lib.hid (show ∀ X : World, Below W.heap.size W X → ∀ a b : Value, (((X.setCell ⟨w.heap.size + 1 + 1, 0, none⟩ a).setCell ⟨w.heap.size + 1 + 1, 1, none⟩ b).cell? ⟨w.heap.size, 0, none⟩ = some (.slice A1 n1 c1) ∧ ((X.setCell ⟨w.heap.size + 1 + 1, 0, none⟩ a).setCell ⟨w.heap.size + 1 + 1, 1, none⟩ b).cell? ⟨w.heap.size, 1, none⟩ = some (.slice A2 n2 c2)) ∧ ((X.setCell ⟨w.heap.size + 1 + 1, 0, none⟩ a).setCell ⟨w.heap.size + 1 + 1, 1, none⟩ b).cell? ⟨w.heap.size + 1, 0, none⟩ = some (.slice A3 n3 c3) ∧ ((X.setCell ⟨w.heap.size + 1 + 1, 0, none⟩ a).setCell ⟨w.heap.size + 1 + 1, 1, none⟩ b).cell? ⟨w.heap.size + 1, 1, none⟩ = some (.slice A4 n4 c4) from
    fun X hx a b => by
      have j0 := ((k0.later hx).far (p := ⟨w.heap.size + 1 + 1, 0, none⟩) (by show w.heap.size ≠ w.heap.size + 1 + 1; omega) a).far (p := ⟨w.heap.size + 1 + 1, 1, none⟩) (by show w.heap.size ≠ w.heap.size + 1 + 1; omega) b
      have j1 := ((k1.later hx).far (p := ⟨w.heap.size + 1 + 1, 0, none⟩) (by show w.heap.size + 1 ≠ w.heap.size + 1 + 1; omega) a).far (p := ⟨w.heap.size + 1 + 1, 1, none⟩) (by show w.heap.size + 1 ≠ w.heap.size + 1 + 1; omega) b
      exact ⟨⟨j0.cell 0, j0.cell 1⟩, j1.cell 0, j1.cell 1⟩)
  have HK2 := Lib.hid k2
  have HC1 := Lib.hid hc1
  have HC2 := Lib.hid hc2
  have HWS := Lib.hid hWsz
  have HTM := Lib.hid htm
  clear hW hb k0 k1 k2 hc1 hc2 hWsz hst hsr htm hrm hut hur kum kum2 hn0 hcl
  go_enter Tryz.func66, Tryz.ntmps66
  go_wp2_with fail
  rw [← HW.out]
  go_region_held3 (fun X => (X.cell? ⟨w.heap.size, 0, none⟩ = some (.slice A1 n1 c1) ∧ X.cell? ⟨w.heap.size, 1, none⟩ = some (.slice A2 n2 c2)) ∧ X.cell? ⟨w.heap.size + 1, 0, none⟩ = some (.slice A3 n3 c3) ∧ X.cell? ⟨w.heap.size + 1, 1, none⟩ = some (.slice A4 n4 c4))
    (first | exact HK.out _ (Below.refl _ _).drew | exact HK.out _ hb3 | exact HK.out _ hb4 | exact HK4.out _ hb4 _ _)
    (first
      | (go_at_call 82; refine (HC1.out _ (Below.refl _ _).drew).mono ?_; rintro e x3 ⟨A5, n5, c5, rfl, hn5, hba⟩; have hb3 : Below W.heap.size W x3 := (Below.refl _ _).drew.trans hba; have HN5 := Lib.hid hn5; clear hba hn5)
      | (go_at_call 83; refine (HC2.out _ hb3).mono ?_; rintro e x4 ⟨A6, n6, c6, rfl, hn6, hba⟩; have HB4 := Lib.hid hba; have hb4 : Below W.heap.size W x4 := hb3.trans (hba.mono hb3.size); have HB34 := Lib.hid (show x3.heap.size ≤ x4.heap.size from hba.size); have n2' := HK2.out.later hb4; have q0 := n2'.cell 0; have q1 := n2'.cell 1; have f0 := n2'.free 0; have f1 := n2'.free 1; have l2 := n2'.lt; have HN6 := Lib.hid hn6; clear hba hn6))
  all_goals
    go_wp2_with fail
    obtain ⟨Z, hZ⟩ : ∃ Z, Z = (x4.setCell ⟨w.heap.size + 1 + 1, 0, none⟩ (.slice A5 n5 c5)).setCell ⟨w.heap.size + 1 + 1, 1, none⟩ (.slice A6 n6 c6) := ⟨_, rfl⟩
    rw [← hZ]
    have nz : Lies Z (w.heap.size + 2) 34 #[.slice A5 n5 c5, .slice A6 n6 c6] := by rw [hZ]; exact (n2'.set 0 _).set 1 _
    have hzz : Z.heap.size = x4.heap.size := by rw [hZ]; simp [World.setCell]
    have hfz : ∀ i, i ≠ w.heap.size + 2 → Z.heap[i]? = x4.heap[i]? := fun i h1 => by
      rw [hZ]
      exact (Below.heap_setCell _ ⟨w.heap.size + 1 + 1, 1, none⟩ _ i h1).trans (Below.heap_setCell _ ⟨w.heap.size + 1 + 1, 0, none⟩ _ i h1)
    have hbz : Below w.heap.size w Z := by
      rw [hZ]
      exact ((HB.out.trans (hb4.mono HB.out.size)).setCell (p := ⟨w.heap.size + 1 + 1, 0, none⟩) (by show w.heap.size ≤ w.heap.size + 1 + 1; omega) _).setCell (p := ⟨w.heap.size + 1 + 1, 1, none⟩) (by show w.heap.size ≤ w.heap.size + 1 + 1; omega) _
    refine bodyPost_ret (v := .agg #[.slice A5 n5 c5, .slice A6 n6 c6]) (results_cell_row rfl _ _ (w.heap.size + 2) 34 _ (0, 0) _ rfl nz Tryz.underlying34 rfl (by kernel_rfl)) rfl ?_
    refine ⟨_, _, _, _, _, _, rfl, fun wf hkf0 => ?_, hbz⟩
    have hkf : Kept (fun b => BX b ∧ b < w.heap.size) Z wf := hkf0
    have hws := HWS.out
    have h3s := HB34.out
    have h3w := hb3.size
    have hzs := hkf.1
    have far : ∀ b, b < x4.heap.size → ¬ (BX b ∧ b < w.heap.size) → b ≠ w.heap.size + 2 → wf.heap[b]? = x4.heap[b]? := fun b h1 h2 h3 => (hkf.2 b (by omega) h2).trans (hfz b h3)
    obtain ⟨g5, s5, t5⟩ := HN5.out wf ⟨by omega, fun b hb hn => (far b (by omega) (fun e => hn ⟨.inl e.1, by show b < W.heap.size; omega⟩) (fun e => hn ⟨.inr (by omega), by show b < W.heap.size; omega⟩)).trans (HB4.out.block b hb)⟩
    obtain ⟨g6, s6, t6⟩ := HN6.out wf ⟨by omega, fun b hb hn => far b hb (fun e => hn ⟨.inl e.1, by show b < x3.heap.size; omega⟩) (fun e => hn ⟨.inr (by omega), by show b < x3.heap.size; omega⟩)⟩
    exact ⟨_, _, g5, g6, rfl, s5, s6, t5, t6⟩
end Go.Proofs.YtpbhndmfmnfeoaaGreat.Ug

/- The variables of which something is said; that no type that is said is large, where each has few pieces. -/
namespace Go.Proofs.YtpbhndmfmnfeoaaGreat.Ug
open Go.RowKit Go.Maps Go.Sort Go.Shelf

/-- Numbers in a list. -/
def IRow (w : World) (A : Option Addr) (n c : Nat) (xs : List Int) : Prop := (∀ x ∈ xs, i64ok x) ∧ xs.length = n ∧ n ≤ c ∧ n ≤ maxLen ∧ ∀ (j : Nat) x, xs[j]? = some x → ∃ g, A = some ⟨g, 0, none⟩ ∧ w.cell? ⟨g, j, none⟩ = some (.int .i64 x)
theorem IRow.later {w w' : World} {A : Option Addr} {n c : Nat} {xs : List Int} (h : IRow w A n c xs) (hb : Below w.heap.size w w') : IRow w' A n c xs := by
  obtain ⟨h0, h1, h2, h3, h4⟩ := h
  refine ⟨h0, h1, h2, h3, fun j x hx => ?_⟩
  obtain ⟨g, e, hc⟩ := h4 j x hx
  exact ⟨g, e, (hb.cell (p := ⟨g, j, none⟩) (World.block_lt_of_cell? w _ hc)).trans hc⟩
theorem irow_of {w : World} {B : Nat} {A : Option Addr} {n c k : Nat} {xs : List Int} (h : w.ownsRow B 3 1 (.slice A n c) k (xs.map encZ)) (hx : ∀ x ∈ xs, i64ok x) : IRow w A n c xs := by
  have hl : xs.length = k := by have := h.1; simpa using this
  rcases own_cells h with ⟨h0, h1⟩ | ⟨g, cap, e1, e2, e3, _, e4⟩
  · injection h0 with a b d
    subst a b d h1
    have : xs = [] := List.eq_nil_of_length_eq_zero hl
    subst this
    exact ⟨hx, rfl, Nat.le_refl _, Nat.zero_le _, fun j x hj => by simp at hj⟩
  · injection e1 with a b d
    subst a b d
    refine ⟨hx, hl, e2, Nat.le_trans e2 e3, fun j x hj => ⟨g, rfl, ?_⟩⟩
    exact e4 j (encZ x) (by rw [List.getElem?_map, hj]; rfl)
set_option maxRecDepth 100000 in
set_option maxHeartbeats 4000000 in
theorem varsT_any (w : World) (v : Value) (m : Nat) (g : GMap) (hs : SaidV w 6 v m g) (hm : m ≤ 100000) :
    Calls Tryz.prog 103 #[.agg #[v]] w fun e w' => ∃ A n c xs, e = .returned (.slice A n c) ∧ IRow w' A n c xs ∧ Below w.heap.size w w' := by
  obtain ⟨zs, h1, h2, h3, h4, h5⟩ := hs
  obtain ⟨A0, n0, c0, rfl⟩ : ∃ A n c, v = .slice A n c := by rcases h1 with ⟨rfl, _⟩ | ⟨_, _, rfl, _⟩ <;> exact ⟨_, _, _, rfl⟩
  obtain ⟨W1, hW1⟩ : ∃ W, W = w.alloc (.cells #[.slice A0 n0 c0] 29) := ⟨_, rfl⟩
  have hbn : Below w.heap.size w W1 := by rw [hW1]; exact below_new w _
  have hmg := mergedT_any zs (.slice A0 n0 c0) W1 (h1.keep hbn.block) (fun l hl => (h2 l hl).later hbn) (by omega) (by omega)
  have HW1 := Lib.hid hW1
  have HMG := Lib.hid ((callsIn_wide (n := 5)).2 hmg)
  have HBN := Lib.hid hbn
  have HSUM := Lib.hid (show lySum zs ≤ 100000 by omega)
  have H5 := Lib.hid h5
  clear hW1 hmg hbn h1 h2 h3 h4 h5
  refine (callsIn_wide (n := 6)).1 ?_
  have cK : ∀ mb W, CallsIn Fence.wide 5 Tryz.prog 118 #[.map mb] W fun e w' => e = .returned (.func (.func 124) #[] #[.pointer (some ⟨W.heap.size, 0, none⟩)]) ∧ w' = W.alloc (.cells #[.map mb] 129) := fun mb W => AnyZI.keys_in Tryz.layKeysT Fence.wide 5 trivial rfl mb W
  have cS : ∀ (W : World) (b nn : Nat) (D0 : DataW Value), W.ownsMap Tryz.prog 3 (RV 6) b nn D0 → nn ≤ 100000 → CallsIn Fence.wide 5 Tryz.prog 117 #[.func (.func 124) #[] #[.pointer (some ⟨W.heap.size, 0, none⟩)]] (W.alloc (.cells #[.map (some b)] 129)) fun e w' => ∃ (v : Value) (ss : List Int), e = .returned v ∧ ss.Perm (intKeys D0) ∧
      w'.ownsRow (W.alloc (.cells #[.map (some b)] 129)).heap.size 3 1 v ss.length ((ss.mergeSort (fun x y => decide (x ≤ y))).map encZ) ∧ (v = .slice none 0 0 ↔ ss = []) ∧ Below (W.alloc (.cells #[.map (some b)] 129)).heap.size (W.alloc (.cells #[.map (some b)] 129)) w' := by
    intro W b nn D0 hown hnn
    have hbl := hown.lt
    have hsz : Maps.size D0 ≤ nn := by
      obtain ⟨es, clock, _, _, hs, rfl⟩ := hown
      rw [Maps.size_eq, length_sorted]
      simpa using hs
    have hseq : SeqGives Fence.wide 2 Tryz.prog 124 #[.pointer (some ⟨W.heap.size, 0, none⟩)] encZ (fun ss => ss.Perm (intKeys D0)) (Maps.size D0) (W.alloc (.cells #[.map (some b)] 129)) :=
      AnyZI.keys_gives (ρ := Tryz.layKeysT_ren) { Tryz.layKeysT with } Fence.wide _ trivial rfl (by omega) W.heap.size b nn D0 _ (by simp) (by simp) (by
        obtain ⟨es, clock, hb, Ft, hs, hD⟩ := hown
        exact ⟨es, clock, (Below.heap_alloc _ _ b hbl).trans hb, Ft, hs, hD⟩)
    exact AnyZI.sorted_in Tryz.laySorted Fence.wide 5 trivial trivial trivial trivial rfl (by omega) (sortsI _) (enters_of Tryz.func123 (by kernel_rfl) rfl) 124 #[.pointer (some ⟨W.heap.size, 0, none⟩)] trivial (enters_of Tryz.func124 (by kernel_rfl) rfl) _ _ (by unfold maxLen; omega) (by omega) _ hseq
  have hfM : Fence.wide.fn 89 := trivial
  have hfK : Fence.wide.fn 118 := trivial
  have hfS : Fence.wide.fn 117 := trivial
  refine callsIn_of_wp Tryz.func103 rfl trivial ?_ rfl
  simp only [Tryz.ntmps103, List.size_toArray, List.length_cons, List.length_nil, Nat.reduceAdd, Nat.reduceSub, Array.replicate_succ, Array.replicate_zero, List.push_toArray, List.append_toArray, List.nil_append, List.cons_append]
  gi_wp2_with (first
    | (gi_at_call 89; rw [← HW1.out]; refine HMG.out.mono ?_; rintro e w1 ⟨rfl, hM1, hb1⟩; obtain ⟨D0, hown, hsays⟩ := hM1; have HS1 := Lib.hid (cS w1 _ _ D0 hown HSUM.out); have HSAYS := Lib.hid hsays; have HOWN := Lib.hid hown; have HB1 := Lib.hid hb1; clear hown hsays hb1)
    | (gi_at_call 118; refine (cK _ _).mono ?_; rintro e w2 ⟨rfl, rfl⟩)
    | (gi_at_call 117; refine HS1.out.mono ?_; rintro e w3 ⟨v3, ss, rfl, hS, hrow, hnil, hb3⟩; obtain ⟨A3, n3, c3, rfl⟩ := own_slice hrow; have HS := Lib.hid hS; have HROW := Lib.hid hrow; have HB3 := Lib.hid hb3; clear hS hrow hnil hb3))
  go_ret
  refine ⟨A3, n3, c3, _, rfl, irow_of HROW.out (fun x hx => ?_), HBN.out.trans (HB1.out.trans (((below_new w1 _).trans (HB3.out.mono (by simp))).mono HB1.out.size) |>.mono HBN.out.size)⟩
  have h1 : x ∈ ss := (List.mergeSort_perm ss _).mem_iff.1 hx
  have h2 : x ∈ intKeys D0 := HS.out.mem_iff.1 h1
  exact intKeys_wf HOWN.out Tryz.underlying3 x h2
set_option maxRecDepth 100000 in
set_option maxHeartbeats 4000000 in
theorem subVars_any (w : World) (sv : Value) (m : Nat) (T : Int → Option Ty) (R : Int → Option (List Str × Int)) (hs : SubV w sv m T R) (hm : m ≤ 100000) :
    Calls Tryz.prog 77 #[sv] w fun e w' => ∃ A n c xs A2 n2 c2, e = .returned (.tuple #[.slice A n c, .slice A2 n2 c2]) ∧ IRow w' A n c xs ∧ Below w.heap.size w w' := by
  obtain ⟨vt, vr, gt, gr, rfl, hst, hsr, htm, _⟩ := hs
  obtain ⟨A1, n1, c1, rfl⟩ := hst.one
  obtain ⟨A2, n2, c2, rfl⟩ := hsr.one
  obtain ⟨W, hW⟩ : ∃ W, W = w.alloc (.cells #[.slice A1 n1 c1, .slice A2 n2 c2] 34) := ⟨_, rfl⟩
  have hb : Below w.heap.size w W := by rw [hW]; exact below_new w _
  have n0 : Lies W w.heap.size 34 #[.slice A1 n1 c1, .slice A2 n2 c2] := by rw [hW]; exact Lies.new _ _ _
  have HW := Lib.hid hW
  have HB := Lib.hid hb
  have HN := Lib.hid n0
  have HK := Lib.hid (show ∀ X : World, Below W.heap.size W X → X.cell? ⟨w.heap.size, 0, none⟩ = some (.slice A1 n1 c1) ∧ X.cell? ⟨w.heap.size, 1, none⟩ = some (.slice A2 n2 c2) from fun X hx => ⟨(n0.later hx).cell 0, (n0.later hx).cell 1⟩)
  have HC1 := Lib.hid (fun (X : World) (hx : Below W.heap.size W X) => varsT_any X _ m gt (hst.keep (hb.trans (hx.mono hb.size)).block) hm)
  have HC2 := Lib.hid (fun (X : World) (hx : Below W.heap.size W X) => varsR_any X _ m gr (hsr.keep (hb.trans (hx.mono hb.size)).block) hm)
  clear hW hb n0 hst hsr htm
  go_enter Tryz.func77, Tryz.ntmps77
  go_wp2_with fail
  rw [← HW.out]
  go_region_held3 (fun X => X.cell? ⟨w.heap.size, 0, none⟩ = some (.slice A1 n1 c1) ∧ X.cell? ⟨w.heap.size, 1, none⟩ = some (.slice A2 n2 c2))
    (first | exact HK.out _ (Below.refl _ _).drew | exact HK.out _ hb3 | exact HK.out _ hb4)
    (first
      | (go_at_call 103; refine (HC1.out _ (Below.refl _ _).drew).mono ?_; rintro e x3 ⟨A3, n3, c3, xs, rfl, hn3, hba⟩; have hb3 : Below W.heap.size W x3 := (Below.refl _ _).drew.trans hba; have HN3 := Lib.hid hn3; clear hba hn3)
      | (go_at_call 104; refine (HC2.out _ hb3).mono ?_; rintro e x4 ⟨A4, n4, c4, rfl, _, hba⟩; have hb4 : Below W.heap.size W x4 := hb3.trans (hba.mono hb3.size); have HN4 := Lib.hid (HN3.out.later hba); clear hba))
  go_wp2
  go_ret2
  exact ⟨A3, n3, c3, xs, A4, n4, c4, rfl, HN4.out, HB.out.trans (hb4.mono HB.out.size)⟩

set_option maxRecDepth 100000 in
set_option maxHeartbeats 4000000 in
theorem large_any (t : Ty) (w : World) (l : List Value) (hsz : t.size ≤ 200) (h : TRV w t l) :
    Calls Tryz.prog 81 #[.agg l.toArray] w fun e w' => e = .returned (.bool false) ∧ Below w.heap.size w w' := by
  obtain ⟨k1, nm1, v1, A1, n1, c1, B1, m1, d1, rv1, rfl⟩ := h.form
  obtain ⟨W, hW⟩ : ∃ W, W = w.alloc (.cells #[.int .i64 k1, .string (ba nm1), .int .i64 v1, .slice A1 n1 c1, .slice B1 m1 d1, .int .i64 rv1] 44) := ⟨_, rfl⟩
  have hb : Below w.heap.size w W := by rw [hW]; exact below_new w _
  have ka : Lies W w.heap.size 44 #[.int .i64 k1, .string (ba nm1), .int .i64 v1, .slice A1 n1 c1, .slice B1 m1 d1, .int .i64 rv1] := by rw [hW]; exact Lies.new _ _ _
  have hpc := pieces_any t W _ 1000 (by omega) (by omega) (h.later hb)
  have a0 := ka.cell 0
  have a1 := ka.cell 1
  have a2 := ka.cell 2
  have a3 := ka.cell 3
  have a4 := ka.cell 4
  have a5 := ka.cell 5
  have HW := Lib.hid hW
  have HB := Lib.hid hb
  have HPC := Lib.hid hpc
  have hle : ((t.size : Nat) : Int) ≤ 200 := by omega
  clear hW hb ka hpc h hsz
  go_enter Tryz.func81, Tryz.ntmps81
  go_wp2_with fail
  rw [← HW.out]
  go_wp2_with fail
  refine HPC.out.mono ?_
  rintro e w5 ⟨rfl, hb5⟩
  have hb5w := HB.out.trans (hb5.mono HB.out.size)
  clear hb5
  go_wp2
  go_ret
  exact ⟨rfl, hb5w⟩
set_option maxRecDepth 100000 in
set_option maxHeartbeats 4000000 in
theorem anyLarge1_any (w : World) (bs : Nat) (n : Int) (A1 : Option Addr) (n1 c1 : Nat) (A2 : Option Addr) (n2 c2 : Nat) (m : Nat) (T : Int → Option Ty) (R : Int → Option (List Str × Int)) (h0 : w.cell? ⟨bs, 0, none⟩ = some (.slice A1 n1 c1)) (h1 : w.cell? ⟨bs, 1, none⟩ = some (.slice A2 n2 c2))
    (hs : SubV w (.agg #[.slice A1 n1 c1, .slice A2 n2 c2]) m T R) (hm : m ≤ 100000) (hn : i64ok n) (hsz : ∀ k t, T k = some t → t.size ≤ 200) :
    Calls Tryz.prog 79 #[.int .i64 n, .pointer (some ⟨bs, 0, none⟩)] w fun e w' => e = .returned (.bool false) ∧ Below w.heap.size w w' := by
  have HC := Lib.hid (typ0 hs (by omega) n hn (fun t ht => Nat.le_trans (hsz n t ht) (by omega)))
  have HZ := Lib.hid (show ((T n).getD zTy).size ≤ 200 from by
    cases hT : T n with
    | none => show zTy.size ≤ 200; unfold zTy; simp [Ty.size, Ty.sizeL]
    | some t => exact hsz n t hT)
  clear hs hn hsz
  go_enter Tryz.func79, Tryz.ntmps79
  go_wp2_with fail
  refine HC.out.mono ?_
  rintro e w1 ⟨k, nm, v, A3, n3, c3, A4, n4, c4, rv, rfl, ht, hb⟩
  obtain ⟨W, hW⟩ : ∃ W, W = w1.alloc (.cells #[.int .i64 k, .string (ba nm), .int .i64 v, .slice A3 n3 c3, .slice A4 n4 c4, .int .i64 rv] 44) := ⟨_, rfl⟩
  have hb1 : Below w1.heap.size w1 W := by rw [hW]; exact below_new w1 _
  have HL := Lib.hid (large_any _ W _ HZ.out (ht.later hb1))
  have HW := Lib.hid hW
  have HB := Lib.hid (hb.trans (hb1.mono hb.size))
  clear hW hb1 ht hb
  go_wp2_with fail
  rw [← HW.out]
  refine HL.out.mono ?_
  rintro e w5 ⟨rfl, hb5⟩
  have hb5w := HB.out.trans (hb5.mono HB.out.size)
  clear hb5
  go_wp2
  go_ret
  exact ⟨rfl, hb5w⟩
set_option maxRecDepth 100000 in
set_option maxHeartbeats 4000000 in
theorem indexF_any (w : World) (A : Option Addr) (n c bs : Nat) (xs : List Int) (hr : IRow w A n c xs)
    (hc : ∀ X, Below w.heap.size w X → ∀ x ∈ xs, Calls Tryz.prog 79 #[.int .i64 x, .pointer (some ⟨bs, 0, none⟩)] X fun e w' => e = .returned (.bool false) ∧ Below X.heap.size X w') :
    Calls Tryz.prog 105 #[.slice A n c, .func (.func 79) #[] #[.pointer (some ⟨bs, 0, none⟩)]] w fun e w' => e = .returned (.int .i64 (-1)) ∧ Below w.heap.size w w' := by
  obtain ⟨_, h1, h2, h3, h4⟩ := hr
  have hn : n ≤ 9223372036854775807 := by unfold maxLen at h3; omega
  have H4 := Lib.hid h4
  have HC := Lib.hid hc
  have H1 := Lib.hid h1
  clear h4 hc h1 h3
  go_enter Tryz.func105, Tryz.ntmps105
  go_wp2_with fail
  go_loopw [8] (fun i wr => ∃ q : Nat, q ≤ n ∧ i = .int .i64 q ∧ Below w.heap.size w wr) (fun i _ => n - (intOf i).toNat)
  case atStart => exact ⟨0, Nat.zero_le _, rfl, Below.refl _ _⟩
  case round =>
    obtain ⟨q, hq, rfl, hbw⟩ := hrel
    by_cases hlt : q < n
    · obtain ⟨x, hx⟩ : ∃ x, xs[q]? = some x := ⟨_, List.getElem?_eq_getElem (by have := H1.out; omega)⟩
      obtain ⟨g, rfl, hcell⟩ := H4.out q x hx
      have x0 : wr.cell? ⟨g, q, none⟩ = some (.int .i64 x) := (hbw.cell (p := ⟨g, q, none⟩) (World.block_lt_of_cell? w _ hcell)).trans hcell
      have HCX := Lib.hid (HC.out wr hbw x (List.mem_of_getElem? hx))
      have HBW := Lib.hid hbw
      have hqc : q < c := by omega
      have hlti : (q : Int) < (n : Int) := by omega
      clear hcell hx hbw
      go_wp2_with fail
      refine HCX.out.mono ?_
      rintro e w5 ⟨rfl, hb5⟩
      have hb5w := HBW.out.trans (hb5.mono HBW.out.size)
      clear hb5
      go_wp2_with fail
      go_roundw
      case rel => exact ⟨q + 1, by omega, by simp, hb5w⟩
      case measure => (simp [intOf] <;> omega)
    · obtain rfl : q = n := by omega
      go_wp2
      go_ret
      exact ⟨rfl, hbw⟩
set_option maxRecDepth 100000 in
set_option maxHeartbeats 4000000 in
theorem containsF_any (w : World) (A : Option Addr) (n c bs : Nat) (xs : List Int) (hr : IRow w A n c xs)
    (hc : ∀ X, Below w.heap.size w X → ∀ x ∈ xs, Calls Tryz.prog 79 #[.int .i64 x, .pointer (some ⟨bs, 0, none⟩)] X fun e w' => e = .returned (.bool false) ∧ Below X.heap.size X w') :
    Calls Tryz.prog 78 #[.slice A n c, .func (.func 79) #[] #[.pointer (some ⟨bs, 0, none⟩)]] w fun e w' => e = .returned (.bool false) ∧ Below w.heap.size w w' := by
  go_enter Tryz.func78, Tryz.ntmps78
  have hx := indexF_any w A n c bs xs hr hc
  have HX := Lib.hid hx
  clear hx hr hc
  go_wp2_with fail
  refine HX.out.mono ?_
  rintro e w1 ⟨rfl, hb⟩
  go_wp2
  go_ret
  exact ⟨rfl, hb⟩
set_option maxRecDepth 100000 in
set_option maxHeartbeats 4000000 in
theorem anyLarge_any (w : World) (sv : Value) (m : Nat) (T : Int → Option Ty) (R : Int → Option (List Str × Int)) (hs : SubV w sv m T R) (hm : m ≤ 100000) (hsz : ∀ k t, T k = some t → t.size ≤ 200) :
    Calls Tryz.prog 65 #[sv] w fun e w' => e = .returned (.bool false) ∧ Below w.heap.size w w' := by
  obtain ⟨A1, n1, c1, A2, n2, c2, rfl⟩ := hs.shape
  obtain ⟨W, hW⟩ : ∃ W, W = w.alloc (.cells #[.slice A1 n1 c1, .slice A2 n2 c2] 34) := ⟨_, rfl⟩
  have hb : Below w.heap.size w W := by rw [hW]; exact below_new w _
  have k0 : Lies W w.heap.size 34 #[.slice A1 n1 c1, .slice A2 n2 c2] := by rw [hW]; exact Lies.new _ _ _
  have HC := Lib.hid (subVars_any W _ m T R (hs.later hb) hm)
  have HK := Lib.hid k0
  have HS := Lib.hid hs
  have HSZ := Lib.hid hsz
  have HW := Lib.hid hW
  have HB := Lib.hid hb
  have x0 := k0.cell 0
  have x1 := k0.cell 1
  clear hW hb hs hsz k0
  go_enter Tryz.func65, Tryz.ntmps65
  go_wp2_with fail
  rw [← HW.out]
  go_wp2_with fail
  refine HC.out.mono ?_
  rintro e w1 ⟨A3, n3, c3, xs, A4, n4, c4, rfl, hir, hb1⟩
  have hbw1 := HB.out.trans (hb1.mono HB.out.size)
  have HX := Lib.hid (containsF_any w1 A3 n3 c3 w.heap.size xs hir (fun X hX x hx => anyLarge1_any X w.heap.size x A1 n1 c1 A2 n2 c2 m T R (((HK.out.later hb1).later hX).cell 0) (((HK.out.later hb1).later hX).cell 1) (HS.out.later (hbw1.trans (hX.mono hbw1.size))) hm (hir.1 x hx) HSZ.out))
  have HB1 := Lib.hid hbw1
  clear hb1 hbw1 hir x0 x1
  go_wp2_with fail
  refine HX.out.mono ?_
  rintro e w2 ⟨rfl, hb2⟩
  have hb2w := HB1.out.trans (hb2.mono HB1.out.size)
  clear hb2
  go_wp2
  go_ret
  exact ⟨rfl, hb2w⟩
end Go.Proofs.YtpbhndmfmnfeoaaGreat.Ug
