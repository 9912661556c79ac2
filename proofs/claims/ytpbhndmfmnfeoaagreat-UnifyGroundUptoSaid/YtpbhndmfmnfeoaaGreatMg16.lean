/- What is said of rows, and then something else: done at once, where what becomes of what was said is the same. -/
import Derived.Test.YtpbhndmfmnfeoaaGreatMg14
import Derived.Test.YtpbhndmfmnfeoaaGreatMg15
import Derived.Laws.IdiomRangeMap
import Derived.Deep.WholeRow
import Derived.Outline
import Derived.Deep.DeepCutAuto
import Derived.Deep.RegionHeld3
namespace Go.Proofs.YtpbhndmfmnfeoaaGreat
open Go.RowKit Go.Maps

/-- What was said first, and else what is said then. -/
def thenF {α : Type} (R R2 : Int → Option α) : Int → Option α := fun n => match R n with | some r => some r | none => R2 n
/-- What the new map says, while some of the old one are still left: of those that are not left their own rows, in lists made since B; of others what the second one says. -/
def ThenI (w : World) (B : Nat) (R : Int → Option (List Str × Int)) (gt : GMap) (left : Lit → Bool) (g : GMap) : Prop :=
  ∀ n, i64ok n → (R n = none → g n = gt n) ∧ (∀ r, R n = some r → if left (kI n) = true then g n = gt n else ∃ v, g n = some #[v, .int .i64 r.2] ∧ OwnL w B v r.1 ∧ i64ok r.2 ∧ r.1.length ≤ 2000000)
theorem ThenI.keep {w w' : World} {B : Nat} {R : Int → Option (List Str × Int)} {gt : GMap} {left : Lit → Bool} {g : GMap} (h : ThenI w B R gt left g) (hk : ∀ i, B ≤ i → i < w.heap.size → w'.heap[i]? = w.heap[i]?) : ThenI w' B R gt left g := fun n hn =>
  ⟨(h n hn).1, fun r hr => by
    have h1 := (h n hn).2 r hr
    split
    · rename_i hl; rw [if_pos hl] at h1; exact h1
    · rename_i hl
      rw [if_neg hl] at h1
      obtain ⟨v, h2, h3, h4⟩ := h1
      exact ⟨v, h2, own_same h3 hk, h4⟩⟩
theorem sameKey_kI {a b : Int} : Lit.sameKey (kI a) (kI b) = decide (a = b) := by
  by_cases h : a = b
  · subst h; simp [Lit.sameKey, kI]
  · rw [Maps.sameKey_ne (fun e => h (kI_inj e))]; simp [h]
theorem ThenI.step {w : World} {B : Nat} {R : Int → Option (List Str × Int)} {gt : GMap} {left : Lit → Bool} {g : GMap} (h : ThenI w B R gt left g) {x : Int} {r : List Str × Int} (hr : R x = some r) {v : Value} (ho : OwnL w B v r.1) (h6 : i64ok r.2) (hl : r.1.length ≤ 2000000) :
    ThenI w B R gt (fun z => left z && !z.sameKey (kI x)) (setG g x #[v, .int .i64 r.2]) := fun n hn => by
  unfold setG
  by_cases hx : n = x
  · subst hx
    simp only [if_true, hr, sameKey_kI]
    exact ⟨fun e => by simp at e, fun r' e => by injection e with e; subst e; simp; exact ⟨ho, h6, hl⟩⟩
  · simp only [sameKey_kI, hx, decide_false, Bool.not_false, Bool.and_true]
    exact h n hn
theorem ranges_at {w w' : World} {P : Program} {k : TypeId} {R : Value → Option (DataW Value × List MemPlace)} {b r n : Nat} {D : DataW Value} {left : Lit → Bool} {cnt : Nat} (h : w.ranges P k R b r n D left cnt) (hb : w'.heap[b]? = w.heap[b]?) (hr : w'.heap[r]? = w.heap[r]?) : w'.ranges P k R b r n D left cnt := by
  obtain ⟨es, clock, since, seen, c0, h1, h2, h3, h4, h5, h6⟩ := h
  exact ⟨es, clock, since, seen, c0, hb.trans h1, h2, h3, h4, hr.trans h5, h6⟩
theorem said_one1 {w : World} {k b m m' g2 : Nat} {g : GMap} (h : MapI w k b m g) (hc : w.cell? ⟨g2, 0, none⟩ = some (.map (some b))) (hm : m ≤ m') (h1 : 1 ≤ m') : SaidV w k (.slice (some ⟨g2, 0, none⟩) 1 1) m' g := by
  refine ⟨[(b, m, g)], .inr ⟨⟨g2, 0, none⟩, 1, rfl, Nat.le_refl _, fun j q hq => ?_⟩, fun l hl => by rw [List.mem_singleton.1 hl]; exact h, by simpa [lySum] using hm, by simpa using h1, fun n _ => ?_⟩
  · have hj : j = 0 := by have := (List.getElem?_eq_some_iff.1 hq).1; simp at this; exact this
    subst hj
    obtain rfl : Value.map (some b) = q := by simpa [lyV] using hq
    simpa [Addr.add] using hc
  · simp [lyOver, overG_none]

set_option maxRecDepth 100000 in
set_option maxHeartbeats 8000000 in
theorem thenR_any (BX : Nat → Prop) (w : World) (vs vt : Value) (ms mt : Nat) (gs gt : GMap) (R R2 : Int → Option (List Str × Int)) (hs : SaidV (blank BX w) 2 vs ms gs) (ht : SaidV (blank BX w) 2 vt mt gt) (hrs : RM (blank BX w) R gs) (hrt : RM (blank BX w) R2 gt) (hms : ms ≤ 10000) (hmt : mt ≤ 10000) (tv : Value)
    (hbec : ∀ (W : World) (r : List Str × Int) (l : List Value), Below w.heap.size w W → (∃ n, i64ok n ∧ R n = some r) → RwV W r l → Calls Tryz.prog 28 #[tv, .agg l.toArray] W fun e w' => ∃ v', e = .returned (.agg #[v', .int .i64 r.2]) ∧ OwnL w' W.heap.size v' r.1 ∧ Below W.heap.size W w') :
    Calls Tryz.prog 83 #[.agg #[vs], .agg #[vt], .func (.func 28) #[tv] #[]] w fun e w' => ∃ A n c, e = .returned (.agg #[.slice A n c]) ∧ (∀ wf, Kept (fun b => BX b ∧ b < w.heap.size) w' wf → ∃ g, SaidV wf 2 (.slice A n c) (ms + mt + 1) g ∧ RM wf (thenF R R2) g) ∧ Below w.heap.size w w' := by
  have hkb : ∀ g, live (blank BX w) g → w.heap[g]? = (blank BX w).heap[g]? := fun g hg => (blank_at (blank_live hg).1).symm
  obtain ⟨A1, n1, c1, rfl⟩ := hs.one
  obtain ⟨A2, n2, c2, rfl⟩ := ht.one
  obtain ⟨zs, s1, s2, s3, s4, s5⟩ := hs.keepL hkb
  obtain ⟨zt, t1, t2, t3, t4, t5⟩ := ht.keepL hkb
  have hrs' := hrs.keepL hkb
  obtain ⟨W, hW⟩ : ∃ W, W = ((w.alloc (.cells #[.slice A1 n1 c1] 32)).alloc (.cells #[.slice A2 n2 c2] 32)).alloc (.cells #[.slice none 0 0] 32) := ⟨_, rfl⟩
  have hb : Below w.heap.size w W := by rw [hW]; exact (((Below.refl _ w).alloc (Nat.le_refl _) _).alloc (by simp) _).alloc (by simp; omega) _
  have k0 : Lies W w.heap.size 32 #[.slice A1 n1 c1] := by rw [hW]; exact ((Lies.new _ _ _).alloc _).alloc _
  have k1 : Lies W (w.heap.size + 1) 32 #[.slice A2 n2 c2] := by rw [hW]; exact (Lies.new' _ _ _ (by simp)).alloc _
  have k2 : Lies W (w.heap.size + 2) 32 #[.slice none 0 0] := by rw [hW]; exact Lies.new' _ _ _ (by simp)
  have hm1 := mergedR_any zt _ W (t1.keep hb.block) (fun l hl => (t2 l hl).later hb) (by omega) (by omega)
  have HW := Lib.hid hW
  have HB := Lib.hid hb
  have HK0 := Lib.hid k0
  have HK1 := Lib.hid k1
  have HK2 := Lib.hid k2
  have HM1 := Lib.hid hm1
  have HS1 := Lib.hid s1
  have HS2 := Lib.hid s2
  have HS3 := Lib.hid s3
  have HT3 := Lib.hid t3
  have HS4 := Lib.hid s4
  have HS5 := Lib.hid s5
  have HT5 := Lib.hid t5
  have HRS := Lib.hid hrs'
  have HRT := Lib.hid hrt
  have HBE := Lib.hid hbec
  clear hm1 hW hb k0 k2 s1 s2 s3 s4 s5 t1 t2 t3 t4 t5 hrs' hrt hrs hs ht hbec hkb
  have x1 := k1.cell 0
  rw [HW.out] at x1
  clear k1
  go_enter Tryz.func83, Tryz.ntmps83
  go_wp2_with fail
  rw [← HW.out]
  refine HM1.out.mono ?_
  rintro e w1 ⟨rfl, hM1, hb1⟩
  have hB1 := HB.out.trans (hb1.mono HB.out.size)
  have hx0 := (HK0.out.later hb1).cell 0
  have hmg := mergedR_any zs _ w1 (HS1.out.keep hB1.block) (fun l hl => (HS2.out l hl).later hB1) (by have := HS3.out; omega) (by have := HS4.out; omega)
  have HMG := Lib.hid hmg
  have HB1 := Lib.hid hB1
  have HK2 := Lib.hid (HK2.out.later hb1)
  have HM1 := Lib.hid hM1
  have hlt1 : W.heap.size < w1.heap.size := hM1.lt
  clear hmg hB1 hb1 hM1 x1 HK0 HK1
  go_wp2_with fail
  refine HMG.out.mono ?_
  rintro e w2 ⟨rfl, hM2, hb2⟩
  have HM1b := Lib.hid (HM1.out.later hb2)
  have HK2 := Lib.hid (HK2.out.later hb2)
  have HB2 := Lib.hid (HB1.out.trans (hb2.mono HB1.out.size))
  have hlt2 : w1.heap.size < w2.heap.size := hM2.lt
  obtain ⟨Ds, hos, hss⟩ := hM2
  have hsz : Maps.size Ds ≤ lySum zs := by
    obtain ⟨es, clock, _, _, hs, rfl⟩ := hos
    rw [Maps.size_eq, length_sorted]
    simpa using hs
  have HSZ := Lib.hid hsz
  have HSS := Lib.hid hss
  have HW1 := Lib.hid HB.out.size
  clear hsz hss hb2 HMG HM1 hx0
  go_wp2_with (first
    | (at_range; refine wpList_range_own _ rfl _ 84 rfl 3 24 keyedI Tryz.underlying84 (RV 2) _ _ _ rfl hos ?_; intro w3 hrg0 hg0 hs0)
    | go_in)
  go_frame
  have HG0 := Lib.hid hg0
  have HB3 := Lib.hid (HB2.out.grown hg0 HB2.out.size (fun j hj => by cases hj))
  have HM3 := Lib.hid (HM1b.out.keep (hg0.block _ HM1b.out.lt (by simp)))
  have HK3 := Lib.hid (show Lies w3 (w.heap.size + 2) _ _ from HK2.out.grown hg0 (by simp))
  have HSI := Lib.hid hs0
  clear hg0 hs0 hos HM1b HK2
  go_loopw [8] (fun _ wr => ∃ (left : Lit → Bool) (cnt : Nat) (gout : GMap), wr.ranges Tryz.prog 3 (RV 2) w1.heap.size w2.heap.size (lySum zs) Ds left cnt ∧ cnt ≤ Maps.size Ds ∧
      MapI wr 2 W.heap.size (lySum zt + (Maps.size Ds - cnt)) gout ∧ ThenI wr w3.heap.size R (lyOver zt) left gout ∧ Lies wr (w.heap.size + 2) 32 #[.slice none 0 0] ∧ w3.heap.size ≤ wr.heap.size ∧ Below w.heap.size w wr)
    (fun _ wr => wr.rangeLeft w1.heap.size w2.heap.size)
  case atStart =>
    refine ⟨_, _, lyOver zt, hrg0, Nat.le_refl _, HM3.out.mono (by omega), fun n hn => ⟨fun _ => rfl, fun r hr => ?_⟩, HK3.out, Nat.le_refl _, HB3.out⟩
    have h1 := HRS.out n hn
    rw [hr] at h1
    obtain ⟨l, h2, _⟩ := h1
    have h3 := (HSS.out n hn).1.2
    rw [HS5.out n hn, h2] at h3
    rw [if_pos (by rw [h3]; rfl)]
  case round =>
    obtain ⟨left, cnt, gout, hrg, hcs, hout, hT, hl2, hz3, hbw⟩ := hrel
    have hrlt := hrg.lt
    have HRG := Lib.hid hrg
    have HOUT := Lib.hid hout
    have HT := Lib.hid hT
    have HL2 := Lib.hid hl2
    have HZ3 := Lib.hid hz3
    have HBW := Lib.hid hbw
    clear hout hT hl2 hz3 hbw
    go_wp2_with (first
      | (at_next; refine wpList_next_ranges _ rfl _ rfl 3 keyedI (RV 2) (Value.int .i64) Value.agg (fun key kl hkey => by obtain ⟨x, rfl, _⟩ := Maps.keyOf_int_inv Tryz.underlying3 hkey; exact ⟨x, rfl⟩) (fun v y hv => by obtain ⟨cs, h, _⟩ := RV_inv hv; exact ⟨cs, h⟩) _ _ _ _ _ _ rfl hrg ?_ ?_)
      | go_in)
    · intro hc0 hl0
      clear hrg HRG hrg0
      obtain ⟨W7, hW7⟩ : ∃ X, X = wr.alloc (.cells #[.map (some W.heap.size)] 84) := ⟨_, rfl⟩
      have hb7 : Below wr.heap.size wr W7 := by rw [hW7]; exact below_new wr _
      have m2 := HL2.out.later hb7
      have mc0 := m2.cell 0
      have mf0 := m2.free 0
      have ml := m2.lt
      have hwr2 := HL2.out.lt
      clear m2 hb7
      rw [hW7] at mc0 mf0 ml
      clear hW7
      go_wp2_with fail
      obtain ⟨Wz, hWz⟩ : ∃ X, X = (wr.setCell ⟨w.heap.size + 1 + 1, 0, none⟩ (.slice (some ⟨wr.heap.size, 0, none⟩) 1 1)).alloc (.cells #[.map (some W.heap.size)] 84) := ⟨_, rfl⟩
      rw [← hWz]
      have nz : Lies Wz (w.heap.size + 2) 32 #[.slice (some ⟨wr.heap.size, 0, none⟩) 1 1] := by rw [hWz]; exact (HL2.out.set 0 _).alloc _
      have nm : Lies Wz wr.heap.size 84 #[.map (some W.heap.size)] := by rw [hWz]; exact Lies.new' _ _ _ (by simp [World.setCell])
      have hfz : ∀ i, i ≠ w.heap.size + 2 → i < wr.heap.size → Wz.heap[i]? = wr.heap[i]? := fun i h1 h2 => by
        rw [hWz, Below.heap_alloc _ _ i (by simpa [World.setCell] using h2)]
        exact Below.heap_setCell _ ⟨w.heap.size + 1 + 1, 0, none⟩ _ i h1
      have hsz : Wz.heap.size = wr.heap.size + 1 := by rw [hWz]; simp [World.setCell]
      have hbz : Below w.heap.size w Wz := by
        rw [hWz]
        exact (HBW.out.setCell (p := ⟨w.heap.size + 1 + 1, 0, none⟩) (by show w.heap.size ≤ w.heap.size + 1 + 1; omega) _).alloc (by simp [World.setCell]; omega) _
      refine bodyPost_ret (v := .agg #[.slice (some ⟨wr.heap.size, 0, none⟩) 1 1]) (results_cell_row rfl _ _ (w.heap.size + 2) 32 _ (0, 0) _ rfl nz Tryz.underlying32 rfl (by kernel_rfl)) rfl ?_
      refine ⟨_, _, _, rfl, ?_, hbz⟩
      intro wf hkf0
      have hkf : Kept (fun b => BX b ∧ b < w.heap.size) Wz wf := hkf0
      clear hkf0 hWz
      have hWs := HW1.out
      have hz3 := HZ3.out
      have hsi := HSI.out
      have hWsz : W.heap.size = w.heap.size + 3 := by rw [HW.out]; simp
      have far : ∀ i, w.heap.size + 2 < i → i < wr.heap.size → wf.heap[i]? = wr.heap[i]? := fun i h1 h2 =>
        (hkf.2 i (by omega) (fun e => by have := e.2; omega)).trans (hfz i (by omega) h2)
      refine ⟨gout, said_one1 (HOUT.out.keep (far _ (by omega) HOUT.out.lt)) ?_ (by have := HS3.out; have := HT3.out; have := HSZ.out; omega) (by omega), fun n hn => ?_⟩
      · exact (World.cell?_of_block (a := ⟨wr.heap.size, 0, none⟩) (hkf.2 wr.heap.size (by omega) (fun e => by have := e.2; omega))).trans (nm.cell 0)
      · unfold thenF
        cases hR : R n with
        | none =>
          simp only
          have h1 := HRT.out n hn
          rw [((HT.out n hn).1 hR), HT5.out n hn]
          cases hR2 : R2 n with
          | none => rw [hR2] at h1; exact h1
          | some r =>
            rw [hR2] at h1
            obtain ⟨l, h2, h3⟩ := h1
            refine ⟨l, h2, h3.keepL fun g hg => ?_⟩
            obtain ⟨hnx, hlx⟩ := blank_live hg
            rw [blank_at hnx]
            exact (hkf.2 g (by have := hbz.size; omega) (fun e => hnx e.1)).trans (hbz.block g hlx)
        | some r =>
          simp only
          have h1 := (HT.out n hn).2 r hR
          rw [if_neg (by rw [hl0]; simp)] at h1
          obtain ⟨v, h2, h3, h4, h5⟩ := h1
          refine ⟨[v, .int .i64 r.2], h2, v, rfl, OwnL.str (B := w3.heap.size) ?_ h5, h4⟩
          exact own_same h3 fun i hi hlt => far i (by omega) hlt
    · intro x c kl yd yp w4 cnt1 hkey hlx hv hat hrg1 hlt hg1 hs1 hen
      obtain ⟨x', ex, rfl, hwx⟩ := Maps.keyOf_int_inv Tryz.underlying3 hkey
      cases ex
      obtain ⟨cs', ec, hfit, hyd⟩ := RV_inv hv
      cases ec
      cases hyd
      have hgs : gs x = some c := by
        have h := (HSS.out x hwx).1.1
        rw [show Ds.atKey (kI x) .nil = _ from hat .nil, HS5.out x hwx] at h
        exact (hv_inj (a := some c) h).symm
      have hrr := HRS.out x hwx
      cases hR : R x with
      | none => rw [hR, hgs] at hrr; cases hrr
      | some r =>
        rw [hR, hgs] at hrr
        obtain ⟨l, hl1, hl2⟩ := hrr
        injection hl1 with hl1
        subst hl1
        obtain ⟨A9, n9, c9, rv9, rfl⟩ := hl2.form
        have hWsz : W.heap.size = w.heap.size + 3 := by rw [HW.out]; simp
        have hsi := HSI.out
        have hz3 := HZ3.out
        have hWs := hlt1
        obtain ⟨w5, hw5⟩ : ∃ w5, w5 = w4.alloc (.cells #[.slice A9 n9 c9, .int .i64 rv9] 24) := ⟨_, rfl⟩
        have hb45 : Below w4.heap.size w4 w5 := by rw [hw5]; exact below_new w4 _
        have hb4 : Below w.heap.size w w4 := HBW.out.grown hg1 HBW.out.size (fun j hj => by have := Option.some.inj hj; omega)
        have hb5 : Below w.heap.size w w5 := hb4.trans (hb45.mono hb4.size)
        have HWSZ := Lib.hid hWsz
        have hcall := HBE.out w5 r _ hb5 ⟨x, hwx, hR⟩ (hl2.later hb5)
        have hrv : rv9 = r.2 := by obtain ⟨lv, e, _⟩ := hl2; simp at e; exact e.2
        have hok : i64ok r.2 := by obtain ⟨lv, _, _, h⟩ := hl2; exact h
        have hln : r.1.length ≤ 2000000 := by obtain ⟨lv, _, h, _⟩ := hl2; exact h.2
        have HCALL := Lib.hid hcall
        have HRX := Lib.hid hR
        have HOK := Lib.hid hok
        have HLN := Lib.hid hln
        have HRV := Lib.hid hrv
        have HW5 := Lib.hid hw5
        have HB5 := Lib.hid hb5
        have HB45 := Lib.hid hb45
        have HRG1 := Lib.hid hrg1
        have HG1 := Lib.hid hg1
        have HS14 := Lib.hid hs1
        have lz := Lies.new w4 24 #[.slice none 0 0, .int .i64 0]
        clear hWsz hcall hR hok hln hrv hw5 hb5 hb45 hb4 hl2 hgs hfit hv hat hrg1 hg1 hs1 hrg hrg0
        go_wp2_with (first
          | (refine wpList_store_rowTo rfl 24 (.tmp 9) (.tmp 21) rfl rfl w4.heap.size #[.slice A9 n9 c9, .int .i64 rv9] rfl rfl 24 _ lz (by kernel_rfl) (by kernel_rfl) rfl ?_; rw [World.setRow_alloc_new])
          | (refine wpList_load_row rfl 24 (.tmp 9) rfl _ rfl 24 _ (0, 0) _ (Lies.new w4 24 _) Tryz.underlying24 rfl (by kernel_rfl) ?_))
        rw [← HW5.out]
        refine HCALL.out.mono ?_
        rintro e w6 ⟨v', rfl, ho, hb6⟩
        obtain ⟨A8, n8, c8, rfl⟩ := own_slice ho
        have hWsz := HWSZ.out
        have hs5 : w5.heap.size = w4.heap.size + 1 := by rw [HW5.out]; simp
        have hs6 := hb6.size
        have near : ∀ i, i < w4.heap.size → w6.heap[i]? = w4.heap[i]? := fun i hi => (hb6.block i (by omega)).trans (HB45.out.block i hi)
        have hout6 : MapI w6 2 W.heap.size _ gout := HOUT.out.keep ((near _ (by have := HOUT.out.lt; have := HS14.out; omega)).trans (HG1.out.block _ HOUT.out.lt (fun e => by have := Option.some.inj e; omega)))
        have hT6 := HT.out.keep (w' := w6) (fun i h1 h2 => (near i (by have := HS14.out; omega)).trans (HG1.out.block i h2 (fun e => by have := Option.some.inj e; omega)))
        have hL6 : Lies w6 (w.heap.size + 2) _ _ := ((near _ (by have := HL2.out.lt; have := HS14.out; omega)).trans (HG1.out.block _ HL2.out.lt (fun e => by have := Option.some.inj e; omega))).trans HL2.out
        have HO := Lib.hid ho
        have HOUT6 := Lib.hid hout6
        have HT6 := Lib.hid hT6
        have HL6 := Lib.hid hL6
        have HB6 := Lib.hid (HB5.out.trans (hb6.mono HB5.out.size))
        have HN := Lib.hid near
        have HS5x := Lib.hid hs5
        clear hWsz ho hb6 hout6 hT6 hL6 near hs5
        go_wp2_with (first
          | (at_mapUpdate; refine wpList_mput rfl (.tmp 22) (.tmp 23) (.tmp 26) 84 (.inl rfl) HOUT6.out Tryz.underlying84 (by have := HSZ.out; have := HS3.out; have := HT3.out; unfold maxLen; omega) rfl hwx rfl _ rfl ⟨rfl, by kernel_rfl⟩ ?_; intro w7 hM7 hg7 hs7)
          | go_in)
        have hWsz := HWSZ.out
        have hs5 := HS5x.out
        have h47 : ∀ i, i < w4.heap.size → i ≠ W.heap.size → w7.heap[i]? = w4.heap[i]? := fun i hi hne => (hg7.block i (by omega) (fun e => hne (Option.some.inj e))).trans (HN.out i hi)
        have hrl := HRG1.out.lt
        have hrb := HRG1.out.owns.lt
        have hrg7 := ranges_at (w' := w7) HRG1.out (h47 _ hrb (by omega)) (h47 _ hrl (by omega))
        have hT7 := HT6.out.keep (w' := w7) (fun i h1 h2 => hg7.block i h2 (fun e => by have := Option.some.inj e; omega))
        have ho7 : OwnL w7 w3.heap.size (.slice A8 n8 c8) r.1 := own_mono (own_same HO.out (w' := w7) fun i h1 h2 => hg7.block i h2 (fun e => by have := Option.some.inj e; have := HS14.out; omega)) (by have := HS14.out; omega)
        have hst := hT7.step HRX.out ho7 HOK.out HLN.out
        have hb7 : Below w.heap.size w w7 := HB6.out.grown hg7 HB6.out.size (fun j hj => by have := Option.some.inj hj; omega)
        have hl7 : Lies w7 (w.heap.size + 2) _ _ := HL6.out.grown hg7 (fun e => by have := Option.some.inj e; omega)
        have HREL := Lib.hid (show ∃ (left : Lit → Bool) (cnt : Nat) (gout : GMap), w7.ranges Tryz.prog 3 (RV 2) w1.heap.size w2.heap.size (lySum zs) Ds left cnt ∧ cnt ≤ Maps.size Ds ∧
      MapI w7 2 W.heap.size (lySum zt + (Maps.size Ds - cnt)) gout ∧ ThenI w7 w3.heap.size R (lyOver zt) left gout ∧ Lies w7 (w.heap.size + 2) 32 #[.slice none 0 0] ∧ w3.heap.size ≤ w7.heap.size ∧ Below w.heap.size w w7 from
          ⟨_, cnt1, _, hrg7, by omega, hM7.mono (by omega), hst, hl7, by have := hg7.size; have := HS14.out; omega, hb7⟩)
        clear hst hb7 hl7 hT7 ho7 hM7 hg7 h47 hs5 hWsz hs7
        go_frame
        go_roundw
        case rel => exact HREL.out
        case measure => rw [hrg7.left_eq, HRG.out.left_eq]; exact hlt
end Go.Proofs.YtpbhndmfmnfeoaaGreat

/- What is said of types, and then something else, where nothing is said of types. -/
namespace Go.Proofs.YtpbhndmfmnfeoaaGreat
open Go.RowKit Go.Maps

set_option maxRecDepth 100000 in
set_option maxHeartbeats 8000000 in
theorem thenT_any (BX : Nat → Prop) (w : World) (vs vt : Value) (ms mt : Nat) (gs gt : GMap) (hs : SaidV (blank BX w) 6 vs ms gs) (ht : SaidV (blank BX w) 6 vt mt gt) (hgs : ∀ n, i64ok n → gs n = none) (hgt : ∀ n, i64ok n → gt n = none) (hms : ms ≤ 10000) (hmt : mt ≤ 10000) (tv : Value) :
    Calls Tryz.prog 82 #[.agg #[vs], .agg #[vt], .func (.func 16) #[tv] #[]] w fun e w' => ∃ A n c, e = .returned (.agg #[.slice A n c]) ∧ (∀ wf, Kept (fun b => BX b ∧ b < w.heap.size) w' wf → ∃ g, SaidV wf 6 (.slice A n c) (ms + mt + 1) g ∧ TM wf T0 g) ∧ Below w.heap.size w w' := by
  have hkb : ∀ g, live (blank BX w) g → w.heap[g]? = (blank BX w).heap[g]? := fun g hg => (blank_at (blank_live hg).1).symm
  obtain ⟨A1, n1, c1, rfl⟩ := hs.one
  obtain ⟨A2, n2, c2, rfl⟩ := ht.one
  obtain ⟨zs, s1, s2, s3, s4, s5⟩ := hs.keepL hkb
  obtain ⟨zt, t1, t2, t3, t4, t5⟩ := ht.keepL hkb
  obtain ⟨W, hW⟩ : ∃ W, W = ((w.alloc (.cells #[.slice A1 n1 c1] 29)).alloc (.cells #[.slice A2 n2 c2] 29)).alloc (.cells #[.slice none 0 0] 29) := ⟨_, rfl⟩
  have hb : Below w.heap.size w W := by rw [hW]; exact (((Below.refl _ w).alloc (Nat.le_refl _) _).alloc (by simp) _).alloc (by simp; omega) _
  have k0 : Lies W w.heap.size 29 #[.slice A1 n1 c1] := by rw [hW]; exact ((Lies.new _ _ _).alloc _).alloc _
  have k1 : Lies W (w.heap.size + 1) 29 #[.slice A2 n2 c2] := by rw [hW]; exact (Lies.new' _ _ _ (by simp)).alloc _
  have k2 : Lies W (w.heap.size + 2) 29 #[.slice none 0 0] := by rw [hW]; exact Lies.new' _ _ _ (by simp)
  have hm1 := mergedT_any zt _ W (t1.keep hb.block) (fun l hl => (t2 l hl).later hb) (by omega) (by omega)
  have HW := Lib.hid hW
  have HB := Lib.hid hb
  have HK0 := Lib.hid k0
  have HK1 := Lib.hid k1
  have HK2 := Lib.hid k2
  have HM1 := Lib.hid hm1
  have HS1 := Lib.hid s1
  have HS2 := Lib.hid s2
  have HS3 := Lib.hid s3
  have HT3 := Lib.hid t3
  have HS4 := Lib.hid s4
  have HS5 := Lib.hid s5
  have HT5 := Lib.hid t5
  have HGS := Lib.hid hgs
  have HGT := Lib.hid hgt
  clear hm1 hW hb k0 k2 s1 s2 s3 s4 s5 t1 t2 t3 t4 t5 hgs hgt hs ht hkb
  have x1 := k1.cell 0
  rw [HW.out] at x1
  clear k1
  go_enter Tryz.func82, Tryz.ntmps82
  go_wp2_with fail
  rw [← HW.out]
  refine HM1.out.mono ?_
  rintro e w1 ⟨rfl, hM1, hb1⟩
  have hB1 := HB.out.trans (hb1.mono HB.out.size)
  have hx0 := (HK0.out.later hb1).cell 0
  have hmg := mergedT_any zs _ w1 (HS1.out.keep hB1.block) (fun l hl => (HS2.out l hl).later hB1) (by have := HS3.out; omega) (by have := HS4.out; omega)
  have HMG := Lib.hid hmg
  have HB1 := Lib.hid hB1
  have HK2 := Lib.hid (HK2.out.later hb1)
  have HM1 := Lib.hid hM1
  have hlt1 : W.heap.size < w1.heap.size := hM1.lt
  clear hmg hB1 hb1 hM1 x1 HK0 HK1
  go_wp2_with fail
  refine HMG.out.mono ?_
  rintro e w2 ⟨rfl, hM2, hb2⟩
  have HM1b := Lib.hid (HM1.out.later hb2)
  have HK2 := Lib.hid (HK2.out.later hb2)
  have HB2 := Lib.hid (HB1.out.trans (hb2.mono HB1.out.size))
  have hlt2 : w1.heap.size < w2.heap.size := hM2.lt
  obtain ⟨Ds, hos, hss⟩ := hM2
  have hsz : Maps.size Ds ≤ lySum zs := by
    obtain ⟨es, clock, _, _, hs, rfl⟩ := hos
    rw [Maps.size_eq, length_sorted]
    simpa using hs
  have HSZ := Lib.hid hsz
  have HSS := Lib.hid hss
  have HW1 := Lib.hid HB.out.size
  clear hsz hss hb2 HMG HM1 hx0
  go_wp2_with (first
    | (at_range; refine wpList_range_own _ rfl _ 129 rfl 3 44 keyedI Tryz.underlying129 (RV 6) _ _ _ rfl hos ?_; intro w3 hrg0 hg0 hs0)
    | go_in)
  go_frame
  have HG0 := Lib.hid hg0
  have HB3 := Lib.hid (HB2.out.grown hg0 HB2.out.size (fun j hj => by cases hj))
  have HM3 := Lib.hid (HM1b.out.keep (hg0.block _ HM1b.out.lt (by simp)))
  have HK3 := Lib.hid (show Lies w3 (w.heap.size + 2) _ _ from HK2.out.grown hg0 (by simp))
  have HSI := Lib.hid hs0
  clear hg0 hs0 hos HM1b HK2
  go_loopw [8] (fun _ wr => ∃ (left : Lit → Bool) (cnt : Nat), wr.ranges Tryz.prog 3 (RV 6) w1.heap.size w2.heap.size (lySum zs) Ds left cnt ∧
      MapI wr 6 W.heap.size (lySum zt) (lyOver zt) ∧ Lies wr (w.heap.size + 2) 29 #[.slice none 0 0] ∧ w3.heap.size ≤ wr.heap.size ∧ Below w.heap.size w wr)
    (fun _ wr => wr.rangeLeft w1.heap.size w2.heap.size)
  case atStart =>
    exact ⟨_, _, hrg0, HM3.out, HK3.out, Nat.le_refl _, HB3.out⟩
  case round =>
    obtain ⟨left, cnt, hrg, hout, hl2, hz3, hbw⟩ := hrel
    have hrlt := hrg.lt
    have HRG := Lib.hid hrg
    have HOUT := Lib.hid hout
    have HL2 := Lib.hid hl2
    have HZ3 := Lib.hid hz3
    have HBW := Lib.hid hbw
    clear hout hl2 hz3 hbw
    go_wp2_with (first
      | (at_next; refine wpList_next_ranges _ rfl _ rfl 3 keyedI (RV 6) (Value.int .i64) Value.agg (fun key kl hkey => by obtain ⟨x, rfl, _⟩ := Maps.keyOf_int_inv Tryz.underlying3 hkey; exact ⟨x, rfl⟩) (fun v y hv => by obtain ⟨cs, h, _⟩ := RV_inv hv; exact ⟨cs, h⟩) _ _ _ _ _ _ rfl hrg ?_ ?_)
      | go_in)
    · intro hc0 hl0
      clear hrg HRG hrg0
      obtain ⟨W7, hW7⟩ : ∃ X, X = wr.alloc (.cells #[.map (some W.heap.size)] 129) := ⟨_, rfl⟩
      have hb7 : Below wr.heap.size wr W7 := by rw [hW7]; exact below_new wr _
      have m2 := HL2.out.later hb7
      have mc0 := m2.cell 0
      have mf0 := m2.free 0
      have ml := m2.lt
      have hwr2 := HL2.out.lt
      clear m2 hb7
      rw [hW7] at mc0 mf0 ml
      clear hW7
      go_wp2_with fail
      obtain ⟨Wz, hWz⟩ : ∃ X, X = (wr.setCell ⟨w.heap.size + 1 + 1, 0, none⟩ (.slice (some ⟨wr.heap.size, 0, none⟩) 1 1)).alloc (.cells #[.map (some W.heap.size)] 129) := ⟨_, rfl⟩
      rw [← hWz]
      have nz : Lies Wz (w.heap.size + 2) 29 #[.slice (some ⟨wr.heap.size, 0, none⟩) 1 1] := by rw [hWz]; exact (HL2.out.set 0 _).alloc _
      have nm : Lies Wz wr.heap.size 129 #[.map (some W.heap.size)] := by rw [hWz]; exact Lies.new' _ _ _ (by simp [World.setCell])
      have hfz : ∀ i, i ≠ w.heap.size + 2 → i < wr.heap.size → Wz.heap[i]? = wr.heap[i]? := fun i h1 h2 => by
        rw [hWz, Below.heap_alloc _ _ i (by simpa [World.setCell] using h2)]
        exact Below.heap_setCell _ ⟨w.heap.size + 1 + 1, 0, none⟩ _ i h1
      have hsz : Wz.heap.size = wr.heap.size + 1 := by rw [hWz]; simp [World.setCell]
      have hbz : Below w.heap.size w Wz := by
        rw [hWz]
        exact (HBW.out.setCell (p := ⟨w.heap.size + 1 + 1, 0, none⟩) (by show w.heap.size ≤ w.heap.size + 1 + 1; omega) _).alloc (by simp [World.setCell]; omega) _
      refine bodyPost_ret (v := .agg #[.slice (some ⟨wr.heap.size, 0, none⟩) 1 1]) (results_cell_row rfl _ _ (w.heap.size + 2) 29 _ (0, 0) _ rfl nz Tryz.underlying29 rfl (by kernel_rfl)) rfl ?_
      refine ⟨_, _, _, rfl, ?_, hbz⟩
      intro wf hkf0
      have hkf : Kept (fun b => BX b ∧ b < w.heap.size) Wz wf := hkf0
      clear hkf0 hWz
      have hWs := HW1.out
      have hz3 := HZ3.out
      have hsi := HSI.out
      have hWsz : W.heap.size = w.heap.size + 3 := by rw [HW.out]; simp
      have far : ∀ i, w.heap.size + 2 < i → i < wr.heap.size → wf.heap[i]? = wr.heap[i]? := fun i h1 h2 =>
        (hkf.2 i (by omega) (fun e => by have := e.2; omega)).trans (hfz i (by omega) h2)
      refine ⟨lyOver zt, said_one1 (HOUT.out.keep (far _ (by omega) HOUT.out.lt)) ?_ (by have := HS3.out; have := HT3.out; omega) (by omega), fun n hn => ?_⟩
      · exact (World.cell?_of_block (a := ⟨wr.heap.size, 0, none⟩) (hkf.2 wr.heap.size (by omega) (fun e => by have := e.2; omega))).trans (nm.cell 0)
      · show lyOver zt n = none
        rw [HT5.out n hn]
        exact HGT.out n hn
    · intro x c kl yd yp w4 cnt1 hkey hlx hv hat hrg1 hlt hg1 hs1 hen
      obtain ⟨x', ex, rfl, hwx⟩ := Maps.keyOf_int_inv Tryz.underlying3 hkey
      cases ex
      obtain ⟨cs', ec, hfit, hyd⟩ := RV_inv hv
      cases ec
      cases hyd
      have h := (HSS.out x hwx).1.1
      rw [show Ds.atKey (kI x) .nil = _ from hat .nil, HS5.out x hwx, HGS.out x hwx] at h
      exact absurd ((hv_inj (a := some c) h).symm) (by simp)
end Go.Proofs.YtpbhndmfmnfeoaaGreat

/- What was said, and then something else, at once: where nothing is said of types, and nothing of the variables of what was said. -/
namespace Go.Proofs.YtpbhndmfmnfeoaaGreat
open Go.RowKit

theorem blank_later {BX : Nat → Prop} {w X : World} (hb : Below w.heap.size w X) : ∀ g, live (blank BX w) g → (blank (fun b => BX b ∨ w.heap.size ≤ b) X).heap[g]? = (blank BX w).heap[g]? := blank_more hb
theorem blank_self {BX : Nat → Prop} {w X : World} (hb : Below w.heap.size w X) : ∀ g, live (blank BX w) g → X.heap[g]? = (blank BX w).heap[g]? := fun g hg => by
  obtain ⟨h1, h2⟩ := blank_live hg
  rw [blank_at h1]
  exact hb.block g h2
set_option maxRecDepth 100000 in
set_option maxHeartbeats 8000000 in
theorem then_any (BX : Nat → Prop) (w : World) (sv nv : Value) (m m' : Nat) (R R2 : Int → Option (List Str × Int)) (hs : SubV (blank BX w) sv m T0 R) (hn : SubV (blank BX w) nv m' T0 R2) (hm : m ≤ 10000) (hm' : m' ≤ 10000) (hcl : ∀ n r, i64ok n → R n = some r → insR R2 r.2 = none) :
    Calls Tryz.prog 66 #[sv, nv] w fun e w' => ∃ A1 n1 c1 A2 n2 c2, e = .returned (.agg #[.slice A1 n1 c1, .slice A2 n2 c2]) ∧ (∀ wf, Kept (fun b => BX b ∧ b < w.heap.size) w' wf → SubV wf (.agg #[.slice A1 n1 c1, .slice A2 n2 c2]) (m + m' + 1) T0 (thenF R R2)) ∧ Below w.heap.size w w' := by
  have hn0 := hn
  obtain ⟨vt, vr, gt, gr, rfl, hst, hsr, htm, hrm⟩ := hs
  obtain ⟨A1, n1, c1, rfl⟩ := hst.one
  obtain ⟨A2, n2, c2, rfl⟩ := hsr.one
  obtain ⟨ut, ur, kt, kr, rfl, hut, hur, kum, kum2⟩ := hn
  obtain ⟨A3, n3, c3, rfl⟩ := hut.one
  obtain ⟨A4, n4, c4, rfl⟩ := hur.one
  obtain ⟨W, hW⟩ : ∃ W, W = ((w.alloc (.cells #[.slice A1 n1 c1, .slice A2 n2 c2] 34)).alloc (.cells #[.slice A3 n3 c3, .slice A4 n4 c4] 34)).alloc (.cells #[.slice none 0 0, .slice none 0 0] 34) := ⟨_, rfl⟩
  have hb : Below w.heap.size w W := by rw [hW]; exact (((Below.refl _ w).alloc (Nat.le_refl _) _).alloc (by simp) _).alloc (by simp; omega) _
  have k0 : Lies W w.heap.size 34 #[.slice A1 n1 c1, .slice A2 n2 c2] := by rw [hW]; exact ((Lies.new _ _ _).alloc _).alloc _
  have k1 : Lies W (w.heap.size + 1) 34 #[.slice A3 n3 c3, .slice A4 n4 c4] := by rw [hW]; exact (Lies.new' _ _ _ (by simp)).alloc _
  have k2 : Lies W (w.heap.size + 2) 34 #[.slice none 0 0, .slice none 0 0] := by rw [hW]; exact Lies.new' _ _ _ (by simp)
  have hWsz : W.heap.size = w.heap.size + 3 := by rw [hW]; simp
  have hc1 : ∀ X : World, Below W.heap.size W X → _ := fun X hx => thenT_any (fun b => BX b ∨ w.heap.size ≤ b) X _ _ m m' gt kt (hst.keepL (blank_later (hb.trans (hx.mono hb.size)))) (hut.keepL (blank_later (hb.trans (hx.mono hb.size)))) (fun n hn => htm n hn) (fun n hn => kum n hn) hm hm' (.agg #[.slice A3 n3 c3, .slice A4 n4 c4])
  have hc2 : ∀ X : World, Below W.heap.size W X → _ := fun X hx => thenR_any (fun b => BX b ∨ w.heap.size ≤ b) X _ _ m m' gr kr R R2 (hsr.keepL (blank_later (hb.trans (hx.mono hb.size)))) (hur.keepL (blank_later (hb.trans (hx.mono hb.size)))) (hrm.keepL (blank_later (hb.trans (hx.mono hb.size)))) (kum2.keepL (blank_later (hb.trans (hx.mono hb.size)))) hm hm' (.agg #[.slice A3 n3 c3, .slice A4 n4 c4])
    (fun Y r l hy hr hl => by
      obtain ⟨lv, rfl, hlv, hrv⟩ := hl
      have hbY : Below w.heap.size w Y := (hb.trans (hx.mono hb.size)).trans (hy.mono (Nat.le_trans hb.size hx.size))
      obtain ⟨n, hn, hR⟩ := hr
      exact applyRow_any Y _ m' T0 R2 (hn0.keepL (blank_self hbY)) (by omega) lv r.1 r.2 hlv hrv (hcl n r hn hR))
  have HW := Lib.hid hW
  have HB := Lib.hid hb
  have HK := Lib.hid (show ∀ X : World, Below W.heap.size W X → (X.cell? ⟨w.heap.size, 0, none⟩ = some (.slice A1 n1 c1) ∧ X.cell? ⟨w.heap.size, 1, none⟩ = some (.slice A2 n2 c2)) ∧ X.cell? ⟨w.heap.size + 1, 0, none⟩ = some (.slice A3 n3 c3) ∧ X.cell? ⟨w.heap.size + 1, 1, none⟩ = some (.slice A4 n4 c4) from
    fun X hx => ⟨⟨(k0.later hx).cell 0, (k0.later hx).cell 1⟩, (k1.later hx).cell 0, (k1.later hx).cell 1⟩)
  have HK4 := Lib.hid (show ∀ X : World, Below W.heap.size W X → ∀ a b : Value, (((X.setCell ⟨w.heap.size + 1 + 1, 0, none⟩ a).setCell ⟨w.heap.size + 1 + 1, 1, none⟩ b).cell? ⟨w.heap.size, 0, none⟩ = some (.slice A1 n1 c1) ∧ ((X.setCell ⟨w.heap.size + 1 + 1, 0, none⟩ a).setCell ⟨w.heap.size + 1 + 1, 1, none⟩ b).cell? ⟨w.heap.size, 1, none⟩ = some (.slice A2 n2 c2)) ∧ ((X.setCell ⟨w.heap.size + 1 + 1, 0, none⟩ a).setCell ⟨w.heap.size + 1 + 1, 1, none⟩ b).cell? ⟨w.heap.size + 1, 0, none⟩ = some (.slice A3 n3 c3) ∧ ((X.setCell ⟨w.heap.size + 1 + 1, 0, none⟩ a).setCell ⟨w.heap.size + 1 + 1, 1, none⟩ b).cell? ⟨w.heap.size + 1, 1, none⟩ = some (.slice A4 n4 c4) from
    fun X hx a b => by
      have j0 := ((k0.later hx).far (p := ⟨w.heap.size + 1 + 1, 0, none⟩) (by show w.heap.size ≠ w.heap.size + 1 + 1; omega) a).far (p := ⟨w.heap.size + 1 + 1, 1, none⟩) (by show w.heap.size ≠ w.heap.size + 1 + 1; omega) b
      have j1 := ((k1.later hx).far (p := ⟨w.heap.size + 1 + 1, 0, none⟩) (by show w.heap.size + 1 ≠ w.heap.size + 1 + 1; omega) a).far (p := ⟨w.heap.size + 1 + 1, 1, none⟩) (by show w.heap.size + 1 ≠ w.heap.size + 1 + 1; omega) b
      exact ⟨⟨j0.cell 0, j0.cell 1⟩, j1.cell 0, j1.cell 1⟩)
  have HK2 := Lib.hid k2
  have HC1 := Lib.hid hc1
  have HC2 := Lib.hid hc2
  have HWS := Lib.hid hWsz
  have HTM := Lib.hid htm
  clear hW hb k0 k1 k2 hc1 hc2 hWsz hst hsr htm hrm hut hur kum kum2 hn0 hcl
  go_enter Tryz.func66, Tryz.ntmps66
  go_wp2_with fail
  rw [← HW.out]
  go_region_held3 (fun X => (X.cell? ⟨w.heap.size, 0, none⟩ = some (.slice A1 n1 c1) ∧ X.cell? ⟨w.heap.size, 1, none⟩ = some (.slice A2 n2 c2)) ∧ X.cell? ⟨w.heap.size + 1, 0, none⟩ = some (.slice A3 n3 c3) ∧ X.cell? ⟨w.heap.size + 1, 1, none⟩ = some (.slice A4 n4 c4))
    (first | exact HK.out _ (Below.refl _ _).drew | exact HK.out _ hb3 | exact HK.out _ hb4 | exact HK4.out _ hb4 _ _)
    (first
      | (go_at_call 82; refine (HC1.out _ (Below.refl _ _).drew).mono ?_; rintro e x3 ⟨A5, n5, c5, rfl, hn5, hba⟩; have hb3 : Below W.heap.size W x3 := (Below.refl _ _).drew.trans hba; have HN5 := Lib.hid hn5; clear hba hn5)
      | (go_at_call 83; refine (HC2.out _ hb3).mono ?_; rintro e x4 ⟨A6, n6, c6, rfl, hn6, hba⟩; have HB4 := Lib.hid hba; have hb4 : Below W.heap.size W x4 := hb3.trans (hba.mono hb3.size); have HB34 := Lib.hid (show x3.heap.size ≤ x4.heap.size from hba.size); have n2' := HK2.out.later hb4; have q0 := n2'.cell 0; have q1 := n2'.cell 1; have f0 := n2'.free 0; have f1 := n2'.free 1; have l2 := n2'.lt; have HN6 := Lib.hid hn6; clear hba hn6))
  all_goals
    go_wp2_with fail
    obtain ⟨Z, hZ⟩ : ∃ Z, Z = (x4.setCell ⟨w.heap.size + 1 + 1, 0, none⟩ (.slice A5 n5 c5)).setCell ⟨w.heap.size + 1 + 1, 1, none⟩ (.slice A6 n6 c6) := ⟨_, rfl⟩
    rw [← hZ]
    have nz : Lies Z (w.heap.size + 2) 34 #[.slice A5 n5 c5, .slice A6 n6 c6] := by rw [hZ]; exact (n2'.set 0 _).set 1 _
    have hzz : Z.heap.size = x4.heap.size := by rw [hZ]; simp [World.setCell]
    have hfz : ∀ i, i ≠ w.heap.size + 2 → Z.heap[i]? = x4.heap[i]? := fun i h1 => by
      rw [hZ]
      exact (Below.heap_setCell _ ⟨w.heap.size + 1 + 1, 1, none⟩ _ i h1).trans (Below.heap_setCell _ ⟨w.heap.size + 1 + 1, 0, none⟩ _ i h1)
    have hbz : Below w.heap.size w Z := by
      rw [hZ]
      exact ((HB.out.trans (hb4.mono HB.out.size)).setCell (p := ⟨w.heap.size + 1 + 1, 0, none⟩) (by show w.heap.size ≤ w.heap.size + 1 + 1; omega) _).setCell (p := ⟨w.heap.size + 1 + 1, 1, none⟩) (by show w.heap.size ≤ w.heap.size + 1 + 1; omega) _
    refine bodyPost_ret (v := .agg #[.slice A5 n5 c5, .slice A6 n6 c6]) (results_cell_row rfl _ _ (w.heap.size + 2) 34 _ (0, 0) _ rfl nz Tryz.underlying34 rfl (by kernel_rfl)) rfl ?_
    refine ⟨_, _, _, _, _, _, rfl, fun wf hkf0 => ?_, hbz⟩
    have hkf : Kept (fun b => BX b ∧ b < w.heap.size) Z wf := hkf0
    have hws := HWS.out
    have h3s := HB34.out
    have h3w := hb3.size
    have hzs := hkf.1
    have far : ∀ b, b < x4.heap.size → ¬ (BX b ∧ b < w.heap.size) → b ≠ w.heap.size + 2 → wf.heap[b]? = x4.heap[b]? := fun b h1 h2 h3 => (hkf.2 b (by omega) h2).trans (hfz b h3)
    obtain ⟨g5, s5, t5⟩ := HN5.out wf ⟨by omega, fun b hb hn => (far b (by omega) (fun e => hn ⟨.inl e.1, by show b < W.heap.size; omega⟩) (fun e => hn ⟨.inr (by omega), by show b < W.heap.size; omega⟩)).trans (HB4.out.block b hb)⟩
    obtain ⟨g6, s6, t6⟩ := HN6.out wf ⟨by omega, fun b hb hn => far b hb (fun e => hn ⟨.inl e.1, by show b < x3.heap.size; omega⟩) (fun e => hn ⟨.inr (by omega), by show b < x3.heap.size; omega⟩)⟩
    exact ⟨_, _, g5, g6, rfl, s5, s6, t5, t6⟩
end Go.Proofs.YtpbhndmfmnfeoaaGreat
