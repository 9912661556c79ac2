/- The law's said. -/
import Derived.Test.YtgheaaljnmkclaaSbtT
import Derived.Test.YtgheaaljnmkclaaSbtR
import Derived.Test.YtgheaaljnmkclaaSbyT
import Derived.Test.YtgheaaljnmkclaaSbyR
import Derived.Test.YtgheaaljnmkclaaSbS
import Derived.Outline
import Derived.Laws.CopyOwn
namespace Go.Proofs.Ytgheaaljnmkclaa
open Go.RowKit

theorem StrR.take {w : World} {A : Option Addr} {n c : Nat} {ls : List Str} (h : StrR w (.slice A n c) ls) (k : Nat) (hk : k ≤ ls.length) : StrR w (.slice A k c) (ls.take k) := by
  have h1 := h.1.take k (by rw [List.length_map]; exact hk)
  rw [← List.map_take] at h1
  exact ⟨h1, by have := h.2; simp; omega⟩
theorem kept_blank {X : Nat → Prop} {w w' : World} {n : Nat} (hk : Kept X w w') (hn : ∀ b, X b → b < n) : Kept (fun b => X b ∧ b < n) w (blank X w') :=
  ⟨by rw [blank_size]; exact hk.1, fun b hb h => by
    have hx : ¬ X b := fun hx => h ⟨hx, hn b hx⟩
    rw [blank_at hx]
    exact hk.2 b hb hx⟩
theorem and_mask (a : Int) (m : Nat) (hm : m < 9223372036854775808) : ∃ n : Nat, n ≤ m ∧ bits .and .i64 a (m : Int) = (n : Int) := by
  have h2 : (BitVec.ofInt 64 (m : Int)).toNat = m := by
    rw [BitVec.ofInt_natCast, BitVec.toNat_ofNat]; exact Nat.mod_eq_of_lt (by omega)
  have hle : (BitVec.ofInt 64 a &&& BitVec.ofInt 64 (m : Int)).toNat ≤ m := by
    rw [BitVec.toNat_and, h2]; exact Nat.and_le_right
  refine ⟨(BitVec.ofInt 64 a &&& BitVec.ofInt 64 (m : Int)).toNat, hle, ?_⟩
  show IntKind.i64.wrap ((BitVec.ofInt 64 a &&& BitVec.ofInt 64 (m : Int)).toNat : Int) = _
  exact IntWalk.i64_in _ (by omega)
theorem Kept.setX {X : Nat → Prop} {w w' : World} (h : Kept X w w') {p : Addr} (hp : X p.block) (u : Value) : Kept X w (w'.setCell p u) :=
  ⟨by rw [World.size_setCell]; exact h.1, fun b hb hn => (Below.heap_setCell w' p u b (fun e => hn (e ▸ hp))).trans (h.2 b hb hn)⟩
theorem Kept.later {X : Nat → Prop} {w w' w'' : World} (h : Kept X w w') (hb : Below w'.heap.size w' w'') : Kept X w w'' :=
  ⟨Nat.le_trans h.1 hb.size, fun b hlt hn => (hb.block b (Nat.lt_of_lt_of_le hlt h.1)).trans (h.2 b hlt hn)⟩
theorem Kept.same (X : Nat → Prop) (w : World) : Kept X w w := ⟨Nat.le_refl _, fun _ _ _ => rfl⟩
theorem and7 (n : Int) : ∃ r : Nat, r ≤ 7 ∧ bits .and .i64 n 7 = (r : Int) := by
  obtain ⟨r, hr, h⟩ := and_mask n 7 (by decide)
  exact ⟨r, by omega, h⟩
theorem Sb.results_cc {P : Program} {fn : Func} {p q : Tmp} {ty ty2 : TypeId} (h : fn.results = #[.cell p ty, .cell q ty2]) (tmps : Array Value) (w : World) (g : Nat) (t : TypeId) (cs : Array Value) (fr : Nat × Nat) (d : TypeDesc)
    (hp : tmps.getD p undef = .pointer (some ⟨g, 0, none⟩)) (hg : w.heap[g]? = some (.cells cs t fr)) (hu : P.underlying ty = some d) (hd : (match d with | .struct _ | .array _ _ => true | _ => false) = true) (hi : (P.info? ty).map (·.size) = some cs.size)
    (g2 : Nat) (t2 : TypeId) (cs2 : Array Value) (fr2 : Nat × Nat) (d2 : TypeDesc)
    (hp2 : tmps.getD q undef = .pointer (some ⟨g2, 0, none⟩)) (hg2 : w.heap[g2]? = some (.cells cs2 t2 fr2)) (hu2 : P.underlying ty2 = some d2) (hd2 : (match d2 with | .struct _ | .array _ _ => true | _ => false) = true) (hi2 : (P.info? ty2).map (·.size) = some cs2.size) :
    (results fn tmps).run P w = .ok (.tuple #[.agg cs, .agg cs2]) w := by
  have hp' : tmps[p]?.getD undef = .pointer (some ⟨g, 0, none⟩) := by simpa using hp
  have hq' : tmps[q]?.getD undef = .pointer (some ⟨g2, 0, none⟩) := by simpa using hp2
  simp [results, h, hp', hq', asAddr, run_loadVar_row w g t ty cs fr d hg hu hd hi, run_loadVar_row w g2 t2 ty2 cs2 fr2 d2 hg2 hu2 hd2 hi2]
set_option maxRecDepth 100000 in
set_option maxHeartbeats 8000000 in
theorem said_any (w : World) (lv : Value) (xs : List SayD) (h : SayR w lv xs) (_hN : xs.length ≤ 2000000) :
    Calls Try.prog 7 #[lv] w fun e w' => ∃ (Aa Ab Ac Ad Ae Af : Option Addr) (na ca nb cb nc cc nd cd ne ce nf cf : Nat) (T : Int → Option Ty) (R : Int → Option (List Str × Int)), e = .returned (.tuple #[.agg #[.slice Aa na ca, .slice Ab nb cb], .agg #[.slice Ac nc cc, .slice Ad nd cd, .slice Ae ne ce, .slice Af nf cf]]) ∧ SubV w' (.agg #[.slice Aa na ca, .slice Ab nb cb]) 10 T R ∧ (∀ n t, T n = some t → t.size ≤ 30) ∧ Below w.heap.size w w' := by
  obtain ⟨A, c, rfl, hc, hx⟩ := h
  obtain ⟨N, hNN⟩ : ∃ N, N = xs.length := ⟨_, rfl⟩
  have HN := Lib.hid hNN
  have HX := Lib.hid hx
  rw [← hNN] at hc ⊢
  clear hx hNN
  obtain ⟨W0, hW0⟩ : ∃ W0, W0 = (w.alloc (.cells #[.slice none 0 0, .slice none 0 0] 38)).alloc (.cells #[.slice none 0 0, .slice none 0 0, .slice none 0 0, .slice none 0 0] 42) := ⟨_, rfl⟩
  have hb0 : Below w.heap.size w W0 := by rw [hW0]; exact ((Below.refl _ w).alloc (Nat.le_refl _) _).alloc (by simp) _
  have k0 : Lies W0 w.heap.size 38 #[.slice none 0 0, .slice none 0 0] := by rw [hW0]; exact (Lies.new _ _ _).alloc _
  have k1 : Lies W0 (w.heap.size + 1) 42 #[.slice none 0 0, .slice none 0 0, .slice none 0 0, .slice none 0 0] := by rw [hW0]; exact Lies.new' _ _ _ (by simp)
  have HW0 := Lib.hid hW0
  have HB0 := Lib.hid hb0
  have HK0 := Lib.hid k0
  have HK1 := Lib.hid k1
  clear hW0 hb0 k0 k1
  go_enter Try.func7, Try.ntmps7
  go_wp2_with fail
  rw [← HW0.out]
  refine (none_any W0).mono ?_
  rintro e w1 ⟨rfl, hb1⟩
  unfold noneV
  obtain ⟨W, hW⟩ : ∃ W, W = (w1.alloc (.cells #[.slice none 0 0, .slice none 0 0] 38)).alloc (.cells #[.slice none 0 0, .slice none 0 0, .slice none 0 0, .slice none 0 0] 42) := ⟨_, rfl⟩
  obtain ⟨B, hB⟩ : ∃ B, B = w1.heap.size := ⟨_, rfl⟩
  have hbW : Below w1.heap.size w1 W := by rw [hW]; exact ((Below.refl _ w1).alloc (Nat.le_refl _) _).alloc (by simp) _
  have k4 : Lies W B 38 #[.slice none 0 0, .slice none 0 0] := by rw [hW, hB]; exact (Lies.new _ _ _).alloc _
  have k5 : Lies W (B + 1) 42 #[.slice none 0 0, .slice none 0 0, .slice none 0 0, .slice none 0 0] := by rw [hW, hB]; exact Lies.new' _ _ _ (by simp)
  have hBw : w.heap.size + 2 ≤ B := by rw [hB]; have := hb1.size; have := HK1.out.lt; omega
  have hb0W : Below W0.heap.size W0 W := hb1.trans (hbW.mono hb1.size)
  have m0 : Lies W w.heap.size 38 #[.slice none 0 0, .slice none 0 0] := HK0.out.later hb0W
  have m1 : Lies W (w.heap.size + 1) 42 #[.slice none 0 0, .slice none 0 0, .slice none 0 0, .slice none 0 0] := HK1.out.later hb0W
  have hbw : Below w.heap.size w W := HB0.out.trans (hb0W.mono HB0.out.size)
  have HW := Lib.hid hW
  have HBQ := Lib.hid hB
  have HK4 := Lib.hid k4
  have HK5 := Lib.hid k5
  have HM0 := Lib.hid m0
  have HM1 := Lib.hid m1
  have HBW := Lib.hid hbw
  clear hW hbW k4 k5 hb0W m0 m1 hbw hb1
  go_wp2_with fail
  rw [← HW.out, ← HBQ.out]
  obtain ⟨BX, hBX⟩ : ∃ BX : Nat → Prop, BX = fun b => b = B ∨ b = B + 1 ∨ b = w.heap.size ∨ b = w.heap.size + 1 := ⟨_, rfl⟩
  have HBX := Lib.hid hBX
  clear hB hBX
  go_loopw [6] (fun i wr => ∃ (q : Nat) (Aa Ab Ac Ad Ae Af : Option Addr) (na ca nb cb nc cc nd cd ne ce nf cf : Nat) (T : Int → Option Ty) (R : Int → Option (List Str × Int)), q ≤ N ∧ q ≤ 10 ∧ i = .int .i64 q ∧ Lies wr B 38 #[.slice Aa na ca, .slice Ab nb cb] ∧ Lies wr (B + 1) 42 #[.slice Ac nc cc, .slice Ad nd cd, .slice Ae ne ce, .slice Af nf cf] ∧ SubV (blank BX wr) (.agg #[.slice Aa na ca, .slice Ab nb cb]) q T R ∧ RefV (blank BX wr) (.agg #[.slice Ac nc cc, .slice Ad nd cd, .slice Ae ne ce, .slice Af nf cf]) q ∧ (∀ n t, T n = some t → t.size ≤ 30) ∧ Lies wr w.heap.size 38 #[.slice none 0 0, .slice none 0 0] ∧ Lies wr (w.heap.size + 1) 42 #[.slice none 0 0, .slice none 0 0, .slice none 0 0, .slice none 0 0] ∧ Below w.heap.size w wr) (fun i _ => 10 - (intOf i).toNat)
  case atStart => exact ⟨0, none, none, none, none, none, none, 0, 0, 0, 0, 0, 0, 0, 0, 0, 0, 0, 0, T0, R0, Nat.zero_le _, Nat.zero_le _, rfl, HK4.out, HK5.out, SubV.none _ 0, RefV.zero _, (fun n t h => by cases h), HM0.out, HM1.out, HBW.out⟩
  case round =>
    obtain ⟨q, Aa, Ab, Ac, Ad, Ae, Af, na, ca, nb, cb, nc, cc, nd, cd, ne, ce, nf, cf, T, R, hq, hq10, rfl, l4, l5, hsub, href, hsz, l0, l1, hBB⟩ := hrel
    obtain ⟨wo, rfl⟩ : ∃ wo, wo = wr := ⟨_, rfl⟩
    have HL4 := Lib.hid l4
    have HL5 := Lib.hid l5
    have HL0 := Lib.hid l0
    have HL1 := Lib.hid l1
    have HSUB := Lib.hid hsub
    have HREF := Lib.hid href
    have HSZ := Lib.hid hsz
    have HBB := Lib.hid hBB
    clear l4 l5 l0 l1 hsub href hsz
    have hlB := HL5.out.lt
    by_cases hlt : q < N ∧ q < 10
    · obtain ⟨hlt, hlt10⟩ := hlt
      obtain ⟨x, hxx⟩ : ∃ x, xs[q]? = some x := ⟨_, List.getElem?_eq_getElem (by have := HN.out; omega)⟩
      obtain ⟨g, o, rfl, l, lvv, htr, hst, hrv, hno, hts, hrd⟩ := HX.out q x hxx
      obtain ⟨n0, bb, t, ls, rw'⟩ := x
      simp only at htr hst hrv hno hts hrd
      have htr0 := htr
      obtain ⟨k, nm, v, kids, ls0, rv⟩ := t
      obtain ⟨A3, n3, c3, A4, n4, c4, rfl⟩ := htr.shape
      obtain ⟨A5, c5, rfl, hc5, _⟩ := hst.form
      have hgl := reads_block hrd (by simp [tyC])
      have hrr := hrd.keep (hBB.block _ hgl)
      unfold tyC at htr0
      have hrr' : ReadsAt wo ⟨g, o + q * 10, none⟩ [.int .i64 n0, .bool bb, .int .i64 k, .string (ba nm), .int .i64 v, .slice A3 n3 c3, .slice A4 n4 c4, .int .i64 rv, .slice A5 ls.length c5, .int .i64 rw'] := hrr
      have y0 : wo.cell? ⟨g, o + q * 10, none⟩ = _ := hrr' 0 _ rfl
      have y1 : wo.cell? ⟨g, o + q * 10 + 1, none⟩ = _ := hrr' 1 _ rfl
      have y2 : wo.cell? ⟨g, o + q * 10 + 2, none⟩ = _ := hrr' 2 _ rfl
      have y3 : wo.cell? ⟨g, o + q * 10 + 3, none⟩ = _ := hrr' 3 _ rfl
      have y4 : wo.cell? ⟨g, o + q * 10 + 4, none⟩ = _ := hrr' 4 _ rfl
      have y5 : wo.cell? ⟨g, o + q * 10 + 5, none⟩ = _ := hrr' 5 _ rfl
      have y6 : wo.cell? ⟨g, o + q * 10 + 6, none⟩ = _ := hrr' 6 _ rfl
      have y7 : wo.cell? ⟨g, o + q * 10 + 7, none⟩ = _ := hrr' 7 _ rfl
      have y8 : wo.cell? ⟨g, o + q * 10 + 8, none⟩ = _ := hrr' 8 _ rfl
      have y9 : wo.cell? ⟨g, o + q * 10 + 9, none⟩ = _ := hrr' 9 _ rfl
      obtain ⟨r7, hr7, h7⟩ := and7 n0
      have hqc : q < c := by omega
      have hqi : (q : Int) < (N : Int) := by omega
      have hqi10 : (q : Int) < 10 := by omega
      have hw1 : IntKind.i64.wrap (1 + (r7 : Int)) = 1 + (r7 : Int) := IntWalk.i64_in _ (by omega)
      clear hrr hrr' hrd hBB htr hgl
      have hbx : ∀ b, BX b → b < wo.heap.size := by
        intro b hb
        rw [HBX.out] at hb
        have h0 := HL5.out.lt
        rcases hb with h | h | h | h <;> omega
      have HBXL := Lib.hid hbx
      clear hbx
      obtain ⟨LL, hLL⟩ : ∃ LL, LL = ls.length := ⟨_, rfl⟩
      have HLL := Lib.hid hLL
      have hLb := hst.2
      rw [← hLL] at hc5 y8 hst hLb
      have HST := Lib.hid hst
      have HTR := Lib.hid htr0
      have HRV := Lib.hid hrv
      have HTS := Lib.hid hts
      clear hLL hst htr0 hrv hts hno hxx
      rcases Nat.lt_trichotomy LL 10 with hL | rfl | hL
      · have hLi : (LL : Int) < 10 := by omega
        have hLi2 : ¬ ((10 : Int) < (LL : Int)) := by omega
        cases bb
        · obtain ⟨VO, hV⟩ : ∃ VO, VO = (wo.alloc (.cells #[.int .i64 (1 + (r7 : Int)), .bool false, .int .i64 k, .string (ba nm), .int .i64 v, .slice A3 n3 c3, .slice A4 n4 c4, .int .i64 rv, .slice A5 LL c5, .int .i64 rw'] 61)) := ⟨_, rfl⟩
          have lV : Lies VO wo.heap.size 61 #[.int .i64 (1 + (r7 : Int)), .bool false, .int .i64 k, .string (ba nm), .int .i64 v, .slice A3 n3 c3, .slice A4 n4 c4, .int .i64 rv, .slice A5 LL c5, .int .i64 rw'] := by rw [hV]; exact Lies.new wo _ _
          have hbV : Below wo.heap.size wo VO := by rw [hV]; exact below_new wo _
          have v4 := HL4.out.later hbV
          have v40 := v4.cell 0
          have v41 := v4.cell 1
          clear v40 v41
          have HV := Lib.hid hV
          have HLV := Lib.hid lV
          have HBV := Lib.hid hbV
          have htrV := HTR.out.later (HBB.out.trans (hbV.mono HBB.out.size))
          have HCNT := Lib.hid (count_any _ VO _ HTS.out htrV)
          obtain ⟨sz, hsz⟩ : ∃ sz, sz = (Ty.mk k nm v kids ls0 rv).size := ⟨_, rfl⟩
          rw [← hsz] at HCNT
          have HSZT := Lib.hid hsz
          clear hV lV hbV v4 htrV hsz
          go_wp2_with fail
          rw [← HV.out]
          refine HCNT.out.mono ?_
          rintro e V ⟨rfl, hb2⟩
          have hbV : Below wo.heap.size wo V := HBV.out.trans (hb2.mono HBV.out.size)
          have lx2 := HLV.out.later hb2
          clear HV HLV HBV HCNT hb2
          have v4 := HL4.out.later hbV
          have v40 := v4.cell 0
          have v41 := v4.cell 1
          have x20 := lx2.cell 0
          have x22 := lx2.cell 2
          have x23 := lx2.cell 3
          have x24 := lx2.cell 4
          have x25 := lx2.cell 5
          have x26 := lx2.cell 6
          have x27 := lx2.cell 7
          have HLV := Lib.hid lx2
          have HBV := Lib.hid hbV
          by_cases h30 : sz ≤ 30
          rotate_left
          · have h30i : ¬ ((sz : Int) ≤ 30) := by omega
            have hkb := Kept.of_below hbV
            have n5 := HL5.out.later hbV
            have n0' := HL0.out.later hbV
            have n1' := HL1.out.later hbV
            have HN5 := Lib.hid n5
            have HN0 := Lib.hid n0'
            have HN1 := Lib.hid n1'
            have HN4 := Lib.hid v4
            have HSU := Lib.hid ((HSUB.out.keepL (blank_blank hkb (fun _ _ h => h.elim))).mono (Nat.le_succ q))
            have HRE := Lib.hid ((HREF.out.keepL (blank_blank hkb (fun _ _ h => h.elim))).mono (Nat.le_succ q))
            have HBz := Lib.hid (HBB.out.trans (hbV.mono HBB.out.size))
            clear n5 n0' n1' v4 hkb hbV lx2
            go_wp2_with fail
            go_roundw
            case rel => exact ⟨q + 1, Aa, Ab, Ac, Ad, Ae, Af, na, ca, nb, cb, nc, cc, nd, cd, ne, ce, nf, cf, T, R, by omega, by omega, by simp, HN4.out, HN5.out, HSU.out, HRE.out, HSZ.out, HN0.out, HN1.out, HBz.out⟩
            case measure => (simp [intOf] <;> omega)
          have h30i : (sz : Int) ≤ 30 := by omega
          have hok : i64ok (1 + (r7 : Int)) := i64ok_of (by omega) (by omega)
          have htrV := HTR.out.later (HBB.out.trans (hbV.mono HBB.out.size))
          have hcall := setType_any BX V _ q T R (HSUB.out.keepL (blank_blank (Kept.of_below hbV) (fun _ _ h => h.elim))) (by omega) (1 + (r7 : Int)) hok _ _ htrV (by rw [← HSZT.out]; omega)
          have HCALL := Lib.hid hcall
          clear hbV v4 lx2 hcall hok htrV
          go_wp2_with fail
          refine HCALL.out.mono ?_
          rintro e w5 ⟨sv5, rfl, hs5, hb5⟩
          obtain ⟨vt, vr, gt, gr, rfl, h51, h52, _, _⟩ := hs5 w5 ⟨Nat.le_refl _, fun _ _ _ => rfl⟩
          obtain ⟨A6, n6, c6, rfl⟩ := h51.one
          obtain ⟨A7, n7, c7, rfl⟩ := h52.one
          have hb5o : Below wo.heap.size wo w5 := HBV.out.trans (hb5.mono HBV.out.size)
          have HS5 := Lib.hid hs5
          have m4 := HL4.out.later hb5o
          have m5 := HL5.out.later hb5o
          have mx := HLV.out.later hb5
          have f40 := m4.free 0
          have f41 := m4.free 1
          have d40 := m4.cell 0
          have d41 := m4.cell 1
          have hl4 := m4.lt
          obtain ⟨U, hU⟩ : ∃ U, U = ((w5.setCell ⟨B, 0, none⟩ (.slice A6 n6 c6)).setCell ⟨B, 1, none⟩ (.slice A7 n7 c7)) := ⟨_, rfl⟩
          have hfU : ∀ i, i ≠ B → U.heap[i]? = w5.heap[i]? := by
            intro i hi
            rw [hU]
            exact (Below.heap_setCell _ ⟨B, 1, none⟩ _ i hi).trans (Below.heap_setCell _ ⟨B, 0, none⟩ _ i hi)
          have hkU : Kept BX w5 U := by
            rw [hU]
            exact ((Kept.same BX w5).setX (p := ⟨B, 0, none⟩) (by rw [HBX.out]; exact .inl rfl) _).setX (p := ⟨B, 1, none⟩) (by rw [HBX.out]; exact .inl rfl) _
          have hbU : Below w.heap.size w U := by
            rw [hU]
            exact (HBB.out.trans (hb5o.mono HBB.out.size)).trans (((Below.refl w.heap.size w5).setCell (p := ⟨B, 0, none⟩) (by show w.heap.size ≤ B; omega) _).setCell (p := ⟨B, 1, none⟩) (by show w.heap.size ≤ B; omega) _)
          have u4 : Lies U B 38 #[.slice A6 n6 c6, .slice A7 n7 c7] := by rw [hU]; exact (m4.set 0 _).set 1 _
          have u5 : Lies U (B + 1) 42 #[.slice Ac nc cc, .slice Ad nd cd, .slice Ae ne ce, .slice Af nf cf] := (hfU _ (by omega)).trans m5
          have ux : Lies U wo.heap.size 61 #[.int .i64 (1 + (r7 : Int)), .bool false, .int .i64 k, .string (ba nm), .int .i64 v, .slice A3 n3 c3, .slice A4 n4 c4, .int .i64 rv, .slice A5 LL c5, .int .i64 rw'] := (hfU _ (by omega)).trans mx
          have hszU : wo.heap.size ≤ U.heap.size := Nat.le_trans hb5o.size hkU.1
          have u50 := u5.cell 0
          have u51 := u5.cell 1
          have u52 := u5.cell 2
          have u53 := u5.cell 3
          have ux0 := ux.cell 0
          have ux2 := ux.cell 2
          have ux3 := ux.cell 3
          have ux4 := ux.cell 4
          have ux5 := ux.cell 5
          have ux6 := ux.cell 6
          have ux7 := ux.cell 7
          rw [hU] at u50 u51 u52 u53 ux0 ux2 ux3 ux4 ux5 ux6 ux7
          have HU := Lib.hid hU
          have HFU := Lib.hid hfU
          have HB5O := Lib.hid hb5o
          have HU4 := Lib.hid u4
          have HU5 := Lib.hid u5
          have HKU := Lib.hid hkU
          have HBU := Lib.hid hbU
          have HSZU := Lib.hid hszU
          have hko : Kept BX wo U := ⟨hszU, fun b hb hn => (hkU.2 b (Nat.lt_of_lt_of_le hb hb5o.size) hn).trans (hb5o.block b hb)⟩
          have hcall := refSetType_any BX U _ q (HREF.out.keepL (blank_blank hko (fun _ _ h => h))) (by omega) (1 + (r7 : Int)) k nm v A3 n3 c3 A4 n4 c4 rv
          have HCALL := Lib.hid hcall
          have HKO := Lib.hid hko
          clear hU u4 u5 ux m4 m5 mx hfU hkU hbU hszU hb5 hb5o hs5 h51 h52 hcall hko
          go_wp2_with fail
          rw [← HU.out]
          refine HCALL.out.mono ?_
          rintro e w6 ⟨rf6, rfl, hr6, hb6⟩
          obtain ⟨va, vb, vc, vd, ns6, ms6, ts6, rs6, rfl, h1, h2, h3, h4, _⟩ := hr6 w6 ⟨Nat.le_refl _, fun _ _ _ => rfl⟩
          obtain ⟨A8, n8, c8, rfl⟩ : ∃ A n c, va = .slice A n c := by rcases h1 with ⟨rfl, _⟩ | ⟨_, _, rfl, _⟩ <;> exact ⟨_, _, _, rfl⟩
          obtain ⟨A9, n9, c9, rfl⟩ : ∃ A n c, vb = .slice A n c := by obtain ⟨A, c, rfl, _⟩ := h2.form; exact ⟨_, _, _, rfl⟩
          obtain ⟨A10, n10, c10, rfl⟩ : ∃ A n c, vc = .slice A n c := by rcases h3 with ⟨rfl, _⟩ | ⟨_, _, rfl, _⟩ <;> exact ⟨_, _, _, rfl⟩
          obtain ⟨A11, n11, c11, rfl⟩ : ∃ A n c, vd = .slice A n c := by obtain ⟨A, c, rfl, _⟩ := h4.form; exact ⟨_, _, _, rfl⟩
          have m5 := HU5.out.later hb6
          have g50 := m5.free 0
          have g51 := m5.free 1
          have g52 := m5.free 2
          have g53 := m5.free 3
          have e50 := m5.cell 0
          have e51 := m5.cell 1
          have e52 := m5.cell 2
          have e53 := m5.cell 3
          have hl5 := m5.lt
          have HM5 := Lib.hid m5
          have HR6 := Lib.hid hr6
          have HB6 := Lib.hid hb6
          clear m5 hr6 hb6 h1 h2 h3 h4
          go_wp2_with fail
          obtain ⟨Z, hZ⟩ : ∃ Z, Z = ((((w6.setCell ⟨B + 1, 0, none⟩ (.slice A8 n8 c8)).setCell ⟨B + 1, 1, none⟩ (.slice A9 n9 c9)).setCell ⟨B + 1, 2, none⟩ (.slice A10 n10 c10)).setCell ⟨B + 1, 3, none⟩ (.slice A11 n11 c11)) := ⟨_, rfl⟩
          rw [← hZ]
          have hkZ : Kept BX w6 Z := by
            rw [hZ]
            exact ((((Kept.same BX w6).setX (p := ⟨B + 1, 0, none⟩) (by rw [HBX.out]; exact .inr (.inl rfl)) _).setX (p := ⟨B + 1, 1, none⟩) (by rw [HBX.out]; exact .inr (.inl rfl)) _).setX (p := ⟨B + 1, 2, none⟩) (by rw [HBX.out]; exact .inr (.inl rfl)) _).setX (p := ⟨B + 1, 3, none⟩) (by rw [HBX.out]; exact .inr (.inl rfl)) _
          have hfZ : ∀ i, i ≠ B + 1 → Z.heap[i]? = w6.heap[i]? := by
            intro i hi
            rw [hZ]
            exact (Below.heap_setCell _ ⟨B + 1, 3, none⟩ _ i hi).trans ((Below.heap_setCell _ ⟨B + 1, 2, none⟩ _ i hi).trans ((Below.heap_setCell _ ⟨B + 1, 1, none⟩ _ i hi).trans (Below.heap_setCell _ ⟨B + 1, 0, none⟩ _ i hi)))
          have z5 : Lies Z (B + 1) 42 #[.slice A8 n8 c8, .slice A9 n9 c9, .slice A10 n10 c10, .slice A11 n11 c11] := by rw [hZ]; exact (((HM5.out.set 0 _).set 1 _).set 2 _).set 3 _
          have z4 : Lies Z B 38 #[.slice A6 n6 c6, .slice A7 n7 c7] := (hfZ _ (by omega)).trans (HU4.out.later HB6.out)
          have hbZ : Below w.heap.size w Z := by
            rw [hZ]
            exact (HBU.out.trans (HB6.out.mono HBU.out.size)).trans (((((Below.refl w.heap.size w6).setCell (p := ⟨B + 1, 0, none⟩) (by show w.heap.size ≤ B + 1; omega) _).setCell (p := ⟨B + 1, 1, none⟩) (by show w.heap.size ≤ B + 1; omega) _).setCell (p := ⟨B + 1, 2, none⟩) (by show w.heap.size ≤ B + 1; omega) _).setCell (p := ⟨B + 1, 3, none⟩) (by show w.heap.size ≤ B + 1; omega) _)
          have hkoZ : Kept (fun b => b = B ∨ b = B + 1) wo Z := by
            refine ⟨Nat.le_trans HKO.out.1 (Nat.le_trans HB6.out.size hkZ.1), fun b hb hn => ?_⟩
            exact (hfZ b (fun e => hn (.inr e))).trans ((HB6.out.block b (Nat.lt_of_lt_of_le hb HSZU.out)).trans ((HFU.out b (fun e => hn (.inl e))).trans (HB5O.out.block b hb)))
          have z0 : Lies Z w.heap.size 38 #[.slice none 0 0, .slice none 0 0] := (hkoZ.2 _ (by omega) (by omega)).trans HL0.out
          have z1 : Lies Z (w.heap.size + 1) 42 #[.slice none 0 0, .slice none 0 0, .slice none 0 0, .slice none 0 0] := (hkoZ.2 _ (by omega) (by omega)).trans HL1.out
          have hsZ := HS5.out (blank BX Z) (kept_blank ((HKU.out.later HB6.out).trans hkZ (fun _ _ h => h)) (fun b hb => Nat.lt_of_lt_of_le (HBXL.out b hb) HBV.out.size))
          have hrZ := HR6.out (blank BX Z) (kept_blank hkZ (fun b hb => Nat.lt_of_lt_of_le (HBXL.out b hb) HSZU.out))
          have HZ := Lib.hid hZ
          have HSZZ := Lib.hid hsZ
          have HRZ := Lib.hid hrZ
          have HZ4 := Lib.hid z4
          have HZ5 := Lib.hid z5
          have HZ0 := Lib.hid z0
          have HZ1 := Lib.hid z1
          have HBZ := Lib.hid hbZ
          clear hZ hsZ hrZ z4 z5 z0 z1 hkZ hfZ hkoZ hbZ
          go_roundw
          case rel => exact ⟨q + 1, A6, A7, A8, A9, A10, A11, n6, c6, n7, c7, n8, c8, n9, c9, n10, c10, n11, c11, _, _, by omega, by omega, by simp, HZ4.out, HZ5.out, HSZZ.out, HRZ.out, (fun n t h => by unfold setF at h; split at h; injection h with h; rw [← h, ← HSZT.out]; omega; exact HSZ.out n t h), HZ0.out, HZ1.out, HBZ.out⟩
          case measure => (simp [intOf] <;> omega)
        · obtain ⟨V, hV⟩ : ∃ V, V = (wo.alloc (.cells #[.int .i64 (1 + (r7 : Int)), .bool true, .int .i64 k, .string (ba nm), .int .i64 v, .slice A3 n3 c3, .slice A4 n4 c4, .int .i64 rv, .slice A5 LL c5, .int .i64 rw'] 61)) := ⟨_, rfl⟩
          have lV : Lies V wo.heap.size 61 #[.int .i64 (1 + (r7 : Int)), .bool true, .int .i64 k, .string (ba nm), .int .i64 v, .slice A3 n3 c3, .slice A4 n4 c4, .int .i64 rv, .slice A5 LL c5, .int .i64 rw'] := by rw [hV]; exact Lies.new wo _ _
          have hbV : Below wo.heap.size wo V := by rw [hV]; exact below_new wo _
          have v4 := HL4.out.later hbV
          have v40 := v4.cell 0
          have v41 := v4.cell 1
          rw [hV] at v40 v41
          have HV := Lib.hid hV
          have HLV := Lib.hid lV
          have HBV := Lib.hid hbV
          have hok : i64ok (1 + (r7 : Int)) := i64ok_of (by omega) (by omega)
          have hst2 := (HST.out.take LL (by have := HLL.out; omega)).keep (HBB.out.trans (hbV.mono HBB.out.size)).block
          have hcall := setRow_any BX V _ q T R (HSUB.out.keepL (blank_blank (Kept.of_below hbV) (fun _ _ h => h.elim))) (by omega) (1 + (r7 : Int)) hok (ls.take LL) rw' [.slice A5 LL c5, .int .i64 rw'] ⟨_, rfl, hst2, HRV.out⟩
          have HCALL := Lib.hid hcall
          clear hV lV hbV v4 hst2 hcall hok
          go_wp2_with fail
          rw [← HV.out]
          refine HCALL.out.mono ?_
          rintro e w5 ⟨sv5, rfl, hs5, hb5⟩
          obtain ⟨vt, vr, gt, gr, rfl, h51, h52, _, _⟩ := hs5 w5 ⟨Nat.le_refl _, fun _ _ _ => rfl⟩
          obtain ⟨A6, n6, c6, rfl⟩ := h51.one
          obtain ⟨A7, n7, c7, rfl⟩ := h52.one
          have hb5o : Below wo.heap.size wo w5 := HBV.out.trans (hb5.mono HBV.out.size)
          have HS5 := Lib.hid hs5
          have m4 := HL4.out.later hb5o
          have m5 := HL5.out.later hb5o
          have mx := HLV.out.later hb5
          have f40 := m4.free 0
          have f41 := m4.free 1
          have d40 := m4.cell 0
          have d41 := m4.cell 1
          have hl4 := m4.lt
          obtain ⟨U, hU⟩ : ∃ U, U = ((w5.setCell ⟨B, 0, none⟩ (.slice A6 n6 c6)).setCell ⟨B, 1, none⟩ (.slice A7 n7 c7)) := ⟨_, rfl⟩
          have hfU : ∀ i, i ≠ B → U.heap[i]? = w5.heap[i]? := by
            intro i hi
            rw [hU]
            exact (Below.heap_setCell _ ⟨B, 1, none⟩ _ i hi).trans (Below.heap_setCell _ ⟨B, 0, none⟩ _ i hi)
          have hkU : Kept BX w5 U := by
            rw [hU]
            exact ((Kept.same BX w5).setX (p := ⟨B, 0, none⟩) (by rw [HBX.out]; exact .inl rfl) _).setX (p := ⟨B, 1, none⟩) (by rw [HBX.out]; exact .inl rfl) _
          have hbU : Below w.heap.size w U := by
            rw [hU]
            exact (HBB.out.trans (hb5o.mono HBB.out.size)).trans (((Below.refl w.heap.size w5).setCell (p := ⟨B, 0, none⟩) (by show w.heap.size ≤ B; omega) _).setCell (p := ⟨B, 1, none⟩) (by show w.heap.size ≤ B; omega) _)
          have u4 : Lies U B 38 #[.slice A6 n6 c6, .slice A7 n7 c7] := by rw [hU]; exact (m4.set 0 _).set 1 _
          have u5 : Lies U (B + 1) 42 #[.slice Ac nc cc, .slice Ad nd cd, .slice Ae ne ce, .slice Af nf cf] := (hfU _ (by omega)).trans m5
          have ux : Lies U wo.heap.size 61 #[.int .i64 (1 + (r7 : Int)), .bool true, .int .i64 k, .string (ba nm), .int .i64 v, .slice A3 n3 c3, .slice A4 n4 c4, .int .i64 rv, .slice A5 LL c5, .int .i64 rw'] := (hfU _ (by omega)).trans mx
          have hszU : wo.heap.size ≤ U.heap.size := Nat.le_trans hb5o.size hkU.1
          have u50 := u5.cell 0
          have u51 := u5.cell 1
          have u52 := u5.cell 2
          have u53 := u5.cell 3
          have ux0 := ux.cell 0
          have ux8 := ux.cell 8
          have ux9 := ux.cell 9
          rw [hU] at u50 u51 u52 u53 ux0 ux8 ux9
          have HU := Lib.hid hU
          have HFU := Lib.hid hfU
          have HB5O := Lib.hid hb5o
          have HU4 := Lib.hid u4
          have HU5 := Lib.hid u5
          have HKU := Lib.hid hkU
          have HBU := Lib.hid hbU
          have HSZU := Lib.hid hszU
          have hko : Kept BX wo U := ⟨hszU, fun b hb hn => (hkU.2 b (Nat.lt_of_lt_of_le hb hb5o.size) hn).trans (hb5o.block b hb)⟩
          have hcall := refSetRow_any BX U _ q (HREF.out.keepL (blank_blank hko (fun _ _ h => h))) (by omega) (1 + (r7 : Int)) A5 LL c5 rw'
          have HCALL := Lib.hid hcall
          have HKO := Lib.hid hko
          clear hU u4 u5 ux m4 m5 mx hfU hkU hbU hszU hb5 hb5o hs5 h51 h52 hcall hko
          go_wp2_with fail
          rw [← HU.out]
          refine HCALL.out.mono ?_
          rintro e w6 ⟨rf6, rfl, hr6, hb6⟩
          obtain ⟨va, vb, vc, vd, ns6, ms6, ts6, rs6, rfl, h1, h2, h3, h4, _⟩ := hr6 w6 ⟨Nat.le_refl _, fun _ _ _ => rfl⟩
          obtain ⟨A8, n8, c8, rfl⟩ : ∃ A n c, va = .slice A n c := by rcases h1 with ⟨rfl, _⟩ | ⟨_, _, rfl, _⟩ <;> exact ⟨_, _, _, rfl⟩
          obtain ⟨A9, n9, c9, rfl⟩ : ∃ A n c, vb = .slice A n c := by obtain ⟨A, c, rfl, _⟩ := h2.form; exact ⟨_, _, _, rfl⟩
          obtain ⟨A10, n10, c10, rfl⟩ : ∃ A n c, vc = .slice A n c := by rcases h3 with ⟨rfl, _⟩ | ⟨_, _, rfl, _⟩ <;> exact ⟨_, _, _, rfl⟩
          obtain ⟨A11, n11, c11, rfl⟩ : ∃ A n c, vd = .slice A n c := by obtain ⟨A, c, rfl, _⟩ := h4.form; exact ⟨_, _, _, rfl⟩
          have m5 := HU5.out.later hb6
          have g50 := m5.free 0
          have g51 := m5.free 1
          have g52 := m5.free 2
          have g53 := m5.free 3
          have e50 := m5.cell 0
          have e51 := m5.cell 1
          have e52 := m5.cell 2
          have e53 := m5.cell 3
          have hl5 := m5.lt
          have HM5 := Lib.hid m5
          have HR6 := Lib.hid hr6
          have HB6 := Lib.hid hb6
          clear m5 hr6 hb6 h1 h2 h3 h4
          go_wp2_with fail
          obtain ⟨Z, hZ⟩ : ∃ Z, Z = ((((w6.setCell ⟨B + 1, 0, none⟩ (.slice A8 n8 c8)).setCell ⟨B + 1, 1, none⟩ (.slice A9 n9 c9)).setCell ⟨B + 1, 2, none⟩ (.slice A10 n10 c10)).setCell ⟨B + 1, 3, none⟩ (.slice A11 n11 c11)) := ⟨_, rfl⟩
          rw [← hZ]
          have hkZ : Kept BX w6 Z := by
            rw [hZ]
            exact ((((Kept.same BX w6).setX (p := ⟨B + 1, 0, none⟩) (by rw [HBX.out]; exact .inr (.inl rfl)) _).setX (p := ⟨B + 1, 1, none⟩) (by rw [HBX.out]; exact .inr (.inl rfl)) _).setX (p := ⟨B + 1, 2, none⟩) (by rw [HBX.out]; exact .inr (.inl rfl)) _).setX (p := ⟨B + 1, 3, none⟩) (by rw [HBX.out]; exact .inr (.inl rfl)) _
          have hfZ : ∀ i, i ≠ B + 1 → Z.heap[i]? = w6.heap[i]? := by
            intro i hi
            rw [hZ]
            exact (Below.heap_setCell _ ⟨B + 1, 3, none⟩ _ i hi).trans ((Below.heap_setCell _ ⟨B + 1, 2, none⟩ _ i hi).trans ((Below.heap_setCell _ ⟨B + 1, 1, none⟩ _ i hi).trans (Below.heap_setCell _ ⟨B + 1, 0, none⟩ _ i hi)))
          have z5 : Lies Z (B + 1) 42 #[.slice A8 n8 c8, .slice A9 n9 c9, .slice A10 n10 c10, .slice A11 n11 c11] := by rw [hZ]; exact (((HM5.out.set 0 _).set 1 _).set 2 _).set 3 _
          have z4 : Lies Z B 38 #[.slice A6 n6 c6, .slice A7 n7 c7] := (hfZ _ (by omega)).trans (HU4.out.later HB6.out)
          have hbZ : Below w.heap.size w Z := by
            rw [hZ]
            exact (HBU.out.trans (HB6.out.mono HBU.out.size)).trans (((((Below.refl w.heap.size w6).setCell (p := ⟨B + 1, 0, none⟩) (by show w.heap.size ≤ B + 1; omega) _).setCell (p := ⟨B + 1, 1, none⟩) (by show w.heap.size ≤ B + 1; omega) _).setCell (p := ⟨B + 1, 2, none⟩) (by show w.heap.size ≤ B + 1; omega) _).setCell (p := ⟨B + 1, 3, none⟩) (by show w.heap.size ≤ B + 1; omega) _)
          have hkoZ : Kept (fun b => b = B ∨ b = B + 1) wo Z := by
            refine ⟨Nat.le_trans HKO.out.1 (Nat.le_trans HB6.out.size hkZ.1), fun b hb hn => ?_⟩
            exact (hfZ b (fun e => hn (.inr e))).trans ((HB6.out.block b (Nat.lt_of_lt_of_le hb HSZU.out)).trans ((HFU.out b (fun e => hn (.inl e))).trans (HB5O.out.block b hb)))
          have z0 : Lies Z w.heap.size 38 #[.slice none 0 0, .slice none 0 0] := (hkoZ.2 _ (by omega) (by omega)).trans HL0.out
          have z1 : Lies Z (w.heap.size + 1) 42 #[.slice none 0 0, .slice none 0 0, .slice none 0 0, .slice none 0 0] := (hkoZ.2 _ (by omega) (by omega)).trans HL1.out
          have hsZ := HS5.out (blank BX Z) (kept_blank ((HKU.out.later HB6.out).trans hkZ (fun _ _ h => h)) (fun b hb => Nat.lt_of_lt_of_le (HBXL.out b hb) HBV.out.size))
          have hrZ := HR6.out (blank BX Z) (kept_blank hkZ (fun b hb => Nat.lt_of_lt_of_le (HBXL.out b hb) HSZU.out))
          have HZ := Lib.hid hZ
          have HSZZ := Lib.hid hsZ
          have HRZ := Lib.hid hrZ
          have HZ4 := Lib.hid z4
          have HZ5 := Lib.hid z5
          have HZ0 := Lib.hid z0
          have HZ1 := Lib.hid z1
          have HBZ := Lib.hid hbZ
          clear hZ hsZ hrZ z4 z5 z0 z1 hkZ hfZ hkoZ hbZ
          go_roundw
          case rel => exact ⟨q + 1, A6, A7, A8, A9, A10, A11, n6, c6, n7, c7, n8, c8, n9, c9, n10, c10, n11, c11, _, _, by omega, by omega, by simp, HZ4.out, HZ5.out, HSZZ.out, HRZ.out, HSZ.out, HZ0.out, HZ1.out, HBZ.out⟩
          case measure => (simp [intOf] <;> omega)
      · cases bb
        · obtain ⟨VO, hV⟩ : ∃ VO, VO = (wo.alloc (.cells #[.int .i64 (1 + (r7 : Int)), .bool false, .int .i64 k, .string (ba nm), .int .i64 v, .slice A3 n3 c3, .slice A4 n4 c4, .int .i64 rv, .slice A5 10 c5, .int .i64 rw'] 61)) := ⟨_, rfl⟩
          have lV : Lies VO wo.heap.size 61 #[.int .i64 (1 + (r7 : Int)), .bool false, .int .i64 k, .string (ba nm), .int .i64 v, .slice A3 n3 c3, .slice A4 n4 c4, .int .i64 rv, .slice A5 10 c5, .int .i64 rw'] := by rw [hV]; exact Lies.new wo _ _
          have hbV : Below wo.heap.size wo VO := by rw [hV]; exact below_new wo _
          have v4 := HL4.out.later hbV
          have v40 := v4.cell 0
          have v41 := v4.cell 1
          clear v40 v41
          have HV := Lib.hid hV
          have HLV := Lib.hid lV
          have HBV := Lib.hid hbV
          have htrV := HTR.out.later (HBB.out.trans (hbV.mono HBB.out.size))
          have HCNT := Lib.hid (count_any _ VO _ HTS.out htrV)
          obtain ⟨sz, hsz⟩ : ∃ sz, sz = (Ty.mk k nm v kids ls0 rv).size := ⟨_, rfl⟩
          rw [← hsz] at HCNT
          have HSZT := Lib.hid hsz
          clear hV lV hbV v4 htrV hsz
          go_wp2_with fail
          rw [← HV.out]
          refine HCNT.out.mono ?_
          rintro e V ⟨rfl, hb2⟩
          have hbV : Below wo.heap.size wo V := HBV.out.trans (hb2.mono HBV.out.size)
          have lx2 := HLV.out.later hb2
          clear HV HLV HBV HCNT hb2
          have v4 := HL4.out.later hbV
          have v40 := v4.cell 0
          have v41 := v4.cell 1
          have x20 := lx2.cell 0
          have x22 := lx2.cell 2
          have x23 := lx2.cell 3
          have x24 := lx2.cell 4
          have x25 := lx2.cell 5
          have x26 := lx2.cell 6
          have x27 := lx2.cell 7
          have HLV := Lib.hid lx2
          have HBV := Lib.hid hbV
          by_cases h30 : sz ≤ 30
          rotate_left
          · have h30i : ¬ ((sz : Int) ≤ 30) := by omega
            have hkb := Kept.of_below hbV
            have n5 := HL5.out.later hbV
            have n0' := HL0.out.later hbV
            have n1' := HL1.out.later hbV
            have HN5 := Lib.hid n5
            have HN0 := Lib.hid n0'
            have HN1 := Lib.hid n1'
            have HN4 := Lib.hid v4
            have HSU := Lib.hid ((HSUB.out.keepL (blank_blank hkb (fun _ _ h => h.elim))).mono (Nat.le_succ q))
            have HRE := Lib.hid ((HREF.out.keepL (blank_blank hkb (fun _ _ h => h.elim))).mono (Nat.le_succ q))
            have HBz := Lib.hid (HBB.out.trans (hbV.mono HBB.out.size))
            clear n5 n0' n1' v4 hkb hbV lx2
            go_wp2_with fail
            go_roundw
            case rel => exact ⟨q + 1, Aa, Ab, Ac, Ad, Ae, Af, na, ca, nb, cb, nc, cc, nd, cd, ne, ce, nf, cf, T, R, by omega, by omega, by simp, HN4.out, HN5.out, HSU.out, HRE.out, HSZ.out, HN0.out, HN1.out, HBz.out⟩
            case measure => (simp [intOf] <;> omega)
          have h30i : (sz : Int) ≤ 30 := by omega
          have hok : i64ok (1 + (r7 : Int)) := i64ok_of (by omega) (by omega)
          have htrV := HTR.out.later (HBB.out.trans (hbV.mono HBB.out.size))
          have hcall := setType_any BX V _ q T R (HSUB.out.keepL (blank_blank (Kept.of_below hbV) (fun _ _ h => h.elim))) (by omega) (1 + (r7 : Int)) hok _ _ htrV (by rw [← HSZT.out]; omega)
          have HCALL := Lib.hid hcall
          clear hbV v4 lx2 hcall hok htrV
          go_wp2_with fail
          refine HCALL.out.mono ?_
          rintro e w5 ⟨sv5, rfl, hs5, hb5⟩
          obtain ⟨vt, vr, gt, gr, rfl, h51, h52, _, _⟩ := hs5 w5 ⟨Nat.le_refl _, fun _ _ _ => rfl⟩
          obtain ⟨A6, n6, c6, rfl⟩ := h51.one
          obtain ⟨A7, n7, c7, rfl⟩ := h52.one
          have hb5o : Below wo.heap.size wo w5 := HBV.out.trans (hb5.mono HBV.out.size)
          have HS5 := Lib.hid hs5
          have m4 := HL4.out.later hb5o
          have m5 := HL5.out.later hb5o
          have mx := HLV.out.later hb5
          have f40 := m4.free 0
          have f41 := m4.free 1
          have d40 := m4.cell 0
          have d41 := m4.cell 1
          have hl4 := m4.lt
          obtain ⟨U, hU⟩ : ∃ U, U = ((w5.setCell ⟨B, 0, none⟩ (.slice A6 n6 c6)).setCell ⟨B, 1, none⟩ (.slice A7 n7 c7)) := ⟨_, rfl⟩
          have hfU : ∀ i, i ≠ B → U.heap[i]? = w5.heap[i]? := by
            intro i hi
            rw [hU]
            exact (Below.heap_setCell _ ⟨B, 1, none⟩ _ i hi).trans (Below.heap_setCell _ ⟨B, 0, none⟩ _ i hi)
          have hkU : Kept BX w5 U := by
            rw [hU]
            exact ((Kept.same BX w5).setX (p := ⟨B, 0, none⟩) (by rw [HBX.out]; exact .inl rfl) _).setX (p := ⟨B, 1, none⟩) (by rw [HBX.out]; exact .inl rfl) _
          have hbU : Below w.heap.size w U := by
            rw [hU]
            exact (HBB.out.trans (hb5o.mono HBB.out.size)).trans (((Below.refl w.heap.size w5).setCell (p := ⟨B, 0, none⟩) (by show w.heap.size ≤ B; omega) _).setCell (p := ⟨B, 1, none⟩) (by show w.heap.size ≤ B; omega) _)
          have u4 : Lies U B 38 #[.slice A6 n6 c6, .slice A7 n7 c7] := by rw [hU]; exact (m4.set 0 _).set 1 _
          have u5 : Lies U (B + 1) 42 #[.slice Ac nc cc, .slice Ad nd cd, .slice Ae ne ce, .slice Af nf cf] := (hfU _ (by omega)).trans m5
          have ux : Lies U wo.heap.size 61 #[.int .i64 (1 + (r7 : Int)), .bool false, .int .i64 k, .string (ba nm), .int .i64 v, .slice A3 n3 c3, .slice A4 n4 c4, .int .i64 rv, .slice A5 10 c5, .int .i64 rw'] := (hfU _ (by omega)).trans mx
          have hszU : wo.heap.size ≤ U.heap.size := Nat.le_trans hb5o.size hkU.1
          have u50 := u5.cell 0
          have u51 := u5.cell 1
          have u52 := u5.cell 2
          have u53 := u5.cell 3
          have ux0 := ux.cell 0
          have ux2 := ux.cell 2
          have ux3 := ux.cell 3
          have ux4 := ux.cell 4
          have ux5 := ux.cell 5
          have ux6 := ux.cell 6
          have ux7 := ux.cell 7
          rw [hU] at u50 u51 u52 u53 ux0 ux2 ux3 ux4 ux5 ux6 ux7
          have HU := Lib.hid hU
          have HFU := Lib.hid hfU
          have HB5O := Lib.hid hb5o
          have HU4 := Lib.hid u4
          have HU5 := Lib.hid u5
          have HKU := Lib.hid hkU
          have HBU := Lib.hid hbU
          have HSZU := Lib.hid hszU
          have hko : Kept BX wo U := ⟨hszU, fun b hb hn => (hkU.2 b (Nat.lt_of_lt_of_le hb hb5o.size) hn).trans (hb5o.block b hb)⟩
          have hcall := refSetType_any BX U _ q (HREF.out.keepL (blank_blank hko (fun _ _ h => h))) (by omega) (1 + (r7 : Int)) k nm v A3 n3 c3 A4 n4 c4 rv
          have HCALL := Lib.hid hcall
          have HKO := Lib.hid hko
          clear hU u4 u5 ux m4 m5 mx hfU hkU hbU hszU hb5 hb5o hs5 h51 h52 hcall hko
          go_wp2_with fail
          rw [← HU.out]
          refine HCALL.out.mono ?_
          rintro e w6 ⟨rf6, rfl, hr6, hb6⟩
          obtain ⟨va, vb, vc, vd, ns6, ms6, ts6, rs6, rfl, h1, h2, h3, h4, _⟩ := hr6 w6 ⟨Nat.le_refl _, fun _ _ _ => rfl⟩
          obtain ⟨A8, n8, c8, rfl⟩ : ∃ A n c, va = .slice A n c := by rcases h1 with ⟨rfl, _⟩ | ⟨_, _, rfl, _⟩ <;> exact ⟨_, _, _, rfl⟩
          obtain ⟨A9, n9, c9, rfl⟩ : ∃ A n c, vb = .slice A n c := by obtain ⟨A, c, rfl, _⟩ := h2.form; exact ⟨_, _, _, rfl⟩
          obtain ⟨A10, n10, c10, rfl⟩ : ∃ A n c, vc = .slice A n c := by rcases h3 with ⟨rfl, _⟩ | ⟨_, _, rfl, _⟩ <;> exact ⟨_, _, _, rfl⟩
          obtain ⟨A11, n11, c11, rfl⟩ : ∃ A n c, vd = .slice A n c := by obtain ⟨A, c, rfl, _⟩ := h4.form; exact ⟨_, _, _, rfl⟩
          have m5 := HU5.out.later hb6
          have g50 := m5.free 0
          have g51 := m5.free 1
          have g52 := m5.free 2
          have g53 := m5.free 3
          have e50 := m5.cell 0
          have e51 := m5.cell 1
          have e52 := m5.cell 2
          have e53 := m5.cell 3
          have hl5 := m5.lt
          have HM5 := Lib.hid m5
          have HR6 := Lib.hid hr6
          have HB6 := Lib.hid hb6
          clear m5 hr6 hb6 h1 h2 h3 h4
          go_wp2_with fail
          obtain ⟨Z, hZ⟩ : ∃ Z, Z = ((((w6.setCell ⟨B + 1, 0, none⟩ (.slice A8 n8 c8)).setCell ⟨B + 1, 1, none⟩ (.slice A9 n9 c9)).setCell ⟨B + 1, 2, none⟩ (.slice A10 n10 c10)).setCell ⟨B + 1, 3, none⟩ (.slice A11 n11 c11)) := ⟨_, rfl⟩
          rw [← hZ]
          have hkZ : Kept BX w6 Z := by
            rw [hZ]
            exact ((((Kept.same BX w6).setX (p := ⟨B + 1, 0, none⟩) (by rw [HBX.out]; exact .inr (.inl rfl)) _).setX (p := ⟨B + 1, 1, none⟩) (by rw [HBX.out]; exact .inr (.inl rfl)) _).setX (p := ⟨B + 1, 2, none⟩) (by rw [HBX.out]; exact .inr (.inl rfl)) _).setX (p := ⟨B + 1, 3, none⟩) (by rw [HBX.out]; exact .inr (.inl rfl)) _
          have hfZ : ∀ i, i ≠ B + 1 → Z.heap[i]? = w6.heap[i]? := by
            intro i hi
            rw [hZ]
            exact (Below.heap_setCell _ ⟨B + 1, 3, none⟩ _ i hi).trans ((Below.heap_setCell _ ⟨B + 1, 2, none⟩ _ i hi).trans ((Below.heap_setCell _ ⟨B + 1, 1, none⟩ _ i hi).trans (Below.heap_setCell _ ⟨B + 1, 0, none⟩ _ i hi)))
          have z5 : Lies Z (B + 1) 42 #[.slice A8 n8 c8, .slice A9 n9 c9, .slice A10 n10 c10, .slice A11 n11 c11] := by rw [hZ]; exact (((HM5.out.set 0 _).set 1 _).set 2 _).set 3 _
          have z4 : Lies Z B 38 #[.slice A6 n6 c6, .slice A7 n7 c7] := (hfZ _ (by omega)).trans (HU4.out.later HB6.out)
          have hbZ : Below w.heap.size w Z := by
            rw [hZ]
            exact (HBU.out.trans (HB6.out.mono HBU.out.size)).trans (((((Below.refl w.heap.size w6).setCell (p := ⟨B + 1, 0, none⟩) (by show w.heap.size ≤ B + 1; omega) _).setCell (p := ⟨B + 1, 1, none⟩) (by show w.heap.size ≤ B + 1; omega) _).setCell (p := ⟨B + 1, 2, none⟩) (by show w.heap.size ≤ B + 1; omega) _).setCell (p := ⟨B + 1, 3, none⟩) (by show w.heap.size ≤ B + 1; omega) _)
          have hkoZ : Kept (fun b => b = B ∨ b = B + 1) wo Z := by
            refine ⟨Nat.le_trans HKO.out.1 (Nat.le_trans HB6.out.size hkZ.1), fun b hb hn => ?_⟩
            exact (hfZ b (fun e => hn (.inr e))).trans ((HB6.out.block b (Nat.lt_of_lt_of_le hb HSZU.out)).trans ((HFU.out b (fun e => hn (.inl e))).trans (HB5O.out.block b hb)))
          have z0 : Lies Z w.heap.size 38 #[.slice none 0 0, .slice none 0 0] := (hkoZ.2 _ (by omega) (by omega)).trans HL0.out
          have z1 : Lies Z (w.heap.size + 1) 42 #[.slice none 0 0, .slice none 0 0, .slice none 0 0, .slice none 0 0] := (hkoZ.2 _ (by omega) (by omega)).trans HL1.out
          have hsZ := HS5.out (blank BX Z) (kept_blank ((HKU.out.later HB6.out).trans hkZ (fun _ _ h => h)) (fun b hb => Nat.lt_of_lt_of_le (HBXL.out b hb) HBV.out.size))
          have hrZ := HR6.out (blank BX Z) (kept_blank hkZ (fun b hb => Nat.lt_of_lt_of_le (HBXL.out b hb) HSZU.out))
          have HZ := Lib.hid hZ
          have HSZZ := Lib.hid hsZ
          have HRZ := Lib.hid hrZ
          have HZ4 := Lib.hid z4
          have HZ5 := Lib.hid z5
          have HZ0 := Lib.hid z0
          have HZ1 := Lib.hid z1
          have HBZ := Lib.hid hbZ
          clear hZ hsZ hrZ z4 z5 z0 z1 hkZ hfZ hkoZ hbZ
          go_roundw
          case rel => exact ⟨q + 1, A6, A7, A8, A9, A10, A11, n6, c6, n7, c7, n8, c8, n9, c9, n10, c10, n11, c11, _, _, by omega, by omega, by simp, HZ4.out, HZ5.out, HSZZ.out, HRZ.out, (fun n t h => by unfold setF at h; split at h; injection h with h; rw [← h, ← HSZT.out]; omega; exact HSZ.out n t h), HZ0.out, HZ1.out, HBZ.out⟩
          case measure => (simp [intOf] <;> omega)
        · obtain ⟨V, hV⟩ : ∃ V, V = (wo.alloc (.cells #[.int .i64 (1 + (r7 : Int)), .bool true, .int .i64 k, .string (ba nm), .int .i64 v, .slice A3 n3 c3, .slice A4 n4 c4, .int .i64 rv, .slice A5 10 c5, .int .i64 rw'] 61)) := ⟨_, rfl⟩
          have lV : Lies V wo.heap.size 61 #[.int .i64 (1 + (r7 : Int)), .bool true, .int .i64 k, .string (ba nm), .int .i64 v, .slice A3 n3 c3, .slice A4 n4 c4, .int .i64 rv, .slice A5 10 c5, .int .i64 rw'] := by rw [hV]; exact Lies.new wo _ _
          have hbV : Below wo.heap.size wo V := by rw [hV]; exact below_new wo _
          have v4 := HL4.out.later hbV
          have v40 := v4.cell 0
          have v41 := v4.cell 1
          rw [hV] at v40 v41
          have HV := Lib.hid hV
          have HLV := Lib.hid lV
          have HBV := Lib.hid hbV
          have hok : i64ok (1 + (r7 : Int)) := i64ok_of (by omega) (by omega)
          have hst2 := (HST.out.take 10 (by have := HLL.out; omega)).keep (HBB.out.trans (hbV.mono HBB.out.size)).block
          have hcall := setRow_any BX V _ q T R (HSUB.out.keepL (blank_blank (Kept.of_below hbV) (fun _ _ h => h.elim))) (by omega) (1 + (r7 : Int)) hok (ls.take 10) rw' [.slice A5 10 c5, .int .i64 rw'] ⟨_, rfl, hst2, HRV.out⟩
          have HCALL := Lib.hid hcall
          clear hV lV hbV v4 hst2 hcall hok
          go_wp2_with fail
          rw [← HV.out]
          refine HCALL.out.mono ?_
          rintro e w5 ⟨sv5, rfl, hs5, hb5⟩
          obtain ⟨vt, vr, gt, gr, rfl, h51, h52, _, _⟩ := hs5 w5 ⟨Nat.le_refl _, fun _ _ _ => rfl⟩
          obtain ⟨A6, n6, c6, rfl⟩ := h51.one
          obtain ⟨A7, n7, c7, rfl⟩ := h52.one
          have hb5o : Below wo.heap.size wo w5 := HBV.out.trans (hb5.mono HBV.out.size)
          have HS5 := Lib.hid hs5
          have m4 := HL4.out.later hb5o
          have m5 := HL5.out.later hb5o
          have mx := HLV.out.later hb5
          have f40 := m4.free 0
          have f41 := m4.free 1
          have d40 := m4.cell 0
          have d41 := m4.cell 1
          have hl4 := m4.lt
          obtain ⟨U, hU⟩ : ∃ U, U = ((w5.setCell ⟨B, 0, none⟩ (.slice A6 n6 c6)).setCell ⟨B, 1, none⟩ (.slice A7 n7 c7)) := ⟨_, rfl⟩
          have hfU : ∀ i, i ≠ B → U.heap[i]? = w5.heap[i]? := by
            intro i hi
            rw [hU]
            exact (Below.heap_setCell _ ⟨B, 1, none⟩ _ i hi).trans (Below.heap_setCell _ ⟨B, 0, none⟩ _ i hi)
          have hkU : Kept BX w5 U := by
            rw [hU]
            exact ((Kept.same BX w5).setX (p := ⟨B, 0, none⟩) (by rw [HBX.out]; exact .inl rfl) _).setX (p := ⟨B, 1, none⟩) (by rw [HBX.out]; exact .inl rfl) _
          have hbU : Below w.heap.size w U := by
            rw [hU]
            exact (HBB.out.trans (hb5o.mono HBB.out.size)).trans (((Below.refl w.heap.size w5).setCell (p := ⟨B, 0, none⟩) (by show w.heap.size ≤ B; omega) _).setCell (p := ⟨B, 1, none⟩) (by show w.heap.size ≤ B; omega) _)
          have u4 : Lies U B 38 #[.slice A6 n6 c6, .slice A7 n7 c7] := by rw [hU]; exact (m4.set 0 _).set 1 _
          have u5 : Lies U (B + 1) 42 #[.slice Ac nc cc, .slice Ad nd cd, .slice Ae ne ce, .slice Af nf cf] := (hfU _ (by omega)).trans m5
          have ux : Lies U wo.heap.size 61 #[.int .i64 (1 + (r7 : Int)), .bool true, .int .i64 k, .string (ba nm), .int .i64 v, .slice A3 n3 c3, .slice A4 n4 c4, .int .i64 rv, .slice A5 10 c5, .int .i64 rw'] := (hfU _ (by omega)).trans mx
          have hszU : wo.heap.size ≤ U.heap.size := Nat.le_trans hb5o.size hkU.1
          have u50 := u5.cell 0
          have u51 := u5.cell 1
          have u52 := u5.cell 2
          have u53 := u5.cell 3
          have ux0 := ux.cell 0
          have ux8 := ux.cell 8
          have ux9 := ux.cell 9
          rw [hU] at u50 u51 u52 u53 ux0 ux8 ux9
          have HU := Lib.hid hU
          have HFU := Lib.hid hfU
          have HB5O := Lib.hid hb5o
          have HU4 := Lib.hid u4
          have HU5 := Lib.hid u5
          have HKU := Lib.hid hkU
          have HBU := Lib.hid hbU
          have HSZU := Lib.hid hszU
          have hko : Kept BX wo U := ⟨hszU, fun b hb hn => (hkU.2 b (Nat.lt_of_lt_of_le hb hb5o.size) hn).trans (hb5o.block b hb)⟩
          have hcall := refSetRow_any BX U _ q (HREF.out.keepL (blank_blank hko (fun _ _ h => h))) (by omega) (1 + (r7 : Int)) A5 10 c5 rw'
          have HCALL := Lib.hid hcall
          have HKO := Lib.hid hko
          clear hU u4 u5 ux m4 m5 mx hfU hkU hbU hszU hb5 hb5o hs5 h51 h52 hcall hko
          go_wp2_with fail
          rw [← HU.out]
          refine HCALL.out.mono ?_
          rintro e w6 ⟨rf6, rfl, hr6, hb6⟩
          obtain ⟨va, vb, vc, vd, ns6, ms6, ts6, rs6, rfl, h1, h2, h3, h4, _⟩ := hr6 w6 ⟨Nat.le_refl _, fun _ _ _ => rfl⟩
          obtain ⟨A8, n8, c8, rfl⟩ : ∃ A n c, va = .slice A n c := by rcases h1 with ⟨rfl, _⟩ | ⟨_, _, rfl, _⟩ <;> exact ⟨_, _, _, rfl⟩
          obtain ⟨A9, n9, c9, rfl⟩ : ∃ A n c, vb = .slice A n c := by obtain ⟨A, c, rfl, _⟩ := h2.form; exact ⟨_, _, _, rfl⟩
          obtain ⟨A10, n10, c10, rfl⟩ : ∃ A n c, vc = .slice A n c := by rcases h3 with ⟨rfl, _⟩ | ⟨_, _, rfl, _⟩ <;> exact ⟨_, _, _, rfl⟩
          obtain ⟨A11, n11, c11, rfl⟩ : ∃ A n c, vd = .slice A n c := by obtain ⟨A, c, rfl, _⟩ := h4.form; exact ⟨_, _, _, rfl⟩
          have m5 := HU5.out.later hb6
          have g50 := m5.free 0
          have g51 := m5.free 1
          have g52 := m5.free 2
          have g53 := m5.free 3
          have e50 := m5.cell 0
          have e51 := m5.cell 1
          have e52 := m5.cell 2
          have e53 := m5.cell 3
          have hl5 := m5.lt
          have HM5 := Lib.hid m5
          have HR6 := Lib.hid hr6
          have HB6 := Lib.hid hb6
          clear m5 hr6 hb6 h1 h2 h3 h4
          go_wp2_with fail
          obtain ⟨Z, hZ⟩ : ∃ Z, Z = ((((w6.setCell ⟨B + 1, 0, none⟩ (.slice A8 n8 c8)).setCell ⟨B + 1, 1, none⟩ (.slice A9 n9 c9)).setCell ⟨B + 1, 2, none⟩ (.slice A10 n10 c10)).setCell ⟨B + 1, 3, none⟩ (.slice A11 n11 c11)) := ⟨_, rfl⟩
          rw [← hZ]
          have hkZ : Kept BX w6 Z := by
            rw [hZ]
            exact ((((Kept.same BX w6).setX (p := ⟨B + 1, 0, none⟩) (by rw [HBX.out]; exact .inr (.inl rfl)) _).setX (p := ⟨B + 1, 1, none⟩) (by rw [HBX.out]; exact .inr (.inl rfl)) _).setX (p := ⟨B + 1, 2, none⟩) (by rw [HBX.out]; exact .inr (.inl rfl)) _).setX (p := ⟨B + 1, 3, none⟩) (by rw [HBX.out]; exact .inr (.inl rfl)) _
          have hfZ : ∀ i, i ≠ B + 1 → Z.heap[i]? = w6.heap[i]? := by
            intro i hi
            rw [hZ]
            exact (Below.heap_setCell _ ⟨B + 1, 3, none⟩ _ i hi).trans ((Below.heap_setCell _ ⟨B + 1, 2, none⟩ _ i hi).trans ((Below.heap_setCell _ ⟨B + 1, 1, none⟩ _ i hi).trans (Below.heap_setCell _ ⟨B + 1, 0, none⟩ _ i hi)))
          have z5 : Lies Z (B + 1) 42 #[.slice A8 n8 c8, .slice A9 n9 c9, .slice A10 n10 c10, .slice A11 n11 c11] := by rw [hZ]; exact (((HM5.out.set 0 _).set 1 _).set 2 _).set 3 _
          have z4 : Lies Z B 38 #[.slice A6 n6 c6, .slice A7 n7 c7] := (hfZ _ (by omega)).trans (HU4.out.later HB6.out)
          have hbZ : Below w.heap.size w Z := by
            rw [hZ]
            exact (HBU.out.trans (HB6.out.mono HBU.out.size)).trans (((((Below.refl w.heap.size w6).setCell (p := ⟨B + 1, 0, none⟩) (by show w.heap.size ≤ B + 1; omega) _).setCell (p := ⟨B + 1, 1, none⟩) (by show w.heap.size ≤ B + 1; omega) _).setCell (p := ⟨B + 1, 2, none⟩) (by show w.heap.size ≤ B + 1; omega) _).setCell (p := ⟨B + 1, 3, none⟩) (by show w.heap.size ≤ B + 1; omega) _)
          have hkoZ : Kept (fun b => b = B ∨ b = B + 1) wo Z := by
            refine ⟨Nat.le_trans HKO.out.1 (Nat.le_trans HB6.out.size hkZ.1), fun b hb hn => ?_⟩
            exact (hfZ b (fun e => hn (.inr e))).trans ((HB6.out.block b (Nat.lt_of_lt_of_le hb HSZU.out)).trans ((HFU.out b (fun e => hn (.inl e))).trans (HB5O.out.block b hb)))
          have z0 : Lies Z w.heap.size 38 #[.slice none 0 0, .slice none 0 0] := (hkoZ.2 _ (by omega) (by omega)).trans HL0.out
          have z1 : Lies Z (w.heap.size + 1) 42 #[.slice none 0 0, .slice none 0 0, .slice none 0 0, .slice none 0 0] := (hkoZ.2 _ (by omega) (by omega)).trans HL1.out
          have hsZ := HS5.out (blank BX Z) (kept_blank ((HKU.out.later HB6.out).trans hkZ (fun _ _ h => h)) (fun b hb => Nat.lt_of_lt_of_le (HBXL.out b hb) HBV.out.size))
          have hrZ := HR6.out (blank BX Z) (kept_blank hkZ (fun b hb => Nat.lt_of_lt_of_le (HBXL.out b hb) HSZU.out))
          have HZ := Lib.hid hZ
          have HSZZ := Lib.hid hsZ
          have HRZ := Lib.hid hrZ
          have HZ4 := Lib.hid z4
          have HZ5 := Lib.hid z5
          have HZ0 := Lib.hid z0
          have HZ1 := Lib.hid z1
          have HBZ := Lib.hid hbZ
          clear hZ hsZ hrZ z4 z5 z0 z1 hkZ hfZ hkoZ hbZ
          go_roundw
          case rel => exact ⟨q + 1, A6, A7, A8, A9, A10, A11, n6, c6, n7, c7, n8, c8, n9, c9, n10, c10, n11, c11, _, _, by omega, by omega, by simp, HZ4.out, HZ5.out, HSZZ.out, HRZ.out, HSZ.out, HZ0.out, HZ1.out, HBZ.out⟩
          case measure => (simp [intOf] <;> omega)
      · have hLi : ¬ ((LL : Int) < 10) := by omega
        have hLi2 : ((10 : Int) < (LL : Int)) := by omega
        cases bb
        · obtain ⟨VO, hV⟩ : ∃ VO, VO = (wo.alloc (.cells #[.int .i64 (1 + (r7 : Int)), .bool false, .int .i64 k, .string (ba nm), .int .i64 v, .slice A3 n3 c3, .slice A4 n4 c4, .int .i64 rv, .slice A5 10 c5, .int .i64 rw'] 61)) := ⟨_, rfl⟩
          have lV : Lies VO wo.heap.size 61 #[.int .i64 (1 + (r7 : Int)), .bool false, .int .i64 k, .string (ba nm), .int .i64 v, .slice A3 n3 c3, .slice A4 n4 c4, .int .i64 rv, .slice A5 10 c5, .int .i64 rw'] := by rw [hV]; exact Lies.new wo _ _
          have hbV : Below wo.heap.size wo VO := by rw [hV]; exact below_new wo _
          have v4 := HL4.out.later hbV
          have v40 := v4.cell 0
          have v41 := v4.cell 1
          clear v40 v41
          have HV := Lib.hid hV
          have HLV := Lib.hid lV
          have HBV := Lib.hid hbV
          have htrV := HTR.out.later (HBB.out.trans (hbV.mono HBB.out.size))
          have HCNT := Lib.hid (count_any _ VO _ HTS.out htrV)
          obtain ⟨sz, hsz⟩ : ∃ sz, sz = (Ty.mk k nm v kids ls0 rv).size := ⟨_, rfl⟩
          rw [← hsz] at HCNT
          have HSZT := Lib.hid hsz
          clear hV lV hbV v4 htrV hsz
          go_wp2_with fail
          rw [← HV.out]
          refine HCNT.out.mono ?_
          rintro e V ⟨rfl, hb2⟩
          have hbV : Below wo.heap.size wo V := HBV.out.trans (hb2.mono HBV.out.size)
          have lx2 := HLV.out.later hb2
          clear HV HLV HBV HCNT hb2
          have v4 := HL4.out.later hbV
          have v40 := v4.cell 0
          have v41 := v4.cell 1
          have x20 := lx2.cell 0
          have x22 := lx2.cell 2
          have x23 := lx2.cell 3
          have x24 := lx2.cell 4
          have x25 := lx2.cell 5
          have x26 := lx2.cell 6
          have x27 := lx2.cell 7
          have HLV := Lib.hid lx2
          have HBV := Lib.hid hbV
          by_cases h30 : sz ≤ 30
          rotate_left
          · have h30i : ¬ ((sz : Int) ≤ 30) := by omega
            have hkb := Kept.of_below hbV
            have n5 := HL5.out.later hbV
            have n0' := HL0.out.later hbV
            have n1' := HL1.out.later hbV
            have HN5 := Lib.hid n5
            have HN0 := Lib.hid n0'
            have HN1 := Lib.hid n1'
            have HN4 := Lib.hid v4
            have HSU := Lib.hid ((HSUB.out.keepL (blank_blank hkb (fun _ _ h => h.elim))).mono (Nat.le_succ q))
            have HRE := Lib.hid ((HREF.out.keepL (blank_blank hkb (fun _ _ h => h.elim))).mono (Nat.le_succ q))
            have HBz := Lib.hid (HBB.out.trans (hbV.mono HBB.out.size))
            clear n5 n0' n1' v4 hkb hbV lx2
            go_wp2_with fail
            go_roundw
            case rel => exact ⟨q + 1, Aa, Ab, Ac, Ad, Ae, Af, na, ca, nb, cb, nc, cc, nd, cd, ne, ce, nf, cf, T, R, by omega, by omega, by simp, HN4.out, HN5.out, HSU.out, HRE.out, HSZ.out, HN0.out, HN1.out, HBz.out⟩
            case measure => (simp [intOf] <;> omega)
          have h30i : (sz : Int) ≤ 30 := by omega
          have hok : i64ok (1 + (r7 : Int)) := i64ok_of (by omega) (by omega)
          have htrV := HTR.out.later (HBB.out.trans (hbV.mono HBB.out.size))
          have hcall := setType_any BX V _ q T R (HSUB.out.keepL (blank_blank (Kept.of_below hbV) (fun _ _ h => h.elim))) (by omega) (1 + (r7 : Int)) hok _ _ htrV (by rw [← HSZT.out]; omega)
          have HCALL := Lib.hid hcall
          clear hbV v4 lx2 hcall hok htrV
          go_wp2_with fail
          refine HCALL.out.mono ?_
          rintro e w5 ⟨sv5, rfl, hs5, hb5⟩
          obtain ⟨vt, vr, gt, gr, rfl, h51, h52, _, _⟩ := hs5 w5 ⟨Nat.le_refl _, fun _ _ _ => rfl⟩
          obtain ⟨A6, n6, c6, rfl⟩ := h51.one
          obtain ⟨A7, n7, c7, rfl⟩ := h52.one
          have hb5o : Below wo.heap.size wo w5 := HBV.out.trans (hb5.mono HBV.out.size)
          have HS5 := Lib.hid hs5
          have m4 := HL4.out.later hb5o
          have m5 := HL5.out.later hb5o
          have mx := HLV.out.later hb5
          have f40 := m4.free 0
          have f41 := m4.free 1
          have d40 := m4.cell 0
          have d41 := m4.cell 1
          have hl4 := m4.lt
          obtain ⟨U, hU⟩ : ∃ U, U = ((w5.setCell ⟨B, 0, none⟩ (.slice A6 n6 c6)).setCell ⟨B, 1, none⟩ (.slice A7 n7 c7)) := ⟨_, rfl⟩
          have hfU : ∀ i, i ≠ B → U.heap[i]? = w5.heap[i]? := by
            intro i hi
            rw [hU]
            exact (Below.heap_setCell _ ⟨B, 1, none⟩ _ i hi).trans (Below.heap_setCell _ ⟨B, 0, none⟩ _ i hi)
          have hkU : Kept BX w5 U := by
            rw [hU]
            exact ((Kept.same BX w5).setX (p := ⟨B, 0, none⟩) (by rw [HBX.out]; exact .inl rfl) _).setX (p := ⟨B, 1, none⟩) (by rw [HBX.out]; exact .inl rfl) _
          have hbU : Below w.heap.size w U := by
            rw [hU]
            exact (HBB.out.trans (hb5o.mono HBB.out.size)).trans (((Below.refl w.heap.size w5).setCell (p := ⟨B, 0, none⟩) (by show w.heap.size ≤ B; omega) _).setCell (p := ⟨B, 1, none⟩) (by show w.heap.size ≤ B; omega) _)
          have u4 : Lies U B 38 #[.slice A6 n6 c6, .slice A7 n7 c7] := by rw [hU]; exact (m4.set 0 _).set 1 _
          have u5 : Lies U (B + 1) 42 #[.slice Ac nc cc, .slice Ad nd cd, .slice Ae ne ce, .slice Af nf cf] := (hfU _ (by omega)).trans m5
          have ux : Lies U wo.heap.size 61 #[.int .i64 (1 + (r7 : Int)), .bool false, .int .i64 k, .string (ba nm), .int .i64 v, .slice A3 n3 c3, .slice A4 n4 c4, .int .i64 rv, .slice A5 10 c5, .int .i64 rw'] := (hfU _ (by omega)).trans mx
          have hszU : wo.heap.size ≤ U.heap.size := Nat.le_trans hb5o.size hkU.1
          have u50 := u5.cell 0
          have u51 := u5.cell 1
          have u52 := u5.cell 2
          have u53 := u5.cell 3
          have ux0 := ux.cell 0
          have ux2 := ux.cell 2
          have ux3 := ux.cell 3
          have ux4 := ux.cell 4
          have ux5 := ux.cell 5
          have ux6 := ux.cell 6
          have ux7 := ux.cell 7
          rw [hU] at u50 u51 u52 u53 ux0 ux2 ux3 ux4 ux5 ux6 ux7
          have HU := Lib.hid hU
          have HFU := Lib.hid hfU
          have HB5O := Lib.hid hb5o
          have HU4 := Lib.hid u4
          have HU5 := Lib.hid u5
          have HKU := Lib.hid hkU
          have HBU := Lib.hid hbU
          have HSZU := Lib.hid hszU
          have hko : Kept BX wo U := ⟨hszU, fun b hb hn => (hkU.2 b (Nat.lt_of_lt_of_le hb hb5o.size) hn).trans (hb5o.block b hb)⟩
          have hcall := refSetType_any BX U _ q (HREF.out.keepL (blank_blank hko (fun _ _ h => h))) (by omega) (1 + (r7 : Int)) k nm v A3 n3 c3 A4 n4 c4 rv
          have HCALL := Lib.hid hcall
          have HKO := Lib.hid hko
          clear hU u4 u5 ux m4 m5 mx hfU hkU hbU hszU hb5 hb5o hs5 h51 h52 hcall hko
          go_wp2_with fail
          rw [← HU.out]
          refine HCALL.out.mono ?_
          rintro e w6 ⟨rf6, rfl, hr6, hb6⟩
          obtain ⟨va, vb, vc, vd, ns6, ms6, ts6, rs6, rfl, h1, h2, h3, h4, _⟩ := hr6 w6 ⟨Nat.le_refl _, fun _ _ _ => rfl⟩
          obtain ⟨A8, n8, c8, rfl⟩ : ∃ A n c, va = .slice A n c := by rcases h1 with ⟨rfl, _⟩ | ⟨_, _, rfl, _⟩ <;> exact ⟨_, _, _, rfl⟩
          obtain ⟨A9, n9, c9, rfl⟩ : ∃ A n c, vb = .slice A n c := by obtain ⟨A, c, rfl, _⟩ := h2.form; exact ⟨_, _, _, rfl⟩
          obtain ⟨A10, n10, c10, rfl⟩ : ∃ A n c, vc = .slice A n c := by rcases h3 with ⟨rfl, _⟩ | ⟨_, _, rfl, _⟩ <;> exact ⟨_, _, _, rfl⟩
          obtain ⟨A11, n11, c11, rfl⟩ : ∃ A n c, vd = .slice A n c := by obtain ⟨A, c, rfl, _⟩ := h4.form; exact ⟨_, _, _, rfl⟩
          have m5 := HU5.out.later hb6
          have g50 := m5.free 0
          have g51 := m5.free 1
          have g52 := m5.free 2
          have g53 := m5.free 3
          have e50 := m5.cell 0
          have e51 := m5.cell 1
          have e52 := m5.cell 2
          have e53 := m5.cell 3
          have hl5 := m5.lt
          have HM5 := Lib.hid m5
          have HR6 := Lib.hid hr6
          have HB6 := Lib.hid hb6
          clear m5 hr6 hb6 h1 h2 h3 h4
          go_wp2_with fail
          obtain ⟨Z, hZ⟩ : ∃ Z, Z = ((((w6.setCell ⟨B + 1, 0, none⟩ (.slice A8 n8 c8)).setCell ⟨B + 1, 1, none⟩ (.slice A9 n9 c9)).setCell ⟨B + 1, 2, none⟩ (.slice A10 n10 c10)).setCell ⟨B + 1, 3, none⟩ (.slice A11 n11 c11)) := ⟨_, rfl⟩
          rw [← hZ]
          have hkZ : Kept BX w6 Z := by
            rw [hZ]
            exact ((((Kept.same BX w6).setX (p := ⟨B + 1, 0, none⟩) (by rw [HBX.out]; exact .inr (.inl rfl)) _).setX (p := ⟨B + 1, 1, none⟩) (by rw [HBX.out]; exact .inr (.inl rfl)) _).setX (p := ⟨B + 1, 2, none⟩) (by rw [HBX.out]; exact .inr (.inl rfl)) _).setX (p := ⟨B + 1, 3, none⟩) (by rw [HBX.out]; exact .inr (.inl rfl)) _
          have hfZ : ∀ i, i ≠ B + 1 → Z.heap[i]? = w6.heap[i]? := by
            intro i hi
            rw [hZ]
            exact (Below.heap_setCell _ ⟨B + 1, 3, none⟩ _ i hi).trans ((Below.heap_setCell _ ⟨B + 1, 2, none⟩ _ i hi).trans ((Below.heap_setCell _ ⟨B + 1, 1, none⟩ _ i hi).trans (Below.heap_setCell _ ⟨B + 1, 0, none⟩ _ i hi)))
          have z5 : Lies Z (B + 1) 42 #[.slice A8 n8 c8, .slice A9 n9 c9, .slice A10 n10 c10, .slice A11 n11 c11] := by rw [hZ]; exact (((HM5.out.set 0 _).set 1 _).set 2 _).set 3 _
          have z4 : Lies Z B 38 #[.slice A6 n6 c6, .slice A7 n7 c7] := (hfZ _ (by omega)).trans (HU4.out.later HB6.out)
          have hbZ : Below w.heap.size w Z := by
            rw [hZ]
            exact (HBU.out.trans (HB6.out.mono HBU.out.size)).trans (((((Below.refl w.heap.size w6).setCell (p := ⟨B + 1, 0, none⟩) (by show w.heap.size ≤ B + 1; omega) _).setCell (p := ⟨B + 1, 1, none⟩) (by show w.heap.size ≤ B + 1; omega) _).setCell (p := ⟨B + 1, 2, none⟩) (by show w.heap.size ≤ B + 1; omega) _).setCell (p := ⟨B + 1, 3, none⟩) (by show w.heap.size ≤ B + 1; omega) _)
          have hkoZ : Kept (fun b => b = B ∨ b = B + 1) wo Z := by
            refine ⟨Nat.le_trans HKO.out.1 (Nat.le_trans HB6.out.size hkZ.1), fun b hb hn => ?_⟩
            exact (hfZ b (fun e => hn (.inr e))).trans ((HB6.out.block b (Nat.lt_of_lt_of_le hb HSZU.out)).trans ((HFU.out b (fun e => hn (.inl e))).trans (HB5O.out.block b hb)))
          have z0 : Lies Z w.heap.size 38 #[.slice none 0 0, .slice none 0 0] := (hkoZ.2 _ (by omega) (by omega)).trans HL0.out
          have z1 : Lies Z (w.heap.size + 1) 42 #[.slice none 0 0, .slice none 0 0, .slice none 0 0, .slice none 0 0] := (hkoZ.2 _ (by omega) (by omega)).trans HL1.out
          have hsZ := HS5.out (blank BX Z) (kept_blank ((HKU.out.later HB6.out).trans hkZ (fun _ _ h => h)) (fun b hb => Nat.lt_of_lt_of_le (HBXL.out b hb) HBV.out.size))
          have hrZ := HR6.out (blank BX Z) (kept_blank hkZ (fun b hb => Nat.lt_of_lt_of_le (HBXL.out b hb) HSZU.out))
          have HZ := Lib.hid hZ
          have HSZZ := Lib.hid hsZ
          have HRZ := Lib.hid hrZ
          have HZ4 := Lib.hid z4
          have HZ5 := Lib.hid z5
          have HZ0 := Lib.hid z0
          have HZ1 := Lib.hid z1
          have HBZ := Lib.hid hbZ
          clear hZ hsZ hrZ z4 z5 z0 z1 hkZ hfZ hkoZ hbZ
          go_roundw
          case rel => exact ⟨q + 1, A6, A7, A8, A9, A10, A11, n6, c6, n7, c7, n8, c8, n9, c9, n10, c10, n11, c11, _, _, by omega, by omega, by simp, HZ4.out, HZ5.out, HSZZ.out, HRZ.out, (fun n t h => by unfold setF at h; split at h; injection h with h; rw [← h, ← HSZT.out]; omega; exact HSZ.out n t h), HZ0.out, HZ1.out, HBZ.out⟩
          case measure => (simp [intOf] <;> omega)
        · obtain ⟨V, hV⟩ : ∃ V, V = (wo.alloc (.cells #[.int .i64 (1 + (r7 : Int)), .bool true, .int .i64 k, .string (ba nm), .int .i64 v, .slice A3 n3 c3, .slice A4 n4 c4, .int .i64 rv, .slice A5 10 c5, .int .i64 rw'] 61)) := ⟨_, rfl⟩
          have lV : Lies V wo.heap.size 61 #[.int .i64 (1 + (r7 : Int)), .bool true, .int .i64 k, .string (ba nm), .int .i64 v, .slice A3 n3 c3, .slice A4 n4 c4, .int .i64 rv, .slice A5 10 c5, .int .i64 rw'] := by rw [hV]; exact Lies.new wo _ _
          have hbV : Below wo.heap.size wo V := by rw [hV]; exact below_new wo _
          have v4 := HL4.out.later hbV
          have v40 := v4.cell 0
          have v41 := v4.cell 1
          rw [hV] at v40 v41
          have HV := Lib.hid hV
          have HLV := Lib.hid lV
          have HBV := Lib.hid hbV
          have hok : i64ok (1 + (r7 : Int)) := i64ok_of (by omega) (by omega)
          have hst2 := (HST.out.take 10 (by have := HLL.out; omega)).keep (HBB.out.trans (hbV.mono HBB.out.size)).block
          have hcall := setRow_any BX V _ q T R (HSUB.out.keepL (blank_blank (Kept.of_below hbV) (fun _ _ h => h.elim))) (by omega) (1 + (r7 : Int)) hok (ls.take 10) rw' [.slice A5 10 c5, .int .i64 rw'] ⟨_, rfl, hst2, HRV.out⟩
          have HCALL := Lib.hid hcall
          clear hV lV hbV v4 hst2 hcall hok
          go_wp2_with fail
          rw [← HV.out]
          refine HCALL.out.mono ?_
          rintro e w5 ⟨sv5, rfl, hs5, hb5⟩
          obtain ⟨vt, vr, gt, gr, rfl, h51, h52, _, _⟩ := hs5 w5 ⟨Nat.le_refl _, fun _ _ _ => rfl⟩
          obtain ⟨A6, n6, c6, rfl⟩ := h51.one
          obtain ⟨A7, n7, c7, rfl⟩ := h52.one
          have hb5o : Below wo.heap.size wo w5 := HBV.out.trans (hb5.mono HBV.out.size)
          have HS5 := Lib.hid hs5
          have m4 := HL4.out.later hb5o
          have m5 := HL5.out.later hb5o
          have mx := HLV.out.later hb5
          have f40 := m4.free 0
          have f41 := m4.free 1
          have d40 := m4.cell 0
          have d41 := m4.cell 1
          have hl4 := m4.lt
          obtain ⟨U, hU⟩ : ∃ U, U = ((w5.setCell ⟨B, 0, none⟩ (.slice A6 n6 c6)).setCell ⟨B, 1, none⟩ (.slice A7 n7 c7)) := ⟨_, rfl⟩
          have hfU : ∀ i, i ≠ B → U.heap[i]? = w5.heap[i]? := by
            intro i hi
            rw [hU]
            exact (Below.heap_setCell _ ⟨B, 1, none⟩ _ i hi).trans (Below.heap_setCell _ ⟨B, 0, none⟩ _ i hi)
          have hkU : Kept BX w5 U := by
            rw [hU]
            exact ((Kept.same BX w5).setX (p := ⟨B, 0, none⟩) (by rw [HBX.out]; exact .inl rfl) _).setX (p := ⟨B, 1, none⟩) (by rw [HBX.out]; exact .inl rfl) _
          have hbU : Below w.heap.size w U := by
            rw [hU]
            exact (HBB.out.trans (hb5o.mono HBB.out.size)).trans (((Below.refl w.heap.size w5).setCell (p := ⟨B, 0, none⟩) (by show w.heap.size ≤ B; omega) _).setCell (p := ⟨B, 1, none⟩) (by show w.heap.size ≤ B; omega) _)
          have u4 : Lies U B 38 #[.slice A6 n6 c6, .slice A7 n7 c7] := by rw [hU]; exact (m4.set 0 _).set 1 _
          have u5 : Lies U (B + 1) 42 #[.slice Ac nc cc, .slice Ad nd cd, .slice Ae ne ce, .slice Af nf cf] := (hfU _ (by omega)).trans m5
          have ux : Lies U wo.heap.size 61 #[.int .i64 (1 + (r7 : Int)), .bool true, .int .i64 k, .string (ba nm), .int .i64 v, .slice A3 n3 c3, .slice A4 n4 c4, .int .i64 rv, .slice A5 10 c5, .int .i64 rw'] := (hfU _ (by omega)).trans mx
          have hszU : wo.heap.size ≤ U.heap.size := Nat.le_trans hb5o.size hkU.1
          have u50 := u5.cell 0
          have u51 := u5.cell 1
          have u52 := u5.cell 2
          have u53 := u5.cell 3
          have ux0 := ux.cell 0
          have ux8 := ux.cell 8
          have ux9 := ux.cell 9
          rw [hU] at u50 u51 u52 u53 ux0 ux8 ux9
          have HU := Lib.hid hU
          have HFU := Lib.hid hfU
          have HB5O := Lib.hid hb5o
          have HU4 := Lib.hid u4
          have HU5 := Lib.hid u5
          have HKU := Lib.hid hkU
          have HBU := Lib.hid hbU
          have HSZU := Lib.hid hszU
          have hko : Kept BX wo U := ⟨hszU, fun b hb hn => (hkU.2 b (Nat.lt_of_lt_of_le hb hb5o.size) hn).trans (hb5o.block b hb)⟩
          have hcall := refSetRow_any BX U _ q (HREF.out.keepL (blank_blank hko (fun _ _ h => h))) (by omega) (1 + (r7 : Int)) A5 10 c5 rw'
          have HCALL := Lib.hid hcall
          have HKO := Lib.hid hko
          clear hU u4 u5 ux m4 m5 mx hfU hkU hbU hszU hb5 hb5o hs5 h51 h52 hcall hko
          go_wp2_with fail
          rw [← HU.out]
          refine HCALL.out.mono ?_
          rintro e w6 ⟨rf6, rfl, hr6, hb6⟩
          obtain ⟨va, vb, vc, vd, ns6, ms6, ts6, rs6, rfl, h1, h2, h3, h4, _⟩ := hr6 w6 ⟨Nat.le_refl _, fun _ _ _ => rfl⟩
          obtain ⟨A8, n8, c8, rfl⟩ : ∃ A n c, va = .slice A n c := by rcases h1 with ⟨rfl, _⟩ | ⟨_, _, rfl, _⟩ <;> exact ⟨_, _, _, rfl⟩
          obtain ⟨A9, n9, c9, rfl⟩ : ∃ A n c, vb = .slice A n c := by obtain ⟨A, c, rfl, _⟩ := h2.form; exact ⟨_, _, _, rfl⟩
          obtain ⟨A10, n10, c10, rfl⟩ : ∃ A n c, vc = .slice A n c := by rcases h3 with ⟨rfl, _⟩ | ⟨_, _, rfl, _⟩ <;> exact ⟨_, _, _, rfl⟩
          obtain ⟨A11, n11, c11, rfl⟩ : ∃ A n c, vd = .slice A n c := by obtain ⟨A, c, rfl, _⟩ := h4.form; exact ⟨_, _, _, rfl⟩
          have m5 := HU5.out.later hb6
          have g50 := m5.free 0
          have g51 := m5.free 1
          have g52 := m5.free 2
          have g53 := m5.free 3
          have e50 := m5.cell 0
          have e51 := m5.cell 1
          have e52 := m5.cell 2
          have e53 := m5.cell 3
          have hl5 := m5.lt
          have HM5 := Lib.hid m5
          have HR6 := Lib.hid hr6
          have HB6 := Lib.hid hb6
          clear m5 hr6 hb6 h1 h2 h3 h4
          go_wp2_with fail
          obtain ⟨Z, hZ⟩ : ∃ Z, Z = ((((w6.setCell ⟨B + 1, 0, none⟩ (.slice A8 n8 c8)).setCell ⟨B + 1, 1, none⟩ (.slice A9 n9 c9)).setCell ⟨B + 1, 2, none⟩ (.slice A10 n10 c10)).setCell ⟨B + 1, 3, none⟩ (.slice A11 n11 c11)) := ⟨_, rfl⟩
          rw [← hZ]
          have hkZ : Kept BX w6 Z := by
            rw [hZ]
            exact ((((Kept.same BX w6).setX (p := ⟨B + 1, 0, none⟩) (by rw [HBX.out]; exact .inr (.inl rfl)) _).setX (p := ⟨B + 1, 1, none⟩) (by rw [HBX.out]; exact .inr (.inl rfl)) _).setX (p := ⟨B + 1, 2, none⟩) (by rw [HBX.out]; exact .inr (.inl rfl)) _).setX (p := ⟨B + 1, 3, none⟩) (by rw [HBX.out]; exact .inr (.inl rfl)) _
          have hfZ : ∀ i, i ≠ B + 1 → Z.heap[i]? = w6.heap[i]? := by
            intro i hi
            rw [hZ]
            exact (Below.heap_setCell _ ⟨B + 1, 3, none⟩ _ i hi).trans ((Below.heap_setCell _ ⟨B + 1, 2, none⟩ _ i hi).trans ((Below.heap_setCell _ ⟨B + 1, 1, none⟩ _ i hi).trans (Below.heap_setCell _ ⟨B + 1, 0, none⟩ _ i hi)))
          have z5 : Lies Z (B + 1) 42 #[.slice A8 n8 c8, .slice A9 n9 c9, .slice A10 n10 c10, .slice A11 n11 c11] := by rw [hZ]; exact (((HM5.out.set 0 _).set 1 _).set 2 _).set 3 _
          have z4 : Lies Z B 38 #[.slice A6 n6 c6, .slice A7 n7 c7] := (hfZ _ (by omega)).trans (HU4.out.later HB6.out)
          have hbZ : Below w.heap.size w Z := by
            rw [hZ]
            exact (HBU.out.trans (HB6.out.mono HBU.out.size)).trans (((((Below.refl w.heap.size w6).setCell (p := ⟨B + 1, 0, none⟩) (by show w.heap.size ≤ B + 1; omega) _).setCell (p := ⟨B + 1, 1, none⟩) (by show w.heap.size ≤ B + 1; omega) _).setCell (p := ⟨B + 1, 2, none⟩) (by show w.heap.size ≤ B + 1; omega) _).setCell (p := ⟨B + 1, 3, none⟩) (by show w.heap.size ≤ B + 1; omega) _)
          have hkoZ : Kept (fun b => b = B ∨ b = B + 1) wo Z := by
            refine ⟨Nat.le_trans HKO.out.1 (Nat.le_trans HB6.out.size hkZ.1), fun b hb hn => ?_⟩
            exact (hfZ b (fun e => hn (.inr e))).trans ((HB6.out.block b (Nat.lt_of_lt_of_le hb HSZU.out)).trans ((HFU.out b (fun e => hn (.inl e))).trans (HB5O.out.block b hb)))
          have z0 : Lies Z w.heap.size 38 #[.slice none 0 0, .slice none 0 0] := (hkoZ.2 _ (by omega) (by omega)).trans HL0.out
          have z1 : Lies Z (w.heap.size + 1) 42 #[.slice none 0 0, .slice none 0 0, .slice none 0 0, .slice none 0 0] := (hkoZ.2 _ (by omega) (by omega)).trans HL1.out
          have hsZ := HS5.out (blank BX Z) (kept_blank ((HKU.out.later HB6.out).trans hkZ (fun _ _ h => h)) (fun b hb => Nat.lt_of_lt_of_le (HBXL.out b hb) HBV.out.size))
          have hrZ := HR6.out (blank BX Z) (kept_blank hkZ (fun b hb => Nat.lt_of_lt_of_le (HBXL.out b hb) HSZU.out))
          have HZ := Lib.hid hZ
          have HSZZ := Lib.hid hsZ
          have HRZ := Lib.hid hrZ
          have HZ4 := Lib.hid z4
          have HZ5 := Lib.hid z5
          have HZ0 := Lib.hid z0
          have HZ1 := Lib.hid z1
          have HBZ := Lib.hid hbZ
          clear hZ hsZ hrZ z4 z5 z0 z1 hkZ hfZ hkoZ hbZ
          go_roundw
          case rel => exact ⟨q + 1, A6, A7, A8, A9, A10, A11, n6, c6, n7, c7, n8, c8, n9, c9, n10, c10, n11, c11, _, _, by omega, by omega, by simp, HZ4.out, HZ5.out, HSZZ.out, HRZ.out, HSZ.out, HZ0.out, HZ1.out, HBZ.out⟩
          case measure => (simp [intOf] <;> omega)
    · rcases Nat.lt_or_ge q N with hlN | hgN
      · have hq9 : ¬ ((q : Int) < 10) := by omega
        have hqi : (q : Int) < (N : Int) := by omega
        have hk := Lib.hid (show ∀ VV : World, VV.heap[B]? = wo.heap[B]? → VV.heap[B + 1]? = wo.heap[B + 1]? → (VV.cell? ⟨B, 0, none⟩ = some (.slice Aa na ca) ∧ VV.cell? ⟨B, 1, none⟩ = some (.slice Ab nb cb)) ∧ (VV.cell? ⟨B + 1, 0, none⟩ = some (.slice Ac nc cc) ∧ VV.cell? ⟨B + 1, 1, none⟩ = some (.slice Ad nd cd) ∧ VV.cell? ⟨B + 1, 2, none⟩ = some (.slice Ae ne ce) ∧ VV.cell? ⟨B + 1, 3, none⟩ = some (.slice Af nf cf)) from fun VV h0 h1 => by
          have j4 : Lies VV B 38 #[.slice Aa na ca, .slice Ab nb cb] := h0.trans HL4.out
          have j5 : Lies VV (B + 1) 42 #[.slice Ac nc cc, .slice Ad nd cd, .slice Ae ne ce, .slice Af nf cf] := h1.trans HL5.out
          exact ⟨⟨j4.cell 0, j4.cell 1⟩, ⟨j5.cell 0, j5.cell 1, j5.cell 2, j5.cell 3⟩⟩)
        have ne0 : B ≠ w.heap.size := by omega
        have ne1 : B + 1 ≠ w.heap.size := by omega
        have ne2 : B ≠ w.heap.size + 1 := by omega
        have ne3 : B + 1 ≠ w.heap.size + 1 := by omega
        have x10 := Lib.hid (setRow_other wo.drew w.heap.size B #[.slice Aa na ca, .slice Ab nb cb] ne0)
        have x11 := Lib.hid (setRow_other wo.drew w.heap.size (B + 1) #[.slice Aa na ca, .slice Ab nb cb] ne1)
        have x20 := Lib.hid ((setRow_other (wo.drew.setRow w.heap.size #[.slice Aa na ca, .slice Ab nb cb]) (w.heap.size + 1) B #[.slice Ac nc cc, .slice Ad nd cd, .slice Ae ne ce, .slice Af nf cf] ne2).trans x10.out)
        have x21 := Lib.hid ((setRow_other (wo.drew.setRow w.heap.size #[.slice Aa na ca, .slice Ab nb cb]) (w.heap.size + 1) (B + 1) #[.slice Ac nc cc, .slice Ad nd cd, .slice Ae ne ce, .slice Af nf cf] ne3).trans x11.out)
        go_wp2_with fail
        refine wp_region_held_drew (S := fun VV => (VV.cell? ⟨B, 0, none⟩ = some (.slice Aa na ca) ∧ VV.cell? ⟨B, 1, none⟩ = some (.slice Ab nb cb)) ∧ (VV.cell? ⟨B + 1, 0, none⟩ = some (.slice Ac nc cc) ∧ VV.cell? ⟨B + 1, 1, none⟩ = some (.slice Ad nd cd) ∧ VV.cell? ⟨B + 1, 2, none⟩ = some (.slice Ae ne ce) ∧ VV.cell? ⟨B + 1, 3, none⟩ = some (.slice Af nf cf))) (by kernel_rfl) ?_ (fun hHeld => ?_)
        · exact hk.out _ rfl rfl
        refine wpAnyH_take (i := 0) (oi := ⟨some 70, _, _, _, _, _⟩) (v := ?_) rfl (by kernel_rfl) (by kernel_rfl) (by kernel_rfl) (fun _ _ _ h => h) (Or.inl ⟨by kernel_rfl, ?_⟩) (by assumption) ?_
        rotate_left
        · (intro w' hSw; (try dsimp only at hSw); go_split_ands; go_simp; first | done | with_reducible rfl)
        try simp only [Act.put, List.setIfInBounds_toArray, List.set_cons_zero, List.set_cons_succ]
        refine wpAnyH_take (i := 1) (oi := ⟨some 71, _, _, _, _, _⟩) (v := ?_) rfl (by kernel_rfl) (by kernel_rfl) (by kernel_rfl) (fun _ _ _ h => h) (Or.inl ⟨by kernel_rfl, ?_⟩) (by assumption) ?_
        rotate_left
        · (intro w' hSw; (try dsimp only at hSw); go_split_ands; go_simp; first | done | with_reducible rfl)
        try simp only [Act.put, List.setIfInBounds_toArray, List.set_cons_zero, List.set_cons_succ]
        refine wpAnyH_ready (rs := [2]) (by kernel_rfl) (by simp) ?_
        refine AllReadyH.cons (o := ⟨none, _, _, _, _, _⟩) rfl (fun K hK => ?_) AllReadyH.nil
        rw [if_pos (by kernel_rfl)]
        refine wp_store_row _ _ _ rfl w.heap.size #[.slice Aa na ca, .slice Ab nb cb] rfl rfl 38 #[.slice none 0 0, .slice none 0 0] (HL0.out) (by kernel_rfl) rfl (by simp [Value.oneCell']) ?_
        refine hK.out _ _ ?_ (fun hHeld => ?_)
        · exact hk.out _ x10.out x11.out
        clear hK K
        try simp only [Act.put]
        refine wpAnyH_ready (rs := [3]) (by kernel_rfl) (by simp) ?_
        refine AllReadyH.cons (o := ⟨none, _, _, _, _, _⟩) rfl (fun K hK => ?_) AllReadyH.nil
        rw [if_pos (by kernel_rfl)]
        refine wp_store_row _ _ _ rfl (w.heap.size + 1) #[.slice Ac nc cc, .slice Ad nd cd, .slice Ae ne ce, .slice Af nf cf] rfl rfl 42 #[.slice none 0 0, .slice none 0 0, .slice none 0 0, .slice none 0 0] ((setRow_other _ _ _ _ (by omega)).trans HL1.out) (by kernel_rfl) rfl (by simp [Value.oneCell']) ?_
        refine hK.out _ _ ?_ (fun hHeld => ?_)
        · exact hk.out _ x20.out x21.out
        clear hK K
        try simp only [Act.put]
        refine wpAnyH_done (by kernel_rfl) ?_ _

        obtain ⟨WF, hWF⟩ : ∃ WF, WF = ((wo.drew.setRow w.heap.size #[.slice Aa na ca, .slice Ab nb cb]).setRow (w.heap.size + 1) #[.slice Ac nc cc, .slice Ad nd cd, .slice Ae ne ce, .slice Af nf cf]) := ⟨_, rfl⟩
        rw [← hWF]
        have hf0 : Lies WF w.heap.size 38 #[.slice Aa na ca, .slice Ab nb cb] := by rw [hWF]; exact (setRow_other _ _ _ _ (by omega)).trans (setRow_heap wo.drew _ _ _ _ _ HL0.out)
        have hf1 : Lies WF (w.heap.size + 1) 42 #[.slice Ac nc cc, .slice Ad nd cd, .slice Ae ne ce, .slice Af nf cf] := by rw [hWF]; exact setRow_heap _ _ _ _ _ _ ((setRow_other _ _ _ _ (by omega)).trans HL1.out)
        have hbf : Below w.heap.size w WF := by rw [hWF]; exact below_setRow (below_setRow HBB.out.drew (Nat.le_refl _) _) (Nat.le_succ _) _
        have hkf : Kept BX wo WF := ⟨by rw [hWF]; simp, fun b hb hn => by
          rw [hWF]
          exact (setRow_other _ _ _ _ (fun e => hn (by rw [HBX.out]; exact .inr (.inr (.inr e))))).trans (setRow_other _ _ _ _ (fun e => hn (by rw [HBX.out]; exact .inr (.inr (.inl e)))))⟩
        have Hf0 := Lib.hid hf0
        have Hf1 := Lib.hid hf1
        have Hbf := Lib.hid hbf
        have Hkf := Lib.hid hkf
        clear hWF hf0 hf1 hbf hkf
        go_wp2_with fail
        refine bodyPost_ret (v := .tuple #[.agg #[.slice Aa na ca, .slice Ab nb cb], .agg #[.slice Ac nc cc, .slice Ad nd cd, .slice Ae ne ce, .slice Af nf cf]]) (Sb.results_cc rfl _ _ w.heap.size 38 _ (0, 0) _ rfl Hf0.out Try.underlying38 rfl (by kernel_rfl) (w.heap.size + 1) 42 _ (0, 0) _ rfl Hf1.out Try.underlying42 rfl (by kernel_rfl)) rfl ?_
        exact ⟨Aa, Ab, Ac, Ad, Ae, Af, na, ca, nb, cb, nc, cc, nd, cd, ne, ce, nf, cf, T, R, rfl, (HSUB.out.keepL (blank_to (X := BX) (Y := BX) Hkf.out (fun _ _ h => h))).mono (by omega), HSZ.out, Hbf.out⟩
      · have hqi : ¬ ((q : Int) < (N : Int)) := by omega
        have hk := Lib.hid (show ∀ VV : World, VV.heap[B]? = wo.heap[B]? → VV.heap[B + 1]? = wo.heap[B + 1]? → (VV.cell? ⟨B, 0, none⟩ = some (.slice Aa na ca) ∧ VV.cell? ⟨B, 1, none⟩ = some (.slice Ab nb cb)) ∧ (VV.cell? ⟨B + 1, 0, none⟩ = some (.slice Ac nc cc) ∧ VV.cell? ⟨B + 1, 1, none⟩ = some (.slice Ad nd cd) ∧ VV.cell? ⟨B + 1, 2, none⟩ = some (.slice Ae ne ce) ∧ VV.cell? ⟨B + 1, 3, none⟩ = some (.slice Af nf cf)) from fun VV h0 h1 => by
          have j4 : Lies VV B 38 #[.slice Aa na ca, .slice Ab nb cb] := h0.trans HL4.out
          have j5 : Lies VV (B + 1) 42 #[.slice Ac nc cc, .slice Ad nd cd, .slice Ae ne ce, .slice Af nf cf] := h1.trans HL5.out
          exact ⟨⟨j4.cell 0, j4.cell 1⟩, ⟨j5.cell 0, j5.cell 1, j5.cell 2, j5.cell 3⟩⟩)
        have ne0 : B ≠ w.heap.size := by omega
        have ne1 : B + 1 ≠ w.heap.size := by omega
        have ne2 : B ≠ w.heap.size + 1 := by omega
        have ne3 : B + 1 ≠ w.heap.size + 1 := by omega
        have x10 := Lib.hid (setRow_other wo.drew w.heap.size B #[.slice Aa na ca, .slice Ab nb cb] ne0)
        have x11 := Lib.hid (setRow_other wo.drew w.heap.size (B + 1) #[.slice Aa na ca, .slice Ab nb cb] ne1)
        have x20 := Lib.hid ((setRow_other (wo.drew.setRow w.heap.size #[.slice Aa na ca, .slice Ab nb cb]) (w.heap.size + 1) B #[.slice Ac nc cc, .slice Ad nd cd, .slice Ae ne ce, .slice Af nf cf] ne2).trans x10.out)
        have x21 := Lib.hid ((setRow_other (wo.drew.setRow w.heap.size #[.slice Aa na ca, .slice Ab nb cb]) (w.heap.size + 1) (B + 1) #[.slice Ac nc cc, .slice Ad nd cd, .slice Ae ne ce, .slice Af nf cf] ne3).trans x11.out)
        go_wp2_with fail
        refine wp_region_held_drew (S := fun VV => (VV.cell? ⟨B, 0, none⟩ = some (.slice Aa na ca) ∧ VV.cell? ⟨B, 1, none⟩ = some (.slice Ab nb cb)) ∧ (VV.cell? ⟨B + 1, 0, none⟩ = some (.slice Ac nc cc) ∧ VV.cell? ⟨B + 1, 1, none⟩ = some (.slice Ad nd cd) ∧ VV.cell? ⟨B + 1, 2, none⟩ = some (.slice Ae ne ce) ∧ VV.cell? ⟨B + 1, 3, none⟩ = some (.slice Af nf cf))) (by kernel_rfl) ?_ (fun hHeld => ?_)
        · exact hk.out _ rfl rfl
        refine wpAnyH_take (i := 0) (oi := ⟨some 70, _, _, _, _, _⟩) (v := ?_) rfl (by kernel_rfl) (by kernel_rfl) (by kernel_rfl) (fun _ _ _ h => h) (Or.inl ⟨by kernel_rfl, ?_⟩) (by assumption) ?_
        rotate_left
        · (intro w' hSw; (try dsimp only at hSw); go_split_ands; go_simp; first | done | with_reducible rfl)
        try simp only [Act.put, List.setIfInBounds_toArray, List.set_cons_zero, List.set_cons_succ]
        refine wpAnyH_take (i := 1) (oi := ⟨some 71, _, _, _, _, _⟩) (v := ?_) rfl (by kernel_rfl) (by kernel_rfl) (by kernel_rfl) (fun _ _ _ h => h) (Or.inl ⟨by kernel_rfl, ?_⟩) (by assumption) ?_
        rotate_left
        · (intro w' hSw; (try dsimp only at hSw); go_split_ands; go_simp; first | done | with_reducible rfl)
        try simp only [Act.put, List.setIfInBounds_toArray, List.set_cons_zero, List.set_cons_succ]
        refine wpAnyH_ready (rs := [2]) (by kernel_rfl) (by simp) ?_
        refine AllReadyH.cons (o := ⟨none, _, _, _, _, _⟩) rfl (fun K hK => ?_) AllReadyH.nil
        rw [if_pos (by kernel_rfl)]
        refine wp_store_row _ _ _ rfl w.heap.size #[.slice Aa na ca, .slice Ab nb cb] rfl rfl 38 #[.slice none 0 0, .slice none 0 0] (HL0.out) (by kernel_rfl) rfl (by simp [Value.oneCell']) ?_
        refine hK.out _ _ ?_ (fun hHeld => ?_)
        · exact hk.out _ x10.out x11.out
        clear hK K
        try simp only [Act.put]
        refine wpAnyH_ready (rs := [3]) (by kernel_rfl) (by simp) ?_
        refine AllReadyH.cons (o := ⟨none, _, _, _, _, _⟩) rfl (fun K hK => ?_) AllReadyH.nil
        rw [if_pos (by kernel_rfl)]
        refine wp_store_row _ _ _ rfl (w.heap.size + 1) #[.slice Ac nc cc, .slice Ad nd cd, .slice Ae ne ce, .slice Af nf cf] rfl rfl 42 #[.slice none 0 0, .slice none 0 0, .slice none 0 0, .slice none 0 0] ((setRow_other _ _ _ _ (by omega)).trans HL1.out) (by kernel_rfl) rfl (by simp [Value.oneCell']) ?_
        refine hK.out _ _ ?_ (fun hHeld => ?_)
        · exact hk.out _ x20.out x21.out
        clear hK K
        try simp only [Act.put]
        refine wpAnyH_done (by kernel_rfl) ?_ _

        obtain ⟨WF, hWF⟩ : ∃ WF, WF = ((wo.drew.setRow w.heap.size #[.slice Aa na ca, .slice Ab nb cb]).setRow (w.heap.size + 1) #[.slice Ac nc cc, .slice Ad nd cd, .slice Ae ne ce, .slice Af nf cf]) := ⟨_, rfl⟩
        rw [← hWF]
        have hf0 : Lies WF w.heap.size 38 #[.slice Aa na ca, .slice Ab nb cb] := by rw [hWF]; exact (setRow_other _ _ _ _ (by omega)).trans (setRow_heap wo.drew _ _ _ _ _ HL0.out)
        have hf1 : Lies WF (w.heap.size + 1) 42 #[.slice Ac nc cc, .slice Ad nd cd, .slice Ae ne ce, .slice Af nf cf] := by rw [hWF]; exact setRow_heap _ _ _ _ _ _ ((setRow_other _ _ _ _ (by omega)).trans HL1.out)
        have hbf : Below w.heap.size w WF := by rw [hWF]; exact below_setRow (below_setRow HBB.out.drew (Nat.le_refl _) _) (Nat.le_succ _) _
        have hkf : Kept BX wo WF := ⟨by rw [hWF]; simp, fun b hb hn => by
          rw [hWF]
          exact (setRow_other _ _ _ _ (fun e => hn (by rw [HBX.out]; exact .inr (.inr (.inr e))))).trans (setRow_other _ _ _ _ (fun e => hn (by rw [HBX.out]; exact .inr (.inr (.inl e)))))⟩
        have Hf0 := Lib.hid hf0
        have Hf1 := Lib.hid hf1
        have Hbf := Lib.hid hbf
        have Hkf := Lib.hid hkf
        clear hWF hf0 hf1 hbf hkf
        go_wp2_with fail
        refine bodyPost_ret (v := .tuple #[.agg #[.slice Aa na ca, .slice Ab nb cb], .agg #[.slice Ac nc cc, .slice Ad nd cd, .slice Ae ne ce, .slice Af nf cf]]) (Sb.results_cc rfl _ _ w.heap.size 38 _ (0, 0) _ rfl Hf0.out Try.underlying38 rfl (by kernel_rfl) (w.heap.size + 1) 42 _ (0, 0) _ rfl Hf1.out Try.underlying42 rfl (by kernel_rfl)) rfl ?_
        exact ⟨Aa, Ab, Ac, Ad, Ae, Af, na, ca, nb, cb, nc, cc, nd, cd, ne, ce, nf, cf, T, R, rfl, (HSUB.out.keepL (blank_to (X := BX) (Y := BX) Hkf.out (fun _ _ h => h))).mono (by omega), HSZ.out, Hbf.out⟩
end Go.Proofs.Ytgheaaljnmkclaa
