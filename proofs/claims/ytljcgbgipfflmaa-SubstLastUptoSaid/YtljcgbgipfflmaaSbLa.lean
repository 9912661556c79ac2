/- The law SubstLast: its walk. -/
import Derived.Test.YtljcgbgipfflmaaSbz
import Derived.Test.YtljcgbgipfflmaaSbSh
import Derived.Test.YtljcgbgipfflmaaSbw
import Derived.Deep.DeepCutAuto
import Derived.Deep.CutRange
import Derived.Outline
namespace Go.Proofs.Ytljcgbgipfflmaa
open Go.RowKit

theorem setF_at {α : Type} (T : Int → Option α) (n : Int) (x : α) : setF T n x n = some x := if_pos rfl
theorem setF_ne {α : Type} (T : Int → Option α) (n k : Int) (x : α) (h : k ≠ n) : setF T n x k = T k := if_neg h
theorem setF_small {T : Int → Option Ty} {n : Int} {t : Ty} (h : ∀ k u, T k = some u → u.size ≤ 30) (ht : t.size ≤ 30) : ∀ k u, setF T n t k = some u → u.size ≤ 30 := by
  intro k u hu
  unfold setF at hu
  split at hu
  · injection hu with hu; rw [← hu]; exact ht
  · exact h k u hu
theorem rsame0 {w : World} {r : List Str × Int} {v u : Value} {a b : Int} (h1 : RwV w r [v, .int .i64 a]) (h2 : RwV w r [u, .int .i64 b]) :
    Calls Try.prog 16 #[.agg #[v, .int .i64 a], .agg #[u, .int .i64 b]] w fun e w' => e = .returned (.bool true) ∧ Below w.heap.size w w' := by
  obtain ⟨v1, e1, h3, _⟩ := h1
  obtain ⟨u1, e2, h4, _⟩ := h2
  simp only [List.cons.injEq, Value.int.injEq, true_and, and_true] at e1 e2
  obtain ⟨rfl, rfl⟩ := e1
  obtain ⟨rfl, rfl⟩ := e2
  exact rsame_any v u r.1 r.2 w h3 h4
set_option maxRecDepth 100000 in
set_option maxHeartbeats 8000000 in
theorem substLast_walk (w : World) (lv : Value) (xs : List SayD) (n k : Int) (t : Ty) (tl : List Value) (ls : List Str) (rv : Int) (rl : List Value) (hx : SayR w lv xs) (hN : xs.length ≤ 2000000) (ht : TRV w t tl) (hts : t.size ≤ 100000000) (hr : RwV w (ls, rv) rl) :
    Calls Try.prog 3 #[lv, .int .i64 n, .int .i64 k, .agg tl.toArray, .agg rl.toArray] w fun e w' => e = .returned (.bool true) ∧ Below w.heap.size w w' := by
  obtain ⟨AX, cX, rfl, _⟩ := id hx
  obtain ⟨k0, nm0, v0, A0, n0, c0, B0, m0, d0, rv0, rfl⟩ := ht.form
  obtain ⟨lvv, rfl, hst, hrv⟩ := hr
  obtain ⟨A1, c1, rfl, hlc, _⟩ := hst.form
  obtain ⟨LX, hLX⟩ : ∃ LX, LX = xs.length := ⟨_, rfl⟩
  have HLX := Lib.hid hLX
  rw [← hLX] at hx ⊢
  clear hLX
  obtain ⟨LL, hLL⟩ : ∃ LL, LL = ls.length := ⟨_, rfl⟩
  have HLL := Lib.hid hLL
  have hLb := hst.2
  rw [← hLL] at hst hlc hLb ⊢
  clear hLL
  obtain ⟨W0, hW0⟩ : ∃ W0, W0 = (w.alloc (.cells #[.int .i64 k0, .string (ba nm0), .int .i64 v0, .slice A0 n0 c0, .slice B0 m0 d0, .int .i64 rv0] 28)).alloc (.cells #[.slice A1 LL c1, .int .i64 rv] 26) := ⟨_, rfl⟩
  have hb0 : Below w.heap.size w W0 := by rw [hW0]; exact ((Below.refl _ w).alloc (Nat.le_refl _) _).alloc (by simp) _
  have k1 : Lies W0 w.heap.size 28 #[.int .i64 k0, .string (ba nm0), .int .i64 v0, .slice A0 n0 c0, .slice B0 m0 d0, .int .i64 rv0] := by rw [hW0]; exact (Lies.new _ _ _).alloc _
  have k2 : Lies W0 (w.heap.size + 1) 26 #[.slice A1 LL c1, .int .i64 rv] := by rw [hW0]; exact Lies.new' _ _ _ (by simp)
  have HW0 := Lib.hid hW0
  have HB := Lib.hid hb0
  have HL_t := Lib.hid k1
  have HL_r := Lib.hid k2
  have HX := Lib.hid hx
  have HT := Lib.hid ht
  have HST := Lib.hid hst
  have HRV := Lib.hid hrv
  have HTS := Lib.hid hts
  clear hW0 hb0 k1 k2 hx ht hst hrv hts
  go_enter Try.func3, Try.ntmps3
  go_wp2_with fail
  rw [← HW0.out]
  refine (shown_any W0).mono ?_
  rintro e w1 ⟨rfl, hb1⟩
  have HL_t := Lib.hid (HL_t.out.later hb1)
  have HL_r := Lib.hid (HL_r.out.later hb1)
  have HB := Lib.hid (HB.out.trans (hb1.mono HB.out.size))
  have HC := Lib.hid (count_any t w1 _ HTS.out (HT.out.later HB.out))
  have q1_t_0 := HL_t.out.cell 0
  have q1_t_1 := HL_t.out.cell 1
  have q1_t_2 := HL_t.out.cell 2
  have q1_t_3 := HL_t.out.cell 3
  have q1_t_4 := HL_t.out.cell 4
  have q1_t_5 := HL_t.out.cell 5
  obtain ⟨sz, hsz⟩ : ∃ sz, sz = t.size := ⟨_, rfl⟩
  have HSZ := Lib.hid hsz
  rw [← hsz] at HC
  clear hb1 hsz
  go_wp2_with fail
  refine HC.out.mono ?_
  rintro e w2 ⟨rfl, hb2⟩
  have HL_t := Lib.hid (HL_t.out.later hb2)
  have HL_r := Lib.hid (HL_r.out.later hb2)
  have HB := Lib.hid (HB.out.trans (hb2.mono HB.out.size))
  clear hb2 HC q1_t_0 q1_t_1 q1_t_2 q1_t_3 q1_t_4 q1_t_5
  by_cases h30 : sz ≤ 30
  rotate_left
  · have h30i : (30 : Int) < (sz : Int) := by omega
    go_wp2_with fail
    go_ret
    exact ⟨rfl, HB.out⟩
  have h30i : ¬ ((30 : Int) < (sz : Int)) := by omega
  go_upto_region 4 with fail
  go_cut [11] from 37 to 44 (fun h wx => h = .bool true ∧ ∃ M c5, Lies wx w.heap.size 28 #[.int .i64 k0, .string (ba nm0), .int .i64 v0, .slice A0 n0 c0, .slice B0 m0 d0, .int .i64 rv0] ∧ Lies wx (w.heap.size + 1) 26 #[.slice A1 M c5, .int .i64 rv] ∧ StrR w (.slice A1 M c5) (ls.take 10) ∧ Below w.heap.size w wx)
  case first =>
    have l1 := HL_r.out
    have r0 := l1.cell 0
    have f0 := l1.free 0
    have hlt := l1.lt
    have HL1 := Lib.hid l1
    clear l1
    rcases Nat.lt_trichotomy LL 10 with hL | rfl | hL
    · have hLi : (LL : Int) < 10 := by omega
      have hLi2 : ¬ ((10 : Int) < (LL : Int)) := by omega
      go_wp2_with fail
      go_meet
      case rel => exact ⟨rfl, _, _, HL_t.out.far (by show w.heap.size ≠ w.heap.size + 1; omega) _, HL1.out.set 0 _, (by rw [List.take_of_length_le (by have := HLL.out; omega)]; exact HST.out), HB.out.setCell (by show w.heap.size ≤ w.heap.size + 1; omega) _⟩
    · go_wp2_with fail
      go_meet
      case rel => exact ⟨rfl, _, _, HL_t.out.far (by show w.heap.size ≠ w.heap.size + 1; omega) _, HL1.out.set 0 _, (by rw [List.take_of_length_le (by have := HLL.out; omega)]; exact HST.out), HB.out.setCell (by show w.heap.size ≤ w.heap.size + 1; omega) _⟩
    · have hLi : ¬ ((LL : Int) < 10) := by omega
      have hLi2 : ((10 : Int) < (LL : Int)) := by omega
      go_wp2_with fail
      go_meet
      case rel => exact ⟨rfl, _, _, HL_t.out.far (by show w.heap.size ≠ w.heap.size + 1; omega) _, HL1.out.set 0 _, HST.out.take 10 (by have := HLL.out; omega), HB.out.setCell (by show w.heap.size ≤ w.heap.size + 1; omega) _⟩
  case rest =>
    obtain ⟨rfl, M, c5, hl1, hl2, hst2, hbc⟩ := hcut
    have HL_t := Lib.hid hl1
    have HL_r := Lib.hid hl2
    have HST := Lib.hid hst2
    have HB := Lib.hid hbc
    clear hl1 hl2 hst2 hbc
    have HC := Lib.hid (said_any wc (.slice AX LX cX) xs (HX.out.keep HB.out.block) hN)
    go_wp2_with fail
    refine HC.out.mono ?_
    rintro e w5 ⟨Aa, Ab, Ac, Ad, Ae, Af, na, ca, nb, cb, nc, cc, nd, cd, ne, ce, nf, cf, T, R, rfl, hsub, hsmall, hb5⟩
    obtain ⟨V5, hV5⟩ : ∃ V, V = (w5.alloc (.cells #[.slice Aa na ca, .slice Ab nb cb] 38)).alloc (.cells #[.slice Ac nc cc, .slice Ad nd cd, .slice Ae ne ce, .slice Af nf cf] 42) := ⟨_, rfl⟩
    have hbn5 : Below w5.heap.size w5 V5 := by rw [hV5]; exact ((Below.refl _ w5).alloc (Nat.le_refl _) _).alloc (by simp) _
    have hbv : Below wc.heap.size wc V5 := hb5.trans (hbn5.mono hb5.size)
    have HL_t := Lib.hid (HL_t.out.later hbv)
    have HL_r := Lib.hid (HL_r.out.later hbv)
    have HL_s := Lib.hid (show Lies V5 w5.heap.size 38 #[.slice Aa na ca, .slice Ab nb cb] from by rw [hV5]; exact (Lies.new _ _ _).alloc _)
    have HB := Lib.hid (HB.out.trans (hbv.mono HB.out.size))
    have HSUB := Lib.hid (hsub.later hbn5)
    have HSM := Lib.hid hsmall
    obtain ⟨r7, hr7, h7⟩ := and7 n
    obtain ⟨r8, hr8, h8⟩ := and7 k
    have hw7 : IntKind.i64.wrap (1 + (r7 : Int)) = 1 + (r7 : Int) := IntWalk.i64_in _ (by omega)
    have hw8 : IntKind.i64.wrap (1 + (r8 : Int)) = 1 + (r8 : Int) := IntWalk.i64_in _ (by omega)
    have hk7 : i64ok (1 + (r7 : Int)) := i64ok_of (by omega) (by omega)
    have hk8 : i64ok (1 + (r8 : Int)) := i64ok_of (by omega) (by omega)
    have HK7 := Lib.hid hk7
    have HK8 := Lib.hid hk8
    have ht30 : t.size ≤ 30 := by have := HSZ.out; omega
    have HT30 := Lib.hid ht30
    have HRR := Lib.hid (show RwV w (ls.take 10, rv) [.slice A1 M c5, .int .i64 rv] from ⟨_, rfl, HST.out, HRV.out⟩)
    clear hk7 hk8 ht30 hsub hsmall
    have q5_s_0 := HL_s.out.cell 0
    have q5_s_1 := HL_s.out.cell 1
    have q5_t_0 := HL_t.out.cell 0
    have q5_t_1 := HL_t.out.cell 1
    have q5_t_2 := HL_t.out.cell 2
    have q5_t_3 := HL_t.out.cell 3
    have q5_t_4 := HL_t.out.cell 4
    have q5_t_5 := HL_t.out.cell 5
    rw [hV5] at q5_s_0 q5_s_1 q5_t_0 q5_t_1 q5_t_2 q5_t_3 q5_t_4 q5_t_5
    have HV5 := Lib.hid hV5
    have HC := Lib.hid (setT0 HSUB.out (by omega) (1 + (r7 : Int)) HK7.out t _ (HT.out.later HB.out) (by have := HT30.out; omega))
    clear hV5 hbn5 hbv hb5
    go_wp2_with fail
    rw [← HV5.out]
    refine HC.out.mono ?_
    rintro e w8 ⟨A8, n8, c8, B8, m8, d8, rfl, hr8, hb8⟩
    obtain ⟨V8, hV8⟩ : ∃ V, V = w8.alloc (.cells #[.slice A8 n8 c8, .slice B8 m8 d8] 38) := ⟨_, rfl⟩
    have hbn8 : Below w8.heap.size w8 V8 := by rw [hV8]; exact below_new w8 _
    have hbv : Below V5.heap.size V5 V8 := hb8.trans (hbn8.mono hb8.size)
    have HL_t := Lib.hid (HL_t.out.later hbv)
    have HL_r := Lib.hid (HL_r.out.later hbv)
    have HL_s := Lib.hid (HL_s.out.later hbv)
    have HSUB := Lib.hid (HSUB.out.later hbv)
    have HB := Lib.hid (HB.out.trans (hbv.mono HB.out.size))
    have HL_a := Lib.hid (show Lies V8 w8.heap.size 38 #[.slice A8 n8 c8, .slice B8 m8 d8] from by rw [hV8]; exact Lies.new _ _ _)
    have HF_8 := Lib.hid (hr8.later hbn8)
    have q8_s_0 := HL_s.out.cell 0
    have q8_s_1 := HL_s.out.cell 1
    have q8_r_0 := HL_r.out.cell 0
    have q8_r_1 := HL_r.out.cell 1
    rw [hV8] at q8_s_0 q8_s_1 q8_r_0 q8_r_1
    have HV8 := Lib.hid hV8
    have HC := Lib.hid (setR0 HSUB.out (by omega) (1 + (r7 : Int)) HK7.out (ls.take 10) rv _ (HRR.out.keep HB.out.block))
    clear hV8 hbn8 hbv hr8 hb8 q5_s_0 q5_s_1 q5_t_0 q5_t_1 q5_t_2 q5_t_3 q5_t_4 q5_t_5
    go_wp2_with fail
    rw [← HV8.out]
    refine HC.out.mono ?_
    rintro e w9 ⟨A9, n9, c9, B9, m9, d9, rfl, hr9, hb9⟩
    obtain ⟨V9, hV9⟩ : ∃ V, V = w9.alloc (.cells #[.slice A9 n9 c9, .slice B9 m9 d9] 38) := ⟨_, rfl⟩
    have hbn9 : Below w9.heap.size w9 V9 := by rw [hV9]; exact below_new w9 _
    have hbv : Below V8.heap.size V8 V9 := hb9.trans (hbn9.mono hb9.size)
    have HL_t := Lib.hid (HL_t.out.later hbv)
    have HL_r := Lib.hid (HL_r.out.later hbv)
    have HL_s := Lib.hid (HL_s.out.later hbv)
    have HL_a := Lib.hid (HL_a.out.later hbv)
    have HSUB := Lib.hid (HSUB.out.later hbv)
    have HF_8 := Lib.hid (HF_8.out.later hbv)
    have HB := Lib.hid (HB.out.trans (hbv.mono HB.out.size))
    have HL_b := Lib.hid (show Lies V9 w9.heap.size 38 #[.slice A9 n9 c9, .slice B9 m9 d9] from by rw [hV9]; exact Lies.new _ _ _)
    have HF_9 := Lib.hid (hr9.later hbn9)
    have q9_a_0 := HL_a.out.cell 0
    have q9_a_1 := HL_a.out.cell 1
    rw [hV9] at q9_a_0 q9_a_1
    have HV9 := Lib.hid hV9
    have HC := Lib.hid (typ0 HF_8.out (by omega) (1 + (r7 : Int)) HK7.out (fun x hu => Nat.le_trans (setF_small HSM.out HT30.out _ x hu) (by omega)))
    clear hV9 hbn9 hbv hr9 hb9 q8_s_0 q8_s_1 q8_r_0 q8_r_1
    go_wp2_with fail
    rw [← HV9.out]
    refine HC.out.mono ?_
    rintro e w10 ⟨k10, nm10, v10, A10, n10, c10, B10, m10, d10, rv10, rfl, hr10, hb10⟩
    obtain ⟨V10, hV10⟩ : ∃ V, V = w10.alloc (.cells #[.int .i64 k10, .string (ba nm10), .int .i64 v10, .slice A10 n10 c10, .slice B10 m10 d10, .int .i64 rv10] 28) := ⟨_, rfl⟩
    have hbn10 : Below w10.heap.size w10 V10 := by rw [hV10]; exact below_new w10 _
    have hbv : Below V9.heap.size V9 V10 := hb10.trans (hbn10.mono hb10.size)
    have HL_t := Lib.hid (HL_t.out.later hbv)
    have HL_r := Lib.hid (HL_r.out.later hbv)
    have HL_s := Lib.hid (HL_s.out.later hbv)
    have HL_a := Lib.hid (HL_a.out.later hbv)
    have HL_b := Lib.hid (HL_b.out.later hbv)
    have HSUB := Lib.hid (HSUB.out.later hbv)
    have HF_8 := Lib.hid (HF_8.out.later hbv)
    have HF_9 := Lib.hid (HF_9.out.later hbv)
    have HB := Lib.hid (HB.out.trans (hbv.mono HB.out.size))
    have HL_x := Lib.hid (show Lies V10 w10.heap.size 28 #[.int .i64 k10, .string (ba nm10), .int .i64 v10, .slice A10 n10 c10, .slice B10 m10 d10, .int .i64 rv10] from by rw [hV10]; exact Lies.new _ _ _)
    have HF_10 := Lib.hid (hr10.later hbn10)
    have q10_b_0 := HL_b.out.cell 0
    have q10_b_1 := HL_b.out.cell 1
    rw [hV10] at q10_b_0 q10_b_1
    have HV10 := Lib.hid hV10
    have HC := Lib.hid (row0 HF_9.out (by omega) (1 + (r7 : Int)) HK7.out)
    rw [show (setF T (1 + (r7 : Int)) t (1 + (r7 : Int))).isSome = true by rw [setF_at]; rfl]
    clear hV10 hbn10 hbv hr10 hb10 q9_a_0 q9_a_1
    go_wp2_with fail
    rw [← HV10.out]
    refine HC.out.mono ?_
    rintro e w11 ⟨A11, n11, c11, rv11, rfl, hr11, hb11⟩
    obtain ⟨V11, hV11⟩ : ∃ V, V = w11.alloc (.cells #[.slice A11 n11 c11, .int .i64 rv11] 26) := ⟨_, rfl⟩
    have hbn11 : Below w11.heap.size w11 V11 := by rw [hV11]; exact below_new w11 _
    have hbv : Below V10.heap.size V10 V11 := hb11.trans (hbn11.mono hb11.size)
    have HL_t := Lib.hid (HL_t.out.later hbv)
    have HL_r := Lib.hid (HL_r.out.later hbv)
    have HL_s := Lib.hid (HL_s.out.later hbv)
    have HL_a := Lib.hid (HL_a.out.later hbv)
    have HL_b := Lib.hid (HL_b.out.later hbv)
    have HL_x := Lib.hid (HL_x.out.later hbv)
    have HSUB := Lib.hid (HSUB.out.later hbv)
    have HF_8 := Lib.hid (HF_8.out.later hbv)
    have HF_9 := Lib.hid (HF_9.out.later hbv)
    have HF_10 := Lib.hid (HF_10.out.later hbv)
    have HB := Lib.hid (HB.out.trans (hbv.mono HB.out.size))
    have HL_y := Lib.hid (show Lies V11 w11.heap.size 26 #[.slice A11 n11 c11, .int .i64 rv11] from by rw [hV11]; exact Lies.new _ _ _)
    have HF_11 := Lib.hid (hr11.later hbn11)
    have q11_a_0 := HL_a.out.cell 0
    have q11_a_1 := HL_a.out.cell 1
    rw [hV11] at q11_a_0 q11_a_1
    have HV11 := Lib.hid hV11
    have HC := Lib.hid (typ0 HF_8.out (by omega) (1 + (r8 : Int)) HK8.out (fun x hu => Nat.le_trans (setF_small HSM.out HT30.out _ x hu) (by omega)))
    rw [show (setF R (1 + (r7 : Int)) (ls.take 10, rv) (1 + (r7 : Int))).isSome = true by rw [setF_at]; rfl]
    clear hV11 hbn11 hbv hr11 hb11 q10_b_0 q10_b_1
    go_wp2_with fail
    rw [← HV11.out]
    refine HC.out.mono ?_
    rintro e w12 ⟨k12, nm12, v12, A12, n12, c12, B12, m12, d12, rv12, rfl, hr12, hb12⟩
    obtain ⟨V12, hV12⟩ : ∃ V, V = w12.alloc (.cells #[.int .i64 k12, .string (ba nm12), .int .i64 v12, .slice A12 n12 c12, .slice B12 m12 d12, .int .i64 rv12] 28) := ⟨_, rfl⟩
    have hbn12 : Below w12.heap.size w12 V12 := by rw [hV12]; exact below_new w12 _
    have hbv : Below V11.heap.size V11 V12 := hb12.trans (hbn12.mono hb12.size)
    have HL_t := Lib.hid (HL_t.out.later hbv)
    have HL_r := Lib.hid (HL_r.out.later hbv)
    have HL_s := Lib.hid (HL_s.out.later hbv)
    have HL_a := Lib.hid (HL_a.out.later hbv)
    have HL_b := Lib.hid (HL_b.out.later hbv)
    have HL_x := Lib.hid (HL_x.out.later hbv)
    have HL_y := Lib.hid (HL_y.out.later hbv)
    have HSUB := Lib.hid (HSUB.out.later hbv)
    have HF_8 := Lib.hid (HF_8.out.later hbv)
    have HF_9 := Lib.hid (HF_9.out.later hbv)
    have HF_10 := Lib.hid (HF_10.out.later hbv)
    have HF_11 := Lib.hid (HF_11.out.later hbv)
    have HB := Lib.hid (HB.out.trans (hbv.mono HB.out.size))
    have HL_u := Lib.hid (show Lies V12 w12.heap.size 28 #[.int .i64 k12, .string (ba nm12), .int .i64 v12, .slice A12 n12 c12, .slice B12 m12 d12, .int .i64 rv12] from by rw [hV12]; exact Lies.new _ _ _)
    have HF_12 := Lib.hid (hr12.later hbn12)
    have q12_s_0 := HL_s.out.cell 0
    have q12_s_1 := HL_s.out.cell 1
    rw [hV12] at q12_s_0 q12_s_1
    have HV12 := Lib.hid hV12
    have HC := Lib.hid (typ0 HSUB.out (by omega) (1 + (r8 : Int)) HK8.out (fun x hu => Nat.le_trans (HSM.out _ x hu) (by omega)))
    clear hV12 hbn12 hbv hr12 hb12 q11_a_0 q11_a_1
    go_wp2_with fail
    rw [← HV12.out]
    refine HC.out.mono ?_
    rintro e w13 ⟨k13, nm13, v13, A13, n13, c13, B13, m13, d13, rv13, rfl, hr13, hb13⟩
    obtain ⟨V13, hV13⟩ : ∃ V, V = w13.alloc (.cells #[.int .i64 k13, .string (ba nm13), .int .i64 v13, .slice A13 n13 c13, .slice B13 m13 d13, .int .i64 rv13] 28) := ⟨_, rfl⟩
    have hbn13 : Below w13.heap.size w13 V13 := by rw [hV13]; exact below_new w13 _
    have hbv : Below V12.heap.size V12 V13 := hb13.trans (hbn13.mono hb13.size)
    have HL_t := Lib.hid (HL_t.out.later hbv)
    have HL_r := Lib.hid (HL_r.out.later hbv)
    have HL_s := Lib.hid (HL_s.out.later hbv)
    have HL_a := Lib.hid (HL_a.out.later hbv)
    have HL_b := Lib.hid (HL_b.out.later hbv)
    have HL_x := Lib.hid (HL_x.out.later hbv)
    have HL_y := Lib.hid (HL_y.out.later hbv)
    have HL_u := Lib.hid (HL_u.out.later hbv)
    have HSUB := Lib.hid (HSUB.out.later hbv)
    have HF_8 := Lib.hid (HF_8.out.later hbv)
    have HF_9 := Lib.hid (HF_9.out.later hbv)
    have HF_10 := Lib.hid (HF_10.out.later hbv)
    have HF_11 := Lib.hid (HF_11.out.later hbv)
    have HF_12 := Lib.hid (HF_12.out.later hbv)
    have HB := Lib.hid (HB.out.trans (hbv.mono HB.out.size))
    have HL_v := Lib.hid (show Lies V13 w13.heap.size 28 #[.int .i64 k13, .string (ba nm13), .int .i64 v13, .slice A13 n13 c13, .slice B13 m13 d13, .int .i64 rv13] from by rw [hV13]; exact Lies.new _ _ _)
    have HF_13 := Lib.hid (hr13.later hbn13)
    have q13_b_0 := HL_b.out.cell 0
    have q13_b_1 := HL_b.out.cell 1
    rw [hV13] at q13_b_0 q13_b_1
    have HV13 := Lib.hid hV13
    have HC := Lib.hid (row0 HF_9.out (by omega) (1 + (r8 : Int)) HK8.out)
    clear hV13 hbn13 hbv hr13 hb13 q12_s_0 q12_s_1
    go_wp2_with fail
    rw [← HV13.out]
    refine HC.out.mono ?_
    rintro e w14 ⟨A14, n14, c14, rv14, rfl, hr14, hb14⟩
    obtain ⟨V14, hV14⟩ : ∃ V, V = w14.alloc (.cells #[.slice A14 n14 c14, .int .i64 rv14] 26) := ⟨_, rfl⟩
    have hbn14 : Below w14.heap.size w14 V14 := by rw [hV14]; exact below_new w14 _
    have hbv : Below V13.heap.size V13 V14 := hb14.trans (hbn14.mono hb14.size)
    have HL_t := Lib.hid (HL_t.out.later hbv)
    have HL_r := Lib.hid (HL_r.out.later hbv)
    have HL_s := Lib.hid (HL_s.out.later hbv)
    have HL_a := Lib.hid (HL_a.out.later hbv)
    have HL_b := Lib.hid (HL_b.out.later hbv)
    have HL_x := Lib.hid (HL_x.out.later hbv)
    have HL_y := Lib.hid (HL_y.out.later hbv)
    have HL_u := Lib.hid (HL_u.out.later hbv)
    have HL_v := Lib.hid (HL_v.out.later hbv)
    have HSUB := Lib.hid (HSUB.out.later hbv)
    have HF_8 := Lib.hid (HF_8.out.later hbv)
    have HF_9 := Lib.hid (HF_9.out.later hbv)
    have HF_10 := Lib.hid (HF_10.out.later hbv)
    have HF_11 := Lib.hid (HF_11.out.later hbv)
    have HF_12 := Lib.hid (HF_12.out.later hbv)
    have HF_13 := Lib.hid (HF_13.out.later hbv)
    have HB := Lib.hid (HB.out.trans (hbv.mono HB.out.size))
    have HL_p := Lib.hid (show Lies V14 w14.heap.size 26 #[.slice A14 n14 c14, .int .i64 rv14] from by rw [hV14]; exact Lies.new _ _ _)
    have HF_14 := Lib.hid (hr14.later hbn14)
    have q14_s_0 := HL_s.out.cell 0
    have q14_s_1 := HL_s.out.cell 1
    rw [hV14] at q14_s_0 q14_s_1
    have HV14 := Lib.hid hV14
    have HC := Lib.hid (row0 HSUB.out (by omega) (1 + (r8 : Int)) HK8.out)
    clear hV14 hbn14 hbv hr14 hb14 q13_b_0 q13_b_1
    go_wp2_with fail
    rw [← HV14.out]
    refine HC.out.mono ?_
    rintro e w15 ⟨A15, n15, c15, rv15, rfl, hr15, hb15⟩
    obtain ⟨V15, hV15⟩ : ∃ V, V = w15.alloc (.cells #[.slice A15 n15 c15, .int .i64 rv15] 26) := ⟨_, rfl⟩
    have hbn15 : Below w15.heap.size w15 V15 := by rw [hV15]; exact below_new w15 _
    have hbv : Below V14.heap.size V14 V15 := hb15.trans (hbn15.mono hb15.size)
    have HL_t := Lib.hid (HL_t.out.later hbv)
    have HL_r := Lib.hid (HL_r.out.later hbv)
    have HL_s := Lib.hid (HL_s.out.later hbv)
    have HL_a := Lib.hid (HL_a.out.later hbv)
    have HL_b := Lib.hid (HL_b.out.later hbv)
    have HL_x := Lib.hid (HL_x.out.later hbv)
    have HL_y := Lib.hid (HL_y.out.later hbv)
    have HL_u := Lib.hid (HL_u.out.later hbv)
    have HL_v := Lib.hid (HL_v.out.later hbv)
    have HL_p := Lib.hid (HL_p.out.later hbv)
    have HSUB := Lib.hid (HSUB.out.later hbv)
    have HF_8 := Lib.hid (HF_8.out.later hbv)
    have HF_9 := Lib.hid (HF_9.out.later hbv)
    have HF_10 := Lib.hid (HF_10.out.later hbv)
    have HF_11 := Lib.hid (HF_11.out.later hbv)
    have HF_12 := Lib.hid (HF_12.out.later hbv)
    have HF_13 := Lib.hid (HF_13.out.later hbv)
    have HF_14 := Lib.hid (HF_14.out.later hbv)
    have HB := Lib.hid (HB.out.trans (hbv.mono HB.out.size))
    have HL_q := Lib.hid (show Lies V15 w15.heap.size 26 #[.slice A15 n15 c15, .int .i64 rv15] from by rw [hV15]; exact Lies.new _ _ _)
    have HF_15 := Lib.hid (hr15.later hbn15)
    have q15_b_0 := HL_b.out.cell 0
    have q15_b_1 := HL_b.out.cell 1
    rw [hV15] at q15_b_0 q15_b_1
    have HV15 := Lib.hid hV15
    have HC := Lib.hid (typ0 HF_9.out (by omega) (1 + (r7 : Int)) HK7.out (fun x hu => Nat.le_trans (HSM.out _ x hu) (by omega)))
    clear hV15 hbn15 hbv hr15 hb15 q14_s_0 q14_s_1
    go_wp2_with fail
    rw [← HV15.out]
    refine HC.out.mono ?_
    rintro e w16 ⟨k16, nm16, v16, A16, n16, c16, B16, m16, d16, rv16, rfl, hr16, hb16⟩
    obtain ⟨V16, hV16⟩ : ∃ V, V = w16.alloc (.cells #[.int .i64 k16, .string (ba nm16), .int .i64 v16, .slice A16 n16 c16, .slice B16 m16 d16, .int .i64 rv16] 28) := ⟨_, rfl⟩
    have hbn16 : Below w16.heap.size w16 V16 := by rw [hV16]; exact below_new w16 _
    have hbv : Below V15.heap.size V15 V16 := hb16.trans (hbn16.mono hb16.size)
    have HL_t := Lib.hid (HL_t.out.later hbv)
    have HL_r := Lib.hid (HL_r.out.later hbv)
    have HL_s := Lib.hid (HL_s.out.later hbv)
    have HL_a := Lib.hid (HL_a.out.later hbv)
    have HL_b := Lib.hid (HL_b.out.later hbv)
    have HL_x := Lib.hid (HL_x.out.later hbv)
    have HL_y := Lib.hid (HL_y.out.later hbv)
    have HL_u := Lib.hid (HL_u.out.later hbv)
    have HL_v := Lib.hid (HL_v.out.later hbv)
    have HL_p := Lib.hid (HL_p.out.later hbv)
    have HL_q := Lib.hid (HL_q.out.later hbv)
    have HSUB := Lib.hid (HSUB.out.later hbv)
    have HF_8 := Lib.hid (HF_8.out.later hbv)
    have HF_9 := Lib.hid (HF_9.out.later hbv)
    have HF_10 := Lib.hid (HF_10.out.later hbv)
    have HF_11 := Lib.hid (HF_11.out.later hbv)
    have HF_12 := Lib.hid (HF_12.out.later hbv)
    have HF_13 := Lib.hid (HF_13.out.later hbv)
    have HF_14 := Lib.hid (HF_14.out.later hbv)
    have HF_15 := Lib.hid (HF_15.out.later hbv)
    have HB := Lib.hid (HB.out.trans (hbv.mono HB.out.size))
    have HF_16 := Lib.hid (hr16.later hbn16)
    have q16_s_0 := HL_s.out.cell 0
    have q16_s_1 := HL_s.out.cell 1
    rw [hV16] at q16_s_0 q16_s_1
    have HV16 := Lib.hid hV16
    have HC := Lib.hid (typ0 HSUB.out (by omega) (1 + (r7 : Int)) HK7.out (fun x hu => Nat.le_trans (HSM.out _ x hu) (by omega)))
    clear hV16 hbn16 hbv hr16 hb16 q15_b_0 q15_b_1
    go_wp2_with fail
    rw [← HV16.out]
    refine HC.out.mono ?_
    rintro e w17 ⟨k17, nm17, v17, A17, n17, c17, B17, m17, d17, rv17, rfl, hr17, hb17⟩
    obtain ⟨V17, hV17⟩ : ∃ V, V = w17.alloc (.cells #[.int .i64 k17, .string (ba nm17), .int .i64 v17, .slice A17 n17 c17, .slice B17 m17 d17, .int .i64 rv17] 28) := ⟨_, rfl⟩
    have hbn17 : Below w17.heap.size w17 V17 := by rw [hV17]; exact below_new w17 _
    have hbv : Below V16.heap.size V16 V17 := hb17.trans (hbn17.mono hb17.size)
    have HL_t := Lib.hid (HL_t.out.later hbv)
    have HL_r := Lib.hid (HL_r.out.later hbv)
    have HL_s := Lib.hid (HL_s.out.later hbv)
    have HL_a := Lib.hid (HL_a.out.later hbv)
    have HL_b := Lib.hid (HL_b.out.later hbv)
    have HL_x := Lib.hid (HL_x.out.later hbv)
    have HL_y := Lib.hid (HL_y.out.later hbv)
    have HL_u := Lib.hid (HL_u.out.later hbv)
    have HL_v := Lib.hid (HL_v.out.later hbv)
    have HL_p := Lib.hid (HL_p.out.later hbv)
    have HL_q := Lib.hid (HL_q.out.later hbv)
    have HSUB := Lib.hid (HSUB.out.later hbv)
    have HF_8 := Lib.hid (HF_8.out.later hbv)
    have HF_9 := Lib.hid (HF_9.out.later hbv)
    have HF_10 := Lib.hid (HF_10.out.later hbv)
    have HF_11 := Lib.hid (HF_11.out.later hbv)
    have HF_12 := Lib.hid (HF_12.out.later hbv)
    have HF_13 := Lib.hid (HF_13.out.later hbv)
    have HF_14 := Lib.hid (HF_14.out.later hbv)
    have HF_15 := Lib.hid (HF_15.out.later hbv)
    have HF_16 := Lib.hid (HF_16.out.later hbv)
    have HB := Lib.hid (HB.out.trans (hbv.mono HB.out.size))
    have HF_17 := Lib.hid (hr17.later hbn17)
    have q17_x_0 := HL_x.out.cell 0
    have q17_x_1 := HL_x.out.cell 1
    have q17_x_2 := HL_x.out.cell 2
    have q17_x_3 := HL_x.out.cell 3
    have q17_x_4 := HL_x.out.cell 4
    have q17_x_5 := HL_x.out.cell 5
    have q17_t_0 := HL_t.out.cell 0
    have q17_t_1 := HL_t.out.cell 1
    have q17_t_2 := HL_t.out.cell 2
    have q17_t_3 := HL_t.out.cell 3
    have q17_t_4 := HL_t.out.cell 4
    have q17_t_5 := HL_t.out.cell 5
    have q17_y_0 := HL_y.out.cell 0
    have q17_y_1 := HL_y.out.cell 1
    have q17_r_0 := HL_r.out.cell 0
    have q17_r_1 := HL_r.out.cell 1
    rw [hV17] at q17_x_0 q17_x_1 q17_x_2 q17_x_3 q17_x_4 q17_x_5 q17_t_0 q17_t_1 q17_t_2 q17_t_3 q17_t_4 q17_t_5 q17_y_0 q17_y_1 q17_r_0 q17_r_1
    have HV17 := Lib.hid hV17
    have HX10 := HF_10.out
    rw [setF_at] at HX10
    have HC := Lib.hid (same_any t V17 _ _ (by have := HT30.out; omega) HX10 (HT.out.later HB.out))
    clear HX10
    clear hV17 hbn17 hbv hr17 hb17 q16_s_0 q16_s_1
    go_wp2_with fail
    rw [← HV17.out]
    refine HC.out.mono ?_
    rintro e w18 ⟨rfl, hb18⟩
    have HL_t := Lib.hid (HL_t.out.later hb18)
    have HL_r := Lib.hid (HL_r.out.later hb18)
    have HL_s := Lib.hid (HL_s.out.later hb18)
    have HL_a := Lib.hid (HL_a.out.later hb18)
    have HL_b := Lib.hid (HL_b.out.later hb18)
    have HL_x := Lib.hid (HL_x.out.later hb18)
    have HL_y := Lib.hid (HL_y.out.later hb18)
    have HL_u := Lib.hid (HL_u.out.later hb18)
    have HL_v := Lib.hid (HL_v.out.later hb18)
    have HL_p := Lib.hid (HL_p.out.later hb18)
    have HL_q := Lib.hid (HL_q.out.later hb18)
    have HSUB := Lib.hid (HSUB.out.later hb18)
    have HF_8 := Lib.hid (HF_8.out.later hb18)
    have HF_9 := Lib.hid (HF_9.out.later hb18)
    have HF_10 := Lib.hid (HF_10.out.later hb18)
    have HF_11 := Lib.hid (HF_11.out.later hb18)
    have HF_12 := Lib.hid (HF_12.out.later hb18)
    have HF_13 := Lib.hid (HF_13.out.later hb18)
    have HF_14 := Lib.hid (HF_14.out.later hb18)
    have HF_15 := Lib.hid (HF_15.out.later hb18)
    have HF_16 := Lib.hid (HF_16.out.later hb18)
    have HF_17 := Lib.hid (HF_17.out.later hb18)
    have HB := Lib.hid (HB.out.trans (hb18.mono HB.out.size))
    have q18_y_0 := HL_y.out.cell 0
    have q18_y_1 := HL_y.out.cell 1
    have q18_r_0 := HL_r.out.cell 0
    have q18_r_1 := HL_r.out.cell 1
    have HX11 := HF_11.out
    rw [setF_at] at HX11
    have HC := Lib.hid (rsame0 HX11 (HRR.out.keep HB.out.block))
    clear HX11
    clear hb18 q17_x_0 q17_x_1 q17_x_2 q17_x_3 q17_x_4 q17_x_5 q17_t_0 q17_t_1 q17_t_2 q17_t_3 q17_t_4 q17_t_5 q17_y_0 q17_y_1 q17_r_0 q17_r_1
    go_wp2_with fail
    refine HC.out.mono ?_
    rintro e w19 ⟨rfl, hb19⟩
    have HL_t := Lib.hid (HL_t.out.later hb19)
    have HL_r := Lib.hid (HL_r.out.later hb19)
    have HL_s := Lib.hid (HL_s.out.later hb19)
    have HL_a := Lib.hid (HL_a.out.later hb19)
    have HL_b := Lib.hid (HL_b.out.later hb19)
    have HL_x := Lib.hid (HL_x.out.later hb19)
    have HL_y := Lib.hid (HL_y.out.later hb19)
    have HL_u := Lib.hid (HL_u.out.later hb19)
    have HL_v := Lib.hid (HL_v.out.later hb19)
    have HL_p := Lib.hid (HL_p.out.later hb19)
    have HL_q := Lib.hid (HL_q.out.later hb19)
    have HSUB := Lib.hid (HSUB.out.later hb19)
    have HF_8 := Lib.hid (HF_8.out.later hb19)
    have HF_9 := Lib.hid (HF_9.out.later hb19)
    have HF_10 := Lib.hid (HF_10.out.later hb19)
    have HF_11 := Lib.hid (HF_11.out.later hb19)
    have HF_12 := Lib.hid (HF_12.out.later hb19)
    have HF_13 := Lib.hid (HF_13.out.later hb19)
    have HF_14 := Lib.hid (HF_14.out.later hb19)
    have HF_15 := Lib.hid (HF_15.out.later hb19)
    have HF_16 := Lib.hid (HF_16.out.later hb19)
    have HF_17 := Lib.hid (HF_17.out.later hb19)
    have HB := Lib.hid (HB.out.trans (hb19.mono HB.out.size))
    have q19_u_0 := HL_u.out.cell 0
    have q19_u_1 := HL_u.out.cell 1
    have q19_u_2 := HL_u.out.cell 2
    have q19_u_3 := HL_u.out.cell 3
    have q19_u_4 := HL_u.out.cell 4
    have q19_u_5 := HL_u.out.cell 5
    have q19_v_0 := HL_v.out.cell 0
    have q19_v_1 := HL_v.out.cell 1
    have q19_v_2 := HL_v.out.cell 2
    have q19_v_3 := HL_v.out.cell 3
    have q19_v_4 := HL_v.out.cell 4
    have q19_v_5 := HL_v.out.cell 5
    clear hb19 q18_y_0 q18_y_1 q18_r_0 q18_r_1
    by_cases hnk : r7 = r8
    · subst hnk
      go_wp2_with fail
      go_ret
      exact ⟨rfl, HB.out⟩
    have hne : ¬ (1 + (r7 : Int) = 1 + (r8 : Int)) := by omega
    have HX12 := HF_12.out
    have HX14 := HF_14.out
    rw [setF_ne _ _ _ _ (Ne.symm hne)] at HX12 HX14
    rw [setF_ne _ _ _ _ (Ne.symm hne), setF_ne _ _ _ _ (Ne.symm hne)]
    have HC := Lib.hid (same_any _ w19 _ _ (by cases hT : T (1 + (r8 : Int)) with | none => simp [zTy, Ty.size, Ty.sizeL] | some u => exact Nat.le_trans (HSM.out _ u hT) (by omega)) HX12 HF_13.out)
    have HX14 := Lib.hid HX14
    clear HX12
    go_wp2_with fail
    refine HC.out.mono ?_
    rintro e w20 ⟨rfl, hb20⟩
    have HL_t := Lib.hid (HL_t.out.later hb20)
    have HL_r := Lib.hid (HL_r.out.later hb20)
    have HL_s := Lib.hid (HL_s.out.later hb20)
    have HL_a := Lib.hid (HL_a.out.later hb20)
    have HL_b := Lib.hid (HL_b.out.later hb20)
    have HL_x := Lib.hid (HL_x.out.later hb20)
    have HL_y := Lib.hid (HL_y.out.later hb20)
    have HL_u := Lib.hid (HL_u.out.later hb20)
    have HL_v := Lib.hid (HL_v.out.later hb20)
    have HL_p := Lib.hid (HL_p.out.later hb20)
    have HL_q := Lib.hid (HL_q.out.later hb20)
    have HSUB := Lib.hid (HSUB.out.later hb20)
    have HF_8 := Lib.hid (HF_8.out.later hb20)
    have HF_9 := Lib.hid (HF_9.out.later hb20)
    have HF_10 := Lib.hid (HF_10.out.later hb20)
    have HF_11 := Lib.hid (HF_11.out.later hb20)
    have HF_12 := Lib.hid (HF_12.out.later hb20)
    have HF_13 := Lib.hid (HF_13.out.later hb20)
    have HF_14 := Lib.hid (HF_14.out.later hb20)
    have HF_15 := Lib.hid (HF_15.out.later hb20)
    have HF_16 := Lib.hid (HF_16.out.later hb20)
    have HF_17 := Lib.hid (HF_17.out.later hb20)
    have HX14 := Lib.hid (HX14.out.later hb20)
    have HB := Lib.hid (HB.out.trans (hb20.mono HB.out.size))
    have q20_p_0 := HL_p.out.cell 0
    have q20_p_1 := HL_p.out.cell 1
    have q20_q_0 := HL_q.out.cell 0
    have q20_q_1 := HL_q.out.cell 1
    have HC := Lib.hid (rsame0 HX14.out HF_15.out)
    clear hb20 q19_u_0 q19_u_1 q19_u_2 q19_u_3 q19_u_4 q19_u_5 q19_v_0 q19_v_1 q19_v_2 q19_v_3 q19_v_4 q19_v_5
    go_wp2_with fail
    refine HC.out.mono ?_
    rintro e w21 ⟨rfl, hb21⟩
    have HB := Lib.hid (HB.out.trans (hb21.mono HB.out.size))
    clear hb21
    go_wp2_with fail
    go_ret
    exact ⟨rfl, HB.out⟩
end Go.Proofs.Ytljcgbgipfflmaa
