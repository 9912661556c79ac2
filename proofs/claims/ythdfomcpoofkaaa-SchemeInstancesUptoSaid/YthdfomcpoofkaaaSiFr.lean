/- Package scheme: Fresh. -/
import Derived.Test.YthdfomcpoofkaaaMg24
import Derived.Test.YthdfomcpoofkaaaMg40
import Derived.Test.YthdfomcpoofkaaaMg33
import Derived.Test.YthdfomcpoofkaaaMg13
import Derived.Outline
namespace Go.Proofs.Ythdfomcpoofkaaa.Si
open Go.RowKit

theorem onceL_snoc (l : List Int) (a : Int) : onceL (l ++ [a]) = if a ∈ onceL l then onceL l else onceL l ++ [a] := by
  unfold onceL
  rw [List.foldl_append]
  rfl
theorem once_fold : ∀ (r l : List Int), (l ++ r).Nodup → r.foldl (fun l n => if n ∈ l then l else l ++ [n]) l = l ++ r
  | [], l, _ => by simp
  | a :: r, l, h => by
    have hn : a ∉ l := fun hm => by
      rw [List.nodup_append] at h
      exact h.2.2 a hm a (List.mem_cons_self ..) rfl
    rw [List.foldl_cons, if_neg hn, once_fold r (l ++ [a]) (by simpa using h)]
    simp
theorem onceL_of (l : List Int) (h : l.Nodup) : onceL l = l := by
  have := once_fold l [] (by simpa using h)
  simpa [onceL] using this
theorem zero_row (w : World) (n : Int) (hn : i64ok n) : RwV w ([], n) [.slice none 0 0, .int .i64 n] := ⟨_, rfl, ⟨.inl ⟨rfl, rfl⟩, by simp⟩, hn⟩
/-- A substitution that is a variable of the call's own. -/
theorem sub_turn {P : Nat} {wo w4 w5 : World} {m : Nat} {T : Int → Option Ty} {Q : Int → Option (List Str × Int)} {sv : Value} (hsv : ∀ wf, Kept (fun b => b = P ∧ b < wo.heap.size) w4 wf → SubV wf sv m T Q) (hs : w5.heap.size = w4.heap.size) (hoth : ∀ g, g ≠ P → w5.heap[g]? = w4.heap[g]?) (hP : P < wo.heap.size) : SubV (blank (fun b => b = P) w5) sv m T Q :=
  hsv _ ⟨by rw [blank_size, hs]; exact Nat.le_refl _, fun b _ hn => (blank_at (X := fun b => b = P) (fun e => hn ⟨e, by rw [e]; exact hP⟩)).trans (hoth b fun e => hn ⟨e, by rw [e]; exact hP⟩)⟩
theorem own_blk0 {w : World} {B n : Nat} {e : TypeId} {sz : Nat} {g o n' c : Nat} {xs : List Value} (h : w.ownsRow B e sz (.slice (some ⟨g, o, none⟩) n' c) n xs) : B ≤ g := by
  rcases h.2 with ⟨h, _⟩ | ⟨g', cap, cur, h, hg, _⟩
  · cases h
  · injection h with h
    injection h with h
    injection h with h
    omega
set_option maxRecDepth 100000 in
set_option maxHeartbeats 16000000 in
theorem fresh_any (w : World) (v1 v2 : Value) (A R : List Int) (nx : Int) (hA : A.Nodup) (hR : R.Nodup) (hlen : A.length + R.length ≤ 900) (hx0 : 0 ≤ nx) (hx1 : nx ≤ 1000000) (t : Ty) (l : List Value) (h1 : IntR w v1 A) (h2 : IntR w v2 R) (ht : TRV w t l)
    (hrf : Ri.rowsFree ⟨frT A nx T0, frR R (nx + A.length) R0⟩ t) (hp : pcsT (frT A nx T0) t ≤ 1000) :
    Calls Try.prog 26 #[schemeV v1 v2 l, .int .i64 nx] w fun e w' => ∃ l', e = .returned (.tuple #[.agg l'.toArray, .int .i64 (nx + A.length + R.length)]) ∧ (∀ w'', Kept (fun b => b < w.heap.size + 2) w' w'' → TFV w'' (Ri.apT ⟨frT A nx T0, frR R (nx + A.length) R0⟩ t) l' ∧ Tree1 (w.heap.size + 2) l' w'') ∧ Below w.heap.size w w' := by
  obtain ⟨A1, c1, rfl⟩ := h1.one
  obtain ⟨A2, c2, rfl⟩ := h2.one
  have ht0 := ht
  obtain ⟨k, nm, v, kids, ls, rv⟩ := t
  obtain ⟨A3, n3, c3, A4, n4, c4, rfl⟩ := ht.shape
  generalize hT : Ty.mk k nm v kids ls rv = t at *
  unfold schemeV
  unfold tyC at ht0 ⊢
  obtain ⟨nA, hnA⟩ : ∃ n, n = A.length := ⟨_, rfl⟩
  obtain ⟨nR, hnR⟩ : ∃ n, n = R.length := ⟨_, rfl⟩
  rw [← hnA] at h1
  rw [← hnR] at h2
  rw [← hnA, ← hnR] at hlen
  rw [← hnA, ← hnR]
  obtain ⟨TT, hTT⟩ : ∃ TT, TT = frT A nx T0 := ⟨_, rfl⟩
  obtain ⟨QQ, hQQ⟩ : ∃ QQ, QQ = frR R (nx + nA) R0 := ⟨_, rfl⟩
  rw [← hnA] at hrf
  rw [← hTT, ← hQQ] at hrf ⊢
  rw [← hTT] at hp
  obtain ⟨W, hW⟩ : ∃ W, W = (w.alloc (.cells #[.slice A1 nA c1, .slice A2 nR c2, .int .i64 k, .string (ba nm), .int .i64 v, .slice A3 n3 c3, .slice A4 n4 c4, .int .i64 rv] 62)).alloc (.cells zeroT 28) := ⟨_, rfl⟩
  have hb : Below w.heap.size w W := by rw [hW]; exact ((Below.refl _ w).alloc (Nat.le_refl _) _).alloc (by simp) _
  have k0 : Lies W w.heap.size 62 #[.slice A1 nA c1, .slice A2 nR c2, .int .i64 k, .string (ba nm), .int .i64 v, .slice A3 n3 c3, .slice A4 n4 c4, .int .i64 rv] := by rw [hW]; exact (Lies.new _ _ _).alloc _
  have k4 : Lies W (w.heap.size + 1) 28 zeroT := by rw [hW]; exact Lies.new' _ _ _ (by simp)
  have hsW : W.heap.size = w.heap.size + 2 := by rw [hW]; simp
  have hn := none_any W
  unfold noneV at hn
  have HN := Lib.hid hn
  have HW := Lib.hid hW
  have HB := Lib.hid hb
  have HK0 := Lib.hid k0
  have HK4 := Lib.hid k4
  have HSW := Lib.hid hsW
  have H1 := Lib.hid h1
  have H2 := Lib.hid h2
  have HT := Lib.hid ht0
  have HP := Lib.hid (And.intro hrf hp)
  have HTT := Lib.hid hTT
  have HQQ := Lib.hid hQQ
  have HND := Lib.hid (And.intro hA hR)
  have HNA := Lib.hid hnA
  have HNR := Lib.hid hnR
  unfold zeroT at HW
  clear hn hW hb k0 k4 h1 h2 ht ht0 hT hsW hp hrf hTT hQQ hA hR hnA hnR
  go_enter Try.func26, Try.ntmps26
  go_wp2_with fail
  rw [← HW.out]
  refine HN.out.mono ?_
  rintro e w1 ⟨rfl, hb1⟩
  have hB1 := HB.out.trans (hb1.mono HB.out.size)
  obtain ⟨X, hX⟩ : ∃ X, X = w1.alloc (.cells #[.slice none 0 0, .slice none 0 0] 38) := ⟨_, rfl⟩
  have hbX : Below W.heap.size W X := by rw [hX]; exact hb1.trans ((below_new w1 _).mono hb1.size)
  have l6 : Lies X w1.heap.size 38 #[.slice none 0 0, .slice none 0 0] := by rw [hX]; exact Lies.new _ _ _
  have qX := (HK0.out.later hbX).cell 0
  rw [hX] at qX
  have hw1 := hb1.size
  have hsW := HSW.out
  have ho := once_any X A _ (H1.out.later (HB.out.trans (hbX.mono HB.out.size))) (by have := HNA.out; omega)
  rw [onceL_of A HND.out.1] at ho
  have HX := Lib.hid hX
  have HBX := Lib.hid hbX
  have HL6 := Lib.hid l6
  have HO := Lib.hid ho
  clear hX hbX l6 ho hb1 hB1
  have HOKA := Lib.hid (show ∀ n ∈ A, i64ok n from fun n hn => by
    obtain ⟨i, hi⟩ := List.getElem?_of_mem hn
    obtain ⟨_, _, _, _, _, h⟩ := H1.out
    exact (h i n hi).1)
  have HOKR := Lib.hid (show ∀ n ∈ R, i64ok n from fun n hn => by
    obtain ⟨i, hi⟩ := List.getElem?_of_mem hn
    obtain ⟨_, _, _, _, _, h⟩ := H2.out
    exact (h i n hi).1)
  go_wp2_with fail
  rw [← HX.out]
  refine HO.out.mono ?_
  rintro e w2 ⟨v2', rfl, ho2, hb2⟩
  obtain ⟨A5, c5, rfl, hc5, _, h5⟩ := IntR.of_own ho2 HOKA.out
  have hX2 : Below W.heap.size W w2 := HBX.out.trans (hb2.mono HBX.out.size)
  have l2 := HL6.out.later hb2
  have hg5 : ∀ (i : Nat) n, A[i]? = some n → i64ok n ∧ ∃ g o, A5 = some ⟨g, o, none⟩ ∧ w2.cell? ⟨g, o + i, none⟩ = some (.int .i64 n) ∧ g ≠ w1.heap.size := fun i n hi => by
    obtain ⟨a, g, o, rfl, b⟩ := h5 i n hi
    refine ⟨a, g, o, rfl, b, fun e => ?_⟩
    have h0 := own_blk0 ho2
    have h1 := HL6.out.lt
    omega
  rw [← HNA.out] at hc5 ⊢
  have HG5 := Lib.hid hg5
  have HX2 := Lib.hid hX2
  have HL2 := Lib.hid l2
  clear hX2 l2 hb2 ho2 h5 hg5
  go_wp2_with fail
  go_loopw [1, 16] (fun nn i wr => ∃ (j : Nat) (C1 : Option Addr) (m1 d1 : Nat) (C2 : Option Addr) (m2 d2 : Nat), j ≤ nA ∧ i = .int .i64 j ∧ nn = .int .i64 (nx + j) ∧ Lies wr w1.heap.size 38 #[.slice C1 m1 d1, .slice C2 m2 d2] ∧ SubV (blank (fun b => b = w1.heap.size) wr) (.agg #[.slice C1 m1 d1, .slice C2 m2 d2]) j (frT (A.take j) nx T0) R0 ∧ Below W.heap.size W wr ∧ w2.heap.size ≤ wr.heap.size ∧ ∀ g, g < w2.heap.size → g ≠ w1.heap.size → wr.heap[g]? = w2.heap[g]?) (fun _ i _ => nA - (intOf i).toNat)
  case atStart => exact ⟨0, none, 0, 0, none, 0, 0, Nat.zero_le _, rfl, by simp, HL2.out, SubV.none _ _, HX2.out, Nat.le_refl _, fun _ _ _ => rfl⟩
  case round =>
    obtain ⟨j, C1, m1, d1, C2, m2, d2, hj, rfl, rfl, hl, hsv, hBr, hsz, hkp⟩ := hrel
    obtain ⟨wo, rfl⟩ : ∃ wo, wo = wr := ⟨_, rfl⟩
    by_cases hlt : j < nA
    · obtain ⟨x, hx⟩ : ∃ x, A[j]? = some x := ⟨_, List.getElem?_eq_getElem (by have := HNA.out; omega)⟩
      obtain ⟨hok, g5, o5, rfl, x5, hgP⟩ := HG5.out j x hx
      have xr : wo.cell? ⟨g5, o5 + j, none⟩ = some (.int .i64 x) := (World.cell?_of_block (w := w2) (a := ⟨g5, o5 + j, none⟩) (hkp g5 (World.block_lt_of_cell? w2 _ x5) hgP)).trans x5
      have hlti : (j : Int) < (nA : Int) := by omega
      have hjc : j < c5 := by omega
      have y0 := hl.cell 0
      have y1 := hl.cell 1
      have hst := setType_any (fun b => b = w1.heap.size) wo _ j _ R0 hsv (by omega) x hok (tvT8 (nx + j)) _ (leaf_tfv wo 7 (nx + j) (i64s 7 (by omega) (by omega)) (i64s (nx + j) (by omega) (by omega))).trv (by simp [tvT8, Ty.size, Ty.sizeL])
      have HSN := Lib.hid (show frT (A.take (j + 1)) nx T0 = setF (frT (A.take j) nx T0) x (tvT8 (nx + j)) by
        rw [take_step A j x hx, frT_snoc, List.length_take, Nat.min_eq_left (by have := HNA.out; omega)])
      have HST := Lib.hid hst
      have HLo := Lib.hid hl
      have HBr := Lib.hid hBr
      have HKP := Lib.hid (And.intro hsz hkp)
      clear hst hl hBr hsv hsz hkp x5 hx hok
      go_wp2_with fail
      refine HST.out.mono ?_
      rintro e w4 ⟨sv, rfl, hsv, hb4⟩
      obtain ⟨D1, q1, f1', D2, q2, f2', rfl⟩ : ∃ B1 m1 d1 B2 m2 d2, sv = .agg #[.slice B1 m1 d1, .slice B2 m2 d2] := by
        obtain ⟨vt, vr, _, _, h1, h2, h3, _⟩ := hsv w4 ⟨Nat.le_refl _, fun _ _ _ => rfl⟩
        obtain ⟨a1, a2, a3, rfl⟩ := h2.one
        obtain ⟨a4, a5, a6, rfl⟩ := h3.one
        exact ⟨_, _, _, _, _, _, h1⟩
      have l4 := HLo.out.later hb4
      have f0 := l4.free 0
      have f1 := l4.free 1
      have y0 := l4.cell 0
      have y1 := l4.cell 1
      have HSV := Lib.hid hsv
      have HB4 := Lib.hid hb4
      have HL4 := Lib.hid l4
      clear hsv hb4 l4
      go_wp2_with fail
      obtain ⟨w5, hw5⟩ : ∃ w5, w5 = (w4.setCell ⟨w1.heap.size, 0, none⟩ (.slice D1 q1 f1')).setCell ⟨w1.heap.size, 1, none⟩ (.slice D2 q2 f2') := ⟨_, rfl⟩
      have hoth : ∀ g, g ≠ w1.heap.size → w5.heap[g]? = w4.heap[g]? := fun g hg => by rw [hw5]; exact (Below.heap_setCell _ ⟨w1.heap.size, 1, none⟩ _ g hg).trans (Below.heap_setCell _ ⟨w1.heap.size, 0, none⟩ _ g hg)
      have hs5 : w5.heap.size = w4.heap.size := by rw [hw5]; simp [World.size_setCell]
      have hl5 : Lies w5 w1.heap.size 38 #[.slice D1 q1 f1', .slice D2 q2 f2'] := by rw [hw5]; exact (HL4.out.set 0 _).set 1 _
      have hb5 : Below W.heap.size W w5 := (HBr.out.trans (HB4.out.mono HBr.out.size)).trans (by rw [hw5]; exact ((Below.refl W.heap.size w4).setCell (p := ⟨w1.heap.size, 0, none⟩) (by show W.heap.size ≤ w1.heap.size; exact hw1) _).setCell (p := ⟨w1.heap.size, 1, none⟩) (by show W.heap.size ≤ w1.heap.size; exact hw1) _)
      have hsv5 := sub_turn HSV.out hs5 hoth HLo.out.lt
      have hk5 : ∀ g, g < w2.heap.size → g ≠ w1.heap.size → w5.heap[g]? = w2.heap[g]? := fun g h1 h2 => (hoth g h2).trans ((HB4.out.block g (by have := HKP.out.1; omega)).trans (HKP.out.2 g h1 h2))
      have hz5 : w2.heap.size ≤ w5.heap.size := by have h1 := HKP.out.1; have h2 := HB4.out.size; omega
      rw [← hw5]
      clear hw5
      go_roundw
      case rel => exact ⟨j + 1, D1, q1, f1', D2, q2, f2', by omega, by simp, by simp; omega, hl5, by rw [HSN.out]; exact hsv5, hb5, hz5, hk5⟩
      case measure => (simp [intOf] <;> omega)
    · obtain rfl : j = nA := by omega
      rw [HNA.out, List.take_length, ← HNA.out, ← HTT.out] at hsv
      have r1 := (HK0.out.later hBr).cell 1
      have hwo := HB.out.trans (hBr.mono HB.out.size)
      have ho3 := once_any wo R _ (H2.out.later hwo) (by have := HNR.out; omega)
      rw [onceL_of R HND.out.2] at ho3
      have HO3 := Lib.hid ho3
      have HBr := Lib.hid hBr
      have HSVo := Lib.hid hsv
      have HLo := Lib.hid hl
      clear ho3 hBr hsv hl hwo hsz hkp hlt
      go_wp2_with fail
      refine HO3.out.mono ?_
      rintro e w6 ⟨v6, rfl, ho6, hb6⟩
      obtain ⟨A6, c6, rfl, hc6, _, h6⟩ := IntR.of_own ho6 HOKR.out
      have hg6 : ∀ (i : Nat) n, R[i]? = some n → i64ok n ∧ ∃ g o, A6 = some ⟨g, o, none⟩ ∧ w6.cell? ⟨g, o + i, none⟩ = some (.int .i64 n) ∧ g ≠ w1.heap.size := fun i n hi => by
        obtain ⟨a, g, o, rfl, b⟩ := h6 i n hi
        refine ⟨a, g, o, rfl, b, fun e => ?_⟩
        have h0 := own_blk0 ho6
        have h1 := HLo.out.lt
        omega
      rw [← HNR.out] at hc6 ⊢
      have hBr6 := HBr.out.trans (hb6.mono HBr.out.size)
      have l6 := HLo.out.later hb6
      have hsv6 := HSVo.out.keepL (blank_blank (Y := fun _ => False) (Kept.of_below hb6) (fun _ _ h => h.elim))
      have HG6 := Lib.hid hg6
      have HBr6 := Lib.hid hBr6
      have HL6' := Lib.hid l6
      have HSV6 := Lib.hid hsv6
      clear ho6 hb6 hBr6 l6 hsv6 hg6 h6 r1
      go_wp2_with fail
      go_loopw [1, 32] (fun nn i wr => ∃ (q : Nat) (C1 : Option Addr) (m1 d1 : Nat) (C2 : Option Addr) (m2 d2 : Nat), q ≤ nR ∧ i = .int .i64 q ∧ nn = .int .i64 (nx + j + q) ∧ Lies wr w1.heap.size 38 #[.slice C1 m1 d1, .slice C2 m2 d2] ∧ SubV (blank (fun b => b = w1.heap.size) wr) (.agg #[.slice C1 m1 d1, .slice C2 m2 d2]) (j + q) TT (frR (R.take q) (nx + j) R0) ∧ Below W.heap.size W wr ∧ w6.heap.size ≤ wr.heap.size ∧ ∀ g, g < w6.heap.size → g ≠ w1.heap.size → wr.heap[g]? = w6.heap[g]?) (fun _ i _ => nR - (intOf i).toNat)
      case atStart => exact ⟨0, C1, m1, d1, C2, m2, d2, Nat.zero_le _, rfl, by simp, HL6'.out, HSV6.out, HBr6.out, Nat.le_refl _, fun _ _ _ => rfl⟩
      case round =>
        obtain ⟨q, C1, m1, d1, C2, m2, d2, hq, rfl, rfl, hl, hsv, hBr, hsz, hkp⟩ := hrel
        obtain ⟨wp, rfl⟩ : ∃ wp, wp = wr := ⟨_, rfl⟩
        by_cases hlt : q < nR
        · obtain ⟨x, hx⟩ : ∃ x, R[q]? = some x := ⟨_, List.getElem?_eq_getElem (by have := HNR.out; omega)⟩
          obtain ⟨hok, g5, o5, rfl, x5, hgP⟩ := HG6.out q x hx
          have xr : wp.cell? ⟨g5, o5 + q, none⟩ = some (.int .i64 x) := (World.cell?_of_block (w := w6) (a := ⟨g5, o5 + q, none⟩) (hkp g5 (World.block_lt_of_cell? w6 _ x5) hgP)).trans x5
          have hlti : (q : Int) < (nR : Int) := by omega
          have hjc : q < c6 := by omega
          have y0 := hl.cell 0
          have y1 := hl.cell 1
          have hst := setRow_any (fun b => b = w1.heap.size) wp _ (j + q) TT _ hsv (by omega) x hok [] (nx + j + q) _ (zero_row wp (nx + j + q) (i64s (nx + j + q) (by omega) (by omega)))
          have HSN := Lib.hid (show frR (R.take (q + 1)) (nx + j) R0 = setF (frR (R.take q) (nx + j) R0) x ([], nx + j + q) by
            rw [take_step R q x hx, frR_snoc, List.length_take, Nat.min_eq_left (by have := HNR.out; omega)])
          have HST := Lib.hid hst
          have HLo2 := Lib.hid hl
          have HBr := Lib.hid hBr
          have HKP := Lib.hid (And.intro hsz hkp)
          clear hst hl hBr hsv hsz hkp x5 hx hok
          go_wp2_with fail
          refine HST.out.mono ?_
          rintro e w4 ⟨sv, rfl, hsv, hb4⟩
          obtain ⟨D1, q1, f1', D2, q2, f2', rfl⟩ : ∃ B1 m1 d1 B2 m2 d2, sv = .agg #[.slice B1 m1 d1, .slice B2 m2 d2] := by
            obtain ⟨vt, vr, _, _, h1, h2, h3, _⟩ := hsv w4 ⟨Nat.le_refl _, fun _ _ _ => rfl⟩
            obtain ⟨a1, a2, a3, rfl⟩ := h2.one
            obtain ⟨a4, a5, a6, rfl⟩ := h3.one
            exact ⟨_, _, _, _, _, _, h1⟩
          have l4 := HLo2.out.later hb4
          have f0 := l4.free 0
          have f1 := l4.free 1
          have y0 := l4.cell 0
          have y1 := l4.cell 1
          have HSV := Lib.hid hsv
          have HB4 := Lib.hid hb4
          have HL4 := Lib.hid l4
          clear hsv hb4 l4
          go_wp2_with fail
          obtain ⟨w5, hw5⟩ : ∃ w5, w5 = (w4.setCell ⟨w1.heap.size, 0, none⟩ (.slice D1 q1 f1')).setCell ⟨w1.heap.size, 1, none⟩ (.slice D2 q2 f2') := ⟨_, rfl⟩
          have hoth : ∀ g, g ≠ w1.heap.size → w5.heap[g]? = w4.heap[g]? := fun g hg => by rw [hw5]; exact (Below.heap_setCell _ ⟨w1.heap.size, 1, none⟩ _ g hg).trans (Below.heap_setCell _ ⟨w1.heap.size, 0, none⟩ _ g hg)
          have hs5 : w5.heap.size = w4.heap.size := by rw [hw5]; simp [World.size_setCell]
          have hl5 : Lies w5 w1.heap.size 38 #[.slice D1 q1 f1', .slice D2 q2 f2'] := by rw [hw5]; exact (HL4.out.set 0 _).set 1 _
          have hb5 : Below W.heap.size W w5 := (HBr.out.trans (HB4.out.mono HBr.out.size)).trans (by rw [hw5]; exact ((Below.refl W.heap.size w4).setCell (p := ⟨w1.heap.size, 0, none⟩) (by show W.heap.size ≤ w1.heap.size; exact hw1) _).setCell (p := ⟨w1.heap.size, 1, none⟩) (by show W.heap.size ≤ w1.heap.size; exact hw1) _)
          have hsv5 := sub_turn HSV.out hs5 hoth HLo2.out.lt
          have hk5 : ∀ g, g < w6.heap.size → g ≠ w1.heap.size → w5.heap[g]? = w6.heap[g]? := fun g h1 h2 => (hoth g h2).trans ((HB4.out.block g (by have := HKP.out.1; omega)).trans (HKP.out.2 g h1 h2))
          have hz5 : w6.heap.size ≤ w5.heap.size := by have h1 := HKP.out.1; have h2 := HB4.out.size; omega
          rw [← hw5]
          clear hw5
          go_roundw
          case rel => exact ⟨q + 1, D1, q1, f1', D2, q2, f2', by omega, by simp, by simp; omega, hl5, by rw [HSN.out]; exact hsv5, hb5, hz5, hk5⟩
          case measure => (simp [intOf] <;> omega)
        · obtain rfl : q = nR := by omega
          rw [HNR.out, List.take_length, ← HNR.out, ← HQQ.out] at hsv
          have l6 := hl
          have y0 := l6.cell 0
          have y1 := l6.cell 1
          have m2' := HK0.out.later hBr
          have z2 := m2'.cell 2
          have z3 := m2'.cell 3
          have z4 := m2'.cell 4
          have z5 := m2'.cell 5
          have z6 := m2'.cell 6
          have z7 := m2'.cell 7
          have hw6 := HB.out.trans (hBr.mono HB.out.size)
          have hsv0 : SubV wp _ _ TT QQ := hsv.keepL (blank_to (Y := fun _ => False) (Kept.of_below (Below.refl _ _)) (fun _ _ h => h.elim))
          have hap := Ri.apply_anyJ wp _ (j + q) ⟨TT, QQ⟩ hsv0 (by omega) t _ (HT.out.keep hw6.block) HP.out.1 HP.out.2
          have m4 := HK4.out.later hBr
          have HAP := Lib.hid hap
          have HM4 := Lib.hid m4
          have HW6 := Lib.hid hw6
          have HBR6 := Lib.hid hBr
          clear hap m4 l6 m2' hw6 hsv hsv0 hBr hl hkp hsz
          go_wp2_with fail
          refine HAP.out.mono ?_
          rintro e w7 ⟨l7, rfl, htf, hb7⟩
          have htf7 := htf w7 ⟨Nat.le_refl _, fun _ _ _ => rfl⟩
          obtain ⟨k7, nm7, v7, A7, n7, c7, B7, m7, d7, rv7, rfl⟩ := htf7.1.trv.shp
          unfold tyC at htf ⊢
          have m47 := HM4.out.later hb7
          unfold zeroT at m47
          have f0 := m47.free 0
          have f1 := m47.free 1
          have f2 := m47.free 2
          have f3 := m47.free 3
          have f4 := m47.free 4
          have f5 := m47.free 5
          have g0 := m47.cell 0
          have g1 := m47.cell 1
          have g2 := m47.cell 2
          have g3 := m47.cell 3
          have g4 := m47.cell 4
          have g5' := m47.cell 5
          have HTF := Lib.hid htf
          have HB7 := Lib.hid hb7
          have HM47 := Lib.hid m47
          clear htf hb7 m47 htf7 y0 y1 z2 z3 z4 z5 z6 z7
          go_wp2_with fail
          have hz := (((((HM47.out.set 0 (.int .i64 k7)).set 1 (.string (ba nm7))).set 2 (.int .i64 v7)).set 3 (.slice A7 n7 c7)).set 4 (.slice B7 m7 d7)).set 5 (.int .i64 rv7)
          obtain ⟨Z, hZ⟩ : ∃ Z, Z = (((((w7.setCell ⟨w.heap.size + 1, 0, none⟩ (.int .i64 k7)).setCell ⟨w.heap.size + 1, 1, none⟩ (.string (ba nm7))).setCell ⟨w.heap.size + 1, 2, none⟩ (.int .i64 v7)).setCell ⟨w.heap.size + 1, 3, none⟩ (.slice A7 n7 c7)).setCell ⟨w.heap.size + 1, 4, none⟩ (.slice B7 m7 d7)).setCell ⟨w.heap.size + 1, 5, none⟩ (.int .i64 rv7) := ⟨_, rfl⟩
          have hoz : ∀ g, g ≠ w.heap.size + 1 → Z.heap[g]? = w7.heap[g]? := fun g hg => by rw [hZ]; exact (Below.heap_setCell _ ⟨w.heap.size + 1, 5, none⟩ _ g hg).trans ((Below.heap_setCell _ ⟨w.heap.size + 1, 4, none⟩ _ g hg).trans ((Below.heap_setCell _ ⟨w.heap.size + 1, 3, none⟩ _ g hg).trans ((Below.heap_setCell _ ⟨w.heap.size + 1, 2, none⟩ _ g hg).trans ((Below.heap_setCell _ ⟨w.heap.size + 1, 1, none⟩ _ g hg).trans (Below.heap_setCell _ ⟨w.heap.size + 1, 0, none⟩ _ g hg)))))
          have hsz : Z.heap.size = w7.heap.size := by rw [hZ]; simp [World.size_setCell]
          have hbz : Below w.heap.size w7 Z := by rw [hZ]; exact (((((((Below.refl (w.heap.size + 1) w7).setCell (p := ⟨w.heap.size + 1, 0, none⟩) (Nat.le_refl _) _).setCell (p := ⟨w.heap.size + 1, 1, none⟩) (Nat.le_refl _) _).setCell (p := ⟨w.heap.size + 1, 2, none⟩) (Nat.le_refl _) _).setCell (p := ⟨w.heap.size + 1, 3, none⟩) (Nat.le_refl _) _).setCell (p := ⟨w.heap.size + 1, 4, none⟩) (Nat.le_refl _) _).setCell (p := ⟨w.heap.size + 1, 5, none⟩) (Nat.le_refl _) _).mono (Nat.le_succ _)
          rw [← hZ] at hz ⊢
          refine bodyPost_ret (Sb.results_ct rfl _ _ (w.heap.size + 1) 28 _ (0, 0) _ rfl hz Try.underlying28 rfl (by kernel_rfl) rfl) rfl ?_
          have hw67 := HB7.out.size
          have hw6s := HBR6.out.size
          refine ⟨_, rfl, fun w'' hk => And.imp id (fun h => Tree1.mono h (by omega)) (HTF.out w'' ⟨by have := hk.1; omega, fun b hb hn => (hk.2 b (by omega) (fun e => hn ?_)).trans (hoz b (fun e => hn ?_))⟩), HW6.out.trans ((HB7.out.mono HW6.out.size).trans hbz)⟩
          · have e' : b < w.heap.size + 2 := e
            show b < _ + 3
            omega
          · show b < _ + 3
            omega
end Go.Proofs.Ythdfomcpoofkaaa.Si
