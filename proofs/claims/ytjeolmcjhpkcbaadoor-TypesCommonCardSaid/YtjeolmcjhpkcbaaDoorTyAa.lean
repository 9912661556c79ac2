/- The text of a function. -/
import Derived.Test.YtjeolmcjhpkcbaaDoorTyZ
import Derived.Outline
namespace Go.Proofs.YtjeolmcjhpkcbaaDoor
open Go.RowKit Go.Shelf

theorem tv_slices {w : World} {k : Int} {nm : Str} {v : Int} {kids : List Ty} {ls : List Str} {rv : Int} {k' : Int} {nm' : Str} {v' : Int} {kv lv : Value} {rv' : Int} (h : TV w (.mk k nm v kids ls rv) (tyC k' nm' v' kv lv rv')) : (∃ A n q, kv = .slice A n q) ∧ (∃ A n q, lv = .slice A n q) := by
  obtain ⟨kv9, lv9, h9, ⟨A3, q3, h8, _⟩, hs9, _⟩ := h
  obtain ⟨A4, q4, h7, _⟩ := hs9.slice
  have e3 := congrArg (fun l => l[3]?) h9
  have e4 := congrArg (fun l => l[4]?) h9
  simp only [tyC] at e3 e4
  injection (show some kv = some kv9 from e3) with e3
  injection (show some lv = some lv9 from e4) with e4
  exact ⟨⟨_, _, _, e3.trans h8⟩, ⟨_, _, _, e4.trans h7⟩⟩
theorem keep15 {w w' : World} {B g o : Nat} {kv lv kv1 lv1 kv2 lv2 : Value} {rv k1 v1 r1 k2 v2 r2 : Int} {m1 m2 : Str} (h : w.cell? ⟨B, 3, none⟩ = some kv ∧ w.cell? ⟨B, 4, none⟩ = some lv ∧ w.cell? ⟨B, 5, none⟩ = some (.int .i64 rv) ∧ w.cell? ⟨g, o, none⟩ = some (.int .i64 k1) ∧ w.cell? ⟨g, o + 1, none⟩ = some (.string (ba m1)) ∧ w.cell? ⟨g, o + 2, none⟩ = some (.int .i64 v1) ∧ w.cell? ⟨g, o + 3, none⟩ = some kv1 ∧ w.cell? ⟨g, o + 4, none⟩ = some lv1 ∧ w.cell? ⟨g, o + 5, none⟩ = some (.int .i64 r1) ∧ w.cell? ⟨g, o + 6, none⟩ = some (.int .i64 k2) ∧ w.cell? ⟨g, o + 6 + 1, none⟩ = some (.string (ba m2)) ∧ w.cell? ⟨g, o + 6 + 2, none⟩ = some (.int .i64 v2) ∧ w.cell? ⟨g, o + 6 + 3, none⟩ = some kv2 ∧ w.cell? ⟨g, o + 6 + 4, none⟩ = some lv2 ∧ w.cell? ⟨g, o + 6 + 5, none⟩ = some (.int .i64 r2)) (hb : Below w.heap.size w w') : w'.cell? ⟨B, 3, none⟩ = some kv ∧ w'.cell? ⟨B, 4, none⟩ = some lv ∧ w'.cell? ⟨B, 5, none⟩ = some (.int .i64 rv) ∧ w'.cell? ⟨g, o, none⟩ = some (.int .i64 k1) ∧ w'.cell? ⟨g, o + 1, none⟩ = some (.string (ba m1)) ∧ w'.cell? ⟨g, o + 2, none⟩ = some (.int .i64 v1) ∧ w'.cell? ⟨g, o + 3, none⟩ = some kv1 ∧ w'.cell? ⟨g, o + 4, none⟩ = some lv1 ∧ w'.cell? ⟨g, o + 5, none⟩ = some (.int .i64 r1) ∧ w'.cell? ⟨g, o + 6, none⟩ = some (.int .i64 k2) ∧ w'.cell? ⟨g, o + 6 + 1, none⟩ = some (.string (ba m2)) ∧ w'.cell? ⟨g, o + 6 + 2, none⟩ = some (.int .i64 v2) ∧ w'.cell? ⟨g, o + 6 + 3, none⟩ = some kv2 ∧ w'.cell? ⟨g, o + 6 + 4, none⟩ = some lv2 ∧ w'.cell? ⟨g, o + 6 + 5, none⟩ = some (.int .i64 r2) ∧ Below w.heap.size w w' := by
  obtain ⟨a0, a1, a2, a3, a4, a5, a6, a7, a8, a9, b0, b1, b2, b3, b4⟩ := h
  have K : ∀ (p : Addr) (v : Value), w.cell? p = some v → w'.cell? p = some v := fun p v hp => (hb.cell (World.block_lt_of_cell? w _ hp)).trans hp
  exact ⟨K _ _ a0, K _ _ a1, K _ _ a2, K _ _ a3, K _ _ a4, K _ _ a5, K _ _ a6, K _ _ a7, K _ _ a8, K _ _ a9, K _ _ b0, K _ _ b1, K _ _ b2, K _ _ b3, K _ _ b4, hb⟩

set_option maxRecDepth 100000 in
set_option maxHeartbeats 16000000 in
theorem text_fun (n : Nat) (ih : TxC n) (nm : Str) (v : Int) (u1 u2 : Ty) (r : List Ty) (ls : List Str) (rv : Int) (l : List Value) (w : World) (ht : TV w (.mk 5 nm v (u1 :: u2 :: r) ls rv) l) (hd : (Ty.mk 5 nm v (u1 :: u2 :: r) ls rv).deep ≤ n + 1) (hok : okX (.mk 5 nm v (u1 :: u2 :: r) ls rv) = true) :
    Calls Tryd.prog 34 #[.agg l.toArray] w fun e w' => e = .returned (.string (ba (txT (.mk 5 nm v (u1 :: u2 :: r) ls rv)))) ∧ Below w.heap.size w w' := by
  have htv := ht
  obtain ⟨kv, lv, rfl, hsk, hsl, hks⟩ := ht
  obtain ⟨A, q, rfl, hq, hqm, hA⟩ := hsk
  obtain ⟨g, o, rfl, _⟩ := hA (by simp)
  have hu1 : TA w ⟨g, o + 0 * 6, none⟩ u1 := hks 0 u1 rfl
  rw [Nat.zero_mul, Nat.add_zero] at hu1
  have hu2 : TA w ⟨g, o + 1 * 6, none⟩ u2 := hks 1 u2 rfl
  rw [Nat.one_mul] at hu2
  have hok2 := hok
  simp only [okX, okXL, Bool.and_eq_true, Bool.or_eq_true, Bool.not_eq_true', decide_eq_true_eq, decide_eq_false_iff_not] at hok
  obtain ⟨⟨⟨⟨_, _⟩, hrow⟩, hRl⟩, ho1, ho2, _⟩ := hok
  have hrow := hrow.resolve_left (by simp)
  obtain ⟨⟨⟨⟨_, hr0⟩, hr1⟩, hll⟩, hjl⟩ := hrow
  have hd1 : u1.deep ≤ n := by simp only [Ty.deep, Ty.deepL] at hd; omega
  have hd2 : u2.deep ≤ n := by simp only [Ty.deep, Ty.deepL] at hd; omega
  obtain ⟨R, hR⟩ : ∃ R, R = txT (.mk 5 nm v (u1 :: u2 :: r) ls rv) := ⟨_, rfl⟩
  have hRe : R = brB [5] (u1.kind, txT u1) ++ [32, 45, 62, 32] ++ rowB ls rv ++ txT u2 := by rw [hR]; rfl
  have hRl : R.length ≤ 100000 := by rw [hR]; exact okX_len _ hok2
  rw [← hR]
  have hlens : (brB [5] (u1.kind, txT u1)).length ≤ 100000 ∧ (rowB ls rv).length ≤ 100000 ∧ (txT u2).length ≤ 100000 := by
    have := congrArg List.length hRe
    simp only [List.length_append] at this
    omega
  have hz1 := ba_sz hlens.1
  have hz2 := ba_sz hlens.2.1
  have hz3 := ba_sz hlens.2.2
  obtain ⟨k1, m1, v1, kids1, ls1, r1, kv1, lv1, hue1, _, hru1, htu1⟩ := kid_cells hu1
  obtain ⟨k2, m2, v2, kids2, ls2, r2, kv2, lv2, hue2, _, hru2, htu2⟩ := kid_cells hu2
  have hs1 : (∃ A n q, kv1 = .slice A n q) ∧ (∃ A n q, lv1 = .slice A n q) := by subst hue1; exact tv_slices htu1
  have hs2 : (∃ A n q, kv2 = .slice A n q) ∧ (∃ A n q, lv2 = .slice A n q) := by subst hue2; exact tv_slices htu2
  obtain ⟨⟨A3, n3, q3, rfl⟩, A4, n4, q4, rfl⟩ := hs1
  obtain ⟨⟨A5, n5, q5, rfl⟩, A6, n6, q6, rfl⟩ := hs2
  obtain ⟨A2, q2, rfl, _⟩ := hsl.slice
  have hlen2 : 1 < (u1 :: u2 :: r).length := by simp
  generalize hlen : (u1 :: u2 :: r).length = len at *
  obtain ⟨w0, hw0⟩ : ∃ w0, w0 = w.alloc (.cells (tyC 5 nm v (.slice (some ⟨g, o, none⟩) len q) (.slice A2 ls.length q2) rv).toArray 27) := ⟨_, rfl⟩
  have hb0 : Below w.heap.size w w0 := by rw [hw0]; exact below_new w _
  have l0 : Lies w0 w.heap.size 27 (tyC 5 nm v (.slice (some ⟨g, o, none⟩) len q) (.slice A2 ls.length q2) rv).toArray := by rw [hw0]; exact Lies.new w _ _
  have hsz0 : w0.heap.size = w.heap.size + 1 := by rw [hw0]; simp
  have hbr : ∀ W, Below w0.heap.size w0 W → W.cell? ⟨w0.heap.size, 0, none⟩ = some (.int .i64 5) → Calls Tryd.prog 53 #[.agg (tyC k1 m1 v1 (.slice A3 n3 q3) (.slice A4 n4 q4) r1).toArray, .slice (some ⟨w0.heap.size, 0, none⟩) 1 1] W fun e w' => e = .returned (.string (ba (brB [5] (u1.kind, txT u1)))) ∧ Below w0.heap.size w0 w' := by
    intro W hW hc
    refine (bracketed_any u1 _ W (htu1.later (hb0.trans (hW.mono hb0.size))) [5] _ 1 rfl (by omega) (fun j x hj => ?_) (okX_len u1 ho1) (fun W hW => ih u1 _ W hW hd1 ho1)).mono fun e w' h => ⟨h.1, hW.trans (h.2.mono hW.size)⟩
    match j, hj with
    | 0, hj => simp at hj; rw [← hj]; exact hc
  have hrt : ∀ W, Below w0.heap.size w0 W → Calls Tryd.prog 54 #[.agg #[.slice A2 ls.length q2, .int .i64 rv]] W fun e w' => e = .returned (.string (ba (rowB ls rv))) ∧ Below w0.heap.size w0 w' :=
    fun W hW => (rowText_any _ ls rv W (hsl.later (hb0.trans (hW.mono hb0.size))) hll hjl hr0 hr1).mono fun e w' h => ⟨h.1, hW.trans (h.2.mono hW.size)⟩
  have htx : ∀ W, Below w0.heap.size w0 W → Calls Tryd.prog 34 #[.agg (tyC k2 m2 v2 (.slice A5 n5 q5) (.slice A6 n6 q6) r2).toArray] W fun e w' => e = .returned (.string (ba (txT u2))) ∧ Below w0.heap.size w0 w' :=
    fun W hW => (ih u2 _ W (htu2.later (hb0.trans (hW.mono hb0.size))) hd2 ho2).mono fun e w' h => ⟨h.1, hW.trans (h.2.mono hW.size)⟩
  have hr1c := reads6 (hru1.keep (hb0.block _ hu1.at_.lt))
  have hr2c := reads6 (hru2.keep (hb0.block _ hu2.at_.lt))
  unfold tyC at *
  have hS : w0.cell? ⟨w.heap.size, 3, none⟩ = some (.slice (some ⟨g, o, none⟩) len q) ∧ w0.cell? ⟨w.heap.size, 4, none⟩ = some (.slice A2 ls.length q2) ∧ w0.cell? ⟨w.heap.size, 5, none⟩ = some (.int .i64 rv) ∧ w0.cell? ⟨g, o, none⟩ = some (.int .i64 k1) ∧ w0.cell? ⟨g, o + 1, none⟩ = some (.string (ba m1)) ∧ w0.cell? ⟨g, o + 2, none⟩ = some (.int .i64 v1) ∧ w0.cell? ⟨g, o + 3, none⟩ = some (.slice A3 n3 q3) ∧ w0.cell? ⟨g, o + 4, none⟩ = some (.slice A4 n4 q4) ∧ w0.cell? ⟨g, o + 5, none⟩ = some (.int .i64 r1) ∧ w0.cell? ⟨g, o + 6, none⟩ = some (.int .i64 k2) ∧ w0.cell? ⟨g, o + 6 + 1, none⟩ = some (.string (ba m2)) ∧ w0.cell? ⟨g, o + 6 + 2, none⟩ = some (.int .i64 v2) ∧ w0.cell? ⟨g, o + 6 + 3, none⟩ = some (.slice A5 n5 q5) ∧ w0.cell? ⟨g, o + 6 + 4, none⟩ = some (.slice A6 n6 q6) ∧ w0.cell? ⟨g, o + 6 + 5, none⟩ = some (.int .i64 r2) := ⟨l0.cell 3, l0.cell 4, l0.cell 5, hr1c.1, hr1c.2.1, hr1c.2.2.1, hr1c.2.2.2.1, hr1c.2.2.2.2.1, hr1c.2.2.2.2.2, hr2c.1, hr2c.2.1, hr2c.2.2.1, hr2c.2.2.2.1, hr2c.2.2.2.2.1, hr2c.2.2.2.2.2⟩
  have HS := Lib.hid hS
  have hlen0 : 0 < len := by omega
  have hn1 : ¬ 9223372036854775807 < (ba (brB [5] (u1.kind, txT u1))).size + 4 := by omega
  have hn2 : ¬ 9223372036854775807 < (ba (brB [5] (u1.kind, txT u1))).size + 4 + (ba (rowB ls rv)).size := by omega
  have hn3 : ¬ 9223372036854775807 < (ba (brB [5] (u1.kind, txT u1))).size + 4 + (ba (rowB ls rv)).size + (ba (txT u2)).size := by omega
  have hli0 : (0 : Int) < (len : Int) := by omega
  have hli1 : (1 : Int) < (len : Int) := by omega
  have hk5 : (w0.alloc (.cells #[.int .i64 5] 3)).drew.cell? ⟨w0.heap.size, 0, none⟩ = some (.int .i64 5) := (Lies.new w0 3 #[.int .i64 5]).cell 0
  have HW := Lib.hid hw0
  have HRE := Lib.hid hRe
  have l0c := l0.cell 0
  clear hsz0 hS hw0 hRe hR hru1 hru2 htu1 htu2 hr1c hr2c hsl hks hu1 hu2 htv ih hue1 hue2 l0
  go_enter Tryd.func34, Tryd.ntmps34
  go_wp2
  rw [← HW.out]
  go_region_held3 (fun w' => w'.cell? ⟨w.heap.size, 3, none⟩ = some (.slice (some ⟨g, o, none⟩) len q) ∧ w'.cell? ⟨w.heap.size, 4, none⟩ = some (.slice A2 ls.length q2) ∧ w'.cell? ⟨w.heap.size, 5, none⟩ = some (.int .i64 rv) ∧ w'.cell? ⟨g, o, none⟩ = some (.int .i64 k1) ∧ w'.cell? ⟨g, o + 1, none⟩ = some (.string (ba m1)) ∧ w'.cell? ⟨g, o + 2, none⟩ = some (.int .i64 v1) ∧ w'.cell? ⟨g, o + 3, none⟩ = some (.slice A3 n3 q3) ∧ w'.cell? ⟨g, o + 4, none⟩ = some (.slice A4 n4 q4) ∧ w'.cell? ⟨g, o + 5, none⟩ = some (.int .i64 r1) ∧ w'.cell? ⟨g, o + 6, none⟩ = some (.int .i64 k2) ∧ w'.cell? ⟨g, o + 6 + 1, none⟩ = some (.string (ba m2)) ∧ w'.cell? ⟨g, o + 6 + 2, none⟩ = some (.int .i64 v2) ∧ w'.cell? ⟨g, o + 6 + 3, none⟩ = some (.slice A5 n5 q5) ∧ w'.cell? ⟨g, o + 6 + 4, none⟩ = some (.slice A6 n6 q6) ∧ w'.cell? ⟨g, o + 6 + 5, none⟩ = some (.int .i64 r2) ∧ Below w0.heap.size w0 w')
    (first | exact keep15 HS.out (Below.refl _ _).drew | exact keep15 HS.out (below_new w0 _).drew | exact keep15 HS.out hb11 | exact keep15 HS.out hb10 | exact keep15 HS.out hb9)
    (first | (go_at_call 53; refine (hbr _ (below_new w0 _).drew hk5).mono ?_; rintro e w9 ⟨rfl, hb9⟩) | (go_at_call 54; refine (hrt _ hb9).mono ?_; rintro e w10 ⟨rfl, hb10⟩) | (go_at_call 34; refine (htx _ hb10).mono ?_; rintro e w11 ⟨rfl, hb11⟩))
  have hfin : (ba (brB [5] (u1.kind, txT u1)) ++ ⟨#[32, 45, 62, 32]⟩ ++ ba (rowB ls rv) ++ ba (txT u2)) = ba R := by
    rw [HRE.out, show (⟨#[32, 45, 62, 32]⟩ : ByteArray) = ba [32, 45, 62, 32] from rfl, ba_app, ba_app, ba_app]
  have hbw : Below w0.heap.size w0 w11 := hb11
  have HFI := Lib.hid hfin
  clear hfin
  go_wp2
  go_ret
  refine ⟨?_, hb0.trans (hbw.mono hb0.size)⟩
  rw [← HFI.out]
  rfl
end Go.Proofs.YtjeolmcjhpkcbaaDoor
