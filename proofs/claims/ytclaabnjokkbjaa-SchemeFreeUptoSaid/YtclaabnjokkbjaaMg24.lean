/- Type, Row: what a substitution says. -/
import Derived.Test.YtclaabnjokkbjaaMg23
import Derived.Test.YtclaabnjokkbjaaMg12
import Derived.Test.YtclaabnjokkbjaaMg13
import Derived.Test.YtclaabnjokkbjaaMg10
import Derived.Outline
namespace Go.Proofs.Ytclaabnjokkbjaa
open Go.RowKit

set_option maxRecDepth 100000 in
set_option maxHeartbeats 8000000 in
theorem row_any (w : World) (sv : Value) (m : Nat) (T : Int → Option Ty) (R : Int → Option (List Str × Int)) (hs : SubV w sv m T R) (hm : m ≤ 1000000) (n : Int) (hn : i64ok n) :
    Calls Try.prog 14 #[sv, .int .i64 n] w fun e w' => ∃ l, e = .returned (.tuple #[.agg l.toArray, .bool (R n).isSome]) ∧ RwV w' ((R n).getD zRw) l ∧ Below w.heap.size w w' := by
  obtain ⟨vt, vr, gt, gr, rfl, hst, hsr, htm, hrm⟩ := hs
  have hx : ∃ A4 n4 c4 rv ls, (lookV (.agg zeroR) (gr n) = .agg #[.slice A4 n4 c4, .int .i64 rv] ∧ (gr n).isSome = (R n).isSome) ∧ StrR w (.slice A4 n4 c4) ls ∧ i64ok rv ∧ (R n).getD zRw = (ls, rv) := by
    have h1 := hrm n hn
    cases hT : R n with
    | none =>
      rw [hT] at h1
      rw [h1]
      exact ⟨none, 0, 0, 0, [], ⟨rfl, rfl⟩, ⟨.inl ⟨rfl, rfl⟩, Nat.zero_le _⟩, i64ok_of (by omega) (by omega), rfl⟩
    | some r =>
      rw [hT] at h1
      obtain ⟨l, h2, lv, rfl, h3, h4⟩ := h1
      obtain ⟨A4, n4, c4, rfl⟩ : ∃ A n c, lv = .slice A n c := by rcases h3.1 with ⟨rfl, _⟩ | ⟨_, _, rfl, _⟩ <;> exact ⟨_, _, _, rfl⟩
      rw [h2]
      exact ⟨A4, n4, c4, r.2, r.1, ⟨rfl, rfl⟩, h3, h4, rfl⟩
  obtain ⟨A4, n4, c4, rv, ls, hlook, htr, hz, hr'⟩ := hx
  rw [hr']
  obtain ⟨f, hf⟩ : ∃ f, f = (R n).isSome := ⟨_, rfl⟩
  rw [← hf] at hlook ⊢
  have HLN := Lib.hid htr.2
  have HRV := Lib.hid hz
  have hco := fun w7 (hb : Below w.heap.size w w7) => copiedRow_any (.slice A4 n4 c4) ls rv w7 (htr.keep hb.block)
  clear hr' hf htr hz htm hrm
  obtain ⟨A1, n1, c1, rfl⟩ := hst.one
  obtain ⟨A2, n2, c2, rfl⟩ := hsr.one
  obtain ⟨W, hW⟩ : ∃ W, W = (w.alloc (.cells #[.slice A1 n1 c1, .slice A2 n2 c2] 38)).alloc (.cells zeroR 26) := ⟨_, rfl⟩
  have hb : Below w.heap.size w W := by rw [hW]; exact ((Below.refl _ w).alloc (Nat.le_refl _) _).alloc (by simp) _
  have k1 : Lies W (w.heap.size + 1) 26 zeroR := by rw [hW]; exact Lies.new' _ _ _ (by simp)
  have hof := ofR_said W (.slice A2 n2 c2) m gr n (hsr.keep hb.block) hn hm
  rw [hlook.1, hlook.2] at hof
  have HO := Lib.hid hof
  have HW := Lib.hid hW
  have HB := Lib.hid hb
  have HK1 := Lib.hid k1
  have HCO := Lib.hid hco
  have hlt1 := k1.lt
  clear hof hW hb k1 hco hlook hst hsr
  unfold zeroR at HW HK1
  go_enter Try.func14, Try.ntmps14
  go_wp2_with fail
  rw [← HW.out]
  refine HO.out.mono ?_
  rintro e w1 ⟨rfl, hb1⟩
  have hb1w : Below w.heap.size w w1 := HB.out.trans (hb1.mono HB.out.size)
  have hb2 : Below w1.heap.size w1 (w1.alloc (.cells #[.slice A4 n4 c4, .int .i64 rv] 26)) := below_new w1 _
  have hb2w := hb1w.trans (hb2.mono hb1w.size)
  have HB1 := Lib.hid hb1
  have HB2 := Lib.hid hb2
  have HB2w := Lib.hid hb2w
  have HB1w := Lib.hid hb1w
  clear hb1 hb2 hb2w hb1w
  go_wp2_with fail
  refine (HCO.out _ HB2w.out).mono ?_
  rintro e w3 ⟨v2, rfl, hfr, hb3⟩
  have HFR := Lib.hid hfr
  unfold OwnL at hfr
  obtain ⟨A6, n6, c6, rfl⟩ := own_slice hfr
  clear hfr
  have hbW : Below W.heap.size W w3 := (HB1.out.trans (HB2.out.mono HB1.out.size)).trans (hb3.mono (Nat.le_trans HB1.out.size HB2.out.size))
  have m1 := HK1.out.later hbW
  have mc0 := m1.cell 0
  have mf0 := m1.free 0
  have mc1 := m1.cell 1
  have mf1 := m1.free 1
  have ml := m1.lt
  have HM1 := Lib.hid m1
  have HB3 := Lib.hid hb3
  have HBW := Lib.hid hbW
  clear m1 hb3 hbW
  go_wp2_with fail
  have q8 : Below (w.heap.size + 1) w3 ((w3.setCell ⟨w.heap.size + 1, 0, none⟩ (.slice A6 n6 c6)).setCell ⟨w.heap.size + 1, 1, none⟩ (.int .i64 rv)) := ((Below.refl _ _).setCell (p := ⟨w.heap.size + 1, 0, none⟩) (Nat.le_refl _) _).setCell (p := ⟨w.heap.size + 1, 1, none⟩) (Nat.le_refl _) _
  have hkw : ∀ (i : Nat), i ≠ w.heap.size + 1 → ((w3.setCell ⟨w.heap.size + 1, 0, none⟩ (.slice A6 n6 c6)).setCell ⟨w.heap.size + 1, 1, none⟩ (.int .i64 rv)).heap[i]? = w3.heap[i]? := fun i h => ((Below.heap_setCell _ ⟨w.heap.size + 1, 1, none⟩ _ i h).trans (Below.heap_setCell _ ⟨w.heap.size + 1, 0, none⟩ _ i h))
  refine bodyPost_ret (v := .tuple #[.agg #[.slice A6 n6 c6, .int .i64 rv], .bool f]) (Sb.results_ct rfl _ _ (w.heap.size + 1) 26 _ (0, 0) _ rfl (((HM1.out.set 0 (.slice A6 n6 c6)).set 1 (.int .i64 rv))) Try.underlying26 rfl size_R (by kernel_rfl)) rfl ?_
  have hbX : Below w.heap.size w ((w3.setCell ⟨w.heap.size + 1, 0, none⟩ (.slice A6 n6 c6)).setCell ⟨w.heap.size + 1, 1, none⟩ (.int .i64 rv)) := (HB.out.trans (HBW.out.mono HB.out.size)).trans (q8.mono (Nat.le_succ _))
  refine ⟨[.slice A6 n6 c6, .int .i64 rv], rfl, ⟨_, rfl, ?_, HRV.out⟩, hbX⟩
  have h1 := HB1.out.size
  have h2 := HB2.out.size
  have h3 : OwnL ((w3.setCell ⟨w.heap.size + 1, 0, none⟩ (.slice A6 n6 c6)).setCell ⟨w.heap.size + 1, 1, none⟩ (.int .i64 rv)) (w1.alloc (.cells #[.slice A4 n4 c4, .int .i64 rv] 26)).heap.size (.slice A6 n6 c6) ls := own_same HFR.out fun b hb hlt => hkw b fun e => by omega
  exact h3.str HLN.out
end Go.Proofs.Ytclaabnjokkbjaa

/- Package scheme: can a row become another one, where no row variable is bound. -/
namespace Go.Proofs.Ytclaabnjokkbjaa
open Go.RowKit

set_option maxRecDepth 100000 in
set_option maxHeartbeats 40000000 in
theorem mrow_any (w : World) (p : Nat) (s1 s2 : Value) (l : List Value) (hl6 : l.length = 6) (bk br : Nat) (v1 v2 td : Value) (bm : Nat) (hl : Lies w p 97 (matC s1 s2 l bk br v1 v2 td bm)) (m : Nat) (T : Int → Option Ty) (hs : SubV w (.agg #[v1, v2]) m T R0) (hm : m ≤ 1000000)
    (hr : MapI w 0 br 0 (inG [])) (fv tv : Value) (ls ms : List Str) (rv ru : Int) (hf : StrR w fv ls) (ht : StrR w tv ms) (hrv : i64ok rv) (hsrt : Rw.sortS ls = ls) :
    Calls Try.prog 79 #[.pointer (some ⟨p, 0, none⟩), .agg #[fv, .int .i64 rv], .agg #[tv, .int .i64 ru]] w fun e w' => e = .returned (.bool (decide (rv = ru ∧ ls = ms))) ∧ Below w.heap.size w w' := by
  obtain ⟨x0, x1, x2, x3, x4, x5, rfl⟩ : ∃ a b c d e f, l = [a, b, c, d, e, f] := by
    match l, hl6 with
    | [a, b, c, d, e, f], _ => exact ⟨a, b, c, d, e, f, rfl⟩
  have hlen := hf.2
  have hlen2 := ht.2
  obtain ⟨W, hW⟩ : ∃ W, W = (w.alloc (.cells #[fv, .int .i64 rv] 26)).alloc (.cells #[tv, .int .i64 ru] 26) := ⟨_, rfl⟩
  have hb : Below w.heap.size w W := by rw [hW]; exact ((Below.refl _ w).alloc (Nat.le_refl _) _).alloc (by simp) _
  have k1 : Lies W w.heap.size 26 #[fv, .int .i64 rv] := by rw [hW]; exact (Lies.new _ _ _).alloc _
  have k2 : Lies W (w.heap.size + 1) 26 #[tv, .int .i64 ru] := by rw [hW]; exact Lies.new' _ _ _ (by simp)
  have hsz : W.heap.size = w.heap.size + 2 := by rw [hW]; simp
  have hso := Rw.sorted_any fv ls rv W (.of (hf.keep hb.block)) (by omega)
  rw [hsrt] at hso
  have q0 := k1.cell 0
  have q1 := k1.cell 1
  have HW := Lib.hid hW
  have HB := Lib.hid hb
  have HK1 := Lib.hid k1
  have HK2 := Lib.hid k2
  have HSZ := Lib.hid hsz
  have HSO := Lib.hid hso
  have HL := Lib.hid hl
  have HS := Lib.hid hs
  have HR := Lib.hid hr
  have HT := Lib.hid ht
  have HF := Lib.hid hf
  have hpl := hl.lt
  clear hW hb k1 k2 hsz hso hl hs hr
  obtain ⟨Af, nf, cf, rfl⟩ : ∃ A n c, fv = .slice A n c := by rcases hf.1 with ⟨rfl, _⟩ | ⟨_, _, rfl, _⟩ <;> exact ⟨_, _, _, rfl⟩
  obtain ⟨At, nt, ct, rfl⟩ : ∃ A n c, tv = .slice A n c := by rcases ht.1 with ⟨rfl, _⟩ | ⟨_, _, rfl, _⟩ <;> exact ⟨_, _, _, rfl⟩
  clear hf ht
  go_enter Try.func79, Try.ntmps79
  go_wp2_with fail
  rw [← HW.out]
  refine HSO.out.mono ?_
  rintro e w1 ⟨u1, rfl, ho1, hb1⟩
  obtain ⟨A1, n1, c1, rfl⟩ := ho1.slice
  unfold Rw.rowV
  have m1 := HK1.out.later hb1
  have f0 := m1.free 0
  have f1 := m1.free 1
  have g0 := m1.cell 0
  have g1 := m1.cell 1
  have hB1 : Below w.heap.size w w1 := HB.out.trans (hb1.mono HB.out.size)
  have HO1 := Lib.hid ho1
  have HM1 := Lib.hid m1
  have HB1 := Lib.hid hB1
  have HBW := Lib.hid hb1
  have hsw1 := hb1.size
  clear ho1 m1 hB1 hb1 q0 q1 HSO
  go_wp2_with fail
  obtain ⟨w2, hw2⟩ : ∃ w2, w2 = (w1.setCell ⟨w.heap.size, 0, none⟩ (.slice A1 n1 c1)).setCell ⟨w.heap.size, 1, none⟩ (.int .i64 rv) := ⟨_, rfl⟩
  have hsw := HSZ.out
  have m2 : Lies w2 w.heap.size 26 #[.slice A1 n1 c1, .int .i64 rv] := by rw [hw2]; exact (HM1.out.set 0 (.slice A1 n1 c1)).set 1 (.int .i64 rv)
  have hs2 : w2.heap.size = w1.heap.size := by rw [hw2]; simp [World.size_setCell]
  have hoth : ∀ g, g ≠ w.heap.size → w2.heap[g]? = w1.heap[g]? := fun g hg => by rw [hw2]; exact (Below.heap_setCell _ ⟨w.heap.size, 1, none⟩ _ g hg).trans (Below.heap_setCell _ ⟨w.heap.size, 0, none⟩ _ g hg)
  have hb2 : Below w.heap.size w w2 := HB1.out.trans (by rw [hw2]; exact ((Below.refl _ w1).setCell (p := ⟨w.heap.size, 0, none⟩) (Nat.le_refl _) _).setCell (p := ⟨w.heap.size, 1, none⟩) (Nat.le_refl _) _)
  have hk2 : Lies w2 (w.heap.size + 1) 26 #[.slice At nt ct, .int .i64 ru] := (hoth _ (by omega)).trans (HK2.out.later HBW.out)
  have ho2 : Rw.OwnS w2 W.heap.size (.slice A1 n1 c1) ls := HO1.out.keep fun g hg _ => hoth g (by omega)
  have HW2 := Lib.hid hw2
  have HM2 := Lib.hid m2
  have HS2 := Lib.hid hs2
  have HB2 := Lib.hid hb2
  have HKK2 := Lib.hid hk2
  have HO2 := Lib.hid ho2
  have hlp := HL.out.later hb2
  have hd0 : Below w2.heap.size w2 w2.drew := (Below.refl _ _).drew
  have hd1 : Below w2.heap.size w2 (w2.alloc (.cells #[.slice none 0 0, .int .i64 0] 26)).drew := (below_new w2 _).drew
  have HSV := Lib.hid (fun V (hV : Below w2.heap.size w2 V) => (HS.out.later hb2).later hV)
  have hSS : ∀ V, Below w2.heap.size w2 V → V.cell? ⟨p, 10, none⟩ = some v1 ∧ V.cell? ⟨p, 11, none⟩ = some v2 ∧ V.cell? ⟨p, 9, none⟩ = some (.map (some br)) ∧ V.cell? ⟨w.heap.size, 0, none⟩ = some (.slice A1 n1 c1) ∧ V.cell? ⟨w.heap.size, 1, none⟩ = some (.int .i64 rv) ∧ V.cell? ⟨w.heap.size + 1, 0, none⟩ = some (.slice At nt ct) ∧ V.cell? ⟨w.heap.size + 1, 1, none⟩ = some (.int .i64 ru) := fun V hV =>
    ⟨(hV.cell (p := ⟨p, 10, none⟩) hlp.lt).trans (hlp.cell 10), (hV.cell (p := ⟨p, 11, none⟩) hlp.lt).trans (hlp.cell 11), (hV.cell (p := ⟨p, 9, none⟩) hlp.lt).trans (hlp.cell 9), (hV.cell (p := ⟨w.heap.size, 0, none⟩) m2.lt).trans (m2.cell 0), (hV.cell (p := ⟨w.heap.size, 1, none⟩) m2.lt).trans (m2.cell 1), (hV.cell (p := ⟨w.heap.size + 1, 0, none⟩) hk2.lt).trans (hk2.cell 0), (hV.cell (p := ⟨w.heap.size + 1, 1, none⟩) hk2.lt).trans (hk2.cell 1)⟩
  have HSS := Lib.hid hSS
  clear hw2 m2 hs2 hoth hb2 hk2 ho2 hlp hSS g0 g1 f0 f1
  rw [← HW2.out]
  go_region_held3 (fun V => V.cell? ⟨p, 10, none⟩ = some v1 ∧ V.cell? ⟨p, 11, none⟩ = some v2 ∧ V.cell? ⟨p, 9, none⟩ = some (.map (some br)) ∧ V.cell? ⟨w.heap.size, 0, none⟩ = some (.slice A1 n1 c1) ∧ V.cell? ⟨w.heap.size, 1, none⟩ = some (.int .i64 rv) ∧ V.cell? ⟨w.heap.size + 1, 0, none⟩ = some (.slice At nt ct) ∧ V.cell? ⟨w.heap.size + 1, 1, none⟩ = some (.int .i64 ru))
    (first | with_reducible exact HSS.out _ hd0 | with_reducible exact HSS.out _ hq7 | exact HSS.out _ hd1 | exact HSS.out _ (hq7.trans ((below_new w7 _).mono hq7.size)) | exact HSS.out _ (hq7.trans (((Below.refl w2.heap.size w7).setCell (p := ⟨w2.heap.size, 0, none⟩) (Nat.le_refl _) _).setCell (p := ⟨w2.heap.size, 1, none⟩) (Nat.le_refl _) _)))
    (first | (go_at_call 14; refine (row_any w2.drew _ m T R0 (HSV.out _ hd0) hm rv hrv).mono ?_; rintro e w7 ⟨l7, rfl, ⟨lv7, rfl, hs7, _⟩, hb7⟩; have hq7 : Below w2.heap.size w2 w7 := hd0.trans hb7; obtain ⟨A7, n7, c7, rfl⟩ : ∃ A n c, lv7 = .slice A n c := (by rcases hs7.1 with ⟨rfl, _⟩ | ⟨_, _, rfl, _⟩ <;> exact ⟨_, _, _, rfl⟩); have hz7 : (R0 rv).isSome = false := rfl; rw [hz7]; clear hs7 hb7) | (go_at_call 14; refine (row_any (w2.alloc (.cells #[.slice none 0 0, .int .i64 0] 26)).drew _ m T R0 (HSV.out _ hd1) hm rv hrv).mono ?_; rintro e w7 ⟨l7, rfl, ⟨lv7, rfl, hs7, _⟩, hb7⟩; have hq7 : Below w2.heap.size w2 w7 := hd1.trans (hb7.mono hd1.size); have l7x : Lies w7 w2.heap.size 26 #[.slice none 0 0, .int .i64 0] := Lies.later (w := (w2.alloc (.cells #[.slice none 0 0, .int .i64 0] 26)).drew) (Lies.new w2 26 #[.slice none 0 0, .int .i64 0]) hb7; have x70 := l7x.cell 0; have x71 := l7x.cell 1; have y70 := l7x.free 0; have y71 := l7x.free 1; have z7 := l7x.lt; obtain ⟨A7, n7, c7, rfl⟩ : ∃ A n c, lv7 = .slice A n c := (by rcases hs7.1 with ⟨rfl, _⟩ | ⟨_, _, rfl, _⟩ <;> exact ⟨_, _, _, rfl⟩); have hz7 : (R0 rv).isSome = false := rfl; rw [hz7]; clear hs7 hb7))
  all_goals
    have HRV := Lib.hid (fun V (hV : Below w2.heap.size w2 V) => (HR.out.later HB2.out).later hV)
    have hdec : decide (rv ∈ ([] : List Int)) = false := by simp
    have HDEC := Lib.hid hdec
    clear hdec
    first
      | (obtain ⟨X, hX⟩ : ∃ X, X = w7.alloc (.cells #[.slice A7 n7 c7, .int .i64 ((R0 rv).getD zRw).snd] 26) := ⟨_, rfl⟩
         have hBX : Below w2.heap.size w2 X := by rw [hX]; exact hq7.trans ((below_new w7 _).mono hq7.size)
         rw [← hX])
      | (obtain ⟨X, hX⟩ : ∃ X, X = (w7.setCell ⟨w2.heap.size, 0, none⟩ (.slice A7 n7 c7)).setCell ⟨w2.heap.size, 1, none⟩ (.int .i64 ((R0 rv).getD zRw).snd) := ⟨_, rfl⟩
         have hBX : Below w2.heap.size w2 X := by rw [hX]; exact hq7.trans (((Below.refl w2.heap.size w7).setCell (p := ⟨w2.heap.size, 0, none⟩) (Nat.le_refl _) _).setCell (p := ⟨w2.heap.size, 1, none⟩) (Nat.le_refl _) _)
         rw [← hX])
    have HXX := Lib.hid hX
    clear hX
    have hx0 : Below w2.heap.size w2 X.drew := hBX.drew
    go_wp2_with fail
    go_region_held3 (fun V => V.cell? ⟨p, 10, none⟩ = some v1 ∧ V.cell? ⟨p, 11, none⟩ = some v2 ∧ V.cell? ⟨p, 9, none⟩ = some (.map (some br)) ∧ V.cell? ⟨w.heap.size, 0, none⟩ = some (.slice A1 n1 c1) ∧ V.cell? ⟨w.heap.size, 1, none⟩ = some (.int .i64 rv) ∧ V.cell? ⟨w.heap.size + 1, 0, none⟩ = some (.slice At nt ct) ∧ V.cell? ⟨w.heap.size + 1, 1, none⟩ = some (.int .i64 ru))
      (first | with_reducible exact HSS.out _ hx0 | with_reducible exact HSS.out _ hq8)
      (first | (go_at_call 63; go_loud (refine (has_any X.drew br 0 [] rv (HRV.out _ hx0) hrv).mono ?_); rw [HDEC.out]; rintro e w8 ⟨rfl, hb8⟩; have hq8 : Below w2.heap.size w2 w8 := hx0.trans (hb8.mono hx0.size)))
    have hx9 : Below w2.heap.size w2 w8.drew := hq8.drew
    have hxf := HO2.out.later hx9
    have hap := applyRow_any w8.drew (.agg #[v1, v2]) m T R0 (HSV.out _ hx9) hm (.slice A1 n1 c1) ls rv ⟨own_row_src (w := w8.drew) hxf.own, hlen⟩ hrv (by unfold insR R0; split <;> rfl)
    have HAP := Lib.hid hap
    clear hap hxf
    go_wp2_with fail
    go_region_held3 (fun V => V.cell? ⟨p, 10, none⟩ = some v1 ∧ V.cell? ⟨p, 11, none⟩ = some v2 ∧ V.cell? ⟨p, 9, none⟩ = some (.map (some br)) ∧ V.cell? ⟨w.heap.size, 0, none⟩ = some (.slice A1 n1 c1) ∧ V.cell? ⟨w.heap.size, 1, none⟩ = some (.int .i64 rv) ∧ V.cell? ⟨w.heap.size + 1, 0, none⟩ = some (.slice At nt ct) ∧ V.cell? ⟨w.heap.size + 1, 1, none⟩ = some (.int .i64 ru))
      (first | with_reducible exact HSS.out _ hx9 | with_reducible exact HSS.out _ hq9 | with_reducible exact HSS.out _ hq10)
      (first | (go_at_call 73; refine HAP.out.mono ?_; rintro e w9 ⟨v9, rfl, ho9, hb9⟩; have hq9 : Below w2.heap.size w2 w9 := hx9.trans (hb9.mono hx9.size); have hst := Rw.Strs.of (ho9.str (by omega)); have HST := Lib.hid hst; obtain ⟨A9, n9, c9, rfl⟩ := own_slice ho9; clear ho9 hst) | (go_at_call 84; refine (Rw.sameRow_any _ _ ls ms rv ru w9 HST.out (Rw.Strs.of (HT.out.keep (HB2.out.trans (hq9.mono HB2.out.size)).block)) (by omega) (by omega)).mono ?_; rintro e w10 ⟨rfl, hb10⟩; have hq10 : Below w2.heap.size w2 w10 := hq9.trans (hb10.mono hq9.size)))
    go_wp2_with fail
    go_ret
    exact ⟨ret_bool (by simp), HB2.out.trans (hq10.mono HB2.out.size)⟩
end Go.Proofs.Ytclaabnjokkbjaa
