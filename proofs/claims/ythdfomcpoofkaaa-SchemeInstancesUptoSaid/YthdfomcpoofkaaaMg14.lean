/- Type, Row: what a substitution says. -/
import Derived.Test.YthdfomcpoofkaaaMg13
import Derived.Test.YthdfomcpoofkaaaMg06
import Derived.Test.YthdfomcpoofkaaaMg05
import Derived.Test.YthdfomcpoofkaaaMg12
import Derived.Test.YthdfomcpoofkaaaMg00
import Derived.Outline
import Derived.OwnWalk
import Derived.StillTailTactics
namespace Go.Proofs.Ythdfomcpoofkaaa
open Go.RowKit

set_option maxRecDepth 100000 in
set_option maxHeartbeats 8000000 in
theorem row_any (w : World) (sv : Value) (m : Nat) (T : Int → Option Ty) (R : Int → Option (List Str × Int)) (hs : SubV w sv m T R) (hm : m ≤ 1000000) (n : Int) (hn : i64ok n) :
    Calls Try.prog 14 #[sv, .int .i64 n] w fun e w' => ∃ l, e = .returned (.tuple #[.agg l.toArray, .bool (R n).isSome]) ∧ RwV w' ((R n).getD zRw) l ∧ Below w.heap.size w w' := by
  obtain ⟨vt, vr, gt, gr, rfl, hst, hsr, htm, hrm⟩ := hs
  have hx : ∃ A4 n4 c4 rv ls, (lookV (.agg zeroR) (gr n) = .agg #[.slice A4 n4 c4, .int .i64 rv] ∧ (gr n).isSome = (R n).isSome) ∧ StrR w (.slice A4 n4 c4) ls ∧ i64ok rv ∧ (R n).getD zRw = (ls, rv) := by
    have h1 := hrm n hn
    cases hT : R n with
    | none =>
      rw [hT] at h1
      rw [h1]
      exact ⟨none, 0, 0, 0, [], ⟨rfl, rfl⟩, ⟨.inl ⟨rfl, rfl⟩, Nat.zero_le _⟩, i64ok_of (by omega) (by omega), rfl⟩
    | some r =>
      rw [hT] at h1
      obtain ⟨l, h2, lv, rfl, h3, h4⟩ := h1
      obtain ⟨A4, n4, c4, rfl⟩ : ∃ A n c, lv = .slice A n c := by rcases h3.1 with ⟨rfl, _⟩ | ⟨_, _, rfl, _⟩ <;> exact ⟨_, _, _, rfl⟩
      rw [h2]
      exact ⟨A4, n4, c4, r.2, r.1, ⟨rfl, rfl⟩, h3, h4, rfl⟩
  obtain ⟨A4, n4, c4, rv, ls, hlook, htr, hz, hr'⟩ := hx
  rw [hr']
  obtain ⟨f, hf⟩ : ∃ f, f = (R n).isSome := ⟨_, rfl⟩
  rw [← hf] at hlook ⊢
  have HLN := Lib.hid htr.2
  have HRV := Lib.hid hz
  have hco := fun w7 (hb : Below w.heap.size w w7) => copiedRow_any (.slice A4 n4 c4) ls rv w7 (htr.keep hb.block)
  clear hr' hf htr hz htm hrm
  obtain ⟨A1, n1, c1, rfl⟩ := hst.one
  obtain ⟨A2, n2, c2, rfl⟩ := hsr.one
  obtain ⟨W, hW⟩ : ∃ W, W = (w.alloc (.cells #[.slice A1 n1 c1, .slice A2 n2 c2] 38)).alloc (.cells zeroR 26) := ⟨_, rfl⟩
  have hb : Below w.heap.size w W := by rw [hW]; exact ((Below.refl _ w).alloc (Nat.le_refl _) _).alloc (by simp) _
  have k1 : Lies W (w.heap.size + 1) 26 zeroR := by rw [hW]; exact Lies.new' _ _ _ (by simp)
  have hof := ofR_said W (.slice A2 n2 c2) m gr n (hsr.keep hb.block) hn hm
  rw [hlook.1, hlook.2] at hof
  have HO := Lib.hid hof
  have HW := Lib.hid hW
  have HB := Lib.hid hb
  have HK1 := Lib.hid k1
  have HCO := Lib.hid hco
  have hlt1 := k1.lt
  clear hof hW hb k1 hco hlook hst hsr
  unfold zeroR at HW HK1
  go_enter Try.func14, Try.ntmps14
  go_wp2_with fail
  rw [← HW.out]
  refine HO.out.mono ?_
  rintro e w1 ⟨rfl, hb1⟩
  have hb1w : Below w.heap.size w w1 := HB.out.trans (hb1.mono HB.out.size)
  have hb2 : Below w1.heap.size w1 (w1.alloc (.cells #[.slice A4 n4 c4, .int .i64 rv] 26)) := below_new w1 _
  have hb2w := hb1w.trans (hb2.mono hb1w.size)
  have HB1 := Lib.hid hb1
  have HB2 := Lib.hid hb2
  have HB2w := Lib.hid hb2w
  have HB1w := Lib.hid hb1w
  clear hb1 hb2 hb2w hb1w
  go_wp2_with fail
  refine (HCO.out _ HB2w.out).mono ?_
  rintro e w3 ⟨v2, rfl, hfr, hb3⟩
  have HFR := Lib.hid hfr
  unfold OwnL at hfr
  obtain ⟨A6, n6, c6, rfl⟩ := own_slice hfr
  clear hfr
  have hbW : Below W.heap.size W w3 := (HB1.out.trans (HB2.out.mono HB1.out.size)).trans (hb3.mono (Nat.le_trans HB1.out.size HB2.out.size))
  have m1 := HK1.out.later hbW
  have mc0 := m1.cell 0
  have mf0 := m1.free 0
  have mc1 := m1.cell 1
  have mf1 := m1.free 1
  have ml := m1.lt
  have HM1 := Lib.hid m1
  have HB3 := Lib.hid hb3
  have HBW := Lib.hid hbW
  clear m1 hb3 hbW
  go_wp2_with fail
  have q8 : Below (w.heap.size + 1) w3 ((w3.setCell ⟨w.heap.size + 1, 0, none⟩ (.slice A6 n6 c6)).setCell ⟨w.heap.size + 1, 1, none⟩ (.int .i64 rv)) := ((Below.refl _ _).setCell (p := ⟨w.heap.size + 1, 0, none⟩) (Nat.le_refl _) _).setCell (p := ⟨w.heap.size + 1, 1, none⟩) (Nat.le_refl _) _
  have hkw : ∀ (i : Nat), i ≠ w.heap.size + 1 → ((w3.setCell ⟨w.heap.size + 1, 0, none⟩ (.slice A6 n6 c6)).setCell ⟨w.heap.size + 1, 1, none⟩ (.int .i64 rv)).heap[i]? = w3.heap[i]? := fun i h => ((Below.heap_setCell _ ⟨w.heap.size + 1, 1, none⟩ _ i h).trans (Below.heap_setCell _ ⟨w.heap.size + 1, 0, none⟩ _ i h))
  refine bodyPost_ret (v := .tuple #[.agg #[.slice A6 n6 c6, .int .i64 rv], .bool f]) (Sb.results_ct rfl _ _ (w.heap.size + 1) 26 _ (0, 0) _ rfl (((HM1.out.set 0 (.slice A6 n6 c6)).set 1 (.int .i64 rv))) Try.underlying26 rfl size_R (by kernel_rfl)) rfl ?_
  have hbX : Below w.heap.size w ((w3.setCell ⟨w.heap.size + 1, 0, none⟩ (.slice A6 n6 c6)).setCell ⟨w.heap.size + 1, 1, none⟩ (.int .i64 rv)) := (HB.out.trans (HBW.out.mono HB.out.size)).trans (q8.mono (Nat.le_succ _))
  refine ⟨[.slice A6 n6 c6, .int .i64 rv], rfl, ⟨_, rfl, ?_, HRV.out⟩, hbX⟩
  have h1 := HB1.out.size
  have h2 := HB2.out.size
  have h3 : OwnL ((w3.setCell ⟨w.heap.size + 1, 0, none⟩ (.slice A6 n6 c6)).setCell ⟨w.heap.size + 1, 1, none⟩ (.int .i64 rv)) (w1.alloc (.cells #[.slice A4 n4 c4, .int .i64 rv] 26)).heap.size (.slice A6 n6 c6) ls := own_same HFR.out fun b hb hlt => hkw b fun e => by omega
  exact h3.str HLN.out
end Go.Proofs.Ythdfomcpoofkaaa

/- Package scheme: can a row become another one, where no row variable is bound. -/
namespace Go.Proofs.Ythdfomcpoofkaaa
open Go.RowKit

namespace Si
set_option maxRecDepth 100000 in
set_option maxHeartbeats 40000000 in
theorem mrow_free (w : World) (p : Nat) (s1 s2 : Value) (l : List Value) (hl6 : l.length = 6) (bk br : Nat) (v1 v2 td : Value) (bm : Nat) (hl : Lies w p 97 (matC s1 s2 l bk br v1 v2 td bm)) (m : Nat) (T : Int → Option Ty) (Q : Int → Option (List Str × Int)) (hs : SubV w (.agg #[v1, v2]) m T Q) (hm : m ≤ 1000000)
    (K : List Int) (qr : Nat) (hr : MapI w 0 br qr (inG K)) (fv tv : Value) (ls ms : List Str) (rv ru : Int) (hf : StrR w fv ls) (ht : StrR w tv ms) (hrv : i64ok rv) (hsrt : Rw.sortS ls = ls) (hno : rv ∉ K) (hqn : Q rv = none) :
    Calls Try.prog 79 #[.pointer (some ⟨p, 0, none⟩), .agg #[fv, .int .i64 rv], .agg #[tv, .int .i64 ru]] w fun e w' => e = .returned (.bool (decide (rv = ru ∧ ls = ms))) ∧ Below w.heap.size w w' := by
  have HQS := Lib.hid (show (Q rv).isSome = false by rw [hqn]; rfl)
  have HQN := Lib.hid hqn
  clear hqn
  obtain ⟨x0, x1, x2, x3, x4, x5, rfl⟩ : ∃ a b c d e f, l = [a, b, c, d, e, f] := by
    match l, hl6 with
    | [a, b, c, d, e, f], _ => exact ⟨a, b, c, d, e, f, rfl⟩
  have hlen := hf.2
  have hlen2 := ht.2
  obtain ⟨W, hW⟩ : ∃ W, W = (w.alloc (.cells #[fv, .int .i64 rv] 26)).alloc (.cells #[tv, .int .i64 ru] 26) := ⟨_, rfl⟩
  have hb : Below w.heap.size w W := by rw [hW]; exact ((Below.refl _ w).alloc (Nat.le_refl _) _).alloc (by simp) _
  have k1 : Lies W w.heap.size 26 #[fv, .int .i64 rv] := by rw [hW]; exact (Lies.new _ _ _).alloc _
  have k2 : Lies W (w.heap.size + 1) 26 #[tv, .int .i64 ru] := by rw [hW]; exact Lies.new' _ _ _ (by simp)
  have hsz : W.heap.size = w.heap.size + 2 := by rw [hW]; simp
  have hso := Rw.sorted_any fv ls rv W (.of (hf.keep hb.block)) (by omega)
  rw [hsrt] at hso
  have q0 := k1.cell 0
  have q1 := k1.cell 1
  have HW := Lib.hid hW
  have HB := Lib.hid hb
  have HK1 := Lib.hid k1
  have HK2 := Lib.hid k2
  have HSZ := Lib.hid hsz
  have HSO := Lib.hid hso
  have HL := Lib.hid hl
  have HS := Lib.hid hs
  have HR := Lib.hid hr
  have HT := Lib.hid ht
  have HF := Lib.hid hf
  have hpl := hl.lt
  clear hW hb k1 k2 hsz hso hl hs hr
  obtain ⟨Af, nf, cf, rfl⟩ : ∃ A n c, fv = .slice A n c := by rcases hf.1 with ⟨rfl, _⟩ | ⟨_, _, rfl, _⟩ <;> exact ⟨_, _, _, rfl⟩
  obtain ⟨At, nt, ct, rfl⟩ : ∃ A n c, tv = .slice A n c := by rcases ht.1 with ⟨rfl, _⟩ | ⟨_, _, rfl, _⟩ <;> exact ⟨_, _, _, rfl⟩
  clear hf ht
  go_enter Try.func79, Try.ntmps79
  go_wp2_with fail
  rw [← HW.out]
  refine HSO.out.mono ?_
  rintro e w1 ⟨u1, rfl, ho1, hb1⟩
  obtain ⟨A1, n1, c1, rfl⟩ := ho1.slice
  unfold Rw.rowV
  have m1 := HK1.out.later hb1
  have f0 := m1.free 0
  have f1 := m1.free 1
  have g0 := m1.cell 0
  have g1 := m1.cell 1
  have hB1 : Below w.heap.size w w1 := HB.out.trans (hb1.mono HB.out.size)
  have HO1 := Lib.hid ho1
  have HM1 := Lib.hid m1
  have HB1 := Lib.hid hB1
  have HBW := Lib.hid hb1
  have hsw1 := hb1.size
  clear ho1 m1 hB1 hb1 q0 q1 HSO
  go_wp2_with fail
  obtain ⟨w2, hw2⟩ : ∃ w2, w2 = (w1.setCell ⟨w.heap.size, 0, none⟩ (.slice A1 n1 c1)).setCell ⟨w.heap.size, 1, none⟩ (.int .i64 rv) := ⟨_, rfl⟩
  have hsw := HSZ.out
  have m2 : Lies w2 w.heap.size 26 #[.slice A1 n1 c1, .int .i64 rv] := by rw [hw2]; exact (HM1.out.set 0 (.slice A1 n1 c1)).set 1 (.int .i64 rv)
  have hs2 : w2.heap.size = w1.heap.size := by rw [hw2]; simp [World.size_setCell]
  have hoth : ∀ g, g ≠ w.heap.size → w2.heap[g]? = w1.heap[g]? := fun g hg => by rw [hw2]; exact (Below.heap_setCell _ ⟨w.heap.size, 1, none⟩ _ g hg).trans (Below.heap_setCell _ ⟨w.heap.size, 0, none⟩ _ g hg)
  have hb2 : Below w.heap.size w w2 := HB1.out.trans (by rw [hw2]; exact ((Below.refl _ w1).setCell (p := ⟨w.heap.size, 0, none⟩) (Nat.le_refl _) _).setCell (p := ⟨w.heap.size, 1, none⟩) (Nat.le_refl _) _)
  have hk2 : Lies w2 (w.heap.size + 1) 26 #[.slice At nt ct, .int .i64 ru] := (hoth _ (by omega)).trans (HK2.out.later HBW.out)
  have ho2 : Rw.OwnS w2 W.heap.size (.slice A1 n1 c1) ls := HO1.out.keep fun g hg _ => hoth g (by omega)
  have HW2 := Lib.hid hw2
  have HM2 := Lib.hid m2
  have HS2 := Lib.hid hs2
  have HB2 := Lib.hid hb2
  have HKK2 := Lib.hid hk2
  have HO2 := Lib.hid ho2
  have hlp := HL.out.later hb2
  have hd0 : Below w2.heap.size w2 w2.drew := (Below.refl _ _).drew
  have hd1 : Below w2.heap.size w2 (w2.alloc (.cells #[.slice none 0 0, .int .i64 0] 26)).drew := (below_new w2 _).drew
  have HSV := Lib.hid (fun V (hV : Below w2.heap.size w2 V) => (HS.out.later hb2).later hV)
  have hSS : ∀ V, Below w2.heap.size w2 V → V.cell? ⟨p, 10, none⟩ = some v1 ∧ V.cell? ⟨p, 11, none⟩ = some v2 ∧ V.cell? ⟨p, 9, none⟩ = some (.map (some br)) ∧ V.cell? ⟨w.heap.size, 0, none⟩ = some (.slice A1 n1 c1) ∧ V.cell? ⟨w.heap.size, 1, none⟩ = some (.int .i64 rv) ∧ V.cell? ⟨w.heap.size + 1, 0, none⟩ = some (.slice At nt ct) ∧ V.cell? ⟨w.heap.size + 1, 1, none⟩ = some (.int .i64 ru) := fun V hV =>
    ⟨(hV.cell (p := ⟨p, 10, none⟩) hlp.lt).trans (hlp.cell 10), (hV.cell (p := ⟨p, 11, none⟩) hlp.lt).trans (hlp.cell 11), (hV.cell (p := ⟨p, 9, none⟩) hlp.lt).trans (hlp.cell 9), (hV.cell (p := ⟨w.heap.size, 0, none⟩) m2.lt).trans (m2.cell 0), (hV.cell (p := ⟨w.heap.size, 1, none⟩) m2.lt).trans (m2.cell 1), (hV.cell (p := ⟨w.heap.size + 1, 0, none⟩) hk2.lt).trans (hk2.cell 0), (hV.cell (p := ⟨w.heap.size + 1, 1, none⟩) hk2.lt).trans (hk2.cell 1)⟩
  have HSS := Lib.hid hSS
  clear hw2 m2 hs2 hoth hb2 hk2 ho2 hlp hSS g0 g1 f0 f1
  rw [← HW2.out]
  go_region_held3 (fun V => V.cell? ⟨p, 10, none⟩ = some v1 ∧ V.cell? ⟨p, 11, none⟩ = some v2 ∧ V.cell? ⟨p, 9, none⟩ = some (.map (some br)) ∧ V.cell? ⟨w.heap.size, 0, none⟩ = some (.slice A1 n1 c1) ∧ V.cell? ⟨w.heap.size, 1, none⟩ = some (.int .i64 rv) ∧ V.cell? ⟨w.heap.size + 1, 0, none⟩ = some (.slice At nt ct) ∧ V.cell? ⟨w.heap.size + 1, 1, none⟩ = some (.int .i64 ru))
    (first | with_reducible exact HSS.out _ hd0 | with_reducible exact HSS.out _ hq7 | exact HSS.out _ hd1 | exact HSS.out _ (hq7.trans ((below_new w7 _).mono hq7.size)) | exact HSS.out _ (hq7.trans (((Below.refl w2.heap.size w7).setCell (p := ⟨w2.heap.size, 0, none⟩) (Nat.le_refl _) _).setCell (p := ⟨w2.heap.size, 1, none⟩) (Nat.le_refl _) _)))
    (first | (go_at_call 14; refine (row_any w2.drew _ m T Q (HSV.out _ hd0) hm rv hrv).mono ?_; rintro e w7 ⟨l7, rfl, ⟨lv7, rfl, hs7, _⟩, hb7⟩; have hq7 : Below w2.heap.size w2 w7 := hd0.trans hb7; obtain ⟨A7, n7, c7, rfl⟩ : ∃ A n c, lv7 = .slice A n c := (by rcases hs7.1 with ⟨rfl, _⟩ | ⟨_, _, rfl, _⟩ <;> exact ⟨_, _, _, rfl⟩); have hz7 : (Q rv).isSome = false := HQS.out; rw [hz7]; clear hs7 hb7) | (go_at_call 14; refine (row_any (w2.alloc (.cells #[.slice none 0 0, .int .i64 0] 26)).drew _ m T Q (HSV.out _ hd1) hm rv hrv).mono ?_; rintro e w7 ⟨l7, rfl, ⟨lv7, rfl, hs7, _⟩, hb7⟩; have hq7 : Below w2.heap.size w2 w7 := hd1.trans (hb7.mono hd1.size); have l7x : Lies w7 w2.heap.size 26 #[.slice none 0 0, .int .i64 0] := Lies.later (w := (w2.alloc (.cells #[.slice none 0 0, .int .i64 0] 26)).drew) (Lies.new w2 26 #[.slice none 0 0, .int .i64 0]) hb7; have x70 := l7x.cell 0; have x71 := l7x.cell 1; have y70 := l7x.free 0; have y71 := l7x.free 1; have z7 := l7x.lt; obtain ⟨A7, n7, c7, rfl⟩ : ∃ A n c, lv7 = .slice A n c := (by rcases hs7.1 with ⟨rfl, _⟩ | ⟨_, _, rfl, _⟩ <;> exact ⟨_, _, _, rfl⟩); have hz7 : (Q rv).isSome = false := HQS.out; rw [hz7]; clear hs7 hb7))
  all_goals
    have HRV := Lib.hid (fun V (hV : Below w2.heap.size w2 V) => (HR.out.later HB2.out).later hV)
    have HDEC := Lib.hid (show decide (rv ∈ K) = false from decide_eq_false hno)
    first
      | (obtain ⟨X, hX⟩ : ∃ X, X = w7.alloc (.cells #[.slice A7 n7 c7, .int .i64 ((Q rv).getD zRw).snd] 26) := ⟨_, rfl⟩
         have hBX : Below w2.heap.size w2 X := by rw [hX]; exact hq7.trans ((below_new w7 _).mono hq7.size)
         rw [← hX])
      | (obtain ⟨X, hX⟩ : ∃ X, X = (w7.setCell ⟨w2.heap.size, 0, none⟩ (.slice A7 n7 c7)).setCell ⟨w2.heap.size, 1, none⟩ (.int .i64 ((Q rv).getD zRw).snd) := ⟨_, rfl⟩
         have hBX : Below w2.heap.size w2 X := by rw [hX]; exact hq7.trans (((Below.refl w2.heap.size w7).setCell (p := ⟨w2.heap.size, 0, none⟩) (Nat.le_refl _) _).setCell (p := ⟨w2.heap.size, 1, none⟩) (Nat.le_refl _) _)
         rw [← hX])
    have HXX := Lib.hid hX
    clear hX
    have hx0 : Below w2.heap.size w2 X.drew := hBX.drew
    go_wp2_with fail
    go_region_held3 (fun V => V.cell? ⟨p, 10, none⟩ = some v1 ∧ V.cell? ⟨p, 11, none⟩ = some v2 ∧ V.cell? ⟨p, 9, none⟩ = some (.map (some br)) ∧ V.cell? ⟨w.heap.size, 0, none⟩ = some (.slice A1 n1 c1) ∧ V.cell? ⟨w.heap.size, 1, none⟩ = some (.int .i64 rv) ∧ V.cell? ⟨w.heap.size + 1, 0, none⟩ = some (.slice At nt ct) ∧ V.cell? ⟨w.heap.size + 1, 1, none⟩ = some (.int .i64 ru))
      (first | with_reducible exact HSS.out _ hx0 | with_reducible exact HSS.out _ hq8)
      (first | (go_at_call 63; go_loud (refine (has_any X.drew br qr K rv (HRV.out _ hx0) hrv).mono ?_); rw [HDEC.out]; rintro e w8 ⟨rfl, hb8⟩; have hq8 : Below w2.heap.size w2 w8 := hx0.trans (hb8.mono hx0.size)))
    have hx9 : Below w2.heap.size w2 w8.drew := hq8.drew
    have hxf := HO2.out.later hx9
    have hap := applyRow_any w8.drew (.agg #[v1, v2]) m T Q (HSV.out _ hx9) hm (.slice A1 n1 c1) ls rv ⟨own_row_src (w := w8.drew) hxf.own, hlen⟩ hrv (by unfold insR; split; rfl; exact HQN.out)
    have HAP := Lib.hid hap
    clear hap hxf
    go_wp2_with fail
    go_region_held3 (fun V => V.cell? ⟨p, 10, none⟩ = some v1 ∧ V.cell? ⟨p, 11, none⟩ = some v2 ∧ V.cell? ⟨p, 9, none⟩ = some (.map (some br)) ∧ V.cell? ⟨w.heap.size, 0, none⟩ = some (.slice A1 n1 c1) ∧ V.cell? ⟨w.heap.size, 1, none⟩ = some (.int .i64 rv) ∧ V.cell? ⟨w.heap.size + 1, 0, none⟩ = some (.slice At nt ct) ∧ V.cell? ⟨w.heap.size + 1, 1, none⟩ = some (.int .i64 ru))
      (first | with_reducible exact HSS.out _ hx9 | with_reducible exact HSS.out _ hq9 | with_reducible exact HSS.out _ hq10)
      (first | (go_at_call 73; refine HAP.out.mono ?_; rintro e w9 ⟨v9, rfl, ho9, hb9⟩; have hq9 : Below w2.heap.size w2 w9 := hx9.trans (hb9.mono hx9.size); have hst := Rw.Strs.of (ho9.str (by omega)); have HST := Lib.hid hst; obtain ⟨A9, n9, c9, rfl⟩ := own_slice ho9; clear ho9 hst) | (go_at_call 84; refine (Rw.sameRow_any _ _ _ ms _ ru w9 HST.out (Rw.Strs.of (HT.out.keep (HB2.out.trans (hq9.mono HB2.out.size)).block)) (by omega) (by omega)).mono ?_; rintro e w10 ⟨rfl, hb10⟩; have hq10 : Below w2.heap.size w2 w10 := hq9.trans (hb10.mono hq9.size)))
    go_wp2_with fail
    go_ret
    exact ⟨ret_bool (by simp), HB2.out.trans (hq10.mono HB2.out.size)⟩
end Si
theorem mrow_any (w : World) (p : Nat) (s1 s2 : Value) (l : List Value) (hl6 : l.length = 6) (bk br : Nat) (v1 v2 td : Value) (bm : Nat) (hl : Lies w p 97 (matC s1 s2 l bk br v1 v2 td bm)) (m : Nat) (T : Int → Option Ty) (hs : SubV w (.agg #[v1, v2]) m T R0) (hm : m ≤ 1000000)
    (hr : MapI w 0 br 0 (inG [])) (fv tv : Value) (ls ms : List Str) (rv ru : Int) (hf : StrR w fv ls) (ht : StrR w tv ms) (hrv : i64ok rv) (hsrt : Rw.sortS ls = ls) :
    Calls Try.prog 79 #[.pointer (some ⟨p, 0, none⟩), .agg #[fv, .int .i64 rv], .agg #[tv, .int .i64 ru]] w fun e w' => e = .returned (.bool (decide (rv = ru ∧ ls = ms))) ∧ Below w.heap.size w w' :=
  Si.mrow_free w p s1 s2 l hl6 bk br v1 v2 td bm hl m T R0 hs hm [] 0 hr fv tv ls ms rv ru hf ht hrv hsrt (by simp) rfl
end Go.Proofs.Ythdfomcpoofkaaa

/- Package scheme: bound says a type of a variable of which nothing was said. -/
namespace Go.Proofs.Ythdfomcpoofkaaa
open Go.RowKit

def BndEnd (BX : Nat → Prop) (w : World) (p : Nat) (s1 s2 : Value) (l : List Value) (bk br : Nat) (td : Value) (bm m : Nat) (T : Int → Option Ty) (n : Int) (t : Ty) (e : Ending) (w' : World) : Prop :=
  ∃ v1 v2, e = .returned (.bool true) ∧ Lies w' p 97 (matC s1 s2 l bk br v1 v2 td bm) ∧ (∀ wf, Kept (fun b => BX b ∧ b < w.heap.size) w' wf → SubV wf (.agg #[v1, v2]) (m + 1) (setF T n t) R0) ∧ Chg2 p p (.slice none 0 0) w w'
set_option maxRecDepth 100000 in
set_option maxHeartbeats 16000000 in
theorem bound_any (BX : Nat → Prop) (w : World) (p : Nat) (hBp : BX p) (s1 s2 : Value) (l : List Value) (hl6 : l.length = 6) (bk br : Nat) (v1 v2 td : Value) (bm : Nat) (hl : Lies w p 97 (matC s1 s2 l bk br v1 v2 td bm)) (m : Nat) (T : Int → Option Ty) (hs : SubV (blank BX w) (.agg #[v1, v2]) m T R0) (hm : m ≤ 1000)
    (n : Int) (hn : i64ok n) (hT : T n = none) (hTs : ∀ u, T n = some u → u.size ≤ 1000) (t : Ty) (lt : List Value) (ht : TRV w t lt) (hsz : t.size ≤ 1000) :
    Calls Try.prog 77 #[.pointer (some ⟨p, 0, none⟩), .int .i64 n, .agg lt.toArray] w (BndEnd BX w p s1 s2 l bk br td bm m T n t) := by
  obtain ⟨x0, x1, x2, x3, x4, x5, rfl⟩ : ∃ a b c d e f, l = [a, b, c, d, e, f] := by
    match l, hl6 with
    | [a, b, c, d, e, f], _ => exact ⟨a, b, c, d, e, f, rfl⟩
  have ht0 := ht
  have hsw : ∀ w', Below w.heap.size w w' → SubV w' (.agg #[v1, v2]) m T R0 := fun w' hb => hs.keepL (blank_to (Y := fun _ => False) (Kept.of_below hb) (fun _ _ h => h.elim))
  have hsb : ∀ w', Below w.heap.size w w' → SubV (blank (fun b => BX b ∨ w.heap.size ≤ b) w') (.agg #[v1, v2]) m T R0 := fun w' hb => hs.keepL (blank_more hb)
  obtain ⟨A1, n1, c1, rfl⟩ : ∃ A n c, v1 = .slice A n c := by
    obtain ⟨vt, vr, gt, gr, h1, h2, h3, _⟩ := hs
    injection h1 with h1
    simp only [Array.mk.injEq, List.cons.injEq] at h1
    obtain ⟨A, n, c, h⟩ := h2.one
    exact ⟨A, n, c, h1.1.trans h⟩
  obtain ⟨A2, n2, c2, rfl⟩ : ∃ A n c, v2 = .slice A n c := by
    obtain ⟨vt, vr, gt, gr, h1, h2, h3, _⟩ := hs
    injection h1 with h1
    simp only [Array.mk.injEq, List.cons.injEq] at h1
    obtain ⟨A, n, c, h⟩ := h3.one
    exact ⟨A, n, c, h1.2.1.trans h⟩
  obtain ⟨k, nm, v, kids, ls, rv⟩ := t
  obtain ⟨A3, n3, c3, A4, n4, c4, rfl⟩ := ht.shape
  unfold tyC at ht0 ⊢
  obtain ⟨W, hW⟩ : ∃ W, W = w.alloc (.cells #[.int .i64 k, .string (ba nm), .int .i64 v, .slice A3 n3 c3, .slice A4 n4 c4, .int .i64 rv] 28) := ⟨_, rfl⟩
  have hb : Below w.heap.size w W := by rw [hW]; exact below_new w _
  have k1 : Lies W w.heap.size 28 #[.int .i64 k, .string (ba nm), .int .i64 v, .slice A3 n3 c3, .slice A4 n4 c4, .int .i64 rv] := by rw [hW]; exact Lies.new _ _ _
  have lW := hl.later hb
  have e10 : W.cell? ⟨p, 10, none⟩ = some (.slice A1 n1 c1) := lW.cell 10
  have e11 : W.cell? ⟨p, 11, none⟩ = some (.slice A2 n2 c2) := lW.cell 11
  rw [hW] at e10 e11
  have hty := type_any W _ m T R0 (hsw W hb) (by omega) n hn hTs
  rw [hT] at hty
  have HW := Lib.hid hW
  have HB := Lib.hid hb
  have HK1 := Lib.hid k1
  have HL := Lib.hid hl
  have HTY := Lib.hid hty
  have HSB := Lib.hid hsb
  have HT := Lib.hid ht0
  have HSZ := Lib.hid hsz
  have hpl := hl.lt
  clear hW hb k1 hl hty hs hsw hsb ht ht0 hsz lW
  go_enter Try.func77, Try.ntmps77
  go_wp2_with fail
  rw [← HW.out]
  refine HTY.out.mono ?_
  rintro e w1 ⟨l1, rfl, htz, hb1⟩
  obtain ⟨A5, n5, c5, A6, n6, c6, rfl⟩ := TRV.shape (k := 0) (nm := []) (v := 0) (kids := []) (ls := []) (rv := 0) htz
  unfold tyC
  have hB1 : Below w.heap.size w w1 := HB.out.trans (hb1.mono HB.out.size)
  have HB1 := Lib.hid hB1
  have HBW := Lib.hid hb1
  clear htz hb1 hB1 e10 e11 HTY
  simp only [Option.isSome_none]
  go_wp2_with fail
  obtain ⟨X, hX⟩ : ∃ X, X = w1.alloc (.cells #[.int .i64 0, .string (ba []), .int .i64 0, .slice A5 n5 c5, .slice A6 n6 c6, .int .i64 0] 28) := ⟨_, rfl⟩
  have hbX : Below w.heap.size w X := by rw [hX]; exact HB1.out.trans ((below_new w1 _).mono HB1.out.size)
  have hbWX : Below W.heap.size W X := by rw [hX]; exact HBW.out.trans ((below_new w1 _).mono HBW.out.size)
  have lX := HL.out.later hbX
  have lY := HK1.out.later hbWX
  have HX := Lib.hid hX
  rw [← HX.out]
  have hSS : ∀ V, Below X.heap.size X V → V.cell? ⟨p, 10, none⟩ = some (.slice A1 n1 c1) ∧ V.cell? ⟨p, 11, none⟩ = some (.slice A2 n2 c2) ∧ V.cell? ⟨w.heap.size, 0, none⟩ = some (.int .i64 k) ∧ V.cell? ⟨w.heap.size, 1, none⟩ = some (.string (ba nm)) ∧ V.cell? ⟨w.heap.size, 2, none⟩ = some (.int .i64 v) ∧ V.cell? ⟨w.heap.size, 3, none⟩ = some (.slice A3 n3 c3) ∧ V.cell? ⟨w.heap.size, 4, none⟩ = some (.slice A4 n4 c4) ∧ V.cell? ⟨w.heap.size, 5, none⟩ = some (.int .i64 rv) := fun V hV =>
    ⟨(hV.cell (p := ⟨p, 10, none⟩) lX.lt).trans (lX.cell 10), (hV.cell (p := ⟨p, 11, none⟩) lX.lt).trans (lX.cell 11), (hV.cell (p := ⟨w.heap.size, 0, none⟩) lY.lt).trans (lY.cell 0), (hV.cell (p := ⟨w.heap.size, 1, none⟩) lY.lt).trans (lY.cell 1), (hV.cell (p := ⟨w.heap.size, 2, none⟩) lY.lt).trans (lY.cell 2), (hV.cell (p := ⟨w.heap.size, 3, none⟩) lY.lt).trans (lY.cell 3), (hV.cell (p := ⟨w.heap.size, 4, none⟩) lY.lt).trans (lY.cell 4), (hV.cell (p := ⟨w.heap.size, 5, none⟩) lY.lt).trans (lY.cell 5)⟩
  have hd : Below X.heap.size X X.drew := (Below.refl _ _).drew
  have hbd : Below w.heap.size w X.drew := hbX.drew
  have hst := setType_any (fun b => BX b ∨ w.heap.size ≤ b) X.drew _ m T R0 (HSB.out _ hbd) hm n hn (.mk k nm v kids ls rv) _ (HT.out.keep hbd.block) HSZ.out
  unfold tyC at hst
  have HSS := Lib.hid hSS
  have HST := Lib.hid hst
  have HBD := Lib.hid hbX
  clear hX hbWX lX lY hSS hst hbd hbX
  obtain ⟨z0, z1, z2, z3, z4, z5, z6, z7⟩ := HSS.out X.drew hd
  go_wp2_with fail
  refine wp_region_held_drew (S := (fun V => V.cell? ⟨w.heap.size, 0, none⟩ = some (.int .i64 k) ∧ V.cell? ⟨w.heap.size, 1, none⟩ = some (.string (ba nm)) ∧ V.cell? ⟨w.heap.size, 2, none⟩ = some (.int .i64 v) ∧ V.cell? ⟨w.heap.size, 3, none⟩ = some (.slice A3 n3 c3) ∧ V.cell? ⟨w.heap.size, 4, none⟩ = some (.slice A4 n4 c4) ∧ V.cell? ⟨w.heap.size, 5, none⟩ = some (.int .i64 rv))) (by kernel_rfl) ?_ (fun hHeld => ?_)
  · exact (HSS.out _ hd).2.2
  refine wpAnyH_take (i := 0) (oi := ⟨some 20, _, _, _, _, _⟩) (v := ?_) rfl (by kernel_rfl) (by kernel_rfl) (by kernel_rfl) (fun _ _ _ h => h) (Or.inl ⟨by kernel_rfl, ?_⟩) (by assumption) ?_
  rotate_left
  · (intro w' hSw; (try dsimp only at hSw); go_split_ands; go_simp; first | done | with_reducible rfl)
  try simp only [Act.put, List.setIfInBounds_toArray, List.set_cons_zero, List.set_cons_succ]
  refine wpAnyH_take (i := 1) (oi := ⟨some 21, _, _, _, _, _⟩) (v := ?_) rfl (by kernel_rfl) (by kernel_rfl) (by kernel_rfl) (fun _ _ _ h => h) (Or.inl ⟨by kernel_rfl, ?_⟩) (by assumption) ?_
  rotate_left
  · (intro w' hSw; (try dsimp only at hSw); go_split_ands; go_simp; first | done | with_reducible rfl)
  try simp only [Act.put, List.setIfInBounds_toArray, List.set_cons_zero, List.set_cons_succ]
  refine wpAnyH_take (i := 2) (oi := ⟨some 22, _, _, _, _, _⟩) (v := ?_) rfl (by kernel_rfl) (by kernel_rfl) (by kernel_rfl) (fun _ _ _ h => h) (Or.inl ⟨by kernel_rfl, ?_⟩) (by assumption) ?_
  rotate_left
  · (intro w' hSw; (try dsimp only at hSw); go_split_ands; go_simp; first | done | with_reducible rfl)
  try simp only [Act.put, List.setIfInBounds_toArray, List.set_cons_zero, List.set_cons_succ]
  refine wpAnyH_take (i := 3) (oi := ⟨some 23, _, _, _, _, _⟩) (v := ?_) rfl (by kernel_rfl) (by kernel_rfl) (by kernel_rfl) (fun _ _ _ h => h) (Or.inl ⟨by kernel_rfl, ?_⟩) (by assumption) ?_
  rotate_left
  · (intro w' hSw; (try dsimp only at hSw); go_split_ands; go_simp; first | done | with_reducible rfl)
  try simp only [Act.put, List.setIfInBounds_toArray, List.set_cons_zero, List.set_cons_succ]
  refine wpAnyH_take (i := 5) (oi := ⟨some 25, _, _, _, _, _⟩) (v := ?_) rfl (by kernel_rfl) (by kernel_rfl) (by kernel_rfl) (fun _ _ _ h => h) (Or.inl ⟨by kernel_rfl, ?_⟩) (by assumption) ?_
  rotate_left
  · (intro w' hSw; (try dsimp only at hSw); go_split_ands; go_simp; first | done | with_reducible rfl)
  try simp only [Act.put, List.setIfInBounds_toArray, List.set_cons_zero, List.set_cons_succ]
  refine wpAnyH_take (i := 6) (oi := ⟨some 26, _, _, _, _, _⟩) (v := ?_) rfl (by kernel_rfl) (by kernel_rfl) (by kernel_rfl) (fun _ _ _ h => h) (Or.inl ⟨by kernel_rfl, ?_⟩) (by assumption) ?_
  rotate_left
  · (intro w' hSw; (try dsimp only at hSw); go_split_ands; go_simp; first | done | with_reducible rfl)
  try simp only [Act.put, List.setIfInBounds_toArray, List.set_cons_zero, List.set_cons_succ]
  refine wpAnyH_ready (rs := [4]) (by kernel_rfl) (by simp) ?_
  refine AllReadyH.cons (o := ⟨some 24, _, _, _, _, _⟩) rfl (fun K hK => ?_) AllReadyH.nil
  go_simp
  refine hK.out _ _ ?_ (fun hHeld => ?_)
  · exact (HSS.out _ hd).2.2
  clear hK K
  try simp only [Act.put, List.setIfInBounds_toArray, List.set_cons_zero, List.set_cons_succ]
  refine wpAnyH_ready (rs := [7]) (by kernel_rfl) (by simp) ?_
  refine AllReadyH.cons (o := ⟨some 27, _, _, _, _, _⟩) rfl (fun K hK => ?_) AllReadyH.nil
  go_simp
  go_at_call 11
  refine HST.out.mono ?_
  rintro e w8 ⟨sv, rfl, hsv, hb8⟩
  have hq8 : Below X.heap.size X w8 := hd.trans hb8
  obtain ⟨B1, m1, d1, B2, m2, d2, rfl⟩ : ∃ B1 m1 d1 B2 m2 d2, sv = .agg #[.slice B1 m1 d1, .slice B2 m2 d2] := by
    obtain ⟨vt, vr, _, _, h1, h2, h3, _⟩ := hsv w8 ⟨Nat.le_refl _, fun _ _ _ => rfl⟩
    obtain ⟨a1, a2, a3, rfl⟩ := h2.one
    obtain ⟨a4, a5, a6, rfl⟩ := h3.one
    exact ⟨_, _, _, _, _, _, h1⟩
  have hb08 := HBD.out.trans (hq8.mono HBD.out.size)
  have l8 := HL.out.later hb08
  have f10 := l8.free 10
  have f11 := l8.free 11
  have g10 : w8.cell? ⟨p, 10, none⟩ = some (.slice A1 n1 c1) := l8.cell 10
  have g11 : w8.cell? ⟨p, 11, none⟩ = some (.slice A2 n2 c2) := l8.cell 11
  have HSVV := Lib.hid hsv
  have HL8 := Lib.hid l8
  have HB8 := Lib.hid hb08
  have HXS := Lib.hid HBD.out.size
  have HQ8 := Lib.hid hq8
  clear hsv l8 hb08 hb8
  refine hK.out _ _ ?_ (fun hHeld => ?_)
  · exact (HSS.out _ hq8).2.2
  clear hK K
  try simp only [Act.put, List.setIfInBounds_toArray, List.set_cons_zero, List.set_cons_succ]
  refine wpAnyH_take (i := 8) (oi := ⟨some 28, _, _, _, _, _⟩) (v := ?_) rfl (by kernel_rfl) (by kernel_rfl) (by kernel_rfl) (fun _ _ _ h => h) (Or.inl ⟨by kernel_rfl, ?_⟩) (by assumption) ?_
  rotate_left
  · (intro w' hSw; (try dsimp only at hSw); go_split_ands; go_simp; first | done | with_reducible rfl)
  try simp only [Act.put, List.setIfInBounds_toArray, List.set_cons_zero, List.set_cons_succ]
  refine wpAnyH_take (i := 9) (oi := ⟨some 29, _, _, _, _, _⟩) (v := ?_) rfl (by kernel_rfl) (by kernel_rfl) (by kernel_rfl) (fun _ _ _ h => h) (Or.inl ⟨by kernel_rfl, ?_⟩) (by assumption) ?_
  rotate_left
  · (intro w' hSw; (try dsimp only at hSw); go_split_ands; go_simp; first | done | with_reducible rfl)
  try simp only [Act.put, List.setIfInBounds_toArray, List.set_cons_zero, List.set_cons_succ]
  refine wpAnyH_ready (rs := [10]) (by kernel_rfl) (by simp) ?_
  refine AllReadyH.cons (o := ⟨none, _, _, _, _, _⟩) rfl (fun K hK => ?_) AllReadyH.nil
  go_simp
  refine hK.out _ _ ?_ (fun hHeld => ?_)
  · have hne : w.heap.size ≠ p := by omega
    have hoth : ((w8.setCell ⟨p, 10, none⟩ (.slice B1 m1 d1)).setCell ⟨p, 11, none⟩ (.slice B2 m2 d2)).heap[w.heap.size]? = w8.heap[w.heap.size]? := (Below.heap_setCell _ ⟨p, 11, none⟩ _ _ hne).trans (Below.heap_setCell _ ⟨p, 10, none⟩ _ _ hne)
    have e : ∀ j, ((w8.setCell ⟨p, 10, none⟩ (.slice B1 m1 d1)).setCell ⟨p, 11, none⟩ (.slice B2 m2 d2)).cell? ⟨w.heap.size, j, none⟩ = w8.cell? ⟨w.heap.size, j, none⟩ := fun j => World.cell?_of_block (w := w8) (a := ⟨w.heap.size, j, none⟩) hoth
    obtain ⟨_, _, z0, z1, z2, z3, z4, z5⟩ := HSS.out _ hq8
    exact ⟨(e 0).trans z0, (e 1).trans z1, (e 2).trans z2, (e 3).trans z3, (e 4).trans z4, (e 5).trans z5⟩
  clear hK K
  try simp only [Act.put, List.setIfInBounds_toArray, List.set_cons_zero, List.set_cons_succ]
  refine wpAnyH_done (by kernel_rfl) ?_ _
  clear z0 z1 z2 z3 z4 z5 z6 z7 hd HST
  go_wp2_with fail
  go_ret
  have hoth : ∀ g, g ≠ p → ((w8.setCell ⟨p, 10, none⟩ (.slice B1 m1 d1)).setCell ⟨p, 11, none⟩ (.slice B2 m2 d2)).heap[g]? = w8.heap[g]? := fun g hg => (Below.heap_setCell _ ⟨p, 11, none⟩ _ g hg).trans (Below.heap_setCell _ ⟨p, 10, none⟩ _ g hg)
  refine ⟨.slice B1 m1 d1, .slice B2 m2 d2, rfl, (HL8.out.set 10 _).set 11 _, fun wf hk => HSVV.out wf ⟨?_, fun b hb hn => ?_⟩, ?_⟩
  · refine Nat.le_trans ?_ hk.1
    simp [World.size_setCell]
  · refine (hk.2 b (by simpa [World.size_setCell] using hb) (fun h => hn ⟨.inl h.1, Nat.lt_of_lt_of_le h.2 HXS.out⟩)).trans (hoth b fun e => hn ⟨.inl (e ▸ hBp), by rw [e]; exact Nat.lt_of_lt_of_le hpl HXS.out⟩)
  · refine ⟨HB8.out.os, HB8.out.tape, HB8.out.output, by simpa [World.size_setCell] using HB8.out.size, fun i h1 h2 _ _ => (hoth i h2).trans (HB8.out.block i h1)⟩
end Go.Proofs.Ythdfomcpoofkaaa

/- Package scheme: the matcher's state. -/
namespace Go.Proofs.Ythdfomcpoofkaaa
open Go.RowKit

/-- The matcher's blocks. -/
structure MC (w0 : World) (p bm bk br B : Nat) : Prop where
  p0 : w0.heap.size ≤ p ∧ p < B
  m0 : w0.heap.size ≤ bm ∧ bm < B
  k0 : w0.heap.size ≤ bk ∧ bk < B
  r0 : w0.heap.size ≤ br ∧ br < B
  ne : p ≠ bm ∧ p ≠ bk ∧ p ≠ br ∧ bm ≠ bk ∧ bm ≠ br
/-- What stands between two parts. -/
structure MT (w0 : World) (p bm bk br B : Nat) (s1 s2 : Value) (l : List Value) (K : List Int) (m : Nat) (T : Int → Option Ty) (L : List Nat) (ks : List Pr) (W : World) : Prop where
  ex : ∃ v1 v2 td, MtS W p bm B s1 s2 l bk br v1 v2 td ks.length (ks.flatMap prC) L ∧ SubV (blank (fun b => b = p ∨ b = bm ∨ td.ownBlock = some b) W) (.agg #[v1, v2]) m T R0
  kin : ∃ q, MapI W 0 bk q (inG K)
  row : MapI W 0 br 0 (inG [])
  bel : Below w0.heap.size w0 W
  room : B ≤ W.heap.size
  met : ∀ x ∈ L, x < w0.heap.size
theorem MT.later {w0 : World} {p bm bk br B : Nat} {s1 s2 : Value} {l : List Value} {K : List Int} {m : Nat} {T : Int → Option Ty} {L : List Nat} {ks : List Pr} {W W' : World} (h : MT w0 p bm bk br B s1 s2 l K m T L ks W) (hb : Below W.heap.size W W') : MT w0 p bm bk br B s1 s2 l K m T L ks W' := by
  obtain ⟨⟨v1, v2, td, ⟨h1, h2, h3⟩, h4⟩, ⟨q, h5⟩, h6, h7, h8, h9⟩ := h
  have hlt : ∀ g, live (blank (fun b => b = p ∨ b = bm ∨ td.ownBlock = some b) W) g → (blank (fun b => b = p ∨ b = bm ∨ td.ownBlock = some b) W').heap[g]? = (blank (fun b => b = p ∨ b = bm ∨ td.ownBlock = some b) W).heap[g]? := blank_blank (Y := fun _ => False) (Kept.of_below hb) (fun _ _ h => h.elim)
  exact ⟨⟨v1, v2, td, ⟨h1.later hb, own_later h2 hb, h3.later hb⟩, h4.keepL hlt⟩, ⟨q, h5.later hb⟩, h6.later hb, h7.trans (hb.mono h7.size), Nat.le_trans h8 hb.size, h9⟩
/-- How later turns what is to do. -/
def LatRel (L : List Nat) (ks : List Pr) (fv tv : Value) (n m : Nat) (L' : List Nat) (ks' : List Pr) : Prop :=
  ((n = 0 ∨ m = 0) ∧ L' = L ∧ ks' = ks) ∨ (0 < n ∧ 0 < m ∧ ∃ g, fv = .slice (some ⟨g, 0, none⟩) n n ∧ L' = L ++ [g] ∧ ks' = ks ++ [⟨fv, tv⟩])
theorem later_u {w0 : World} {p bm bk br B : Nat} (hc : MC w0 p bm bk br B) {s1 s2 : Value} {l : List Value} (hl6 : l.length = 6) {K : List Int} {m : Nat} {T : Int → Option Ty} {L : List Nat} {ks : List Pr} {w : World} (h : MT w0 p bm bk br B s1 s2 l K m T L ks w) (hks : ks.length ≤ 1000000)
    (fv tv : Value) (n mm : Nat) (hf : SlF w0 fv n) (hn : n ≤ 1000000) (ht : SlR tv mm) (hmm : mm ≤ 1000000) (hnew : ∀ g, fv = .slice (some ⟨g, 0, none⟩) n n → g ∉ L) (W : World) (hb : Below w.heap.size w W) :
    Calls Try.prog 78 #[.pointer (some ⟨p, 0, none⟩), fv, tv] W fun e W' => e = .returned (.tuple #[]) ∧ (∃ L' ks', LatRel L ks fv tv n mm L' ks' ∧ MT w0 p bm bk br B s1 s2 l K m T L' ks' W') ∧ W.heap.size ≤ W'.heap.size ∧ ∀ i, w.heap.size ≤ i → i < W.heap.size → W'.heap[i]? = W.heap[i]? := by
  by_cases h0 : n = 0 ∨ mm = 0
  · refine (later_none W p fv tv n mm hf.slr ht h0).mono ?_
    rintro e W' ⟨rfl, rfl⟩
    exact ⟨rfl, ⟨L, ks, .inl ⟨h0, rfl, rfl⟩, h.later hb⟩, Nat.le_refl _, fun _ _ _ => rfl⟩
  · obtain ⟨⟨v1, v2, td, hm0, h40⟩, ⟨q, h50⟩, h60, h70, h80, h9⟩ := h
    have hpo0 : ∀ x, td.ownBlock = some x → B ≤ x ∧ x < w.heap.size := own_block hm0.row
    have hm : MtS W p bm B s1 s2 l bk br v1 v2 td ks.length (ks.flatMap prC) L := ⟨hm0.at_.later hb, own_later hm0.row hb, hm0.met.later hb⟩
    have h4 : SubV (blank (fun b => b = p ∨ b = bm ∨ td.ownBlock = some b) W) (.agg #[v1, v2]) m T R0 := h40.keepL (blank_blank (Y := fun _ => False) (Kept.of_below hb) (fun _ _ h => h.elim))
    have h5 := h50.later hb
    have h6 := h60.later hb
    have h7 := h70.trans (hb.mono h70.size)
    have h8 := Nat.le_trans h80 hb.size
    obtain ⟨⟨p1, p2⟩, ⟨m1, m2⟩, ⟨k1, k2⟩, ⟨r1, r2⟩, n1, n2, n3, n4, n5⟩ := hc
    rcases hf with ⟨_, hz⟩ | ⟨g, rfl, hg0, hga⟩
    · omega
    · have hglt := hga.lt
      have hglt : g < w0.heap.size := hglt
      have hpo : ∀ x, td.ownBlock = some x → B ≤ x ∧ x < W.heap.size := own_block hm.row
      refine (later_any W p bm B s1 s2 l hl6 bk br v1 v2 td ks.length _ L p2 m2 n1 h8 hm hks (fun x hx => ?_) g n (hga.keep (h7.block _ hglt)) ⟨by omega, fun e => by have := hpo g e; omega⟩ (hnew g rfl) (by omega) hn tv mm ht (by omega) hmm).mono ?_
      · have hx := h9 x hx
        exact ⟨by omega, by omega, fun e => by have := hpo x e; omega⟩
      · rintro e W' ⟨td', rfl, hm', htd, hch⟩
        have hs := hch.size
        have hke : ∀ i, i < W.heap.size → i ≠ p → i ≠ bm → td.ownBlock ≠ some i → W'.heap[i]? = W.heap[i]? := hch.block
        have hlow : ∀ i, i < B → i ≠ p → i ≠ bm → W'.heap[i]? = W.heap[i]? := fun i h1 h2 h3 => hke i (by omega) h2 h3 (fun e => by have := hpo i e; omega)
        refine ⟨rfl, ⟨L ++ [g], ks ++ [⟨.slice (some ⟨g, 0, none⟩) n n, tv⟩], .inr ⟨by omega, by omega, g, rfl, rfl, rfl⟩, ⟨v1, v2, td', ?_, ?_⟩, ⟨q, h5.keep (hlow bk k2 (fun e => n2 e.symm) (fun e => n4 e.symm))⟩, h6.keep (hlow br r2 (fun e => n3 e.symm) (fun e => n5 e.symm)), ?_, by omega, fun x hx => ?_⟩, hs, fun i h1 h2 => hke i h2 (by omega) (by omega) (fun e => by have := hpo0 i e; omega)⟩
        · have e1 : (ks ++ [(⟨.slice (some ⟨g, 0, none⟩) n n, tv⟩ : Pr)]).flatMap prC = ks.flatMap prC ++ [.slice (some ⟨g, 0, none⟩) n n, tv] := by rw [List.flatMap_append]; simp [prC]
          rw [e1, List.length_append]
          exact hm'
        · refine h4.keepL fun g' hg' => ?_
          obtain ⟨hx, hlt⟩ := blank_live hg'
          refine (blank_at (fun hx' => ?_)).trans ((hke g' hlt (fun e => hx (.inl e)) (fun e => hx (.inr (.inl e))) (fun e => hx (.inr (.inr e)))).trans (blank_at hx).symm)
          rcases hx' with e | e | e
          · exact hx (.inl e)
          · exact hx (.inr (.inl e))
          · rcases htd with h | ⟨b, h, hb⟩
            · exact hx (.inr (.inr (h ▸ e)))
            · rw [h] at e; injection e with e; omega
        · exact ⟨hch.os.trans h7.os, hch.tape.trans h7.tape, hch.output.trans h7.output, Nat.le_trans h7.size hs, fun i hi => (hlow i (by omega) (by omega) (by omega)).trans (h7.block i hi)⟩
        · rcases List.mem_append.1 hx with hx | hx
          · exact h9 x hx
          · rw [List.mem_singleton.1 hx]; exact hglt
end Go.Proofs.Ythdfomcpoofkaaa

/- Maps of the call's own whose keys are ints. -/
namespace Go.Proofs.Ythdfomcpoofkaaa
open Go Go.MapKept Go.ChangeMaps Go.RowKit

/-- The map in block b has just these entries, in the order in which they came. -/
def IMap (w : World) (b : Nat) (L : List (Int × Value)) : Prop :=
  ∃ es clock, w.heap[b]? = some (.map es clock) ∧ es.toList.map (fun e => (e.key, e.val)) = L.map (fun p => (Value.int .i64 p.1, p.2))
theorem IMap.lt {w : World} {b : Nat} {L : List (Int × Value)} (h : IMap w b L) : b < w.heap.size := by
  obtain ⟨es, clock, hb, _⟩ := h
  exact (Array.getElem?_eq_some_iff.1 hb).1
theorem IMap.keep {w w' : World} {b : Nat} {L : List (Int × Value)} (h : IMap w b L) (hk : w'.heap[b]? = w.heap[b]?) : IMap w' b L := by
  obtain ⟨es, clock, hb, he⟩ := h
  exact ⟨es, clock, hk.trans hb, he⟩
theorem IMap.made (w : World) : IMap (w.alloc (.map #[] 0)) w.heap.size [] := ⟨#[], 0, (MapKept.heap_alloc w _).1, rfl⟩
def look (k : Int) : List (Int × Value) → Option Value
  | [] => none
  | p :: L => if k = p.1 then some p.2 else look k L
theorem findNow_int (k : Int) : ∀ (es : List MapEntry) (L : List (Int × Value)) (i : Nat), es.map (fun e => (e.key, e.val)) = L.map (fun p => (Value.int .i64 p.1, p.2)) →
    ∃ r, Instr.findNow (.int .i64) (.int .i64 k) es i = some r ∧ ((∃ v j, look k L = some v ∧ r = some (j, v)) ∨ (look k L = none ∧ r = none))
  | [], [], i, _ => ⟨none, rfl, .inr ⟨rfl, rfl⟩⟩
  | [], _ :: _, i, h => by simp at h
  | _ :: _, [], i, h => by simp at h
  | e :: es, p :: L, i, h => by
    simp only [List.map_cons, List.cons.injEq, Prod.mk.injEq] at h
    obtain ⟨⟨h1, h2⟩, h3⟩ := h
    by_cases hx : k = p.1
    · refine ⟨some (i, p.2), ?_, .inl ⟨p.2, i, by simp [look, hx], rfl⟩⟩
      simp [Instr.findNow, Instr.sameNow, h1, h2, hx]
    · obtain ⟨r, hr, hc⟩ := findNow_int k es L (i + 1) h3
      refine ⟨r, ?_, ?_⟩
      · rw [Instr.findNow, h1, show Instr.sameNow (.int .i64) (.int .i64 k) (.int .i64 p.1) = some false by simp [Instr.sameNow, hx]]
        exact hr
      · simpa [look, hx] using hc
section
variable {P : Program} {w : World} {kt mt et : TypeId}
theorem run_findKey_int (hk : P.underlying kt = some (.int .i64)) (k : Int) (es : List MapEntry) (L : List (Int × Value)) (h : es.map (fun e => (e.key, e.val)) = L.map (fun p => (Value.int .i64 p.1, p.2))) :
    ∃ r, (Instr.findKey kt (.int .i64 k) es).run P w = .ok r w ∧ ((∃ v j, look k L = some v ∧ r = some (j, v)) ∨ (look k L = none ∧ r = none)) := by
  obtain ⟨r, hr, hc⟩ := findNow_int k es L 0 h
  exact ⟨r, by simp [Instr.findKey, run_underlying hk, Result.andThen, hr], hc⟩
theorem IMap.lookup {b : Nat} {L : List (Int × Value)} {z : Value} (h : IMap w b L) (hm : P.underlying mt = some (.map kt et)) (hk : P.underlying kt = some (.int .i64)) (hz : (zeroValue et).run P w = .ok z w) (k : Int) :
    (Instr.lookup mt (.map (some b)) (.int .i64 k) true).run P w = .ok (.tuple #[(look k L).getD z, .bool (look k L).isSome]) w := by
  obtain ⟨es, clock, hb, he⟩ := h
  obtain ⟨r, hr, hc⟩ := run_findKey_int (w := w) hk k es.toList L he
  have hck : (Instr.checkKey es.isEmpty (9999 + 1) kt (.int .i64 k)).run P w = .ok () w := MapKept.run_checkKey hk (by first | trivial | exact .int _ _ | constructor) _ _
  rcases hc with ⟨v, j, hv, rfl⟩ | ⟨hv, rfl⟩
  · simp [Instr.lookup, run_underlying hm, MapKept.run_getObj_map hb, Result.andThen, hck, hr, hv]
  · simp [Instr.lookup, run_underlying hm, MapKept.run_getObj_map hb, Result.andThen, hck, hr, hv, hz]
theorem IMap.update {b : Nat} {L : List (Int × Value)} (h : IMap w b L) (hm : P.underlying mt = some (.map kt et)) (hk : P.underlying kt = some (.int .i64)) (k : Int) (v : Value) (hn : look k L = none) :
    ∃ w', (Instr.mapUpdate mt (.map (some b)) (.int .i64 k) v).run P w = .ok () w' ∧ IMap w' b (L ++ [(k, v)]) ∧ w.grownBy w' (some b) := by
  obtain ⟨es, clock, hb, he⟩ := h
  obtain ⟨r, hr, hc⟩ := run_findKey_int (w := w) hk k es.toList L he
  have hck : (Instr.checkKey es.isEmpty (9999 + 1) kt (.int .i64 k)).run P w = .ok () w := MapKept.run_checkKey hk (by first | trivial | exact .int _ _ | constructor) _ _
  have hck' : ∀ e : Bool, (Instr.checkKey e (9999 + 1) kt (.int .i64 k)).run P w = .ok () w := fun e => MapKept.run_checkKey hk (by first | trivial | exact .int _ _ | constructor) _ _
  rcases hc with ⟨u, j, hv, rfl⟩ | ⟨hv, rfl⟩
  · rw [hn] at hv; cases hv
  · refine ⟨setBlock w b (.map (es.push ⟨.int .i64 k, v, clock⟩) (clock + 1)), ?_, ⟨_, _, heap_setBlock_same hb _, ?_⟩, ⟨rfl, rfl, rfl, by simp [setBlock], fun i _ hi => heap_setBlock_other hb _ (fun e => hi (by rw [e]))⟩⟩
    · simp [Instr.mapUpdate, run_underlying hm, MapKept.run_getObj_map hb, hck', hr, MapKept.run_setObj_map _ hb, Result.andThen, setBlock]
    · simp [he]
end
theorem wpList_lookup_imap {P : Program} (w : World) {ops : Array Oper} {rest : List Oper} {o : Oper} {a : Act} {Q : Exit → Act → World → Prop}
    (hg : o.guard = none) (m x : Operand) (t : TypeId) (hop : o.op = Op.lookup t m x true) {kt et : TypeId} {z : Value} {b : Nat} {L : List (Int × Value)}
    (hm : a.eval m = .map (some b)) (h : IMap w b L) (hmt : P.underlying t = some (.map kt et)) (hk : P.underlying kt = some (.int .i64))
    (hz : (zeroValue et).run P w = .ok z w) (k : Int) (hx : a.eval x = .int .i64 k)
    (hK : wpList P ops Q rest (a.put o.dst (.tuple #[(look k L).getD z, .bool (look k L).isSome])) w) :
    wpList P ops Q (o :: rest) a w := by
  refine wpList_plain hg fun K' hK' => ?_
  have hrun := h.lookup hmt hk hz k
  unfold Oper.wp
  simp [execOp, hop, hm, hx, hrun, Result.andThen]
  exact hK' _ _ hK
theorem wpList_update_imap {P : Program} (w : World) {ops : Array Oper} {rest : List Oper} {o : Oper} {a : Act} {Q : Exit → Act → World → Prop}
    (hg : o.guard = none) (m x v : Operand) (t : TypeId) (hop : o.op = Op.mapUpdate t m x v ∨ o.op = Op.insert t m x v) {kt et : TypeId} {b : Nat} {L : List (Int × Value)}
    (hm : a.eval m = .map (some b)) (h : IMap w b L) (hmt : P.underlying t = some (.map kt et)) (hk : P.underlying kt = some (.int .i64))
    (k : Int) (hx : a.eval x = .int .i64 k) (hn : look k L = none)
    (hK : ∀ w', IMap w' b (L ++ [(k, a.eval v)]) → w.grownBy w' (some b) → wpList P ops Q rest (a.put o.dst undef) w') :
    wpList P ops Q (o :: rest) a w := by
  refine wpList_plain hg fun K' hK' => ?_
  obtain ⟨w', hrun, r1, r2⟩ := h.update hmt hk k (a.eval v) hn
  unfold Oper.wp
  rcases hop with hop | hop <;>
  · simp [execOp, hop, hm, hx, hrun, Result.andThen]
    exact hK' _ _ (hK w' r1 r2)
end Go.Proofs.Ythdfomcpoofkaaa

/- A number goes into a list of numbers, each once; what other lists lie beside is kept. (As TyF, in a seat without Depth.) -/
namespace Go.Proofs.Ythdfomcpoofkaaa
open Go.RowKit

def addN (L : List Int) (n : Int) : List Int := if n ∈ L then L else L ++ [n]
def setL (L : List Int) : List (Int × Value) := L.map fun n => (n, .agg #[])
theorem look_set (n : Int) : ∀ L, look n (setL L) = if n ∈ L then some (.agg #[]) else none
  | [] => rfl
  | m :: L => by
    have ih := look_set n L
    unfold setL at ih ⊢
    simp only [List.map_cons, look]
    by_cases h : n = m
    · simp [h]
    · rw [if_neg h, ih]
      simp [h]
theorem info_intF : (Try.prog.info? 3).map (fun i => (i.zero, i.size, i.bytes)) = some (some (.int .i64 0), 1, 8) := by kernel_rfl
/-- All but some blocks lie as they lay. -/
structure Fr (S : Nat → Prop) (w w' : World) : Prop where
  os : w'.os = w.os
  tape : w'.tape = w.tape
  output : w'.output = w.output
  size : w.heap.size ≤ w'.heap.size
  block : ∀ i, i < w.heap.size → ¬ S i → w'.heap[i]? = w.heap[i]?
set_option maxRecDepth 100000 in
set_option maxHeartbeats 4000000 in
theorem numAdd2_any (W : World) (bg o b B : Nat) (cs : Array Value) (L : List Int) (A0 : Option Addr) (m0 c0 : Nat) (n : Int) (hl : Lies W bg 123 cs) (ho : cs[o]? = some (.map (some b))) (ho1 : cs[o + 1]? = some (.slice A0 m0 c0)) (hm : IMap W b (setL L))
    (hown : W.ownsRow B 3 1 (.slice A0 m0 c0) L.length (L.map fun i => .int .i64 i)) (hb : b < B) (hbg : bg < B) (hne : b ≠ bg) (hL : L.length ≤ 100000000) (hB : B ≤ W.heap.size) :
    Calls Try.prog 76 #[.pointer (some ⟨bg, o, none⟩), .int .i64 n] W fun e W' => e = .returned (.tuple #[]) ∧ ∃ A k c, Lies W' bg 123 (cs.setIfInBounds (o + 1) (.slice A k c)) ∧ IMap W' b (setL (addN L n)) ∧
      W'.ownsRow B 3 1 (.slice A k c) (addN L n).length ((addN L n).map fun i => .int .i64 i) ∧ (Value.ownBlock (.slice A k c) = Value.ownBlock (.slice A0 m0 c0) ∨ ∃ q, W.heap.size ≤ q ∧ Value.ownBlock (.slice A k c) = some q) ∧ Fr (fun g => g = b ∨ g = bg ∨ Value.ownBlock (.slice A0 m0 c0) = some g) W W' := by
  obtain ⟨i0, hi, hz0, hz1, hz2⟩ := info_parts info_intF
  have hzu := zero_unit W
  have d0 := hl.cell o
  have d1 := hl.cell (o + 1)
  rw [ho] at d0
  rw [ho1] at d1
  have hbn := below_new W (.cells #[] 117)
  have hblt := hm.lt
  have hglt := hl.lt
  by_cases hmem : n ∈ L
  · have hlk := look_set n L
    rw [if_pos hmem] at hlk
    go_enter Try.func76, Try.ntmps76
    go_wp2_with (at_lookup; refine wpList_lookup_imap _ rfl (.tmp 10) (.tmp 11) 88 rfl rfl hm Try.underlying88 Try.underlying3 hzu n rfl ?_; rw [hlk])
    go_end0
    have hadd : addN L n = L := if_pos hmem
    rw [hadd]
    have hset : cs.setIfInBounds (o + 1) (.slice A0 m0 c0) = cs := by
      apply Array.ext_getElem?
      intro j
      rw [Array.getElem?_setIfInBounds]
      split
      · rename_i h; subst h
        split
        · rw [ho1]
        · rename_i h2; rw [Array.getElem?_eq_none (by omega)]
      · rfl
    exact ⟨rfl, A0, m0, c0, by rw [hset]; exact hl.later hbn, hm.keep (hbn.block _ hblt), own_later hown hbn, .inl rfl, hbn.os, hbn.tape, hbn.output, hbn.size, fun i h _ => hbn.block i h⟩
  · have hlk := look_set n L
    rw [if_neg hmem] at hlk
    have hm1 := hm.keep (hbn.block _ hblt)
    have hl1 := hl.later hbn
    have hown1 := own_later hown hbn
    have x0 := hl1.cell o
    have x1 := hl1.cell (o + 1)
    rw [ho] at x0
    rw [ho1] at x1
    have hone : ∀ u ∈ [Value.int .i64 n], u.oneCell' = true := by simp [Value.oneCell']
    have hadd : addN L n = L ++ [n] := if_neg hmem
    go_enter Try.func76, Try.ntmps76
    go_wp2_with (first
      | (at_lookup; refine wpList_lookup_imap _ rfl (.tmp 10) (.tmp 11) 88 rfl rfl hm Try.underlying88 Try.underlying3 hzu n rfl ?_; rw [hlk])
      | (at_mapUpdate; go_loud (refine wpList_update_imap _ rfl (.tmp 20) (.tmp 21) (.tmp 22) 88 (.inl rfl) rfl hm1 Try.underlying88 Try.underlying3 n rfl hlk ?_); intro w1 hm2 hg1; have l2 := hl1.grown hg1 (fun e => by injection e with e; omega); have y0 := l2.cell o; have y1 := l2.cell (o + 1); rw [ho] at y0; rw [ho1] at y1; have z1 := l2.free (o + 1); have own1 := own_same hown1 (w' := w1) (fun g hg hlt => hg1.block g hlt (fun e => by injection e with e; omega)); have hsz1 := hg1.size)
      | (at_builtin; go_loud (refine wpList_append_own_at _ rfl (.tmp 27) (.tmp 29) 39 rfl B 3 i0 (.int .i64 0) 1 8 Try.underlying39 hi hz0 hz1 hz2 rfl (by decide) _ L.length (L.map fun i => .int .i64 i) rfl (own_later own1 (below_new w1 (.cells #[.int .i64 n] 3))) ⟨w1.heap.size, 0, none⟩ 1 1 [.int .i64 n] rfl rfl (new_cells _ _ _ rfl) hone (by unfold maxLen; omega) (by omega) (by have := hbn.size; simp; omega) ?_)))
    intro v' w2 hown2 hgr _ hat
    obtain ⟨A9, k9, c9, rfl⟩ := own_slice hown2
    have hrow : ∀ q, Value.ownBlock (.slice A0 m0 c0) = some q → B ≤ q := fun q hq => (own_block hown q hq).1
    have l3 := (l2.alloc (.cells #[.int .i64 n] 3)).grown hgr (fun e => by have := hrow _ e.symm; omega)
    have e3 := l3.cell (o + 1)
    rw [ho1] at e3
    have g3 := l3.free (o + 1)
    go_wp2_with fail
    go_end0
    have hs0 := hbn.size
    have hblk : ∀ g, g < W.heap.size → ¬ (g = b ∨ g = bg ∨ Value.ownBlock (.slice A0 m0 c0) = some g) → (w2.setCell ⟨bg, o + 1, none⟩ (.slice A9 k9 c9)).heap[g]? = W.heap[g]? := by
      intro g hlt hng
      rw [Below.heap_setCell _ _ _ _ (by show g ≠ bg; omega), hgr.block g (by simp; omega) (fun e => hng (.inr (.inr e.symm))), Below.heap_alloc w1 _ g (by omega), hg1.block g (by omega) (fun e => by injection e with e; omega), hbn.block g hlt]
    refine ⟨rfl, A9, k9, c9, l3.set (o + 1) _, ?_, ?_, hat.imp id (fun h => ⟨_, by have hss := hg1.size; simp only [World.size_alloc] at hss ⊢; omega, h⟩), ?_⟩
    · rw [hadd]
      refine IMap.keep (w := w1) ?_ ?_
      · unfold setL at hm2 ⊢
        rw [List.map_append]
        exact hm2
      · rw [Below.heap_setCell _ _ _ _ (by show b ≠ bg; omega), hgr.block b (by simp; omega) (fun e => by have := hrow _ e.symm; omega), Below.heap_alloc w1 _ b (by omega)]
    · rw [hadd, List.length_append, List.map_append]
      exact own_same hown2 fun g hg _ => Below.heap_setCell _ _ _ _ (by show g ≠ bg; omega)
    · refine ⟨?_, ?_, ?_, ?_, hblk⟩
      · exact hgr.os.trans (hg1.os.trans hbn.os)
      · exact hgr.tape.trans (hg1.tape.trans hbn.tape)
      · exact hgr.output.trans (hg1.output.trans hbn.output)
      · have := hgr.size
        simp [World.setCell] at *
        omega
end Go.Proofs.Ythdfomcpoofkaaa
