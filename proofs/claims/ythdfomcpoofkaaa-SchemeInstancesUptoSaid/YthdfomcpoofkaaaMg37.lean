/- Package scheme: a row becomes another one, where row variables may be bound. -/
import Derived.Test.YthdfomcpoofkaaaSiMo
import Derived.Test.YthdfomcpoofkaaaMg14
import Derived.Test.YthdfomcpoofkaaaMg18
import Derived.Outline
namespace Go.Proofs.Ythdfomcpoofkaaa.Si
open Go.RowKit

set_option maxRecDepth 100000 in
set_option maxHeartbeats 40000000 in
theorem mrow_said (w : World) (p : Nat) (s1 s2 : Value) (l : List Value) (hl6 : l.length = 6) (bk br : Nat) (v1 v2 td : Value) (bm : Nat) (hl : Lies w p 97 (matC s1 s2 l bk br v1 v2 td bm)) (m : Nat) (T : Int → Option Ty) (Q : Int → Option (List Str × Int)) (hs : SubV w (.agg #[v1, v2]) m T Q) (hm : m ≤ 1000000)
    (K : List Int) (qr : Nat) (hr : MapI w 0 br qr (inG K)) (fv tv : Value) (ls ms : List Str) (rv ru : Int) (hf : StrR w fv ls) (ht : StrR w tv ms) (hrv : i64ok rv) (hsrt : Rw.sortS ls = ls) (h0 : rv ≠ 0) (xs : List Str) (hqn : Q rv = some (xs, ru)) (hms : ms = Rw.sortS (ls ++ xs)) :
    Calls Try.prog 79 #[.pointer (some ⟨p, 0, none⟩), .agg #[fv, .int .i64 rv], .agg #[tv, .int .i64 ru]] w fun e w' => e = .returned (.bool true) ∧ Below w.heap.size w w' := by
  have HQS := Lib.hid (show (Q rv).isSome = true by rw [hqn]; rfl)
  have HQN := Lib.hid hqn
  clear hqn
  have hlx : ls.length + xs.length ≤ 2000000 := by have := ht.2; rw [hms, Rw.sortS_len, List.length_append] at this; exact this
  obtain ⟨x0, x1, x2, x3, x4, x5, rfl⟩ : ∃ a b c d e f, l = [a, b, c, d, e, f] := by
    match l, hl6 with
    | [a, b, c, d, e, f], _ => exact ⟨a, b, c, d, e, f, rfl⟩
  have hlen := hf.2
  have hlen2 := ht.2
  obtain ⟨W, hW⟩ : ∃ W, W = (w.alloc (.cells #[fv, .int .i64 rv] 26)).alloc (.cells #[tv, .int .i64 ru] 26) := ⟨_, rfl⟩
  have hb : Below w.heap.size w W := by rw [hW]; exact ((Below.refl _ w).alloc (Nat.le_refl _) _).alloc (by simp) _
  have k1 : Lies W w.heap.size 26 #[fv, .int .i64 rv] := by rw [hW]; exact (Lies.new _ _ _).alloc _
  have k2 : Lies W (w.heap.size + 1) 26 #[tv, .int .i64 ru] := by rw [hW]; exact Lies.new' _ _ _ (by simp)
  have hsz : W.heap.size = w.heap.size + 2 := by rw [hW]; simp
  have hso := Rw.sorted_any fv ls rv W (.of (hf.keep hb.block)) (by omega)
  rw [hsrt] at hso
  have q0 := k1.cell 0
  have q1 := k1.cell 1
  have HW := Lib.hid hW
  have HB := Lib.hid hb
  have HK1 := Lib.hid k1
  have HK2 := Lib.hid k2
  have HSZ := Lib.hid hsz
  have HSO := Lib.hid hso
  have HL := Lib.hid hl
  have HS := Lib.hid hs
  have HR := Lib.hid hr
  have HT := Lib.hid ht
  have HF := Lib.hid hf
  have hpl := hl.lt
  clear hW hb k1 k2 hsz hso hl hs hr
  obtain ⟨Af, nf, cf, rfl⟩ : ∃ A n c, fv = .slice A n c := by rcases hf.1 with ⟨rfl, _⟩ | ⟨_, _, rfl, _⟩ <;> exact ⟨_, _, _, rfl⟩
  obtain ⟨At, nt, ct, rfl⟩ : ∃ A n c, tv = .slice A n c := by rcases ht.1 with ⟨rfl, _⟩ | ⟨_, _, rfl, _⟩ <;> exact ⟨_, _, _, rfl⟩
  clear hf ht
  go_enter Try.func79, Try.ntmps79
  go_wp2_with fail
  rw [← HW.out]
  refine HSO.out.mono ?_
  rintro e w1 ⟨u1, rfl, ho1, hb1⟩
  obtain ⟨A1, n1, c1, rfl⟩ := ho1.slice
  unfold Rw.rowV
  have m1 := HK1.out.later hb1
  have f0 := m1.free 0
  have f1 := m1.free 1
  have g0 := m1.cell 0
  have g1 := m1.cell 1
  have hB1 : Below w.heap.size w w1 := HB.out.trans (hb1.mono HB.out.size)
  have HO1 := Lib.hid ho1
  have HM1 := Lib.hid m1
  have HB1 := Lib.hid hB1
  have HBW := Lib.hid hb1
  have hsw1 := hb1.size
  clear ho1 m1 hB1 hb1 q0 q1 HSO
  go_wp2_with fail
  obtain ⟨w2, hw2⟩ : ∃ w2, w2 = (w1.setCell ⟨w.heap.size, 0, none⟩ (.slice A1 n1 c1)).setCell ⟨w.heap.size, 1, none⟩ (.int .i64 rv) := ⟨_, rfl⟩
  have hsw := HSZ.out
  have m2 : Lies w2 w.heap.size 26 #[.slice A1 n1 c1, .int .i64 rv] := by rw [hw2]; exact (HM1.out.set 0 (.slice A1 n1 c1)).set 1 (.int .i64 rv)
  have hs2 : w2.heap.size = w1.heap.size := by rw [hw2]; simp [World.size_setCell]
  have hoth : ∀ g, g ≠ w.heap.size → w2.heap[g]? = w1.heap[g]? := fun g hg => by rw [hw2]; exact (Below.heap_setCell _ ⟨w.heap.size, 1, none⟩ _ g hg).trans (Below.heap_setCell _ ⟨w.heap.size, 0, none⟩ _ g hg)
  have hb2 : Below w.heap.size w w2 := HB1.out.trans (by rw [hw2]; exact ((Below.refl _ w1).setCell (p := ⟨w.heap.size, 0, none⟩) (Nat.le_refl _) _).setCell (p := ⟨w.heap.size, 1, none⟩) (Nat.le_refl _) _)
  have hk2 : Lies w2 (w.heap.size + 1) 26 #[.slice At nt ct, .int .i64 ru] := (hoth _ (by omega)).trans (HK2.out.later HBW.out)
  have ho2 : Rw.OwnS w2 W.heap.size (.slice A1 n1 c1) ls := HO1.out.keep fun g hg _ => hoth g (by omega)
  have HW2 := Lib.hid hw2
  have HM2 := Lib.hid m2
  have HS2 := Lib.hid hs2
  have HB2 := Lib.hid hb2
  have HKK2 := Lib.hid hk2
  have HO2 := Lib.hid ho2
  have hlp := HL.out.later hb2
  have hd0 : Below w2.heap.size w2 w2.drew := (Below.refl _ _).drew
  have hd1 : Below w2.heap.size w2 (w2.alloc (.cells #[.slice none 0 0, .int .i64 0] 26)).drew := (below_new w2 _).drew
  have HSV := Lib.hid (fun V (hV : Below w2.heap.size w2 V) => (HS.out.later hb2).later hV)
  have hSS : ∀ V, Below w2.heap.size w2 V → V.cell? ⟨p, 10, none⟩ = some v1 ∧ V.cell? ⟨p, 11, none⟩ = some v2 ∧ V.cell? ⟨p, 9, none⟩ = some (.map (some br)) ∧ V.cell? ⟨w.heap.size, 0, none⟩ = some (.slice A1 n1 c1) ∧ V.cell? ⟨w.heap.size, 1, none⟩ = some (.int .i64 rv) ∧ V.cell? ⟨w.heap.size + 1, 0, none⟩ = some (.slice At nt ct) ∧ V.cell? ⟨w.heap.size + 1, 1, none⟩ = some (.int .i64 ru) := fun V hV =>
    ⟨(hV.cell (p := ⟨p, 10, none⟩) hlp.lt).trans (hlp.cell 10), (hV.cell (p := ⟨p, 11, none⟩) hlp.lt).trans (hlp.cell 11), (hV.cell (p := ⟨p, 9, none⟩) hlp.lt).trans (hlp.cell 9), (hV.cell (p := ⟨w.heap.size, 0, none⟩) m2.lt).trans (m2.cell 0), (hV.cell (p := ⟨w.heap.size, 1, none⟩) m2.lt).trans (m2.cell 1), (hV.cell (p := ⟨w.heap.size + 1, 0, none⟩) hk2.lt).trans (hk2.cell 0), (hV.cell (p := ⟨w.heap.size + 1, 1, none⟩) hk2.lt).trans (hk2.cell 1)⟩
  have HSS := Lib.hid hSS
  clear hw2 m2 hs2 hoth hb2 hk2 ho2 hlp hSS g0 g1 f0 f1
  rw [← HW2.out]
  go_region_held3 (fun V => V.cell? ⟨p, 10, none⟩ = some v1 ∧ V.cell? ⟨p, 11, none⟩ = some v2 ∧ V.cell? ⟨p, 9, none⟩ = some (.map (some br)) ∧ V.cell? ⟨w.heap.size, 0, none⟩ = some (.slice A1 n1 c1) ∧ V.cell? ⟨w.heap.size, 1, none⟩ = some (.int .i64 rv) ∧ V.cell? ⟨w.heap.size + 1, 0, none⟩ = some (.slice At nt ct) ∧ V.cell? ⟨w.heap.size + 1, 1, none⟩ = some (.int .i64 ru))
    (first | with_reducible exact HSS.out _ hd0 | with_reducible exact HSS.out _ hq7 | exact HSS.out _ hd1 | exact HSS.out _ (hq7.trans ((below_new w7 _).mono hq7.size)) | exact HSS.out _ (hq7.trans (((Below.refl w2.heap.size w7).setCell (p := ⟨w2.heap.size, 0, none⟩) (Nat.le_refl _) _).setCell (p := ⟨w2.heap.size, 1, none⟩) (Nat.le_refl _) _)))
    (first | (go_at_call 14; refine (row_any w2.drew _ m T Q (HSV.out _ hd0) hm rv hrv).mono ?_; rintro e w7 ⟨l7, rfl, ⟨lv7, rfl, hs7, _⟩, hb7⟩; have hq7 : Below w2.heap.size w2 w7 := hd0.trans hb7; obtain ⟨A7, n7, c7, rfl⟩ : ∃ A n c, lv7 = .slice A n c := (by rcases hs7.1 with ⟨rfl, _⟩ | ⟨_, _, rfl, _⟩ <;> exact ⟨_, _, _, rfl⟩); have hz7 : (Q rv).isSome = true := HQS.out; rw [hz7]; clear hs7 hb7) | (go_at_call 14; refine (row_any (w2.alloc (.cells #[.slice none 0 0, .int .i64 0] 26)).drew _ m T Q (HSV.out _ hd1) hm rv hrv).mono ?_; rintro e w7 ⟨l7, rfl, ⟨lv7, rfl, hs7, _⟩, hb7⟩; have hq7 : Below w2.heap.size w2 w7 := hd1.trans (hb7.mono hd1.size); have l7x : Lies w7 w2.heap.size 26 #[.slice none 0 0, .int .i64 0] := Lies.later (w := (w2.alloc (.cells #[.slice none 0 0, .int .i64 0] 26)).drew) (Lies.new w2 26 #[.slice none 0 0, .int .i64 0]) hb7; have x70 := l7x.cell 0; have x71 := l7x.cell 1; have y70 := l7x.free 0; have y71 := l7x.free 1; have z7 := l7x.lt; obtain ⟨A7, n7, c7, rfl⟩ : ∃ A n c, lv7 = .slice A n c := (by rcases hs7.1 with ⟨rfl, _⟩ | ⟨_, _, rfl, _⟩ <;> exact ⟨_, _, _, rfl⟩); have hz7 : (Q rv).isSome = true := HQS.out; rw [hz7]; clear hs7 hb7))
  all_goals
    first
      | (obtain ⟨X, hX⟩ : ∃ X, X = w7.alloc (.cells #[.slice A7 n7 c7, .int .i64 ((Q rv).getD zRw).snd] 26) := ⟨_, rfl⟩
         have hBX : Below w2.heap.size w2 X := by rw [hX]; exact hq7.trans ((below_new w7 _).mono hq7.size)
         rw [← hX])
      | (obtain ⟨X, hX⟩ : ∃ X, X = (w7.setCell ⟨w2.heap.size, 0, none⟩ (.slice A7 n7 c7)).setCell ⟨w2.heap.size, 1, none⟩ (.int .i64 ((Q rv).getD zRw).snd) := ⟨_, rfl⟩
         have hBX : Below w2.heap.size w2 X := by rw [hX]; exact hq7.trans (((Below.refl w2.heap.size w7).setCell (p := ⟨w2.heap.size, 0, none⟩) (Nat.le_refl _) _).setCell (p := ⟨w2.heap.size, 1, none⟩) (Nat.le_refl _) _)
         rw [← hX])
    have HXX := Lib.hid hX
    clear hX
    have hx0 : Below w2.heap.size w2 X.drew := hBX.drew
    go_wp2_with fail
    refine wp_region_held_drew (S := (fun V => V.cell? ⟨p, 10, none⟩ = some v1 ∧ V.cell? ⟨p, 11, none⟩ = some v2 ∧ V.cell? ⟨p, 9, none⟩ = some (.map (some br)) ∧ V.cell? ⟨w.heap.size, 0, none⟩ = some (.slice A1 n1 c1) ∧ V.cell? ⟨w.heap.size, 1, none⟩ = some (.int .i64 rv) ∧ V.cell? ⟨w.heap.size + 1, 0, none⟩ = some (.slice At nt ct) ∧ V.cell? ⟨w.heap.size + 1, 1, none⟩ = some (.int .i64 ru))) (by kernel_rfl) ?_ (fun hHeld => ?_)
    · exact HSS.out _ hx0
    refine wpAnyH_take (i := 0) (oi := ⟨some 21, _, _, _, _, _⟩) (v := ?_) rfl (by kernel_rfl) (by kernel_rfl) (by kernel_rfl) (fun _ _ _ h => h) (Or.inl ⟨by kernel_rfl, ?_⟩) (by assumption) ?_
    rotate_left
    · (intro w' hSw; (try dsimp only at hSw); go_split_ands; go_simp; first | done | with_reducible rfl)
    try simp only [Act.put, List.setIfInBounds_toArray, List.set_cons_zero, List.set_cons_succ]
    refine wpAnyH_take (i := 1) (oi := ⟨some 22, _, _, _, _, _⟩) (v := ?_) rfl (by kernel_rfl) (by kernel_rfl) (by kernel_rfl) (fun _ _ _ h => h) (Or.inl ⟨by kernel_rfl, ?_⟩) (by assumption) ?_
    rotate_left
    · (intro w' hSw; (try dsimp only at hSw); go_split_ands; go_simp; first | done | with_reducible rfl)
    try simp only [Act.put, List.setIfInBounds_toArray, List.set_cons_zero, List.set_cons_succ]
    refine wpAnyH_take (i := 2) (oi := ⟨some 23, _, _, _, _, _⟩) (v := ?_) rfl (by kernel_rfl) (by kernel_rfl) (by kernel_rfl) (fun _ _ _ h => h) (Or.inl ⟨by kernel_rfl, ?_⟩) (by assumption) ?_
    rotate_left
    · (intro w' hSw; (try dsimp only at hSw); go_split_ands; go_simp; first | done | with_reducible rfl)
    try simp only [Act.put, List.setIfInBounds_toArray, List.set_cons_zero, List.set_cons_succ]
    refine wpAnyH_take (i := 3) (oi := ⟨some 24, _, _, _, _, _⟩) (v := undef) rfl (by kernel_rfl) (by kernel_rfl) (by kernel_rfl) (fun _ _ _ h => h) (Or.inr ⟨by kernel_rfl, rfl⟩) (by assumption) ?_
    try simp only [Act.put, List.setIfInBounds_toArray, List.set_cons_zero, List.set_cons_succ]
    refine wpAnyH_take (i := 4) (oi := ⟨some 25, _, _, _, _, _⟩) (v := undef) rfl (by kernel_rfl) (by kernel_rfl) (by kernel_rfl) (fun _ _ _ h => h) (Or.inr ⟨by kernel_rfl, rfl⟩) (by assumption) ?_
    try simp only [Act.put, List.setIfInBounds_toArray, List.set_cons_zero, List.set_cons_succ]
    refine wpAnyH_take (i := 5) (oi := ⟨some 26, _, _, _, _, _⟩) (v := undef) rfl (by kernel_rfl) (by kernel_rfl) (by kernel_rfl) (fun _ _ _ h => h) (Or.inr ⟨by kernel_rfl, rfl⟩) (by assumption) ?_
    try simp only [Act.put, List.setIfInBounds_toArray, List.set_cons_zero, List.set_cons_succ]
    refine wpAnyH_take (i := 6) (oi := ⟨some 27, _, _, _, _, _⟩) (v := undef) rfl (by kernel_rfl) (by kernel_rfl) (by kernel_rfl) (fun _ _ _ h => h) (Or.inr ⟨by kernel_rfl, rfl⟩) (by assumption) ?_
    try simp only [Act.put, List.setIfInBounds_toArray, List.set_cons_zero, List.set_cons_succ]
    refine wpAnyH_take (i := 7) (oi := ⟨some 28, _, _, _, _, _⟩) (v := undef) rfl (by kernel_rfl) (by kernel_rfl) (by kernel_rfl) (fun _ _ _ h => h) (Or.inr ⟨by kernel_rfl, rfl⟩) (by assumption) ?_
    try simp only [Act.put, List.setIfInBounds_toArray, List.set_cons_zero, List.set_cons_succ]
    refine wpAnyH_take (i := 8) (oi := ⟨some 29, _, _, _, _, _⟩) (v := undef) rfl (by kernel_rfl) (by kernel_rfl) (by kernel_rfl) (fun _ _ _ h => h) (Or.inr ⟨by kernel_rfl, rfl⟩) (by assumption) ?_
    try simp only [Act.put, List.setIfInBounds_toArray, List.set_cons_zero, List.set_cons_succ]
    refine wpAnyH_take (i := 9) (oi := ⟨some 30, _, _, _, _, _⟩) (v := undef) rfl (by kernel_rfl) (by kernel_rfl) (by kernel_rfl) (fun _ _ _ h => h) (Or.inr ⟨by kernel_rfl, rfl⟩) (by assumption) ?_
    try simp only [Act.put, List.setIfInBounds_toArray, List.set_cons_zero, List.set_cons_succ]
    refine wpAnyH_take (i := 10) (oi := ⟨some 31, _, _, _, _, _⟩) (v := ?_) rfl (by kernel_rfl) (by kernel_rfl) (by kernel_rfl) (fun _ _ _ h => h) (Or.inl ⟨by kernel_rfl, ?_⟩) (by assumption) ?_
    rotate_left
    · (intro w' hSw; (try dsimp only at hSw); go_split_ands; go_simp; first | done | with_reducible rfl)
    try simp only [Act.put, List.setIfInBounds_toArray, List.set_cons_zero, List.set_cons_succ]
    refine wpAnyH_done (by kernel_rfl) ?_ _
    obtain ⟨w8, hw8⟩ : ∃ w8, w8 = X.drew := ⟨_, rfl⟩
    have hq8 : Below w2.heap.size w2 w8 := by rw [hw8]; exact hx0
    rw [← hw8]
    clear hw8
    have hx9 : Below w2.heap.size w2 w8.drew := hq8.drew
    have hxf := HO2.out.later hx9
    have hap := applyRow_said w8.drew (.agg #[v1, v2]) m T Q (HSV.out _ hx9) hm (.slice A1 n1 c1) ls rv ⟨own_row_src (w := w8.drew) hxf.own, hlen⟩ hrv xs ru (by unfold insR; rw [if_neg h0]; exact HQN.out) hlx
    have HAP := Lib.hid hap
    clear hap hxf
    go_wp2_with fail
    go_region_held3 (fun V => V.cell? ⟨p, 10, none⟩ = some v1 ∧ V.cell? ⟨p, 11, none⟩ = some v2 ∧ V.cell? ⟨p, 9, none⟩ = some (.map (some br)) ∧ V.cell? ⟨w.heap.size, 0, none⟩ = some (.slice A1 n1 c1) ∧ V.cell? ⟨w.heap.size, 1, none⟩ = some (.int .i64 rv) ∧ V.cell? ⟨w.heap.size + 1, 0, none⟩ = some (.slice At nt ct) ∧ V.cell? ⟨w.heap.size + 1, 1, none⟩ = some (.int .i64 ru))
      (first | with_reducible exact HSS.out _ hx9 | with_reducible exact HSS.out _ hq9 | with_reducible exact HSS.out _ hq10)
      (first | (go_at_call 73; refine HAP.out.mono ?_; rintro e w9 ⟨v9, rfl, ho9, hb9⟩; have hq9 : Below w2.heap.size w2 w9 := hx9.trans (hb9.mono hx9.size); have hst := Rw.Strs.of (ho9.str (by rw [Rw.sortS_len, List.length_append]; omega)); have HST := Lib.hid hst; obtain ⟨A9, n9, c9, rfl⟩ := own_slice ho9; clear ho9 hst) | (go_at_call 84; refine (Rw.sameRow_any _ _ _ ms _ ru w9 HST.out (Rw.Strs.of (HT.out.keep (HB2.out.trans (hq9.mono HB2.out.size)).block)) (by rw [Rw.sortS_len, List.length_append]; omega) (by omega)).mono ?_; rintro e w10 ⟨rfl, hb10⟩; have hq10 : Below w2.heap.size w2 w10 := hq9.trans (hb10.mono hq9.size)))
    go_wp2_with fail
    go_ret
    exact ⟨ret_bool (by simp [hms]), HB2.out.trans (hq10.mono HB2.out.size)⟩
end Go.Proofs.Ythdfomcpoofkaaa.Si

/- Package scheme: a row becomes another one, and so says what stands in the stead of its variable. -/
namespace Go.Proofs.Ythdfomcpoofkaaa.Si
open Go.RowKit

def RowEnd (BX : Nat → Prop) (w : World) (p : Nat) (s1 s2 : Value) (l : List Value) (bk br : Nat) (td : Value) (bm m : Nat) (T : Int → Option Ty) (Q : Int → Option (List Str × Int)) (e : Ending) (w' : World) : Prop :=
  ∃ v1 v2, e = .returned (.bool true) ∧ Lies w' p 97 (matC s1 s2 l bk br v1 v2 td bm) ∧ (∀ wf, Kept (fun b => BX b ∧ b < w.heap.size) w' wf → SubV wf (.agg #[v1, v2]) m T Q) ∧ Chg2 p p (.slice none 0 0) w w'
set_option maxRecDepth 100000 in
set_option maxHeartbeats 40000000 in
theorem mrow_new (BX : Nat → Prop) (w : World) (p : Nat) (hBp : BX p) (s1 s2 : Value) (l : List Value) (hl6 : l.length = 6) (bk br : Nat) (v1 v2 td : Value) (bm : Nat) (hl : Lies w p 97 (matC s1 s2 l bk br v1 v2 td bm)) (m : Nat) (T : Int → Option Ty) (Q : Int → Option (List Str × Int)) (hsB : SubV (blank BX w) (.agg #[v1, v2]) m T Q) (hm1 : m ≤ 1000)
    (K : List Int) (qr : Nat) (hr : MapI w 0 br qr (inG K)) (fv tv : Value) (ls ms : List Str) (rv ru : Int) (hf : StrR w fv ls) (htB : ∀ Y : World, (∀ g, g < w.heap.size → g ≠ p → Y.heap[g]? = w.heap[g]?) → StrR Y tv ms) (hrv : i64ok rv) (hsrt : Rw.sortS ls = ls) (h0 : rv ≠ 0) (hK : rv ∈ K) (hqn : Q rv = none) (hru : i64ok ru) (xs : List Str) (hxs : Rw.sortS xs = xs) (hms : ms = Rw.sortS (ls ++ xs)) :
    Calls Try.prog 79 #[.pointer (some ⟨p, 0, none⟩), .agg #[fv, .int .i64 rv], .agg #[tv, .int .i64 ru]] w (RowEnd BX w p s1 s2 l bk br td bm (m + 1) T (setF Q rv (xs, ru))) := by
  have hm : m ≤ 1000000 := by omega
  have ht := htB w (fun _ _ _ => rfl)
  have HTB := Lib.hid htB
  clear htB
  have hs : SubV w (.agg #[v1, v2]) m T Q := hsB.keepL (blank_to (Y := fun _ => False) (Kept.of_below (Below.refl _ _)) (fun _ _ h => h.elim))
  have hsb : ∀ w', Below w.heap.size w w' → SubV (blank (fun b => BX b ∨ w.heap.size ≤ b) w') (.agg #[v1, v2]) m T Q := fun w' hb => hsB.keepL (blank_more hb)
  obtain ⟨Av, nv, cv, rfl⟩ : ∃ A n c, v1 = .slice A n c := by
    obtain ⟨vt, vr, gt, gr, h1, h2, h3, _⟩ := hs
    injection h1 with h1
    simp only [Array.mk.injEq, List.cons.injEq] at h1
    obtain ⟨A, n, c, h⟩ := h2.one
    exact ⟨A, n, c, h1.1.trans h⟩
  obtain ⟨Aw, nw, cw, rfl⟩ : ∃ A n c, v2 = .slice A n c := by
    obtain ⟨vt, vr, gt, gr, h1, h2, h3, _⟩ := hs
    injection h1 with h1
    simp only [Array.mk.injEq, List.cons.injEq] at h1
    obtain ⟨A, n, c, h⟩ := h3.one
    exact ⟨A, n, c, h1.2.1.trans h⟩
  have HQS := Lib.hid (show (Q rv).isSome = false by rw [hqn]; rfl)
  clear hqn
  have hll : ls.length + xs.length ≤ 2000000 := by have := ht.2; rw [hms, Rw.sortS_len, List.length_append] at this; exact this
  have HLL := Lib.hid hll
  have HLX := Lib.hid (show xs.length ≤ 2000000 by omega)
  have HXS := Lib.hid (show moreS ms ls = xs by rw [hms]; exact more_sort (srt_of hsrt) (srt_of hxs))
  have HSB := Lib.hid hsb
  have HMM := Lib.hid hm1
  have HRU := Lib.hid hru
  have HMS := Lib.hid hms
  have HBP := Lib.hid hBp
  have HPL := Lib.hid hl.lt
  have HLEN := Lib.hid hf.2
  have HLEN2 := Lib.hid ht.2
  clear hll hsb hru hms hBp hm1 hsB
  obtain ⟨x0, x1, x2, x3, x4, x5, rfl⟩ : ∃ a b c d e f, l = [a, b, c, d, e, f] := by
    match l, hl6 with
    | [a, b, c, d, e, f], _ => exact ⟨a, b, c, d, e, f, rfl⟩
  have hlen := hf.2
  have hlen2 := ht.2
  obtain ⟨W, hW⟩ : ∃ W, W = (w.alloc (.cells #[fv, .int .i64 rv] 26)).alloc (.cells #[tv, .int .i64 ru] 26) := ⟨_, rfl⟩
  have hb : Below w.heap.size w W := by rw [hW]; exact ((Below.refl _ w).alloc (Nat.le_refl _) _).alloc (by simp) _
  have k1 : Lies W w.heap.size 26 #[fv, .int .i64 rv] := by rw [hW]; exact (Lies.new _ _ _).alloc _
  have k2 : Lies W (w.heap.size + 1) 26 #[tv, .int .i64 ru] := by rw [hW]; exact Lies.new' _ _ _ (by simp)
  have hsz : W.heap.size = w.heap.size + 2 := by rw [hW]; simp
  have hso := Rw.sorted_any fv ls rv W (.of (hf.keep hb.block)) (by omega)
  rw [hsrt] at hso
  have q0 := k1.cell 0
  have q1 := k1.cell 1
  have HW := Lib.hid hW
  have HB := Lib.hid hb
  have HK1 := Lib.hid k1
  have HK2 := Lib.hid k2
  have HSZ := Lib.hid hsz
  have HSO := Lib.hid hso
  have HL := Lib.hid hl
  have HS := Lib.hid hs
  have HR := Lib.hid hr
  have HT := Lib.hid ht
  have HF := Lib.hid hf
  have hpl := hl.lt
  clear hW hb k1 k2 hsz hso hl hs hr
  obtain ⟨Af, nf, cf, rfl⟩ : ∃ A n c, fv = .slice A n c := by rcases hf.1 with ⟨rfl, _⟩ | ⟨_, _, rfl, _⟩ <;> exact ⟨_, _, _, rfl⟩
  obtain ⟨At, nt, ct, rfl⟩ : ∃ A n c, tv = .slice A n c := by rcases ht.1 with ⟨rfl, _⟩ | ⟨_, _, rfl, _⟩ <;> exact ⟨_, _, _, rfl⟩
  clear hf ht
  go_enter Try.func79, Try.ntmps79
  go_wp2_with fail
  rw [← HW.out]
  refine HSO.out.mono ?_
  rintro e w1 ⟨u1, rfl, ho1, hb1⟩
  obtain ⟨A1, n1, c1, rfl⟩ := ho1.slice
  unfold Rw.rowV
  have m1 := HK1.out.later hb1
  have f0 := m1.free 0
  have f1 := m1.free 1
  have g0 := m1.cell 0
  have g1 := m1.cell 1
  have hB1 : Below w.heap.size w w1 := HB.out.trans (hb1.mono HB.out.size)
  have HO1 := Lib.hid ho1
  have HM1 := Lib.hid m1
  have HB1 := Lib.hid hB1
  have HBW := Lib.hid hb1
  have hsw1 := hb1.size
  clear ho1 m1 hB1 hb1 q0 q1 HSO
  go_wp2_with fail
  obtain ⟨w2, hw2⟩ : ∃ w2, w2 = (w1.setCell ⟨w.heap.size, 0, none⟩ (.slice A1 n1 c1)).setCell ⟨w.heap.size, 1, none⟩ (.int .i64 rv) := ⟨_, rfl⟩
  have hsw := HSZ.out
  have m2 : Lies w2 w.heap.size 26 #[.slice A1 n1 c1, .int .i64 rv] := by rw [hw2]; exact (HM1.out.set 0 (.slice A1 n1 c1)).set 1 (.int .i64 rv)
  have hs2 : w2.heap.size = w1.heap.size := by rw [hw2]; simp [World.size_setCell]
  have hoth : ∀ g, g ≠ w.heap.size → w2.heap[g]? = w1.heap[g]? := fun g hg => by rw [hw2]; exact (Below.heap_setCell _ ⟨w.heap.size, 1, none⟩ _ g hg).trans (Below.heap_setCell _ ⟨w.heap.size, 0, none⟩ _ g hg)
  have hb2 : Below w.heap.size w w2 := HB1.out.trans (by rw [hw2]; exact ((Below.refl _ w1).setCell (p := ⟨w.heap.size, 0, none⟩) (Nat.le_refl _) _).setCell (p := ⟨w.heap.size, 1, none⟩) (Nat.le_refl _) _)
  have hk2 : Lies w2 (w.heap.size + 1) 26 #[.slice At nt ct, .int .i64 ru] := (hoth _ (by omega)).trans (HK2.out.later HBW.out)
  have ho2 : Rw.OwnS w2 W.heap.size (.slice A1 n1 c1) ls := HO1.out.keep fun g hg _ => hoth g (by omega)
  have HW2 := Lib.hid hw2
  have HM2 := Lib.hid m2
  have HS2 := Lib.hid hs2
  have HB2 := Lib.hid hb2
  have HKK2 := Lib.hid hk2
  have HO2 := Lib.hid ho2
  have hlp := HL.out.later hb2
  have hd0 : Below w2.heap.size w2 w2.drew := (Below.refl _ _).drew
  have hd1 : Below w2.heap.size w2 (w2.alloc (.cells #[.slice none 0 0, .int .i64 0] 26)).drew := (below_new w2 _).drew
  have HSV := Lib.hid (fun V (hV : Below w2.heap.size w2 V) => (HS.out.later hb2).later hV)
  have hSS : ∀ V, Below w2.heap.size w2 V → V.cell? ⟨p, 10, none⟩ = some (.slice Av nv cv) ∧ V.cell? ⟨p, 11, none⟩ = some (.slice Aw nw cw) ∧ V.cell? ⟨p, 9, none⟩ = some (.map (some br)) ∧ V.cell? ⟨w.heap.size, 0, none⟩ = some (.slice A1 n1 c1) ∧ V.cell? ⟨w.heap.size, 1, none⟩ = some (.int .i64 rv) ∧ V.cell? ⟨w.heap.size + 1, 0, none⟩ = some (.slice At nt ct) ∧ V.cell? ⟨w.heap.size + 1, 1, none⟩ = some (.int .i64 ru) := fun V hV =>
    ⟨(hV.cell (p := ⟨p, 10, none⟩) hlp.lt).trans (hlp.cell 10), (hV.cell (p := ⟨p, 11, none⟩) hlp.lt).trans (hlp.cell 11), (hV.cell (p := ⟨p, 9, none⟩) hlp.lt).trans (hlp.cell 9), (hV.cell (p := ⟨w.heap.size, 0, none⟩) m2.lt).trans (m2.cell 0), (hV.cell (p := ⟨w.heap.size, 1, none⟩) m2.lt).trans (m2.cell 1), (hV.cell (p := ⟨w.heap.size + 1, 0, none⟩) hk2.lt).trans (hk2.cell 0), (hV.cell (p := ⟨w.heap.size + 1, 1, none⟩) hk2.lt).trans (hk2.cell 1)⟩
  have HSS := Lib.hid hSS
  clear hw2 m2 hs2 hoth hb2 hk2 ho2 hlp hSS g0 g1 f0 f1
  rw [← HW2.out]
  have HSW2 := Lib.hid (show w.heap.size + 2 ≤ w2.heap.size by have := HS2.out; have := HBW.out.size; have := HSZ.out; omega)
  have HPW := Lib.hid (show p < W.heap.size by have := HSZ.out; have := HPL.out; omega)
  go_region_held3 (fun V => V.cell? ⟨p, 10, none⟩ = some (.slice Av nv cv) ∧ V.cell? ⟨p, 11, none⟩ = some (.slice Aw nw cw) ∧ V.cell? ⟨p, 9, none⟩ = some (.map (some br)) ∧ V.cell? ⟨w.heap.size, 0, none⟩ = some (.slice A1 n1 c1) ∧ V.cell? ⟨w.heap.size, 1, none⟩ = some (.int .i64 rv) ∧ V.cell? ⟨w.heap.size + 1, 0, none⟩ = some (.slice At nt ct) ∧ V.cell? ⟨w.heap.size + 1, 1, none⟩ = some (.int .i64 ru))
    (first | with_reducible exact HSS.out _ hd0 | with_reducible exact HSS.out _ hq7 | exact HSS.out _ hd1 | exact HSS.out _ (hq7.trans ((below_new w7 _).mono hq7.size)) | exact HSS.out _ (hq7.trans (((Below.refl w2.heap.size w7).setCell (p := ⟨w2.heap.size, 0, none⟩) (Nat.le_refl _) _).setCell (p := ⟨w2.heap.size, 1, none⟩) (Nat.le_refl _) _)))
    (first | (go_at_call 14; refine (row_any w2.drew _ m T Q (HSV.out _ hd0) hm rv hrv).mono ?_; rintro e w7 ⟨l7, rfl, ⟨lv7, rfl, hs7, _⟩, hb7⟩; have hq7 : Below w2.heap.size w2 w7 := hd0.trans hb7; obtain ⟨A7, n7, c7, rfl⟩ : ∃ A n c, lv7 = .slice A n c := (by rcases hs7.1 with ⟨rfl, _⟩ | ⟨_, _, rfl, _⟩ <;> exact ⟨_, _, _, rfl⟩); have hz7 : (Q rv).isSome = false := HQS.out; rw [hz7]; clear hs7 hb7) | (go_at_call 14; refine (row_any (w2.alloc (.cells #[.slice none 0 0, .int .i64 0] 26)).drew _ m T Q (HSV.out _ hd1) hm rv hrv).mono ?_; rintro e w7 ⟨l7, rfl, ⟨lv7, rfl, hs7, _⟩, hb7⟩; have hq7 : Below w2.heap.size w2 w7 := hd1.trans (hb7.mono hd1.size); have l7x : Lies w7 w2.heap.size 26 #[.slice none 0 0, .int .i64 0] := Lies.later (w := (w2.alloc (.cells #[.slice none 0 0, .int .i64 0] 26)).drew) (Lies.new w2 26 #[.slice none 0 0, .int .i64 0]) hb7; have x70 := l7x.cell 0; have x71 := l7x.cell 1; have y70 := l7x.free 0; have y71 := l7x.free 1; have z7 := l7x.lt; obtain ⟨A7, n7, c7, rfl⟩ : ∃ A n c, lv7 = .slice A n c := (by rcases hs7.1 with ⟨rfl, _⟩ | ⟨_, _, rfl, _⟩ <;> exact ⟨_, _, _, rfl⟩); have hz7 : (Q rv).isSome = false := HQS.out; rw [hz7]; clear hs7 hb7))
  all_goals
    have HRV := Lib.hid (fun V (hV : Below w2.heap.size w2 V) => (HR.out.later HB2.out).later hV)
    have HDEC := Lib.hid (show decide (rv ∈ K) = true from decide_eq_true hK)
    first
      | (obtain ⟨X, hX⟩ : ∃ X, X = w7.alloc (.cells #[.slice A7 n7 c7, .int .i64 ((Q rv).getD zRw).snd] 26) := ⟨_, rfl⟩
         have hBX : Below w2.heap.size w2 X := by rw [hX]; exact hq7.trans ((below_new w7 _).mono hq7.size)
         rw [← hX])
      | (obtain ⟨X, hX⟩ : ∃ X, X = (w7.setCell ⟨w2.heap.size, 0, none⟩ (.slice A7 n7 c7)).setCell ⟨w2.heap.size, 1, none⟩ (.int .i64 ((Q rv).getD zRw).snd) := ⟨_, rfl⟩
         have hBX : Below w2.heap.size w2 X := by rw [hX]; exact hq7.trans (((Below.refl w2.heap.size w7).setCell (p := ⟨w2.heap.size, 0, none⟩) (Nat.le_refl _) _).setCell (p := ⟨w2.heap.size, 1, none⟩) (Nat.le_refl _) _)
         rw [← hX])
    have HXX := Lib.hid hX
    clear hX
    have hx0 : Below w2.heap.size w2 X.drew := hBX.drew
    go_wp2_with fail
    go_region_held3 (fun V => V.cell? ⟨p, 10, none⟩ = some (.slice Av nv cv) ∧ V.cell? ⟨p, 11, none⟩ = some (.slice Aw nw cw) ∧ V.cell? ⟨p, 9, none⟩ = some (.map (some br)) ∧ V.cell? ⟨w.heap.size, 0, none⟩ = some (.slice A1 n1 c1) ∧ V.cell? ⟨w.heap.size, 1, none⟩ = some (.int .i64 rv) ∧ V.cell? ⟨w.heap.size + 1, 0, none⟩ = some (.slice At nt ct) ∧ V.cell? ⟨w.heap.size + 1, 1, none⟩ = some (.int .i64 ru))
      (first | with_reducible exact HSS.out _ hx0 | with_reducible exact HSS.out _ hq8)
      (first | (go_at_call 63; go_loud (refine (has_any X.drew br qr K rv (HRV.out _ hx0) hrv).mono ?_); rw [HDEC.out]; rintro e w8 ⟨rfl, hb8⟩; have hq8 : Below w2.heap.size w2 w8 := hx0.trans (hb8.mono hx0.size)))
    have hx9 : Below w2.heap.size w2 w8.drew := hq8.drew
    have hmo := more_any w8.drew (.slice At nt ct) (.slice A1 n1 c1) ms ls (Rw.Strs.of (HT.out.keep (HB2.out.trans (hx9.mono HB2.out.size)).block)) (HO2.out.later hx9).strs HLEN2.out
    have HMO := Lib.hid hmo
    clear hmo
    go_wp2_with fail
    refine wp_region_held_drew (S := (fun V => V.cell? ⟨w.heap.size, 0, none⟩ = some (.slice A1 n1 c1) ∧ V.cell? ⟨w.heap.size, 1, none⟩ = some (.int .i64 rv) ∧ V.cell? ⟨w.heap.size + 1, 0, none⟩ = some (.slice At nt ct) ∧ V.cell? ⟨w.heap.size + 1, 1, none⟩ = some (.int .i64 ru))) (by kernel_rfl) ?_ (fun hHeld => ?_)
    · exact (HSS.out _ hx9).2.2.2
    obtain ⟨r10, r11, _, r0, r1, s0, s1'⟩ := HSS.out _ hx9
    refine wpAnyH_take (i := 0) (oi := ⟨some 32, _, _, _, _, _⟩) (v := ?_) rfl (by kernel_rfl) (by kernel_rfl) (by kernel_rfl) (fun _ _ _ h => h) (Or.inl ⟨by kernel_rfl, ?_⟩) (by assumption) ?_
    rotate_left
    · (intro w' hSw; (try dsimp only at hSw); go_split_ands; go_simp; first | done | with_reducible rfl)
    try simp only [Act.put, List.setIfInBounds_toArray, List.set_cons_zero, List.set_cons_succ]
    refine wpAnyH_take (i := 1) (oi := ⟨some 33, _, _, _, _, _⟩) (v := ?_) rfl (by kernel_rfl) (by kernel_rfl) (by kernel_rfl) (fun _ _ _ h => h) (Or.inl ⟨by kernel_rfl, ?_⟩) (by assumption) ?_
    rotate_left
    · (intro w' hSw; (try dsimp only at hSw); go_split_ands; go_simp; first | done | with_reducible rfl)
    try simp only [Act.put, List.setIfInBounds_toArray, List.set_cons_zero, List.set_cons_succ]
    refine wpAnyH_take (i := 2) (oi := ⟨some 34, _, _, _, _, _⟩) (v := ?_) rfl (by kernel_rfl) (by kernel_rfl) (by kernel_rfl) (fun _ _ _ h => h) (Or.inl ⟨by kernel_rfl, ?_⟩) (by assumption) ?_
    rotate_left
    · (intro w' hSw; (try dsimp only at hSw); go_split_ands; go_simp; first | done | with_reducible rfl)
    try simp only [Act.put, List.setIfInBounds_toArray, List.set_cons_zero, List.set_cons_succ]
    refine wpAnyH_take (i := 3) (oi := ⟨some 35, _, _, _, _, _⟩) (v := ?_) rfl (by kernel_rfl) (by kernel_rfl) (by kernel_rfl) (fun _ _ _ h => h) (Or.inl ⟨by kernel_rfl, ?_⟩) (by assumption) ?_
    rotate_left
    · (intro w' hSw; (try dsimp only at hSw); go_split_ands; go_simp; first | done | with_reducible rfl)
    try simp only [Act.put, List.setIfInBounds_toArray, List.set_cons_zero, List.set_cons_succ]
    refine wpAnyH_take (i := 5) (oi := ⟨some 37, _, _, _, _, _⟩) (v := ?_) rfl (by kernel_rfl) (by kernel_rfl) (by kernel_rfl) (fun _ _ _ h => h) (Or.inl ⟨by kernel_rfl, ?_⟩) (by assumption) ?_
    rotate_left
    · (intro w' hSw; (try dsimp only at hSw); go_split_ands; go_simp; first | done | with_reducible rfl)
    try simp only [Act.put, List.setIfInBounds_toArray, List.set_cons_zero, List.set_cons_succ]
    refine wpAnyH_take (i := 6) (oi := ⟨some 38, _, _, _, _, _⟩) (v := ?_) rfl (by kernel_rfl) (by kernel_rfl) (by kernel_rfl) (fun _ _ _ h => h) (Or.inl ⟨by kernel_rfl, ?_⟩) (by assumption) ?_
    rotate_left
    · (intro w' hSw; (try dsimp only at hSw); go_split_ands; go_simp; first | done | with_reducible rfl)
    try simp only [Act.put, List.setIfInBounds_toArray, List.set_cons_zero, List.set_cons_succ]
    refine wpAnyH_take (i := 7) (oi := ⟨some 39, _, _, _, _, _⟩) (v := ?_) rfl (by kernel_rfl) (by kernel_rfl) (by kernel_rfl) (fun _ _ _ h => h) (Or.inl ⟨by kernel_rfl, ?_⟩) (by assumption) ?_
    rotate_left
    · (intro w' hSw; (try dsimp only at hSw); go_split_ands; go_simp; first | done | with_reducible rfl)
    try simp only [Act.put, List.setIfInBounds_toArray, List.set_cons_zero, List.set_cons_succ]
    refine wpAnyH_take (i := 8) (oi := ⟨some 40, _, _, _, _, _⟩) (v := ?_) rfl (by kernel_rfl) (by kernel_rfl) (by kernel_rfl) (fun _ _ _ h => h) (Or.inl ⟨by kernel_rfl, ?_⟩) (by assumption) ?_
    rotate_left
    · (intro w' hSw; (try dsimp only at hSw); go_split_ands; go_simp; first | done | with_reducible rfl)
    try simp only [Act.put, List.setIfInBounds_toArray, List.set_cons_zero, List.set_cons_succ]
    refine wpAnyH_take (i := 9) (oi := ⟨some 41, _, _, _, _, _⟩) (v := ?_) rfl (by kernel_rfl) (by kernel_rfl) (by kernel_rfl) (fun _ _ _ h => h) (Or.inl ⟨by kernel_rfl, ?_⟩) (by assumption) ?_
    rotate_left
    · (intro w' hSw; (try dsimp only at hSw); go_split_ands; go_simp; first | done | with_reducible rfl)
    try simp only [Act.put, List.setIfInBounds_toArray, List.set_cons_zero, List.set_cons_succ]
    refine wpAnyH_take (i := 10) (oi := ⟨some 42, _, _, _, _, _⟩) (v := ?_) rfl (by kernel_rfl) (by kernel_rfl) (by kernel_rfl) (fun _ _ _ h => h) (Or.inl ⟨by kernel_rfl, ?_⟩) (by assumption) ?_
    rotate_left
    · (intro w' hSw; (try dsimp only at hSw); go_split_ands; go_simp; first | done | with_reducible rfl)
    try simp only [Act.put, List.setIfInBounds_toArray, List.set_cons_zero, List.set_cons_succ]
    refine wpAnyH_take (i := 12) (oi := ⟨some 44, _, _, _, _, _⟩) (v := ?_) rfl (by kernel_rfl) (by kernel_rfl) (by kernel_rfl) (fun _ _ _ h => h) (Or.inl ⟨by kernel_rfl, ?_⟩) (by assumption) ?_
    rotate_left
    · (intro w' hSw; (try dsimp only at hSw); go_split_ands; go_simp; first | done | with_reducible rfl)
    try simp only [Act.put, List.setIfInBounds_toArray, List.set_cons_zero, List.set_cons_succ]
    refine wpAnyH_take (i := 13) (oi := ⟨some 45, _, _, _, _, _⟩) (v := ?_) rfl (by kernel_rfl) (by kernel_rfl) (by kernel_rfl) (fun _ _ _ h => h) (Or.inl ⟨by kernel_rfl, ?_⟩) (by assumption) ?_
    rotate_left
    · (intro w' hSw; (try dsimp only at hSw); go_split_ands; go_simp; first | done | with_reducible rfl)
    try simp only [Act.put, List.setIfInBounds_toArray, List.set_cons_zero, List.set_cons_succ]
    refine wpAnyH_ready (rs := [4, 11]) (by kernel_rfl) (by simp) ?_
    refine AllReadyH.cons (o := ⟨some 36, _, _, _, _, _⟩) rfl (fun K hK => ?_) (AllReadyH.cons (o := ⟨some 43, _, _, _, _, _⟩) rfl (fun K hK => ?_) AllReadyH.nil)
    · go_simp
      refine hK.out _ _ ?_ (fun hHeld => ?_)
      · exact (HSS.out _ hx9).2.2.2
      clear hK K
      try simp only [Act.put, List.setIfInBounds_toArray, List.set_cons_zero, List.set_cons_succ]
      refine wpAnyH_ready (rs := [11]) (by kernel_rfl) (by simp) ?_
      refine AllReadyH.cons (o := ⟨some 43, _, _, _, _, _⟩) rfl (fun K hK => ?_) AllReadyH.nil
      go_simp
      go_at_call 83
      refine HMO.out.mono ?_
      rintro e w9 ⟨vm, rfl, hvm, hb9⟩
      have hq9 : Below w2.heap.size w2 w9 := hx9.trans (hb9.mono hx9.size)
      obtain ⟨Am, nm, cm, rfl⟩ := own_slice hvm
      have HVM := Lib.hid hvm
      clear hvm hb9
      obtain ⟨u10, u11, _, u0, u1, t0, t1⟩ := HSS.out _ hq9
      refine hK.out _ _ ?_ (fun hHeld => ?_)
      · exact (HSS.out _ hq9).2.2.2
      clear hK K
      try simp only [Act.put, List.setIfInBounds_toArray, List.set_cons_zero, List.set_cons_succ]
      refine wpAnyH_take (i := 14) (oi := ⟨some 46, _, _, _, _, _⟩) (v := ?_) rfl (by kernel_rfl) (by kernel_rfl) (by kernel_rfl) (fun _ _ _ h => h) (Or.inl ⟨by kernel_rfl, ?_⟩) (by assumption) ?_
      rotate_left
      · (intro w' hSw; (try dsimp only at hSw); go_split_ands; go_simp; first | done | with_reducible rfl)
      try simp only [Act.put, List.setIfInBounds_toArray, List.set_cons_zero, List.set_cons_succ]
      have hw9 : Below w.heap.size w w9 := HB2.out.trans (hq9.mono HB2.out.size)
      have hrx : RwV w9 (xs, ru) [.slice Am nm cm, .int .i64 ru] := ⟨_, rfl, ⟨own_row_src (w := w9) (by rw [← HXS.out]; exact HVM.out), HLX.out⟩, HRU.out⟩
      have hst := setRow_any (fun b => BX b ∨ w.heap.size ≤ b) w9 _ m T Q (HSB.out _ hw9) HMM.out rv hrv xs ru _ hrx
      have HST := Lib.hid hst
      have HW9 := Lib.hid hw9
      clear hst hrx hw9
      refine wpAnyH_ready (rs := [15]) (by kernel_rfl) (by simp) ?_
      refine AllReadyH.cons (o := ⟨some 47, _, _, _, _, _⟩) rfl (fun K hK => ?_) AllReadyH.nil
      go_simp
      go_at_call 12
      refine HST.out.mono ?_
      rintro e wA ⟨sv, rfl, hsv, hbA⟩
      have hqA : Below w2.heap.size w2 wA := hq9.trans (hbA.mono hq9.size)
      obtain ⟨B1, m1, d1, B2, m2, d2, rfl⟩ : ∃ B1 m1 d1 B2 m2 d2, sv = .agg #[.slice B1 m1 d1, .slice B2 m2 d2] := by
        obtain ⟨vt, vr, _, _, h1, h2, h3, _⟩ := hsv wA ⟨Nat.le_refl _, fun _ _ _ => rfl⟩
        obtain ⟨a1, a2, a3, rfl⟩ := h2.one
        obtain ⟨a4, a5, a6, rfl⟩ := h3.one
        exact ⟨_, _, _, _, _, _, h1⟩
      have hwA : Below w.heap.size w wA := HB2.out.trans (hqA.mono HB2.out.size)
      have lA := HL.out.later hwA
      have f10 := lA.free 10
      have f11 := lA.free 11
      have g10 : wA.cell? ⟨p, 10, none⟩ = some (.slice Av nv cv) := lA.cell 10
      have g11 : wA.cell? ⟨p, 11, none⟩ = some (.slice Aw nw cw) := lA.cell 11
      have HSVV := Lib.hid hsv
      have HLA := Lib.hid lA
      have HWA := Lib.hid hwA
      clear hsv lA hwA hbA u10 u11 u0 u1 t0 t1
      refine hK.out _ _ ?_ (fun hHeld => ?_)
      · exact (HSS.out _ hqA).2.2.2
      clear hK K
      try simp only [Act.put, List.setIfInBounds_toArray, List.set_cons_zero, List.set_cons_succ]
      refine wpAnyH_take (i := 16) (oi := ⟨some 48, _, _, _, _, _⟩) (v := ?_) rfl (by kernel_rfl) (by kernel_rfl) (by kernel_rfl) (fun _ _ _ h => h) (Or.inl ⟨by kernel_rfl, ?_⟩) (by assumption) ?_
      rotate_left
      · (intro w' hSw; (try dsimp only at hSw); go_split_ands; go_simp; first | done | with_reducible rfl)
      try simp only [Act.put, List.setIfInBounds_toArray, List.set_cons_zero, List.set_cons_succ]
      refine wpAnyH_take (i := 17) (oi := ⟨some 49, _, _, _, _, _⟩) (v := ?_) rfl (by kernel_rfl) (by kernel_rfl) (by kernel_rfl) (fun _ _ _ h => h) (Or.inl ⟨by kernel_rfl, ?_⟩) (by assumption) ?_
      rotate_left
      · (intro w' hSw; (try dsimp only at hSw); go_split_ands; go_simp; first | done | with_reducible rfl)
      try simp only [Act.put, List.setIfInBounds_toArray, List.set_cons_zero, List.set_cons_succ]
      refine wpAnyH_ready (rs := [18]) (by kernel_rfl) (by simp) ?_
      refine AllReadyH.cons (o := ⟨none, _, _, _, _, _⟩) rfl (fun K hK => ?_) AllReadyH.nil
      go_simp
      obtain ⟨Y, hY⟩ : ∃ Y, Y = (wA.setCell ⟨p, 10, none⟩ (.slice B1 m1 d1)).setCell ⟨p, 11, none⟩ (.slice B2 m2 d2) := ⟨_, rfl⟩
      have hoth : ∀ g, g ≠ p → Y.heap[g]? = wA.heap[g]? := fun g hg => by rw [hY]; exact (Below.heap_setCell _ ⟨p, 11, none⟩ _ g hg).trans (Below.heap_setCell _ ⟨p, 10, none⟩ _ g hg)
      have lY : Lies Y p 97 (matC s1 s2 [x0, x1, x2, x3, x4, x5] bk br (.slice B1 m1 d1) (.slice B2 m2 d2) td bm) := by rw [hY]; exact (HLA.out.set 10 _).set 11 _
      have hsY : Y.heap.size = wA.heap.size := by rw [hY]; simp [World.size_setCell]
      have hosY : Y.os = wA.os ∧ Y.tape = wA.tape ∧ Y.output = wA.output := by rw [hY]; exact ⟨rfl, rfl, rfl⟩
      have hplp : p < w.heap.size := HPL.out
      have hrY : Y.cell? ⟨w.heap.size, 0, none⟩ = some (.slice A1 n1 c1) ∧ Y.cell? ⟨w.heap.size, 1, none⟩ = some (.int .i64 rv) ∧ Y.cell? ⟨w.heap.size + 1, 0, none⟩ = some (.slice At nt ct) ∧ Y.cell? ⟨w.heap.size + 1, 1, none⟩ = some (.int .i64 ru) := by
        obtain ⟨_, _, _, z0, z1, z2, z3⟩ := HSS.out _ hqA
        exact ⟨(World.cell?_of_block (w := wA) (a := ⟨w.heap.size, 0, none⟩) (hoth _ (by show w.heap.size ≠ p; omega))).trans z0, (World.cell?_of_block (w := wA) (a := ⟨w.heap.size, 1, none⟩) (hoth _ (by show w.heap.size ≠ p; omega))).trans z1, (World.cell?_of_block (w := wA) (a := ⟨w.heap.size + 1, 0, none⟩) (hoth _ (by show w.heap.size + 1 ≠ p; omega))).trans z2, (World.cell?_of_block (w := wA) (a := ⟨w.heap.size + 1, 1, none⟩) (hoth _ (by show w.heap.size + 1 ≠ p; omega))).trans z3⟩
      rw [← hY]
      clear hY
      refine hK.out _ _ ?_ (fun hHeld => ?_)
      · exact hrY
      clear hK K
      try simp only [Act.put, List.setIfInBounds_toArray, List.set_cons_zero, List.set_cons_succ]
      refine wpAnyH_done (by kernel_rfl) ?_ _
      clear f10 f11 g10 g11
      have hwY : ∀ g, g < w.heap.size → g ≠ p → Y.heap[g]? = w.heap[g]? := fun g h1 h2 => (hoth g h2).trans (HWA.out.block g h1)
      have hYsz : w.heap.size + 2 ≤ Y.heap.size := by have h1 := hqA.size; have h2 := HSW2.out; omega
      have hSS2 : ∀ V, Below Y.heap.size Y V → V.cell? ⟨p, 10, none⟩ = some (.slice B1 m1 d1) ∧ V.cell? ⟨p, 11, none⟩ = some (.slice B2 m2 d2) ∧ V.cell? ⟨w.heap.size, 0, none⟩ = some (.slice A1 n1 c1) ∧ V.cell? ⟨w.heap.size, 1, none⟩ = some (.int .i64 rv) ∧ V.cell? ⟨w.heap.size + 1, 0, none⟩ = some (.slice At nt ct) ∧ V.cell? ⟨w.heap.size + 1, 1, none⟩ = some (.int .i64 ru) := fun V hV =>
        ⟨(hV.cell (p := ⟨p, 10, none⟩) lY.lt).trans (lY.cell 10), (hV.cell (p := ⟨p, 11, none⟩) lY.lt).trans (lY.cell 11), (hV.cell (p := ⟨w.heap.size, 0, none⟩) (by show w.heap.size < _; omega)).trans hrY.1, (hV.cell (p := ⟨w.heap.size, 1, none⟩) (by show w.heap.size < _; omega)).trans hrY.2.1, (hV.cell (p := ⟨w.heap.size + 1, 0, none⟩) (by show w.heap.size + 1 < _; omega)).trans hrY.2.2.1, (hV.cell (p := ⟨w.heap.size + 1, 1, none⟩) (by show w.heap.size + 1 < _; omega)).trans hrY.2.2.2⟩
      have HS2 := Lib.hid hSS2
      have hx9 : Below Y.heap.size Y Y.drew := (Below.refl _ _).drew
      have hsub : ∀ V, Below Y.heap.size Y V → SubV V (.agg #[.slice B1 m1 d1, .slice B2 m2 d2]) (m + 1) T (setF Q rv (xs, ru)) := fun V hV => HSVV.out V ⟨by have := hV.size; have := HW9.out.size; have := hqA.size; omega, fun b hb hn => (hV.block b (by omega)).trans (hoth b fun e => hn ⟨.inl (e ▸ HBP.out), by have := HW9.out.size; have := HPL.out; omega⟩)⟩
      have hof : Rw.OwnS Y W.heap.size (.slice A1 n1 c1) ls := (HO2.out.later hqA).keep fun g h1 h2 => hoth g (by have := HPW.out; omega)
      have hap := applyRow_said Y.drew (.agg #[.slice B1 m1 d1, .slice B2 m2 d2]) (m + 1) T (setF Q rv (xs, ru)) (hsub _ hx9) (by have := HMM.out; omega) (.slice A1 n1 c1) ls rv ⟨own_row_src (w := Y.drew) hof.own, HLEN.out⟩ hrv xs ru (by unfold insR; rw [if_neg h0]; exact if_pos rfl) HLL.out
      have htY : ∀ V, Below Y.heap.size Y V → StrR V (.slice At nt ct) ms := fun V hV => (HTB.out Y hwY).keep hV.block
      have HAP := Lib.hid hap
      have HTY := Lib.hid htY
      have HLY := Lib.hid lY
      have HOTH := Lib.hid hoth
      have HOS := Lib.hid hosY
      have HSY := Lib.hid hsY
      clear hap hof hsub htY lY hoth hosY hrY hSS2 hwY hsY
      go_wp2_with fail
      go_region_held3 (fun V => V.cell? ⟨p, 10, none⟩ = some (.slice B1 m1 d1) ∧ V.cell? ⟨p, 11, none⟩ = some (.slice B2 m2 d2) ∧ V.cell? ⟨w.heap.size, 0, none⟩ = some (.slice A1 n1 c1) ∧ V.cell? ⟨w.heap.size, 1, none⟩ = some (.int .i64 rv) ∧ V.cell? ⟨w.heap.size + 1, 0, none⟩ = some (.slice At nt ct) ∧ V.cell? ⟨w.heap.size + 1, 1, none⟩ = some (.int .i64 ru))
        (first | with_reducible exact HS2.out _ hx9 | with_reducible exact HS2.out _ hqB | with_reducible exact HS2.out _ hqC)
        (first | (go_at_call 73; refine HAP.out.mono ?_; rintro e wB ⟨v9, rfl, ho9, hbB⟩; have hqB : Below Y.heap.size Y wB := hx9.trans (hbB.mono hx9.size); have hst := Rw.Strs.of (ho9.str (by rw [Rw.sortS_len, List.length_append]; exact HLL.out)); have HST2 := Lib.hid hst; obtain ⟨A9, n9, c9, rfl⟩ := own_slice ho9; clear ho9 hst) | (go_at_call 84; refine (Rw.sameRow_any _ _ _ ms _ ru wB HST2.out (Rw.Strs.of (HTY.out _ hqB)) (by rw [Rw.sortS_len, List.length_append]; have := HLL.out; omega) (by have := HLEN2.out; omega)).mono ?_; rintro e wC ⟨rfl, hbC⟩; have hqC : Below Y.heap.size Y wC := hqB.trans (hbC.mono hqB.size)))
      go_wp2_with fail
      go_ret
      have hos := HOS.out
      refine ⟨_, _, ret_bool (by simp [HMS.out]), HLY.out.later hqC, fun wf hk => HSVV.out wf ⟨?_, fun b hb hn => ?_⟩, ?_⟩
      · have h1 := hqC.size; have h2 := hk.1; have h3 := HSY.out; omega
      · have h3 := HSY.out
        exact (hk.2 b (by have h1 := hqC.size; omega) (fun h => hn ⟨.inl h.1, by have := HW9.out.size; omega⟩)).trans ((hqC.block b (by omega)).trans (HOTH.out b fun e => hn ⟨.inl (e ▸ HBP.out), by have := HW9.out.size; have := HPL.out; omega⟩))
      · exact ⟨hqC.os.trans (hos.1.trans HWA.out.os), hqC.tape.trans (hos.2.1.trans HWA.out.tape), hqC.output.trans (hos.2.2.trans HWA.out.output), by have h1 := HWA.out.size; have h2 := hqC.size; have h3 := HSY.out; omega, fun i h1 h2 _ _ => (hqC.block i (by have h4 := HWA.out.size; have h3 := HSY.out; omega)).trans ((HOTH.out i h2).trans (HWA.out.block i h1))⟩
    · go_simp
      go_at_call 83
      refine HMO.out.mono ?_
      rintro e w9 ⟨vm, rfl, hvm, hb9⟩
      have hq9 : Below w2.heap.size w2 w9 := hx9.trans (hb9.mono hx9.size)
      obtain ⟨Am, nm, cm, rfl⟩ := own_slice hvm
      have HVM := Lib.hid hvm
      clear hvm hb9
      obtain ⟨u10, u11, _, u0, u1, t0, t1⟩ := HSS.out _ hq9
      refine hK.out _ _ ?_ (fun hHeld => ?_)
      · exact (HSS.out _ hq9).2.2.2
      clear hK K
      try simp only [Act.put, List.setIfInBounds_toArray, List.set_cons_zero, List.set_cons_succ]
      refine wpAnyH_take (i := 14) (oi := ⟨some 46, _, _, _, _, _⟩) (v := ?_) rfl (by kernel_rfl) (by kernel_rfl) (by kernel_rfl) (fun _ _ _ h => h) (Or.inl ⟨by kernel_rfl, ?_⟩) (by assumption) ?_
      rotate_left
      · (intro w' hSw; (try dsimp only at hSw); go_split_ands; go_simp; first | done | with_reducible rfl)
      try simp only [Act.put, List.setIfInBounds_toArray, List.set_cons_zero, List.set_cons_succ]
      refine wpAnyH_ready (rs := [4]) (by kernel_rfl) (by simp) ?_
      refine AllReadyH.cons (o := ⟨some 36, _, _, _, _, _⟩) rfl (fun K hK => ?_) AllReadyH.nil
      go_simp
      refine hK.out _ _ ?_ (fun hHeld => ?_)
      · exact (HSS.out _ hq9).2.2.2
      clear hK K
      try simp only [Act.put, List.setIfInBounds_toArray, List.set_cons_zero, List.set_cons_succ]
      have hw9 : Below w.heap.size w w9 := HB2.out.trans (hq9.mono HB2.out.size)
      have hrx : RwV w9 (xs, ru) [.slice Am nm cm, .int .i64 ru] := ⟨_, rfl, ⟨own_row_src (w := w9) (by rw [← HXS.out]; exact HVM.out), HLX.out⟩, HRU.out⟩
      have hst := setRow_any (fun b => BX b ∨ w.heap.size ≤ b) w9 _ m T Q (HSB.out _ hw9) HMM.out rv hrv xs ru _ hrx
      have HST := Lib.hid hst
      have HW9 := Lib.hid hw9
      clear hst hrx hw9
      refine wpAnyH_ready (rs := [15]) (by kernel_rfl) (by simp) ?_
      refine AllReadyH.cons (o := ⟨some 47, _, _, _, _, _⟩) rfl (fun K hK => ?_) AllReadyH.nil
      go_simp
      go_at_call 12
      refine HST.out.mono ?_
      rintro e wA ⟨sv, rfl, hsv, hbA⟩
      have hqA : Below w2.heap.size w2 wA := hq9.trans (hbA.mono hq9.size)
      obtain ⟨B1, m1, d1, B2, m2, d2, rfl⟩ : ∃ B1 m1 d1 B2 m2 d2, sv = .agg #[.slice B1 m1 d1, .slice B2 m2 d2] := by
        obtain ⟨vt, vr, _, _, h1, h2, h3, _⟩ := hsv wA ⟨Nat.le_refl _, fun _ _ _ => rfl⟩
        obtain ⟨a1, a2, a3, rfl⟩ := h2.one
        obtain ⟨a4, a5, a6, rfl⟩ := h3.one
        exact ⟨_, _, _, _, _, _, h1⟩
      have hwA : Below w.heap.size w wA := HB2.out.trans (hqA.mono HB2.out.size)
      have lA := HL.out.later hwA
      have f10 := lA.free 10
      have f11 := lA.free 11
      have g10 : wA.cell? ⟨p, 10, none⟩ = some (.slice Av nv cv) := lA.cell 10
      have g11 : wA.cell? ⟨p, 11, none⟩ = some (.slice Aw nw cw) := lA.cell 11
      have HSVV := Lib.hid hsv
      have HLA := Lib.hid lA
      have HWA := Lib.hid hwA
      clear hsv lA hwA hbA u10 u11 u0 u1 t0 t1
      refine hK.out _ _ ?_ (fun hHeld => ?_)
      · exact (HSS.out _ hqA).2.2.2
      clear hK K
      try simp only [Act.put, List.setIfInBounds_toArray, List.set_cons_zero, List.set_cons_succ]
      refine wpAnyH_take (i := 16) (oi := ⟨some 48, _, _, _, _, _⟩) (v := ?_) rfl (by kernel_rfl) (by kernel_rfl) (by kernel_rfl) (fun _ _ _ h => h) (Or.inl ⟨by kernel_rfl, ?_⟩) (by assumption) ?_
      rotate_left
      · (intro w' hSw; (try dsimp only at hSw); go_split_ands; go_simp; first | done | with_reducible rfl)
      try simp only [Act.put, List.setIfInBounds_toArray, List.set_cons_zero, List.set_cons_succ]
      refine wpAnyH_take (i := 17) (oi := ⟨some 49, _, _, _, _, _⟩) (v := ?_) rfl (by kernel_rfl) (by kernel_rfl) (by kernel_rfl) (fun _ _ _ h => h) (Or.inl ⟨by kernel_rfl, ?_⟩) (by assumption) ?_
      rotate_left
      · (intro w' hSw; (try dsimp only at hSw); go_split_ands; go_simp; first | done | with_reducible rfl)
      try simp only [Act.put, List.setIfInBounds_toArray, List.set_cons_zero, List.set_cons_succ]
      refine wpAnyH_ready (rs := [18]) (by kernel_rfl) (by simp) ?_
      refine AllReadyH.cons (o := ⟨none, _, _, _, _, _⟩) rfl (fun K hK => ?_) AllReadyH.nil
      go_simp
      obtain ⟨Y, hY⟩ : ∃ Y, Y = (wA.setCell ⟨p, 10, none⟩ (.slice B1 m1 d1)).setCell ⟨p, 11, none⟩ (.slice B2 m2 d2) := ⟨_, rfl⟩
      have hoth : ∀ g, g ≠ p → Y.heap[g]? = wA.heap[g]? := fun g hg => by rw [hY]; exact (Below.heap_setCell _ ⟨p, 11, none⟩ _ g hg).trans (Below.heap_setCell _ ⟨p, 10, none⟩ _ g hg)
      have lY : Lies Y p 97 (matC s1 s2 [x0, x1, x2, x3, x4, x5] bk br (.slice B1 m1 d1) (.slice B2 m2 d2) td bm) := by rw [hY]; exact (HLA.out.set 10 _).set 11 _
      have hsY : Y.heap.size = wA.heap.size := by rw [hY]; simp [World.size_setCell]
      have hosY : Y.os = wA.os ∧ Y.tape = wA.tape ∧ Y.output = wA.output := by rw [hY]; exact ⟨rfl, rfl, rfl⟩
      have hplp : p < w.heap.size := HPL.out
      have hrY : Y.cell? ⟨w.heap.size, 0, none⟩ = some (.slice A1 n1 c1) ∧ Y.cell? ⟨w.heap.size, 1, none⟩ = some (.int .i64 rv) ∧ Y.cell? ⟨w.heap.size + 1, 0, none⟩ = some (.slice At nt ct) ∧ Y.cell? ⟨w.heap.size + 1, 1, none⟩ = some (.int .i64 ru) := by
        obtain ⟨_, _, _, z0, z1, z2, z3⟩ := HSS.out _ hqA
        exact ⟨(World.cell?_of_block (w := wA) (a := ⟨w.heap.size, 0, none⟩) (hoth _ (by show w.heap.size ≠ p; omega))).trans z0, (World.cell?_of_block (w := wA) (a := ⟨w.heap.size, 1, none⟩) (hoth _ (by show w.heap.size ≠ p; omega))).trans z1, (World.cell?_of_block (w := wA) (a := ⟨w.heap.size + 1, 0, none⟩) (hoth _ (by show w.heap.size + 1 ≠ p; omega))).trans z2, (World.cell?_of_block (w := wA) (a := ⟨w.heap.size + 1, 1, none⟩) (hoth _ (by show w.heap.size + 1 ≠ p; omega))).trans z3⟩
      rw [← hY]
      clear hY
      refine hK.out _ _ ?_ (fun hHeld => ?_)
      · exact hrY
      clear hK K
      try simp only [Act.put, List.setIfInBounds_toArray, List.set_cons_zero, List.set_cons_succ]
      refine wpAnyH_done (by kernel_rfl) ?_ _
      clear f10 f11 g10 g11
      have hwY : ∀ g, g < w.heap.size → g ≠ p → Y.heap[g]? = w.heap[g]? := fun g h1 h2 => (hoth g h2).trans (HWA.out.block g h1)
      have hYsz : w.heap.size + 2 ≤ Y.heap.size := by have h1 := hqA.size; have h2 := HSW2.out; omega
      have hSS2 : ∀ V, Below Y.heap.size Y V → V.cell? ⟨p, 10, none⟩ = some (.slice B1 m1 d1) ∧ V.cell? ⟨p, 11, none⟩ = some (.slice B2 m2 d2) ∧ V.cell? ⟨w.heap.size, 0, none⟩ = some (.slice A1 n1 c1) ∧ V.cell? ⟨w.heap.size, 1, none⟩ = some (.int .i64 rv) ∧ V.cell? ⟨w.heap.size + 1, 0, none⟩ = some (.slice At nt ct) ∧ V.cell? ⟨w.heap.size + 1, 1, none⟩ = some (.int .i64 ru) := fun V hV =>
        ⟨(hV.cell (p := ⟨p, 10, none⟩) lY.lt).trans (lY.cell 10), (hV.cell (p := ⟨p, 11, none⟩) lY.lt).trans (lY.cell 11), (hV.cell (p := ⟨w.heap.size, 0, none⟩) (by show w.heap.size < _; omega)).trans hrY.1, (hV.cell (p := ⟨w.heap.size, 1, none⟩) (by show w.heap.size < _; omega)).trans hrY.2.1, (hV.cell (p := ⟨w.heap.size + 1, 0, none⟩) (by show w.heap.size + 1 < _; omega)).trans hrY.2.2.1, (hV.cell (p := ⟨w.heap.size + 1, 1, none⟩) (by show w.heap.size + 1 < _; omega)).trans hrY.2.2.2⟩
      have HS2 := Lib.hid hSS2
      have hx9 : Below Y.heap.size Y Y.drew := (Below.refl _ _).drew
      have hsub : ∀ V, Below Y.heap.size Y V → SubV V (.agg #[.slice B1 m1 d1, .slice B2 m2 d2]) (m + 1) T (setF Q rv (xs, ru)) := fun V hV => HSVV.out V ⟨by have := hV.size; have := HW9.out.size; have := hqA.size; omega, fun b hb hn => (hV.block b (by omega)).trans (hoth b fun e => hn ⟨.inl (e ▸ HBP.out), by have := HW9.out.size; have := HPL.out; omega⟩)⟩
      have hof : Rw.OwnS Y W.heap.size (.slice A1 n1 c1) ls := (HO2.out.later hqA).keep fun g h1 h2 => hoth g (by have := HPW.out; omega)
      have hap := applyRow_said Y.drew (.agg #[.slice B1 m1 d1, .slice B2 m2 d2]) (m + 1) T (setF Q rv (xs, ru)) (hsub _ hx9) (by have := HMM.out; omega) (.slice A1 n1 c1) ls rv ⟨own_row_src (w := Y.drew) hof.own, HLEN.out⟩ hrv xs ru (by unfold insR; rw [if_neg h0]; exact if_pos rfl) HLL.out
      have htY : ∀ V, Below Y.heap.size Y V → StrR V (.slice At nt ct) ms := fun V hV => (HTB.out Y hwY).keep hV.block
      have HAP := Lib.hid hap
      have HTY := Lib.hid htY
      have HLY := Lib.hid lY
      have HOTH := Lib.hid hoth
      have HOS := Lib.hid hosY
      have HSY := Lib.hid hsY
      clear hap hof hsub htY lY hoth hosY hrY hSS2 hwY hsY
      go_wp2_with fail
      go_region_held3 (fun V => V.cell? ⟨p, 10, none⟩ = some (.slice B1 m1 d1) ∧ V.cell? ⟨p, 11, none⟩ = some (.slice B2 m2 d2) ∧ V.cell? ⟨w.heap.size, 0, none⟩ = some (.slice A1 n1 c1) ∧ V.cell? ⟨w.heap.size, 1, none⟩ = some (.int .i64 rv) ∧ V.cell? ⟨w.heap.size + 1, 0, none⟩ = some (.slice At nt ct) ∧ V.cell? ⟨w.heap.size + 1, 1, none⟩ = some (.int .i64 ru))
        (first | with_reducible exact HS2.out _ hx9 | with_reducible exact HS2.out _ hqB | with_reducible exact HS2.out _ hqC)
        (first | (go_at_call 73; refine HAP.out.mono ?_; rintro e wB ⟨v9, rfl, ho9, hbB⟩; have hqB : Below Y.heap.size Y wB := hx9.trans (hbB.mono hx9.size); have hst := Rw.Strs.of (ho9.str (by rw [Rw.sortS_len, List.length_append]; exact HLL.out)); have HST2 := Lib.hid hst; obtain ⟨A9, n9, c9, rfl⟩ := own_slice ho9; clear ho9 hst) | (go_at_call 84; refine (Rw.sameRow_any _ _ _ ms _ ru wB HST2.out (Rw.Strs.of (HTY.out _ hqB)) (by rw [Rw.sortS_len, List.length_append]; have := HLL.out; omega) (by have := HLEN2.out; omega)).mono ?_; rintro e wC ⟨rfl, hbC⟩; have hqC : Below Y.heap.size Y wC := hqB.trans (hbC.mono hqB.size)))
      go_wp2_with fail
      go_ret
      have hos := HOS.out
      refine ⟨_, _, ret_bool (by simp [HMS.out]), HLY.out.later hqC, fun wf hk => HSVV.out wf ⟨?_, fun b hb hn => ?_⟩, ?_⟩
      · have h1 := hqC.size; have h2 := hk.1; have h3 := HSY.out; omega
      · have h3 := HSY.out
        exact (hk.2 b (by have h1 := hqC.size; omega) (fun h => hn ⟨.inl h.1, by have := HW9.out.size; omega⟩)).trans ((hqC.block b (by omega)).trans (HOTH.out b fun e => hn ⟨.inl (e ▸ HBP.out), by have := HW9.out.size; have := HPL.out; omega⟩))
      · exact ⟨hqC.os.trans (hos.1.trans HWA.out.os), hqC.tape.trans (hos.2.1.trans HWA.out.tape), hqC.output.trans (hos.2.2.trans HWA.out.output), by have h1 := HWA.out.size; have h2 := hqC.size; have h3 := HSY.out; omega, fun i h1 h2 _ _ => (hqC.block i (by have h4 := HWA.out.size; have h3 := HSY.out; omega)).trans ((HOTH.out i h2).trans (HWA.out.block i h1))⟩
end Go.Proofs.Ythdfomcpoofkaaa.Si
