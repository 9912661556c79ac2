/- Package scheme: bound says a type of a variable of which nothing was said, or holds it against what was said. -/
import Derived.Test.YthdfomcpoofkaaaMg14
import Derived.Test.YthdfomcpoofkaaaMg33
import Derived.Test.YthdfomcpoofkaaaMg34
import Derived.Test.YthdfomcpoofkaaaMg13
import Derived.Test.YthdfomcpoofkaaaMg12
import Derived.Outline
namespace Go.Proofs.Ythdfomcpoofkaaa.Si
open Go.RowKit

def BndEnd (BX : Nat → Prop) (w : World) (p : Nat) (s1 s2 : Value) (l : List Value) (bk br : Nat) (td : Value) (bm m : Nat) (T : Int → Option Ty) (Q : Int → Option (List Str × Int)) (n : Int) (t : Ty) (e : Ending) (w' : World) : Prop :=
  ∃ v1 v2, e = .returned (.bool true) ∧ Lies w' p 97 (matC s1 s2 l bk br v1 v2 td bm) ∧ (∀ wf, Kept (fun b => BX b ∧ b < w.heap.size) w' wf → SubV wf (.agg #[v1, v2]) (m + 1) (setF T n t) Q) ∧ Chg2 p p (.slice none 0 0) w w'
set_option maxRecDepth 100000 in
set_option maxHeartbeats 16000000 in
theorem bound_new (BX : Nat → Prop) (w : World) (p : Nat) (hBp : BX p) (s1 s2 : Value) (l : List Value) (hl6 : l.length = 6) (bk br : Nat) (v1 v2 td : Value) (bm : Nat) (hl : Lies w p 97 (matC s1 s2 l bk br v1 v2 td bm)) (m : Nat) (T : Int → Option Ty) (Q : Int → Option (List Str × Int)) (hs : SubV (blank BX w) (.agg #[v1, v2]) m T Q) (hm : m ≤ 1000)
    (n : Int) (hn : i64ok n) (hT : T n = none) (hTs : ∀ u, T n = some u → u.size ≤ 1000) (t : Ty) (lt : List Value) (ht : TRV w t lt) (hsz : t.size ≤ 1000) :
    Calls Try.prog 77 #[.pointer (some ⟨p, 0, none⟩), .int .i64 n, .agg lt.toArray] w (BndEnd BX w p s1 s2 l bk br td bm m T Q n t) := by
  obtain ⟨x0, x1, x2, x3, x4, x5, rfl⟩ : ∃ a b c d e f, l = [a, b, c, d, e, f] := by
    match l, hl6 with
    | [a, b, c, d, e, f], _ => exact ⟨a, b, c, d, e, f, rfl⟩
  have ht0 := ht
  have hsw : ∀ w', Below w.heap.size w w' → SubV w' (.agg #[v1, v2]) m T Q := fun w' hb => hs.keepL (blank_to (Y := fun _ => False) (Kept.of_below hb) (fun _ _ h => h.elim))
  have hsb : ∀ w', Below w.heap.size w w' → SubV (blank (fun b => BX b ∨ w.heap.size ≤ b) w') (.agg #[v1, v2]) m T Q := fun w' hb => hs.keepL (blank_more hb)
  obtain ⟨A1, n1, c1, rfl⟩ : ∃ A n c, v1 = .slice A n c := by
    obtain ⟨vt, vr, gt, gr, h1, h2, h3, _⟩ := hs
    injection h1 with h1
    simp only [Array.mk.injEq, List.cons.injEq] at h1
    obtain ⟨A, n, c, h⟩ := h2.one
    exact ⟨A, n, c, h1.1.trans h⟩
  obtain ⟨A2, n2, c2, rfl⟩ : ∃ A n c, v2 = .slice A n c := by
    obtain ⟨vt, vr, gt, gr, h1, h2, h3, _⟩ := hs
    injection h1 with h1
    simp only [Array.mk.injEq, List.cons.injEq] at h1
    obtain ⟨A, n, c, h⟩ := h3.one
    exact ⟨A, n, c, h1.2.1.trans h⟩
  obtain ⟨k, nm, v, kids, ls, rv⟩ := t
  obtain ⟨A3, n3, c3, A4, n4, c4, rfl⟩ := ht.shape
  unfold tyC at ht0 ⊢
  obtain ⟨W, hW⟩ : ∃ W, W = w.alloc (.cells #[.int .i64 k, .string (ba nm), .int .i64 v, .slice A3 n3 c3, .slice A4 n4 c4, .int .i64 rv] 28) := ⟨_, rfl⟩
  have hb : Below w.heap.size w W := by rw [hW]; exact below_new w _
  have k1 : Lies W w.heap.size 28 #[.int .i64 k, .string (ba nm), .int .i64 v, .slice A3 n3 c3, .slice A4 n4 c4, .int .i64 rv] := by rw [hW]; exact Lies.new _ _ _
  have lW := hl.later hb
  have e10 : W.cell? ⟨p, 10, none⟩ = some (.slice A1 n1 c1) := lW.cell 10
  have e11 : W.cell? ⟨p, 11, none⟩ = some (.slice A2 n2 c2) := lW.cell 11
  rw [hW] at e10 e11
  have hty := type_any W _ m T Q (hsw W hb) (by omega) n hn hTs
  rw [hT] at hty
  have HW := Lib.hid hW
  have HB := Lib.hid hb
  have HK1 := Lib.hid k1
  have HL := Lib.hid hl
  have HTY := Lib.hid hty
  have HSB := Lib.hid hsb
  have HT := Lib.hid ht0
  have HSZ := Lib.hid hsz
  have hpl := hl.lt
  clear hW hb k1 hl hty hs hsw hsb ht ht0 hsz lW
  go_enter Try.func77, Try.ntmps77
  go_wp2_with fail
  rw [← HW.out]
  refine HTY.out.mono ?_
  rintro e w1 ⟨l1, rfl, htz, hb1⟩
  obtain ⟨A5, n5, c5, A6, n6, c6, rfl⟩ := TRV.shape (k := 0) (nm := []) (v := 0) (kids := []) (ls := []) (rv := 0) htz
  unfold tyC
  have hB1 : Below w.heap.size w w1 := HB.out.trans (hb1.mono HB.out.size)
  have HB1 := Lib.hid hB1
  have HBW := Lib.hid hb1
  clear htz hb1 hB1 e10 e11 HTY
  simp only [Option.isSome_none]
  go_wp2_with fail
  obtain ⟨X, hX⟩ : ∃ X, X = w1.alloc (.cells #[.int .i64 0, .string (ba []), .int .i64 0, .slice A5 n5 c5, .slice A6 n6 c6, .int .i64 0] 28) := ⟨_, rfl⟩
  have hbX : Below w.heap.size w X := by rw [hX]; exact HB1.out.trans ((below_new w1 _).mono HB1.out.size)
  have hbWX : Below W.heap.size W X := by rw [hX]; exact HBW.out.trans ((below_new w1 _).mono HBW.out.size)
  have lX := HL.out.later hbX
  have lY := HK1.out.later hbWX
  have HX := Lib.hid hX
  rw [← HX.out]
  have hSS : ∀ V, Below X.heap.size X V → V.cell? ⟨p, 10, none⟩ = some (.slice A1 n1 c1) ∧ V.cell? ⟨p, 11, none⟩ = some (.slice A2 n2 c2) ∧ V.cell? ⟨w.heap.size, 0, none⟩ = some (.int .i64 k) ∧ V.cell? ⟨w.heap.size, 1, none⟩ = some (.string (ba nm)) ∧ V.cell? ⟨w.heap.size, 2, none⟩ = some (.int .i64 v) ∧ V.cell? ⟨w.heap.size, 3, none⟩ = some (.slice A3 n3 c3) ∧ V.cell? ⟨w.heap.size, 4, none⟩ = some (.slice A4 n4 c4) ∧ V.cell? ⟨w.heap.size, 5, none⟩ = some (.int .i64 rv) := fun V hV =>
    ⟨(hV.cell (p := ⟨p, 10, none⟩) lX.lt).trans (lX.cell 10), (hV.cell (p := ⟨p, 11, none⟩) lX.lt).trans (lX.cell 11), (hV.cell (p := ⟨w.heap.size, 0, none⟩) lY.lt).trans (lY.cell 0), (hV.cell (p := ⟨w.heap.size, 1, none⟩) lY.lt).trans (lY.cell 1), (hV.cell (p := ⟨w.heap.size, 2, none⟩) lY.lt).trans (lY.cell 2), (hV.cell (p := ⟨w.heap.size, 3, none⟩) lY.lt).trans (lY.cell 3), (hV.cell (p := ⟨w.heap.size, 4, none⟩) lY.lt).trans (lY.cell 4), (hV.cell (p := ⟨w.heap.size, 5, none⟩) lY.lt).trans (lY.cell 5)⟩
  have hd : Below X.heap.size X X.drew := (Below.refl _ _).drew
  have hbd : Below w.heap.size w X.drew := hbX.drew
  have hst := setType_any (fun b => BX b ∨ w.heap.size ≤ b) X.drew _ m T Q (HSB.out _ hbd) hm n hn (.mk k nm v kids ls rv) _ (HT.out.keep hbd.block) HSZ.out
  unfold tyC at hst
  have HSS := Lib.hid hSS
  have HST := Lib.hid hst
  have HBD := Lib.hid hbX
  clear hX hbWX lX lY hSS hst hbd hbX
  obtain ⟨z0, z1, z2, z3, z4, z5, z6, z7⟩ := HSS.out X.drew hd
  go_wp2_with fail
  refine wp_region_held_drew (S := (fun V => V.cell? ⟨w.heap.size, 0, none⟩ = some (.int .i64 k) ∧ V.cell? ⟨w.heap.size, 1, none⟩ = some (.string (ba nm)) ∧ V.cell? ⟨w.heap.size, 2, none⟩ = some (.int .i64 v) ∧ V.cell? ⟨w.heap.size, 3, none⟩ = some (.slice A3 n3 c3) ∧ V.cell? ⟨w.heap.size, 4, none⟩ = some (.slice A4 n4 c4) ∧ V.cell? ⟨w.heap.size, 5, none⟩ = some (.int .i64 rv))) (by kernel_rfl) ?_ (fun hHeld => ?_)
  · exact (HSS.out _ hd).2.2
  refine wpAnyH_take (i := 0) (oi := ⟨some 20, _, _, _, _, _⟩) (v := ?_) rfl (by kernel_rfl) (by kernel_rfl) (by kernel_rfl) (fun _ _ _ h => h) (Or.inl ⟨by kernel_rfl, ?_⟩) (by assumption) ?_
  rotate_left
  · (intro w' hSw; (try dsimp only at hSw); go_split_ands; go_simp; first | done | with_reducible rfl)
  try simp only [Act.put, List.setIfInBounds_toArray, List.set_cons_zero, List.set_cons_succ]
  refine wpAnyH_take (i := 1) (oi := ⟨some 21, _, _, _, _, _⟩) (v := ?_) rfl (by kernel_rfl) (by kernel_rfl) (by kernel_rfl) (fun _ _ _ h => h) (Or.inl ⟨by kernel_rfl, ?_⟩) (by assumption) ?_
  rotate_left
  · (intro w' hSw; (try dsimp only at hSw); go_split_ands; go_simp; first | done | with_reducible rfl)
  try simp only [Act.put, List.setIfInBounds_toArray, List.set_cons_zero, List.set_cons_succ]
  refine wpAnyH_take (i := 2) (oi := ⟨some 22, _, _, _, _, _⟩) (v := ?_) rfl (by kernel_rfl) (by kernel_rfl) (by kernel_rfl) (fun _ _ _ h => h) (Or.inl ⟨by kernel_rfl, ?_⟩) (by assumption) ?_
  rotate_left
  · (intro w' hSw; (try dsimp only at hSw); go_split_ands; go_simp; first | done | with_reducible rfl)
  try simp only [Act.put, List.setIfInBounds_toArray, List.set_cons_zero, List.set_cons_succ]
  refine wpAnyH_take (i := 3) (oi := ⟨some 23, _, _, _, _, _⟩) (v := ?_) rfl (by kernel_rfl) (by kernel_rfl) (by kernel_rfl) (fun _ _ _ h => h) (Or.inl ⟨by kernel_rfl, ?_⟩) (by assumption) ?_
  rotate_left
  · (intro w' hSw; (try dsimp only at hSw); go_split_ands; go_simp; first | done | with_reducible rfl)
  try simp only [Act.put, List.setIfInBounds_toArray, List.set_cons_zero, List.set_cons_succ]
  refine wpAnyH_take (i := 5) (oi := ⟨some 25, _, _, _, _, _⟩) (v := ?_) rfl (by kernel_rfl) (by kernel_rfl) (by kernel_rfl) (fun _ _ _ h => h) (Or.inl ⟨by kernel_rfl, ?_⟩) (by assumption) ?_
  rotate_left
  · (intro w' hSw; (try dsimp only at hSw); go_split_ands; go_simp; first | done | with_reducible rfl)
  try simp only [Act.put, List.setIfInBounds_toArray, List.set_cons_zero, List.set_cons_succ]
  refine wpAnyH_take (i := 6) (oi := ⟨some 26, _, _, _, _, _⟩) (v := ?_) rfl (by kernel_rfl) (by kernel_rfl) (by kernel_rfl) (fun _ _ _ h => h) (Or.inl ⟨by kernel_rfl, ?_⟩) (by assumption) ?_
  rotate_left
  · (intro w' hSw; (try dsimp only at hSw); go_split_ands; go_simp; first | done | with_reducible rfl)
  try simp only [Act.put, List.setIfInBounds_toArray, List.set_cons_zero, List.set_cons_succ]
  refine wpAnyH_ready (rs := [4]) (by kernel_rfl) (by simp) ?_
  refine AllReadyH.cons (o := ⟨some 24, _, _, _, _, _⟩) rfl (fun K hK => ?_) AllReadyH.nil
  go_simp
  refine hK.out _ _ ?_ (fun hHeld => ?_)
  · exact (HSS.out _ hd).2.2
  clear hK K
  try simp only [Act.put, List.setIfInBounds_toArray, List.set_cons_zero, List.set_cons_succ]
  refine wpAnyH_ready (rs := [7]) (by kernel_rfl) (by simp) ?_
  refine AllReadyH.cons (o := ⟨some 27, _, _, _, _, _⟩) rfl (fun K hK => ?_) AllReadyH.nil
  go_simp
  go_at_call 11
  refine HST.out.mono ?_
  rintro e w8 ⟨sv, rfl, hsv, hb8⟩
  have hq8 : Below X.heap.size X w8 := hd.trans hb8
  obtain ⟨B1, m1, d1, B2, m2, d2, rfl⟩ : ∃ B1 m1 d1 B2 m2 d2, sv = .agg #[.slice B1 m1 d1, .slice B2 m2 d2] := by
    obtain ⟨vt, vr, _, _, h1, h2, h3, _⟩ := hsv w8 ⟨Nat.le_refl _, fun _ _ _ => rfl⟩
    obtain ⟨a1, a2, a3, rfl⟩ := h2.one
    obtain ⟨a4, a5, a6, rfl⟩ := h3.one
    exact ⟨_, _, _, _, _, _, h1⟩
  have hb08 := HBD.out.trans (hq8.mono HBD.out.size)
  have l8 := HL.out.later hb08
  have f10 := l8.free 10
  have f11 := l8.free 11
  have g10 : w8.cell? ⟨p, 10, none⟩ = some (.slice A1 n1 c1) := l8.cell 10
  have g11 : w8.cell? ⟨p, 11, none⟩ = some (.slice A2 n2 c2) := l8.cell 11
  have HSVV := Lib.hid hsv
  have HL8 := Lib.hid l8
  have HB8 := Lib.hid hb08
  have HXS := Lib.hid HBD.out.size
  have HQ8 := Lib.hid hq8
  clear hsv l8 hb08 hb8
  refine hK.out _ _ ?_ (fun hHeld => ?_)
  · exact (HSS.out _ hq8).2.2
  clear hK K
  try simp only [Act.put, List.setIfInBounds_toArray, List.set_cons_zero, List.set_cons_succ]
  refine wpAnyH_take (i := 8) (oi := ⟨some 28, _, _, _, _, _⟩) (v := ?_) rfl (by kernel_rfl) (by kernel_rfl) (by kernel_rfl) (fun _ _ _ h => h) (Or.inl ⟨by kernel_rfl, ?_⟩) (by assumption) ?_
  rotate_left
  · (intro w' hSw; (try dsimp only at hSw); go_split_ands; go_simp; first | done | with_reducible rfl)
  try simp only [Act.put, List.setIfInBounds_toArray, List.set_cons_zero, List.set_cons_succ]
  refine wpAnyH_take (i := 9) (oi := ⟨some 29, _, _, _, _, _⟩) (v := ?_) rfl (by kernel_rfl) (by kernel_rfl) (by kernel_rfl) (fun _ _ _ h => h) (Or.inl ⟨by kernel_rfl, ?_⟩) (by assumption) ?_
  rotate_left
  · (intro w' hSw; (try dsimp only at hSw); go_split_ands; go_simp; first | done | with_reducible rfl)
  try simp only [Act.put, List.setIfInBounds_toArray, List.set_cons_zero, List.set_cons_succ]
  refine wpAnyH_ready (rs := [10]) (by kernel_rfl) (by simp) ?_
  refine AllReadyH.cons (o := ⟨none, _, _, _, _, _⟩) rfl (fun K hK => ?_) AllReadyH.nil
  go_simp
  refine hK.out _ _ ?_ (fun hHeld => ?_)
  · have hne : w.heap.size ≠ p := by omega
    have hoth : ((w8.setCell ⟨p, 10, none⟩ (.slice B1 m1 d1)).setCell ⟨p, 11, none⟩ (.slice B2 m2 d2)).heap[w.heap.size]? = w8.heap[w.heap.size]? := (Below.heap_setCell _ ⟨p, 11, none⟩ _ _ hne).trans (Below.heap_setCell _ ⟨p, 10, none⟩ _ _ hne)
    have e : ∀ j, ((w8.setCell ⟨p, 10, none⟩ (.slice B1 m1 d1)).setCell ⟨p, 11, none⟩ (.slice B2 m2 d2)).cell? ⟨w.heap.size, j, none⟩ = w8.cell? ⟨w.heap.size, j, none⟩ := fun j => World.cell?_of_block (w := w8) (a := ⟨w.heap.size, j, none⟩) hoth
    obtain ⟨_, _, z0, z1, z2, z3, z4, z5⟩ := HSS.out _ hq8
    exact ⟨(e 0).trans z0, (e 1).trans z1, (e 2).trans z2, (e 3).trans z3, (e 4).trans z4, (e 5).trans z5⟩
  clear hK K
  try simp only [Act.put, List.setIfInBounds_toArray, List.set_cons_zero, List.set_cons_succ]
  refine wpAnyH_done (by kernel_rfl) ?_ _
  clear z0 z1 z2 z3 z4 z5 z6 z7 hd HST
  go_wp2_with fail
  go_ret
  have hoth : ∀ g, g ≠ p → ((w8.setCell ⟨p, 10, none⟩ (.slice B1 m1 d1)).setCell ⟨p, 11, none⟩ (.slice B2 m2 d2)).heap[g]? = w8.heap[g]? := fun g hg => (Below.heap_setCell _ ⟨p, 11, none⟩ _ g hg).trans (Below.heap_setCell _ ⟨p, 10, none⟩ _ g hg)
  refine ⟨.slice B1 m1 d1, .slice B2 m2 d2, rfl, (HL8.out.set 10 _).set 11 _, fun wf hk => HSVV.out wf ⟨?_, fun b hb hn => ?_⟩, ?_⟩
  · refine Nat.le_trans ?_ hk.1
    simp [World.size_setCell]
  · refine (hk.2 b (by simpa [World.size_setCell] using hb) (fun h => hn ⟨.inl h.1, Nat.lt_of_lt_of_le h.2 HXS.out⟩)).trans (hoth b fun e => hn ⟨.inl (e ▸ hBp), by rw [e]; exact Nat.lt_of_lt_of_le hpl HXS.out⟩)
  · refine ⟨HB8.out.os, HB8.out.tape, HB8.out.output, by simpa [World.size_setCell] using HB8.out.size, fun i h1 h2 _ _ => (hoth i h2).trans (HB8.out.block i h1)⟩
set_option maxRecDepth 100000 in
set_option maxHeartbeats 16000000 in
theorem bound_said (w : World) (p : Nat) (s1 s2 : Value) (l : List Value) (hl6 : l.length = 6) (bk br : Nat) (v1 v2 td : Value) (bm : Nat) (hl : Lies w p 97 (matC s1 s2 l bk br v1 v2 td bm)) (m : Nat) (T : Int → Option Ty) (Q : Int → Option (List Str × Int)) (hs : SubV w (.agg #[v1, v2]) m T Q) (hm : m ≤ 1000000)
    (n : Int) (hn : i64ok n) (t : Ty) (hT : T n = some t) (lt : List Value) (ht : TRV w t lt) (hw : TWV w t lt) (hsz : t.size ≤ 1000) :
    Calls Try.prog 77 #[.pointer (some ⟨p, 0, none⟩), .int .i64 n, .agg lt.toArray] w fun e w' => e = .returned (.bool true) ∧ Below w.heap.size w w' := by
  obtain ⟨x0, x1, x2, x3, x4, x5, rfl⟩ : ∃ a b c d e f, l = [a, b, c, d, e, f] := by
    match l, hl6 with
    | [a, b, c, d, e, f], _ => exact ⟨a, b, c, d, e, f, rfl⟩
  have hsw : ∀ w', Below w.heap.size w w' → SubV w' (.agg #[v1, v2]) m T Q := fun w' hb => hs.later hb
  obtain ⟨A1, n1, c1, rfl⟩ : ∃ A n c, v1 = .slice A n c := by
    obtain ⟨vt, vr, gt, gr, h1, h2, h3, _⟩ := hs
    injection h1 with h1
    simp only [Array.mk.injEq, List.cons.injEq] at h1
    obtain ⟨A, n, c, h⟩ := h2.one
    exact ⟨A, n, c, h1.1.trans h⟩
  obtain ⟨A2, n2, c2, rfl⟩ : ∃ A n c, v2 = .slice A n c := by
    obtain ⟨vt, vr, gt, gr, h1, h2, h3, _⟩ := hs
    injection h1 with h1
    simp only [Array.mk.injEq, List.cons.injEq] at h1
    obtain ⟨A, n, c, h⟩ := h3.one
    exact ⟨A, n, c, h1.2.1.trans h⟩
  obtain ⟨k, nm, v, kids, ls, rv⟩ := t
  obtain ⟨A3, n3, c3, A4, n4, c4, rfl⟩ := ht.shape
  unfold tyC at ht hw ⊢
  obtain ⟨W, hW⟩ : ∃ W, W = w.alloc (.cells #[.int .i64 k, .string (ba nm), .int .i64 v, .slice A3 n3 c3, .slice A4 n4 c4, .int .i64 rv] 28) := ⟨_, rfl⟩
  have hb : Below w.heap.size w W := by rw [hW]; exact below_new w _
  have k1 : Lies W w.heap.size 28 #[.int .i64 k, .string (ba nm), .int .i64 v, .slice A3 n3 c3, .slice A4 n4 c4, .int .i64 rv] := by rw [hW]; exact Lies.new _ _ _
  have lW := hl.later hb
  have e10 : W.cell? ⟨p, 10, none⟩ = some (.slice A1 n1 c1) := lW.cell 10
  have e11 : W.cell? ⟨p, 11, none⟩ = some (.slice A2 n2 c2) := lW.cell 11
  rw [hW] at e10 e11
  have hty := type_anyJ W _ m T Q (hsw W hb) (by omega) n hn (fun u hu => by rw [hT] at hu; injection hu with hu; rw [← hu]; exact hsz)
  rw [hT] at hty
  have HW := Lib.hid hW
  have HB := Lib.hid hb
  have HK1 := Lib.hid k1
  have HL := Lib.hid hl
  have HTY := Lib.hid hty
  have HR := Lib.hid ht
  have HWV := Lib.hid hw
  have HSZ := Lib.hid hsz
  have hpl := hl.lt
  clear hW hb k1 hl hty hs hsw ht hw hsz lW
  go_enter Try.func77, Try.ntmps77
  go_wp2_with fail
  rw [← HW.out]
  refine HTY.out.mono ?_
  rintro e w1 ⟨l1, rfl, ⟨htz, htr⟩, hb1⟩
  obtain ⟨A5, n5, c5, A6, n6, c6, rfl⟩ := TRV.shape (TFV.trv htz)
  unfold tyC at htz htr ⊢
  have hB1 : Below w.heap.size w w1 := HB.out.trans (hb1.mono HB.out.size)
  have HB1 := Lib.hid hB1
  have HBW := Lib.hid hb1
  have HTZ := Lib.hid (And.intro htz htr)
  clear htz htr hb1 hB1 e10 e11 HTY
  obtain ⟨X, hX⟩ : ∃ X, X = w1.alloc (.cells #[.int .i64 k, .string (ba nm), .int .i64 v, .slice A5 n5 c5, .slice A6 n6 c6, .int .i64 rv] 28) := ⟨_, rfl⟩
  have hbn : Below w1.heap.size w1 X := by rw [hX]; exact below_new w1 _
  have lX : Lies X w1.heap.size 28 #[.int .i64 k, .string (ba nm), .int .i64 v, .slice A5 n5 c5, .slice A6 n6 c6, .int .i64 rv] := by rw [hX]; exact Lies.new w1 _ _
  have lY := (HK1.out.later HBW.out).later hbn
  have hbX : Below w.heap.size w X := HB1.out.trans (hbn.mono HB1.out.size)
  have hst := same_tree w X hbX (.mk k nm v kids ls rv) _ _ W.heap.size HB.out.size (HTZ.out.1.keep hbn.block) (HTZ.out.2.kept (below_kept hbn _)) HR.out HWV.out HSZ.out
  have HX := Lib.hid hX
  have HST := Lib.hid hst
  have HBX := Lib.hid hbX
  have y0 := lY.cell 0
  have y1 := lY.cell 1
  have y2 := lY.cell 2
  have y3 := lY.cell 3
  have y4 := lY.cell 4
  have y5 := lY.cell 5
  have z0 := lX.cell 0
  have z1 := lX.cell 1
  have z2 := lX.cell 2
  have z3 := lX.cell 3
  have z4 := lX.cell 4
  have z5 := lX.cell 5
  clear hX hbn lX lY hbX hst
  simp only [Option.isSome_some]
  rw [HX.out] at y0 y1 y2 y3 y4 y5 z0 z1 z2 z3 z4 z5
  go_wp2_with fail
  rw [← HX.out]
  refine HST.out.mono ?_
  rintro e w9 ⟨rfl, hb9⟩
  clear y0 y1 y2 y3 y4 y5 z0 z1 z2 z3 z4 z5
  go_wp2_with fail
  go_ret
  exact ⟨rfl, HBX.out.trans (hb9.mono HBX.out.size)⟩
end Go.Proofs.Ythdfomcpoofkaaa.Si
