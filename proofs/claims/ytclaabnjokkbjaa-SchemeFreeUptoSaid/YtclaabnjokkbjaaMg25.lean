/- Package scheme: bound says a type of a variable of which nothing was said. -/
import Derived.Test.YtclaabnjokkbjaaMg24
import Derived.Test.YtclaabnjokkbjaaMg23
import Derived.Test.YtclaabnjokkbjaaMg19
import Derived.Outline
namespace Go.Proofs.Ytclaabnjokkbjaa
open Go.RowKit

def BndEnd (BX : Nat → Prop) (w : World) (p : Nat) (s1 s2 : Value) (l : List Value) (bk br : Nat) (td : Value) (bm m : Nat) (T : Int → Option Ty) (n : Int) (t : Ty) (e : Ending) (w' : World) : Prop :=
  ∃ v1 v2, e = .returned (.bool true) ∧ Lies w' p 97 (matC s1 s2 l bk br v1 v2 td bm) ∧ (∀ wf, Kept (fun b => BX b ∧ b < w.heap.size) w' wf → SubV wf (.agg #[v1, v2]) (m + 1) (setF T n t) R0) ∧ Chg2 p p (.slice none 0 0) w w'
set_option maxRecDepth 100000 in
set_option maxHeartbeats 16000000 in
theorem bound_any (BX : Nat → Prop) (w : World) (p : Nat) (hBp : BX p) (s1 s2 : Value) (l : List Value) (hl6 : l.length = 6) (bk br : Nat) (v1 v2 td : Value) (bm : Nat) (hl : Lies w p 97 (matC s1 s2 l bk br v1 v2 td bm)) (m : Nat) (T : Int → Option Ty) (hs : SubV (blank BX w) (.agg #[v1, v2]) m T R0) (hm : m ≤ 1000)
    (n : Int) (hn : i64ok n) (hT : T n = none) (hTs : ∀ u, T n = some u → u.size ≤ 1000) (t : Ty) (lt : List Value) (ht : TRV w t lt) (hsz : t.size ≤ 1000) :
    Calls Try.prog 77 #[.pointer (some ⟨p, 0, none⟩), .int .i64 n, .agg lt.toArray] w (BndEnd BX w p s1 s2 l bk br td bm m T n t) := by
  obtain ⟨x0, x1, x2, x3, x4, x5, rfl⟩ : ∃ a b c d e f, l = [a, b, c, d, e, f] := by
    match l, hl6 with
    | [a, b, c, d, e, f], _ => exact ⟨a, b, c, d, e, f, rfl⟩
  have ht0 := ht
  have hsw : ∀ w', Below w.heap.size w w' → SubV w' (.agg #[v1, v2]) m T R0 := fun w' hb => hs.keepL (blank_to (Y := fun _ => False) (Kept.of_below hb) (fun _ _ h => h.elim))
  have hsb : ∀ w', Below w.heap.size w w' → SubV (blank (fun b => BX b ∨ w.heap.size ≤ b) w') (.agg #[v1, v2]) m T R0 := fun w' hb => hs.keepL (blank_more hb)
  obtain ⟨A1, n1, c1, rfl⟩ : ∃ A n c, v1 = .slice A n c := by
    obtain ⟨vt, vr, gt, gr, h1, h2, h3, _⟩ := hs
    injection h1 with h1
    simp only [Array.mk.injEq, List.cons.injEq] at h1
    obtain ⟨A, n, c, h⟩ := h2.one
    exact ⟨A, n, c, h1.1.trans h⟩
  obtain ⟨A2, n2, c2, rfl⟩ : ∃ A n c, v2 = .slice A n c := by
    obtain ⟨vt, vr, gt, gr, h1, h2, h3, _⟩ := hs
    injection h1 with h1
    simp only [Array.mk.injEq, List.cons.injEq] at h1
    obtain ⟨A, n, c, h⟩ := h3.one
    exact ⟨A, n, c, h1.2.1.trans h⟩
  obtain ⟨k, nm, v, kids, ls, rv⟩ := t
  obtain ⟨A3, n3, c3, A4, n4, c4, rfl⟩ := ht.shape
  unfold tyC at ht0 ⊢
  obtain ⟨W, hW⟩ : ∃ W, W = w.alloc (.cells #[.int .i64 k, .string (ba nm), .int .i64 v, .slice A3 n3 c3, .slice A4 n4 c4, .int .i64 rv] 28) := ⟨_, rfl⟩
  have hb : Below w.heap.size w W := by rw [hW]; exact below_new w _
  have k1 : Lies W w.heap.size 28 #[.int .i64 k, .string (ba nm), .int .i64 v, .slice A3 n3 c3, .slice A4 n4 c4, .int .i64 rv] := by rw [hW]; exact Lies.new _ _ _
  have lW := hl.later hb
  have e10 : W.cell? ⟨p, 10, none⟩ = some (.slice A1 n1 c1) := lW.cell 10
  have e11 : W.cell? ⟨p, 11, none⟩ = some (.slice A2 n2 c2) := lW.cell 11
  rw [hW] at e10 e11
  have hty := type_any W _ m T R0 (hsw W hb) (by omega) n hn hTs
  rw [hT] at hty
  have HW := Lib.hid hW
  have HB := Lib.hid hb
  have HK1 := Lib.hid k1
  have HL := Lib.hid hl
  have HTY := Lib.hid hty
  have HSB := Lib.hid hsb
  have HT := Lib.hid ht0
  have HSZ := Lib.hid hsz
  have hpl := hl.lt
  clear hW hb k1 hl hty hs hsw hsb ht ht0 hsz lW
  go_enter Try.func77, Try.ntmps77
  go_wp2_with fail
  rw [← HW.out]
  refine HTY.out.mono ?_
  rintro e w1 ⟨l1, rfl, htz, hb1⟩
  obtain ⟨A5, n5, c5, A6, n6, c6, rfl⟩ := TRV.shape (k := 0) (nm := []) (v := 0) (kids := []) (ls := []) (rv := 0) htz
  unfold tyC
  have hB1 : Below w.heap.size w w1 := HB.out.trans (hb1.mono HB.out.size)
  have HB1 := Lib.hid hB1
  have HBW := Lib.hid hb1
  clear htz hb1 hB1 e10 e11 HTY
  simp only [Option.isSome_none]
  go_wp2_with fail
  obtain ⟨X, hX⟩ : ∃ X, X = w1.alloc (.cells #[.int .i64 0, .string (ba []), .int .i64 0, .slice A5 n5 c5, .slice A6 n6 c6, .int .i64 0] 28) := ⟨_, rfl⟩
  have hbX : Below w.heap.size w X := by rw [hX]; exact HB1.out.trans ((below_new w1 _).mono HB1.out.size)
  have hbWX : Below W.heap.size W X := by rw [hX]; exact HBW.out.trans ((below_new w1 _).mono HBW.out.size)
  have lX := HL.out.later hbX
  have lY := HK1.out.later hbWX
  have HX := Lib.hid hX
  rw [← HX.out]
  have hSS : ∀ V, Below X.heap.size X V → V.cell? ⟨p, 10, none⟩ = some (.slice A1 n1 c1) ∧ V.cell? ⟨p, 11, none⟩ = some (.slice A2 n2 c2) ∧ V.cell? ⟨w.heap.size, 0, none⟩ = some (.int .i64 k) ∧ V.cell? ⟨w.heap.size, 1, none⟩ = some (.string (ba nm)) ∧ V.cell? ⟨w.heap.size, 2, none⟩ = some (.int .i64 v) ∧ V.cell? ⟨w.heap.size, 3, none⟩ = some (.slice A3 n3 c3) ∧ V.cell? ⟨w.heap.size, 4, none⟩ = some (.slice A4 n4 c4) ∧ V.cell? ⟨w.heap.size, 5, none⟩ = some (.int .i64 rv) := fun V hV =>
    ⟨(hV.cell (p := ⟨p, 10, none⟩) lX.lt).trans (lX.cell 10), (hV.cell (p := ⟨p, 11, none⟩) lX.lt).trans (lX.cell 11), (hV.cell (p := ⟨w.heap.size, 0, none⟩) lY.lt).trans (lY.cell 0), (hV.cell (p := ⟨w.heap.size, 1, none⟩) lY.lt).trans (lY.cell 1), (hV.cell (p := ⟨w.heap.size, 2, none⟩) lY.lt).trans (lY.cell 2), (hV.cell (p := ⟨w.heap.size, 3, none⟩) lY.lt).trans (lY.cell 3), (hV.cell (p := ⟨w.heap.size, 4, none⟩) lY.lt).trans (lY.cell 4), (hV.cell (p := ⟨w.heap.size, 5, none⟩) lY.lt).trans (lY.cell 5)⟩
  have hd : Below X.heap.size X X.drew := (Below.refl _ _).drew
  have hbd : Below w.heap.size w X.drew := hbX.drew
  have hst := setType_any (fun b => BX b ∨ w.heap.size ≤ b) X.drew _ m T R0 (HSB.out _ hbd) hm n hn (.mk k nm v kids ls rv) _ (HT.out.keep hbd.block) HSZ.out
  unfold tyC at hst
  have HSS := Lib.hid hSS
  have HST := Lib.hid hst
  have HBD := Lib.hid hbX
  clear hX hbWX lX lY hSS hst hbd hbX
  obtain ⟨z0, z1, z2, z3, z4, z5, z6, z7⟩ := HSS.out X.drew hd
  go_wp2_with fail
  refine wp_region_held_drew (S := (fun V => V.cell? ⟨w.heap.size, 0, none⟩ = some (.int .i64 k) ∧ V.cell? ⟨w.heap.size, 1, none⟩ = some (.string (ba nm)) ∧ V.cell? ⟨w.heap.size, 2, none⟩ = some (.int .i64 v) ∧ V.cell? ⟨w.heap.size, 3, none⟩ = some (.slice A3 n3 c3) ∧ V.cell? ⟨w.heap.size, 4, none⟩ = some (.slice A4 n4 c4) ∧ V.cell? ⟨w.heap.size, 5, none⟩ = some (.int .i64 rv))) (by kernel_rfl) ?_ (fun hHeld => ?_)
  · exact (HSS.out _ hd).2.2
  refine wpAnyH_take (i := 0) (oi := ⟨some 20, _, _, _, _, _⟩) (v := ?_) rfl (by kernel_rfl) (by kernel_rfl) (by kernel_rfl) (fun _ _ _ h => h) (Or.inl ⟨by kernel_rfl, ?_⟩) (by assumption) ?_
  rotate_left
  · (intro w' hSw; (try dsimp only at hSw); go_split_ands; go_simp; first | done | with_reducible rfl)
  try simp only [Act.put, List.setIfInBounds_toArray, List.set_cons_zero, List.set_cons_succ]
  refine wpAnyH_take (i := 1) (oi := ⟨some 21, _, _, _, _, _⟩) (v := ?_) rfl (by kernel_rfl) (by kernel_rfl) (by kernel_rfl) (fun _ _ _ h => h) (Or.inl ⟨by kernel_rfl, ?_⟩) (by assumption) ?_
  rotate_left
  · (intro w' hSw; (try dsimp only at hSw); go_split_ands; go_simp; first | done | with_reducible rfl)
  try simp only [Act.put, List.setIfInBounds_toArray, List.set_cons_zero, List.set_cons_succ]
  refine wpAnyH_take (i := 2) (oi := ⟨some 22, _, _, _, _, _⟩) (v := ?_) rfl (by kernel_rfl) (by kernel_rfl) (by kernel_rfl) (fun _ _ _ h => h) (Or.inl ⟨by kernel_rfl, ?_⟩) (by assumption) ?_
  rotate_left
  · (intro w' hSw; (try dsimp only at hSw); go_split_ands; go_simp; first | done | with_reducible rfl)
  try simp only [Act.put, List.setIfInBounds_toArray, List.set_cons_zero, List.set_cons_succ]
  refine wpAnyH_take (i := 3) (oi := ⟨some 23, _, _, _, _, _⟩) (v := ?_) rfl (by kernel_rfl) (by kernel_rfl) (by kernel_rfl) (fun _ _ _ h => h) (Or.inl ⟨by kernel_rfl, ?_⟩) (by assumption) ?_
  rotate_left
  · (intro w' hSw; (try dsimp only at hSw); go_split_ands; go_simp; first | done | with_reducible rfl)
  try simp only [Act.put, List.setIfInBounds_toArray, List.set_cons_zero, List.set_cons_succ]
  refine wpAnyH_take (i := 5) (oi := ⟨some 25, _, _, _, _, _⟩) (v := ?_) rfl (by kernel_rfl) (by kernel_rfl) (by kernel_rfl) (fun _ _ _ h => h) (Or.inl ⟨by kernel_rfl, ?_⟩) (by assumption) ?_
  rotate_left
  · (intro w' hSw; (try dsimp only at hSw); go_split_ands; go_simp; first | done | with_reducible rfl)
  try simp only [Act.put, List.setIfInBounds_toArray, List.set_cons_zero, List.set_cons_succ]
  refine wpAnyH_take (i := 6) (oi := ⟨some 26, _, _, _, _, _⟩) (v := ?_) rfl (by kernel_rfl) (by kernel_rfl) (by kernel_rfl) (fun _ _ _ h => h) (Or.inl ⟨by kernel_rfl, ?_⟩) (by assumption) ?_
  rotate_left
  · (intro w' hSw; (try dsimp only at hSw); go_split_ands; go_simp; first | done | with_reducible rfl)
  try simp only [Act.put, List.setIfInBounds_toArray, List.set_cons_zero, List.set_cons_succ]
  refine wpAnyH_ready (rs := [4]) (by kernel_rfl) (by simp) ?_
  refine AllReadyH.cons (o := ⟨some 24, _, _, _, _, _⟩) rfl (fun K hK => ?_) AllReadyH.nil
  go_simp
  refine hK.out _ _ ?_ (fun hHeld => ?_)
  · exact (HSS.out _ hd).2.2
  clear hK K
  try simp only [Act.put, List.setIfInBounds_toArray, List.set_cons_zero, List.set_cons_succ]
  refine wpAnyH_ready (rs := [7]) (by kernel_rfl) (by simp) ?_
  refine AllReadyH.cons (o := ⟨some 27, _, _, _, _, _⟩) rfl (fun K hK => ?_) AllReadyH.nil
  go_simp
  go_at_call 11
  refine HST.out.mono ?_
  rintro e w8 ⟨sv, rfl, hsv, hb8⟩
  have hq8 : Below X.heap.size X w8 := hd.trans hb8
  obtain ⟨B1, m1, d1, B2, m2, d2, rfl⟩ : ∃ B1 m1 d1 B2 m2 d2, sv = .agg #[.slice B1 m1 d1, .slice B2 m2 d2] := by
    obtain ⟨vt, vr, _, _, h1, h2, h3, _⟩ := hsv w8 ⟨Nat.le_refl _, fun _ _ _ => rfl⟩
    obtain ⟨a1, a2, a3, rfl⟩ := h2.one
    obtain ⟨a4, a5, a6, rfl⟩ := h3.one
    exact ⟨_, _, _, _, _, _, h1⟩
  have hb08 := HBD.out.trans (hq8.mono HBD.out.size)
  have l8 := HL.out.later hb08
  have f10 := l8.free 10
  have f11 := l8.free 11
  have g10 : w8.cell? ⟨p, 10, none⟩ = some (.slice A1 n1 c1) := l8.cell 10
  have g11 : w8.cell? ⟨p, 11, none⟩ = some (.slice A2 n2 c2) := l8.cell 11
  have HSVV := Lib.hid hsv
  have HL8 := Lib.hid l8
  have HB8 := Lib.hid hb08
  have HXS := Lib.hid HBD.out.size
  have HQ8 := Lib.hid hq8
  clear hsv l8 hb08 hb8
  refine hK.out _ _ ?_ (fun hHeld => ?_)
  · exact (HSS.out _ hq8).2.2
  clear hK K
  try simp only [Act.put, List.setIfInBounds_toArray, List.set_cons_zero, List.set_cons_succ]
  refine wpAnyH_take (i := 8) (oi := ⟨some 28, _, _, _, _, _⟩) (v := ?_) rfl (by kernel_rfl) (by kernel_rfl) (by kernel_rfl) (fun _ _ _ h => h) (Or.inl ⟨by kernel_rfl, ?_⟩) (by assumption) ?_
  rotate_left
  · (intro w' hSw; (try dsimp only at hSw); go_split_ands; go_simp; first | done | with_reducible rfl)
  try simp only [Act.put, List.setIfInBounds_toArray, List.set_cons_zero, List.set_cons_succ]
  refine wpAnyH_take (i := 9) (oi := ⟨some 29, _, _, _, _, _⟩) (v := ?_) rfl (by kernel_rfl) (by kernel_rfl) (by kernel_rfl) (fun _ _ _ h => h) (Or.inl ⟨by kernel_rfl, ?_⟩) (by assumption) ?_
  rotate_left
  · (intro w' hSw; (try dsimp only at hSw); go_split_ands; go_simp; first | done | with_reducible rfl)
  try simp only [Act.put, List.setIfInBounds_toArray, List.set_cons_zero, List.set_cons_succ]
  refine wpAnyH_ready (rs := [10]) (by kernel_rfl) (by simp) ?_
  refine AllReadyH.cons (o := ⟨none, _, _, _, _, _⟩) rfl (fun K hK => ?_) AllReadyH.nil
  go_simp
  refine hK.out _ _ ?_ (fun hHeld => ?_)
  · have hne : w.heap.size ≠ p := by omega
    have hoth : ((w8.setCell ⟨p, 10, none⟩ (.slice B1 m1 d1)).setCell ⟨p, 11, none⟩ (.slice B2 m2 d2)).heap[w.heap.size]? = w8.heap[w.heap.size]? := (Below.heap_setCell _ ⟨p, 11, none⟩ _ _ hne).trans (Below.heap_setCell _ ⟨p, 10, none⟩ _ _ hne)
    have e : ∀ j, ((w8.setCell ⟨p, 10, none⟩ (.slice B1 m1 d1)).setCell ⟨p, 11, none⟩ (.slice B2 m2 d2)).cell? ⟨w.heap.size, j, none⟩ = w8.cell? ⟨w.heap.size, j, none⟩ := fun j => World.cell?_of_block (w := w8) (a := ⟨w.heap.size, j, none⟩) hoth
    obtain ⟨_, _, z0, z1, z2, z3, z4, z5⟩ := HSS.out _ hq8
    exact ⟨(e 0).trans z0, (e 1).trans z1, (e 2).trans z2, (e 3).trans z3, (e 4).trans z4, (e 5).trans z5⟩
  clear hK K
  try simp only [Act.put, List.setIfInBounds_toArray, List.set_cons_zero, List.set_cons_succ]
  refine wpAnyH_done (by kernel_rfl) ?_ _
  clear z0 z1 z2 z3 z4 z5 z6 z7 hd HST
  go_wp2_with fail
  go_ret
  have hoth : ∀ g, g ≠ p → ((w8.setCell ⟨p, 10, none⟩ (.slice B1 m1 d1)).setCell ⟨p, 11, none⟩ (.slice B2 m2 d2)).heap[g]? = w8.heap[g]? := fun g hg => (Below.heap_setCell _ ⟨p, 11, none⟩ _ g hg).trans (Below.heap_setCell _ ⟨p, 10, none⟩ _ g hg)
  refine ⟨.slice B1 m1 d1, .slice B2 m2 d2, rfl, (HL8.out.set 10 _).set 11 _, fun wf hk => HSVV.out wf ⟨?_, fun b hb hn => ?_⟩, ?_⟩
  · refine Nat.le_trans ?_ hk.1
    simp [World.size_setCell]
  · refine (hk.2 b (by simpa [World.size_setCell] using hb) (fun h => hn ⟨.inl h.1, Nat.lt_of_lt_of_le h.2 HXS.out⟩)).trans (hoth b fun e => hn ⟨.inl (e ▸ hBp), by rw [e]; exact Nat.lt_of_lt_of_le hpl HXS.out⟩)
  · refine ⟨HB8.out.os, HB8.out.tape, HB8.out.output, by simpa [World.size_setCell] using HB8.out.size, fun i h1 h2 _ _ => (hoth i h2).trans (HB8.out.block i h1)⟩
end Go.Proofs.Ytclaabnjokkbjaa

/- Package scheme: the matcher's state. -/
namespace Go.Proofs.Ytclaabnjokkbjaa
open Go.RowKit

/-- The matcher's blocks. -/
structure MC (w0 : World) (p bm bk br B : Nat) : Prop where
  p0 : w0.heap.size ≤ p ∧ p < B
  m0 : w0.heap.size ≤ bm ∧ bm < B
  k0 : w0.heap.size ≤ bk ∧ bk < B
  r0 : w0.heap.size ≤ br ∧ br < B
  ne : p ≠ bm ∧ p ≠ bk ∧ p ≠ br ∧ bm ≠ bk ∧ bm ≠ br
/-- What stands between two parts. -/
structure MT (w0 : World) (p bm bk br B : Nat) (s1 s2 : Value) (l : List Value) (K : List Int) (m : Nat) (T : Int → Option Ty) (L : List Nat) (ks : List Pr) (W : World) : Prop where
  ex : ∃ v1 v2 td, MtS W p bm B s1 s2 l bk br v1 v2 td ks.length (ks.flatMap prC) L ∧ SubV (blank (fun b => b = p ∨ b = bm ∨ td.ownBlock = some b) W) (.agg #[v1, v2]) m T R0
  kin : ∃ q, MapI W 0 bk q (inG K)
  row : MapI W 0 br 0 (inG [])
  bel : Below w0.heap.size w0 W
  room : B ≤ W.heap.size
  met : ∀ x ∈ L, x < w0.heap.size
theorem MT.later {w0 : World} {p bm bk br B : Nat} {s1 s2 : Value} {l : List Value} {K : List Int} {m : Nat} {T : Int → Option Ty} {L : List Nat} {ks : List Pr} {W W' : World} (h : MT w0 p bm bk br B s1 s2 l K m T L ks W) (hb : Below W.heap.size W W') : MT w0 p bm bk br B s1 s2 l K m T L ks W' := by
  obtain ⟨⟨v1, v2, td, ⟨h1, h2, h3⟩, h4⟩, ⟨q, h5⟩, h6, h7, h8, h9⟩ := h
  have hlt : ∀ g, live (blank (fun b => b = p ∨ b = bm ∨ td.ownBlock = some b) W) g → (blank (fun b => b = p ∨ b = bm ∨ td.ownBlock = some b) W').heap[g]? = (blank (fun b => b = p ∨ b = bm ∨ td.ownBlock = some b) W).heap[g]? := blank_blank (Y := fun _ => False) (Kept.of_below hb) (fun _ _ h => h.elim)
  exact ⟨⟨v1, v2, td, ⟨h1.later hb, own_later h2 hb, h3.later hb⟩, h4.keepL hlt⟩, ⟨q, h5.later hb⟩, h6.later hb, h7.trans (hb.mono h7.size), Nat.le_trans h8 hb.size, h9⟩
/-- How later turns what is to do. -/
def LatRel (L : List Nat) (ks : List Pr) (fv tv : Value) (n m : Nat) (L' : List Nat) (ks' : List Pr) : Prop :=
  ((n = 0 ∨ m = 0) ∧ L' = L ∧ ks' = ks) ∨ (0 < n ∧ 0 < m ∧ ∃ g, fv = .slice (some ⟨g, 0, none⟩) n n ∧ L' = L ++ [g] ∧ ks' = ks ++ [⟨fv, tv⟩])
theorem later_u {w0 : World} {p bm bk br B : Nat} (hc : MC w0 p bm bk br B) {s1 s2 : Value} {l : List Value} (hl6 : l.length = 6) {K : List Int} {m : Nat} {T : Int → Option Ty} {L : List Nat} {ks : List Pr} {w : World} (h : MT w0 p bm bk br B s1 s2 l K m T L ks w) (hks : ks.length ≤ 1000000)
    (fv tv : Value) (n mm : Nat) (hf : SlF w0 fv n) (hn : n ≤ 1000000) (ht : SlR tv mm) (hmm : mm ≤ 1000000) (hnew : ∀ g, fv = .slice (some ⟨g, 0, none⟩) n n → g ∉ L) (W : World) (hb : Below w.heap.size w W) :
    Calls Try.prog 78 #[.pointer (some ⟨p, 0, none⟩), fv, tv] W fun e W' => e = .returned (.tuple #[]) ∧ (∃ L' ks', LatRel L ks fv tv n mm L' ks' ∧ MT w0 p bm bk br B s1 s2 l K m T L' ks' W') ∧ W.heap.size ≤ W'.heap.size ∧ ∀ i, w.heap.size ≤ i → i < W.heap.size → W'.heap[i]? = W.heap[i]? := by
  by_cases h0 : n = 0 ∨ mm = 0
  · refine (later_none W p fv tv n mm hf.slr ht h0).mono ?_
    rintro e W' ⟨rfl, rfl⟩
    exact ⟨rfl, ⟨L, ks, .inl ⟨h0, rfl, rfl⟩, h.later hb⟩, Nat.le_refl _, fun _ _ _ => rfl⟩
  · obtain ⟨⟨v1, v2, td, hm0, h40⟩, ⟨q, h50⟩, h60, h70, h80, h9⟩ := h
    have hpo0 : ∀ x, td.ownBlock = some x → B ≤ x ∧ x < w.heap.size := own_block hm0.row
    have hm : MtS W p bm B s1 s2 l bk br v1 v2 td ks.length (ks.flatMap prC) L := ⟨hm0.at_.later hb, own_later hm0.row hb, hm0.met.later hb⟩
    have h4 : SubV (blank (fun b => b = p ∨ b = bm ∨ td.ownBlock = some b) W) (.agg #[v1, v2]) m T R0 := h40.keepL (blank_blank (Y := fun _ => False) (Kept.of_below hb) (fun _ _ h => h.elim))
    have h5 := h50.later hb
    have h6 := h60.later hb
    have h7 := h70.trans (hb.mono h70.size)
    have h8 := Nat.le_trans h80 hb.size
    obtain ⟨⟨p1, p2⟩, ⟨m1, m2⟩, ⟨k1, k2⟩, ⟨r1, r2⟩, n1, n2, n3, n4, n5⟩ := hc
    rcases hf with ⟨_, hz⟩ | ⟨g, rfl, hg0, hga⟩
    · omega
    · have hglt := hga.lt
      have hglt : g < w0.heap.size := hglt
      have hpo : ∀ x, td.ownBlock = some x → B ≤ x ∧ x < W.heap.size := own_block hm.row
      refine (later_any W p bm B s1 s2 l hl6 bk br v1 v2 td ks.length _ L p2 m2 n1 h8 hm hks (fun x hx => ?_) g n (hga.keep (h7.block _ hglt)) ⟨by omega, fun e => by have := hpo g e; omega⟩ (hnew g rfl) (by omega) hn tv mm ht (by omega) hmm).mono ?_
      · have hx := h9 x hx
        exact ⟨by omega, by omega, fun e => by have := hpo x e; omega⟩
      · rintro e W' ⟨td', rfl, hm', htd, hch⟩
        have hs := hch.size
        have hke : ∀ i, i < W.heap.size → i ≠ p → i ≠ bm → td.ownBlock ≠ some i → W'.heap[i]? = W.heap[i]? := hch.block
        have hlow : ∀ i, i < B → i ≠ p → i ≠ bm → W'.heap[i]? = W.heap[i]? := fun i h1 h2 h3 => hke i (by omega) h2 h3 (fun e => by have := hpo i e; omega)
        refine ⟨rfl, ⟨L ++ [g], ks ++ [⟨.slice (some ⟨g, 0, none⟩) n n, tv⟩], .inr ⟨by omega, by omega, g, rfl, rfl, rfl⟩, ⟨v1, v2, td', ?_, ?_⟩, ⟨q, h5.keep (hlow bk k2 (fun e => n2 e.symm) (fun e => n4 e.symm))⟩, h6.keep (hlow br r2 (fun e => n3 e.symm) (fun e => n5 e.symm)), ?_, by omega, fun x hx => ?_⟩, hs, fun i h1 h2 => hke i h2 (by omega) (by omega) (fun e => by have := hpo0 i e; omega)⟩
        · have e1 : (ks ++ [(⟨.slice (some ⟨g, 0, none⟩) n n, tv⟩ : Pr)]).flatMap prC = ks.flatMap prC ++ [.slice (some ⟨g, 0, none⟩) n n, tv] := by rw [List.flatMap_append]; simp [prC]
          rw [e1, List.length_append]
          exact hm'
        · refine h4.keepL fun g' hg' => ?_
          obtain ⟨hx, hlt⟩ := blank_live hg'
          refine (blank_at (fun hx' => ?_)).trans ((hke g' hlt (fun e => hx (.inl e)) (fun e => hx (.inr (.inl e))) (fun e => hx (.inr (.inr e)))).trans (blank_at hx).symm)
          rcases hx' with e | e | e
          · exact hx (.inl e)
          · exact hx (.inr (.inl e))
          · rcases htd with h | ⟨b, h, hb⟩
            · exact hx (.inr (.inr (h ▸ e)))
            · rw [h] at e; injection e with e; omega
        · exact ⟨hch.os.trans h7.os, hch.tape.trans h7.tape, hch.output.trans h7.output, Nat.le_trans h7.size hs, fun i hi => (hlow i (by omega) (by omega) (by omega)).trans (h7.block i hi)⟩
        · rcases List.mem_append.1 hx with hx | hx
          · exact h9 x hx
          · rw [List.mem_singleton.1 hx]; exact hglt
end Go.Proofs.Ytclaabnjokkbjaa
