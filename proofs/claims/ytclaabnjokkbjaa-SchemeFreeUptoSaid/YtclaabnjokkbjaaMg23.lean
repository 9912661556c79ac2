/- SetType, SetRow. -/
import Derived.Test.YtclaabnjokkbjaaMg19
import Derived.Test.YtclaabnjokkbjaaSbsT
import Derived.Test.YtclaabnjokkbjaaMg22
import Derived.Outline
namespace Go.Proofs.Ytclaabnjokkbjaa
open Go.RowKit

def setF {α : Type} (T : Int → Option α) (n : Int) (x : α) : Int → Option α := fun k => if k = n then some x else T k
theorem SaidV.mono {w : World} {k m m' : Nat} {v : Value} {g : GMap} (h : SaidV w k v m g) (hm : m ≤ m') : SaidV w k v m' g := by
  obtain ⟨zs, a1, a2, a3, a4, a5⟩ := h
  exact ⟨zs, a1, a2, by omega, by omega, a5⟩
set_option maxRecDepth 100000 in
set_option maxHeartbeats 8000000 in
theorem setType_any (BX : Nat → Prop) (w : World) (sv : Value) (m : Nat) (T : Int → Option Ty) (R : Int → Option (List Str × Int)) (hs : SubV (blank BX w) sv m T R) (hm : m ≤ 1000) (n : Int) (hn : i64ok n) (t : Ty) (l : List Value) (ht : TRV w t l) (hsz : t.size ≤ 1000) :
    Calls Try.prog 11 #[sv, .int .i64 n, .agg l.toArray] w fun e w' => ∃ sv', e = .returned sv' ∧ (∀ wf, Kept (fun b => BX b ∧ b < w.heap.size) w' wf → SubV wf sv' (m + 1) (setF T n t) R) ∧ Below w.heap.size w w' := by
  obtain ⟨vt, vr, gt, gr, rfl, hst, hsr, htm, hrm⟩ := hs
  obtain ⟨A1, n1, c1, rfl⟩ := hst.one
  obtain ⟨A2, n2, c2, rfl⟩ := hsr.one
  have ht0 := ht
  obtain ⟨k, nm, v, kids, ls, rv⟩ := t
  obtain ⟨A3, n3, c3, A4, n4, c4, rfl⟩ := ht.shape
  unfold tyC at ht0 ⊢
  obtain ⟨W, hW⟩ : ∃ W, W = ((w.alloc (.cells #[.slice A1 n1 c1, .slice A2 n2 c2] 38)).alloc (.cells #[.int .i64 k, .string (ba nm), .int .i64 v, .slice A3 n3 c3, .slice A4 n4 c4, .int .i64 rv] 28)).alloc (.cells #[.slice none 0 0, .slice none 0 0] 38) := ⟨_, rfl⟩
  have hb : Below w.heap.size w W := by rw [hW]; exact (((Below.refl _ w).alloc (Nat.le_refl _) _).alloc (by simp) _).alloc (by simp; omega) _
  have k0 : Lies W w.heap.size 38 #[.slice A1 n1 c1, .slice A2 n2 c2] := by rw [hW]; exact ((Lies.new _ _ _).alloc _).alloc _
  have k1 : Lies W (w.heap.size + 1) 28 #[.int .i64 k, .string (ba nm), .int .i64 v, .slice A3 n3 c3, .slice A4 n4 c4, .int .i64 rv] := by rw [hW]; exact (Lies.new' _ _ _ (by simp)).alloc _
  have k2 : Lies W (w.heap.size + 2) 38 #[.slice none 0 0, .slice none 0 0] := by rw [hW]; exact Lies.new' _ _ _ (by simp)
  have hS : (W.cell? ⟨w.heap.size + 1, 0, none⟩ = some (.int .i64 k) ∧ W.cell? ⟨w.heap.size + 1, 1, none⟩ = some (.string (ba nm)) ∧ W.cell? ⟨w.heap.size + 1, 2, none⟩ = some (.int .i64 v) ∧ W.cell? ⟨w.heap.size + 1, 3, none⟩ = some (.slice A3 n3 c3) ∧ W.cell? ⟨w.heap.size + 1, 4, none⟩ = some (.slice A4 n4 c4) ∧ W.cell? ⟨w.heap.size + 1, 5, none⟩ = some (.int .i64 rv)) ∧ (W.cell? ⟨w.heap.size, 0, none⟩ = some (.slice A1 n1 c1) ∧ W.cell? ⟨w.heap.size, 1, none⟩ = some (.slice A2 n2 c2)) ∧ Below w.heap.size w W := ⟨⟨k1.cell 0, k1.cell 1, k1.cell 2, k1.cell 3, k1.cell 4, k1.cell 5⟩, ⟨k0.cell 0, k0.cell 1⟩, hb⟩
  have hk : ∀ V : World, V.heap[w.heap.size]? = W.heap[w.heap.size]? → V.heap[w.heap.size + 1]? = W.heap[w.heap.size + 1]? → Below w.heap.size w V → (V.cell? ⟨w.heap.size + 1, 0, none⟩ = some (.int .i64 k) ∧ V.cell? ⟨w.heap.size + 1, 1, none⟩ = some (.string (ba nm)) ∧ V.cell? ⟨w.heap.size + 1, 2, none⟩ = some (.int .i64 v) ∧ V.cell? ⟨w.heap.size + 1, 3, none⟩ = some (.slice A3 n3 c3) ∧ V.cell? ⟨w.heap.size + 1, 4, none⟩ = some (.slice A4 n4 c4) ∧ V.cell? ⟨w.heap.size + 1, 5, none⟩ = some (.int .i64 rv)) ∧ (V.cell? ⟨w.heap.size, 0, none⟩ = some (.slice A1 n1 c1) ∧ V.cell? ⟨w.heap.size, 1, none⟩ = some (.slice A2 n2 c2)) ∧ Below w.heap.size w V := fun V h0 h1 hb => by
    have j0 : Lies V w.heap.size 38 #[.slice A1 n1 c1, .slice A2 n2 c2] := h0.trans k0
    have j1 : Lies V (w.heap.size + 1) 28 #[.int .i64 k, .string (ba nm), .int .i64 v, .slice A3 n3 c3, .slice A4 n4 c4, .int .i64 rv] := h1.trans k1
    exact ⟨⟨j1.cell 0, j1.cell 1, j1.cell 2, j1.cell 3, j1.cell 4, j1.cell 5⟩, ⟨j0.cell 0, j0.cell 1⟩, hb⟩
  have HK := Lib.hid hk
  have hd0 : W.drew.heap[w.heap.size]? = W.heap[w.heap.size]? := rfl
  have hd1 : W.drew.heap[w.heap.size + 1]? = W.heap[w.heap.size + 1]? := rfl
  have hdB : Below w.heap.size w W.drew := hb.drew
  have hdr : Below W.heap.size W W.drew := (Below.refl _ _).drew
  have hlt0 := k0.lt
  have hlt1 := k1.lt
  have HW := Lib.hid hW
  have HB := Lib.hid hb
  have HK2 := Lib.hid k2
  have hco := fun w7 (hb : Below w.heap.size w w7) => copied_any w7 (.mk k nm v kids ls rv) _ (ht0.later hb) hsz
  have hand := fun w7 (hb : Below w.heap.size w w7) A5 n5 c5 A6 n6 c6 => andT_any (fun b => BX b ∨ w.heap.size ≤ b) w7 (.slice A1 n1 c1) m gt n k nm v A5 n5 c5 A6 n6 c6 rv (hst.keepL (blank_more hb)) hn hm
  have HCO := Lib.hid hco
  have HAND := Lib.hid hand
  clear hco hand ht0 ht
  have HST := Lib.hid hst
  have HSR := Lib.hid hsr
  have HTM := Lib.hid htm
  have HRM := Lib.hid hrm
  clear hW hb k0 k1 k2 hk hst hsr htm hrm
  go_enter Try.func11, Try.ntmps11
  go_wp2_with fail
  rw [← HW.out]
  go_region_held3 (fun VV => (VV.cell? ⟨w.heap.size + 1, 0, none⟩ = some (.int .i64 k) ∧ VV.cell? ⟨w.heap.size + 1, 1, none⟩ = some (.string (ba nm)) ∧ VV.cell? ⟨w.heap.size + 1, 2, none⟩ = some (.int .i64 v) ∧ VV.cell? ⟨w.heap.size + 1, 3, none⟩ = some (.slice A3 n3 c3) ∧ VV.cell? ⟨w.heap.size + 1, 4, none⟩ = some (.slice A4 n4 c4) ∧ VV.cell? ⟨w.heap.size + 1, 5, none⟩ = some (.int .i64 rv)) ∧ (VV.cell? ⟨w.heap.size, 0, none⟩ = some (.slice A1 n1 c1) ∧ VV.cell? ⟨w.heap.size, 1, none⟩ = some (.slice A2 n2 c2)) ∧ Below w.heap.size w VV)
    (first | with_reducible exact HK.out _ hd0 hd1 hdB | with_reducible exact HK.out _ p0 p1 pB | with_reducible exact HK.out _ a0 a1 aB | with_reducible exact HK.out _ s0 s1 sB)
    (first | (go_at_call 33; refine (HCO.out W.drew hdB).mono ?_; rintro e w7 ⟨l2, rfl, hfr, hb7a⟩; have hb7 : Below W.heap.size W w7 := hdr.trans hb7a; have p0 := hb7.block _ hlt0; have p1 := hb7.block _ hlt1; have pB : Below w.heap.size w w7 := HB.out.trans (hb7.mono HB.out.size); obtain ⟨A5, n5, c5, A6, n6, c6, rfl⟩ := (hfr w7 ⟨Nat.le_refl _, fun _ _ _ => rfl⟩).trv.shape; have HFR := Lib.hid hfr; clear hfr; unfold tyC) | (go_at_call 32; refine (HAND.out w7 pB A5 n5 c5 A6 n6 c6).mono ?_; rintro e w8 ⟨A7, n7, c7, rfl, hsd, hb8a⟩; have hb8 : Below W.heap.size W w8 := hb7.trans (hb8a.mono hb7.size); have a0 := hb8.block _ hlt0; have a1 := hb8.block _ hlt1; have aB : Below w.heap.size w w8 := HB.out.trans (hb8.mono HB.out.size); have m2 := HK2.out.later hb8; have mc0 := m2.cell 0; have mc1 := m2.cell 1; have mf0 := m2.free 0; have mf1 := m2.free 1; have ml := m2.lt; have q8 : Below (w.heap.size + 2) w8 ((w8.setCell ⟨w.heap.size + 2, 0, none⟩ (.slice A7 n7 c7)).setCell ⟨w.heap.size + 2, 1, none⟩ (.slice A2 n2 c2)) := ((Below.refl _ _).setCell (p := ⟨w.heap.size + 2, 0, none⟩) (Nat.le_refl _) _).setCell (p := ⟨w.heap.size + 2, 1, none⟩) (Nat.le_refl _) _; have s0 : ((w8.setCell ⟨w.heap.size + 2, 0, none⟩ (.slice A7 n7 c7)).setCell ⟨w.heap.size + 2, 1, none⟩ (.slice A2 n2 c2)).heap[w.heap.size]? = W.heap[w.heap.size]? := (q8.block _ (by omega)).trans a0; have s1 : ((w8.setCell ⟨w.heap.size + 2, 0, none⟩ (.slice A7 n7 c7)).setCell ⟨w.heap.size + 2, 1, none⟩ (.slice A2 n2 c2)).heap[w.heap.size + 1]? = W.heap[w.heap.size + 1]? := (q8.block _ (by omega)).trans a1; have sB : Below w.heap.size w ((w8.setCell ⟨w.heap.size + 2, 0, none⟩ (.slice A7 n7 c7)).setCell ⟨w.heap.size + 2, 1, none⟩ (.slice A2 n2 c2)) := aB.trans (q8.mono (by omega)); have HM2 := Lib.hid m2; have HQ8 := Lib.hid q8; have HSD := Lib.hid hsd; have HB8 := Lib.hid hb8a; clear m2 q8 hsd hb8a))
  go_wp2_with fail
  refine bodyPost_ret (v := .agg #[.slice A7 n7 c7, .slice A2 n2 c2]) (results_cell_row rfl _ _ (w.heap.size + 2) 38 _ (0, 0) _ rfl ((HM2.out.set 0 _).set 1 _) Try.underlying38 rfl (by kernel_rfl)) rfl ?_
  have hkw : ∀ (i : Nat), i ≠ w.heap.size + 2 → ((w8.setCell ⟨w.heap.size + 2, 0, none⟩ (.slice A7 n7 c7)).setCell ⟨w.heap.size + 2, 1, none⟩ (.slice A2 n2 c2)).heap[i]? = w8.heap[i]? := fun i h => (Below.heap_setCell _ ⟨w.heap.size + 2, 1, none⟩ _ i h).trans (Below.heap_setCell _ ⟨w.heap.size + 2, 0, none⟩ _ i h)
  have hw7s : w.heap.size + 2 < w7.heap.size := Nat.lt_of_lt_of_le HK2.out.lt hb7.size
  refine ⟨_, rfl, ?_, sB⟩
  intro wf hkf0
  have hkf : Kept (fun b => BX b ∧ b < w.heap.size) ((w8.setCell ⟨w.heap.size + 2, 0, none⟩ (.slice A7 n7 c7)).setCell ⟨w.heap.size + 2, 1, none⟩ (.slice A2 n2 c2)) wf := hkf0
  clear hkf0
  have hq8s := HQ8.out.size
  have hwfar : ∀ i, w.heap.size ≤ i → i ≠ w.heap.size + 2 → i < w8.heap.size → wf.heap[i]? = w8.heap[i]? := fun i h1 h2 h3 => (hkf.2 i (by omega) (fun e => by have := e.2; omega)).trans (hkw i h2)
  have hsdX := HSD.out wf ⟨Nat.le_trans hq8s hkf.1, fun b hb hn => by
    by_cases h1 : b < w.heap.size
    · exact (hkf.2 b (by omega) (fun e => hn ⟨.inl e.1, by omega⟩)).trans (hkw b (by omega))
    · exact hwfar b (by omega) (fun e => hn ⟨.inr (by omega), by omega⟩) hb⟩
  have hlv : ∀ g, live (blank BX w) g → wf.heap[g]? = (blank BX w).heap[g]? := blank_to (X := BX) (Y := fun b => BX b) ⟨Nat.le_trans sB.size hkf.1, fun b hb hn => (hkf.2 b (Nat.lt_of_lt_of_le hb sB.size) (fun e => hn e.1)).trans (sB.block b hb)⟩ (fun _ _ h => h)
  refine ⟨_, _, setG gt n #[.int .i64 k, .string (ba nm), .int .i64 v, .slice A5 n5 c5, .slice A6 n6 c6, .int .i64 rv], gr, rfl, hsdX, (HSR.out.keepL hlv).mono (Nat.le_succ m), ?_, HRM.out.keepL hlv⟩
  intro j hj
  unfold setF setG
  by_cases e : j = n
  · simp only [if_pos e]
    refine ⟨[.int .i64 k, .string (ba nm), .int .i64 v, .slice A5 n5 c5, .slice A6 n6 c6, .int .i64 rv], rfl, TFV.trv ?_⟩
    have hb8s := HB8.out.size
    have hws2 := HK2.out.lt
    exact HFR.out _ ⟨Nat.le_trans hb8s (Nat.le_trans hq8s hkf.1), fun b hb hn => by
      have h1 : ¬ (b < W.drew.heap.size + 2) := hn
      have h2 : W.drew.heap.size = W.heap.size := rfl
      exact (hwfar b (by omega) (by omega) (by omega)).trans (HB8.out.block b hb)⟩
  · simp only [if_neg e]
    exact (HTM.out.keepL hlv) j hj
end Go.Proofs.Ytclaabnjokkbjaa

/- SetType, SetRow. -/
namespace Go.Proofs.Ytclaabnjokkbjaa
open Go.RowKit

set_option maxRecDepth 100000 in
set_option maxHeartbeats 8000000 in
theorem setRow_any (BX : Nat → Prop) (w : World) (sv : Value) (m : Nat) (T : Int → Option Ty) (R : Int → Option (List Str × Int)) (hs : SubV (blank BX w) sv m T R) (hm : m ≤ 1000) (n : Int) (hn : i64ok n) (ls : List Str) (rv : Int) (l : List Value) (hr : RwV w (ls, rv) l) :
    Calls Try.prog 12 #[sv, .int .i64 n, .agg l.toArray] w fun e w' => ∃ sv', e = .returned sv' ∧ (∀ wf, Kept (fun b => BX b ∧ b < w.heap.size) w' wf → SubV wf sv' (m + 1) T (setF R n (ls, rv))) ∧ Below w.heap.size w w' := by
  obtain ⟨vt, vr, gt, gr, rfl, hst, hsr, htm, hrm⟩ := hs
  obtain ⟨A1, n1, c1, rfl⟩ := hst.one
  obtain ⟨A2, n2, c2, rfl⟩ := hsr.one
  obtain ⟨lv, rfl, hlv, hrv⟩ := hr
  obtain ⟨A4, n4, c4, rfl⟩ : ∃ A n c, lv = .slice A n c := by rcases hlv.1 with ⟨rfl, _⟩ | ⟨_, _, rfl, _⟩ <;> exact ⟨_, _, _, rfl⟩
  simp only at hlv hrv ⊢
  obtain ⟨W, hW⟩ : ∃ W, W = ((w.alloc (.cells #[.slice A1 n1 c1, .slice A2 n2 c2] 38)).alloc (.cells #[.slice A4 n4 c4, .int .i64 rv] 26)).alloc (.cells #[.slice none 0 0, .slice none 0 0] 38) := ⟨_, rfl⟩
  have hb : Below w.heap.size w W := by rw [hW]; exact (((Below.refl _ w).alloc (Nat.le_refl _) _).alloc (by simp) _).alloc (by simp; omega) _
  have k0 : Lies W w.heap.size 38 #[.slice A1 n1 c1, .slice A2 n2 c2] := by rw [hW]; exact ((Lies.new _ _ _).alloc _).alloc _
  have k1 : Lies W (w.heap.size + 1) 26 #[.slice A4 n4 c4, .int .i64 rv] := by rw [hW]; exact (Lies.new' _ _ _ (by simp)).alloc _
  have k2 : Lies W (w.heap.size + 2) 38 #[.slice none 0 0, .slice none 0 0] := by rw [hW]; exact Lies.new' _ _ _ (by simp)
  have hS : (W.cell? ⟨w.heap.size + 1, 0, none⟩ = some (.slice A4 n4 c4) ∧ W.cell? ⟨w.heap.size + 1, 1, none⟩ = some (.int .i64 rv)) ∧ (W.cell? ⟨w.heap.size, 0, none⟩ = some (.slice A1 n1 c1) ∧ W.cell? ⟨w.heap.size, 1, none⟩ = some (.slice A2 n2 c2)) ∧ Below w.heap.size w W := ⟨⟨k1.cell 0, k1.cell 1⟩, ⟨k0.cell 0, k0.cell 1⟩, hb⟩
  have hk : ∀ V : World, V.heap[w.heap.size]? = W.heap[w.heap.size]? → V.heap[w.heap.size + 1]? = W.heap[w.heap.size + 1]? → Below w.heap.size w V → (V.cell? ⟨w.heap.size + 1, 0, none⟩ = some (.slice A4 n4 c4) ∧ V.cell? ⟨w.heap.size + 1, 1, none⟩ = some (.int .i64 rv)) ∧ (V.cell? ⟨w.heap.size, 0, none⟩ = some (.slice A1 n1 c1) ∧ V.cell? ⟨w.heap.size, 1, none⟩ = some (.slice A2 n2 c2)) ∧ Below w.heap.size w V := fun V h0 h1 hb => by
    have j0 : Lies V w.heap.size 38 #[.slice A1 n1 c1, .slice A2 n2 c2] := h0.trans k0
    have j1 : Lies V (w.heap.size + 1) 26 #[.slice A4 n4 c4, .int .i64 rv] := h1.trans k1
    exact ⟨⟨j1.cell 0, j1.cell 1⟩, ⟨j0.cell 0, j0.cell 1⟩, hb⟩
  have HK := Lib.hid hk
  have hd0 : W.drew.heap[w.heap.size]? = W.heap[w.heap.size]? := rfl
  have hd1 : W.drew.heap[w.heap.size + 1]? = W.heap[w.heap.size + 1]? := rfl
  have hdB : Below w.heap.size w W.drew := hb.drew
  have hdr : Below W.heap.size W W.drew := (Below.refl _ _).drew
  have hlt0 := k0.lt
  have hlt1 := k1.lt
  have HW := Lib.hid hW
  have HB := Lib.hid hb
  have HK2 := Lib.hid k2
  have hco := fun w7 (hb : Below w.heap.size w w7) => copiedRow_any (.slice A4 n4 c4) ls rv w7 (hlv.keep hb.block)
  have hand := fun w7 (hb : Below w.heap.size w w7) A6 n6 c6 => andR_any (fun b => BX b ∨ w.heap.size ≤ b) w7 (.slice A2 n2 c2) m gr n A6 n6 c6 rv (hsr.keepL (blank_more hb)) hn hm
  have HCO := Lib.hid hco
  have HAND := Lib.hid hand
  have HRV := Lib.hid hrv
  have HLN := Lib.hid hlv.2
  clear hco hand hlv hrv
  have HST := Lib.hid hst
  have HSR := Lib.hid hsr
  have HTM := Lib.hid htm
  have HRM := Lib.hid hrm
  clear hW hb k0 k1 k2 hk hst hsr htm hrm
  go_enter Try.func12, Try.ntmps12
  go_wp2_with fail
  rw [← HW.out]
  go_region_held3 (fun VV => (VV.cell? ⟨w.heap.size + 1, 0, none⟩ = some (.slice A4 n4 c4) ∧ VV.cell? ⟨w.heap.size + 1, 1, none⟩ = some (.int .i64 rv)) ∧ (VV.cell? ⟨w.heap.size, 0, none⟩ = some (.slice A1 n1 c1) ∧ VV.cell? ⟨w.heap.size, 1, none⟩ = some (.slice A2 n2 c2)) ∧ Below w.heap.size w VV)
    (first | with_reducible exact HK.out _ hd0 hd1 hdB | with_reducible exact HK.out _ p0 p1 pB | with_reducible exact HK.out _ a0 a1 aB | with_reducible exact HK.out _ s0 s1 sB)
    (first | (go_at_call 35; refine (HCO.out W.drew hdB).mono ?_; rintro e w7 ⟨v2, rfl, hfr, hb7a⟩; have hb7 : Below W.heap.size W w7 := hdr.trans hb7a; have p0 := hb7.block _ hlt0; have p1 := hb7.block _ hlt1; have pB : Below w.heap.size w w7 := HB.out.trans (hb7.mono HB.out.size); have HFR := Lib.hid hfr; unfold OwnL at hfr; obtain ⟨A6, n6, c6, rfl⟩ := own_slice hfr; clear hfr) | (go_at_call 34; refine (HAND.out w7 pB A6 n6 c6).mono ?_; rintro e w8 ⟨A7, n7, c7, rfl, hsd, hb8a⟩; have hb8 : Below W.heap.size W w8 := hb7.trans (hb8a.mono hb7.size); have a0 := hb8.block _ hlt0; have a1 := hb8.block _ hlt1; have aB : Below w.heap.size w w8 := HB.out.trans (hb8.mono HB.out.size); have m2 := HK2.out.later hb8; have mc0 := m2.cell 0; have mc1 := m2.cell 1; have mf0 := m2.free 0; have mf1 := m2.free 1; have ml := m2.lt; have q8 : Below (w.heap.size + 2) w8 ((w8.setCell ⟨w.heap.size + 2, 0, none⟩ (.slice A1 n1 c1)).setCell ⟨w.heap.size + 2, 1, none⟩ (.slice A7 n7 c7)) := ((Below.refl _ _).setCell (p := ⟨w.heap.size + 2, 0, none⟩) (Nat.le_refl _) _).setCell (p := ⟨w.heap.size + 2, 1, none⟩) (Nat.le_refl _) _; have s0 : ((w8.setCell ⟨w.heap.size + 2, 0, none⟩ (.slice A1 n1 c1)).setCell ⟨w.heap.size + 2, 1, none⟩ (.slice A7 n7 c7)).heap[w.heap.size]? = W.heap[w.heap.size]? := (q8.block _ (by omega)).trans a0; have s1 : ((w8.setCell ⟨w.heap.size + 2, 0, none⟩ (.slice A1 n1 c1)).setCell ⟨w.heap.size + 2, 1, none⟩ (.slice A7 n7 c7)).heap[w.heap.size + 1]? = W.heap[w.heap.size + 1]? := (q8.block _ (by omega)).trans a1; have sB : Below w.heap.size w ((w8.setCell ⟨w.heap.size + 2, 0, none⟩ (.slice A1 n1 c1)).setCell ⟨w.heap.size + 2, 1, none⟩ (.slice A7 n7 c7)) := aB.trans (q8.mono (by omega)); have HM2 := Lib.hid m2; have HQ8 := Lib.hid q8; have HSD := Lib.hid hsd; have HB8 := Lib.hid hb8a; clear m2 q8 hsd hb8a))
  go_wp2_with fail
  refine bodyPost_ret (v := .agg #[.slice A1 n1 c1, .slice A7 n7 c7]) (results_cell_row rfl _ _ (w.heap.size + 2) 38 _ (0, 0) _ rfl ((HM2.out.set 0 _).set 1 _) Try.underlying38 rfl (by kernel_rfl)) rfl ?_
  have hkw : ∀ (i : Nat), i ≠ w.heap.size + 2 → ((w8.setCell ⟨w.heap.size + 2, 0, none⟩ (.slice A1 n1 c1)).setCell ⟨w.heap.size + 2, 1, none⟩ (.slice A7 n7 c7)).heap[i]? = w8.heap[i]? := fun i h => (Below.heap_setCell _ ⟨w.heap.size + 2, 1, none⟩ _ i h).trans (Below.heap_setCell _ ⟨w.heap.size + 2, 0, none⟩ _ i h)
  have hw7s : w.heap.size + 2 < w7.heap.size := Nat.lt_of_lt_of_le HK2.out.lt hb7.size
  refine ⟨_, rfl, ?_, sB⟩
  intro wf hkf0
  have hkf : Kept (fun b => BX b ∧ b < w.heap.size) ((w8.setCell ⟨w.heap.size + 2, 0, none⟩ (.slice A1 n1 c1)).setCell ⟨w.heap.size + 2, 1, none⟩ (.slice A7 n7 c7)) wf := hkf0
  clear hkf0
  have hq8s := HQ8.out.size
  have hwfar : ∀ i, w.heap.size ≤ i → i ≠ w.heap.size + 2 → i < w8.heap.size → wf.heap[i]? = w8.heap[i]? := fun i h1 h2 h3 => (hkf.2 i (by omega) (fun e => by have := e.2; omega)).trans (hkw i h2)
  have hsdX := HSD.out wf ⟨Nat.le_trans hq8s hkf.1, fun b hb hn => by
    by_cases h1 : b < w.heap.size
    · exact (hkf.2 b (by omega) (fun e => hn ⟨.inl e.1, by omega⟩)).trans (hkw b (by omega))
    · exact hwfar b (by omega) (fun e => hn ⟨.inr (by omega), by omega⟩) hb⟩
  have hlv : ∀ g, live (blank BX w) g → wf.heap[g]? = (blank BX w).heap[g]? := blank_to (X := BX) (Y := fun b => BX b) ⟨Nat.le_trans sB.size hkf.1, fun b hb hn => (hkf.2 b (Nat.lt_of_lt_of_le hb sB.size) (fun e => hn e.1)).trans (sB.block b hb)⟩ (fun _ _ h => h)
  refine ⟨_, _, gt, setG gr n #[.slice A6 n6 c6, .int .i64 rv], rfl, (HST.out.keepL hlv).mono (Nat.le_succ m), hsdX, HTM.out.keepL hlv, ?_⟩
  intro j hj
  unfold setF setG
  by_cases e : j = n
  · simp only [if_pos e]
    refine ⟨[.slice A6 n6 c6, .int .i64 rv], rfl, _, rfl, ?_, HRV.out⟩
    have hb8s := HB8.out.size
    have hws2 := HK2.out.lt
    have h2 : W.drew.heap.size = W.heap.size := rfl
    have h1 : OwnL wf W.drew.heap.size (.slice A6 n6 c6) ls := own_same HFR.out fun b hb hlt => (hwfar b (by omega) (by omega) (by omega)).trans (HB8.out.block b hlt)
    exact h1.str HLN.out
  · simp only [if_neg e]
    exact (HRM.out.keepL hlv) j hj
end Go.Proofs.Ytclaabnjokkbjaa

/- Type, Row: what a substitution says. -/
namespace Go.Proofs.Ytclaabnjokkbjaa
open Go.RowKit

def zTy : Ty := .mk 0 [] 0 [] [] 0
def zRw : List Str × Int := ([], 0)
set_option maxRecDepth 100000 in
set_option maxHeartbeats 8000000 in
theorem type_any (w : World) (sv : Value) (m : Nat) (T : Int → Option Ty) (R : Int → Option (List Str × Int)) (hs : SubV w sv m T R) (hm : m ≤ 1000000) (n : Int) (hn : i64ok n) (hsz : ∀ t, T n = some t → t.size ≤ 1000) :
    Calls Try.prog 13 #[sv, .int .i64 n] w fun e w' => ∃ l, e = .returned (.tuple #[.agg l.toArray, .bool (T n).isSome]) ∧ TRV w' ((T n).getD zTy) l ∧ Below w.heap.size w w' := by
  obtain ⟨vt, vr, gt, gr, rfl, hst, hsr, htm, hrm⟩ := hs
  have hx : ∃ k nm v A3 n3 c3 A4 n4 c4 rv, (lookV (.agg zeroT) (gt n) = .agg #[.int .i64 k, .string (ba nm), .int .i64 v, .slice A3 n3 c3, .slice A4 n4 c4, .int .i64 rv] ∧ (gt n).isSome = (T n).isSome) ∧ TRV w ((T n).getD zTy) [.int .i64 k, .string (ba nm), .int .i64 v, .slice A3 n3 c3, .slice A4 n4 c4, .int .i64 rv] ∧ ((T n).getD zTy).size ≤ 1000 := by
    have h1 := htm n hn
    cases hT : T n with
    | none =>
      rw [hT] at h1
      rw [h1]
      exact ⟨0, [], 0, none, 0, 0, none, 0, 0, 0, ⟨rfl, rfl⟩, ⟨_, _, rfl, .inl ⟨rfl, rfl⟩, ⟨.inl ⟨rfl, rfl⟩, Nat.zero_le _⟩, ⟨i64ok_of (by omega) (by omega), i64ok_of (by omega) (by omega), i64ok_of (by omega) (by omega)⟩, fun i t h => by simp at h⟩, by show zTy.size ≤ 1000; simp [zTy, Ty.size, Ty.sizeL]⟩
    | some t =>
      rw [hT] at h1
      obtain ⟨l, h2, h3⟩ := h1
      have h4 := hsz t hT
      obtain ⟨k, nm, v, kids, ls, rv⟩ := t
      obtain ⟨A3, n3, c3, A4, n4, c4, rfl⟩ := h3.shape
      rw [h2]
      exact ⟨k, nm, v, A3, n3, c3, A4, n4, c4, rv, ⟨rfl, rfl⟩, h3, h4⟩
  obtain ⟨k, nm, v, A3, n3, c3, A4, n4, c4, rv, hlook, htr, hz⟩ := hx
  obtain ⟨t', ht'⟩ : ∃ t', t' = (T n).getD zTy := ⟨_, rfl⟩
  rw [← ht'] at htr hz ⊢
  obtain ⟨f, hf⟩ : ∃ f, f = (T n).isSome := ⟨_, rfl⟩
  rw [← hf] at hlook ⊢
  have hco := fun w7 (hb : Below w.heap.size w w7) => copied_any w7 t' _ (htr.later hb) hz
  clear ht' hf htr hz htm hrm hsz
  obtain ⟨A1, n1, c1, rfl⟩ := hst.one
  obtain ⟨A2, n2, c2, rfl⟩ := hsr.one
  obtain ⟨W, hW⟩ : ∃ W, W = (w.alloc (.cells #[.slice A1 n1 c1, .slice A2 n2 c2] 38)).alloc (.cells zeroT 28) := ⟨_, rfl⟩
  have hb : Below w.heap.size w W := by rw [hW]; exact ((Below.refl _ w).alloc (Nat.le_refl _) _).alloc (by simp) _
  have k1 : Lies W (w.heap.size + 1) 28 zeroT := by rw [hW]; exact Lies.new' _ _ _ (by simp)
  have hof := ofT_said W (.slice A1 n1 c1) m gt n (hst.keep hb.block) hn hm
  rw [hlook.1, hlook.2] at hof
  have HO := Lib.hid hof
  have HW := Lib.hid hW
  have HB := Lib.hid hb
  have HK1 := Lib.hid k1
  have HCO := Lib.hid hco
  have hlt1 := k1.lt
  clear hof hW hb k1 hco hlook hst hsr
  unfold zeroT at HW HK1
  go_enter Try.func13, Try.ntmps13
  go_wp2_with fail
  rw [← HW.out]
  refine HO.out.mono ?_
  rintro e w1 ⟨rfl, hb1⟩
  have hb1w : Below w.heap.size w w1 := HB.out.trans (hb1.mono HB.out.size)
  have hb2 : Below w1.heap.size w1 (w1.alloc (.cells #[.int .i64 k, .string (ba nm), .int .i64 v, .slice A3 n3 c3, .slice A4 n4 c4, .int .i64 rv] 28)) := below_new w1 _
  have hb2w := hb1w.trans (hb2.mono hb1w.size)
  have HB1 := Lib.hid hb1
  have HB2 := Lib.hid hb2
  have HB2w := Lib.hid hb2w
  have HB1w := Lib.hid hb1w
  clear hb1 hb2 hb2w hb1w
  go_wp2_with fail
  refine (HCO.out _ HB2w.out).mono ?_
  rintro e w3 ⟨l', rfl, hfr, hb3⟩
  obtain ⟨k', nm', v', kids, ls, rv'⟩ := t'
  obtain ⟨A5, n5, c5, A6, n6, c6, rfl⟩ := (hfr w3 ⟨Nat.le_refl _, fun _ _ _ => rfl⟩).trv.shape
  have HFR := Lib.hid hfr
  clear hfr
  unfold tyC
  have hbW : Below W.heap.size W w3 := (HB1.out.trans (HB2.out.mono HB1.out.size)).trans (hb3.mono (Nat.le_trans HB1.out.size HB2.out.size))
  have m1 := HK1.out.later hbW
  have mc0 := m1.cell 0
  have mf0 := m1.free 0
  have mc1 := m1.cell 1
  have mf1 := m1.free 1
  have mc2 := m1.cell 2
  have mf2 := m1.free 2
  have mc3 := m1.cell 3
  have mf3 := m1.free 3
  have mc4 := m1.cell 4
  have mf4 := m1.free 4
  have mc5 := m1.cell 5
  have mf5 := m1.free 5
  have ml := m1.lt
  have HM1 := Lib.hid m1
  have HB3 := Lib.hid hb3
  have HBW := Lib.hid hbW
  clear m1 hb3 hbW
  go_wp2_with fail
  have q8 : Below (w.heap.size + 1) w3 ((((((w3.setCell ⟨w.heap.size + 1, 0, none⟩ (.int .i64 k')).setCell ⟨w.heap.size + 1, 1, none⟩ (.string (ba nm'))).setCell ⟨w.heap.size + 1, 2, none⟩ (.int .i64 v')).setCell ⟨w.heap.size + 1, 3, none⟩ (.slice A5 n5 c5)).setCell ⟨w.heap.size + 1, 4, none⟩ (.slice A6 n6 c6)).setCell ⟨w.heap.size + 1, 5, none⟩ (.int .i64 rv')) := ((((((Below.refl _ _).setCell (p := ⟨w.heap.size + 1, 0, none⟩) (Nat.le_refl _) _).setCell (p := ⟨w.heap.size + 1, 1, none⟩) (Nat.le_refl _) _).setCell (p := ⟨w.heap.size + 1, 2, none⟩) (Nat.le_refl _) _).setCell (p := ⟨w.heap.size + 1, 3, none⟩) (Nat.le_refl _) _).setCell (p := ⟨w.heap.size + 1, 4, none⟩) (Nat.le_refl _) _).setCell (p := ⟨w.heap.size + 1, 5, none⟩) (Nat.le_refl _) _
  have hkw : ∀ (i : Nat), i ≠ w.heap.size + 1 → ((((((w3.setCell ⟨w.heap.size + 1, 0, none⟩ (.int .i64 k')).setCell ⟨w.heap.size + 1, 1, none⟩ (.string (ba nm'))).setCell ⟨w.heap.size + 1, 2, none⟩ (.int .i64 v')).setCell ⟨w.heap.size + 1, 3, none⟩ (.slice A5 n5 c5)).setCell ⟨w.heap.size + 1, 4, none⟩ (.slice A6 n6 c6)).setCell ⟨w.heap.size + 1, 5, none⟩ (.int .i64 rv')).heap[i]? = w3.heap[i]? := fun i h => ((Below.heap_setCell _ ⟨w.heap.size + 1, 5, none⟩ _ i h).trans ((Below.heap_setCell _ ⟨w.heap.size + 1, 4, none⟩ _ i h).trans ((Below.heap_setCell _ ⟨w.heap.size + 1, 3, none⟩ _ i h).trans ((Below.heap_setCell _ ⟨w.heap.size + 1, 2, none⟩ _ i h).trans ((Below.heap_setCell _ ⟨w.heap.size + 1, 1, none⟩ _ i h).trans (Below.heap_setCell _ ⟨w.heap.size + 1, 0, none⟩ _ i h))))))
  refine bodyPost_ret (v := .tuple #[.agg #[.int .i64 k', .string (ba nm'), .int .i64 v', .slice A5 n5 c5, .slice A6 n6 c6, .int .i64 rv'], .bool f]) (Sb.results_ct rfl _ _ (w.heap.size + 1) 28 _ (0, 0) _ rfl (((((((HM1.out.set 0 (.int .i64 k')).set 1 (.string (ba nm'))).set 2 (.int .i64 v')).set 3 (.slice A5 n5 c5)).set 4 (.slice A6 n6 c6)).set 5 (.int .i64 rv'))) Try.underlying28 rfl size_T (by kernel_rfl)) rfl ?_
  have hbX : Below w.heap.size w ((((((w3.setCell ⟨w.heap.size + 1, 0, none⟩ (.int .i64 k')).setCell ⟨w.heap.size + 1, 1, none⟩ (.string (ba nm'))).setCell ⟨w.heap.size + 1, 2, none⟩ (.int .i64 v')).setCell ⟨w.heap.size + 1, 3, none⟩ (.slice A5 n5 c5)).setCell ⟨w.heap.size + 1, 4, none⟩ (.slice A6 n6 c6)).setCell ⟨w.heap.size + 1, 5, none⟩ (.int .i64 rv')) := (HB.out.trans (HBW.out.mono HB.out.size)).trans (q8.mono (Nat.le_succ _))
  refine ⟨[.int .i64 k', .string (ba nm'), .int .i64 v', .slice A5 n5 c5, .slice A6 n6 c6, .int .i64 rv'], rfl, TFV.trv (HFR.out _ ⟨q8.size, fun b hb hn => hkw b fun e => hn ?_⟩), hbX⟩
  have h1 := HB1.out.size
  have h2 := HB2.out.size
  show b < (w1.alloc _).heap.size + 2
  omega
end Go.Proofs.Ytclaabnjokkbjaa
