/- A copy of a type. -/
import Derived.Test.YtgheaaljnmkclaaSbq
namespace Go.Proofs.Ytgheaaljnmkclaa
open Go.RowKit

set_option maxRecDepth 100000 in
set_option maxHeartbeats 8000000 in
theorem copied_any (w : World) (t : Ty) (l : List Value) (ht : TRV w t l) (hp : t.size ≤ 1000) :
    Calls Try.prog 21 #[.agg l.toArray] w fun e w' => ∃ l', e = .returned (.agg l'.toArray) ∧ (∀ w'', Kept (fun b => b < w.heap.size + 2) w' w'' → TFV w'' t l') ∧ Below w.heap.size w w' := by
  have ht0 := ht
  obtain ⟨k, nm, v, kids, ls, rv⟩ := t
  obtain ⟨A3, n3, c3, A4, n4, c4, rfl⟩ := ht.shape
  have hap := fun w7 (hb : Below w.heap.size w w7) => apply_any w7 noneV 0 T0 R0 (SubV.none w7 0) (by omega) (.mk k nm v kids ls rv) _ (ht0.later hb) (rowsFree0 T0 _) (by rw [pcsT0]; exact hp)
  rw [apT0] at hap
  unfold tyC noneV at hap
  unfold tyC at ht0 ⊢
  obtain ⟨W, hW⟩ : ∃ W, W = (w.alloc (.cells #[.int .i64 k, .string (ba nm), .int .i64 v, .slice A3 n3 c3, .slice A4 n4 c4, .int .i64 rv] 28)).alloc (.cells zeroT 28) := ⟨_, rfl⟩
  have hb : Below w.heap.size w W := by rw [hW]; exact ((Below.refl _ w).alloc (Nat.le_refl _) _).alloc (by simp) _
  have k1 : Lies W w.heap.size 28 #[.int .i64 k, .string (ba nm), .int .i64 v, .slice A3 n3 c3, .slice A4 n4 c4, .int .i64 rv] := by rw [hW]; exact (Lies.new _ _ _).alloc _
  have k2 : Lies W (w.heap.size + 1) 28 zeroT := by rw [hW]; exact Lies.new' _ _ _ (by simp)
  have hS : (W.cell? ⟨w.heap.size, 0, none⟩ = some (.int .i64 k) ∧ W.cell? ⟨w.heap.size, 1, none⟩ = some (.string (ba nm)) ∧ W.cell? ⟨w.heap.size, 2, none⟩ = some (.int .i64 v) ∧ W.cell? ⟨w.heap.size, 3, none⟩ = some (.slice A3 n3 c3) ∧ W.cell? ⟨w.heap.size, 4, none⟩ = some (.slice A4 n4 c4) ∧ W.cell? ⟨w.heap.size, 5, none⟩ = some (.int .i64 rv)) ∧ Below w.heap.size w W := ⟨⟨k1.cell 0, k1.cell 1, k1.cell 2, k1.cell 3, k1.cell 4, k1.cell 5⟩, hb⟩
  have hk : ∀ V V' : World, ((V.cell? ⟨w.heap.size, 0, none⟩ = some (.int .i64 k) ∧ V.cell? ⟨w.heap.size, 1, none⟩ = some (.string (ba nm)) ∧ V.cell? ⟨w.heap.size, 2, none⟩ = some (.int .i64 v) ∧ V.cell? ⟨w.heap.size, 3, none⟩ = some (.slice A3 n3 c3) ∧ V.cell? ⟨w.heap.size, 4, none⟩ = some (.slice A4 n4 c4) ∧ V.cell? ⟨w.heap.size, 5, none⟩ = some (.int .i64 rv)) ∧ Below w.heap.size w V) → V'.heap[w.heap.size]? = V.heap[w.heap.size]? → Below w.heap.size V V' → (V'.cell? ⟨w.heap.size, 0, none⟩ = some (.int .i64 k) ∧ V'.cell? ⟨w.heap.size, 1, none⟩ = some (.string (ba nm)) ∧ V'.cell? ⟨w.heap.size, 2, none⟩ = some (.int .i64 v) ∧ V'.cell? ⟨w.heap.size, 3, none⟩ = some (.slice A3 n3 c3) ∧ V'.cell? ⟨w.heap.size, 4, none⟩ = some (.slice A4 n4 c4) ∧ V'.cell? ⟨w.heap.size, 5, none⟩ = some (.int .i64 rv)) ∧ Below w.heap.size w V' := fun V V' h hb hb2 => by
    obtain ⟨⟨h0, h1, h2, h3, h4, h5⟩, h6⟩ := h
    have e : ∀ j, V'.cell? ⟨w.heap.size, j, none⟩ = V.cell? ⟨w.heap.size, j, none⟩ := fun j => World.cell?_of_block (w := V) (a := ⟨w.heap.size, j, none⟩) hb
    exact ⟨⟨(e 0).trans h0, (e 1).trans h1, (e 2).trans h2, (e 3).trans h3, (e 4).trans h4, (e 5).trans h5⟩, h6.trans hb2⟩
  have hdr : W.drew.heap[w.heap.size]? = W.heap[w.heap.size]? := rfl
  have hlt := k1.lt
  have hlt2 := k2.lt
  have HAP := Lib.hid hap
  have HW := Lib.hid hW
  have HB := Lib.hid hb
  have HK2 := Lib.hid k2
  have HK := Lib.hid hk
  clear hap hW hb k1 k2 ht0 ht hk
  unfold zeroT at HW HK2
  go_enter Try.func21, Try.ntmps21
  go_wp2_with fail
  rw [← HW.out]
  go_region_held3 (fun VV => (VV.cell? ⟨w.heap.size, 0, none⟩ = some (.int .i64 k) ∧ VV.cell? ⟨w.heap.size, 1, none⟩ = some (.string (ba nm)) ∧ VV.cell? ⟨w.heap.size, 2, none⟩ = some (.int .i64 v) ∧ VV.cell? ⟨w.heap.size, 3, none⟩ = some (.slice A3 n3 c3) ∧ VV.cell? ⟨w.heap.size, 4, none⟩ = some (.slice A4 n4 c4) ∧ VV.cell? ⟨w.heap.size, 5, none⟩ = some (.int .i64 rv)) ∧ Below w.heap.size w VV)
    (first | with_reducible exact HK.out _ _ hS hdr (Below.refl _ _).drew | with_reducible exact HK.out _ _ hS (hb7.block _ hlt) (hb7.mono HB.out.size) | with_reducible exact HK.out _ _ hS (hb8.block _ hlt) (hb8.mono HB.out.size) | with_reducible exact HK.out _ _ hS (hq0.trans (hb8.block _ hlt)) ((hb8.mono HB.out.size).trans hq1))
    (first | (go_at_call 17; refine (none_any _).mono ?_; rintro e w7 ⟨rfl, hb7a⟩; have hb7 : Below W.heap.size W w7 := (Below.refl _ _).drew.trans hb7a; unfold noneV) | (go_at_call 16; refine (HAP.out w7 (HB.out.trans (hb7.mono HB.out.size))).mono ?_; rintro e w8 ⟨l', rfl, htf, hb8a⟩; have hb8 : Below W.heap.size W w8 := hb7.trans (hb8a.mono hb7.size); have HS7 := Lib.hid hb7.size; have HTF := Lib.hid htf; obtain ⟨A5, n5, c5, A6, n6, c6, rfl⟩ := (htf w8 ⟨Nat.le_refl _, fun _ _ _ => rfl⟩).trv.shape; clear htf; unfold tyC; have m2 := HK2.out.later hb8; have mc0 := m2.cell 0; have mc1 := m2.cell 1; have mc2 := m2.cell 2; have mc3 := m2.cell 3; have mc4 := m2.cell 4; have mc5 := m2.cell 5; have mf0 := m2.free 0; have mf1 := m2.free 1; have mf2 := m2.free 2; have mf3 := m2.free 3; have mf4 := m2.free 4; have mf5 := m2.free 5; have ml := m2.lt; have hqa : Below (w.heap.size + 1) w8 ((((((w8.setCell ⟨w.heap.size + 1, 0, none⟩ (.int .i64 k)).setCell ⟨w.heap.size + 1, 1, none⟩ (.string (ba nm))).setCell ⟨w.heap.size + 1, 2, none⟩ (.int .i64 v)).setCell ⟨w.heap.size + 1, 3, none⟩ (.slice A5 n5 c5)).setCell ⟨w.heap.size + 1, 4, none⟩ (.slice A6 n6 c6)).setCell ⟨w.heap.size + 1, 5, none⟩ (.int .i64 rv)) := (((((((Below.refl (w.heap.size + 1) w8).setCell (p := ⟨w.heap.size + 1, 0, none⟩) (Nat.le_refl _) _).setCell (p := ⟨w.heap.size + 1, 1, none⟩) (Nat.le_refl _) _).setCell (p := ⟨w.heap.size + 1, 2, none⟩) (Nat.le_refl _) _).setCell (p := ⟨w.heap.size + 1, 3, none⟩) (Nat.le_refl _) _).setCell (p := ⟨w.heap.size + 1, 4, none⟩) (Nat.le_refl _) _).setCell (p := ⟨w.heap.size + 1, 5, none⟩) (Nat.le_refl _) _); have hq1 : Below w.heap.size w8 ((((((w8.setCell ⟨w.heap.size + 1, 0, none⟩ (.int .i64 k)).setCell ⟨w.heap.size + 1, 1, none⟩ (.string (ba nm))).setCell ⟨w.heap.size + 1, 2, none⟩ (.int .i64 v)).setCell ⟨w.heap.size + 1, 3, none⟩ (.slice A5 n5 c5)).setCell ⟨w.heap.size + 1, 4, none⟩ (.slice A6 n6 c6)).setCell ⟨w.heap.size + 1, 5, none⟩ (.int .i64 rv)) := hqa.mono (Nat.le_succ _); have hq0 : ((((((w8.setCell ⟨w.heap.size + 1, 0, none⟩ (.int .i64 k)).setCell ⟨w.heap.size + 1, 1, none⟩ (.string (ba nm))).setCell ⟨w.heap.size + 1, 2, none⟩ (.int .i64 v)).setCell ⟨w.heap.size + 1, 3, none⟩ (.slice A5 n5 c5)).setCell ⟨w.heap.size + 1, 4, none⟩ (.slice A6 n6 c6)).setCell ⟨w.heap.size + 1, 5, none⟩ (.int .i64 rv)).heap[w.heap.size]? = w8.heap[w.heap.size]? := hqa.block _ (Nat.lt_succ_self _); have hqo : ∀ g, g ≠ w.heap.size + 1 → ((((((w8.setCell ⟨w.heap.size + 1, 0, none⟩ (.int .i64 k)).setCell ⟨w.heap.size + 1, 1, none⟩ (.string (ba nm))).setCell ⟨w.heap.size + 1, 2, none⟩ (.int .i64 v)).setCell ⟨w.heap.size + 1, 3, none⟩ (.slice A5 n5 c5)).setCell ⟨w.heap.size + 1, 4, none⟩ (.slice A6 n6 c6)).setCell ⟨w.heap.size + 1, 5, none⟩ (.int .i64 rv)).heap[g]? = w8.heap[g]? := (fun g hg => ((Below.heap_setCell _ ⟨w.heap.size + 1, 5, none⟩ _ g hg).trans ((Below.heap_setCell _ ⟨w.heap.size + 1, 4, none⟩ _ g hg).trans ((Below.heap_setCell _ ⟨w.heap.size + 1, 3, none⟩ _ g hg).trans ((Below.heap_setCell _ ⟨w.heap.size + 1, 2, none⟩ _ g hg).trans ((Below.heap_setCell _ ⟨w.heap.size + 1, 1, none⟩ _ g hg).trans (Below.heap_setCell _ ⟨w.heap.size + 1, 0, none⟩ _ g hg))))))); have HM2 := Lib.hid m2; have HQO := Lib.hid hqo; have HQA := Lib.hid hqa; clear m2 hqo hqa))
  have n6' := (((((HM2.out.set 0 (.int .i64 k)).set 1 (.string (ba nm))).set 2 (.int .i64 v)).set 3 (.slice A5 n5 c5)).set 4 (.slice A6 n6 c6)).set 5 (.int .i64 rv)
  go_wp2_with fail
  refine bodyPost_ret (v := .agg #[.int .i64 k, .string (ba nm), .int .i64 v, .slice A5 n5 c5, .slice A6 n6 c6, .int .i64 rv]) (results_cell_row rfl _ _ (w.heap.size + 1) 28 _ (0, 0) _ rfl n6' Try.underlying28 rfl size_T) rfl ?_
  refine ⟨[.int .i64 k, .string (ba nm), .int .i64 v, .slice A5 n5 c5, .slice A6 n6 c6, .int .i64 rv], rfl, ?_, ((HB.out.trans (hb8.mono HB.out.size)).trans (HQA.out.mono (Nat.le_succ _)))⟩
  intro w'' hkk
  refine HTF.out _ ⟨Nat.le_trans HQA.out.size hkk.1, fun b hlt' hn => (hkk.2 b (Nat.lt_of_lt_of_le hlt' HQA.out.size) fun e => hn ?_).trans (HQO.out b fun e => hn ?_)⟩
  · have := HS7.out; show b < w7.heap.size + 3; have e' : b < w.heap.size + 2 := e; omega
  · have := HS7.out; show b < w7.heap.size + 3; omega
end Go.Proofs.Ytgheaaljnmkclaa
