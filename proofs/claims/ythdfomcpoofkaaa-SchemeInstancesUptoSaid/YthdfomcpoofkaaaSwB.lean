/- Bare: the copy lives in blocks of its own. -/
import Derived.Test.YthdfomcpoofkaaaMg22
import Derived.Outline
namespace Go.Proofs.Ythdfomcpoofkaaa
open Go.RowKit

set_option maxRecDepth 100000 in
set_option maxHeartbeats 8000000 in
theorem bare_anyK (w : World) (t : Ty) (l : List Value) (ht : TRV w t l) (hp : t.size ≤ 1000) :
    Calls Try.prog 23 #[.agg l.toArray] w fun e w' => ∃ l', e = .returned (schemeV (.slice none 0 0) (.slice none 0 0) l') ∧ (∀ w'', Kept (fun b => b < w.heap.size + 2) w' w'' → TFV w'' t l') ∧ Below w.heap.size w w' := by
  have hcp := fun w7 (hb : Below w.heap.size w w7) => scopied_any w7 t l (ht.later hb) hp
  obtain ⟨k, nm, v, kids, ls, rv⟩ := t
  obtain ⟨A3, n3, c3, A4, n4, c4, rfl⟩ := ht.shape
  unfold tyC at *
  obtain ⟨W, hW⟩ : ∃ W, W = (w.alloc (.cells #[.int .i64 k, .string (ba nm), .int .i64 v, .slice A3 n3 c3, .slice A4 n4 c4, .int .i64 rv] 28)).alloc (.cells #[.slice none 0 0, .slice none 0 0, .int .i64 0, .string ⟨#[]⟩, .int .i64 0, .slice none 0 0, .slice none 0 0, .int .i64 0] 62) := ⟨_, rfl⟩
  have hb : Below w.heap.size w W := by rw [hW]; exact ((Below.refl _ w).alloc (Nat.le_refl _) _).alloc (by simp) _
  have k1 : Lies W w.heap.size 28 #[.int .i64 k, .string (ba nm), .int .i64 v, .slice A3 n3 c3, .slice A4 n4 c4, .int .i64 rv] := by rw [hW]; exact (Lies.new _ _ _).alloc _
  have k2 : Lies W (w.heap.size + 1) 62 #[.slice none 0 0, .slice none 0 0, .int .i64 0, .string ⟨#[]⟩, .int .i64 0, .slice none 0 0, .slice none 0 0, .int .i64 0] := by rw [hW]; exact Lies.new' _ _ _ (by simp)
  have a0 := k1.cell 0
  have a1 := k1.cell 1
  have a2 := k1.cell 2
  have a3 := k1.cell 3
  have a4 := k1.cell 4
  have a5 := k1.cell 5
  have HW := Lib.hid hW
  have HB := Lib.hid hb
  have HK2 := Lib.hid k2
  have HC := Lib.hid (hcp W hb)
  have HWs := Lib.hid (show W.heap.size = w.heap.size + 2 by rw [hW]; simp)
  clear hW hb k1 k2 hcp ht
  go_enter Try.func23, Try.ntmps23
  go_wp2_with fail
  rw [← HW.out]
  refine HC.out.mono ?_
  rintro e w8 ⟨l', rfl, htf, hb8⟩
  have HTF := Lib.hid htf
  obtain ⟨A5, n5, c5, A6, n6, c6, rfl⟩ := (htf w8 ⟨Nat.le_refl _, fun _ _ _ => rfl⟩).trv.shape
  have m2 := HK2.out.later hb8
  have HM2 := Lib.hid m2
  have HB8 := Lib.hid hb8
  have mc0 := m2.cell 0
  have mc1 := m2.cell 1
  have mc2 := m2.cell 2
  have mc3 := m2.cell 3
  have mc4 := m2.cell 4
  have mc5 := m2.cell 5
  have mc6 := m2.cell 6
  have mc7 := m2.cell 7
  have mf0 := m2.free 0
  have mf1 := m2.free 1
  have mf2 := m2.free 2
  have mf3 := m2.free 3
  have mf4 := m2.free 4
  have mf5 := m2.free 5
  have mf6 := m2.free 6
  have mf7 := m2.free 7
  unfold tyC
  clear m2 htf hb8 a0 a1 a2 a3 a4 a5 HC
  go_wp2_with fail
  obtain ⟨Z, hZ⟩ : ∃ Z, Z = ((((((((w8.setCell ⟨w.heap.size + 1, 0, none⟩ (.slice none 0 0)).setCell ⟨w.heap.size + 1, 1, none⟩ (.slice none 0 0)).setCell ⟨w.heap.size + 1, 2, none⟩ (.int .i64 k)).setCell ⟨w.heap.size + 1, 3, none⟩ (.string (ba nm))).setCell ⟨w.heap.size + 1, 4, none⟩ (.int .i64 v)).setCell ⟨w.heap.size + 1, 5, none⟩ (.slice A5 n5 c5)).setCell ⟨w.heap.size + 1, 6, none⟩ (.slice A6 n6 c6)).setCell ⟨w.heap.size + 1, 7, none⟩ (.int .i64 rv)) := ⟨_, rfl⟩
  have nz : Lies Z (w.heap.size + 1) 62 #[.slice none 0 0, .slice none 0 0, .int .i64 k, .string (ba nm), .int .i64 v, .slice A5 n5 c5, .slice A6 n6 c6, .int .i64 rv] := by rw [hZ]; exact ((((((((HM2.out.set 0 (.slice none 0 0)).set 1 (.slice none 0 0)).set 2 (.int .i64 k)).set 3 (.string (ba nm))).set 4 (.int .i64 v)).set 5 (.slice A5 n5 c5)).set 6 (.slice A6 n6 c6)).set 7 (.int .i64 rv))
  have hqa : Below (w.heap.size + 1) w8 Z := by rw [hZ]; exact ((((((((Below.refl (w.heap.size + 1) w8).setCell (p := ⟨w.heap.size + 1, 0, none⟩) (Nat.le_refl _) _).setCell (p := ⟨w.heap.size + 1, 1, none⟩) (Nat.le_refl _) _).setCell (p := ⟨w.heap.size + 1, 2, none⟩) (Nat.le_refl _) _).setCell (p := ⟨w.heap.size + 1, 3, none⟩) (Nat.le_refl _) _).setCell (p := ⟨w.heap.size + 1, 4, none⟩) (Nat.le_refl _) _).setCell (p := ⟨w.heap.size + 1, 5, none⟩) (Nat.le_refl _) _).setCell (p := ⟨w.heap.size + 1, 6, none⟩) (Nat.le_refl _) _).setCell (p := ⟨w.heap.size + 1, 7, none⟩) (Nat.le_refl _) _
  have hqo : ∀ g, g ≠ w.heap.size + 1 → Z.heap[g]? = w8.heap[g]? := fun g hg => by rw [hZ]; exact ((Below.heap_setCell _ ⟨w.heap.size + 1, 7, none⟩ _ g hg).trans ((Below.heap_setCell _ ⟨w.heap.size + 1, 6, none⟩ _ g hg).trans ((Below.heap_setCell _ ⟨w.heap.size + 1, 5, none⟩ _ g hg).trans ((Below.heap_setCell _ ⟨w.heap.size + 1, 4, none⟩ _ g hg).trans ((Below.heap_setCell _ ⟨w.heap.size + 1, 3, none⟩ _ g hg).trans ((Below.heap_setCell _ ⟨w.heap.size + 1, 2, none⟩ _ g hg).trans ((Below.heap_setCell _ ⟨w.heap.size + 1, 1, none⟩ _ g hg).trans (Below.heap_setCell _ ⟨w.heap.size + 1, 0, none⟩ _ g hg))))))))
  rw [← hZ]
  refine bodyPost_ret (v := .agg #[.slice none 0 0, .slice none 0 0, .int .i64 k, .string (ba nm), .int .i64 v, .slice A5 n5 c5, .slice A6 n6 c6, .int .i64 rv]) (results_cell_row rfl _ _ (w.heap.size + 1) 62 _ (0, 0) _ rfl nz Try.underlying62 rfl size_Sc) rfl ?_
  have hws := HWs.out
  refine ⟨[.int .i64 k, .string (ba nm), .int .i64 v, .slice A5 n5 c5, .slice A6 n6 c6, .int .i64 rv], rfl, fun w'' hk => HTF.out w'' ⟨Nat.le_trans hqa.size hk.1, fun b hlt hn => (hk.2 b (Nat.lt_of_lt_of_le hlt hqa.size) (fun h => hn (by show b < W.heap.size + 2; have h : b < w.heap.size + 2 := h; omega))).trans (hqo b fun e => hn (by show b < W.heap.size + 2; omega))⟩, (HB.out.trans (HB8.out.mono HB.out.size)).trans (hqa.mono (Nat.le_succ _))⟩
end Go.Proofs.Ythdfomcpoofkaaa
