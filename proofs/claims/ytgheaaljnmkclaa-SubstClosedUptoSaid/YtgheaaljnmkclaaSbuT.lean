/- Type, Row: what a substitution says. -/
import Derived.Test.YtgheaaljnmkclaaSbtT
import Derived.Test.YtgheaaljnmkclaaSbtR
import Derived.Outline
namespace Go.Proofs.Ytgheaaljnmkclaa
open Go.RowKit

def zTy : Ty := .mk 0 [] 0 [] [] 0
def zRw : List Str × Int := ([], 0)
set_option maxRecDepth 100000 in
set_option maxHeartbeats 8000000 in
theorem type_any (w : World) (sv : Value) (m : Nat) (T : Int → Option Ty) (R : Int → Option (List Str × Int)) (hs : SubV w sv m T R) (hm : m ≤ 1000000) (n : Int) (hn : i64ok n) (hsz : ∀ t, T n = some t → t.size ≤ 1000) :
    Calls Try.prog 10 #[sv, .int .i64 n] w fun e w' => ∃ l, e = .returned (.tuple #[.agg l.toArray, .bool (T n).isSome]) ∧ TRV w' ((T n).getD zTy) l ∧ Below w.heap.size w w' := by
  obtain ⟨vt, vr, gt, gr, rfl, hst, hsr, htm, hrm⟩ := hs
  have hx : ∃ k nm v A3 n3 c3 A4 n4 c4 rv, (lookV (.agg zeroT) (gt n) = .agg #[.int .i64 k, .string (ba nm), .int .i64 v, .slice A3 n3 c3, .slice A4 n4 c4, .int .i64 rv] ∧ (gt n).isSome = (T n).isSome) ∧ TRV w ((T n).getD zTy) [.int .i64 k, .string (ba nm), .int .i64 v, .slice A3 n3 c3, .slice A4 n4 c4, .int .i64 rv] ∧ ((T n).getD zTy).size ≤ 1000 := by
    have h1 := htm n hn
    cases hT : T n with
    | none =>
      rw [hT] at h1
      rw [h1]
      exact ⟨0, [], 0, none, 0, 0, none, 0, 0, 0, ⟨rfl, rfl⟩, ⟨_, _, rfl, .inl ⟨rfl, rfl⟩, ⟨.inl ⟨rfl, rfl⟩, Nat.zero_le _⟩, ⟨i64ok_of (by omega) (by omega), i64ok_of (by omega) (by omega), i64ok_of (by omega) (by omega)⟩, fun i t h => by simp at h⟩, by show zTy.size ≤ 1000; simp [zTy, Ty.size, Ty.sizeL]⟩
    | some t =>
      rw [hT] at h1
      obtain ⟨l, h2, h3⟩ := h1
      have h4 := hsz t hT
      obtain ⟨k, nm, v, kids, ls, rv⟩ := t
      obtain ⟨A3, n3, c3, A4, n4, c4, rfl⟩ := h3.shape
      rw [h2]
      exact ⟨k, nm, v, A3, n3, c3, A4, n4, c4, rv, ⟨rfl, rfl⟩, h3, h4⟩
  obtain ⟨k, nm, v, A3, n3, c3, A4, n4, c4, rv, hlook, htr, hz⟩ := hx
  obtain ⟨t', ht'⟩ : ∃ t', t' = (T n).getD zTy := ⟨_, rfl⟩
  rw [← ht'] at htr hz ⊢
  obtain ⟨f, hf⟩ : ∃ f, f = (T n).isSome := ⟨_, rfl⟩
  rw [← hf] at hlook ⊢
  have hco := fun w7 (hb : Below w.heap.size w w7) => copied_any w7 t' _ (htr.later hb) hz
  clear ht' hf htr hz htm hrm hsz
  obtain ⟨A1, n1, c1, rfl⟩ := hst.one
  obtain ⟨A2, n2, c2, rfl⟩ := hsr.one
  obtain ⟨W, hW⟩ : ∃ W, W = (w.alloc (.cells #[.slice A1 n1 c1, .slice A2 n2 c2] 38)).alloc (.cells zeroT 28) := ⟨_, rfl⟩
  have hb : Below w.heap.size w W := by rw [hW]; exact ((Below.refl _ w).alloc (Nat.le_refl _) _).alloc (by simp) _
  have k1 : Lies W (w.heap.size + 1) 28 zeroT := by rw [hW]; exact Lies.new' _ _ _ (by simp)
  have hof := ofT_said W (.slice A1 n1 c1) m gt n (hst.keep hb.block) hn hm
  rw [hlook.1, hlook.2] at hof
  have HO := Lib.hid hof
  have HW := Lib.hid hW
  have HB := Lib.hid hb
  have HK1 := Lib.hid k1
  have HCO := Lib.hid hco
  have hlt1 := k1.lt
  clear hof hW hb k1 hco hlook hst hsr
  unfold zeroT at HW HK1
  go_enter Try.func10, Try.ntmps10
  go_wp2_with fail
  rw [← HW.out]
  refine HO.out.mono ?_
  rintro e w1 ⟨rfl, hb1⟩
  have hb1w : Below w.heap.size w w1 := HB.out.trans (hb1.mono HB.out.size)
  have hb2 : Below w1.heap.size w1 (w1.alloc (.cells #[.int .i64 k, .string (ba nm), .int .i64 v, .slice A3 n3 c3, .slice A4 n4 c4, .int .i64 rv] 28)) := below_new w1 _
  have hb2w := hb1w.trans (hb2.mono hb1w.size)
  have HB1 := Lib.hid hb1
  have HB2 := Lib.hid hb2
  have HB2w := Lib.hid hb2w
  have HB1w := Lib.hid hb1w
  clear hb1 hb2 hb2w hb1w
  go_wp2_with fail
  refine (HCO.out _ HB2w.out).mono ?_
  rintro e w3 ⟨l', rfl, hfr, hb3⟩
  obtain ⟨k', nm', v', kids, ls, rv'⟩ := t'
  obtain ⟨A5, n5, c5, A6, n6, c6, rfl⟩ := (hfr w3 ⟨Nat.le_refl _, fun _ _ _ => rfl⟩).trv.shape
  have HFR := Lib.hid hfr
  clear hfr
  unfold tyC
  have hbW : Below W.heap.size W w3 := (HB1.out.trans (HB2.out.mono HB1.out.size)).trans (hb3.mono (Nat.le_trans HB1.out.size HB2.out.size))
  have m1 := HK1.out.later hbW
  have mc0 := m1.cell 0
  have mf0 := m1.free 0
  have mc1 := m1.cell 1
  have mf1 := m1.free 1
  have mc2 := m1.cell 2
  have mf2 := m1.free 2
  have mc3 := m1.cell 3
  have mf3 := m1.free 3
  have mc4 := m1.cell 4
  have mf4 := m1.free 4
  have mc5 := m1.cell 5
  have mf5 := m1.free 5
  have ml := m1.lt
  have HM1 := Lib.hid m1
  have HB3 := Lib.hid hb3
  have HBW := Lib.hid hbW
  clear m1 hb3 hbW
  go_wp2_with fail
  have q8 : Below (w.heap.size + 1) w3 ((((((w3.setCell ⟨w.heap.size + 1, 0, none⟩ (.int .i64 k')).setCell ⟨w.heap.size + 1, 1, none⟩ (.string (ba nm'))).setCell ⟨w.heap.size + 1, 2, none⟩ (.int .i64 v')).setCell ⟨w.heap.size + 1, 3, none⟩ (.slice A5 n5 c5)).setCell ⟨w.heap.size + 1, 4, none⟩ (.slice A6 n6 c6)).setCell ⟨w.heap.size + 1, 5, none⟩ (.int .i64 rv')) := ((((((Below.refl _ _).setCell (p := ⟨w.heap.size + 1, 0, none⟩) (Nat.le_refl _) _).setCell (p := ⟨w.heap.size + 1, 1, none⟩) (Nat.le_refl _) _).setCell (p := ⟨w.heap.size + 1, 2, none⟩) (Nat.le_refl _) _).setCell (p := ⟨w.heap.size + 1, 3, none⟩) (Nat.le_refl _) _).setCell (p := ⟨w.heap.size + 1, 4, none⟩) (Nat.le_refl _) _).setCell (p := ⟨w.heap.size + 1, 5, none⟩) (Nat.le_refl _) _
  have hkw : ∀ (i : Nat), i ≠ w.heap.size + 1 → ((((((w3.setCell ⟨w.heap.size + 1, 0, none⟩ (.int .i64 k')).setCell ⟨w.heap.size + 1, 1, none⟩ (.string (ba nm'))).setCell ⟨w.heap.size + 1, 2, none⟩ (.int .i64 v')).setCell ⟨w.heap.size + 1, 3, none⟩ (.slice A5 n5 c5)).setCell ⟨w.heap.size + 1, 4, none⟩ (.slice A6 n6 c6)).setCell ⟨w.heap.size + 1, 5, none⟩ (.int .i64 rv')).heap[i]? = w3.heap[i]? := fun i h => ((Below.heap_setCell _ ⟨w.heap.size + 1, 5, none⟩ _ i h).trans ((Below.heap_setCell _ ⟨w.heap.size + 1, 4, none⟩ _ i h).trans ((Below.heap_setCell _ ⟨w.heap.size + 1, 3, none⟩ _ i h).trans ((Below.heap_setCell _ ⟨w.heap.size + 1, 2, none⟩ _ i h).trans ((Below.heap_setCell _ ⟨w.heap.size + 1, 1, none⟩ _ i h).trans (Below.heap_setCell _ ⟨w.heap.size + 1, 0, none⟩ _ i h))))))
  refine bodyPost_ret (v := .tuple #[.agg #[.int .i64 k', .string (ba nm'), .int .i64 v', .slice A5 n5 c5, .slice A6 n6 c6, .int .i64 rv'], .bool f]) (Sb.results_ct rfl _ _ (w.heap.size + 1) 28 _ (0, 0) _ rfl (((((((HM1.out.set 0 (.int .i64 k')).set 1 (.string (ba nm'))).set 2 (.int .i64 v')).set 3 (.slice A5 n5 c5)).set 4 (.slice A6 n6 c6)).set 5 (.int .i64 rv'))) Try.underlying28 rfl size_T (by kernel_rfl)) rfl ?_
  have hbX : Below w.heap.size w ((((((w3.setCell ⟨w.heap.size + 1, 0, none⟩ (.int .i64 k')).setCell ⟨w.heap.size + 1, 1, none⟩ (.string (ba nm'))).setCell ⟨w.heap.size + 1, 2, none⟩ (.int .i64 v')).setCell ⟨w.heap.size + 1, 3, none⟩ (.slice A5 n5 c5)).setCell ⟨w.heap.size + 1, 4, none⟩ (.slice A6 n6 c6)).setCell ⟨w.heap.size + 1, 5, none⟩ (.int .i64 rv')) := (HB.out.trans (HBW.out.mono HB.out.size)).trans (q8.mono (Nat.le_succ _))
  refine ⟨[.int .i64 k', .string (ba nm'), .int .i64 v', .slice A5 n5 c5, .slice A6 n6 c6, .int .i64 rv'], rfl, TFV.trv (HFR.out _ ⟨q8.size, fun b hb hn => hkw b fun e => hn ?_⟩), hbX⟩
  have h1 := HB1.out.size
  have h2 := HB2.out.size
  show b < (w1.alloc _).heap.size + 2
  omega
end Go.Proofs.Ytgheaaljnmkclaa
