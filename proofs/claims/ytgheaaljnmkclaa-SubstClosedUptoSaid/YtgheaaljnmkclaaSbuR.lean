/- Type, Row: what a substitution says. -/
import Derived.Test.YtgheaaljnmkclaaSbtT
import Derived.Test.YtgheaaljnmkclaaSbtR
import Derived.Test.YtgheaaljnmkclaaSbuT
import Derived.Outline
namespace Go.Proofs.Ytgheaaljnmkclaa
open Go.RowKit

set_option maxRecDepth 100000 in
set_option maxHeartbeats 8000000 in
theorem row_any (w : World) (sv : Value) (m : Nat) (T : Int → Option Ty) (R : Int → Option (List Str × Int)) (hs : SubV w sv m T R) (hm : m ≤ 1000000) (n : Int) (hn : i64ok n) :
    Calls Try.prog 11 #[sv, .int .i64 n] w fun e w' => ∃ l, e = .returned (.tuple #[.agg l.toArray, .bool (R n).isSome]) ∧ RwV w' ((R n).getD zRw) l ∧ Below w.heap.size w w' := by
  obtain ⟨vt, vr, gt, gr, rfl, hst, hsr, htm, hrm⟩ := hs
  have hx : ∃ A4 n4 c4 rv ls, (lookV (.agg zeroR) (gr n) = .agg #[.slice A4 n4 c4, .int .i64 rv] ∧ (gr n).isSome = (R n).isSome) ∧ StrR w (.slice A4 n4 c4) ls ∧ i64ok rv ∧ (R n).getD zRw = (ls, rv) := by
    have h1 := hrm n hn
    cases hT : R n with
    | none =>
      rw [hT] at h1
      rw [h1]
      exact ⟨none, 0, 0, 0, [], ⟨rfl, rfl⟩, ⟨.inl ⟨rfl, rfl⟩, Nat.zero_le _⟩, i64ok_of (by omega) (by omega), rfl⟩
    | some r =>
      rw [hT] at h1
      obtain ⟨l, h2, lv, rfl, h3, h4⟩ := h1
      obtain ⟨A4, n4, c4, rfl⟩ : ∃ A n c, lv = .slice A n c := by rcases h3.1 with ⟨rfl, _⟩ | ⟨_, _, rfl, _⟩ <;> exact ⟨_, _, _, rfl⟩
      rw [h2]
      exact ⟨A4, n4, c4, r.2, r.1, ⟨rfl, rfl⟩, h3, h4, rfl⟩
  obtain ⟨A4, n4, c4, rv, ls, hlook, htr, hz, hr'⟩ := hx
  rw [hr']
  obtain ⟨f, hf⟩ : ∃ f, f = (R n).isSome := ⟨_, rfl⟩
  rw [← hf] at hlook ⊢
  have HLN := Lib.hid htr.2
  have HRV := Lib.hid hz
  have hco := fun w7 (hb : Below w.heap.size w w7) => copiedRow_any (.slice A4 n4 c4) ls rv w7 (htr.keep hb.block)
  clear hr' hf htr hz htm hrm
  obtain ⟨A1, n1, c1, rfl⟩ := hst.one
  obtain ⟨A2, n2, c2, rfl⟩ := hsr.one
  obtain ⟨W, hW⟩ : ∃ W, W = (w.alloc (.cells #[.slice A1 n1 c1, .slice A2 n2 c2] 38)).alloc (.cells zeroR 26) := ⟨_, rfl⟩
  have hb : Below w.heap.size w W := by rw [hW]; exact ((Below.refl _ w).alloc (Nat.le_refl _) _).alloc (by simp) _
  have k1 : Lies W (w.heap.size + 1) 26 zeroR := by rw [hW]; exact Lies.new' _ _ _ (by simp)
  have hof := ofR_said W (.slice A2 n2 c2) m gr n (hsr.keep hb.block) hn hm
  rw [hlook.1, hlook.2] at hof
  have HO := Lib.hid hof
  have HW := Lib.hid hW
  have HB := Lib.hid hb
  have HK1 := Lib.hid k1
  have HCO := Lib.hid hco
  have hlt1 := k1.lt
  clear hof hW hb k1 hco hlook hst hsr
  unfold zeroR at HW HK1
  go_enter Try.func11, Try.ntmps11
  go_wp2_with fail
  rw [← HW.out]
  refine HO.out.mono ?_
  rintro e w1 ⟨rfl, hb1⟩
  have hb1w : Below w.heap.size w w1 := HB.out.trans (hb1.mono HB.out.size)
  have hb2 : Below w1.heap.size w1 (w1.alloc (.cells #[.slice A4 n4 c4, .int .i64 rv] 26)) := below_new w1 _
  have hb2w := hb1w.trans (hb2.mono hb1w.size)
  have HB1 := Lib.hid hb1
  have HB2 := Lib.hid hb2
  have HB2w := Lib.hid hb2w
  have HB1w := Lib.hid hb1w
  clear hb1 hb2 hb2w hb1w
  go_wp2_with fail
  refine (HCO.out _ HB2w.out).mono ?_
  rintro e w3 ⟨v2, rfl, hfr, hb3⟩
  have HFR := Lib.hid hfr
  unfold OwnL at hfr
  obtain ⟨A6, n6, c6, rfl⟩ := own_slice hfr
  clear hfr
  have hbW : Below W.heap.size W w3 := (HB1.out.trans (HB2.out.mono HB1.out.size)).trans (hb3.mono (Nat.le_trans HB1.out.size HB2.out.size))
  have m1 := HK1.out.later hbW
  have mc0 := m1.cell 0
  have mf0 := m1.free 0
  have mc1 := m1.cell 1
  have mf1 := m1.free 1
  have ml := m1.lt
  have HM1 := Lib.hid m1
  have HB3 := Lib.hid hb3
  have HBW := Lib.hid hbW
  clear m1 hb3 hbW
  go_wp2_with fail
  have q8 : Below (w.heap.size + 1) w3 ((w3.setCell ⟨w.heap.size + 1, 0, none⟩ (.slice A6 n6 c6)).setCell ⟨w.heap.size + 1, 1, none⟩ (.int .i64 rv)) := ((Below.refl _ _).setCell (p := ⟨w.heap.size + 1, 0, none⟩) (Nat.le_refl _) _).setCell (p := ⟨w.heap.size + 1, 1, none⟩) (Nat.le_refl _) _
  have hkw : ∀ (i : Nat), i ≠ w.heap.size + 1 → ((w3.setCell ⟨w.heap.size + 1, 0, none⟩ (.slice A6 n6 c6)).setCell ⟨w.heap.size + 1, 1, none⟩ (.int .i64 rv)).heap[i]? = w3.heap[i]? := fun i h => ((Below.heap_setCell _ ⟨w.heap.size + 1, 1, none⟩ _ i h).trans (Below.heap_setCell _ ⟨w.heap.size + 1, 0, none⟩ _ i h))
  refine bodyPost_ret (v := .tuple #[.agg #[.slice A6 n6 c6, .int .i64 rv], .bool f]) (Sb.results_ct rfl _ _ (w.heap.size + 1) 26 _ (0, 0) _ rfl (((HM1.out.set 0 (.slice A6 n6 c6)).set 1 (.int .i64 rv))) Try.underlying26 rfl size_R (by kernel_rfl)) rfl ?_
  have hbX : Below w.heap.size w ((w3.setCell ⟨w.heap.size + 1, 0, none⟩ (.slice A6 n6 c6)).setCell ⟨w.heap.size + 1, 1, none⟩ (.int .i64 rv)) := (HB.out.trans (HBW.out.mono HB.out.size)).trans (q8.mono (Nat.le_succ _))
  refine ⟨[.slice A6 n6 c6, .int .i64 rv], rfl, ⟨_, rfl, ?_, HRV.out⟩, hbX⟩
  have h1 := HB1.out.size
  have h2 := HB2.out.size
  have h3 : OwnL ((w3.setCell ⟨w.heap.size + 1, 0, none⟩ (.slice A6 n6 c6)).setCell ⟨w.heap.size + 1, 1, none⟩ (.int .i64 rv)) (w1.alloc (.cells #[.slice A4 n4 c4, .int .i64 rv] 26)).heap.size (.slice A6 n6 c6) ls := own_same HFR.out fun b hb hlt => hkw b fun e => by omega
  exact h3.str HLN.out
end Go.Proofs.Ytgheaaljnmkclaa
