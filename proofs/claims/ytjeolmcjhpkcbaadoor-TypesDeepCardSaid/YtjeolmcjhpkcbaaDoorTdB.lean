/- The walk of the law TypesDeep. -/
import Derived.Test.YtjeolmcjhpkcbaaDoorTdA
import Derived.Great.BuildSlice
import Derived.Deep.WholeRow
import Derived.Outline
namespace Go.Proofs.YtjeolmcjhpkcbaaDoor
open Go.RowKit

theorem set_new {w : World} {c c' : Array Value} {t : TypeId} {N : Nat} (hN : w.heap.size = N) : (w.alloc (.cells c t)).setRow N c' = w.alloc (.cells c' t) := by
  subst hN; exact World.setRow_alloc_new w c c' t
theorem Lies.setRow {w : World} {g : Nat} {t : TypeId} {cs : Array Value} (h : Lies w g t cs) (cs' : Array Value) : Lies (w.setRow g cs') g t cs' := by
  unfold Lies at h ⊢
  simp only [World.setRow, Array.getElem?_modify, if_true, h]
  rfl
theorem heap_setRow (w : World) (g : Nat) (cs : Array Value) (k : Nat) (h : k ≠ g) : (w.setRow g cs).heap[k]? = w.heap[k]? := by
  simp only [World.setRow, Array.getElem?_modify]
  rw [if_neg (by omega)]
/-- Where the loop stands. -/
def DpRel (w1 : World) (n : Nat) (i : Value) (wr : World) : Prop :=
  ∃ (j : Nat) (A : Option Addr) (m c : Nat), j ≤ n ∧ i = .int .i64 (j : Int) ∧ Chn wr w1.heap.size j (.slice A m c) ∧ Lies wr w1.heap.size 27 (tyC (kdR j) [] 0 (.slice A m c) (.slice none 0 0) 0).toArray ∧ Below w1.heap.size w1 wr

set_option maxRecDepth 100000 in
set_option maxHeartbeats 4000000 in
theorem typesDeep_any (n0 : Int) (w : World) : Calls Tryd.prog 7 #[.int .i64 n0] w (Yes w) := by
  obtain ⟨n, hn, hb⟩ := and_mask n0 511 (by decide)
  have htn : bits .and .i64 n0 511 = ((n : Nat) : Int) := by
    rw [show (511 : Int) = ((511 : Nat) : Int) from rfl, hb]
  clear hb
  go_enter Tryd.func7, Tryd.ntmps7
  go_wp2_with fail
  refine (shown_any _).mono ?_
  rintro e w0 ⟨rfl, hB0⟩
  go_wp2_with fail
  have hw1 := whole_any w0
  have HW1 := Lib.hid hw1
  unfold tyC at HW1
  clear hw1
  refine HW1.out.mono ?_
  rintro e w1 ⟨rfl, hB1⟩
  have hB01 := hB0.trans (hB1.mono hB0.size)
  have lz := Lies.new w1 27 (tyC 1 [] 0 (.slice none 0 0) (.slice none 0 0) 0).toArray
  have hb2 := below_new w1 (.cells (tyC 1 [] 0 (.slice none 0 0) (.slice none 0 0) 0).toArray 27)
  go_wp2_with fail
  go_loopw [5] (fun i wr => DpRel w1 n i wr) (fun i _ => n - (intOf i).toNat)
  case atStart => exact ⟨0, none, 0, 0, Nat.zero_le _, rfl, rfl, lz, hb2⟩
  case round =>
    obtain ⟨j, A, m, c, hj, rfl, hch, hl, hB⟩ := hrel
    unfold tyC at hl
    by_cases hlt : j < n
    · have l0 := hl.cell 0
      have l1 := hl.cell 1
      have l2 := hl.cell 2
      have l3 := hl.cell 3
      have l4 := hl.cell 4
      have l5 := hl.cell 5
      simp only [List.getElem?_toArray, List.getElem?_cons_succ, List.getElem?_cons_zero] at l0 l1 l2 l3 l4 l5
      have hltz := hl.lt
      have f0 := hl.free 0
      have f1 := hl.free 1
      have f2 := hl.free 2
      have f3 := hl.free 3
      have f4 := hl.free 4
      have f5 := hl.free 5
      have HL := Lib.hid hl
      have HC := Lib.hid hch
      clear hl hch
      go_wp2
      go_roundw
      case rel =>
        refine ⟨j + 1, _, _, _, by omega, by go_num, ⟨wr.heap.size, .slice A m c, rfl, hltz, Lies.new' _ _ _ (by simp), HC.out.keep fun g hg hlt2 => ?_⟩, ?_, ?_⟩
        · rw [Below.heap_alloc _ _ _ (by simp; exact hlt2)]
          iterate 6 rw [Below.heap_setCell _ _ _ _ (by show g ≠ w1.heap.size; omega)]
        · exact ((((((HL.out.set 0 _).set 1 _).set 2 _).set 3 _).set 4 _).set 5 _).alloc _
        · exact ((((((hB.setCell (Nat.le_refl _) _).setCell (Nat.le_refl _) _).setCell (Nat.le_refl _) _).setCell (Nat.le_refl _) _).setCell (Nat.le_refl _) _).setCell (Nat.le_refl _) _).alloc (by simp; omega) _
      case measure => simp [intOf]; omega
    · obtain rfl : j = n := by omega
      have htv : TV wr (tyR j) (tyC (kdR j) [] 0 (.slice A m c) (.slice none 0 0) 0) := hch.tv
      have hS : wr.cell? ⟨w1.heap.size, 0, none⟩ = some (.int .i64 (kdR j)) ∧ wr.cell? ⟨w1.heap.size, 1, none⟩ = some (.string (ba [])) ∧ wr.cell? ⟨w1.heap.size, 2, none⟩ = some (.int .i64 0) ∧ wr.cell? ⟨w1.heap.size, 3, none⟩ = some (.slice A m c) ∧ wr.cell? ⟨w1.heap.size, 4, none⟩ = some (.slice none 0 0) ∧ wr.cell? ⟨w1.heap.size, 5, none⟩ = some (.int .i64 0) := ⟨hl.cell 0, hl.cell 1, hl.cell 2, hl.cell 3, hl.cell 4, hl.cell 5⟩
      have hBw := hB01.trans (hB.mono hB01.size)
      have hD : ∀ W, Below wr.heap.size wr W → Calls Tryd.prog 23 #[.agg #[.int .i64 (kdR j), .string (ba []), .int .i64 0, .slice A m c, .slice none 0 0, .int .i64 0]] W fun e w' => e = .returned (.int .i64 ((min (j + 1) 201 : Nat) : Int)) ∧ Below wr.heap.size wr w' := fun W hW => (depth_any _ (tyR j) W (htv.later hW) (by rw [size_tyR]; omega)).mono fun e w' h => ⟨by rw [h.1, deep_tyR], hW.trans (h.2.mono hW.size)⟩
      have hR : ∀ W, Below wr.heap.size wr W → Calls Tryd.prog 13 #[.agg #[.int .i64 (kdR j), .string (ba []), .int .i64 0, .slice A m c, .slice none 0 0, .int .i64 0]] W fun e w' => e = .returned (.bool (decide (j < 200))) ∧ Below wr.heap.size wr w' := fun W hW => (rightAll_any _ (tyR j) W (htv.later hW) (by rw [size_tyR]; omega)).mono fun e w' h => ⟨by rw [h.1, right_tyR], hW.trans (h.2.mono hW.size)⟩
      have hmin : (((min (j + 1) 201 : Nat) : Int)) = min ((j : Int) + 1) 201 := by omega
      have HS := Lib.hid hS
      obtain ⟨d0, d1, d2, d3, d4, d5⟩ := hS
      clear htv hl hch hlt
      go_wp2_with fail
      refine (hD _ (Below.refl _ _)).mono ?_
      rintro e v1 ⟨rfl, b1⟩
      obtain ⟨c0, c1, c2, c3, c4, c5, _⟩ := keep6 HS.out b1
      rw [hmin]
      go_wp2_with fail
      refine (hR _ b1).mono ?_
      rintro e v2 ⟨rfl, b2⟩
      go_wp2
      go_ret
      refine ⟨ret_bool ?_, hBw.trans (b2.mono hBw.size)⟩
      rw [show (decide (j < 200)) = decide ((j : Int) < 200) from decide_eq_decide.2 (by omega)]
      exact beq_self_eq_true _
end Go.Proofs.YtjeolmcjhpkcbaaDoor
