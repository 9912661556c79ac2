/- Terms in a block of their own, that is written again and again. -/
import Derived.Test.YtfkakmafedhgdaaGreatDoorSoBe
import Derived.StillTailTactics
import Derived.Deep.RegionHeld3
import Derived.Deep.DeepCutAuto
namespace Go.Proofs.YtfkakmafedhgdaaGreatDoor.K
open Go Go.RowKit
namespace So

theorem SrcV.cut {w : World} {v : Value} {xs : List Int} (h : SrcV w v (xs.map (Value.int .i64 ·))) (k : Nat) : ∃ A c, v = .slice A xs.length c ∧ xs.length ≤ c ∧ SrcV w (.slice A (xs.take k).length c) ((xs.take k).map (Value.int .i64 ·)) := by
  rcases h with ⟨rfl, h0⟩ | ⟨ad, c, rfl, h1, h2⟩
  · obtain rfl : xs = [] := by simpa using h0
    exact ⟨_, 0, rfl, Nat.le_refl _, .inl ⟨by simp, by simp⟩⟩
  · rw [List.length_map] at h1 ⊢
    refine ⟨some ad, c, rfl, h1, .inr ⟨ad, c, by rw [List.length_map], by rw [List.length_map, List.length_take]; omega, fun j q hq => h2 j q ?_⟩⟩
    rw [List.getElem?_map] at hq ⊢
    rw [List.getElem?_take] at hq
    by_cases hj : j < k
    · rw [if_pos hj] at hq; exact hq
    · rw [if_neg hj] at hq; cases hq
theorem IntsS.cut {w : World} {A : Option Addr} {n c : Nat} {xs : List Int} (h : IntsS w (.slice A n c) xs) (k : Nat) (hk : k ≤ xs.length) : IntsS w (.slice A k c) (xs.take k) := by
  obtain ⟨A', c', h1, h2, h3⟩ := h
  injection h1 with e1 e2 e3
  subst e1 e2 e3
  have hl : (xs.take k).length = k := by rw [List.length_take]; omega
  refine ⟨A, c, by rw [hl], by rw [hl]; omega, fun h => ?_⟩
  obtain ⟨g, o, e, hc⟩ := h3 (by omega)
  refine ⟨g, o, e, fun j x hx => hc j x ?_⟩
  rw [List.getElem?_take] at hx
  by_cases hj : j < k
  · rw [if_pos hj] at hx; exact hx
  · rw [if_neg hj] at hx; cases hx
/-- All blocks stay but one. -/
structure KX (X : Nat) (w w' : World) : Prop where
  os : w'.os = w.os
  tape : w'.tape = w.tape
  output : w'.output = w.output
  size : w.heap.size ≤ w'.heap.size
  block : ∀ g, g < w.heap.size → g ≠ X → w'.heap[g]? = w.heap[g]?
theorem KX.refl (X : Nat) (w : World) : KX X w w := ⟨rfl, rfl, rfl, Nat.le_refl _, fun _ _ _ => rfl⟩
theorem KX.below {X : Nat} {a b c : World} (h : KX X a b) (k : Below b.heap.size b c) : KX X a c :=
  ⟨k.os.trans h.os, k.tape.trans h.tape, k.output.trans h.output, Nat.le_trans h.size k.size, fun g h1 h2 => (k.block g (Nat.lt_of_lt_of_le h1 h.size)).trans (h.block g h1 h2)⟩
theorem KX.set {X : Nat} {a b : World} (h : KX X a b) (C : Array Value) : KX X a (b.setRow X C) :=
  ⟨h.os, h.tape, h.output, by rw [size_setRow']; exact h.size, fun g h1 h2 => (heap_setRow' b X C g h2).trans (h.block g h1 h2)⟩
theorem KX.all {X : Nat} {w a b : World} (h : KX X a b) (hb : Below w.heap.size w a) (hX : w.heap.size ≤ X) : Below w.heap.size w b :=
  ⟨h.os.trans hb.os, h.tape.trans hb.tape, h.output.trans hb.output, Nat.le_trans hb.size h.size, fun g hg => (h.block g (Nat.lt_of_lt_of_le hg hb.size) (by omega)).trans (hb.block g hg)⟩
/-- A term is kept in a new block. -/
theorem keep_term (w : World) (C : Array Value) : ∃ W, W = (w.alloc (.cells zC 33)).setRow w.heap.size C ∧ Below w.heap.size w W ∧ W.heap.size = w.heap.size + 1 ∧ Lies W w.heap.size 33 C :=
  ⟨_, rfl, below_setRow' (below_new w _) (Nat.le_refl _) _, by rw [size_setRow']; simp, lies_setRow' (Lies.new w _ _) _⟩
theorem built_prog : ∀ (C : List Value), C.length = 21 → Tryz.prog.built 47 [(2, .agg C.toArray)] = some ([Value.slice none 0 0, Value.slice none 0 0] ++ C).toArray
  | [a0, a1, a2, a3, a4, a5, a6, a7, a8, a9, a10, a11, a12, a13, a14, a15, a16, a17, a18, a19, a20], _ => by kernel_rfl
/-- A program of a term's cells, as it stands where Run keeps it. -/
theorem prog_tm {X : Nat} {w : World} {t : Tm} {C : List Value} (h : TA X w t C) (hX : X < w.heap.size) : TmA (memOf (w.alloc (.cells ([Value.slice none 0 0, Value.slice none 0 0] ++ C).toArray 47))) w.heap.size 2 t := by
  refine ((h.later (below_new w _)).place (X := X) (by omega) fun i u hu => ?_).le (memX_of _ _)
  have hL := Lies.new w 47 ([Value.slice none 0 0, Value.slice none 0 0] ++ C).toArray
  rw [hL.cell]
  simpa [Nat.add_comm] using hu
end So
end Go.Proofs.YtfkakmafedhgdaaGreatDoor.K
