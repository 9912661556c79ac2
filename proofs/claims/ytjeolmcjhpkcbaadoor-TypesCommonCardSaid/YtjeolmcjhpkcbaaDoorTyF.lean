/- A number goes into a list of numbers, each once. -/
import Derived.Test.YtjeolmcjhpkcbaaDoorTyM
import Derived.Test.YtjeolmcjhpkcbaaDoorTyD
import Derived.StillTailTactics
import Derived.Outline
namespace Go.Proofs.YtjeolmcjhpkcbaaDoor
open Go.RowKit

def addN (L : List Int) (n : Int) : List Int := if n ∈ L then L else L ++ [n]
def setL (L : List Int) : List (Int × Value) := L.map fun n => (n, .agg #[])
theorem look_set (n : Int) : ∀ L, look n (setL L) = if n ∈ L then some (.agg #[]) else none
  | [] => rfl
  | m :: L => by
    have ih := look_set n L
    unfold setL at ih ⊢
    simp only [List.map_cons, look]
    by_cases h : n = m
    · simp [h]
    · rw [if_neg h, ih]
      simp [h]
theorem info_int : (Tryd.prog.info? 3).map (fun i => (i.zero, i.size, i.bytes)) = some (some (.int .i64 0), 1, 8) := by kernel_rfl
/-- All but some blocks lie as they lay. -/
structure Fr (S : Nat → Prop) (w w' : World) : Prop where
  os : w'.os = w.os
  tape : w'.tape = w.tape
  output : w'.output = w.output
  size : w.heap.size ≤ w'.heap.size
  block : ∀ i, i < w.heap.size → ¬ S i → w'.heap[i]? = w.heap[i]?
set_option maxRecDepth 100000 in
set_option maxHeartbeats 4000000 in
theorem numAdd_any (W : World) (bg o b B : Nat) (cs : Array Value) (L : List Int) (A0 : Option Addr) (m0 c0 : Nat) (n : Int) (hl : Lies W bg 83 cs) (ho : cs[o]? = some (.map (some b))) (ho1 : cs[o + 1]? = some (.slice A0 m0 c0)) (hm : IMap W b (setL L))
    (hown : W.ownsRow B 3 1 (.slice A0 m0 c0) L.length (L.map fun i => .int .i64 i)) (hb : b < B) (hbg : bg < B) (hne : b ≠ bg) (hL : L.length ≤ 100000000) (hB : B ≤ W.heap.size) :
    Calls Tryd.prog 60 #[.pointer (some ⟨bg, o, none⟩), .int .i64 n] W fun e W' => e = .returned (.tuple #[]) ∧ ∃ A k c, Lies W' bg 83 (cs.setIfInBounds (o + 1) (.slice A k c)) ∧ IMap W' b (setL (addN L n)) ∧
      W'.ownsRow B 3 1 (.slice A k c) (addN L n).length ((addN L n).map fun i => .int .i64 i) ∧ Fr (fun g => g = b ∨ g = bg ∨ B ≤ g) W W' := by
  obtain ⟨i0, hi, hz0, hz1, hz2⟩ := info_parts info_int
  have hzu := zero_unit W
  have d0 := hl.cell o
  have d1 := hl.cell (o + 1)
  rw [ho] at d0
  rw [ho1] at d1
  have hbn := below_new W (.cells #[] 95)
  have hblt := hm.lt
  have hglt := hl.lt
  by_cases hmem : n ∈ L
  · have hlk := look_set n L
    rw [if_pos hmem] at hlk
    go_enter Tryd.func60, Tryd.ntmps60
    go_wp2_with (at_lookup; refine wpList_lookup_imap _ rfl (.tmp 10) (.tmp 11) 79 rfl rfl hm Tryd.underlying79 Tryd.underlying3 hzu n rfl ?_; rw [hlk])
    go_end0
    have hadd : addN L n = L := if_pos hmem
    rw [hadd]
    have hset : cs.setIfInBounds (o + 1) (.slice A0 m0 c0) = cs := by
      apply Array.ext_getElem?
      intro j
      rw [Array.getElem?_setIfInBounds]
      split
      · rename_i h; subst h
        split
        · rw [ho1]
        · rename_i h2; rw [Array.getElem?_eq_none (by omega)]
      · rfl
    exact ⟨rfl, A0, m0, c0, by rw [hset]; exact hl.later hbn, hm.keep (hbn.block _ hblt), own_later hown hbn, hbn.os, hbn.tape, hbn.output, hbn.size, fun i h _ => hbn.block i h⟩
  · have hlk := look_set n L
    rw [if_neg hmem] at hlk
    have hm1 := hm.keep (hbn.block _ hblt)
    have hl1 := hl.later hbn
    have hown1 := own_later hown hbn
    have x0 := hl1.cell o
    have x1 := hl1.cell (o + 1)
    rw [ho] at x0
    rw [ho1] at x1
    have hone : ∀ u ∈ [Value.int .i64 n], u.oneCell' = true := by simp [Value.oneCell']
    have hadd : addN L n = L ++ [n] := if_neg hmem
    go_enter Tryd.func60, Tryd.ntmps60
    go_wp2_with (first
      | (at_lookup; refine wpList_lookup_imap _ rfl (.tmp 10) (.tmp 11) 79 rfl rfl hm Tryd.underlying79 Tryd.underlying3 hzu n rfl ?_; rw [hlk])
      | (at_mapUpdate; go_loud (refine wpList_update_imap _ rfl (.tmp 20) (.tmp 21) (.tmp 22) 79 (.inl rfl) rfl hm1 Tryd.underlying79 Tryd.underlying3 n rfl hlk ?_); intro w1 hm2 hg1; have l2 := hl1.grown hg1 (fun e => by injection e with e; omega); have y0 := l2.cell o; have y1 := l2.cell (o + 1); rw [ho] at y0; rw [ho1] at y1; have z1 := l2.free (o + 1); have own1 := own_same hown1 (w' := w1) (fun g hg hlt => hg1.block g hlt (fun e => by injection e with e; omega)); have hsz1 := hg1.size)
      | (at_builtin; go_loud (refine wpList_append_own_at _ rfl (.tmp 27) (.tmp 29) 40 rfl B 3 i0 (.int .i64 0) 1 8 Tryd.underlying40 hi hz0 hz1 hz2 rfl (by decide) _ L.length (L.map fun i => .int .i64 i) rfl (own_later own1 (below_new w1 (.cells #[.int .i64 n] 3))) ⟨w1.heap.size, 0, none⟩ 1 1 [.int .i64 n] rfl rfl (new_cells _ _ _ rfl) hone (by unfold maxLen; omega) (by omega) (by have := hbn.size; simp; omega) ?_)))
    intro v' w2 hown2 hgr _ _
    obtain ⟨A9, k9, c9, rfl⟩ := own_slice hown2
    have hrow : ∀ q, Value.ownBlock (.slice A0 m0 c0) = some q → B ≤ q := fun q hq => (own_block hown q hq).1
    have l3 := (l2.alloc (.cells #[.int .i64 n] 3)).grown hgr (fun e => by have := hrow _ e.symm; omega)
    have e3 := l3.cell (o + 1)
    rw [ho1] at e3
    have g3 := l3.free (o + 1)
    go_wp2_with fail
    go_end0
    have hs0 := hbn.size
    have hblk : ∀ g, g < W.heap.size → ¬ (g = b ∨ g = bg ∨ B ≤ g) → (w2.setCell ⟨bg, o + 1, none⟩ (.slice A9 k9 c9)).heap[g]? = W.heap[g]? := by
      intro g hlt hng
      rw [Below.heap_setCell _ _ _ _ (by show g ≠ bg; omega), hgr.block g (by simp; omega) (fun e => by have := hrow _ e.symm; omega), Below.heap_alloc w1 _ g (by omega), hg1.block g (by omega) (fun e => by injection e with e; omega), hbn.block g hlt]
    refine ⟨rfl, A9, k9, c9, l3.set (o + 1) _, ?_, ?_, ?_⟩
    · rw [hadd]
      refine IMap.keep (w := w1) ?_ ?_
      · unfold setL at hm2 ⊢
        rw [List.map_append]
        exact hm2
      · rw [Below.heap_setCell _ _ _ _ (by show b ≠ bg; omega), hgr.block b (by simp; omega) (fun e => by have := hrow _ e.symm; omega), Below.heap_alloc w1 _ b (by omega)]
    · rw [hadd, List.length_append, List.map_append]
      exact own_same hown2 fun g hg _ => Below.heap_setCell _ _ _ _ (by show g ≠ bg; omega)
    · refine ⟨?_, ?_, ?_, ?_, hblk⟩
      · exact hgr.os.trans (hg1.os.trans hbn.os)
      · exact hgr.tape.trans (hg1.tape.trans hbn.tape)
      · exact hgr.output.trans (hg1.output.trans hbn.output)
      · have := hgr.size
        simp [World.setCell] at *
        omega
end Go.Proofs.YtjeolmcjhpkcbaaDoor
