/- Sorted: a row with its labels in order. -/
import Derived.Test.YtjeolmcjhpkcbaaDoorTyU
import Derived.Outline
namespace Go.Proofs.YtjeolmcjhpkcbaaDoor
open Go.RowKit Go.Shelf Go.Sort

def sortS (ls : List Str) : List Str := ls.mergeSort fun x y => decide (x ≤ y)
theorem sortS_len (ls : List Str) : (sortS ls).length = ls.length := List.length_mergeSort _
theorem sort_any (w : World) (B : Nat) (v : Value) (ls : List Str) (h : OwnS w B v ls) (hb : ls.length ≤ 100000) :
    Calls Tryd.prog 42 #[v] w fun e w' => e = .returned (.tuple #[]) ∧ OwnS w' B v (sortS ls) ∧ w.grownBy w' v.ownBlock := by
  obtain ⟨g, cap, cur, rfl, h2, h3, h4, h5, h6, h7⟩ := h
  have h7' : cur.toList.take ls.length = ls.map encStr := by rw [Nat.mul_one] at h7; exact h7
  refine (Any.slices_Sort_string Tryd.lays190 g 0 cap ls w (holds_of_block h3 h7') h3.lt (by omega)).mono ?_
  rintro e w' ⟨rfl, n, os, rfl⟩
  have hl := sortS_len ls
  refine ⟨rfl, OwnS.of (n := ls.length) ?_ hl.symm (by simp), ?_⟩
  · exact ownsRow_sorted hl h2 h3 h4 h5 h6
  · exact grownBy_sorted _
theorem OwnS.block {w : World} {B : Nat} {v : Value} {ls : List Str} (h : OwnS w B v ls) : ∃ g, v.ownBlock = some g ∧ B ≤ g ∧ g < w.heap.size := by
  obtain ⟨g, cap, cur, rfl, h2, h3, _⟩ := h
  exact ⟨g, rfl, h2, h3.lt⟩
theorem OwnS.slice {w : World} {B : Nat} {v : Value} {ls : List Str} (h : OwnS w B v ls) : ∃ A n c, v = .slice A n c := by
  obtain ⟨g, cap, cur, rfl, _⟩ := h
  exact ⟨_, _, _, rfl⟩

set_option maxRecDepth 100000 in
set_option maxHeartbeats 2000000 in
theorem sorted_any (v : Value) (ls : List Str) (rv : Int) (w : World) (hv : Strs w v ls) (hb : ls.length ≤ 1000) :
    Calls Tryd.prog 29 #[.agg #[v, .int .i64 rv]] w fun e w' => ∃ v', e = .returned (rowV v' rv) ∧ OwnS w' w.heap.size v' (sortS ls) ∧ Below w.heap.size w w' := by
  have hb2 : Below w.heap.size w ((w.alloc (.cells #[v, .int .i64 rv] 25)).alloc (.cells #[.slice none 0 0, .int .i64 0] 25)) := ((Below.refl _ w).alloc (Nat.le_refl _) _).alloc (by simp) _
  have k0 := Lies.new' (w.alloc (.cells #[v, .int .i64 rv] 25)) 25 #[.slice none 0 0, .int .i64 0] (N := w.heap.size + 1) (by simp)
  have hsz2 : ((w.alloc (.cells #[v, .int .i64 rv] 25)).alloc (.cells #[.slice none 0 0, .int .i64 0] 25)).heap.size = w.heap.size + 2 := by simp
  have hc := copied_any v ls rv _ (hv.later hb2) hb
  rw [hsz2] at hc
  have HC := Lib.hid hc
  have HSZ := Lib.hid hsz2
  have HB := Lib.hid hb2
  have HK := Lib.hid k0
  clear hc k0 hb2 hsz2
  obtain ⟨A, c, rfl, _⟩ := hv.slice
  go_enter Tryd.func29, Tryd.ntmps29
  go_wp2_with fail
  refine HC.out.mono ?_
  rintro e w1 ⟨v1, rfl, ho1, hb1⟩
  have hB1 := HB.out.trans (hb1.mono (by omega))
  have k1 := HK.out.below hb1 (by omega)
  have hs1 : w.heap.size + 2 ≤ w1.heap.size := by have := hb1.size; rw [HSZ.out] at this; exact this
  have hbn := below_new w1 (.cells #[v1, .int .i64 rv] 25)
  have n1 := Lies.new w1 25 #[v1, .int .i64 rv]
  have ho2 := ho1.later hbn
  have hso := sort_any _ _ _ _ ho2 (by omega)
  have k2 := k1.later hbn
  obtain ⟨g, hg, hg1, hg2⟩ := ho1.block
  rw [hg] at hso
  obtain ⟨A1, m1, c1, rfl⟩ := ho1.slice
  unfold rowV
  have HSO := Lib.hid hso
  have HB1 := Lib.hid (hB1.trans (hbn.mono (by omega)))
  clear hso
  go_wp2_with fail
  refine HSO.out.mono ?_
  rintro e w2 ⟨rfl, ho3, hgr⟩
  have k3 := k2.grown hgr (fun e => by injection e with e; omega)
  have n3 := n1.grown hgr (fun e => by injection e with e; omega)
  have d0 := n3.cell 0
  have d1 := n3.cell 1
  have e0 := k3.cell 0
  have e1 := k3.cell 1
  have f0 := k3.free 0
  have f1 := k3.free 1
  go_wp2_with fail
  have k4 := (k3.set 0 (.slice A1 m1 c1)).set 1 (.int .i64 rv)
  have hBg : Below w.heap.size w w2 := HB1.out.grown hgr (by simp; omega) (fun k e => by injection e with e; omega)
  refine bodyPost_ret (v := rowV (.slice A1 m1 c1) rv) (results_cell_row rfl _ _ (w.heap.size + 1) 25 _ (0, 0) _ rfl k4 Tryd.underlying25 rfl sz_row) rfl ⟨_, rfl, ?_, ?_⟩
  · refine OwnS.mono (OwnS.keep ho3 fun g hg _ => ?_) (by omega)
    rw [Below.heap_setCell _ _ _ _ (by show g ≠ w.heap.size + 1; omega), Below.heap_setCell _ _ _ _ (by show g ≠ w.heap.size + 1; omega)]
  · exact hBg.trans ⟨rfl, rfl, rfl, by simp [World.setCell], fun g hg => by rw [Below.heap_setCell _ _ _ _ (by show g ≠ w.heap.size + 1; omega), Below.heap_setCell _ _ _ _ (by show g ≠ w.heap.size + 1; omega)]⟩
end Go.Proofs.YtjeolmcjhpkcbaaDoor
