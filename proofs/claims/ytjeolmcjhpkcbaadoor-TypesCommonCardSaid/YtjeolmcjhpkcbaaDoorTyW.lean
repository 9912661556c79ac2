/- Add: a row with a label more. -/
import Derived.Test.YtjeolmcjhpkcbaaDoorTyV
import Derived.Maps.AppendAt
import Derived.Outline
namespace Go.Proofs.YtjeolmcjhpkcbaaDoor
open Go.RowKit Go.Shelf Go.Sort

set_option maxRecDepth 100000 in
set_option maxHeartbeats 4000000 in
theorem add_any (v : Value) (ls : List Str) (rv : Int) (s : Str) (w : World) (hv : Strs w v ls) (hb : ls.length ≤ 1000) :
    Calls Tryd.prog 19 #[.agg #[v, .int .i64 rv], .string (ba s)] w fun e w' => ∃ v', e = .returned (rowV v' rv) ∧ OwnS w' w.heap.size v' (sortS (ls ++ [s])) ∧ Below w.heap.size w w' := by
  obtain ⟨i0, hi, hz0, hz1, hz2⟩ := info_parts info_str
  have hb2 : Below w.heap.size w ((w.alloc (.cells #[v, .int .i64 rv] 25)).alloc (.cells #[.slice none 0 0, .int .i64 0] 25)) := ((Below.refl _ w).alloc (Nat.le_refl _) _).alloc (by simp) _
  have k0 := Lies.new' (w.alloc (.cells #[v, .int .i64 rv] 25)) 25 #[.slice none 0 0, .int .i64 0] (N := w.heap.size + 1) (by simp)
  have hsz2 : ((w.alloc (.cells #[v, .int .i64 rv] 25)).alloc (.cells #[.slice none 0 0, .int .i64 0] 25)).heap.size = w.heap.size + 2 := by simp
  have hc := copied_any v ls rv _ (hv.later hb2) hb
  rw [hsz2] at hc
  have HC := Lib.hid hc
  have HSZ := Lib.hid hsz2
  have HB := Lib.hid hb2
  have HK := Lib.hid k0
  clear hc k0 hb2 hsz2
  obtain ⟨A, c, rfl, _⟩ := hv.slice
  go_enter Tryd.func19, Tryd.ntmps19
  go_wp2_with fail
  refine HC.out.mono ?_
  rintro e w1 ⟨v1, rfl, ho1, hb1⟩
  have hB1 := HB.out.trans (hb1.mono (by omega))
  have k1 := HK.out.below hb1 (by omega)
  have hs1 : w.heap.size + 2 ≤ w1.heap.size := by have := hb1.size; rw [HSZ.out] at this; exact this
  obtain ⟨g, hg, hg1, hg2⟩ := ho1.block
  obtain ⟨g', cap, cur, rfl, hh⟩ := ho1
  have ho1 : OwnS w1 (w.heap.size + 2) (.slice (some ⟨g', 0, none⟩) ls.length cap) ls := ⟨g', cap, cur, rfl, hh⟩
  clear hh
  have hgg : g' = g := by simpa [Value.ownBlock] using hg
  subst hgg
  obtain ⟨w2, hw2⟩ : ∃ w2, w2 = w1.alloc (.cells #[.slice (some ⟨g', 0, none⟩) ls.length cap, .int .i64 rv] 25) := ⟨_, rfl⟩
  have hbn : Below w1.heap.size w1 w2 := by rw [hw2]; exact below_new w1 _
  have n2 : Lies w2 w1.heap.size 25 #[.slice (some ⟨g', 0, none⟩) ls.length cap, .int .i64 rv] := by rw [hw2]; exact Lies.new w1 _ _
  have hs2 : w2.heap.size = w1.heap.size + 1 := by rw [hw2]; simp
  have ho2 := (ho1.later hbn).own
  have k2 := k1.later hbn
  have hB2 := hB1.trans (hbn.mono (by omega))
  have HW2 := Lib.hid hw2
  have c0 := n2.cell 0
  have c1 := n2.cell 1
  unfold rowV
  have HB2 := Lib.hid hB2
  have hone : ∀ u ∈ [Value.string (ba s)], u.oneCell' = true := by simp [Value.oneCell']
  have HS2 := Lib.hid hs2
  clear hw2 hB1 ho1 hs2
  go_wp2_with (first | (at_builtin; rw [← HW2.out]; go_loud (refine wpList_append_own_at _ rfl (.tmp 9) (.tmp 11) 23 rfl (w.heap.size + 2) 9 i0 (.string ⟨#[]⟩) 1 16 Tryd.underlying23 hi hz0 hz1 hz2 rfl (by decide) _ ls.length (ls.map encStr) rfl (own_later ho2 (below_new w2 (.cells #[.string (ba s)] 9))) ⟨w1.heap.size + 1, 0, none⟩ 1 1 [.string (ba s)] rfl rfl (new_cells _ _ _ HS2.out) hone (by unfold maxLen; omega) (by omega) (by rw [World.size_alloc, HS2.out]; omega) ?_)))
  intro v' w3 hown3 hgr _ _
  obtain ⟨A3, m3, q3, rfl⟩ := own_slice hown3
  have hgB : ∀ k, Value.ownBlock (.slice (some ⟨g', 0, none⟩) ls.length cap) = some k → w.heap.size + 2 ≤ k ∧ k < w1.heap.size := fun k e => by
    have : g' = k := by simpa [Value.ownBlock] using e
    omega
  have n3 := (n2.alloc (.cells #[.string (ba s)] 9)).grown hgr (fun e => by have := hgB _ e.symm; omega)
  have k3 := (k2.alloc (.cells #[.string (ba s)] 9)).grown hgr (fun e => by have := hgB _ e.symm; omega)
  have d0 := n3.cell 0
  have d1 := n3.cell 1
  have g0 := n3.free 0
  have hB3 : Below w.heap.size w w3 := (HB2.out.trans ((below_new w2 _).mono (by rw [HS2.out]; omega))).grown hgr (by rw [World.size_alloc, HS2.out]; omega) (fun k e => by have := hgB _ e; omega)
  have HB3 := Lib.hid hB3
  have hown4 : OwnS w3 (w.heap.size + 2) (.slice A3 m3 q3) (ls ++ [s]) := by
    refine OwnS.of (n := ls.length + 1) ?_ (by simp) ?_
    · rw [List.map_append]; exact hown3
    · rcases hown3.2 with ⟨_, h0⟩ | ⟨_, _, _, h0, _⟩
      · omega
      · rw [h0]; simp
  have hown5 : OwnS (w3.setCell ⟨w1.heap.size, 0, none⟩ (.slice A3 m3 q3)) (w.heap.size + 2) (.slice A3 m3 q3) (ls ++ [s]) := by
    obtain ⟨g5, cap5, cur5, h1, h2, h3, h4⟩ := hown4
    refine ⟨g5, cap5, cur5, h1, h2, (Below.heap_setCell _ _ _ _ ?_).trans h3, h4⟩
    show g5 ≠ w1.heap.size
    rintro rfl
    have e1 : Lies w3 w1.heap.size 9 cur5 := h3
    unfold Lies at e1 n3
    rw [n3] at e1
    injection e1 with e1
    injection e1 with _ e1
    exact absurd e1 (by decide)
  have hso := sort_any _ _ _ _ hown5 (by simp; omega)
  obtain ⟨g6, hg6, hg61, _⟩ := hown5.block
  rw [hg6] at hso
  have HSO := Lib.hid hso
  have hne6 : g6 ≠ w1.heap.size := by
    rintro rfl
    obtain ⟨g5, cap5, cur5, h1, h2, h3, h4⟩ := hown5
    rw [h1] at hg6
    have h5 : g5 = w1.heap.size := by simpa [Value.ownBlock] using hg6
    subst h5
    have e1 : (w3.setCell ⟨w1.heap.size, 0, none⟩ (.slice A3 m3 q3)).heap[w1.heap.size]? = some (.cells cur5 9 (0, 0)) := h3
    have e2 := n3.set 0 (.slice A3 m3 q3)
    unfold Lies at e2
    rw [e2] at e1
    injection e1 with e1
    injection e1 with _ e1
    exact absurd e1 (by decide)
  clear hso hown3 hown4 hown5 hgr HC
  go_wp2_with fail
  refine HSO.out.mono ?_
  rintro e w4 ⟨rfl, ho5, hgr2⟩
  have n5 := (n3.set 0 (.slice A3 m3 q3)).grown hgr2 (fun e => by injection e with e; omega)
  have k5 := (k3.far (p := ⟨w1.heap.size, 0, none⟩) (by show w.heap.size + 1 ≠ w1.heap.size; omega) (.slice A3 m3 q3)).grown hgr2 (fun e => by injection e with e; omega)
  have x0 := n5.cell 0
  have x1 := n5.cell 1
  have y0 := k5.cell 0
  have y1 := k5.cell 1
  have z0 := k5.free 0
  have z1 := k5.free 1
  have hBs : Below w.heap.size w (w3.setCell ⟨w1.heap.size, 0, none⟩ (.slice A3 m3 q3)) := HB3.out.trans ⟨rfl, rfl, rfl, by simp [World.setCell], fun g hg => by rw [Below.heap_setCell _ _ _ _ (by show g ≠ w1.heap.size; omega)]⟩
  have hBg : Below w.heap.size w w4 := hBs.grown hgr2 (by have := hBs.size; omega) (fun k e => by injection e with e; omega)
  go_wp2_with fail
  have k6 := (k5.set 0 (.slice A3 m3 q3)).set 1 (.int .i64 rv)
  refine bodyPost_ret (v := rowV (.slice A3 m3 q3) rv) (results_cell_row rfl _ _ (w.heap.size + 1) 25 _ (0, 0) _ rfl k6 Tryd.underlying25 rfl sz_row) rfl ⟨_, rfl, ?_, ?_⟩
  · refine OwnS.mono (OwnS.keep ho5 fun g hg _ => ?_) (by omega)
    rw [Below.heap_setCell _ _ _ _ (by show g ≠ w.heap.size + 1; omega), Below.heap_setCell _ _ _ _ (by show g ≠ w.heap.size + 1; omega)]
  · exact hBg.trans ⟨rfl, rfl, rfl, by simp [World.setCell], fun g hg => by rw [Below.heap_setCell _ _ _ _ (by show g ≠ w.heap.size + 1; omega), Below.heap_setCell _ _ _ _ (by show g ≠ w.heap.size + 1; omega)]⟩
end Go.Proofs.YtjeolmcjhpkcbaaDoor
