/- Less: a row with a label less. -/
import Derived.Test.YtjeolmcjhpkcbaaDoorTyW
import Derived.Outline
namespace Go.Proofs.YtjeolmcjhpkcbaaDoor
open Go.RowKit Go.Shelf Go.Sort

theorem getD_ba (ls : List Str) (j : Nat) (hj : j < ls.length) : (ls.map ba).getD j ByteArray.empty = ba ls[j] := by
  simp [List.getD_eq_getElem?_getD, hj]
theorem idx_in (ls : List Str) (s : Str) (h : s ∈ ls) : Lib.idxOfS ((ls.map ba).take ls.length) (ba s) = ((ls.idxOf s : Nat) : Int) := by
  have hk : ls.idxOf s < ls.length := List.idxOf_lt_length_of_mem h
  refine Lib.idxOfS_hit _ _ _ _ hk (by simp) ?_ (fun j hj he => ?_)
  · rw [getD_ba _ _ hk, List.getElem_idxOf hk]
  · rw [getD_ba _ _ (by omega), ba_eq] at he
    have hj' : j < ls.findIdx (· == s) := hj
    have := List.not_of_lt_findIdx hj'
    simp [he] at this
theorem idx_out (ls : List Str) (s : Str) (h : s ∉ ls) : Lib.idxOfS ((ls.map ba).take ls.length) (ba s) = -1 := by
  refine Lib.idxOfS_miss _ _ _ fun j hj he => ?_
  rw [getD_ba _ _ hj, ba_eq] at he
  exact h (he ▸ List.getElem_mem _)
theorem index_any (v : Value) (ls : List Str) (s : Str) (w : World) (hv : Strs w v ls) (hb : ls.length ≤ 9223372036854775807) :
    Calls Tryd.prog 43 #[v, .string (ba s)] w fun e w' => e = .returned (.int .i64 (if s ∈ ls then ((ls.idxOf s : Nat) : Int) else -1)) ∧ w' = w := by
  by_cases h0 : ls = []
  · subst h0
    obtain ⟨A, c, rfl, _⟩ := hv.slice
    exact Any.slices_Index_string_empty Tryd.lays109 A c (ba s) w
  · obtain ⟨g, o, c, rfl, _, _, hc⟩ := hv.some h0
    refine (Any.slices_Index_string Tryd.lays109 g o ls.length c (ls.map ba) (ba s) w (by simp) (by omega) (strs_cells hc)).mono ?_
    rintro e w' ⟨rfl, rfl⟩
    refine ⟨ret_int ?_, rfl⟩
    by_cases hm : s ∈ ls
    · rw [if_pos hm, idx_in ls s hm]
    · rw [if_neg hm, idx_out ls s hm]
theorem delete_any (w : World) (B : Nat) (v : Value) (ls : List Str) (i : Nat) (h : OwnS w B v ls) (hi : i < ls.length) (hb : ls.length ≤ 100000) :
    Calls Tryd.prog 44 #[v, .int .i64 (i : Int), .int .i64 ((i : Int) + 1)] w fun e w' => ∃ v', e = .returned v' ∧ OwnS w' B v' (ls.eraseIdx i) ∧ v'.ownBlock = v.ownBlock ∧ w.grownBy w' v.ownBlock := by
  obtain ⟨g, cap, cur, rfl, h2, h3, h4, h5, h6, h7⟩ := h
  have h7' : cur.toList.take ls.length = ls.map encStr := by rw [Nat.mul_one] at h7; exact h7
  rw [show (i : Int) + 1 = ((i + 1 : Nat) : Int) by omega]
  refine (Any.slices_Delete_string Tryd.laysNm224 g 0 cap i (i + 1) ls w (holds_of_block h3 h7') h4 (by unfold maxLen at h5; omega) (by omega) (by omega)).mono ?_
  rintro e w' ⟨rfl, q, rfl⟩
  obtain ⟨ts, hts⟩ : ∃ ts, ts = ls.take i ++ ls.drop (i + 1) ++ List.replicate (i + 1 - i) [] := ⟨_, rfl⟩
  have hl : ts.length = ls.length := by rw [hts]; simp; omega
  have her : (ls.eraseIdx i).length = ls.length - (i + 1 - i) := by rw [List.length_eraseIdx_of_lt hi]; omega
  have htk : ts.take (ls.eraseIdx i).length = ls.eraseIdx i := by
    rw [hts, ← List.eraseIdx_eq_take_drop_succ, List.take_left']
    rfl
  rw [← hts]
  have hrow := ownsRow_sorted (os := #[]) (n := q) hl h2 h3 h4 h5 h6
  have hgr := grownBy_sorted (w := w) (g := g) (n := q) (os := #[]) ts.toArray
  rw [grow_empty] at hrow hgr
  refine ⟨_, rfl, ?_, rfl, hgr⟩
  rcases hrow.2 with ⟨h0, _⟩ | ⟨g', cap', cur', e1, e2, e3, e4, e5, e6, e7⟩
  · cases h0
  · injection e1 with e1 _ e12
    injection e1 with e1
    injection e1 with e1
    subst e1 e12
    refine ⟨g, cap, cur', by rw [her], e2, e3, by omega, e5, e6, ?_⟩
    rw [Nat.mul_one] at e7 ⊢
    have : cur'.toList.take (ls.eraseIdx i).length = (cur'.toList.take ls.length).take (ls.eraseIdx i).length := by rw [List.take_take, Nat.min_eq_left (by omega)]
    rw [this, e7, ← List.map_take, htk]
theorem results_row_tmp {P : Program} {fn : Func} {p u : Tmp} {ty : TypeId} (h : fn.results = #[.cell p ty, .tmp u]) (tmps : Array Value) (w : World) (g : Nat) (t : TypeId) (cs : Array Value) (fr : Nat × Nat) (d : TypeDesc)
    (hp : tmps.getD p undef = .pointer (some ⟨g, 0, none⟩)) (hg : w.heap[g]? = some (.cells cs t fr))
    (hu : P.underlying ty = some d) (hd : (match d with | .struct _ | .array _ _ => true | _ => false) = true) (hi : (P.info? ty).map (·.size) = some cs.size) :
    (results fn tmps).run P w = .ok (.tuple #[.agg cs, tmps.getD u undef]) w := by
  rw [results_cell_tmp h]
  have hp' : tmps[p]?.getD undef = .pointer (some ⟨g, 0, none⟩) := by simpa using hp
  simp [hp', asAddr, run_loadVar_row w g t ty cs fr d hg hu hd hi, Result.andThen]

def lessL (ls : List Str) (s : Str) : List Str := if s ∈ ls then ls.eraseIdx (ls.idxOf s) else ls
set_option maxRecDepth 100000 in
set_option maxHeartbeats 4000000 in
theorem lessRow_any (v : Value) (ls : List Str) (rv : Int) (s : Str) (w : World) (hv : Strs w v ls) (hb : ls.length ≤ 1000) :
    Calls Tryd.prog 20 #[.agg #[v, .int .i64 rv], .string (ba s)] w fun e w' => ∃ v', e = .returned (.tuple #[rowV v' rv, .bool (decide (s ∈ ls))]) ∧ OwnS w' w.heap.size v' (lessL ls s) ∧ Below w.heap.size w w' := by
  have hb2 : Below w.heap.size w ((w.alloc (.cells #[v, .int .i64 rv] 25)).alloc (.cells #[.slice none 0 0, .int .i64 0] 25)) := ((Below.refl _ w).alloc (Nat.le_refl _) _).alloc (by simp) _
  have k0 := Lies.new' (w.alloc (.cells #[v, .int .i64 rv] 25)) 25 #[.slice none 0 0, .int .i64 0] (N := w.heap.size + 1) (by simp)
  have hsz2 : ((w.alloc (.cells #[v, .int .i64 rv] 25)).alloc (.cells #[.slice none 0 0, .int .i64 0] 25)).heap.size = w.heap.size + 2 := by simp
  have hc := copied_any v ls rv _ (hv.later hb2) hb
  rw [hsz2] at hc
  have HC := Lib.hid hc
  have HSZ := Lib.hid hsz2
  have HB := Lib.hid hb2
  have HK := Lib.hid k0
  clear hc k0 hb2 hsz2
  obtain ⟨A, c, rfl, _⟩ := hv.slice
  go_enter Tryd.func20, Tryd.ntmps20
  go_wp2_with fail
  refine HC.out.mono ?_
  rintro e w1 ⟨v1, rfl, ho1, hb1⟩
  have hB1 := HB.out.trans (hb1.mono (by omega))
  have k1 := HK.out.below hb1 (by omega)
  have hs1 : w.heap.size + 2 ≤ w1.heap.size := by have := hb1.size; rw [HSZ.out] at this; exact this
  obtain ⟨w2, hw2⟩ : ∃ w2, w2 = w1.alloc (.cells #[v1, .int .i64 rv] 25) := ⟨_, rfl⟩
  have hbn : Below w1.heap.size w1 w2 := by rw [hw2]; exact below_new w1 _
  have n2 : Lies w2 w1.heap.size 25 #[v1, .int .i64 rv] := by rw [hw2]; exact Lies.new w1 _ _
  have ho2 := ho1.later hbn
  have k2 := k1.later hbn
  have hB2 := hB1.trans (hbn.mono (by omega))
  obtain ⟨g, hg, hg1, hg2⟩ := ho1.block
  have hix := index_any _ _ s _ ho2.strs (by omega)
  have HIX := Lib.hid hix
  have HO2 := Lib.hid ho2
  have HW2 := Lib.hid hw2
  have HB2 := Lib.hid hB2
  obtain ⟨A1, m1, q1, rfl⟩ := ho1.slice
  have x0 := n2.cell 0
  have x1 := n2.cell 1
  have y0 := k2.cell 0
  have y1 := k2.cell 1
  have z0 := k2.free 0
  have z1 := k2.free 1
  unfold rowV
  clear hix hw2 ho1 HC ho2
  by_cases hm : s ∈ ls
  · rw [if_pos hm] at HIX
    have hkl : ls.idxOf s < ls.length := List.idxOf_lt_length_of_mem hm
    have hdec : decide (s ∈ ls) = true := decide_eq_true hm
    have hlL : lessL ls s = ls.eraseIdx (ls.idxOf s) := by unfold lessL; rw [if_pos hm]
    have hdl := delete_any w2 _ _ ls (ls.idxOf s) HO2.out hkl (by omega)
    have HDL := Lib.hid hdl
    generalize ls.idxOf s = k at *
    have hkb : k < 1000 := by omega
    have hk0 : ¬ (k : Int) < 0 := by omega
    clear hdl
    go_wp2_with fail
    rw [← HW2.out]
    refine HIX.out.mono ?_
    rintro e w2' ⟨rfl, rfl⟩
    go_wp2_with fail
    refine HDL.out.mono ?_
    rintro e w3 ⟨v3, rfl, ho3, hv3, hgr⟩
    rw [hg] at hgr hv3
    obtain ⟨A3, m3, q3, rfl⟩ := ho3.slice
    have n3 := n2.grown hgr (fun e => by injection e with e; omega)
    have k3 := k2.grown hgr (fun e => by injection e with e; omega)
    have a0 := n3.cell 0
    have a1 := n3.cell 1
    have b0 := n3.free 0
    have e0 := k3.cell 0
    have e1 := k3.cell 1
    have f0 := k3.free 0
    have f1 := k3.free 1
    have hB3 : Below w.heap.size w w3 := HB2.out.grown hgr (by have := HB2.out.size; omega) (fun k e => by injection e with e; omega)
    go_wp2_with fail
    have n4 := n3.set 0 (.slice A3 m3 q3)
    have k4 := ((k3.far (p := ⟨w1.heap.size, 0, none⟩) (by show w.heap.size + 1 ≠ w1.heap.size; omega) (.slice A3 m3 q3)).set 0 (.slice A3 m3 q3)).set 1 (.int .i64 rv)
    have hgp : g ≠ w1.heap.size := by omega
    refine bodyPost_ret (results_row_tmp rfl _ _ (w.heap.size + 1) 25 _ (0, 0) _ rfl k4 Tryd.underlying25 rfl sz_row) rfl ⟨.slice A3 m3 q3, by rw [hdec]; rfl, ?_, ?_⟩
    · rw [hlL]
      obtain ⟨g5, cap5, cur5, h1, h2, h3, h4⟩ := ho3
      have h5 : g5 = g := by rw [h1] at hv3; simpa [Value.ownBlock] using hv3
      refine ⟨g5, cap5, cur5, h1, by omega, ?_, h4⟩
      unfold Lies
      rw [Below.heap_setCell _ _ _ _ (by show g5 ≠ w.heap.size + 1; omega), Below.heap_setCell _ _ _ _ (by show g5 ≠ w.heap.size + 1; omega), Below.heap_setCell _ _ _ _ (by show g5 ≠ w1.heap.size; omega)]
      exact h3
    · exact hB3.trans ⟨rfl, rfl, rfl, by simp [World.setCell], fun g hg => by rw [Below.heap_setCell _ _ _ _ (by show g ≠ w.heap.size + 1; omega), Below.heap_setCell _ _ _ _ (by show g ≠ w.heap.size + 1; omega), Below.heap_setCell _ _ _ _ (by show g ≠ w1.heap.size; omega)]⟩
  · rw [if_neg hm] at HIX
    have hdec : decide (s ∈ ls) = false := decide_eq_false hm
    have hlL : lessL ls s = ls := by unfold lessL; rw [if_neg hm]
    go_wp2_with fail
    rw [← HW2.out]
    refine HIX.out.mono ?_
    rintro e w2' ⟨rfl, rfl⟩
    go_wp2_with fail
    have k4 := (k2.set 0 (.slice A1 m1 q1)).set 1 (.int .i64 rv)
    refine bodyPost_ret (results_row_tmp rfl _ _ (w.heap.size + 1) 25 _ (0, 0) _ rfl k4 Tryd.underlying25 rfl sz_row) rfl ⟨.slice A1 m1 q1, by rw [hdec]; rfl, ?_, ?_⟩
    · rw [hlL]
      refine OwnS.mono (OwnS.keep HO2.out fun g hg _ => ?_) (by omega)
      rw [Below.heap_setCell _ _ _ _ (by show g ≠ w.heap.size + 1; omega), Below.heap_setCell _ _ _ _ (by show g ≠ w.heap.size + 1; omega)]
    · exact HB2.out.trans ⟨rfl, rfl, rfl, by simp [World.setCell], fun g hg => by rw [Below.heap_setCell _ _ _ _ (by show g ≠ w.heap.size + 1; omega), Below.heap_setCell _ _ _ _ (by show g ≠ w.heap.size + 1; omega)]⟩
end Go.Proofs.YtjeolmcjhpkcbaaDoor
