/- Contracts on rows: RightRow, SameRow, and rows with labels of their own: copied, Sorted, Add, Less. -/
import Derived.Test.YtjeolmcjhpkcbaaDoorTyR
import Derived.Laws.CopyOwn
import Derived.Sort.OwnSorted
import Derived.OwnWalk
import Derived.Outline
namespace Go.Proofs.YtjeolmcjhpkcbaaDoor
open Go.RowKit Go.Shelf Go.Sort

theorem Strs.some {w : World} {v : Value} {ls : List Str} (h : Strs w v ls) (h0 : ls ≠ []) : ∃ g o c, v = .slice (some ⟨g, o, none⟩) ls.length c ∧ ls.length ≤ c ∧ c ≤ maxLen ∧ ∀ (i : Nat) s, ls[i]? = some s → w.cell? ⟨g, o + i, none⟩ = some (.string (ba s)) := by
  obtain ⟨A, c, h1, h2, h3, h4⟩ := h
  obtain ⟨g, o, rfl, h5⟩ := h4 (List.length_pos_iff.2 h0)
  exact ⟨g, o, c, h1, h2, h3, h5⟩
theorem strs_cells {w : World} {g o : Nat} {ls : List Str} (h : ∀ (i : Nat) s, ls[i]? = some s → w.cell? ⟨g, o + i, none⟩ = some (.string (ba s))) : ∀ j, j < (ls.map ba).length → w.cell? ⟨g, o + j, none⟩ = some (.string ((ls.map ba).getD j ByteArray.empty)) := by
  intro j hj
  have hj' : j < ls.length := by simpa using hj
  rw [h j _ (List.getElem?_eq_getElem hj')]
  simp [List.getD_eq_getElem?_getD, hj']
theorem mem_ba {ls : List Str} {s : Str} : ba s ∈ ls.map ba ↔ s ∈ ls := by
  simp only [List.mem_map]
  constructor
  · rintro ⟨a, ha, he⟩
    rw [ba_eq] at he
    exact he ▸ ha
  · exact fun h => ⟨s, h, rfl⟩
theorem map_ba_eq (a b : List Str) : (a.map ba = b.map ba) = (a = b) := by
  apply propext
  refine ⟨fun h => ?_, fun h => by rw [h]⟩
  have := congrArg (List.map fun x : ByteArray => x.data.toList) h
  simpa [Function.comp_def, ba_list] using this
theorem contains_any (v : Value) (ls : List Str) (s : Str) (w : World) (hv : Strs w v ls) (hb : ls.length ≤ 9223372036854775807) :
    Calls Tryd.prog 40 #[v, .string (ba s)] w fun e w' => e = .returned (.bool (ls.contains s)) ∧ w' = w := by
  by_cases h0 : ls = []
  · subst h0
    obtain ⟨A, c, rfl, _⟩ := hv.slice
    exact Any.slices_Contains_string_empty Tryd.lays110 A c (ba s) w
  · obtain ⟨g, o, c, rfl, _, _, hc⟩ := hv.some h0
    refine (Any.slices_Contains_string Tryd.lays110 g o ls.length c (ls.map ba) (ba s) w (by simp) (by omega) (strs_cells hc)).mono ?_
    rintro e w' ⟨rfl, rfl⟩
    refine ⟨ret_bool ?_, rfl⟩
    rw [Bool.eq_iff_iff, Lib.containsS_iff, List.take_of_length_le (by simp), mem_ba, List.contains_iff_mem]
theorem equal_any (v u : Value) (ls ms : List Str) (w : World) (hv : Strs w v ls) (hu : Strs w u ms) (hb : ls.length ≤ 9223372036854775807) (hb2 : ms.length ≤ 9223372036854775807) :
    Calls Tryd.prog 45 #[v, u] w fun e w' => e = .returned (.bool (decide (ls = ms))) ∧ Below w.heap.size w w' := by
  by_cases hl : ls.length = ms.length
  · by_cases h0 : ls = []
    · subst h0
      have hm : ms = [] := List.eq_nil_of_length_eq_zero hl.symm
      subst hm
      obtain ⟨A, c, rfl, _⟩ := hv.slice
      obtain ⟨A2, c2, rfl, _⟩ := hu.slice
      refine (Any.slices_Equal_string_empty Tryd.lays193 A A2 c 0 c2 w (by omega)).mono ?_
      rintro e w' ⟨rfl, rfl⟩
      exact ⟨ret_bool (by simp), Below.refl _ _⟩
    · have hm0 : ms ≠ [] := by intro h; subst h; exact h0 (List.eq_nil_of_length_eq_zero hl)
      obtain ⟨g, o, c, rfl, _, _, hc⟩ := hv.some h0
      obtain ⟨g2, o2, c2, rfl, _, _, hc2⟩ := hu.some hm0
      refine (Any.slices_Equal_string Tryd.lays193 g o ls.length c g2 o2 ms.length c2 (ls.map ba) (ms.map ba) w (by simp) (by simp) (by omega) (by omega) (strs_cells hc) (strs_cells hc2)).mono ?_
      rintro e w' ⟨rfl, q, rfl⟩
      refine ⟨ret_bool ?_, below_drewN _ _⟩
      rw [List.take_of_length_le (by simp), List.take_of_length_le (by simp)]
      simp only [map_ba_eq]
  · obtain ⟨A, c, rfl, _⟩ := hv.slice
    obtain ⟨A2, c2, rfl, _⟩ := hu.slice
    refine (Any.slices_Equal_string_lens Tryd.lays193 A A2 _ c _ c2 w hl).mono ?_
    rintro e w' ⟨rfl, rfl⟩
    exact ⟨ret_bool (by rw [eq_comm, decide_eq_false_iff_not]; intro h; exact hl (by rw [h])), Below.refl _ _⟩

def rowV (v : Value) (rv : Int) : Value := .agg #[v, .int .i64 rv]
set_option maxRecDepth 100000 in
set_option maxHeartbeats 2000000 in
theorem rightRow_any (v : Value) (ls : List Str) (rv : Int) (w : World) (hv : Strs w v ls) (hb : ls.length ≤ 9223372036854775807) :
    Calls Tryd.prog 18 #[.agg #[v, .int .i64 rv]] w fun e w' => e = .returned (.bool (rowOk ls rv)) ∧ Below w.heap.size w w' := by
  have hb0 := below_new w (.cells #[v, .int .i64 rv] 25)
  have hv0 := hv.later hb0
  have hs := isSorted_any v ls _ hv0 hb
  have HS := Lib.hid hs
  have HV := Lib.hid hv0
  have hsz := hb0.size
  clear hs
  obtain ⟨A, c, rfl, _⟩ := hv.slice
  unfold rowOk
  by_cases hr : 0 ≤ rv
  · rw [decide_eq_true hr]
    go_enter Tryd.func18, Tryd.ntmps18
    go_wp2_with fail
    refine HS.out.mono ?_
    rintro e w1 ⟨rfl, hb1⟩
    have l1 := (Lies.new w 25 #[.slice A ls.length c, .int .i64 rv]).later hb1
    have c0 := l1.cell 0
    have c1 := l1.cell 1
    have hv1 := HV.out.later hb1
    have hB1 := hb0.trans (hb1.mono hsz)
    cases hri : rising ls
    · go_wp2
      go_ret
      exact ⟨ret_bool (by simp [hri]), hB1⟩
    · have hc := contains_any _ ls [] w1 hv1 hb
      have HC := Lib.hid hc
      unfold ba at HC
      clear hc
      go_wp2_with fail
      refine HC.out.mono ?_
      rintro e w2 ⟨rfl, rfl⟩
      go_wp2
      go_ret
      exact ⟨ret_bool (by simp [hri]), hB1⟩
  · rw [decide_eq_false hr]
    go_enter Tryd.func18, Tryd.ntmps18
    go_wp2
    go_ret
    exact ⟨ret_bool (by simp), hb0⟩
set_option maxRecDepth 100000 in
set_option maxHeartbeats 2000000 in
theorem sameRow_any (v u : Value) (ls ms : List Str) (rv ru : Int) (w : World) (hv : Strs w v ls) (hu : Strs w u ms) (hb : ls.length ≤ 9223372036854775807) (hb2 : ms.length ≤ 9223372036854775807) :
    Calls Tryd.prog 21 #[.agg #[v, .int .i64 rv], .agg #[u, .int .i64 ru]] w fun e w' => e = .returned (.bool (decide (rv = ru ∧ ls = ms))) ∧ Below w.heap.size w w' := by
  have hb0 := below_new w (.cells #[v, .int .i64 rv] 25)
  have hb1 := hb0.trans ((below_new (w.alloc (.cells #[v, .int .i64 rv] 25)) (.cells #[u, .int .i64 ru] 25)).mono hb0.size)
  have hs := equal_any v u ls ms _ (hv.later hb1) (hu.later hb1) hb hb2
  have HS := Lib.hid hs
  have hsz := hb1.size
  clear hs
  obtain ⟨A, c, rfl, _⟩ := hv.slice
  obtain ⟨A2, c2, rfl, _⟩ := hu.slice
  by_cases hr : rv = ru
  · subst hr
    go_enter Tryd.func21, Tryd.ntmps21
    go_wp2_with fail
    refine HS.out.mono ?_
    rintro e w1 ⟨rfl, hb2⟩
    go_wp2
    go_ret
    exact ⟨ret_bool (by simp), hb1.trans (hb2.mono hsz)⟩
  · go_enter Tryd.func21, Tryd.ntmps21
    go_wp2
    go_ret
    exact ⟨ret_bool (by simp [hr]), hb1⟩
end Go.Proofs.YtjeolmcjhpkcbaaDoor
