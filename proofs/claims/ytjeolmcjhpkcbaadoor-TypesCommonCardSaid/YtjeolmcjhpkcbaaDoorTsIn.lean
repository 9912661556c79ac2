/- Labels and rows that come in. -/
import Derived.Test.YtjeolmcjhpkcbaaDoorGoodT
import Derived.Test.YtjeolmcjhpkcbaaDoorTsB
import Derived.SliceStrings
import Derived.ChangeSame
import Derived.Outline
namespace Go.Proofs.YtjeolmcjhpkcbaaDoor
open Go.ChangeShapes Go.WideShapes Go.ChangeAt Go.WideMaps Go.WideElems Go.RowKit

theorem cells9 : Tryd.prog.cellsOf 9 = 1 := by kernel_rfl
theorem cells23 : Tryd.prog.cellsOf 23 = 1 := by kernel_rfl
theorem cells3 : Tryd.prog.cellsOf 3 = 1 := by kernel_rfl
theorem cells25 : Tryd.prog.cellsOf 25 = 2 := by kernel_rfl
set_option maxRecDepth 100000 in
/-- Cells that read as a slice of strings are one. -/
theorem strs_open {H : Type} {enc : TypeId × Value → H} {W : World} {fuel : Nat} {cs : List Value} {x : DataW H × List MemPlace} (h : DataW.trod enc Tryd.prog W 0 (fun _ => true) true fuel 23 cs = some x) :
    ∃ v ls, cs = [v] ∧ Strs W v ls ∧ Fm v := by
  rcases open_strings Tryd.underlying23 Tryd.underlying9 cells9 h with ⟨hcs, _⟩ | ⟨a, len, cap, ss, hcs, _, hl, hm, hz, _, hcell, hss⟩
  · exact ⟨_, [], hcs, Strs.nil W, .inl rfl⟩
  · simp only [if_true] at hz
    have hlen : ((ss.take len).map fun s => s.data.toList).length = len := by rw [List.length_map, List.length_take]; omega
    refine ⟨_, (ss.take len).map fun s => s.data.toList, hcs, ⟨some a, cap, by rw [hlen], by rw [hlen]; exact hl, hm, fun h0 => ?_⟩, .inr ⟨_, _, _, rfl⟩⟩
    rw [hlen] at h0
    have hc0 := hcell 0 (by omega)
    rw [show a.add 0 = a from rfl] at hc0
    have hsp := World.cell?_spot hc0
    obtain ⟨g, o, sp⟩ := a
    obtain rfl : sp = none := hsp
    refine ⟨g, o, rfl, fun i s hi => ?_⟩
    obtain ⟨hi1, hi2⟩ := List.getElem?_eq_some_iff.1 hi
    rw [hlen] at hi1
    have hi3 : i < ss.length := by omega
    have h5 := hcell i hi3
    rw [Addr.add0] at h5
    rw [h5, ← hi2, List.getElem_map, List.getElem_take, ← ba_of]
    simp [hi3]
set_option maxRecDepth 100000 in
/-- A slice of strings that came in. -/
theorem strs_of {H : Type} {enc : TypeId × Value → H} {W : World} {base : Nat} {v : Value} {d : DataW H} {p : List MemPlace}
    (hv : Value.okWide Tryd.prog W .any base 23 v) (h : DataW.Trod enc Tryd.prog W 0 (fun _ => true) true 23 v d p) : ∃ ls, Strs W v ls ∧ Fm v := by
  obtain ⟨a0, len, cap, rfl⟩ := okWide_slice Tryd.underlying23 hv
  obtain ⟨fuel, hf⟩ := h
  obtain ⟨v, ls, h1, h2, h3⟩ := strs_open hf
  simp only [Value.cells, List.cons.injEq, and_true] at h1
  exact ⟨ls, by rw [h1]; exact h2, by rw [h1]; exact h3⟩
set_option maxRecDepth 100000 in
/-- A row that came in. -/
theorem row_of {H : Type} {enc : TypeId × Value → H} {W : World} {base : Nat} {v : Value} {d : DataW H} {p : List MemPlace}
    (hv : Value.okWide Tryd.prog W .any base 25 v) (h : DataW.Trod enc Tryd.prog W 0 (fun _ => true) true 25 v d p) : ∃ u ls rv, v = .agg #[u, .int .i64 rv] ∧ Strs W u ls ∧ Fm u := by
  obtain ⟨cs, rfl, hsz⟩ := okWide_struct Tryd.underlying25 hv
  obtain ⟨fuel, hf⟩ := h
  rw [cells25] at hsz
  obtain ⟨y0, y1, n, _, _, h0, h1⟩ := trod_struct2 Tryd.underlying25 hf
  obtain ⟨c0, c1, hcs⟩ : ∃ c0 c1, cs = #[c0, c1] := by
    obtain ⟨l⟩ := cs
    match l, hsz with
    | [c0, c1], _ => exact ⟨c0, c1, rfl⟩
  subst hcs
  rw [cells23] at h0
  rw [cells3] at h1
  obtain ⟨u, ls, e0, h2, h3⟩ := strs_open h0
  obtain ⟨rv, e1, _⟩ := DataW.trod_int Tryd.underlying3 h1
  simp only [Value.cells, List.drop_zero, List.take_succ_cons, List.take_zero, List.cons.injEq, and_true] at e0
  refine ⟨u, ls, rv, ?_, h2, h3⟩
  have e2 : c1 = .int .i64 rv := by simpa [Value.cells] using e1
  rw [e0, e2]
set_option maxRecDepth 100000 in
theorem str_of {H : Type} {enc : TypeId × Value → H} {W : World} {base : Nat} {v : Value} {d : DataW H} {p : List MemPlace}
    (hv : Value.okWide Tryd.prog W .any base 9 v) (h : DataW.Trod enc Tryd.prog W 0 (fun _ => true) true 9 v d p) : ∃ s : Str, v = .string (ba s) := by
  obtain ⟨s, rfl⟩ := okWide_string Tryd.underlying9 hv
  exact ⟨s.data.toList, by rw [← ba_of]⟩
end Go.Proofs.YtjeolmcjhpkcbaaDoor
