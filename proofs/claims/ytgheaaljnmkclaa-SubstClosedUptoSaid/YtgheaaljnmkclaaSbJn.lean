/- What is to be said comes in. -/
import Derived.Test.YtgheaaljnmkclaaSbIn
import Derived.Test.YtgheaaljnmkclaaSbS
namespace Go.Proofs.Ytgheaaljnmkclaa
open Go.ChangeShapes Go.WideShapes Go.ChangeAt Go.WideMaps Go.WideElems Go.RowKit

theorem cell10_say : Try.prog.cellsOf 61 = 10 := by kernel_rfl
theorem cell1_bool : Try.prog.cellsOf 4 = 1 := by kernel_rfl
set_option maxRecDepth 100000 in
theorem say_open {H : Type} {enc : TypeId × Value → H} {W : World} {fuel : Nat} {cs : List Value} {x : DataW H × List MemPlace} (h : DataW.trod enc Try.prog W 0 (fun _ => true) true fuel 61 cs = some x)
    (hb : Rows.uptoBulk x.1 ≤ 2000000) {a : Addr} (hr : ReadsAt W a cs) : ∃ s, SayAt W a s := by
  obtain ⟨y0, y1, y2, y3, n, rfl, hx, hl, h0, h1, h2, h3⟩ := trod4 Try.underlying61 h
  rw [hx] at hb
  clear hx h
  rw [cell10_say] at hl
  obtain ⟨c0, c1, c2, c3, c4, c5, c6, c7, c8, c9, rfl⟩ : ∃ c0 c1 c2 c3 c4 c5 c6 c7 c8 c9, cs = [c0, c1, c2, c3, c4, c5, c6, c7, c8, c9] := by
    match cs, hl with
    | [c0, c1, c2, c3, c4, c5, c6, c7, c8, c9], _ => exact ⟨c0, c1, c2, c3, c4, c5, c6, c7, c8, c9, rfl⟩
  simp only [cell1_int, cell1_bool, cell6_type, cell2_row, List.drop_zero, List.drop_succ_cons, List.take_succ_cons, List.take_zero] at h0 h1 h2 h3
  simp only [Rows.uptoBulk, Rows.uptoBulkAll] at hb
  obtain ⟨k, e0, _, w0⟩ := DataW.trod_int Try.underlying3 h0
  obtain ⟨b, e1, _⟩ := DataW.trod_bool Try.underlying4 h1
  obtain ⟨t, ht, hts⟩ := trV_open n _ _ h2 (by omega)
  obtain ⟨⟨ls, rv⟩, lv, e3, hst, w4⟩ := rwV_open h3 (by omega)
  simp only [List.cons.injEq, and_true] at e0 e1 e3
  obtain ⟨rfl, rfl⟩ := e3
  subst e0 e1
  exact ⟨⟨k, b, t, ls, rv⟩, _, c8, ht, hst, w4, w0, by show t.size ≤ _; omega, hr⟩
set_option maxRecDepth 100000 in
theorem says_open {H : Type} {enc : TypeId × Value → H} {W : World} {fuel : Nat} {cs : List Value} {x : DataW H × List MemPlace} (h : DataW.trod enc Try.prog W 0 (fun _ => true) true fuel 22 cs = some x)
    (hb : Rows.uptoBulk x.1 ≤ 2000000) : ∃ v xs, cs = [v] ∧ SayR W v xs ∧ xs.length ≤ 2000000 := by
  rcases DataW.trod_slice Try.underlying22 h with ⟨e3, rfl⟩ | ⟨a, len, cap, elems, rest, m, rfl, e3, rfl, _, hlc, hm, hel, hget, _, _⟩
  · exact ⟨_, [], e3, ⟨none, 0, rfl, Nat.le_refl _, fun j x hx => by simp at hx⟩, by simp⟩
  · simp only [Rows.uptoBulk] at hb
    rw [cell10_say] at hget
    have hbl := bulk_len (elems.map (·.1))
    rw [List.length_map] at hbl
    have key : ∀ (i : Nat) y, elems[i]? = some y → Rows.uptoBulk y.1 ≤ Rows.uptoBulkAll (elems.map (·.1)) → ∃ s : SayD, (a.spot = none ∧ SayAt W ⟨a.block, a.off + i * 10, none⟩ s) ∧ 0 ≤ Rows.uptoBulk y.1 := by
      intro i y hy hby
      have hi : i < len := by rw [← hel]; exact (List.getElem?_eq_some_iff.1 hy).1
      have hg := hget i hi
      rw [hy] at hg
      obtain ⟨cs', hc, ht⟩ := Option.bind_eq_some_iff.1 hg
      obtain ⟨_, hcl, hcc⟩ := World.cells?_some hc
      have hg0 := hget 0 (by omega)
      rw [List.getElem?_eq_getElem (by omega)] at hg0
      obtain ⟨cs0, hc0, _⟩ := Option.bind_eq_some_iff.1 hg0
      obtain ⟨_, hcl0, hcc0⟩ := World.cells?_some hc0
      have h7 := hcc0 0 (by omega)
      rw [List.getElem?_eq_getElem (by omega)] at h7
      have hsp : a.spot = none := by
        have := World.cell?_spot h7
        simpa [Addr.add] using this
      obtain ⟨s, h5⟩ := say_open (a := ⟨a.block, a.off + i * 10, none⟩) ht (by omega) (fun j u hu => by
        have hj : j < 10 := by rw [← hcl]; exact (List.getElem?_eq_some_iff.1 hu).1
        have h8 := hcc j hj
        rw [hu, Addr.add_add] at h8
        rw [← h8]
        congr 1
        obtain ⟨ab, ao, asp⟩ := a
        simp only at hsp
        subst hsp
        unfold Addr.add
        split
        · simp; omega
        · simp; omega)
      exact ⟨s, ⟨hsp, h5⟩, Nat.zero_le _⟩
    obtain ⟨ks, hkl, hkk, _⟩ := each_all (fun y : DataW H × List MemPlace => y.1) (fun _ : SayD => 0) elems (fun i s => a.spot = none ∧ SayAt W ⟨a.block, a.off + i * 10, none⟩ s) key
    refine ⟨_, ks, e3, ⟨some a, cap, by rw [hkl, hel], by rw [hkl, hel]; exact hlc, fun j s hs => ?_⟩, by omega⟩
    obtain ⟨hsp, h9⟩ := hkk j s hs
    obtain ⟨ab, ao, asp⟩ := a
    simp only at hsp
    subst hsp
    exact ⟨ab, ao, rfl, h9⟩
end Go.Proofs.Ytgheaaljnmkclaa
