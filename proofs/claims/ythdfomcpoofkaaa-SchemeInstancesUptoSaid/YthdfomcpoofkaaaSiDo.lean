/- What comes in, with how long its lists of labels are. -/
import Derived.Test.YthdfomcpoofkaaaMg48
import Derived.Test.YthdfomcpoofkaaaMg33
import Derived.ProofKit
import Derived.ChangeSame
import Derived.SliceStrings
import Derived.OpenShut
import Derived.Outline
namespace Go.Proofs.Ythdfomcpoofkaaa.Si
open Go.ChangeShapes Go.WideShapes Go.ChangeAt Go.WideMaps Go.WideElems Go.RowKit

theorem strL_open {H : Type} {enc : TypeId × Value → H} {W : World} {fuel : Nat} {cs : List Value} {x : DataW H × List MemPlace} (h : DataW.trod enc Try.prog W 0 (fun _ => true) true fuel 24 cs = some x)
    (hb : Rows.uptoBulk x.1 ≤ 2000000) : ∃ v ls, cs = [v] ∧ StrR W v ls ∧ ls.length ≤ Rows.uptoBulk x.1 := by
  rcases open_strings Try.underlying24 Try.underlying9 cell1_string h with ⟨hcs, _⟩ | ⟨a, len, cap, ss, hcs, _, hl, hm, hz, rfl, hcell, hss⟩
  · exact ⟨_, [], hcs, ⟨.inl ⟨rfl, rfl⟩, by simp⟩, by simp⟩
  · simp only [if_true] at hz
    have hlen : (ss.take len).length = len := by rw [List.length_take]; omega
    have hbl := bulk_len (strs (H := H) (ss.take len))
    have hbs := bulk_slice (strs (H := H) (ss.take len)) (strs (ss.drop len))
    have hsl : (strs (H := H) (ss.take len)).length = len := by unfold strs; rw [List.length_map, hlen]
    have hll : (((ss.take len).map fun s => s.data.toList).map encS).length = len := by rw [List.length_map, List.length_map, hlen]
    refine ⟨_, (ss.take len).map fun s => s.data.toList, hcs, ⟨.inr ⟨a, cap, by rw [hll], by rw [hll]; exact hl, fun j q hq => ?_⟩, by rw [List.length_map, hlen]; simp only at hb; omega⟩, by rw [List.length_map, hlen]; simp only; omega⟩
    have hj := (List.getElem?_eq_some_iff.1 hq).1
    rw [hll] at hj
    rw [hcell j (by omega), ← hq]
    simp [hj, encS, List.getD, show j < ss.length by omega, ← ba_of]
set_option maxRecDepth 100000 in
theorem rwL_open {H : Type} {enc : TypeId × Value → H} {W : World} {fuel : Nat} {cs : List Value} {x : DataW H × List MemPlace} (h : DataW.trod enc Try.prog W 0 (fun _ => true) true fuel 26 cs = some x)
    (hb : Rows.uptoBulk x.1 ≤ 2000000) : ∃ r, RwV W r cs ∧ r.1.length ≤ Rows.uptoBulk x.1 := by
  obtain ⟨y0, y1, n, rfl, hl, h0, h1⟩ := trod_struct2 Try.underlying26 h
  rw [cell2_row] at hl
  obtain ⟨c0, c1, rfl⟩ : ∃ c0 c1, cs = [c0, c1] := by
    match cs, hl with
    | [c0, c1], _ => exact ⟨c0, c1, rfl⟩
  rw [cell1_strs] at h0
  rw [cell1_int] at h1
  simp only [Rows.uptoBulk, Rows.uptoBulkAll] at hb
  obtain ⟨v, ls, e0, h2, h2l⟩ := strL_open h0 (by omega)
  obtain ⟨rv, e1, _, h3⟩ := DataW.trod_int Try.underlying3 h1
  simp only [List.drop_zero, List.take_succ_cons, List.take_zero, List.cons.injEq, and_true] at e0
  have e2 : c1 = .int .i64 rv := by simpa using e1
  exact ⟨(ls, rv), ⟨v, by rw [e0, e2], h2, h3⟩, by simp only [Rows.uptoBulk, Rows.uptoBulkAll]; omega⟩
set_option maxRecDepth 100000 in
theorem twL_open {H : Type} {enc : TypeId × Value → H} {W : World} (M : Nat) (hM : M ≤ 2000000) : ∀ (fuel : Nat) (cs : List Value) (x : DataW H × List MemPlace), DataW.trod enc Try.prog W 0 (fun _ => true) true fuel 28 cs = some x →
    Rows.uptoBulk x.1 ≤ M → W.noneFrozen x.2 → ∃ t, TRV W t cs ∧ TWV W t cs ∧ labs M t ∧ t.size ≤ Rows.uptoBulk x.1 := by
  intro fuel
  induction fuel using Nat.strongRecOn with
  | _ fuel ih =>
  intro cs x h hb hfz
  obtain ⟨y0, y1, y2, y3, y4, n, rfl, hx, hl, h0, h1, h2, h3, h4, hpl⟩ := trod5w Try.underlying28 h
  have hf3 : W.noneFrozen y3.2 := fun b off hm => hfz b off (hpl _ hm)
  rw [hx] at hb ⊢
  clear hx h hpl hfz
  rw [cell6_type] at hl
  obtain ⟨c0, c1, c2, c3, c4, c5, rfl⟩ : ∃ c0 c1 c2 c3 c4 c5, cs = [c0, c1, c2, c3, c4, c5] := by
    match cs, hl with
    | [c0, c1, c2, c3, c4, c5], _ => exact ⟨c0, c1, c2, c3, c4, c5, rfl⟩
  simp only [cell1_int, cell1_string, cell1_kids, cell2_row, List.drop_zero, List.drop_succ_cons, List.take_succ_cons, List.take_zero] at h0 h1 h2 h3 h4
  obtain ⟨k, e0, _, w0⟩ := DataW.trod_int Try.underlying3 h0
  obtain ⟨nm, e1, _, _⟩ := DataW.trod_string Try.underlying9 h1
  obtain ⟨v, e2, _, w2⟩ := DataW.trod_int Try.underlying3 h2
  simp only [Rows.uptoBulk, Rows.uptoBulkAll] at hb ⊢
  obtain ⟨⟨ls, rv⟩, hrw, hlb⟩ := rwL_open h4 (by omega)
  simp only at hlb
  obtain ⟨lv, e4, hst, w4⟩ := hrw
  obtain ⟨lA, lN, lC, rfl⟩ : ∃ A n c, lv = .slice A n c := by rcases hst.1 with ⟨rfl, _⟩ | ⟨_, _, rfl, _⟩ <;> exact ⟨_, _, _, rfl⟩
  simp only [List.cons.injEq, and_true] at e0 e1 e2 e4
  obtain ⟨rfl, rfl⟩ := e4
  subst e0 e1 e2
  have hnm : nm = ba nm.data.toList := ba_of nm
  rcases DataW.trod_slice Try.underlying23 h3 with ⟨e3, rfl⟩ | ⟨a, len, cap, elems, rest, m, rfl, e3, rfl, _, hlc, hm, hel, hget, _, _⟩
  · simp only [List.cons.injEq, and_true] at e3
    subst e3
    refine ⟨.mk k nm.data.toList v [] ls rv, ⟨.slice none 0 0, _, by unfold tyC; rw [← hnm], .inl ⟨rfl, rfl⟩, hst, ⟨w0, w2, w4⟩, fun i t ht => by simp at ht⟩, ⟨.slice none 0 0, lA, lN, lC, by unfold tyC; rw [← hnm], .inl ⟨rfl, rfl⟩, ⟨w0, w2, w4⟩, fun i t ht => by simp at ht⟩, ⟨by omega, trivial⟩, ?_⟩
    simp only [Ty.size, Ty.sizeL]
    omega
  · simp only [List.cons.injEq, and_true] at e3
    subst e3
    simp only [Rows.uptoBulk] at hb
    rw [cell6_type] at hget
    have key : ∀ (i : Nat) y, elems[i]? = some y → Rows.uptoBulk y.1 ≤ Rows.uptoBulkAll (elems.map (·.1)) → ∃ t, (TR W ⟨a.block, a.off + i * 6, none⟩ t ∧ TW W ⟨a.block, a.off + i * 6, none⟩ t ∧ labs M t) ∧ t.size ≤ Rows.uptoBulk y.1 := by
      intro i y hy hby
      have hi : i < len := by rw [← hel]; exact (List.getElem?_eq_some_iff.1 hy).1
      have hg := hget i hi
      rw [hy] at hg
      obtain ⟨cs', hc, ht⟩ := Option.bind_eq_some_iff.1 hg
      obtain ⟨t, h5, h5w, h5l, h6⟩ := ih m (by omega) cs' y ht (by omega) (fun b off hm => hf3 b off (List.mem_append_right _ (List.mem_flatMap.2 ⟨y, List.mem_append_left _ (List.mem_of_getElem? hy), hm⟩)))
      obtain ⟨_, hcl, hcc⟩ := World.cells?_some hc
      have hrd : ReadsAt W ⟨a.block, a.off + i * 6, none⟩ cs' := fun j u hu => by
        have hj : j < 6 := by rw [← hcl]; exact (List.getElem?_eq_some_iff.1 hu).1
        have h7 := hcc j hj
        rw [hu, Addr.add_add] at h7
        have hsp := World.cell?_spot h7
        rw [← h7]
        congr 1
        unfold Addr.add at hsp ⊢
        split
        · rename_i h0
          rw [if_pos h0] at hsp
          obtain ⟨ab, ao, asp⟩ := a
          simp only at hsp
          subst hsp
          simp; omega
        · simp; omega
      have hfr : W.frozen? ⟨a.block, a.off + i * 6, none⟩ = false := hf3 _ _ (List.mem_append_left _ (List.mem_map.2 ⟨i * 6, List.mem_range.2 (by rw [cell6_type]; omega), rfl⟩))
      have hc0 := hrd 0 (cs'[0]'(by omega)) (List.getElem?_eq_getElem (by omega))
      exact ⟨t, ⟨h5.at_ rfl hrd, h5w.atW rfl (atC_of hc0 hfr) hrd, h5l⟩, h6⟩
    obtain ⟨ks, hkl, hkk, hks⟩ := each_all (fun y : DataW H × List MemPlace => y.1) Ty.size elems (fun i t => TR W ⟨a.block, a.off + i * 6, none⟩ t ∧ TW W ⟨a.block, a.off + i * 6, none⟩ t ∧ labs M t) key
    have hsl : SlR (.slice (some a) len cap) ks.length := .inr ⟨a, cap, by rw [hkl, hel], by rw [hkl, hel]; exact hlc, fun h0 => by
          rw [hkl, hel] at h0
          have hg := hget 0 h0
          rw [List.getElem?_eq_getElem (by omega)] at hg
          obtain ⟨cs', hc, _⟩ := Option.bind_eq_some_iff.1 hg
          obtain ⟨_, hcl, hcc⟩ := World.cells?_some hc
          have h7 := hcc 0 (by omega)
          rw [List.getElem?_eq_getElem (by omega)] at h7
          have := World.cell?_spot h7
          simpa [Addr.add] using this⟩
    refine ⟨.mk k nm.data.toList v ks ls rv, ⟨.slice (some a) len cap, _, by unfold tyC; rw [← hnm], hsl, hst, ⟨w0, w2, w4⟩, fun i t ht => (hkk i t ht).1⟩, ⟨.slice (some a) len cap, lA, lN, lC, by unfold tyC; rw [← hnm], hsl, ⟨w0, w2, w4⟩, fun i t ht => (hkk i t ht).2.1⟩, ⟨by omega, labsL_of fun t ht => by
      obtain ⟨i, hi⟩ := List.getElem?_of_mem ht
      exact (hkk i t hi).2.2⟩, ?_⟩
    simp only [Ty.size, Rows.uptoBulk]
    rw [sizeL_sum]
    omega
end Go.Proofs.Ythdfomcpoofkaaa.Si
