/- What comes in: labels, rows, types; how much they hold. -/
import Derived.Test.YthdfomcpoofkaaaRows
import Derived.Test.YthdfomcpoofkaaaMg05
import Derived.Test.YthdfomcpoofkaaaMg20
import Derived.ProofKit
import Derived.ChangeSame
import Derived.SliceStrings
import Derived.OpenShut
import Derived.Outline
namespace Go.Proofs.Ythdfomcpoofkaaa
open Go.ChangeShapes Go.WideShapes Go.ChangeAt Go.WideMaps Go.WideElems Go.RowKit

theorem bulk_one {H : Type} (d : DataW H) : 1 ≤ Rows.uptoBulk d := by
  cases d with
  | lit l => cases l <;> simp [Rows.uptoBulk]
  | nil => simp [Rows.uptoBulk]
  | ptr d => simp [Rows.uptoBulk]
  | slice elems spare => simp [Rows.uptoBulk]
  | agg parts => simp [Rows.uptoBulk]
  | iface t d => simp [Rows.uptoBulk]
  | map entries => simp [Rows.uptoBulk]
  | held h => simp [Rows.uptoBulk]
theorem bulk_len {H : Type} : ∀ l : List (DataW H), l.length ≤ Rows.uptoBulkAll l
  | [] => by simp [Rows.uptoBulkAll]
  | d :: r => by have h1 := bulk_one d; have h2 := bulk_len r; simp only [Rows.uptoBulkAll, List.length_cons]; omega
theorem bulk_slice {H : Type} (l r : List (DataW H)) : Rows.uptoBulkAll l + 1 ≤ Rows.uptoBulk (.slice l r) := by
  simp only [Rows.uptoBulk]; omega
/-- Each of a list is one; so all are. -/
theorem each_all {H : Type} {α β : Type} (b : β → DataW H) (size : α → Nat) : ∀ (l : List β) (P : Nat → α → Prop), (∀ (i : Nat) y, l[i]? = some y → Rows.uptoBulk (b y) ≤ Rows.uptoBulkAll (l.map b) → ∃ t, P i t ∧ size t ≤ Rows.uptoBulk (b y)) →
    ∃ ks : List α, ks.length = l.length ∧ (∀ (i : Nat) t, ks[i]? = some t → P i t) ∧ (ks.map size).sum ≤ Rows.uptoBulkAll (l.map b)
  | [], P, _ => ⟨[], rfl, fun i t h => by simp at h, by simp⟩
  | y :: r, P, h => by
    obtain ⟨t, h1, h2⟩ := h 0 y rfl (by simp only [List.map_cons, Rows.uptoBulkAll]; omega)
    obtain ⟨ks, h3, h4, h5⟩ := each_all b size r (fun i t => P (i + 1) t) (fun i z hz hb => h (i + 1) z (by simpa using hz) (by simp only [List.map_cons, Rows.uptoBulkAll]; omega))
    refine ⟨t :: ks, by simp [h3], fun i u hi => ?_, by simp only [List.map_cons, List.sum_cons, Rows.uptoBulkAll]; omega⟩
    cases i with
    | zero => simp at hi; subst hi; exact h1
    | succ i => exact h4 i u (by simpa using hi)
theorem sizeL_sum : ∀ l : List Ty, Ty.sizeL l = (l.map Ty.size).sum
  | [] => rfl
  | t :: r => by simp only [Ty.sizeL, List.map_cons, List.sum_cons, sizeL_sum r]
theorem cell1_string : Try.prog.cellsOf 9 = 1 := by kernel_rfl
theorem cell1_int : Try.prog.cellsOf 3 = 1 := by kernel_rfl
theorem cell1_strs : Try.prog.cellsOf 24 = 1 := by kernel_rfl
theorem cell1_kids : Try.prog.cellsOf 23 = 1 := by kernel_rfl
theorem cell2_row : Try.prog.cellsOf 26 = 2 := by kernel_rfl
theorem cell6_type : Try.prog.cellsOf 28 = 6 := by kernel_rfl
section
variable {H : Type} {enc : TypeId × Value → H} {P : Program} {w : World} {base : Nat} {spare : Nat → Bool} {held : Bool}
theorem trod5 {t : TypeId} {f0 f1 f2 f3 f4 : Field} {fuel : Nat} {cs : List Value} {x : DataW H × List MemPlace} (ht : P.underlying t = some (.struct #[f0, f1, f2, f3, f4])) (h : DataW.trod enc P w base spare held fuel t cs = some x) :
    ∃ y0 y1 y2 y3 y4 n, fuel = n + 1 ∧ x.1 = .agg [y0.1, y1.1, y2.1, y3.1, y4.1] ∧ cs.length = P.cellsOf t ∧ DataW.trod enc P w base spare held n f0.type ((cs.drop f0.offset).take (P.cellsOf f0.type)) = some y0 ∧
      DataW.trod enc P w base spare held n f1.type ((cs.drop f1.offset).take (P.cellsOf f1.type)) = some y1 ∧ DataW.trod enc P w base spare held n f2.type ((cs.drop f2.offset).take (P.cellsOf f2.type)) = some y2 ∧
      DataW.trod enc P w base spare held n f3.type ((cs.drop f3.offset).take (P.cellsOf f3.type)) = some y3 ∧ DataW.trod enc P w base spare held n f4.type ((cs.drop f4.offset).take (P.cellsOf f4.type)) = some y4 := by
  obtain ⟨xs, n, h0, rfl, hl, hlen, hf⟩ := DataW.trod_struct ht h
  match xs, hlen with
  | [y0, y1, y2, y3, y4], _ => exact ⟨y0, y1, y2, y3, y4, n, h0, rfl, hl, by simpa using hf 0 f0 rfl, by simpa using hf 1 f1 rfl, by simpa using hf 2 f2 rfl, by simpa using hf 3 f3 rfl, by simpa using hf 4 f4 rfl⟩
theorem trod4 {t : TypeId} {f0 f1 f2 f3 : Field} {fuel : Nat} {cs : List Value} {x : DataW H × List MemPlace} (ht : P.underlying t = some (.struct #[f0, f1, f2, f3])) (h : DataW.trod enc P w base spare held fuel t cs = some x) :
    ∃ y0 y1 y2 y3 n, fuel = n + 1 ∧ x.1 = .agg [y0.1, y1.1, y2.1, y3.1] ∧ cs.length = P.cellsOf t ∧ DataW.trod enc P w base spare held n f0.type ((cs.drop f0.offset).take (P.cellsOf f0.type)) = some y0 ∧
      DataW.trod enc P w base spare held n f1.type ((cs.drop f1.offset).take (P.cellsOf f1.type)) = some y1 ∧ DataW.trod enc P w base spare held n f2.type ((cs.drop f2.offset).take (P.cellsOf f2.type)) = some y2 ∧
      DataW.trod enc P w base spare held n f3.type ((cs.drop f3.offset).take (P.cellsOf f3.type)) = some y3 := by
  obtain ⟨xs, n, h0, rfl, hl, hlen, hf⟩ := DataW.trod_struct ht h
  match xs, hlen with
  | [y0, y1, y2, y3], _ => exact ⟨y0, y1, y2, y3, n, h0, rfl, hl, by simpa using hf 0 f0 rfl, by simpa using hf 1 f1 rfl, by simpa using hf 2 f2 rfl, by simpa using hf 3 f3 rfl⟩
end
/-- Labels that came in. -/
theorem strR_open {H : Type} {enc : TypeId × Value → H} {W : World} {fuel : Nat} {cs : List Value} {x : DataW H × List MemPlace} (h : DataW.trod enc Try.prog W 0 (fun _ => true) true fuel 24 cs = some x)
    (hb : Rows.uptoBulk x.1 ≤ 2000000) : ∃ v ls, cs = [v] ∧ StrR W v ls := by
  rcases open_strings Try.underlying24 Try.underlying9 cell1_string h with ⟨hcs, _⟩ | ⟨a, len, cap, ss, hcs, _, hl, hm, hz, rfl, hcell, hss⟩
  · exact ⟨_, [], hcs, .inl ⟨rfl, rfl⟩, by simp⟩
  · simp only [if_true] at hz
    have hlen : (ss.take len).length = len := by rw [List.length_take]; omega
    have hbl := bulk_len (strs (H := H) (ss.take len))
    have hbs := bulk_slice (strs (H := H) (ss.take len)) (strs (ss.drop len))
    have hsl : (strs (H := H) (ss.take len)).length = len := by unfold strs; rw [List.length_map, hlen]
    have hll : (((ss.take len).map fun s => s.data.toList).map encS).length = len := by rw [List.length_map, List.length_map, hlen]
    refine ⟨_, (ss.take len).map fun s => s.data.toList, hcs, .inr ⟨a, cap, by rw [hll], by rw [hll]; exact hl, fun j q hq => ?_⟩, by rw [List.length_map, hlen]; simp only at hb; omega⟩
    have hj := (List.getElem?_eq_some_iff.1 hq).1
    rw [hll] at hj
    rw [hcell j (by omega), ← hq]
    simp [hj, encS, List.getD, show j < ss.length by omega, ← ba_of]
set_option maxRecDepth 100000 in
/-- A row's cells that came in. -/
theorem rwV_open {H : Type} {enc : TypeId × Value → H} {W : World} {fuel : Nat} {cs : List Value} {x : DataW H × List MemPlace} (h : DataW.trod enc Try.prog W 0 (fun _ => true) true fuel 26 cs = some x)
    (hb : Rows.uptoBulk x.1 ≤ 2000000) : ∃ r, RwV W r cs := by
  obtain ⟨y0, y1, n, rfl, hl, h0, h1⟩ := trod_struct2 Try.underlying26 h
  rw [cell2_row] at hl
  obtain ⟨c0, c1, rfl⟩ : ∃ c0 c1, cs = [c0, c1] := by
    match cs, hl with
    | [c0, c1], _ => exact ⟨c0, c1, rfl⟩
  rw [cell1_strs] at h0
  rw [cell1_int] at h1
  simp only [Rows.uptoBulk, Rows.uptoBulkAll] at hb
  obtain ⟨v, ls, e0, h2⟩ := strR_open h0 (by omega)
  obtain ⟨rv, e1, _, h3⟩ := DataW.trod_int Try.underlying3 h1
  simp only [List.drop_zero, List.take_succ_cons, List.take_zero, List.cons.injEq, and_true] at e0
  have e2 : c1 = .int .i64 rv := by simpa using e1
  exact ⟨(ls, rv), v, by rw [e0, e2], h2, h3⟩
set_option maxRecDepth 100000 in
/-- A type's cells that came in. -/
theorem trV_open {H : Type} {enc : TypeId × Value → H} {W : World} : ∀ (fuel : Nat) (cs : List Value) (x : DataW H × List MemPlace), DataW.trod enc Try.prog W 0 (fun _ => true) true fuel 28 cs = some x →
    Rows.uptoBulk x.1 ≤ 2000000 → ∃ t, TRV W t cs ∧ t.size ≤ Rows.uptoBulk x.1 := by
  intro fuel
  induction fuel using Nat.strongRecOn with
  | _ fuel ih =>
  intro cs x h hb
  obtain ⟨y0, y1, y2, y3, y4, n, rfl, hx, hl, h0, h1, h2, h3, h4⟩ := trod5 Try.underlying28 h
  rw [hx] at hb ⊢
  clear hx h
  rw [cell6_type] at hl
  obtain ⟨c0, c1, c2, c3, c4, c5, rfl⟩ : ∃ c0 c1 c2 c3 c4 c5, cs = [c0, c1, c2, c3, c4, c5] := by
    match cs, hl with
    | [c0, c1, c2, c3, c4, c5], _ => exact ⟨c0, c1, c2, c3, c4, c5, rfl⟩
  simp only [cell1_int, cell1_string, cell1_kids, cell2_row, List.drop_zero, List.drop_succ_cons, List.take_succ_cons, List.take_zero] at h0 h1 h2 h3 h4
  obtain ⟨k, e0, _, w0⟩ := DataW.trod_int Try.underlying3 h0
  obtain ⟨nm, e1, _, _⟩ := DataW.trod_string Try.underlying9 h1
  obtain ⟨v, e2, _, w2⟩ := DataW.trod_int Try.underlying3 h2
  simp only [Rows.uptoBulk, Rows.uptoBulkAll] at hb ⊢
  obtain ⟨⟨ls, rv⟩, hrw⟩ := rwV_open h4 (by omega)
  obtain ⟨lv, e4, hst, w4⟩ := hrw
  simp only [List.cons.injEq, and_true] at e0 e1 e2 e4
  obtain ⟨rfl, rfl⟩ := e4
  subst e0 e1 e2
  have hnm : nm = ba nm.data.toList := ba_of nm
  rcases DataW.trod_slice Try.underlying23 h3 with ⟨e3, rfl⟩ | ⟨a, len, cap, elems, rest, m, rfl, e3, rfl, _, hlc, hm, hel, hget, _, _⟩
  · simp only [List.cons.injEq, and_true] at e3
    subst e3
    refine ⟨.mk k nm.data.toList v [] ls rv, ⟨.slice none 0 0, c4, by unfold tyC; rw [← hnm], .inl ⟨rfl, rfl⟩, hst, ⟨w0, w2, w4⟩, fun i t ht => by simp at ht⟩, ?_⟩
    simp only [Ty.size, Ty.sizeL]
    omega
  · simp only [List.cons.injEq, and_true] at e3
    subst e3
    simp only [Rows.uptoBulk] at hb
    rw [cell6_type] at hget
    have key : ∀ (i : Nat) y, elems[i]? = some y → Rows.uptoBulk y.1 ≤ Rows.uptoBulkAll (elems.map (·.1)) → ∃ t, TR W ⟨a.block, a.off + i * 6, none⟩ t ∧ t.size ≤ Rows.uptoBulk y.1 := by
      intro i y hy hby
      have hi : i < len := by rw [← hel]; exact (List.getElem?_eq_some_iff.1 hy).1
      have hg := hget i hi
      rw [hy] at hg
      obtain ⟨cs', hc, ht⟩ := Option.bind_eq_some_iff.1 hg
      obtain ⟨t, h5, h6⟩ := ih m (by omega) cs' y ht (by omega)
      obtain ⟨_, hcl, hcc⟩ := World.cells?_some hc
      refine ⟨t, h5.at_ rfl (fun j u hu => ?_), h6⟩
      have hj : j < 6 := by rw [← hcl]; exact (List.getElem?_eq_some_iff.1 hu).1
      have h7 := hcc j hj
      rw [hu, Addr.add_add] at h7
      have hsp := World.cell?_spot h7
      rw [← h7]
      congr 1
      unfold Addr.add at hsp ⊢
      split
      · rename_i h0
        rw [if_pos h0] at hsp
        obtain ⟨ab, ao, asp⟩ := a
        simp only at hsp
        subst hsp
        simp; omega
      · simp; omega
    obtain ⟨ks, hkl, hkk, hks⟩ := each_all (fun y : DataW H × List MemPlace => y.1) Ty.size elems (fun i t => TR W ⟨a.block, a.off + i * 6, none⟩ t) key
    refine ⟨.mk k nm.data.toList v ks ls rv, ⟨.slice (some a) len cap, c4, by unfold tyC; rw [← hnm], .inr ⟨a, cap, by rw [hkl, hel], by rw [hkl, hel]; exact hlc, fun h0 => ?_⟩, hst, ⟨w0, w2, w4⟩, fun i t ht => hkk i t ht⟩, ?_⟩
    · rw [hkl, hel] at h0
      have hg := hget 0 h0
      rw [List.getElem?_eq_getElem (by omega)] at hg
      obtain ⟨cs', hc, _⟩ := Option.bind_eq_some_iff.1 hg
      obtain ⟨_, hcl, hcc⟩ := World.cells?_some hc
      have h7 := hcc 0 (by omega)
      rw [List.getElem?_eq_getElem (by omega)] at h7
      have := World.cell?_spot h7
      simpa [Addr.add] using this
    · simp only [Ty.size, Rows.uptoBulk]
      rw [sizeL_sum]
      omega
end Go.Proofs.Ythdfomcpoofkaaa

/- What comes in: types, where they lie, and that no mark stands there. -/
namespace Go.Proofs.Ythdfomcpoofkaaa
open Go.ChangeShapes Go.WideShapes Go.ChangeAt Go.WideMaps Go.WideElems Go.RowKit

theorem trod5w {H : Type} {enc : TypeId × Value → H} {P : Program} {w : World} {base : Nat} {spare : Nat → Bool} {held : Bool} {t : TypeId} {f0 f1 f2 f3 f4 : Field} {fuel : Nat} {cs : List Value} {x : DataW H × List MemPlace} (ht : P.underlying t = some (.struct #[f0, f1, f2, f3, f4])) (h : DataW.trod enc P w base spare held fuel t cs = some x) :
    ∃ y0 y1 y2 y3 y4 n, fuel = n + 1 ∧ x.1 = .agg [y0.1, y1.1, y2.1, y3.1, y4.1] ∧ cs.length = P.cellsOf t ∧ DataW.trod enc P w base spare held n f0.type ((cs.drop f0.offset).take (P.cellsOf f0.type)) = some y0 ∧
      DataW.trod enc P w base spare held n f1.type ((cs.drop f1.offset).take (P.cellsOf f1.type)) = some y1 ∧ DataW.trod enc P w base spare held n f2.type ((cs.drop f2.offset).take (P.cellsOf f2.type)) = some y2 ∧
      DataW.trod enc P w base spare held n f3.type ((cs.drop f3.offset).take (P.cellsOf f3.type)) = some y3 ∧ DataW.trod enc P w base spare held n f4.type ((cs.drop f4.offset).take (P.cellsOf f4.type)) = some y4 ∧ ∀ p, p ∈ y3.2 → p ∈ x.2 := by
  obtain ⟨xs, n, h0, rfl, hl, hlen, hf⟩ := DataW.trod_struct ht h
  match xs, hlen with
  | [y0, y1, y2, y3, y4], _ => exact ⟨y0, y1, y2, y3, y4, n, h0, rfl, hl, by simpa using hf 0 f0 rfl, by simpa using hf 1 f1 rfl, by simpa using hf 2 f2 rfl, by simpa using hf 3 f3 rfl, by simpa using hf 4 f4 rfl, fun p hp => by simp [hp]⟩
theorem atC_of {w : World} {a : Addr} {v : Value} (h : w.cell? ⟨a.block, a.off + 0, none⟩ = some v) (hf : w.frozen? a = false) : AtC w w.heap.size a := by
  refine ⟨?_, hf, World.block_lt_of_cell? w ⟨a.block, a.off + 0, none⟩ h⟩
  unfold World.cell? at h
  split at h
  · rename_i c t fr hh
    exact ⟨c, t, fr, hh⟩
  · cases h
theorem TWV.atW {w : World} {t : Ty} {l : List Value} (h : TWV w t l) {a : Addr} (h0 : a.spot = none) (hat : AtC w w.heap.size a) (hr : ReadsAt w a l) : TW w a t := by
  obtain ⟨k, nm, v, kids, ls, rv⟩ := t
  obtain ⟨kv, A, n, c, rfl, h1, h2, h3⟩ := h
  exact .mk a k nm v kids ls rv kv _ h0 hat hr h1 h2 h3
set_option maxRecDepth 100000 in
/-- A type's cells that came in. -/
theorem twV_open {H : Type} {enc : TypeId × Value → H} {W : World} : ∀ (fuel : Nat) (cs : List Value) (x : DataW H × List MemPlace), DataW.trod enc Try.prog W 0 (fun _ => true) true fuel 28 cs = some x →
    Rows.uptoBulk x.1 ≤ 2000000 → W.noneFrozen x.2 → ∃ t, TRV W t cs ∧ TWV W t cs ∧ t.size ≤ Rows.uptoBulk x.1 := by
  intro fuel
  induction fuel using Nat.strongRecOn with
  | _ fuel ih =>
  intro cs x h hb hfz
  obtain ⟨y0, y1, y2, y3, y4, n, rfl, hx, hl, h0, h1, h2, h3, h4, hpl⟩ := trod5w Try.underlying28 h
  have hf3 : W.noneFrozen y3.2 := fun b off hm => hfz b off (hpl _ hm)
  rw [hx] at hb ⊢
  clear hx h hpl hfz
  rw [cell6_type] at hl
  obtain ⟨c0, c1, c2, c3, c4, c5, rfl⟩ : ∃ c0 c1 c2 c3 c4 c5, cs = [c0, c1, c2, c3, c4, c5] := by
    match cs, hl with
    | [c0, c1, c2, c3, c4, c5], _ => exact ⟨c0, c1, c2, c3, c4, c5, rfl⟩
  simp only [cell1_int, cell1_string, cell1_kids, cell2_row, List.drop_zero, List.drop_succ_cons, List.take_succ_cons, List.take_zero] at h0 h1 h2 h3 h4
  obtain ⟨k, e0, _, w0⟩ := DataW.trod_int Try.underlying3 h0
  obtain ⟨nm, e1, _, _⟩ := DataW.trod_string Try.underlying9 h1
  obtain ⟨v, e2, _, w2⟩ := DataW.trod_int Try.underlying3 h2
  simp only [Rows.uptoBulk, Rows.uptoBulkAll] at hb ⊢
  obtain ⟨⟨ls, rv⟩, hrw⟩ := rwV_open h4 (by omega)
  obtain ⟨lv, e4, hst, w4⟩ := hrw
  obtain ⟨lA, lN, lC, rfl⟩ : ∃ A n c, lv = .slice A n c := by rcases hst.1 with ⟨rfl, _⟩ | ⟨_, _, rfl, _⟩ <;> exact ⟨_, _, _, rfl⟩
  simp only [List.cons.injEq, and_true] at e0 e1 e2 e4
  obtain ⟨rfl, rfl⟩ := e4
  subst e0 e1 e2
  have hnm : nm = ba nm.data.toList := ba_of nm
  rcases DataW.trod_slice Try.underlying23 h3 with ⟨e3, rfl⟩ | ⟨a, len, cap, elems, rest, m, rfl, e3, rfl, _, hlc, hm, hel, hget, _, _⟩
  · simp only [List.cons.injEq, and_true] at e3
    subst e3
    refine ⟨.mk k nm.data.toList v [] ls rv, ⟨.slice none 0 0, _, by unfold tyC; rw [← hnm], .inl ⟨rfl, rfl⟩, hst, ⟨w0, w2, w4⟩, fun i t ht => by simp at ht⟩, ⟨.slice none 0 0, lA, lN, lC, by unfold tyC; rw [← hnm], .inl ⟨rfl, rfl⟩, ⟨w0, w2, w4⟩, fun i t ht => by simp at ht⟩, ?_⟩
    simp only [Ty.size, Ty.sizeL]
    omega
  · simp only [List.cons.injEq, and_true] at e3
    subst e3
    simp only [Rows.uptoBulk] at hb
    rw [cell6_type] at hget
    have key : ∀ (i : Nat) y, elems[i]? = some y → Rows.uptoBulk y.1 ≤ Rows.uptoBulkAll (elems.map (·.1)) → ∃ t, (TR W ⟨a.block, a.off + i * 6, none⟩ t ∧ TW W ⟨a.block, a.off + i * 6, none⟩ t) ∧ t.size ≤ Rows.uptoBulk y.1 := by
      intro i y hy hby
      have hi : i < len := by rw [← hel]; exact (List.getElem?_eq_some_iff.1 hy).1
      have hg := hget i hi
      rw [hy] at hg
      obtain ⟨cs', hc, ht⟩ := Option.bind_eq_some_iff.1 hg
      obtain ⟨t, h5, h5w, h6⟩ := ih m (by omega) cs' y ht (by omega) (fun b off hm => hf3 b off (List.mem_append_right _ (List.mem_flatMap.2 ⟨y, List.mem_append_left _ (List.mem_of_getElem? hy), hm⟩)))
      obtain ⟨_, hcl, hcc⟩ := World.cells?_some hc
      have hrd : ReadsAt W ⟨a.block, a.off + i * 6, none⟩ cs' := fun j u hu => by
        have hj : j < 6 := by rw [← hcl]; exact (List.getElem?_eq_some_iff.1 hu).1
        have h7 := hcc j hj
        rw [hu, Addr.add_add] at h7
        have hsp := World.cell?_spot h7
        rw [← h7]
        congr 1
        unfold Addr.add at hsp ⊢
        split
        · rename_i h0
          rw [if_pos h0] at hsp
          obtain ⟨ab, ao, asp⟩ := a
          simp only at hsp
          subst hsp
          simp; omega
        · simp; omega
      have hfr : W.frozen? ⟨a.block, a.off + i * 6, none⟩ = false := hf3 _ _ (List.mem_append_left _ (List.mem_map.2 ⟨i * 6, List.mem_range.2 (by rw [cell6_type]; omega), rfl⟩))
      have hc0 := hrd 0 (cs'[0]'(by omega)) (List.getElem?_eq_getElem (by omega))
      exact ⟨t, ⟨h5.at_ rfl hrd, h5w.atW rfl (atC_of hc0 hfr) hrd⟩, h6⟩
    obtain ⟨ks, hkl, hkk, hks⟩ := each_all (fun y : DataW H × List MemPlace => y.1) Ty.size elems (fun i t => TR W ⟨a.block, a.off + i * 6, none⟩ t ∧ TW W ⟨a.block, a.off + i * 6, none⟩ t) key
    have hsl : SlR (.slice (some a) len cap) ks.length := .inr ⟨a, cap, by rw [hkl, hel], by rw [hkl, hel]; exact hlc, fun h0 => by
          rw [hkl, hel] at h0
          have hg := hget 0 h0
          rw [List.getElem?_eq_getElem (by omega)] at hg
          obtain ⟨cs', hc, _⟩ := Option.bind_eq_some_iff.1 hg
          obtain ⟨_, hcl, hcc⟩ := World.cells?_some hc
          have h7 := hcc 0 (by omega)
          rw [List.getElem?_eq_getElem (by omega)] at h7
          have := World.cell?_spot h7
          simpa [Addr.add] using this⟩
    refine ⟨.mk k nm.data.toList v ks ls rv, ⟨.slice (some a) len cap, _, by unfold tyC; rw [← hnm], hsl, hst, ⟨w0, w2, w4⟩, fun i t ht => (hkk i t ht).1⟩, ⟨.slice (some a) len cap, lA, lN, lC, by unfold tyC; rw [← hnm], hsl, ⟨w0, w2, w4⟩, fun i t ht => (hkk i t ht).2⟩, ?_⟩
    simp only [Ty.size, Rows.uptoBulk]
    rw [sizeL_sum]
    omega
end Go.Proofs.Ythdfomcpoofkaaa
