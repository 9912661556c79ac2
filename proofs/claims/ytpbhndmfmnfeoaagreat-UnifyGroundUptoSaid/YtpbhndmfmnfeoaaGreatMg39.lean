/- What comes in: labels, rows, types; how much they hold. -/
import Derived.Test.YtpbhndmfmnfeoaaGreatRows
import Derived.Test.YtpbhndmfmnfeoaaGreatMg05
import Derived.ProofKit
import Derived.ChangeSame
import Derived.SliceStrings
import Derived.OpenShut
import Derived.Outline
namespace Go.Proofs.YtpbhndmfmnfeoaaGreat
open Go.ChangeShapes Go.WideShapes Go.ChangeAt Go.WideMaps Go.WideElems Go.RowKit

theorem bulk_one {H : Type} (d : DataW H) : 1 ≤ Rows.uptoBulk d := by
  cases d with
  | lit l => cases l <;> simp [Rows.uptoBulk]
  | nil => simp [Rows.uptoBulk]
  | ptr d => simp [Rows.uptoBulk]
  | slice elems spare => simp [Rows.uptoBulk]
  | agg parts => simp [Rows.uptoBulk]
  | iface t d => simp [Rows.uptoBulk]
  | map entries => simp [Rows.uptoBulk]
  | held h => simp [Rows.uptoBulk]
theorem bulk_len {H : Type} : ∀ l : List (DataW H), l.length ≤ Rows.uptoBulkAll l
  | [] => by simp [Rows.uptoBulkAll]
  | d :: r => by have h1 := bulk_one d; have h2 := bulk_len r; simp only [Rows.uptoBulkAll, List.length_cons]; omega
theorem bulk_slice {H : Type} (l r : List (DataW H)) : Rows.uptoBulkAll l + 1 ≤ Rows.uptoBulk (.slice l r) := by
  simp only [Rows.uptoBulk]; omega
/-- Each of a list is one; so all are. -/
theorem each_all {H : Type} {α β : Type} (b : β → DataW H) (size : α → Nat) : ∀ (l : List β) (P : Nat → α → Prop), (∀ (i : Nat) y, l[i]? = some y → Rows.uptoBulk (b y) ≤ Rows.uptoBulkAll (l.map b) → ∃ t, P i t ∧ size t ≤ Rows.uptoBulk (b y)) →
    ∃ ks : List α, ks.length = l.length ∧ (∀ (i : Nat) t, ks[i]? = some t → P i t) ∧ (ks.map size).sum ≤ Rows.uptoBulkAll (l.map b)
  | [], P, _ => ⟨[], rfl, fun i t h => by simp at h, by simp⟩
  | y :: r, P, h => by
    obtain ⟨t, h1, h2⟩ := h 0 y rfl (by simp only [List.map_cons, Rows.uptoBulkAll]; omega)
    obtain ⟨ks, h3, h4, h5⟩ := each_all b size r (fun i t => P (i + 1) t) (fun i z hz hb => h (i + 1) z (by simpa using hz) (by simp only [List.map_cons, Rows.uptoBulkAll]; omega))
    refine ⟨t :: ks, by simp [h3], fun i u hi => ?_, by simp only [List.map_cons, List.sum_cons, Rows.uptoBulkAll]; omega⟩
    cases i with
    | zero => simp at hi; subst hi; exact h1
    | succ i => exact h4 i u (by simpa using hi)
theorem sizeL_sum : ∀ l : List Ty, Ty.sizeL l = (l.map Ty.size).sum
  | [] => rfl
  | t :: r => by simp only [Ty.sizeL, List.map_cons, List.sum_cons, sizeL_sum r]
theorem cell1_string : Tryz.prog.cellsOf 9 = 1 := by kernel_rfl
theorem cell1_int : Tryz.prog.cellsOf 3 = 1 := by kernel_rfl
theorem cell1_strs : Tryz.prog.cellsOf 22 = 1 := by kernel_rfl
theorem cell1_kids : Tryz.prog.cellsOf 42 = 1 := by kernel_rfl
theorem cell2_row : Tryz.prog.cellsOf 24 = 2 := by kernel_rfl
theorem cell6_type : Tryz.prog.cellsOf 44 = 6 := by kernel_rfl
section
variable {H : Type} {enc : TypeId × Value → H} {P : Program} {w : World} {base : Nat} {spare : Nat → Bool} {held : Bool}
theorem trod5 {t : TypeId} {f0 f1 f2 f3 f4 : Field} {fuel : Nat} {cs : List Value} {x : DataW H × List MemPlace} (ht : P.underlying t = some (.struct #[f0, f1, f2, f3, f4])) (h : DataW.trod enc P w base spare held fuel t cs = some x) :
    ∃ y0 y1 y2 y3 y4 n, fuel = n + 1 ∧ x.1 = .agg [y0.1, y1.1, y2.1, y3.1, y4.1] ∧ cs.length = P.cellsOf t ∧ DataW.trod enc P w base spare held n f0.type ((cs.drop f0.offset).take (P.cellsOf f0.type)) = some y0 ∧
      DataW.trod enc P w base spare held n f1.type ((cs.drop f1.offset).take (P.cellsOf f1.type)) = some y1 ∧ DataW.trod enc P w base spare held n f2.type ((cs.drop f2.offset).take (P.cellsOf f2.type)) = some y2 ∧
      DataW.trod enc P w base spare held n f3.type ((cs.drop f3.offset).take (P.cellsOf f3.type)) = some y3 ∧ DataW.trod enc P w base spare held n f4.type ((cs.drop f4.offset).take (P.cellsOf f4.type)) = some y4 := by
  obtain ⟨xs, n, h0, rfl, hl, hlen, hf⟩ := DataW.trod_struct ht h
  match xs, hlen with
  | [y0, y1, y2, y3, y4], _ => exact ⟨y0, y1, y2, y3, y4, n, h0, rfl, hl, by simpa using hf 0 f0 rfl, by simpa using hf 1 f1 rfl, by simpa using hf 2 f2 rfl, by simpa using hf 3 f3 rfl, by simpa using hf 4 f4 rfl⟩
theorem trod4 {t : TypeId} {f0 f1 f2 f3 : Field} {fuel : Nat} {cs : List Value} {x : DataW H × List MemPlace} (ht : P.underlying t = some (.struct #[f0, f1, f2, f3])) (h : DataW.trod enc P w base spare held fuel t cs = some x) :
    ∃ y0 y1 y2 y3 n, fuel = n + 1 ∧ x.1 = .agg [y0.1, y1.1, y2.1, y3.1] ∧ cs.length = P.cellsOf t ∧ DataW.trod enc P w base spare held n f0.type ((cs.drop f0.offset).take (P.cellsOf f0.type)) = some y0 ∧
      DataW.trod enc P w base spare held n f1.type ((cs.drop f1.offset).take (P.cellsOf f1.type)) = some y1 ∧ DataW.trod enc P w base spare held n f2.type ((cs.drop f2.offset).take (P.cellsOf f2.type)) = some y2 ∧
      DataW.trod enc P w base spare held n f3.type ((cs.drop f3.offset).take (P.cellsOf f3.type)) = some y3 := by
  obtain ⟨xs, n, h0, rfl, hl, hlen, hf⟩ := DataW.trod_struct ht h
  match xs, hlen with
  | [y0, y1, y2, y3], _ => exact ⟨y0, y1, y2, y3, n, h0, rfl, hl, by simpa using hf 0 f0 rfl, by simpa using hf 1 f1 rfl, by simpa using hf 2 f2 rfl, by simpa using hf 3 f3 rfl⟩
end
/-- Labels that came in. -/
theorem strR_open {H : Type} {enc : TypeId × Value → H} {W : World} {fuel : Nat} {cs : List Value} {x : DataW H × List MemPlace} (h : DataW.trod enc Tryz.prog W 0 (fun _ => true) true fuel 22 cs = some x)
    (hb : Rows.uptoBulk x.1 ≤ 2000000) : ∃ v ls, cs = [v] ∧ StrR W v ls := by
  rcases open_strings Tryz.underlying22 Tryz.underlying9 cell1_string h with ⟨hcs, _⟩ | ⟨a, len, cap, ss, hcs, _, hl, hm, hz, rfl, hcell, hss⟩
  · exact ⟨_, [], hcs, .inl ⟨rfl, rfl⟩, by simp⟩
  · simp only [if_true] at hz
    have hlen : (ss.take len).length = len := by rw [List.length_take]; omega
    have hbl := bulk_len (strs (H := H) (ss.take len))
    have hbs := bulk_slice (strs (H := H) (ss.take len)) (strs (ss.drop len))
    have hsl : (strs (H := H) (ss.take len)).length = len := by unfold strs; rw [List.length_map, hlen]
    have hll : (((ss.take len).map fun s => s.data.toList).map encS).length = len := by rw [List.length_map, List.length_map, hlen]
    refine ⟨_, (ss.take len).map fun s => s.data.toList, hcs, .inr ⟨a, cap, by rw [hll], by rw [hll]; exact hl, fun j q hq => ?_⟩, by rw [List.length_map, hlen]; simp only at hb; omega⟩
    have hj := (List.getElem?_eq_some_iff.1 hq).1
    rw [hll] at hj
    rw [hcell j (by omega), ← hq]
    simp [hj, encS, List.getD, show j < ss.length by omega, ← ba_of]
set_option maxRecDepth 100000 in
/-- A row's cells that came in. -/
theorem rwV_open {H : Type} {enc : TypeId × Value → H} {W : World} {fuel : Nat} {cs : List Value} {x : DataW H × List MemPlace} (h : DataW.trod enc Tryz.prog W 0 (fun _ => true) true fuel 24 cs = some x)
    (hb : Rows.uptoBulk x.1 ≤ 2000000) : ∃ r, RwV W r cs := by
  obtain ⟨y0, y1, n, rfl, hl, h0, h1⟩ := trod_struct2 Tryz.underlying24 h
  rw [cell2_row] at hl
  obtain ⟨c0, c1, rfl⟩ : ∃ c0 c1, cs = [c0, c1] := by
    match cs, hl with
    | [c0, c1], _ => exact ⟨c0, c1, rfl⟩
  rw [cell1_strs] at h0
  rw [cell1_int] at h1
  simp only [Rows.uptoBulk, Rows.uptoBulkAll] at hb
  obtain ⟨v, ls, e0, h2⟩ := strR_open h0 (by omega)
  obtain ⟨rv, e1, _, h3⟩ := DataW.trod_int Tryz.underlying3 h1
  simp only [List.drop_zero, List.take_succ_cons, List.take_zero, List.cons.injEq, and_true] at e0
  have e2 : c1 = .int .i64 rv := by simpa using e1
  exact ⟨(ls, rv), v, by rw [e0, e2], h2, h3⟩
set_option maxRecDepth 100000 in
/-- A type's cells that came in. -/
theorem trV_open {H : Type} {enc : TypeId × Value → H} {W : World} : ∀ (fuel : Nat) (cs : List Value) (x : DataW H × List MemPlace), DataW.trod enc Tryz.prog W 0 (fun _ => true) true fuel 44 cs = some x →
    Rows.uptoBulk x.1 ≤ 2000000 → ∃ t, TRV W t cs ∧ t.size ≤ Rows.uptoBulk x.1 := by
  intro fuel
  induction fuel using Nat.strongRecOn with
  | _ fuel ih =>
  intro cs x h hb
  obtain ⟨y0, y1, y2, y3, y4, n, rfl, hx, hl, h0, h1, h2, h3, h4⟩ := trod5 Tryz.underlying44 h
  rw [hx] at hb ⊢
  clear hx h
  rw [cell6_type] at hl
  obtain ⟨c0, c1, c2, c3, c4, c5, rfl⟩ : ∃ c0 c1 c2 c3 c4 c5, cs = [c0, c1, c2, c3, c4, c5] := by
    match cs, hl with
    | [c0, c1, c2, c3, c4, c5], _ => exact ⟨c0, c1, c2, c3, c4, c5, rfl⟩
  simp only [cell1_int, cell1_string, cell1_kids, cell2_row, List.drop_zero, List.drop_succ_cons, List.take_succ_cons, List.take_zero] at h0 h1 h2 h3 h4
  obtain ⟨k, e0, _, w0⟩ := DataW.trod_int Tryz.underlying3 h0
  obtain ⟨nm, e1, _, _⟩ := DataW.trod_string Tryz.underlying9 h1
  obtain ⟨v, e2, _, w2⟩ := DataW.trod_int Tryz.underlying3 h2
  simp only [Rows.uptoBulk, Rows.uptoBulkAll] at hb ⊢
  obtain ⟨⟨ls, rv⟩, hrw⟩ := rwV_open h4 (by omega)
  obtain ⟨lv, e4, hst, w4⟩ := hrw
  simp only [List.cons.injEq, and_true] at e0 e1 e2 e4
  obtain ⟨rfl, rfl⟩ := e4
  subst e0 e1 e2
  have hnm : nm = ba nm.data.toList := ba_of nm
  rcases DataW.trod_slice Tryz.underlying42 h3 with ⟨e3, rfl⟩ | ⟨a, len, cap, elems, rest, m, rfl, e3, rfl, _, hlc, hm, hel, hget, _, _⟩
  · simp only [List.cons.injEq, and_true] at e3
    subst e3
    refine ⟨.mk k nm.data.toList v [] ls rv, ⟨.slice none 0 0, c4, by unfold tyC; rw [← hnm], .inl ⟨rfl, rfl⟩, hst, ⟨w0, w2, w4⟩, fun i t ht => by simp at ht⟩, ?_⟩
    simp only [Ty.size, Ty.sizeL]
    omega
  · simp only [List.cons.injEq, and_true] at e3
    subst e3
    simp only [Rows.uptoBulk] at hb
    rw [cell6_type] at hget
    have key : ∀ (i : Nat) y, elems[i]? = some y → Rows.uptoBulk y.1 ≤ Rows.uptoBulkAll (elems.map (·.1)) → ∃ t, TR W ⟨a.block, a.off + i * 6, none⟩ t ∧ t.size ≤ Rows.uptoBulk y.1 := by
      intro i y hy hby
      have hi : i < len := by rw [← hel]; exact (List.getElem?_eq_some_iff.1 hy).1
      have hg := hget i hi
      rw [hy] at hg
      obtain ⟨cs', hc, ht⟩ := Option.bind_eq_some_iff.1 hg
      obtain ⟨t, h5, h6⟩ := ih m (by omega) cs' y ht (by omega)
      obtain ⟨_, hcl, hcc⟩ := World.cells?_some hc
      refine ⟨t, h5.at_ rfl (fun j u hu => ?_), h6⟩
      have hj : j < 6 := by rw [← hcl]; exact (List.getElem?_eq_some_iff.1 hu).1
      have h7 := hcc j hj
      rw [hu, Addr.add_add] at h7
      have hsp := World.cell?_spot h7
      rw [← h7]
      congr 1
      unfold Addr.add at hsp ⊢
      split
      · rename_i h0
        rw [if_pos h0] at hsp
        obtain ⟨ab, ao, asp⟩ := a
        simp only at hsp
        subst hsp
        simp; omega
      · simp; omega
    obtain ⟨ks, hkl, hkk, hks⟩ := each_all (fun y : DataW H × List MemPlace => y.1) Ty.size elems (fun i t => TR W ⟨a.block, a.off + i * 6, none⟩ t) key
    refine ⟨.mk k nm.data.toList v ks ls rv, ⟨.slice (some a) len cap, c4, by unfold tyC; rw [← hnm], .inr ⟨a, cap, by rw [hkl, hel], by rw [hkl, hel]; exact hlc, fun h0 => ?_⟩, hst, ⟨w0, w2, w4⟩, fun i t ht => hkk i t ht⟩, ?_⟩
    · rw [hkl, hel] at h0
      have hg := hget 0 h0
      rw [List.getElem?_eq_getElem (by omega)] at hg
      obtain ⟨cs', hc, _⟩ := Option.bind_eq_some_iff.1 hg
      obtain ⟨_, hcl, hcc⟩ := World.cells?_some hc
      have h7 := hcc 0 (by omega)
      rw [List.getElem?_eq_getElem (by omega)] at h7
      have := World.cell?_spot h7
      simpa [Addr.add] using this
    · simp only [Ty.size, Rows.uptoBulk]
      rw [sizeL_sum]
      omega
end Go.Proofs.YtpbhndmfmnfeoaaGreat

/- Rows that come in, and how long their labels may be. -/
namespace Go.Proofs.YtpbhndmfmnfeoaaGreat
open Go.ChangeShapes Go.WideShapes Go.ChangeAt Go.WideMaps Go.WideElems Go.RowKit

theorem strR_open2 {H : Type} {enc : TypeId × Value → H} {W : World} {fuel : Nat} {cs : List Value} {x : DataW H × List MemPlace} (h : DataW.trod enc Tryz.prog W 0 (fun _ => true) true fuel 22 cs = some x)
    (hb : Rows.uptoBulk x.1 ≤ 2000000) : ∃ v ls, cs = [v] ∧ StrR W v ls ∧ ∀ s ∈ ls, s.length ≤ maxLen := by
  rcases open_strings Tryz.underlying22 Tryz.underlying9 cell1_string h with ⟨hcs, _⟩ | ⟨a, len, cap, ss, hcs, _, hl, hm, hz, rfl, hcell, hss⟩
  · exact ⟨_, [], hcs, ⟨.inl ⟨rfl, rfl⟩, by simp⟩, fun s hs => by cases hs⟩
  · simp only [if_true] at hz
    have hlen : (ss.take len).length = len := by rw [List.length_take]; omega
    have hbl := bulk_len (strs (H := H) (ss.take len))
    have hbs := bulk_slice (strs (H := H) (ss.take len)) (strs (ss.drop len))
    have hsl : (strs (H := H) (ss.take len)).length = len := by unfold strs; rw [List.length_map, hlen]
    have hll : (((ss.take len).map fun s => s.data.toList).map encS).length = len := by rw [List.length_map, List.length_map, hlen]
    refine ⟨_, (ss.take len).map fun s => s.data.toList, hcs, ⟨.inr ⟨a, cap, by rw [hll], by rw [hll]; exact hl, fun j q hq => ?_⟩, by rw [List.length_map, hlen]; simp only at hb; omega⟩, fun s hs => ?_⟩
    · have hj := (List.getElem?_eq_some_iff.1 hq).1
      rw [hll] at hj
      rw [hcell j (by omega), ← hq]
      simp [hj, encS, List.getD, show j < ss.length by omega, ← ba_of]
    · obtain ⟨b, hb1, rfl⟩ := List.mem_map.1 hs
      have := hss b (List.mem_of_mem_take hb1)
      rw [Array.length_toList]
      exact this
set_option maxRecDepth 100000 in
/-- A row's cells that came in. -/
theorem rwV_open2 {H : Type} {enc : TypeId × Value → H} {W : World} {fuel : Nat} {cs : List Value} {x : DataW H × List MemPlace} (h : DataW.trod enc Tryz.prog W 0 (fun _ => true) true fuel 24 cs = some x)
    (hb : Rows.uptoBulk x.1 ≤ 2000000) : ∃ lv ls rv, cs = [lv, .int .i64 rv] ∧ StrR W lv ls ∧ (∀ s ∈ ls, s.length ≤ maxLen) ∧ i64ok rv := by
  obtain ⟨y0, y1, n, rfl, hl, h0, h1⟩ := trod_struct2 Tryz.underlying24 h
  rw [cell2_row] at hl
  obtain ⟨c0, c1, rfl⟩ : ∃ c0 c1, cs = [c0, c1] := by
    match cs, hl with
    | [c0, c1], _ => exact ⟨c0, c1, rfl⟩
  rw [cell1_strs] at h0
  rw [cell1_int] at h1
  simp only [Rows.uptoBulk, Rows.uptoBulkAll] at hb
  obtain ⟨v, ls, e0, h2, h4⟩ := strR_open2 h0 (by omega)
  obtain ⟨rv, e1, _, h3⟩ := DataW.trod_int Tryz.underlying3 h1
  simp only [List.drop_zero, List.take_succ_cons, List.take_zero, List.cons.injEq, and_true] at e0
  have e2 : c1 = .int .i64 rv := by simpa using e1
  exact ⟨v, ls, rv, by rw [e0, e2], h2, h4, h3⟩
end Go.Proofs.YtpbhndmfmnfeoaaGreat

/- Types that come in, and how long their labels may be. -/
namespace Go.Proofs.YtpbhndmfmnfeoaaGreat.Ug
open Go.ChangeShapes Go.WideShapes Go.ChangeAt Go.WideMaps Go.WideElems Go.RowKit

mutual
/-- Its labels are no longer than texts can be. -/
def lbl : Ty → Prop
  | .mk _ _ _ kids ls _ => (∀ s ∈ ls, s.length ≤ maxLen) ∧ lblL kids
def lblL : List Ty → Prop
  | [] => True
  | t :: r => lbl t ∧ lblL r
end
theorem lblL_of : ∀ {l : List Ty}, (∀ t ∈ l, lbl t) → lblL l
  | [], _ => trivial
  | t :: r, h => ⟨h t (List.mem_cons_self ..), lblL_of fun u hu => h u (List.mem_cons_of_mem _ hu)⟩
theorem lblL_mem : ∀ {l : List Ty}, lblL l → ∀ t ∈ l, lbl t
  | _ :: _, h, _, .head _ => h.1
  | _ :: _, h, _, .tail _ hm => lblL_mem h.2 _ hm
set_option maxRecDepth 100000 in
/-- A type's cells that came in. -/
theorem trL_open {H : Type} {enc : TypeId × Value → H} {W : World} : ∀ (fuel : Nat) (cs : List Value) (x : DataW H × List MemPlace), DataW.trod enc Tryz.prog W 0 (fun _ => true) true fuel 44 cs = some x →
    Rows.uptoBulk x.1 ≤ 2000000 → ∃ t, TRV W t cs ∧ lbl t ∧ t.size ≤ Rows.uptoBulk x.1 := by
  intro fuel
  induction fuel using Nat.strongRecOn with
  | _ fuel ih =>
  intro cs x h hb
  obtain ⟨y0, y1, y2, y3, y4, n, rfl, hx, hl, h0, h1, h2, h3, h4⟩ := trod5 Tryz.underlying44 h
  rw [hx] at hb ⊢
  clear hx h
  rw [cell6_type] at hl
  obtain ⟨c0, c1, c2, c3, c4, c5, rfl⟩ : ∃ c0 c1 c2 c3 c4 c5, cs = [c0, c1, c2, c3, c4, c5] := by
    match cs, hl with
    | [c0, c1, c2, c3, c4, c5], _ => exact ⟨c0, c1, c2, c3, c4, c5, rfl⟩
  simp only [cell1_int, cell1_string, cell1_kids, cell2_row, List.drop_zero, List.drop_succ_cons, List.take_succ_cons, List.take_zero] at h0 h1 h2 h3 h4
  obtain ⟨k, e0, _, w0⟩ := DataW.trod_int Tryz.underlying3 h0
  obtain ⟨nm, e1, _, _⟩ := DataW.trod_string Tryz.underlying9 h1
  obtain ⟨v, e2, _, w2⟩ := DataW.trod_int Tryz.underlying3 h2
  simp only [Rows.uptoBulk, Rows.uptoBulkAll] at hb ⊢
  obtain ⟨lv, ls, rv, e4, hst, hlb, w4⟩ := rwV_open2 h4 (by omega)
  simp only [List.cons.injEq, and_true] at e0 e1 e2 e4
  obtain ⟨rfl, rfl⟩ := e4
  subst e0 e1 e2
  have hnm : nm = ba nm.data.toList := ba_of nm
  rcases DataW.trod_slice Tryz.underlying42 h3 with ⟨e3, rfl⟩ | ⟨a, len, cap, elems, rest, m, rfl, e3, rfl, _, hlc, hm, hel, hget, _, _⟩
  · simp only [List.cons.injEq, and_true] at e3
    subst e3
    refine ⟨.mk k nm.data.toList v [] ls rv, ⟨.slice none 0 0, c4, by unfold tyC; rw [← hnm], .inl ⟨rfl, rfl⟩, hst, ⟨w0, w2, w4⟩, fun i t ht => by simp at ht⟩, ⟨hlb, trivial⟩, ?_⟩
    simp only [Ty.size, Ty.sizeL]
    omega
  · simp only [List.cons.injEq, and_true] at e3
    subst e3
    simp only [Rows.uptoBulk] at hb
    rw [cell6_type] at hget
    have key : ∀ (i : Nat) y, elems[i]? = some y → Rows.uptoBulk y.1 ≤ Rows.uptoBulkAll (elems.map (·.1)) → ∃ t, (TR W ⟨a.block, a.off + i * 6, none⟩ t ∧ lbl t) ∧ t.size ≤ Rows.uptoBulk y.1 := by
      intro i y hy hby
      have hi : i < len := by rw [← hel]; exact (List.getElem?_eq_some_iff.1 hy).1
      have hg := hget i hi
      rw [hy] at hg
      obtain ⟨cs', hc, ht⟩ := Option.bind_eq_some_iff.1 hg
      obtain ⟨t, h5, h5l, h6⟩ := ih m (by omega) cs' y ht (by omega)
      obtain ⟨_, hcl, hcc⟩ := World.cells?_some hc
      refine ⟨t, ⟨h5.at_ rfl (fun j u hu => ?_), h5l⟩, h6⟩
      have hj : j < 6 := by rw [← hcl]; exact (List.getElem?_eq_some_iff.1 hu).1
      have h7 := hcc j hj
      rw [hu, Addr.add_add] at h7
      have hsp := World.cell?_spot h7
      rw [← h7]
      congr 1
      unfold Addr.add at hsp ⊢
      split
      · rename_i h0
        rw [if_pos h0] at hsp
        obtain ⟨ab, ao, asp⟩ := a
        simp only at hsp
        subst hsp
        simp; omega
      · simp; omega
    obtain ⟨ks, hkl, hkk, hks⟩ := each_all (fun y : DataW H × List MemPlace => y.1) Ty.size elems (fun i t => TR W ⟨a.block, a.off + i * 6, none⟩ t ∧ lbl t) key
    refine ⟨.mk k nm.data.toList v ks ls rv, ⟨.slice (some a) len cap, c4, by unfold tyC; rw [← hnm], .inr ⟨a, cap, by rw [hkl, hel], by rw [hkl, hel]; exact hlc, fun h0 => ?_⟩, hst, ⟨w0, w2, w4⟩, fun i t ht => (hkk i t ht).1⟩, ⟨hlb, lblL_of fun t ht => by obtain ⟨i, hi⟩ := List.getElem?_of_mem ht; exact (hkk i t hi).2⟩, ?_⟩
    · rw [hkl, hel] at h0
      have hg := hget 0 h0
      rw [List.getElem?_eq_getElem (by omega)] at hg
      obtain ⟨cs', hc, _⟩ := Option.bind_eq_some_iff.1 hg
      obtain ⟨_, hcl, hcc⟩ := World.cells?_some hc
      have h7 := hcc 0 (by omega)
      rw [List.getElem?_eq_getElem (by omega)] at h7
      have := World.cell?_spot h7
      simpa [Addr.add] using this
    · simp only [Ty.size, Rows.uptoBulk]
      rw [sizeL_sum]
      omega
end Go.Proofs.YtpbhndmfmnfeoaaGreat.Ug

/- The reference's Vars: what it answers; what is closed stays. -/
namespace Go.Proofs.YtpbhndmfmnfeoaaGreat
open Go.RowKit

def withL (L : List Int) (n : Int) : List Int := if n ∈ L then L else L ++ [n]
abbrev LL2 := List Int × List Int
def varsF (k rv : Int) (f : Bool) (s : LL2) : LL2 := if f = true ∧ k = 5 ∧ 0 < rv then (s.1, withL s.2 rv) else s
mutual
def varsT : Ty → LL2 → LL2
  | .mk k _ v kids _ rv, s => varsTL k rv true kids (if k = 7 then (withL s.1 v, s.2) else s)
def varsTL (k rv : Int) (f : Bool) : List Ty → LL2 → LL2
  | [], s => s
  | t :: r, s => varsTL k rv false r (varsF k rv f (varsT t s))
end
theorem withL_len (L : List Int) (n : Int) : (withL L n).length ≤ L.length + 1 := by unfold withL; split <;> simp
theorem withL_mem (L : List Int) (n : Int) : n ∈ withL L n := by unfold withL; split <;> simp_all
theorem withL_sub {L : List Int} {n x : Int} (h : x ∈ L) : x ∈ withL L n := by unfold withL; split <;> simp_all
theorem withL_all {L : List Int} {n : Int} {P : Int → Prop} (h : ∀ x ∈ L, P x) (hn : P n) : ∀ x ∈ withL L n, P x := by
  intro x hx
  unfold withL at hx
  split at hx
  · exact h x hx
  · rcases List.mem_append.1 hx with hx | hx
    · exact h x hx
    · rw [List.mem_singleton.1 hx]; exact hn
theorem varsF_len (k rv : Int) (f : Bool) (s : LL2) : (varsF k rv f s).1.length ≤ s.1.length + 1 ∧ (varsF k rv f s).2.length ≤ s.2.length + 1 := by
  unfold varsF
  split
  · exact ⟨by simp, withL_len _ _⟩
  · exact ⟨by omega, by omega⟩
theorem varsF_false (k rv : Int) (s : LL2) : varsF k rv false s = s := if_neg (by simp)
theorem varsF_fst (k rv : Int) (f : Bool) (s : LL2) : (varsF k rv f s).1 = s.1 := by unfold varsF; split <;> rfl
mutual
theorem varsT_len : ∀ (t : Ty) (s : LL2), (varsT t s).1.length ≤ s.1.length + t.size ∧ (varsT t s).2.length ≤ s.2.length + t.size
  | .mk k nm v kids ls rv, s => by
    have h1 := varsTL_len k rv true kids (if k = 7 then (withL s.1 v, s.2) else s)
    have h2 := withL_len s.1 v
    simp only [varsT, Ty.size]
    have e1 : (if k = 7 then (withL s.1 v, s.2) else s).1.length ≤ s.1.length + 1 := by split <;> simp [h2]
    have e3 : (if true = true then 1 else 0 : Nat) = 1 := rfl
    rw [e3] at h1
    have e2 : (if k = 7 then (withL s.1 v, s.2) else s).2.length ≤ s.2.length := by split <;> simp
    omega
theorem varsTL_len (k rv : Int) : ∀ (f : Bool) (l : List Ty) (s : LL2), (varsTL k rv f l s).1.length ≤ s.1.length + Ty.sizeL l ∧ (varsTL k rv f l s).2.length ≤ s.2.length + Ty.sizeL l + (if f = true then 1 else 0)
  | f, [], s => by simp [varsTL, Ty.sizeL]
  | f, t :: r, s => by
    have h1 := varsT_len t s
    have h3 := varsTL_len k rv false r (varsF k rv f (varsT t s))
    have h4 := varsF_fst k rv f (varsT t s)
    have h2 := (varsF_len k rv f (varsT t s)).2
    simp only [varsTL, Ty.sizeL]
    rw [h4] at h3
    simp only [Bool.false_eq_true, if_false] at h3
    cases f
    · rw [varsF_false] at h3 ⊢
      simp
      omega
    · simp
      omega
end
theorem varsTL_snoc (k rv : Int) (t : Ty) : ∀ (l : List Ty) (f : Bool) (s : LL2), varsTL k rv f (l ++ [t]) s = varsF k rv (f && l.isEmpty) (varsT t (varsTL k rv f l s))
  | [], f, s => by simp [varsTL]
  | u :: r, f, s => by
    simp only [List.cons_append, varsTL, varsTL_snoc k rv t r, List.isEmpty_cons, Bool.and_false, Bool.false_and]
mutual
theorem varsT_all {P : Int → Prop} : ∀ (t : Ty) (s : LL2), (∀ x ∈ s.1, x ∈ (varsT t s).1) ∧ ∀ x ∈ s.2, x ∈ (varsT t s).2
  | .mk k nm v kids ls rv, s => by
    have h1 := varsTL_all (P := P) k rv true kids (if k = 7 then (withL s.1 v, s.2) else s)
    simp only [varsT]
    refine ⟨fun x hx => h1.1 x ?_, fun x hx => h1.2 x ?_⟩
    · split
      · exact withL_sub hx
      · exact hx
    · split <;> exact hx
theorem varsTL_all {P : Int → Prop} (k rv : Int) : ∀ (f : Bool) (l : List Ty) (s : LL2), (∀ x ∈ s.1, x ∈ (varsTL k rv f l s).1) ∧ ∀ x ∈ s.2, x ∈ (varsTL k rv f l s).2
  | f, [], s => ⟨fun _ h => h, fun _ h => h⟩
  | f, t :: r, s => by
    have h1 := varsT_all (P := P) t s
    have h3 := varsTL_all (P := P) k rv false r (varsF k rv f (varsT t s))
    have h4 := varsF_fst k rv f (varsT t s)
    simp only [varsTL]
    refine ⟨fun x hx => h3.1 x (by rw [h4]; exact h1.1 x hx), fun x hx => h3.2 x ?_⟩
    unfold varsF
    split
    · exact withL_sub (h1.2 x hx)
    · exact h1.2 x hx
end
/-- No label comes ahead of the one before it. -/
def RiseS (ls : List Str) : Prop := ∀ (i : Nat) a b, ls[i]? = some a → ls[i + 1]? = some b → ¬ b < a
mutual
/-- What is right has no row variable but at a function, and its labels in order. -/
def RightP : Ty → Prop
  | .mk k _ _ kids ls rv => ((rv = 0 ∨ (k = 5 ∧ kids.length = 2 ∧ 0 ≤ rv)) ∧ RiseS ls) ∧ RightPL kids
def RightPL : List Ty → Prop
  | [] => True
  | t :: r => RightP t ∧ RightPL r
end
theorem RightPL_iff : ∀ l : List Ty, RightPL l ↔ ∀ t ∈ l, RightP t
  | [] => by simp [RightPL]
  | t :: r => by simp [RightPL, RightPL_iff r]
mutual
theorem closed_ap {T : Int → Option Ty} {R : Int → Option (List Str × Int)} : ∀ (t : Ty) (s : LL2), RightP t → (∀ x ∈ (varsT t s).1, T x = none) → (∀ x ∈ (varsT t s).2, R x = none) → apT T t = t ∧ pcsT T t = t.size ∧ rowsFree R T t
  | .mk k nm v kids ls rv, s, hR, hT, hRr => by
    simp only [RightP] at hR
    simp only [varsT] at hT hRr
    have hins : insT T k v = none := by
      unfold insT
      split
      · rename_i hk
        refine hT v ((varsTL_all (P := fun _ => True) k rv true kids _).1 v ?_)
        rw [if_pos hk]
        exact withL_mem _ _
      · rfl
    obtain ⟨h1, h2, h3⟩ := closed_apL kids _ hR.2 (k := k) (rv := rv) (f := true) hT hRr
    refine ⟨by simp only [apT, hins, h1], by simp only [pcsT, hins, h2, Ty.size], ?_⟩
    simp only [rowsFree]
    refine .inr ⟨?_, h3⟩
    rcases hR.1.1 with h | ⟨hk, hl, h0⟩
    · exact .inl h
    · rcases Int.lt_or_eq_of_le h0 with h | h
      · match kids, hl with
        | t :: r, _ =>
          refine .inr (hRr rv ?_)
          simp only [varsTL]
          refine (varsTL_all (P := fun _ => True) k rv false r _).2 rv ?_
          unfold varsF
          rw [if_pos ⟨rfl, hk, h⟩]
          exact withL_mem _ _
      · exact .inl h.symm
theorem closed_apL {T : Int → Option Ty} {R : Int → Option (List Str × Int)} {k rv : Int} : ∀ (l : List Ty) (s : LL2), RightPL l → ∀ {f : Bool}, (∀ x ∈ (varsTL k rv f l s).1, T x = none) → (∀ x ∈ (varsTL k rv f l s).2, R x = none) → apTL T l = l ∧ pcsTL T l = Ty.sizeL l ∧ rowsFreeL R T l
  | [], s, _, f, _, _ => ⟨rfl, rfl, trivial⟩
  | t :: r, s, hR, f, hT, hRr => by
    simp only [RightPL] at hR
    simp only [varsTL] at hT hRr
    obtain ⟨h1, h2, h3⟩ := closed_ap t s hR.1 (fun x hx => hT x ((varsTL_all (P := fun _ => True) k rv false r _).1 x (by rw [varsF_fst]; exact hx)))
      (fun x hx => hRr x ((varsTL_all (P := fun _ => True) k rv false r _).2 x (by unfold varsF; split; exact withL_sub hx; exact hx)))
    obtain ⟨h4, h5, h6⟩ := closed_apL r _ hR.2 (f := false) hT hRr
    exact ⟨by simp only [apTL, h1, h4], by simp only [pcsTL, Ty.sizeL, h2, h5], by simp only [rowsFreeL]; exact ⟨h3, h6⟩⟩
end
end Go.Proofs.YtpbhndmfmnfeoaaGreat
