/- Appending labels; labels cut short. -/
import Derived.Test.YtjeolmcjhpkcbaaDoorTsA
import Derived.Test.YtjeolmcjhpkcbaaDoorTdA
import Derived.Deep.AppendLies
import Derived.Laws.AppendOwnNone
import Derived.Outline
namespace Go.Proofs.YtjeolmcjhpkcbaaDoor
open Go.RowKit Go.Shelf Go.Sort

/-- A slice is nil, or has an address. -/
def Fm (v : Value) : Prop := v = .slice none 0 0 ∨ ∃ a n c, v = .slice (some a) n c
theorem Strs.cut {w : World} {A : Option Addr} {n c : Nat} {ls : List Str} (h : Strs w (.slice A n c) ls) (k : Nat) : Strs w (.slice A (ls.take k).length c) (ls.take k) := by
  obtain ⟨A', c', h1, h2, h3, h4⟩ := h
  injection h1 with hA hn hc
  subst hA hc
  refine ⟨A, c, rfl, by rw [List.length_take]; omega, h3, fun h0 => ?_⟩
  obtain ⟨g, o, h5, h6⟩ := h4 (by rw [List.length_take] at h0; omega)
  refine ⟨g, o, h5, fun i s hs => h6 i s ?_⟩
  rw [List.getElem?_take] at hs
  split at hs
  · exact hs
  · cases hs
theorem strs_news {w : World} {a : Addr} {n c : Nat} {ls : List Str} (h : Strs w (.slice (some a) n c) ls) : ∀ (j : Nat) u, (ls.map encStr)[j]? = some u → w.cell? (a.add j) = some u := by
  intro j u hj
  rw [List.getElem?_map] at hj
  obtain ⟨s, hs, rfl⟩ := Option.map_eq_some_iff.1 hj
  obtain ⟨A, c', h1, h2, h3, h4⟩ := h
  obtain ⟨g, o, h5, h6⟩ := h4 (by have := (List.getElem?_eq_some_iff.1 hs).1; omega)
  injection h1 with h1
  rw [h5] at h1
  injection h1 with h1
  rw [h1, Addr.add0]
  exact h6 j s hs
theorem strs_ones (ls : List Str) : ∀ x ∈ ls.map encStr, x.oneCell' = true := by
  intro x hx
  obtain ⟨s, _, rfl⟩ := List.mem_map.1 hx
  rfl
theorem World.grownBy.same (w : World) (row : Option Nat) : w.grownBy w row := ⟨rfl, rfl, rfl, Nat.le_refl _, fun _ _ _ => rfl⟩
-- labels appended to a row of own
set_option maxRecDepth 100000 in
theorem wpList_append_strs {w : World} {ops : Array Oper} {rest : List Oper} {o : Oper} {a : Act} {Q : Exit → Act → World → Prop} (hgd : o.guard = none) (s x : Operand)
    (ho : o.op = .call { callee := .builtin .append, args := #[s, x], argTypes := #[23, 23] })
    (base : Nat) (v : Value) (n : Nat) (xs : List Str) (hs : a.eval s = v) (hown : w.ownsRow base 9 1 v n (xs.map encStr)) (u : Value) (ys : List Str) (hx : a.eval x = u) (hu : Strs w u ys) (hf : Fm u)
    (hn : n ≤ 1000) (hy : ys.length ≤ 1000) (hbase : base ≤ w.heap.size)
    (h : ∀ v' w', w'.ownsRow base 9 1 v' (n + ys.length) ((xs ++ ys).map encStr) → w.grownBy w' v.ownBlock → (v' = .slice none 0 0 → v = .slice none 0 0) → (v'.ownBlock = v.ownBlock ∨ v'.ownBlock = some w.heap.size) → wpList Tryd.prog ops Q rest (a.put o.dst v') w') :
    wpList Tryd.prog ops Q (o :: rest) a w := by
  obtain ⟨i0, hi, hz0, hz1, hz2⟩ := info_parts info_str
  obtain ⟨A, c, hu2, hc, hm⟩ := hu.slice
  rcases hf with h0 | ⟨ad, n2, c2, h0⟩
  · have hl : ys.length = 0 := by rw [h0] at hu2; injection hu2 with _ e _; exact e.symm
    have hys : ys = [] := List.length_eq_zero_iff.1 hl
    subst hys
    refine wpList_append_own_none hgd s x 23 ho base 9 i0 1 Tryd.underlying23 hi v n (xs.map encStr) hs hown (hx.trans h0) ?_
    exact h v w (by rw [List.append_nil]; exact hown) (World.grownBy.same w _) id (.inl rfl)
  · have hn2 : n2 = ys.length := by rw [h0] at hu2; injection hu2
    subst hn2
    rw [h0] at hu
    refine wpList_append_own_at w hgd s x 23 ho base 9 i0 (.string ⟨#[]⟩) 1 16 Tryd.underlying23 hi hz0 hz1 hz2 rfl (by decide) v n (xs.map encStr) hs hown ad ys.length c2 (ys.map encStr) (hx.trans h0) (by simp) (strs_news hu) (strs_ones ys) (by unfold maxLen; omega) (by omega) hbase ?_
    intro v' w' h1 h2 h3 h4
    exact h v' w' (by rw [List.map_append]; exact h1) h2 (fun e => (h3.1 e).1) h4
-- the same, at a step of a region that draws
set_option maxRecDepth 100000 in
theorem step_append_strs {w : World} {ops : Array Oper} {o : Oper} {a : Act} {K : Act → World → Prop} {Q : Exit → Act → World → Prop} {E : Prop} (hgd : o.guard = none) (s x : Operand)
    (ho : o.op = .call { callee := .builtin .append, args := #[s, x], argTypes := #[23, 23] })
    (base : Nat) (v : Value) (n : Nat) (xs : List Str) (hs : a.eval s = v) (hown : w.ownsRow base 9 1 v n (xs.map encStr)) (hn0 : 0 < n) (ad : Addr) (m c : Nat) (ys : List Str) (hx : a.eval x = .slice (some ad) m c) (hm : m = ys.length)
    (hu : ∀ (j : Nat) u, (ys.map encStr)[j]? = some u → w.cell? (ad.add j) = some u)
    (hn : n ≤ 1000) (hy : ys.length ≤ 1000) (hbase : base ≤ w.heap.size)
    (h : ∀ g cap w', w'.ownsRow base 9 1 (.slice (some ⟨g, 0, none⟩) (n + m) cap) (n + m) ((xs ++ ys).map encStr) → w.grownBy w' v.ownBlock → (v.ownBlock = some g ∨ g = w.heap.size) → g < w'.heap.size → K (a.put o.dst (.slice (some ⟨g, 0, none⟩) (n + m) cap)) w') :
    if Region.wanted o (yielded ops a.tmps) = true then Oper.wp Tryd.prog o a w K Q else E := by
  obtain ⟨i0, hi, hz0, hz1, hz2⟩ := info_parts info_str
  subst hm
  have hw : Region.wanted o (yielded ops a.tmps) = true := by simp [Region.wanted, hgd]
  rw [if_pos hw]
  obtain ⟨v', w', hr, h2, h3, _, h5⟩ := run_append_own_at (P := Tryd.prog) w base 23 o.type 9 i0 (.string ⟨#[]⟩) 1 16 Tryd.underlying23 hi hz0 hz1 hz2 rfl (by decide) v n (xs.map encStr) hown ad ys.length c (ys.map encStr) (by simp) hu (strs_ones ys) (by unfold maxLen; omega) (by omega) hbase
  obtain ⟨g, cap, rfl, _, hlt⟩ := h2.form (by omega)
  have h6 : v.ownBlock = some g ∨ g = w.heap.size := by
    rcases h5 with h5 | h5
    · exact .inl (by rw [← h5]; rfl)
    · right; simpa [Value.ownBlock] using h5
  unfold Oper.wp execOp
  simp only [ho, resolve, invoke, builtin, Sem.run_bind, Sem.run_pure, Result.andThen_ok, List.map_toArray, List.map_cons, List.map_nil, hs, hx, hr]
  exact h g cap w' (by rw [List.map_append]; exact h2) h3 h6 hlt
end Go.Proofs.YtjeolmcjhpkcbaaDoor
