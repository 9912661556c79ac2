/- Rows in order: what sorting does. -/
import Derived.Test.YtjeolmcjhpkcbaaDoorTyX
namespace Go.Proofs.YtjeolmcjhpkcbaaDoor
open List

theorem str_trans : ∀ a b c : Str, decide (a ≤ b) = true → decide (b ≤ c) = true → decide (a ≤ c) = true := by
  intro a b c h1 h2
  exact decide_eq_true (List.le_trans (of_decide_eq_true h1) (of_decide_eq_true h2))
theorem str_total : ∀ a b : Str, (decide (a ≤ b) || decide (b ≤ a)) = true := by
  intro a b
  rcases List.le_total a b with h | h <;> simp [h]
theorem sortS_perm (ls : List Str) : (sortS ls).Perm ls := List.mergeSort_perm _ _
theorem sortS_pair (ls : List Str) : (sortS ls).Pairwise (· ≤ ·) := by
  have := List.pairwise_mergeSort str_trans str_total ls
  exact this.imp fun h => of_decide_eq_true h
theorem pair_eq {a b : List Str} (ha : a.Pairwise (· ≤ ·)) (hb : b.Pairwise (· ≤ ·)) (h : a.Perm b) : a = b :=
  List.Perm.eq_of_pairwise (fun _ _ _ _ h1 h2 => List.le_antisymm h1 h2) ha hb h
theorem sortS_eq {a b : List Str} (h : a.Perm b) : sortS a = sortS b :=
  pair_eq (sortS_pair a) (sortS_pair b) (((sortS_perm a).trans h).trans (sortS_perm b).symm)
theorem sortS_of {a : List Str} (h : a.Pairwise (· ≤ ·)) : sortS a = a := pair_eq (sortS_pair a) h (sortS_perm a)
theorem sortS_idem (a : List Str) : sortS (sortS a) = sortS a := sortS_of (sortS_pair a)
theorem rising_pair : ∀ {a : List Str}, rising a = true ↔ a.Pairwise (· ≤ ·)
  | [] => by simp [rising]
  | [x] => by simp [rising]
  | x :: y :: r => by
    have ih := rising_pair (a := y :: r)
    rw [List.pairwise_cons]
    simp only [rising, Bool.and_eq_true, ih, Bool.not_eq_true', decide_eq_false_iff_not]
    constructor
    · rintro ⟨h1, h2⟩
      have h1 : x ≤ y := List.not_lt.1 h1
      refine ⟨fun z hz => ?_, h2⟩
      rcases List.mem_cons.1 hz with rfl | hz
      · exact h1
      · exact List.le_trans h1 ((List.pairwise_cons.1 h2).1 z hz)
    · rintro ⟨h1, h2⟩
      exact ⟨List.not_lt.2 (h1 y (by simp)), h2⟩
theorem rowOk_iff (ls : List Str) (rv : Int) : rowOk ls rv = true ↔ 0 ≤ rv ∧ ls.Pairwise (· ≤ ·) ∧ [] ∉ ls := by
  unfold rowOk
  simp only [Bool.and_eq_true, decide_eq_true_eq, rising_pair, Bool.not_eq_true', List.contains_eq_mem, decide_eq_false_iff_not]
  exact and_assoc
theorem rowOk_sortS {ls : List Str} {rv : Int} (h0 : 0 ≤ rv) (h : [] ∉ ls) : rowOk (sortS ls) rv = true :=
  (rowOk_iff _ _).2 ⟨h0, sortS_pair ls, fun hm => h ((sortS_perm ls).mem_iff.1 hm)⟩
theorem sortS_reverse (ls : List Str) : sortS ls.reverse = sortS ls := sortS_eq (List.reverse_perm ls)
theorem sortS_moved {ls : List Str} {k : Nat} {x : Str} (h : ls[k]? = some x) : sortS (x :: ls.take k ++ ls.drop (k + 1)) = sortS ls := by
  refine sortS_eq ?_
  obtain ⟨hk, rfl⟩ := List.getElem?_eq_some_iff.1 h
  have h2 : ls = ls.take k ++ (ls[k] :: ls.drop (k + 1)) := by rw [← List.drop_eq_getElem_cons hk, List.take_append_drop]
  refine List.Perm.trans ?_ (List.Perm.of_eq h2.symm)
  exact List.perm_middle.symm
end Go.Proofs.YtjeolmcjhpkcbaaDoor
