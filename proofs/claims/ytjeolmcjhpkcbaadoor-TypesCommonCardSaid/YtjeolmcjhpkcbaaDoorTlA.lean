/- What Add and Less do to rows in order. -/
import Derived.Test.YtjeolmcjhpkcbaaDoorTsA
import Derived.Test.YtjeolmcjhpkcbaaDoorTyY
namespace Go.Proofs.YtjeolmcjhpkcbaaDoor
open List

theorem lessL_erase (ls : List Str) (s : Str) : lessL ls s = ls.erase s := by
  unfold lessL
  split
  · exact (List.erase_eq_eraseIdx_of_idxOf rfl).symm
  · rename_i h
    exact (List.erase_of_not_mem h).symm
theorem add_perm (L : List Str) (s : Str) : (sortS (L ++ [s])).Perm (s :: L) := (sortS_perm _).trans (List.perm_append_comm (l₁ := L) (l₂ := [s]))
theorem add_mem (L : List Str) (s : Str) : s ∈ sortS (L ++ [s]) := (add_perm L s).mem_iff.2 (by simp)
theorem add_len (L : List Str) (s : Str) : (sortS (L ++ [s])).length = L.length + 1 := by rw [sortS_len]; simp
theorem add_ok {L : List Str} {rv : Int} {s : Str} (h : rowOk L rv = true) (hs : s ≠ []) : rowOk (sortS (L ++ [s])) rv = true := by
  obtain ⟨h1, h2, h3⟩ := (rowOk_iff _ _).1 h
  refine rowOk_sortS h1 fun hm => ?_
  rcases List.mem_append.1 hm with hm | hm
  · exact h3 hm
  · exact hs (List.mem_singleton.1 hm).symm
theorem add_less {L : List Str} {rv : Int} (h : rowOk L rv = true) (s : Str) : lessL (sortS (L ++ [s])) s = L := by
  obtain ⟨_, h2, _⟩ := (rowOk_iff _ _).1 h
  rw [lessL_erase]
  refine pair_eq ((sortS_pair _).sublist List.erase_sublist) h2 ?_
  have := (add_perm L s).erase s
  rwa [List.erase_cons_head] at this
theorem calm_add (L : List Str) (rv : Int) (s : Str) : calmR (sortS (L ++ [s])) rv = (calmR L rv && decide (s = conB)) := by
  unfold calmR
  rw [(add_perm L s).all_eq, List.all_cons]
  cases decide (rv = 0) <;> cases decide (s = conB) <;> cases L.all (fun s => decide (s = conB)) <;> rfl
theorem less_not {L : List Str} {s : Str} (h : s ∉ L) : lessL L s = L := by unfold lessL; rw [if_neg h]
theorem both_mem (L : List Str) (a b : Str) : (a ∈ L ∧ b ∈ lessL L a) ↔ (b ∈ L ∧ a ∈ lessL L b) := by
  rw [lessL_erase, lessL_erase]
  by_cases h : a = b
  · subst h; exact Iff.rfl
  · rw [List.mem_erase_of_ne (Ne.symm h), List.mem_erase_of_ne h]
    exact and_comm
theorem less_comm (L : List Str) (a b : Str) : lessL (lessL L a) b = lessL (lessL L b) a := by
  rw [lessL_erase, lessL_erase, lessL_erase, lessL_erase, List.erase_comm]
theorem back_both {L : List Str} {rv : Int} (h : rowOk L rv = true) {a b : Str} (ha : a ∈ L) (hb : b ∈ lessL L a) : sortS (sortS (lessL (lessL L a) b ++ [a]) ++ [b]) = L := by
  obtain ⟨_, h2, _⟩ := (rowOk_iff _ _).1 h
  refine pair_eq (sortS_pair _) h2 ?_
  rw [lessL_erase] at hb
  rw [lessL_erase, lessL_erase]
  have h3 := (add_perm (sortS ((L.erase a).erase b ++ [a])) b)
  refine h3.trans (((add_perm ((L.erase a).erase b) a).cons b).trans ?_)
  refine (List.Perm.swap a b _).trans ?_
  exact ((List.perm_cons_erase hb).symm.cons a).trans (List.perm_cons_erase ha).symm
theorem add_comm2 (L : List Str) (a b : Str) : sortS (sortS (L ++ [a]) ++ [b]) = sortS (sortS (L ++ [b]) ++ [a]) := by
  refine pair_eq (sortS_pair _) (sortS_pair _) ?_
  refine (add_perm _ b).trans (((add_perm L a).cons b).trans ?_)
  refine (List.Perm.swap a b L).trans ?_
  exact ((add_perm L b).symm.cons a).trans (add_perm _ a).symm
theorem less_ok {L : List Str} {rv : Int} (h : rowOk L rv = true) (s : Str) : (lessL L s).length ≤ L.length := by
  have _h := h
  rw [lessL_erase]
  exact (List.erase_sublist).length_le
end Go.Proofs.YtjeolmcjhpkcbaaDoor
