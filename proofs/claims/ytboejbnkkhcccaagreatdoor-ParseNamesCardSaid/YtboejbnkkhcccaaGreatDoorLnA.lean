/- What Parse answers of the two texts of ParseNames. -/
import Derived.Test.YtboejbnkkhcccaaGreatDoorPgc
import Derived.Test.YtboejbnkkhcccaaGreatDoorPzNames
namespace Go.Proofs.YtboejbnkkhcccaaGreatDoor
open Go.RowKit Pz

theorem parseR_bad {B : List UInt8} (hB : B.length ≤ 1000) (h : (∃ ws q, Lexes 0 B ws (some q)) ∨ ∃ ws, Lexes 0 B ws none ∧ ∀ sz, (Pz.program sz ⟨ws, 0, 0, 0⟩).2.er ≠ 0) : (parseR B).2.2 ≠ 0 := by
  rcases h with ⟨ws, q, h⟩ | ⟨ws, h, hp⟩
  · rw [parseR_err (lexR_err (by omega) h) (by decide)]
    exact fun e => by cases e
  · rw [parseR_ok (lexR_ok (by omega) h)]
    have := hp B.length
    obtain ⟨R, hR⟩ : ∃ R, Pz.program B.length ⟨ws, 0, 0, 0⟩ = R := ⟨_, rfl⟩
    obtain ⟨p, s⟩ := R
    rw [hR] at this
    rw [parseW_err hR this]
    exact this
theorem nmA_len (L : List UInt8) : (nmA L).length = L.length + 9 := by simp [nmA]
theorem nmB_len (L : List UInt8) : (nmB L).length = L.length + 26 := by simp [nmB]
theorem names_bad {L : List UInt8} (hi : insAll L = true) (hl : L.length ≤ 70) (hs : smallB L = false) : (parseR (nmA L)).2.2 ≠ 0 ∧ (parseR (nmB L)).2.2 ≠ 0 := by
  by_cases h0 : L = []
  · subst h0
    have h1 : (parseR (nmA [])).2.2 = 3 := by kernel_rfl
    have h2 : (parseR (nmB [])).2.2 = 3 := by kernel_rfl
    exact ⟨by rw [h1]; decide, by rw [h2]; decide⟩
  · constructor
    · refine parseR_bad (by rw [nmA_len]; omega) ?_
      rcases Lexes.bad [45, 62, 32, 48] 4 hi h0 hs with ⟨ws, q, h⟩ | ⟨x, ws, h, hx⟩
      · exact .inl ⟨_, q, lex_nmA h⟩
      · refine .inr ⟨_, lex_nmA h, fun sz => prog_nmA_bad sz x ws ?_⟩
        rcases hx with h | h | ⟨h, _⟩
        · exact .inl h
        · exact .inr (.inl h)
        · exact .inr (.inr h)
    · refine parseR_bad (by rw [nmB_len]; omega) ?_
      rcases Lexes.bad [58, 32, 105, 110, 116, 32, 45, 62, 32, 69, 32, 125, 32, 48] 11 hi h0 hs with ⟨ws, q, h⟩ | ⟨x, ws, h, hx⟩
      · exact .inl ⟨_, q, lex_nmB h⟩
      · refine .inr ⟨_, lex_nmB h, fun sz => prog_nmB_bad sz _ _ x ws ?_⟩
        rcases hx with h | h | ⟨h, ht⟩
        · exact .inl h
        · exact .inr (.inl h)
        · refine .inr (.inr ⟨h, fun e => ?_⟩)
          rw [ht] at e
          rw [e] at hi
          cases hi
theorem names_good {L : List UInt8} (hl : L.length ≤ 70) (hs : smallB L = true) : (∃ r, parseR (nmA L) = (⟨[], [], .mk 5 0 L [] 0 [.mk 2 r [] [] 0 [] []] []⟩, 0, 0)) ∧ ∃ i, parseR (nmB L) = (⟨[([69], [⟨L, (1, []), (4, [69])⟩])], [], .mk 2 i [] [] 0 [] []⟩, 0, 0) := by
  constructor
  · have h := lex_nmA (Lexes.good (t := [45, 62, 32, 48]) hs (lex_tailA _))
    refine ⟨_, (parseR_ok (lexR_ok (by rw [nmA_len]; omega) h)).trans (parseW_ok (prog_nmA _ L _ _ _) rfl ?_)⟩
    show ¬ 200 < Tm.deep _
    rw [deep_one, deep_leaf]
    omega
  · have h := lex_nmB (Lexes.good (t := [58, 32, 105, 110, 116, 32, 45, 62, 32, 69, 32, 125, 32, 48]) hs (lex_tailB _))
    refine ⟨_, (parseR_ok (lexR_ok (by rw [nmB_len]; omega) h)).trans (parseW_ok (prog_nmB _ L _ _ _ _ _ _ _ _ _) rfl ?_)⟩
    show ¬ 200 < Tm.deep _
    rw [deep_leaf]
    omega
end Go.Proofs.YtboejbnkkhcccaaGreatDoor
