/- The machine of package source: whether a term has what its step needs. -/
import Derived.Test.YtfkakmafedhgdaaGreatDoorMg09
namespace Go.Proofs.YtfkakmafedhgdaaGreatDoor.K
open Go Go.RowKit
namespace So

def BoolEnd (b : Bool) (w : World) (e : Ending) (w' : World) : Prop := e = .returned (.bool b) ∧ w = w'
theorem complete_u (k : Int) (nm pm : Str) (n : Int) (kids : List Tm) (arms : List Arm) : complete (.mk k nm pm n kids arms) =
    (if k = 1 ∨ k = 2 ∨ k = 3 ∨ k = 4 ∨ k = 11 then true
  else if k = 5 ∨ k = 12 ∨ k = 13 then decide (1 ≤ kids.length)
  else if k = 6 ∨ k = 7 ∨ k = 8 then decide (2 ≤ kids.length)
  else if k = 9 then decide (3 ≤ kids.length)
  else if k = 10 then decide (argc nm = some kids.length)
  else if k = 14 then decide (1 ≤ kids.length) && hdOk arms
  else false) := rfl
set_option maxRecDepth 100000 in
set_option maxHeartbeats 4000000 in
theorem complete_any {H : Mem} {w : World} (hs : Sub H w) {b o : Nat} {t : Tm} (ht : TmA H b o t) : Calls Tryz.prog 28 #[ptO b o] w (BoolEnd (complete t) w) := by
  obtain ⟨av, kv, rv, rest, hr, hsl, hks, har⟩ := ht.open
  obtain ⟨k, nm, pm, n, kids, arms⟩ := t
  simp only [Tm.k, Tm.nm, Tm.pm, Tm.n, Tm.kids, Tm.arms] at hr hsl hks har
  obtain ⟨A, c, rfl, hAc, hAl, hA⟩ := hsl
  obtain ⟨⟨B, d, rfl, hBd, hBl, hB⟩, harm⟩ := har
  have q0 : w.cell? ⟨b, o, none⟩ = some (.int .i64 k) := (hr 0 _ rfl).cell hs
  have q2 : w.cell? ⟨b, o + 2, none⟩ = some (.string (ba nm)) := (hr 2 _ rfl).cell hs
  have q5 : w.cell? ⟨b, o + 5, none⟩ = some (.slice A kids.length c) := (hr 5 _ rfl).cell hs
  have q6 : w.cell? ⟨b, o + 6, none⟩ = some (.slice B arms.length d) := (hr 6 _ rfl).cell hs
  rw [complete_u]
  unfold ptO
  have HA := Lib.hid harm
  have HB := Lib.hid hB
  have HS := Lib.hid hs
  clear harm hB hA hks hr hs ht
  by_cases h1 : k = 1
  · subst h1
    rw [if_pos (by decide)]
    go_enter Tryz.func28, Tryz.ntmps28
    go_wp2
    go_ret
    exact ⟨rfl, rfl⟩
  by_cases h2 : k = 2
  · subst h2
    rw [if_pos (by decide)]
    go_enter Tryz.func28, Tryz.ntmps28
    go_wp2
    go_ret
    exact ⟨rfl, rfl⟩
  by_cases h3 : k = 3
  · subst h3
    rw [if_pos (by decide)]
    go_enter Tryz.func28, Tryz.ntmps28
    go_wp2
    go_ret
    exact ⟨rfl, rfl⟩
  by_cases h4 : k = 4
  · subst h4
    rw [if_pos (by decide)]
    go_enter Tryz.func28, Tryz.ntmps28
    go_wp2
    go_ret
    exact ⟨rfl, rfl⟩
  by_cases h11 : k = 11
  · subst h11
    rw [if_pos (by decide)]
    go_enter Tryz.func28, Tryz.ntmps28
    go_wp2
    go_ret
    exact ⟨rfl, rfl⟩
  rw [if_neg (by omega)]
  by_cases h5 : k = 5
  · subst h5
    rw [if_pos (by decide)]
    by_cases hl : 1 ≤ kids.length
    · rw [decide_eq_true hl]
      have hi : (1 : Int) ≤ (kids.length : Int) := by omega
      go_enter Tryz.func28, Tryz.ntmps28
      go_wp2
      go_ret
      exact ⟨rfl, rfl⟩
    · rw [decide_eq_false hl]
      have hi : ¬ (1 : Int) ≤ (kids.length : Int) := by omega
      go_enter Tryz.func28, Tryz.ntmps28
      go_wp2
      go_ret
      exact ⟨rfl, rfl⟩
  by_cases h12 : k = 12
  · subst h12
    rw [if_pos (by decide)]
    by_cases hl : 1 ≤ kids.length
    · rw [decide_eq_true hl]
      have hi : (1 : Int) ≤ (kids.length : Int) := by omega
      go_enter Tryz.func28, Tryz.ntmps28
      go_wp2
      go_ret
      exact ⟨rfl, rfl⟩
    · rw [decide_eq_false hl]
      have hi : ¬ (1 : Int) ≤ (kids.length : Int) := by omega
      go_enter Tryz.func28, Tryz.ntmps28
      go_wp2
      go_ret
      exact ⟨rfl, rfl⟩
  by_cases h13 : k = 13
  · subst h13
    rw [if_pos (by decide)]
    by_cases hl : 1 ≤ kids.length
    · rw [decide_eq_true hl]
      have hi : (1 : Int) ≤ (kids.length : Int) := by omega
      go_enter Tryz.func28, Tryz.ntmps28
      go_wp2
      go_ret
      exact ⟨rfl, rfl⟩
    · rw [decide_eq_false hl]
      have hi : ¬ (1 : Int) ≤ (kids.length : Int) := by omega
      go_enter Tryz.func28, Tryz.ntmps28
      go_wp2
      go_ret
      exact ⟨rfl, rfl⟩
  rw [if_neg (by omega)]
  by_cases h6 : k = 6
  · subst h6
    rw [if_pos (by decide)]
    by_cases hl : 2 ≤ kids.length
    · rw [decide_eq_true hl]
      have hi : (2 : Int) ≤ (kids.length : Int) := by omega
      go_enter Tryz.func28, Tryz.ntmps28
      go_wp2
      go_ret
      exact ⟨rfl, rfl⟩
    · rw [decide_eq_false hl]
      have hi : ¬ (2 : Int) ≤ (kids.length : Int) := by omega
      go_enter Tryz.func28, Tryz.ntmps28
      go_wp2
      go_ret
      exact ⟨rfl, rfl⟩
  by_cases h7 : k = 7
  · subst h7
    rw [if_pos (by decide)]
    by_cases hl : 2 ≤ kids.length
    · rw [decide_eq_true hl]
      have hi : (2 : Int) ≤ (kids.length : Int) := by omega
      go_enter Tryz.func28, Tryz.ntmps28
      go_wp2
      go_ret
      exact ⟨rfl, rfl⟩
    · rw [decide_eq_false hl]
      have hi : ¬ (2 : Int) ≤ (kids.length : Int) := by omega
      go_enter Tryz.func28, Tryz.ntmps28
      go_wp2
      go_ret
      exact ⟨rfl, rfl⟩
  by_cases h8 : k = 8
  · subst h8
    rw [if_pos (by decide)]
    by_cases hl : 2 ≤ kids.length
    · rw [decide_eq_true hl]
      have hi : (2 : Int) ≤ (kids.length : Int) := by omega
      go_enter Tryz.func28, Tryz.ntmps28
      go_wp2
      go_ret
      exact ⟨rfl, rfl⟩
    · rw [decide_eq_false hl]
      have hi : ¬ (2 : Int) ≤ (kids.length : Int) := by omega
      go_enter Tryz.func28, Tryz.ntmps28
      go_wp2
      go_ret
      exact ⟨rfl, rfl⟩
  rw [if_neg (by omega)]
  by_cases h9 : k = 9
  · subst h9
    rw [if_pos (by decide)]
    by_cases hl : 3 ≤ kids.length
    · rw [decide_eq_true hl]
      have hi : (3 : Int) ≤ (kids.length : Int) := by omega
      go_enter Tryz.func28, Tryz.ntmps28
      go_wp2
      go_ret
      exact ⟨rfl, rfl⟩
    · rw [decide_eq_false hl]
      have hi : ¬ (3 : Int) ≤ (kids.length : Int) := by omega
      go_enter Tryz.func28, Tryz.ntmps28
      go_wp2
      go_ret
      exact ⟨rfl, rfl⟩
  rw [if_neg (by omega)]
  by_cases h10 : k = 10
  · subst h10
    rw [if_pos rfl]
    have hag := arguments_any w nm
    cases hq : argc nm with
    | none =>
      rw [hq] at hag
      have HAG := Lib.hid hag
      have hd : decide ((none : Option Nat) = some kids.length) = false := by simp
      rw [hd]
      clear hag hq hd
      go_enter Tryz.func28, Tryz.ntmps28
      go_wp2_with fail
      refine HAG.out.mono ?_
      rintro e w' ⟨rfl, rfl⟩
      go_wp2
      go_ret
      exact ⟨rfl, rfl⟩
    | some m =>
      rw [hq] at hag
      have HAG := Lib.hid hag
      by_cases hm : m = kids.length
      · have hd : decide (some m = some kids.length) = true := by simp [hm]
        rw [hd]
        have hi : ((kids.length : Int) == (m : Int)) = true := by rw [hm]; simp
        clear hag hq hd hm
        go_enter Tryz.func28, Tryz.ntmps28
        go_wp2_with fail
        refine HAG.out.mono ?_
        rintro e w' ⟨rfl, rfl⟩
        go_wp2
        go_ret
        exact ⟨rfl, rfl⟩
      · have hd : decide (some m = some kids.length) = false := by simp [hm]
        rw [hd]
        have hi : ((kids.length : Int) == (m : Int)) = false := by rw [beq_eq_false_iff_ne]; omega
        clear hag hq hd hm
        go_enter Tryz.func28, Tryz.ntmps28
        go_wp2_with fail
        refine HAG.out.mono ?_
        rintro e w' ⟨rfl, rfl⟩
        go_wp2
        go_ret
        exact ⟨rfl, rfl⟩
  rw [if_neg h10]
  by_cases h14 : k = 14
  · subst h14
    rw [if_pos rfl]
    by_cases hl : 1 ≤ kids.length
    · rw [decide_eq_true hl, Bool.true_and]
      have hi : (1 : Int) ≤ (kids.length : Int) := by omega
      cases arms with
      | nil =>
        have hz : ¬ (1 : Int) ≤ ((0 : Nat) : Int) := by decide
        go_enter Tryz.func28, Tryz.ntmps28
        go_wp2
        go_ret
        exact ⟨rfl, rfl⟩
      | cons a r =>
        obtain ⟨vv, _, hv1, hv2, _⟩ := HA.out 0 a rfl
        obtain ⟨g, go, rfl⟩ := HB.out (by simp)
        obtain ⟨V, vc, rfl, _, _, _⟩ := hv2.1
        have x1 : w.cell? ⟨g, go + 1, none⟩ = some (.slice V a.2.1.length vc) := by
          have h := hv1.cell HS.out
          simpa [blk, off] using h
        have hlen : (1 : Int) ≤ ((a :: r).length : Int) := by rw [List.length_cons]; omega
        have hlen0 : (0 : Int) < ((a :: r).length : Int) := by rw [List.length_cons]; omega
        obtain ⟨L, hL⟩ : ∃ L, L = (a :: r).length := ⟨_, rfl⟩
        rw [← hL] at hlen hlen0 q6 hBd
        have HLL := Lib.hid hL
        have HV := Lib.hid hv2
        clear hv1 hv2 hL
        by_cases hv : 1 ≤ a.2.1.length
        · have hvi : (1 : Int) ≤ (a.2.1.length : Int) := by omega
          have ho : hdOk (a :: r) = true := by
            obtain ⟨x, y, z⟩ := a
            cases y with
            | nil => simp at hv
            | cons => rfl
          rw [ho]
          go_enter Tryz.func28, Tryz.ntmps28
          go_wp2
          go_ret
          exact ⟨rfl, rfl⟩
        · have hvi : ¬ (1 : Int) ≤ (a.2.1.length : Int) := by omega
          have ho : hdOk (a :: r) = false := by
            obtain ⟨x, y, z⟩ := a
            cases y with
            | nil => rfl
            | cons => simp at hv
          rw [ho]
          go_enter Tryz.func28, Tryz.ntmps28
          go_wp2
          go_ret
          exact ⟨rfl, rfl⟩
    · rw [decide_eq_false hl, Bool.false_and]
      have hi : ¬ (1 : Int) ≤ (kids.length : Int) := by omega
      go_enter Tryz.func28, Tryz.ntmps28
      go_wp2
      go_ret
      exact ⟨rfl, rfl⟩
  rw [if_neg h14]
  go_enter Tryz.func28, Tryz.ntmps28
  go_wp2
  go_ret
  exact ⟨rfl, rfl⟩
end So
end Go.Proofs.YtfkakmafedhgdaaGreatDoor.K
