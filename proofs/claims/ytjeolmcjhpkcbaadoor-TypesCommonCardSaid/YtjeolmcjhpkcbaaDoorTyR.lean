/- Contracts on rows of labels: are they rising, is one among them, are two of them the same. -/
import Derived.Test.YtjeolmcjhpkcbaaDoorTyA
import Derived.Test.YtjeolmcjhpkcbaaDoorTyS
import Derived.Outline
import Derived.Deep.QuietTactic
import Derived.BigQuiet
namespace Go.Proofs.YtjeolmcjhpkcbaaDoor
open Go.RowKit Go.Shelf

theorem ba_toList (l : List UInt8) : (ba l).toList = l := by rw [Lib.toList_data]; simp [ba]
theorem below_drewN (w : World) (n : Nat) : Below w.heap.size w (w.drewN n) := ⟨rfl, rfl, rfl, Nat.le_refl _, fun _ _ => rfl⟩
/-- Does none come ahead of the one before it? -/
def rising : List Str → Bool
  | a :: b :: r => !decide (b < a) && rising (b :: r)
  | _ => true
theorem rising_iff (ls : List Str) : rising ls = true ↔ ∀ (i : Nat) a b, ls[i]? = some a → ls[i + 1]? = some b → ¬ b < a := by
  induction ls with
  | nil => simp [rising]
  | cons x r ih =>
    cases r with
    | nil => simp [rising]
    | cons y r =>
      simp only [rising, Bool.and_eq_true, ih, Bool.not_eq_true', decide_eq_false_iff_not]
      constructor
      · rintro ⟨h1, h2⟩ i a b ha hb
        cases i with
        | zero => simp at ha hb; subst ha hb; exact h1
        | succ i => exact h2 i a b (by simpa using ha) (by simpa using hb)
      · intro h
        exact ⟨h 0 x y rfl rfl, fun i a b ha hb => h (i + 1) a b (by simpa using ha) (by simpa using hb)⟩
def rowOk (ls : List Str) (rv : Int) : Bool := decide (0 ≤ rv) && rising ls && !ls.contains []

set_option maxRecDepth 100000 in
set_option maxHeartbeats 1000000 in
theorem isNaN_any (x : ByteArray) (w : World) : Calls Tryd.prog 67 #[.string x] w fun e w' => e = .returned (.bool false) ∧ w' = w := by
  go_enter Tryd.func67, Tryd.ntmps67
  go_wp2
  go_ret
  exact ⟨by simp, rfl⟩
set_option maxRecDepth 100000 in
set_option maxHeartbeats 1000000 in
theorem less_any (a b : Str) (w : World) : Calls Tryd.prog 56 #[.string (ba a), .string (ba b)] w fun e w' => e = .returned (.bool (decide (a < b))) ∧ w' = w := by
  go_enter Tryd.func56, Tryd.ntmps56
  go_wp2_with (go_at_call 67; refine (isNaN_any _ _).mono ?_; rintro e w' ⟨rfl, rfl⟩)
  go_ret
  refine ⟨ret_bool ?_, rfl⟩
  first
    | rfl
    | (rw [bytesLess_eq, ba_toList, ba_toList])
    | simp [ba_toList]
set_option maxRecDepth 100000 in
set_option maxHeartbeats 2000000 in
theorem isSorted_any (v : Value) (ls : List Str) (w : World) (hv : Strs w v ls) (hb : ls.length ≤ 9223372036854775807) :
    Calls Tryd.prog 39 #[v] w fun e w' => e = .returned (.bool (rising ls)) ∧ Below w.heap.size w w' := by
  obtain ⟨A, c, rfl, hc, hm, hcell⟩ := hv
  have HC := Lib.hid hcell
  clear hcell
  go_enter Tryd.func39, Tryd.ntmps39
  go_wp2
  go_loopw [3] (fun i wr => ∃ k : Nat, k ≤ ls.length ∧ i = .int .i64 ((k : Int) - 1) ∧ Below w.heap.size w wr ∧ ∀ (j : Nat) a b, k ≤ j + 1 → ls[j]? = some a → ls[j + 1]? = some b → ¬ b < a) (fun i _ => (intOf i).toNat)
  case atStart =>
    refine ⟨ls.length, Nat.le_refl _, rfl, Below.refl _ _, fun j a b hj ha hb' => ?_⟩
    have := (List.getElem?_eq_some_iff.1 hb').1
    omega
  case round =>
    obtain ⟨k, hk, rfl, hbl, hr⟩ := hrel
    have HR := Lib.hid hr
    clear hr
    by_cases hlt : 2 ≤ k
    · obtain ⟨m, rfl⟩ : ∃ m, k = m + 2 := ⟨k - 2, by omega⟩
      obtain ⟨g, o, rfl, hx⟩ := HC.out (by omega)
      have h1 : ls[m + 1]? = some ls[m + 1] := List.getElem?_eq_getElem (by omega)
      have h0 : ls[m]? = some ls[m] := List.getElem?_eq_getElem (by omega)
      have e1 : wr.cell? ⟨g, o + (m + 1), none⟩ = some (.string (ba ls[m + 1])) := (hbl.cell (p := ⟨g, o + (m + 1), none⟩) (World.block_lt_of_cell? w _ (hx _ _ h1))).trans (hx _ _ h1)
      have e0 : wr.cell? ⟨g, o + m, none⟩ = some (.string (ba ls[m])) := (hbl.cell (p := ⟨g, o + m, none⟩) (World.block_lt_of_cell? w _ (hx _ _ h0))).trans (hx _ _ h0)
      have hd1 : ((m + 2 : Nat) : Int) - 1 = ((m + 1 : Nat) : Int) := by omega
      have hd0 : ((m + 1 : Nat) : Int) - 1 = ((m : Nat) : Int) := by omega
      rw [hd1]
      have g1 : (0 : Int) < ((m + 1 : Nat) : Int) := by omega
      generalize hx1 : ls[m + 1] = x1 at *
      generalize hx0 : ls[m] = x0 at *
      have hb1 : (m : Int) + 1 < (ls.length : Int) := by omega
      have hb0 : (m : Int) < (ls.length : Int) := by omega
      clear hx
      have hq := fun W => less_any x1 x0 W
      go_wp2
      go_quiet ((go_at_call 56; exact Calls.quiet_of_same (hq _)))
      by_cases hxx : x1 < x0
      · have hxd : decide (x1 < x0) = true := decide_eq_true hxx
        rw [hxd]
        go_wp2
        go_ret
        refine ⟨ret_bool ?_, hbl.trans ((below_drewN _ _).mono hbl.size)⟩
        rw [eq_comm, Bool.eq_false_iff]
        intro hri
        exact (rising_iff ls).1 hri m x0 x1 h0 h1 hxx
      · have hxd : decide (x1 < x0) = false := decide_eq_false hxx
        rw [hxd]
        go_wp2
        go_roundw
        case rel =>
          refine ⟨m + 1, by omega, by simp, hbl.trans ((below_drewN _ _).mono hbl.size), fun j a b hj ha hb' => ?_⟩
          rcases Nat.lt_or_ge m j with hmj | hmj
          · exact HR.out j a b (by omega) ha hb'
          · obtain rfl : j = m := by omega
            rw [h0] at ha
            rw [h1] at hb'
            injection ha with ha
            injection hb' with hb'
            subst ha hb'
            exact hxx
        case measure => (simp [intOf] <;> omega)
    · have hd : ¬ (0 : Int) < (k : Int) - 1 := by omega
      go_wp2
      go_ret
      refine ⟨ret_bool ?_, hbl⟩
      rw [eq_comm, rising_iff]
      exact fun j a b ha hb' => HR.out j a b (by omega) ha hb'
end Go.Proofs.YtjeolmcjhpkcbaaDoor
