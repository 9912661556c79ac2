/- Whether a value is as it has to be, if its kids are; the place of a list of kids. -/
import Derived.Test.YtkdjmobplknmgaaDoorVaA
import Derived.Deep.QuietTactic
import Derived.BigQuiet
namespace Go.Proofs.YtkdjmobplknmgaaDoor
open Go.RowKit

theorem ba_toList (l : List UInt8) : (ba l).toList = l := by rw [Lib.toList_data]; simp [ba]
def numR (k n : Int) : Bool := if k = 1 then true else if k = 2 then decide (n = 0) || decide (n = 1) else if k = 5 then decide (0 ≤ n) else if k = 3 then decide (n = 0) else if k = 6 then decide (n = 0) else false
/-- Is a value right, if its kids are? -/
def alR (k n : Int) (nm : Str) (m : Nat) : Bool := if k = 4 then !nm.isEmpty && decide (n = 0) else nm.isEmpty && decide (m = 0) && numR k n
def alF (k n : Int) (nm : Str) (m : Nat) : Bool := decide (k ≠ 6) && decide (k ≠ 5) && alR k n nm m

set_option maxRecDepth 100000 in
set_option maxHeartbeats 2000000 in
theorem numberRight_any (w : World) (b o : Nat) (k n : Int) (nm : Str) (kv : Value) (hr : ReadsAt w ⟨b, o, none⟩ (vC k n nm kv)) :
    Calls Tryd.prog 48 #[.pointer (some ⟨b, o, none⟩)] w fun e w' => e = .returned (.bool (numR k n)) ∧ w' = w := by
  obtain ⟨c0, c1, c2, c3⟩ := reads4 hr
  clear hr
  unfold numR
  by_cases h1 : k = 1
  · subst h1
    go_enter Tryd.func48, Tryd.ntmps48
    go_wp2
    go_ret
    exact ⟨rfl, rfl⟩
  · by_cases h2 : k = 2
    · subst h2
      by_cases hn : n = 0
      · subst hn
        go_enter Tryd.func48, Tryd.ntmps48
        go_wp2
        go_ret
        exact ⟨rfl, rfl⟩
      · go_enter Tryd.func48, Tryd.ntmps48
        go_wp2
        go_ret
        exact ⟨ret_bool (by by_cases n = 1 <;> simp_all), rfl⟩
    · by_cases h5 : k = 5
      · subst h5
        go_enter Tryd.func48, Tryd.ntmps48
        go_wp2
        go_ret
        exact ⟨ret_bool (by simp), rfl⟩
      · by_cases h3 : k = 3
        · subst h3
          go_enter Tryd.func48, Tryd.ntmps48
          go_wp2
          go_ret
          exact ⟨ret_bool (by by_cases n = 0 <;> simp_all), rfl⟩
        · by_cases h6 : k = 6
          · subst h6
            go_enter Tryd.func48, Tryd.ntmps48
            go_wp2
            go_ret
            exact ⟨ret_bool (by by_cases n = 0 <;> simp_all), rfl⟩
          · go_enter Tryd.func48, Tryd.ntmps48
            go_wp2
            go_ret
            exact ⟨ret_bool (by simp), rfl⟩

set_option maxRecDepth 100000 in
set_option maxHeartbeats 2000000 in
theorem rightAlone_any (w : World) (b o : Nat) (k n : Int) (nm : Str) (A : Option Addr) (m c : Nat) (hr : ReadsAt w ⟨b, o, none⟩ (vC k n nm (.slice A m c))) :
    Calls Tryd.prog 32 #[.pointer (some ⟨b, o, none⟩)] w fun e w' => e = .returned (.bool (alR k n nm m)) ∧ w' = w := by
  have hnum := Lib.hid (numberRight_any w b o k n nm _ hr)
  obtain ⟨c0, c1, c2, c3⟩ := reads4 hr
  clear hr
  unfold alR
  by_cases h4 : k = 4
  · subst h4
    cases nm with
    | nil =>
      have hb : (ba []).toList = [] := ba_toList _
      go_enter Tryd.func32, Tryd.ntmps32
      go_wp2
      go_ret
      exact ⟨ret_bool (by simp), rfl⟩
    | cons x r =>
      have hb : (ba (x :: r)).toList = x :: r := ba_toList _
      go_enter Tryd.func32, Tryd.ntmps32
      go_wp2
      go_ret
      exact ⟨ret_bool (by by_cases n = 0 <;> simp_all), rfl⟩
  · cases nm with
    | nil =>
      have hb : (ba []).toList = [] := ba_toList _
      by_cases hm : m = 0
      · subst hm
        go_enter Tryd.func32, Tryd.ntmps32
        go_wp2_with fail
        refine hnum.out.mono ?_
        rintro e w' ⟨rfl, rfl⟩
        go_wp2
        go_ret
        exact ⟨ret_bool (by simp), rfl⟩
      · have hmi : ¬ (m : Int) = 0 := by omega
        go_enter Tryd.func32, Tryd.ntmps32
        go_wp2
        go_ret
        exact ⟨ret_bool (by simp), rfl⟩
    | cons x r =>
      have hb : (ba (x :: r)).toList = x :: r := ba_toList _
      go_enter Tryd.func32, Tryd.ntmps32
      go_wp2
      go_ret
      exact ⟨ret_bool (by simp), rfl⟩
set_option maxRecDepth 100000 in
set_option maxHeartbeats 2000000 in
theorem firstAlone_any (w : World) (b o : Nat) (k n : Int) (nm : Str) (A : Option Addr) (m c : Nat) (hr : ReadsAt w ⟨b, o, none⟩ (vC k n nm (.slice A m c))) :
    Calls Tryd.prog 35 #[.pointer (some ⟨b, o, none⟩)] w fun e w' => e = .returned (.bool (alF k n nm m)) ∧ w' = w := by
  have hnum := Lib.hid (rightAlone_any w b o k n nm A m c hr)
  obtain ⟨c0, c1, c2, c3⟩ := reads4 hr
  clear hr
  unfold alF
  by_cases h6 : k = 6
  · subst h6
    go_enter Tryd.func35, Tryd.ntmps35
    go_wp2
    go_ret
    exact ⟨ret_bool (by simp), rfl⟩
  · by_cases h5 : k = 5
    · subst h5
      go_enter Tryd.func35, Tryd.ntmps35
      go_wp2
      go_ret
      exact ⟨ret_bool (by simp), rfl⟩
    · go_enter Tryd.func35, Tryd.ntmps35
      go_wp2_with fail
      refine hnum.out.mono ?_
      rintro e w' ⟨rfl, rfl⟩
      go_wp2
      go_ret
      exact ⟨ret_bool (by simp [h6, h5]), rfl⟩
/- kids: where the list of kids stands, and how many there are. -/
set_option maxRecDepth 100000 in
set_option maxHeartbeats 2000000 in
theorem kids_any (w : World) (b o g : Nat) (k n : Int) (nm : Str) (m c : Nat) (hr : ReadsAt w ⟨b, o, none⟩ (vC k n nm (.slice (some ⟨g, 0, none⟩) m c))) (hm : 0 < m) (_hmc : m ≤ c) (_hc : c ≤ maxLen) :
    Calls Tryd.prog 38 #[.pointer (some ⟨b, o, none⟩)] w fun e w' => e = .returned (keyL ⟨g, 0, none⟩ m) ∧ Below w.heap.size w w' := by
  have hb := below_new w (.cells #[.pointer none, .int .i64 0] 66)
  have hr1 := hr.keep (hb.block b (by obtain ⟨c0, _⟩ := reads4 hr; exact World.block_lt_of_cell? w _ c0))
  obtain ⟨c0, c1, c2, c3⟩ := reads4 hr1
  clear hr hr1
  have hmi : (0 : Int) < m := by omega
  go_enter Tryd.func38, Tryd.ntmps38
  go_wp2
  go_region
  go_wp2
  exact bodyPost_ret (v := keyL ⟨g, 0, none⟩ m) (by simp [results, Tryd.results38, go_sem, keyL]) rfl ⟨rfl, (below_new _ _).drew⟩
end Go.Proofs.YtkdjmobplknmgaaDoor
