/- Calm: is a row closed, and has it no label but console? -/
import Derived.Test.YtjeolmcjhpkcbaaDoorTyT
import Derived.Outline
namespace Go.Proofs.YtjeolmcjhpkcbaaDoor
open Go.RowKit Go.Shelf

def conB : Str := [99, 111, 110, 115, 111, 108, 101]
def calmR (ls : List Str) (rv : Int) : Bool := decide (rv = 0) && ls.all (fun s => decide (s = conB))
set_option maxRecDepth 100000 in
set_option maxHeartbeats 1000000 in
theorem calm1_any (s : Str) (w : World) : Calls Tryd.prog 47 #[.string (ba s)] w fun e w' => e = .returned (.bool (!decide (s = conB))) ∧ w' = w := by
  go_enter Tryd.func47, Tryd.ntmps47
  go_wp2
  go_ret
  refine ⟨ret_bool ?_, rfl⟩
  first
    | (simp [ba_toList, conB]; done)
    | (by_cases hs : s = conB
       · subst hs; simp [ba_toList, conB]
       · have hd : decide (s = conB) = false := decide_eq_false hs
         rw [hd]; unfold conB at hs; simp [ba_toList, hs])
set_option maxRecDepth 100000 in
set_option maxHeartbeats 2000000 in
theorem indexFunc_any (v : Value) (ls : List Str) (w : World) (hv : Strs w v ls) (hb : ls.length ≤ 9223372036854775807) :
    Calls Tryd.prog 59 #[v, .func (.func 47) #[] #[]] w fun e w' => (∃ i : Int, e = .returned (.int .i64 i) ∧ (ls.all (fun s => decide (s = conB)) = decide (i < 0))) ∧ w' = w := by
  obtain ⟨A, c, rfl, hc, hm, hcell⟩ := hv
  have HC := Lib.hid hcell
  clear hcell
  go_enter Tryd.func59, Tryd.ntmps59
  go_wp2
  go_loop [8] (fun i => ∃ k : Nat, k ≤ ls.length ∧ i = .int .i64 k ∧ ∀ (j : Nat) s, j < k → ls[j]? = some s → s = conB) (fun i => ls.length - (intOf i).toNat)
  case atStart => exact ⟨0, Nat.zero_le _, rfl, fun j s hj => by omega⟩
  case round =>
    obtain ⟨k, hk, rfl, hr⟩ := hrel
    have HR := Lib.hid hr
    clear hr
    by_cases hlt : k < ls.length
    · obtain ⟨g, o, rfl, hx⟩ := HC.out (by omega)
      have h0 : ls[k]? = some ls[k] := List.getElem?_eq_getElem hlt
      have e0 := hx _ _ h0
      generalize ls[k] = x at *
      have hkc : k < c := by omega
      clear hx
      go_wp2_with fail
      refine (calm1_any x _).mono ?_
      rintro e w' ⟨rfl, rfl⟩
      by_cases hxx : x = conB
      · have hd : decide (x = conB) = true := decide_eq_true hxx
        rw [hd]
        go_wp2
        go_round
        case rel =>
          refine ⟨k + 1, by omega, by go_num, fun j s hj hs => ?_⟩
          rcases Nat.lt_or_ge j k with h | h
          · exact HR.out j s h hs
          · obtain rfl : j = k := by omega
            rw [h0] at hs
            injection hs with hs
            rw [← hs]; exact hxx
        case measure => simp [intOf]; omega
      · have hd : decide (x = conB) = false := decide_eq_false hxx
        rw [hd]
        go_wp2
        go_ret
        refine ⟨⟨k, rfl, ?_⟩, rfl⟩
        rw [show decide ((k : Int) < 0) = false from decide_eq_false (by omega), List.all_eq_false]
        exact ⟨x, List.mem_of_getElem? h0, by simpa using hxx⟩
    · go_wp2
      go_ret
      refine ⟨⟨-1, rfl, ?_⟩, rfl⟩
      rw [show decide ((-1 : Int) < 0) = true from rfl, List.all_eq_true]
      intro s hs
      obtain ⟨j, hj⟩ := List.mem_iff_getElem?.1 hs
      have hjl := (List.getElem?_eq_some_iff.1 hj).1
      simpa using HR.out j s (by omega) hj
set_option maxRecDepth 100000 in
set_option maxHeartbeats 1000000 in
theorem containsFunc_any (v : Value) (ls : List Str) (w : World) (hv : Strs w v ls) (hb : ls.length ≤ 9223372036854775807) :
    Calls Tryd.prog 46 #[v, .func (.func 47) #[] #[]] w fun e w' => e = .returned (.bool (!ls.all (fun s => decide (s = conB)))) ∧ w' = w := by
  have h := indexFunc_any v ls w hv hb
  have H := Lib.hid h
  obtain ⟨A, c, rfl, _⟩ := hv.slice
  clear h
  go_enter Tryd.func46, Tryd.ntmps46
  go_wp2_with fail
  refine H.out.mono ?_
  rintro e w' ⟨⟨i, rfl, hi⟩, rfl⟩
  have HI := Lib.hid hi
  clear hi H
  by_cases h0 : i < 0
  · have h1 : ¬ 0 ≤ i := by omega
    go_wp2
    go_ret
    exact ⟨ret_bool (by rw [HI.out]; simp [h0]), rfl⟩
  · have h1 : 0 ≤ i := by omega
    go_wp2
    go_ret
    exact ⟨ret_bool (by rw [HI.out]; simp [h0]), rfl⟩
set_option maxRecDepth 100000 in
set_option maxHeartbeats 1000000 in
theorem calm_any (v : Value) (ls : List Str) (rv : Int) (w : World) (hv : Strs w v ls) (hb : ls.length ≤ 9223372036854775807) :
    Calls Tryd.prog 22 #[.agg #[v, .int .i64 rv]] w fun e w' => e = .returned (.bool (calmR ls rv)) ∧ Below w.heap.size w w' := by
  have hb0 := below_new w (.cells #[v, .int .i64 rv] 25)
  have h := containsFunc_any v ls _ (hv.later hb0) hb
  have H := Lib.hid h
  obtain ⟨A, c, rfl, _⟩ := hv.slice
  unfold calmR
  clear h
  by_cases hr : rv = 0
  · subst hr
    go_enter Tryd.func22, Tryd.ntmps22
    go_wp2_with fail
    refine H.out.mono ?_
    rintro e w' ⟨rfl, rfl⟩
    go_wp2
    go_ret
    exact ⟨ret_bool (by simp), hb0⟩
  · go_enter Tryd.func22, Tryd.ntmps22
    go_wp2
    go_ret
    exact ⟨ret_bool (by simp [hr]), hb0⟩
end Go.Proofs.YtjeolmcjhpkcbaaDoor
