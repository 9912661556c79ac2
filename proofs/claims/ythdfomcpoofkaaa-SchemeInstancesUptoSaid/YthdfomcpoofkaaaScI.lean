/- The reference's In: does a number stand in a list? -/
import Derived.Test.YthdfomcpoofkaaaMg15
import Derived.Outline
namespace Go.Proofs.Ythdfomcpoofkaaa
open Go.RowKit

set_option maxRecDepth 100000 in
set_option maxHeartbeats 4000000 in
theorem refIn_any (w : World) (L : List Int) (v : Value) (n : Int) (hr : IntR w v L) (hm : L.length ≤ 100000000) :
    Calls Try.prog 29 #[v, .int .i64 n] w fun e w' => e = .returned (.bool (decide (n ∈ L))) ∧ Below w.heap.size w w' := by
  obtain ⟨A, cA, rfl, hcA, hmA, h4⟩ := hr
  obtain ⟨NA, hNA⟩ : ∃ N, N = L.length := ⟨_, rfl⟩
  have HNA := Lib.hid hNA
  have HV := Lib.hid h4
  rw [← hNA] at hcA hm ⊢
  clear hNA h4
  go_enter Try.func29, Try.ntmps29
  go_wp2_with fail
  go_loopw [5] (fun i wr => ∃ k : Nat, k ≤ NA ∧ i = .int .i64 k ∧ n ∉ L.take k ∧ Below w.heap.size w wr) (fun i _ => NA - (intOf i).toNat)
  case atStart => exact ⟨0, Nat.zero_le _, rfl, by simp, Below.refl _ w⟩
  case round =>
    obtain ⟨k, hk, rfl, hni, hB⟩ := hrel
    have HB := Lib.hid hB
    have HNI := Lib.hid hni
    by_cases hlt : k < NA
    · obtain ⟨x, hx⟩ : ∃ x, L[k]? = some x := ⟨_, List.getElem?_eq_getElem (by have := HNA.out; omega)⟩
      obtain ⟨hok, g, o, rfl, h6⟩ := HV.out k x hx
      have z6 := (hB.cell (p := ⟨g, o + k, none⟩) (World.block_lt_of_cell? w _ h6)).trans h6
      have hlti : (k : Int) < (NA : Int) := by omega
      have hkc : k < cA := by omega
      have HST := Lib.hid (take_step L k x hx)
      have HX := Lib.hid hx
      clear h6 hx hB hni
      by_cases hxn : x = n
      · subst hxn
        go_wp2_with fail
        go_ret
        exact ⟨ret_bool (by simp [List.mem_of_getElem? HX.out]), HB.out⟩
      · have hxb : (x == n) = false := by simpa using hxn
        go_wp2_with fail
        go_roundw
        case rel => exact ⟨k + 1, by omega, by simp, by rw [HST.out]; simpa [Ne.symm hxn] using HNI.out, HB.out⟩
        case measure => simp [intOf]; omega
    · obtain rfl : k = NA := by omega
      have hnot : n ∉ L := by
        have h := HNI.out
        rwa [List.take_of_length_le (by have := HNA.out; omega)] at h
      have HN := Lib.hid hnot
      clear hB hni hnot
      go_wp2_with fail
      go_ret
      exact ⟨ret_bool (by simp [HN.out]), HB.out⟩
end Go.Proofs.Ythdfomcpoofkaaa
