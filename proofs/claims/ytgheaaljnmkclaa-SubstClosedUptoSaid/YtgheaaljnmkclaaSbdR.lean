/- merged: a new map of what some maps say. -/
import Derived.Test.YtgheaaljnmkclaaSbcR
import Derived.Test.YtgheaaljnmkclaaSbdT
import Derived.Outline
namespace Go.Proofs.Ytgheaaljnmkclaa
open Go.RowKit Go.Maps

set_option maxHeartbeats 4000000 in
set_option maxRecDepth 100000 in
theorem mergedR_any (ls : List Ly) (v : Value) (w : World) (hv : SrcV w v (ls.map lyV)) (hl : ∀ l ∈ ls, MapI w 2 l.1 l.2.1 l.2.2) (hsum : lySum ls ≤ 500000) (hn : ls.length ≤ 100000) :
    Calls Try.prog 33 #[v] w fun e w' => e = .returned (.map (some w.heap.size)) ∧ MapI w' 2 w.heap.size (lySum ls) (lyOver ls) ∧ Below w.heap.size w w' := by
  obtain ⟨A, c, rfl, hc, hcell⟩ := hv.form (by simp; omega)
  simp only [List.length_map] at hc ⊢
  have HC := Lib.hid hcell
  have HL := Lib.hid hl
  have hmm := @run_makeMap Try.prog
  have hb0 := below_new w (.map #[] 0)
  have hst := MapI.made w 2
  obtain ⟨n, hnn⟩ : ∃ n, n = ls.length := ⟨_, rfl⟩
  have HN := Lib.hid hnn
  rw [← hnn] at hn hc ⊢
  have HS := Lib.hid hsum
  clear hcell hl hv hnn hsum
  go_enter Try.func33, Try.ntmps33
  go_wp2
  go_loopw [9] (fun i wr => ∃ k : Nat, k ≤ n ∧ i = .int .i64 k ∧ MapI wr 2 w.heap.size (lySum (ls.take k)) (lyOver (ls.take k)) ∧ Below w.heap.size w wr) (fun i _ => n - (intOf i).toNat)
  case atStart => exact ⟨0, Nat.zero_le _, rfl, hst, hb0⟩
  case round =>
    obtain ⟨k, hk, rfl, hM, hB⟩ := hrel
    clear hst
    by_cases hlt : k < n
    · obtain ⟨l, hl⟩ : ∃ l, ls[k]? = some l := ⟨_, List.getElem?_eq_getElem (by have := HN.out; omega)⟩
      have hlm : l ∈ ls := List.mem_of_getElem? hl
      obtain ⟨g, o, rfl, hcl⟩ := HC.out k (lyV l) (by rw [List.getElem?_map, hl]; rfl)
      have hgw := World.block_lt_of_cell? w _ hcl
      have c0 := (hB.cell (p := ⟨g, o + k, none⟩) hgw).trans hcl
      have hml := HL.out l hlm
      have hml2 := hml.later hB
      have hlw := hml.lt
      have hst2 : ls.take (k + 1) = ls.take k ++ [l] := take_step ls k l hl
      have hsm := lySum_take ls (k + 1)
      have hsm2 : lySum (ls.take (k + 1)) = lySum (ls.take k) + l.2.1 := by rw [hst2, lySum_app]; simp [lySum]
      have hov : lyOver (ls.take (k + 1)) = overG (lyOver (ls.take k)) l.2.2 := by rw [hst2, lyOver_app]
      have hcp := copyR_any w.heap.size l.1 _ _ _ _ wr hM hml2 (by omega) (by have := HS.out; omega)
      rw [← hov, ← hsm2] at hcp
      have HP := Lib.hid hcp
      have hkc : k < c := by omega
      unfold lyV at c0
      clear hcp hsm2 hov hsm hst2 hml hml2 hl hlm hcl hM
      go_wp2_with fail
      refine HP.out.mono ?_
      rintro e w2 ⟨rfl, hM2, hg2⟩
      go_wp2_with fail
      go_roundw
      case rel =>
        refine ⟨k + 1, by omega, by simp, hM2, hg2.os.trans hB.os, hg2.tape.trans hB.tape, hg2.output.trans hB.output, Nat.le_trans hB.size hg2.size, fun i hi => (hg2.block i (Nat.lt_of_lt_of_le hi hB.size) (fun e => by have := Option.some.inj e; omega)).trans (hB.block i hi)⟩
      case measure => (simp [intOf] <;> omega)
    · obtain rfl : k = n := by omega
      rw [List.take_of_length_le (by have := HN.out; omega)] at hM
      go_wp2
      go_ret
      exact ⟨rfl, hM, hB⟩
end Go.Proofs.Ytgheaaljnmkclaa
