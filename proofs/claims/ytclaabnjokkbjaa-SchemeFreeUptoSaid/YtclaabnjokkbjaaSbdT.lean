/- merged: a new map of what some maps say. -/
import Derived.Test.YtclaabnjokkbjaaMg01
import Derived.Outline
namespace Go.Proofs.Ytclaabnjokkbjaa
open Go.RowKit Go.Maps

theorem SrcV.form {w : World} {u : Value} {xs : List Value} (h : SrcV w u xs) (hb : xs.length ≤ 1000000) : ∃ A c, u = .slice A xs.length c ∧ xs.length ≤ c ∧ ∀ (j : Nat) q, xs[j]? = some q → ∃ g o, A = some ⟨g, o, none⟩ ∧ w.cell? ⟨g, o + j, none⟩ = some q := by
  rcases h with ⟨rfl, rfl⟩ | ⟨ad, c, rfl, h1, h2⟩
  · exact ⟨_, _, rfl, Nat.le_refl _, fun j q hq => by simp at hq⟩
  · refine ⟨_, c, rfl, h1, fun j q hq => ?_⟩
    obtain ⟨g, o, sp⟩ := ad
    have h3 := h2 j q hq
    have hsp2 : sp = none := by
      have hlt := (List.getElem?_eq_some_iff.1 hq).1
      have h4 := h2 0 (xs[0]'(by omega)) (List.getElem?_eq_getElem (by omega))
      exact World.cell?_spot (a := ⟨g, o, sp⟩) h4
    subst hsp2
    refine ⟨g, o, rfl, ?_⟩
    have e : (⟨g, o, none⟩ : Addr).add j = ⟨g, o + j, none⟩ := by unfold Addr.add; split <;> simp_all
    rw [← e]
    exact h3
/-- A layer: the map's block, how many it says at most, what it says. -/
abbrev Ly := Nat × Nat × GMap
def lyV (l : Ly) : Value := .map (some l.1)
def lySum (ls : List Ly) : Nat := (ls.map fun l => l.2.1).sum
def lyOver (ls : List Ly) : GMap := ls.foldl (fun g l => overG g l.2.2) noG
theorem lySum_app (a b : List Ly) : lySum (a ++ b) = lySum a + lySum b := by simp [lySum]
theorem lySum_take (ls : List Ly) (k : Nat) : lySum (ls.take k) ≤ lySum ls := by
  have h : ls.take k ++ ls.drop k = ls := List.take_append_drop k ls
  have h2 := lySum_app (ls.take k) (ls.drop k)
  rw [h] at h2
  omega
theorem lyOver_app (a : List Ly) (l : Ly) : lyOver (a ++ [l]) = overG (lyOver a) l.2.2 := by simp [lyOver]

set_option maxHeartbeats 4000000 in
set_option maxRecDepth 100000 in
theorem mergedT_any (ls : List Ly) (v : Value) (w : World) (hv : SrcV w v (ls.map lyV)) (hl : ∀ l ∈ ls, MapI w 6 l.1 l.2.1 l.2.2) (hsum : lySum ls ≤ 500000) (hn : ls.length ≤ 100000) :
    Calls Try.prog 52 #[v] w fun e w' => e = .returned (.map (some w.heap.size)) ∧ MapI w' 6 w.heap.size (lySum ls) (lyOver ls) ∧ Below w.heap.size w w' := by
  obtain ⟨A, c, rfl, hc, hcell⟩ := hv.form (by simp; omega)
  simp only [List.length_map] at hc ⊢
  have HC := Lib.hid hcell
  have HL := Lib.hid hl
  have hmm := @run_makeMap Try.prog
  have hb0 := below_new w (.map #[] 0)
  have hst := MapI.made w 6
  obtain ⟨n, hnn⟩ : ∃ n, n = ls.length := ⟨_, rfl⟩
  have HN := Lib.hid hnn
  rw [← hnn] at hn hc ⊢
  have HS := Lib.hid hsum
  clear hcell hl hv hnn hsum
  go_enter Try.func52, Try.ntmps52
  go_wp2
  go_loopw [9] (fun i wr => ∃ k : Nat, k ≤ n ∧ i = .int .i64 k ∧ MapI wr 6 w.heap.size (lySum (ls.take k)) (lyOver (ls.take k)) ∧ Below w.heap.size w wr) (fun i _ => n - (intOf i).toNat)
  case atStart => exact ⟨0, Nat.zero_le _, rfl, hst, hb0⟩
  case round =>
    obtain ⟨k, hk, rfl, hM, hB⟩ := hrel
    clear hst
    by_cases hlt : k < n
    · obtain ⟨l, hl⟩ : ∃ l, ls[k]? = some l := ⟨_, List.getElem?_eq_getElem (by have := HN.out; omega)⟩
      have hlm : l ∈ ls := List.mem_of_getElem? hl
      obtain ⟨g, o, rfl, hcl⟩ := HC.out k (lyV l) (by rw [List.getElem?_map, hl]; rfl)
      have hgw := World.block_lt_of_cell? w _ hcl
      have c0 := (hB.cell (p := ⟨g, o + k, none⟩) hgw).trans hcl
      have hml := HL.out l hlm
      have hml2 := hml.later hB
      have hlw := hml.lt
      have hst2 : ls.take (k + 1) = ls.take k ++ [l] := take_step ls k l hl
      have hsm := lySum_take ls (k + 1)
      have hsm2 : lySum (ls.take (k + 1)) = lySum (ls.take k) + l.2.1 := by rw [hst2, lySum_app]; simp [lySum]
      have hov : lyOver (ls.take (k + 1)) = overG (lyOver (ls.take k)) l.2.2 := by rw [hst2, lyOver_app]
      have hcp := copyT_any w.heap.size l.1 _ _ _ _ wr hM hml2 (by omega) (by have := HS.out; omega)
      rw [← hov, ← hsm2] at hcp
      have HP := Lib.hid hcp
      have hkc : k < c := by omega
      unfold lyV at c0
      clear hcp hsm2 hov hsm hst2 hml hml2 hl hlm hcl hM
      go_wp2_with fail
      refine HP.out.mono ?_
      rintro e w2 ⟨rfl, hM2, hg2⟩
      go_wp2_with fail
      go_roundw
      case rel =>
        refine ⟨k + 1, by omega, by simp, hM2, hg2.os.trans hB.os, hg2.tape.trans hB.tape, hg2.output.trans hB.output, Nat.le_trans hB.size hg2.size, fun i hi => (hg2.block i (Nat.lt_of_lt_of_le hi hB.size) (fun e => by have := Option.some.inj e; omega)).trans (hB.block i hi)⟩
      case measure => (simp [intOf] <;> omega)
    · obtain rfl : k = n := by omega
      rw [List.take_of_length_le (by have := HN.out; omega)] at hM
      go_wp2
      go_ret
      exact ⟨rfl, hM, hB⟩
end Go.Proofs.Ytclaabnjokkbjaa
