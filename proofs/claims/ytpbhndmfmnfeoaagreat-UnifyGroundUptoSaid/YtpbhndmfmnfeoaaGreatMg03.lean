/- maps.Copy at maps of rows: its contract. -/
import Derived.Test.YtpbhndmfmnfeoaaGreatMg01
import Derived.Laws.IdiomRangeMap
import Derived.Great.BuildSlice
import Derived.Deep.WholeRow
import Derived.Outline
namespace Go.Proofs.YtpbhndmfmnfeoaaGreat
open Go.RowKit Go.Maps

theorem zero_R (w : World) : (zeroValue 24).run Tryz.prog w = .ok (.agg #[.slice none 0 0, .int .i64 0]) w := by go_simp
theorem size_R : (Tryz.prog.info? 24).map (·.size) = some 2 := by kernel_rfl
set_option maxHeartbeats 4000000 in
set_option maxRecDepth 100000 in
theorem copyR_any (bd bs nd ns : Nat) (gd gs : GMap) (w : World) (hd : MapI w 2 bd nd gd) (hs : MapI w 2 bs ns gs) (hne : bd ≠ bs) (hroom : nd + ns ≤ 1000000) :
    Calls Tryz.prog 107 #[.map (some bd), .map (some bs)] w fun e w' => e = .returned (.tuple #[]) ∧ MapI w' 2 bd (nd + ns) (overG gd gs) ∧ w.grownBy w' (some bd) := by
  have hbd := hd.lt
  have hbs := hs.lt
  obtain ⟨Dd, hod, hsd⟩ := hd
  obtain ⟨Ds, hos, hss⟩ := hs
  have hsz : Maps.size Ds ≤ ns := by
    obtain ⟨es, clock, _, _, hs, rfl⟩ := hos
    rw [Maps.size_eq, length_sorted]
    simpa using hs
  go_enter Tryz.func107, Tryz.ntmps107
  go_wp2_with (first
    | (at_range; refine wpList_range_own _ rfl _ 84 rfl 3 24 keyedI Tryz.underlying84 (RV 2) bs ns _ rfl hos ?_; intro w0 hrg0 hg0 hs0)
    | go_in)
  go_frame
  go_loopw [8] (fun _ wr => ∃ (left : Lit → Bool) (cnt : Nat) (Dout : DataW Value), wr.ranges Tryz.prog 3 (RV 2) bs w.heap.size ns Ds left cnt ∧ cnt ≤ Maps.size Ds ∧
      wr.ownsMap Tryz.prog 3 (RV 2) bd (nd + (Maps.size Ds - cnt)) Dout ∧ Merged Dout Dd Ds left ∧ w.grownBy wr (some bd))
    (fun _ wr => wr.rangeLeft bs w.heap.size)
  case atStart =>
    exact ⟨_, _, Dd, hrg0, Nat.le_refl _, (hod.kept hg0 (by simp)).mono (by omega), merged_start Dd Ds, hg0.but _⟩
  case round =>
    obtain ⟨left, cnt, Dout, hrg, hcs, hout, hM, hgw⟩ := hrel
    have hrlt := hrg.lt
    go_wp2_with (first
      | (at_next; refine wpList_next_ranges _ rfl _ rfl 3 keyedI (RV 2) (Value.int .i64) Value.agg (fun key kl hkey => by obtain ⟨x, rfl, _⟩ := Maps.keyOf_int_inv Tryz.underlying3 hkey; exact ⟨x, rfl⟩) (fun v y hv => by obtain ⟨cs, h, _⟩ := RV_inv hv; exact ⟨cs, h⟩) bs w.heap.size ns _ _ _ rfl hrg ?_ ?_)
      | go_in)
    · intro hc0 hl0
      go_wp2
      go_end0
      exact ⟨rfl, ⟨Dout, hout.mono (by omega), merged_says hM hl0 hsd hss⟩, hgw⟩
    · intro x c kl yd yp w1 cnt1 hkey hlx hv hat hrg1 hlt hg1 hs1 hen
      obtain ⟨x', ex, rfl, hwx⟩ := Maps.keyOf_int_inv Tryz.underlying3 hkey
      cases ex
      obtain ⟨cs', ec, hfit, hyd⟩ := RV_inv hv
      cases ec
      cases hyd
      have hout1 := hout.kept hg1 (fun e => by have := Option.some.inj e; omega)
      have lz := Lies.new w1 24 #[.slice none 0 0, .int .i64 0]
      have hsc := hfit.1
      have hoc := hfit.2
      have HF := Lib.hid hfit
      have HV := Lib.hid hv
      clear hfit hv hs1
      go_wp2_with (first
        | (refine wpList_store_rowTo rfl 24 (.tmp 5) (.tmp 12) rfl rfl w1.heap.size c rfl rfl 24 _ lz (by rw [size_R, hsc]) (by rw [hsc]; rfl) hoc ?_; rw [World.setRow_alloc_new])
        | (refine wpList_load_row rfl 24 (.tmp 5) rfl _ rfl 24 _ (0, 0) _ (Lies.new w1 24 _) Tryz.underlying24 rfl (by rw [size_R, hsc]) ?_)
        | (at_mapUpdate; refine wpList_mapUpdate_own _ rfl _ _ _ 84 rfl 3 24 keyedI Tryz.underlying84 (RV 2) bd _ _ rfl (hout1.alloc _) (by unfold maxLen; omega) _ _ _ rfl rfl hkey _ _ HV.out ?_; intro w2 hout2 hg2; go_frame)
        | go_in)
      have hrg2 := (hrg1.alloc (.cells c 24)).kept hg2 (fun e => hne (Option.some.inj e).symm) (fun e => by have := Option.some.inj e; omega)
      go_roundw
      case rel =>
        refine ⟨_, cnt1, _, hrg2, by omega, hout2.mono (by omega), merged_step hM hout.isMap (keyedI.key hkey) hat, (hgw.andThen hg1 (fun j hj => .inl (by cases hj; exact Nat.le_refl _))).andThen ((World.grownBy_alloc w1 _ none).but (some bd) |>.trans hg2) (fun j hj => .inr hj)⟩
      case measure => rw [hrg2.left_eq, hrg.left_eq]; exact hlt
end Go.Proofs.YtpbhndmfmnfeoaaGreat

/- merged: a new map of what some maps say. -/
namespace Go.Proofs.YtpbhndmfmnfeoaaGreat
open Go.RowKit Go.Maps

set_option maxHeartbeats 4000000 in
set_option maxRecDepth 100000 in
theorem mergedR_any (ls : List Ly) (v : Value) (w : World) (hv : SrcV w v (ls.map lyV)) (hl : ∀ l ∈ ls, MapI w 2 l.1 l.2.1 l.2.2) (hsum : lySum ls ≤ 500000) (hn : ls.length ≤ 100000) :
    Calls Tryz.prog 84 #[v] w fun e w' => e = .returned (.map (some w.heap.size)) ∧ MapI w' 2 w.heap.size (lySum ls) (lyOver ls) ∧ Below w.heap.size w w' := by
  obtain ⟨A, c, rfl, hc, hcell⟩ := hv.form (by simp; omega)
  simp only [List.length_map] at hc ⊢
  have HC := Lib.hid hcell
  have HL := Lib.hid hl
  have hmm := @run_makeMap Tryz.prog
  have hb0 := below_new w (.map #[] 0)
  have hst := MapI.made w 2
  obtain ⟨n, hnn⟩ : ∃ n, n = ls.length := ⟨_, rfl⟩
  have HN := Lib.hid hnn
  rw [← hnn] at hn hc ⊢
  have HS := Lib.hid hsum
  clear hcell hl hv hnn hsum
  go_enter Tryz.func84, Tryz.ntmps84
  go_wp2
  go_loopw [9] (fun i wr => ∃ k : Nat, k ≤ n ∧ i = .int .i64 k ∧ MapI wr 2 w.heap.size (lySum (ls.take k)) (lyOver (ls.take k)) ∧ Below w.heap.size w wr) (fun i _ => n - (intOf i).toNat)
  case atStart => exact ⟨0, Nat.zero_le _, rfl, hst, hb0⟩
  case round =>
    obtain ⟨k, hk, rfl, hM, hB⟩ := hrel
    clear hst
    by_cases hlt : k < n
    · obtain ⟨l, hl⟩ : ∃ l, ls[k]? = some l := ⟨_, List.getElem?_eq_getElem (by have := HN.out; omega)⟩
      have hlm : l ∈ ls := List.mem_of_getElem? hl
      obtain ⟨g, o, rfl, hcl⟩ := HC.out k (lyV l) (by rw [List.getElem?_map, hl]; rfl)
      have hgw := World.block_lt_of_cell? w _ hcl
      have c0 := (hB.cell (p := ⟨g, o + k, none⟩) hgw).trans hcl
      have hml := HL.out l hlm
      have hml2 := hml.later hB
      have hlw := hml.lt
      have hst2 : ls.take (k + 1) = ls.take k ++ [l] := take_step ls k l hl
      have hsm := lySum_take ls (k + 1)
      have hsm2 : lySum (ls.take (k + 1)) = lySum (ls.take k) + l.2.1 := by rw [hst2, lySum_app]; simp [lySum]
      have hov : lyOver (ls.take (k + 1)) = overG (lyOver (ls.take k)) l.2.2 := by rw [hst2, lyOver_app]
      have hcp := copyR_any w.heap.size l.1 _ _ _ _ wr hM hml2 (by omega) (by have := HS.out; omega)
      rw [← hov, ← hsm2] at hcp
      have HP := Lib.hid hcp
      have hkc : k < c := by omega
      unfold lyV at c0
      clear hcp hsm2 hov hsm hst2 hml hml2 hl hlm hcl hM
      go_wp2_with fail
      refine HP.out.mono ?_
      rintro e w2 ⟨rfl, hM2, hg2⟩
      go_wp2_with fail
      go_roundw
      case rel =>
        refine ⟨k + 1, by omega, by simp, hM2, hg2.os.trans hB.os, hg2.tape.trans hB.tape, hg2.output.trans hB.output, Nat.le_trans hB.size hg2.size, fun i hi => (hg2.block i (Nat.lt_of_lt_of_le hi hB.size) (fun e => by have := Option.some.inj e; omega)).trans (hB.block i hi)⟩
      case measure => (simp [intOf] <;> omega)
    · obtain rfl : k = n := by omega
      rw [List.take_of_length_le (by have := HN.out; omega)] at hM
      go_wp2
      go_ret
      exact ⟨rfl, hM, hB⟩
end Go.Proofs.YtpbhndmfmnfeoaaGreat
