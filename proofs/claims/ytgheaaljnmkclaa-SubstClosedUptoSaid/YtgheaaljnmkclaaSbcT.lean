/- maps.Copy at maps of types: its contract. -/
import Derived.Test.YtgheaaljnmkclaaSbb
import Derived.Laws.IdiomRangeMap
import Derived.Great.BuildSlice
import Derived.Deep.WholeRow
import Derived.Outline
namespace Go.Proofs.Ytgheaaljnmkclaa
open Go.RowKit Go.Maps

theorem zero_T (w : World) : (zeroValue 28).run Try.prog w = .ok (.agg #[.int .i64 0, .string ⟨#[]⟩, .int .i64 0, .slice none 0 0, .slice none 0 0, .int .i64 0]) w := by go_simp
theorem size_T : (Try.prog.info? 28).map (·.size) = some 6 := by kernel_rfl
set_option maxHeartbeats 4000000 in
set_option maxRecDepth 100000 in
theorem copyT_any (bd bs nd ns : Nat) (gd gs : GMap) (w : World) (hd : MapI w 6 bd nd gd) (hs : MapI w 6 bs ns gs) (hne : bd ≠ bs) (hroom : nd + ns ≤ 1000000) :
    Calls Try.prog 42 #[.map (some bd), .map (some bs)] w fun e w' => e = .returned (.tuple #[]) ∧ MapI w' 6 bd (nd + ns) (overG gd gs) ∧ w.grownBy w' (some bd) := by
  have hbd := hd.lt
  have hbs := hs.lt
  obtain ⟨Dd, hod, hsd⟩ := hd
  obtain ⟨Ds, hos, hss⟩ := hs
  have hsz : Maps.size Ds ≤ ns := by
    obtain ⟨es, clock, _, _, hs, rfl⟩ := hos
    rw [Maps.size_eq, length_sorted]
    simpa using hs
  go_enter Try.func42, Try.ntmps42
  go_wp2_with (first
    | (at_range; refine wpList_range_own _ rfl _ 73 rfl 3 28 keyedI Try.underlying73 (RV 6) bs ns _ rfl hos ?_; intro w0 hrg0 hg0 hs0)
    | go_in)
  go_frame
  go_loopw [8] (fun _ wr => ∃ (left : Lit → Bool) (cnt : Nat) (Dout : DataW Value), wr.ranges Try.prog 3 (RV 6) bs w.heap.size ns Ds left cnt ∧ cnt ≤ Maps.size Ds ∧
      wr.ownsMap Try.prog 3 (RV 6) bd (nd + (Maps.size Ds - cnt)) Dout ∧ Merged Dout Dd Ds left ∧ w.grownBy wr (some bd))
    (fun _ wr => wr.rangeLeft bs w.heap.size)
  case atStart =>
    exact ⟨_, _, Dd, hrg0, Nat.le_refl _, (hod.kept hg0 (by simp)).mono (by omega), merged_start Dd Ds, hg0.but _⟩
  case round =>
    obtain ⟨left, cnt, Dout, hrg, hcs, hout, hM, hgw⟩ := hrel
    have hrlt := hrg.lt
    go_wp2_with (first
      | (at_next; refine wpList_next_ranges _ rfl _ rfl 3 keyedI (RV 6) (Value.int .i64) Value.agg (fun key kl hkey => by obtain ⟨x, rfl, _⟩ := Maps.keyOf_int_inv Try.underlying3 hkey; exact ⟨x, rfl⟩) (fun v y hv => by obtain ⟨cs, h, _⟩ := RV_inv hv; exact ⟨cs, h⟩) bs w.heap.size ns _ _ _ rfl hrg ?_ ?_)
      | go_in)
    · intro hc0 hl0
      go_wp2
      go_end0
      exact ⟨rfl, ⟨Dout, hout.mono (by omega), merged_says hM hl0 hsd hss⟩, hgw⟩
    · intro x c kl yd yp w1 cnt1 hkey hlx hv hat hrg1 hlt hg1 hs1 hen
      obtain ⟨x', ex, rfl, hwx⟩ := Maps.keyOf_int_inv Try.underlying3 hkey
      cases ex
      obtain ⟨cs', ec, hfit, hyd⟩ := RV_inv hv
      cases ec
      cases hyd
      have hout1 := hout.kept hg1 (fun e => by have := Option.some.inj e; omega)
      have lz := Lies.new w1 28 #[.int .i64 0, .string ⟨#[]⟩, .int .i64 0, .slice none 0 0, .slice none 0 0, .int .i64 0]
      have hsc := hfit.1
      have hoc := hfit.2
      have HF := Lib.hid hfit
      have HV := Lib.hid hv
      clear hfit hv hs1
      go_wp2_with (first
        | (refine wpList_store_rowTo rfl 28 (.tmp 5) (.tmp 12) rfl rfl w1.heap.size c rfl rfl 28 _ lz (by rw [size_T, hsc]) (by rw [hsc]; rfl) hoc ?_; rw [World.setRow_alloc_new])
        | (refine wpList_load_row rfl 28 (.tmp 5) rfl _ rfl 28 _ (0, 0) _ (Lies.new w1 28 _) Try.underlying28 rfl (by rw [size_T, hsc]) ?_)
        | (at_mapUpdate; refine wpList_mapUpdate_own _ rfl _ _ _ 73 rfl 3 28 keyedI Try.underlying73 (RV 6) bd _ _ rfl (hout1.alloc _) (by unfold maxLen; omega) _ _ _ rfl rfl hkey _ _ HV.out ?_; intro w2 hout2 hg2; go_frame)
        | go_in)
      have hrg2 := (hrg1.alloc (.cells c 28)).kept hg2 (fun e => hne (Option.some.inj e).symm) (fun e => by have := Option.some.inj e; omega)
      go_roundw
      case rel =>
        refine ⟨_, cnt1, _, hrg2, by omega, hout2.mono (by omega), merged_step hM hout.isMap (keyedI.key hkey) hat, (hgw.andThen hg1 (fun j hj => .inl (by cases hj; exact Nat.le_refl _))).andThen ((World.grownBy_alloc w1 _ none).but (some bd) |>.trans hg2) (fun j hj => .inr hj)⟩
      case measure => rw [hrg2.left_eq, hrg.left_eq]; exact hlt
end Go.Proofs.Ytgheaaljnmkclaa
