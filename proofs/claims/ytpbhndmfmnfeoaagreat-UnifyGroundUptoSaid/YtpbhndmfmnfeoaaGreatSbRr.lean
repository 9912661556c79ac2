/- The reference's RightRow: true only where no variable is below nought. -/
import Derived.Test.YtpbhndmfmnfeoaaGreatMg15
import Derived.Test.YtpbhndmfmnfeoaaGreatMg39
import Derived.Outline
import Derived.BigQuiet
import Derived.Sort.Walk0
namespace Go.Proofs.YtpbhndmfmnfeoaaGreat
open Go.RowKit

theorem baR_toList (l : List UInt8) : (ba l).toList = l := by rw [Lib.toList_data]; simp [ba]
set_option maxRecDepth 100000 in
set_option maxHeartbeats 4000000 in
theorem rrow_any (v : Value) (L : List Str) (rv : Int) (w : World) (hv : StrR w v L) :
    Calls Tryz.prog 6 #[.agg #[v, .int .i64 rv]] w fun e w' => ∃ b, e = .returned (.bool b) ∧ (b = true → 0 ≤ rv ∧ RiseS L) ∧ Below w.heap.size w w' := by
  have hb := hv.2
  obtain ⟨A, c, rfl, hc, hm⟩ := hv.form
  have hb1 := below_new w (.cells #[.slice A L.length c, .int .i64 rv] 24)
  have HV := Lib.hid (fun (j : Nat) s (h : L[j]? = some s) => hm j s h)
  clear hv hm
  obtain ⟨N, hN⟩ : ∃ N, N = L.length := ⟨_, rfl⟩
  have HN := Lib.hid hN
  rw [← hN] at hb hc hb1 ⊢
  clear hN
  obtain ⟨W, hW⟩ : ∃ W, W = w.alloc (.cells #[.slice A N c, .int .i64 rv] 24) := ⟨_, rfl⟩
  rw [← hW] at hb1
  have k0 : Lies W w.heap.size 24 #[.slice A N c, .int .i64 rv] := by rw [hW]; exact Lies.new _ _ _
  have HK := Lib.hid k0
  have HB := Lib.hid hb1
  have HW := Lib.hid hW
  clear hW hb1 k0
  go_enter Tryz.func6, Tryz.ntmps6
  go_wp2
  rw [← HW.out]
  go_loopw [3] (fun i wr => ∃ k : Nat, k ≤ N ∧ i = .int .i64 k ∧ Below W.heap.size W wr ∧ ∀ (j : Nat) a b, j + 1 < k → L[j]? = some a → L[j + 1]? = some b → ¬ b < a) (fun i _ => N - (intOf i).toNat)
  case atStart => exact ⟨0, Nat.zero_le _, rfl, Below.refl _ _, fun j a b hj => by omega⟩
  case round =>
    obtain ⟨k, hk, rfl, hB, hrs⟩ := hrel
    have HRS := Lib.hid hrs
    clear hrs
    have hl := HK.out.later hB
    have c0 := hl.cell 0
    have c1 := hl.cell 1
    have hBw := HB.out.trans (hB.mono HB.out.size)
    by_cases hlt : k < N
    · obtain ⟨x, hx⟩ : ∃ x, L[k]? = some x := ⟨_, List.getElem?_eq_getElem (by have := HN.out; omega)⟩
      obtain ⟨y, hy⟩ : ∃ y, L[k - 1]? = some y := ⟨_, List.getElem?_eq_getElem (by have := HN.out; omega)⟩
      obtain ⟨g, o, rfl, h6⟩ := HV.out k x hx
      obtain ⟨g', o', he, h9⟩ := HV.out (k - 1) y hy
      simp only [Option.some.injEq, Addr.mk.injEq, and_true] at he
      obtain ⟨rfl, rfl⟩ := he
      have z6 := (hBw.cell (p := ⟨g, o + k, none⟩) (World.block_lt_of_cell? w _ h6)).trans h6
      have z9 := (hBw.cell (p := ⟨g, o + (k - 1), none⟩) (World.block_lt_of_cell? w _ h9)).trans h9
      have HS := Lib.hid (show wr.cell? ⟨w.heap.size, 0, none⟩ = some (.slice (some ⟨g, o, none⟩) N c) ∧ wr.cell? ⟨g, o + k, none⟩ = some (.string (ba x)) ∧ wr.cell? ⟨g, o + (k - 1), none⟩ = some (.string (ba y)) from ⟨c0, z6, z9⟩)
      have HBr := Lib.hid hB
      have HBw := Lib.hid hBw
      have hlti : (k : Int) < (N : Int) := by omega
      have hkc : k < c := by omega
      have hne : ¬ (k : Int) < 0 := by omega
      have HXY := Lib.hid (And.intro hx hy)
      clear h6 h9 hx hy hB hBw hl c1 HS
      obtain ⟨b1, hb1⟩ : ∃ b, (ba x).toList.isEmpty = b := ⟨_, rfl⟩
      obtain ⟨b2, hb2⟩ : ∃ b, Op.bytesLess (ba x).toList (ba y).toList = b := ⟨_, rfl⟩
      have HDR := Lib.hid (show ∀ q, Below W.heap.size W (wr.drewN q) from fun q => ⟨HBr.out.os, HBr.out.tape, HBr.out.output, HBr.out.size, HBr.out.block⟩)
      have HDw := Lib.hid (show ∀ q, Below w.heap.size w (wr.drewN q) from fun q => ⟨HBw.out.os, HBw.out.tape, HBw.out.output, HBw.out.size, HBw.out.block⟩)
      cases b1
      · by_cases hk0 : k = 0
        · subst hk0
          simp only [Nat.add_zero] at z6
          go_wp2_with fail
          go_quiet (fail)
          go_wp2
          go_roundw
          case rel => exact ⟨0 + 1, by omega, by simp, HDR.out _, fun j a b hj => by omega⟩
          case measure => simp [intOf]; omega
        · have hk0i : 0 < (k : Int) := by omega
          have hk0p : 0 < k := by omega
          have hk0d : decide (0 < k) = true := by simp [hk0p]
          have hk1 : IntKind.i64.wrap ((k : Int) - 1) = (k : Int) - 1 := IntWalk.i64_in _ (by omega)
          have hk2 : ((k : Int) - 1).toNat = k - 1 := by omega
          have hk3 : ¬ ((k : Int) - 1 < 0) := by omega
          have hk4 : (k : Int) - 1 < (N : Int) := by omega
          have hk5 : k - 1 < N := by omega
          cases b2
          · have HB2F := Lib.hid (show ¬ x < y by rw [Go.Proofs.bytesLess_eq, baR_toList, baR_toList] at hb2; exact of_decide_eq_false hb2)
            go_wp2_with fail
            go_quiet (fail)
            go_wp2
            go_roundw
            case rel => exact ⟨k + 1, by omega, by simp, HDR.out _, fun j a b hj ha hb => by
              by_cases e : j + 1 = k
              · obtain ⟨hx, hy⟩ := HXY.out
                rw [← e, Nat.add_sub_cancel] at hy
                rw [← e] at hx
                have e1 := Option.some.inj (hy.symm.trans ha)
                have e2 := Option.some.inj (hx.symm.trans hb)
                subst e1 e2
                exact HB2F.out
              · exact HRS.out j a b (by omega) ha hb⟩
            case measure => simp [intOf]; omega
          · go_wp2_with fail
            go_quiet (fail)
            go_wp2
            go_ret
            exact ⟨_, rfl, by simp, HDw.out _⟩
      · go_wp2_with fail
        go_quiet (fail)
        go_wp2
        go_ret
        exact ⟨_, rfl, by simp, HDw.out _⟩
    · obtain rfl : k = N := by omega
      have HBw := Lib.hid hBw
      clear hBw
      have HFIN := Lib.hid (show RiseS L from fun j a b ha hb => HRS.out j a b (by have := (List.getElem?_eq_some_iff.1 hb).1; have := HN.out; omega) ha hb)
      go_wp2
      go_ret
      exact ⟨_, rfl, fun h => ⟨by simpa using h, HFIN.out⟩, HBw.out⟩
end Go.Proofs.YtpbhndmfmnfeoaaGreat
