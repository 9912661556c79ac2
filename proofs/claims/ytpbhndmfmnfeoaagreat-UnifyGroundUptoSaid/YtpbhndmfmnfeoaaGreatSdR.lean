/- The reference's SameRow decides whether two rows read alike. -/
import Derived.Test.YtpbhndmfmnfeoaaGreatMg15
import Derived.Outline
namespace Go.Proofs.YtpbhndmfmnfeoaaGreat
open Go.RowKit

theorem baS_toList (l : List UInt8) : (ba l).toList = l := by rw [Lib.toList_data]; simp [ba]
set_option maxRecDepth 100000 in
set_option maxHeartbeats 4000000 in
theorem rsameD_any (v u : Value) (L M : List Str) (rv ru : Int) (w : World) (hv : StrR w v L) (hu : StrR w u M) :
    Calls Tryz.prog 23 #[.agg #[v, .int .i64 rv], .agg #[u, .int .i64 ru]] w fun e w' => ∃ b, e = .returned (.bool b) ∧ (b = true ↔ L = M ∧ rv = ru) ∧ Below w.heap.size w w' := by
  have hb := hv.2
  obtain ⟨A, c, rfl, hc, hm⟩ := hv.form
  have hbu := hu.2
  obtain ⟨B, d, rfl, hd, hm2⟩ := hu.form
  have hb1 := below_new w (.cells #[.slice A L.length c, .int .i64 rv] 24)
  have hb2 := hb1.alloc (by simp) (.cells #[.slice B M.length d, .int .i64 ru] 24)
  have HV := Lib.hid (fun (j : Nat) s (h : L[j]? = some s) => hm j s h)
  have HU := Lib.hid (fun (j : Nat) s (h : M[j]? = some s) => hm2 j s h)
  clear hv hu hm hm2
  obtain ⟨N, hN⟩ : ∃ N, N = L.length := ⟨_, rfl⟩
  obtain ⟨K, hK⟩ : ∃ K, K = M.length := ⟨_, rfl⟩
  have HN := Lib.hid hN
  have HK := Lib.hid hK
  rw [← hN] at hb hc hb2
  rw [← hK] at hbu hd hb2
  rw [← hN, ← hK]
  clear hN hK
  have n0 := (Lies.new w 24 #[.slice A N c, .int .i64 rv]).alloc (.cells #[.slice B K d, .int .i64 ru] 24)
  have n1 := Lies.new' (w.alloc (.cells #[.slice A N c, .int .i64 rv] 24)) 24 #[.slice B K d, .int .i64 ru] (N := w.heap.size + 1) (by simp)
  have HN0 := Lib.hid n0
  have HN1 := Lib.hid n1
  have HB2 := Lib.hid hb2
  clear n0 n1 hb1
  by_cases hrv : rv = ru
  · subst hrv
    by_cases hNK : N = K
    · subst hNK
      clear hb2
      go_enter Tryz.func23, Tryz.ntmps23
      go_wp2
      go_loopw [5] (fun i wr => ∃ k : Nat, k ≤ N ∧ i = .int .i64 k ∧ L.take k = M.take k ∧ Below ((w.alloc (.cells #[.slice A N c, .int .i64 rv] 24)).alloc (.cells #[.slice B N d, .int .i64 rv] 24)).heap.size ((w.alloc (.cells #[.slice A N c, .int .i64 rv] 24)).alloc (.cells #[.slice B N d, .int .i64 rv] 24)) wr) (fun i _ => N - (intOf i).toNat)
      case atStart => exact ⟨0, Nat.zero_le _, rfl, rfl, Below.refl _ _⟩
      case round =>
        obtain ⟨k, hk, rfl, htk, hB⟩ := hrel
        have HTK := Lib.hid htk
        have c0 := (HN0.out.later hB).cell 0
        have c1 := (HN1.out.later hB).cell 0
        have hBw := HB2.out.trans (hB.mono HB2.out.size)
        by_cases hlt : k < N
        · obtain ⟨x, hx⟩ : ∃ x, L[k]? = some x := ⟨_, List.getElem?_eq_getElem (by have := HN.out; omega)⟩
          obtain ⟨y, hy⟩ : ∃ y, M[k]? = some y := ⟨_, List.getElem?_eq_getElem (by have := HK.out; omega)⟩
          obtain ⟨g, o, rfl, h6⟩ := HV.out k x hx
          obtain ⟨g2, o2, rfl, h9⟩ := HU.out k y hy
          have z6 := (hBw.cell (p := ⟨g, o + k, none⟩) (World.block_lt_of_cell? w _ h6)).trans h6
          have z9 := (hBw.cell (p := ⟨g2, o2 + k, none⟩) (World.block_lt_of_cell? w _ h9)).trans h9
          have hS : wr.cell? ⟨w.heap.size, 0, none⟩ = some (.slice (some ⟨g, o, none⟩) N c) ∧ wr.cell? ⟨w.heap.size + 1, 0, none⟩ = some (.slice (some ⟨g2, o2, none⟩) N d) ∧ wr.cell? ⟨g, o + k, none⟩ = some (.string (ba x)) ∧ wr.cell? ⟨g2, o2 + k, none⟩ = some (.string (ba y)) := ⟨c0, c1, z6, z9⟩
          have HS := Lib.hid hS
          have HBr := Lib.hid hB
          have HBW := Lib.hid hBw
          have hlti : (k : Int) < (N : Int) := by omega
          have hkc : k < c := by omega
          have hkd : k < d := by omega
          have HT1 := Lib.hid (take_step L k x hx)
          have HT2 := Lib.hid (take_step M k y hy)
          have HX := Lib.hid hx
          have HY := Lib.hid hy
          clear h6 h9 hx hy hS hB c1 z6 z9 hBw htk
          by_cases hxy : x = y
          · subst hxy
            go_wp2
            go_region_held3 (fun w' => w'.cell? ⟨w.heap.size, 0, none⟩ = some (.slice (some ⟨g, o, none⟩) N c) ∧ w'.cell? ⟨w.heap.size + 1, 0, none⟩ = some (.slice (some ⟨g2, o2, none⟩) N d) ∧ w'.cell? ⟨g, o + k, none⟩ = some (.string (ba x)) ∧ w'.cell? ⟨g2, o2 + k, none⟩ = some (.string (ba x)))
              (exact HS.out) (fail)
            go_wp2
            go_roundw
            case rel => exact ⟨k + 1, by omega, by go_num, by rw [HT1.out, HT2.out, HTK.out], HBr.out.drew⟩
            case measure => simp [intOf]; omega
          · have hbne : ((ba x).toList == (ba y).toList) = false := by simpa [baS_toList] using hxy
            go_wp2
            go_region_held3 (fun w' => w'.cell? ⟨w.heap.size, 0, none⟩ = some (.slice (some ⟨g, o, none⟩) N c) ∧ w'.cell? ⟨w.heap.size + 1, 0, none⟩ = some (.slice (some ⟨g2, o2, none⟩) N d) ∧ w'.cell? ⟨g, o + k, none⟩ = some (.string (ba x)) ∧ w'.cell? ⟨g2, o2 + k, none⟩ = some (.string (ba y)))
              (exact HS.out) (fail)
            go_wp2
            go_ret
            refine ⟨false, rfl, ⟨fun h => (by cases h), fun h => absurd ?_ hxy⟩, HBW.out.drew⟩
            have e1 := HX.out
            have e2 := HY.out
            rw [h.1, e2] at e1
            injection e1 with e1
            exact e1.symm
        · obtain rfl : k = N := by omega
          go_wp2
          go_ret
          refine ⟨true, rfl, ⟨fun _ => ⟨?_, (by first | rfl | trivial)⟩, fun _ => rfl⟩, hBw⟩
          have e := HTK.out
          have e1 := HN.out
          have e2 := HK.out
          rw [List.take_of_length_le (by omega), List.take_of_length_le (by omega)] at e
          exact e
    · have hNKi : ¬ (N : Int) = (K : Int) := by omega
      have n0 := HN0.out
      have n1 := HN1.out
      have c0 := n0.cell 0
      have c1 := n0.cell 1
      have c2 := n1.cell 0
      have c3 := n1.cell 1
      clear n0 n1
      go_enter Tryz.func23, Tryz.ntmps23
      go_wp2
      go_ret
      refine ⟨false, rfl, ⟨fun h => (by cases h), fun h => absurd ?_ hNK⟩, hb2⟩
      rw [HN.out, HK.out, h.1]
  · go_enter Tryz.func23, Tryz.ntmps23
    go_wp2
    go_ret
    exact ⟨false, rfl, ⟨fun h => (by cases h), fun h => absurd h.2 hrv⟩, hb2⟩
end Go.Proofs.YtpbhndmfmnfeoaaGreat
