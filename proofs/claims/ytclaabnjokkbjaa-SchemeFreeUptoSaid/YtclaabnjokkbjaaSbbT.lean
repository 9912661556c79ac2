/- .. at maps of types. -/
import Derived.Test.YtclaabnjokkbjaaMg01
namespace Go.Proofs.Ytclaabnjokkbjaa
open Go.RowKit

theorem info_T (_ : True) : (Try.prog.info? 98).map (fun i => (i.zero, i.size, i.bytes)) = some (some (.map none), 1, 8) := by kernel_rfl
set_option maxRecDepth 100000 in
set_option maxHeartbeats 2000000 in
theorem growT_nil (n : Nat) (w : World) (hn : n ≤ 100000000) :
    Calls Try.prog 67 #[.slice none 0 0, .int .i64 n] w fun e w' => ∃ v, e = .returned v ∧ w'.ownsRow w.heap.size 98 1 v 0 [] ∧ Below w.heap.size w w' := by
  obtain ⟨i0, hi, hz0, hz1, hz2⟩ := info_parts (info_T trivial)
  rcases Nat.eq_zero_or_pos n with rfl | hp
  · go_enter Try.func67, Try.ntmps67
    go_wp2
    go_ret
    exact ⟨_, rfl, World.ownsRow_nil _ _ _ _, Below.refl _ _⟩
  · have hr := fun ty => Lib.run_append_nil_zeros w 31 3 ty 98 i0 (.map none) .i64 .i64 Try.underlying31 Try.underlying3 hi hz0 n hp (by omega) (by omega) (by rw [hz2]; omega)
    obtain ⟨G, hG⟩ : ∃ G, G = grownCap w n 0 98 := ⟨_, rfl⟩
    have hGn : n ≤ G := by rw [hG]; exact grownCap_ge w _ _ _
    have hGm : G ≤ maxLen := by rw [hG]; exact grownCap_le_maxLen w n 0 _ (by unfold maxLen; omega)
    have hG63 : G ≤ 9223372036854775807 := by unfold maxLen at hGm; omega
    rw [← hG] at hr
    have HM := Lib.hid hGm
    clear hGm hG
    go_enter Try.func67, Try.ntmps67
    go_wp2_with (at_builtin; refine Lib.wpList_append_run _ rfl _ _ _ _ rfl _ _ rfl rfl _ _ (hr _) ?_)
    go_ret
    have hb := (Below.refl w.heap.size w).drew.alloc (Nat.le_refl _) (.cells (Builtin.zeroCells (Value.cells (.map none)) n ++ Builtin.zeroCells (Value.cells (.map none)) (G - n)) 98)
    refine ⟨_, rfl, ⟨rfl, .inr ⟨w.heap.size, G, _, rfl, Nat.le_refl _, Lies.new _ _ _, Nat.zero_le _, HM.out, ?_, rfl⟩⟩, hb⟩
    simp [Builtin.zeroCells]
    omega

set_option maxRecDepth 100000 in
set_option maxHeartbeats 4000000 in
theorem concatT_any (ps : List (Value × List Value)) (b c : Nat) (w : World) (hb : Lies w b 31 (ps.map Prod.fst).toArray) (hc : ps.length ≤ c) (hsrc : ∀ p ∈ ps, SrcV w p.1 p.2) (h1 : ∀ p ∈ ps, ∀ q ∈ p.2, q.oneCell' = true)
    (hn : (ps.flatMap Prod.snd).length ≤ 10000000) (hk : ps.length ≤ 1000) :
    Calls Try.prog 53 #[.slice (some ⟨b, 0, none⟩) ps.length c] w fun e w' => ∃ v, e = .returned v ∧ w'.ownsRow w.heap.size 98 1 v (ps.flatMap Prod.snd).length (ps.flatMap Prod.snd) ∧ Below w.heap.size w w' := by
  obtain ⟨i0, hi, hz0, hz1, hz2⟩ := info_parts (info_T trivial)
  have hcell : ∀ (k : Nat) p, ps[k]? = some p → w.cell? ⟨b, k, none⟩ = some p.1 := fun k p hp => by
    rw [hb.cell]
    simp [hp]
  have hform : ∀ (k : Nat) p, ps[k]? = some p → ∃ A q, p.1 = .slice A p.2.length q ∧ p.2.length ≤ 10000000 := by
    intro k p hp
    have hm : p ∈ ps := List.mem_of_getElem? hp
    have hle : p.2.length ≤ (ps.flatMap Prod.snd).length := by
      obtain ⟨l1, l2, rfl⟩ := List.append_of_mem hm
      simp
      omega
    rcases hsrc p hm with ⟨e1, e2⟩ | ⟨ad, q, e1, _⟩
    · exact ⟨_, _, by rw [e1, e2]; rfl, by omega⟩
    · exact ⟨_, _, e1, by omega⟩
  have hsum : ∀ k, ((ps.take k).flatMap Prod.snd).length ≤ 10000000 := by
    intro k
    have h2 : ps.flatMap Prod.snd = (ps.take k).flatMap Prod.snd ++ (ps.drop k).flatMap Prod.snd := by rw [← List.flatMap_append, List.take_append_drop]
    have h3 := congrArg List.length h2
    rw [List.length_append] at h3
    omega
  have hstep : ∀ (k : Nat) p, ps[k]? = some p → (ps.take (k + 1)).flatMap Prod.snd = (ps.take k).flatMap Prod.snd ++ p.2 := by
    intro k p hp
    rw [take_step ps k p hp, List.flatMap_append]
    simp
  have hlt := hb.lt
  have HC := Lib.hid hcell
  have HF := Lib.hid hform
  have HS := Lib.hid hsum
  have HT := Lib.hid hstep
  have HR := Lib.hid hsrc
  have H1 := Lib.hid h1
  obtain ⟨m, hm⟩ : ∃ m, m = ps.length := ⟨_, rfl⟩
  have HM := Lib.hid hm
  rw [← hm] at hk hc ⊢
  clear hcell hform hsum hstep hsrc h1 hb hm hn
  go_enter Try.func53, Try.ntmps53
  go_wp2
  go_loopw [3, 11] (fun s i wr => ∃ k : Nat, k ≤ m ∧ i = .int .i64 k ∧ s = .int .i64 (((ps.take k).flatMap Prod.snd).length : Int) ∧ w = wr) (fun _ i _ => m - (intOf i).toNat)
  case atStart => exact ⟨0, Nat.zero_le _, rfl, rfl, rfl⟩
  case round =>
    obtain ⟨k, hkm, rfl, rfl, rfl⟩ := hrel
    by_cases hltk : k < m
    · obtain ⟨p, hp⟩ : ∃ p, ps[k]? = some p := ⟨_, List.getElem?_eq_getElem (by have := HM.out; omega)⟩
      have c0 := HC.out k p hp
      obtain ⟨A, q, e1, e2⟩ := HF.out k p hp
      rw [e1] at c0
      have hst := HT.out k p hp
      have hs0 := HS.out k
      have hl : ((ps.take (k + 1)).flatMap Prod.snd).length = ((ps.take k).flatMap Prod.snd).length + p.2.length := by rw [hst, List.length_append]
      obtain ⟨S, hS⟩ : ∃ S, S = ((ps.take k).flatMap Prod.snd).length := ⟨_, rfl⟩
      obtain ⟨L, hL⟩ : ∃ L, L = p.2.length := ⟨_, rfl⟩
      rw [← hS] at hs0 hl ⊢
      rw [← hL] at c0 hl e2
      have HL := Lib.hid hl
      have hkc : k < c := by omega
      clear hst hp hl hL hS e1
      go_wp2
      go_roundw
      case rel => exact ⟨k + 1, by omega, by simp, by rw [HL.out]; simp, by first | rfl | trivial⟩
      case measure => (simp [intOf] <;> omega)
    · obtain rfl : k = m := by omega
      have htk : ps.take k = ps := by rw [List.take_of_length_le]; have := HM.out; omega
      rw [htk]
      obtain ⟨N, hN⟩ : ∃ N, N = (ps.flatMap Prod.snd).length := ⟨_, rfl⟩
      have hN2 : N ≤ 10000000 := by have := HS.out k; rw [htk, ← hN] at this; exact this
      rw [← hN]
      have hg := growT_nil N w (by omega)
      have HG := Lib.hid hg
      have HN := Lib.hid hN
      have HTK := Lib.hid htk
      clear hg hN htk
      go_wp2_with fail
      refine HG.out.mono ?_
      rintro e w1 ⟨v1, rfl, ho1, hb1⟩
      have ho1' := Lib.hid ho1
      obtain ⟨A1, k1, c1, rfl⟩ := own_slice ho1
      clear ho1
      go_wp2_with fail
      go_loopw [6, 27] (fun s i wr => ∃ j : Nat, j ≤ k ∧ i = .int .i64 j ∧ wr.ownsRow w.heap.size 98 1 s ((ps.take j).flatMap Prod.snd).length ((ps.take j).flatMap Prod.snd) ∧ Below w.heap.size w wr) (fun _ i _ => k - (intOf i).toNat)
      case atStart => exact ⟨0, Nat.zero_le _, rfl, ho1'.out, hb1⟩
      case round =>
        obtain ⟨j, hjk, rfl, ho, hB⟩ := hrel
        by_cases hltj : j < k
        · obtain ⟨p, hp⟩ : ∃ p, ps[j]? = some p := ⟨_, List.getElem?_eq_getElem (by have := HM.out; omega)⟩
          have hpm : p ∈ ps := List.mem_of_getElem? hp
          have c0 := (hB.cell (p := ⟨b, j, none⟩) hlt).trans (HC.out j p hp)
          obtain ⟨A, q, e1, e2⟩ := HF.out j p hp
          have hsr := (HR.out p hpm).later hB
          have hone := H1.out p hpm
          have hst := HT.out j p hp
          have hs0 := HS.out j
          have hs1 := HS.out (j + 1)
          rw [hst, List.length_append] at hs1
          obtain ⟨X, hX⟩ : ∃ X, X = (ps.take j).flatMap Prod.snd := ⟨_, rfl⟩
          rw [← hX] at ho hs0 hst hs1
          obtain ⟨pv, pl⟩ := p
          dsimp only at c0 e1 e2 hsr hone hst hs1
          subst e1
          have HST := Lib.hid hst
          have HSR := Lib.hid hsr
          have HON := Lib.hid hone
          have HO := Lib.hid ho
          have HS1 := Lib.hid hs1
          obtain ⟨A0, m0, c0', rfl⟩ := own_slice ho
          have hjc : j < c := by omega
          clear hst hsr hone ho hp hX hpm hs1 hs0
          go_wp2_with (at_builtin; go_loud (refine wpList_append_srcV rfl (.tmp 31) (.tmp 32) 31 rfl w.heap.size 98 i0 _ 8 Try.underlying31 hi hz0 hz1 hz2 rfl _ X.length X rfl HO.out _ pl rfl HSR.out HON.out (by have := HS1.out; unfold maxLen; omega) (by have := HS1.out; omega) hB.size ?_); intro v' w2 ho2 hgr)
          have hrow : ∀ q, Value.ownBlock (.slice A0 m0 c0') = some q → w.heap.size ≤ q := fun q hq => (own_block HO.out q hq).1
          go_wp2_with fail
          go_roundw
          case rel =>
            refine ⟨j + 1, by omega, by simp, ?_, ?_⟩
            · rw [HST.out, List.length_append]; exact ho2
            · exact ⟨hgr.os.trans hB.os, hgr.tape.trans hB.tape, hgr.output.trans hB.output, Nat.le_trans hB.size hgr.size, fun g hg => (hgr.block g (Nat.lt_of_lt_of_le hg hB.size) (fun e => by have := hrow g e.symm; omega)).trans (hB.block g hg)⟩
          case measure => (simp [intOf] <;> omega)
        · obtain rfl : j = k := by omega
          rw [HTK.out] at ho
          have HO := Lib.hid ho
          obtain ⟨A0, m0, c0', rfl⟩ := own_slice ho
          clear ho
          go_wp2
          go_ret
          exact ⟨_, rfl, HO.out, hB⟩
end Go.Proofs.Ytclaabnjokkbjaa
