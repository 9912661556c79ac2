/- and: what is said of one number more. -/
import Derived.Test.YtpbhndmfmnfeoaaGreatMg05
import Derived.Test.YtpbhndmfmnfeoaaGreatMg12
import Derived.Test.YtpbhndmfmnfeoaaGreatMg03
import Derived.Test.YtpbhndmfmnfeoaaGreatMg13
import Derived.Deep.RegionHeld3
import Derived.IntWalk
import Derived.Outline
namespace Go.Proofs.YtpbhndmfmnfeoaaGreat
open Go.RowKit Go.Maps

set_option maxHeartbeats 8000000 in
set_option maxRecDepth 100000 in
theorem andR_any (BX : Nat → Prop) (w : World) (sv : Value) (m : Nat) (g : GMap) (n : Int) (A4 : Option Addr) (n4 c4 : Nat) (rv : Int) (h : SaidV (blank BX w) 2 sv m g) (hn : i64ok n) (hm : m ≤ 1000) :
    Calls Tryz.prog 67 #[.agg #[sv], .int .i64 n, .agg #[.slice A4 n4 c4, .int .i64 rv]] w fun e w' => ∃ A' n' c', e = .returned (.agg #[.slice A' n' c']) ∧ (∀ wf, Kept (fun b => BX b ∧ b < w.heap.size) w' wf → SaidV wf 2 (.slice A' n' c') (m + 1) (setG g n #[.slice A4 n4 c4, .int .i64 rv])) ∧ Below w.heap.size w w' := by
  obtain ⟨zs, h1', h2', h3, h4, h5⟩ := h
  have HL0 := Lib.hid h2'
  have hbb : ∀ g, live (blank BX w) g → w.heap[g]? = (blank BX w).heap[g]? := fun g hg => (blank_at (blank_live hg).1).symm
  have h1 := h1'.keepL hbb
  have h2 := fun l hl => (h2' l hl).keep (hbb _ (h2' l hl).live)
  clear h1' h2' hbb
  obtain ⟨A, c, rfl, hc, hcell⟩ := h1.form (by simp; omega)
  simp only [List.length_map] at hc ⊢
  have hfit : Fit1 2 #[.slice A4 n4 c4, .int .i64 rv] := ⟨rfl, by simp [Value.oneCell']⟩
  obtain ⟨N, hN⟩ : ∃ N, N = zs.length := ⟨_, rfl⟩
  have HSRC := Lib.hid h1
  have HC := Lib.hid hcell
  have HL := Lib.hid h2
  have HN := Lib.hid hN
  have HSUM := Lib.hid h3
  have HG := Lib.hid h5
  rw [← hN] at hc h4 ⊢
  clear hcell h2 hN h3 h5 h1
  obtain ⟨W, hW⟩ : ∃ W, W = ((w.alloc (.cells #[.slice A N c] 32)).alloc (.cells #[.slice A4 n4 c4, .int .i64 rv] 24)).alloc (.cells #[.slice none 0 0] 32) := ⟨_, rfl⟩
  have hb : Below w.heap.size w W := by rw [hW]; exact (((Below.refl _ w).alloc (Nat.le_refl _) _).alloc (by simp) _).alloc (by simp; omega) _
  have k0 : Lies W w.heap.size 32 #[.slice A N c] := by rw [hW]; exact ((Lies.new _ _ _).alloc _).alloc _
  have k1 : Lies W (w.heap.size + 1) 24 #[.slice A4 n4 c4, .int .i64 rv] := by rw [hW]; exact (Lies.new' _ _ _ (by simp)).alloc _
  have k2 : Lies W (w.heap.size + 2) 32 #[.slice none 0 0] := by rw [hW]; exact Lies.new' _ _ _ (by simp)
  have hS : (W.cell? ⟨w.heap.size + 1, 0, none⟩ = some (.slice A4 n4 c4) ∧ W.cell? ⟨w.heap.size + 1, 1, none⟩ = some (.int .i64 rv)) ∧ W.cell? ⟨w.heap.size, 0, none⟩ = some (.slice A N c) ∧ Below W.heap.size W W := ⟨⟨k1.cell 0, k1.cell 1⟩, k0.cell 0, Below.refl _ _⟩
  have hk : ∀ V : World, Below W.heap.size W V → (V.cell? ⟨w.heap.size + 1, 0, none⟩ = some (.slice A4 n4 c4) ∧ V.cell? ⟨w.heap.size + 1, 1, none⟩ = some (.int .i64 rv)) ∧ V.cell? ⟨w.heap.size, 0, none⟩ = some (.slice A N c) ∧ Below W.heap.size W V := fun V hb => by
    have j0 := k0.later hb
    have j1 := k1.later hb
    exact ⟨⟨j1.cell 0, j1.cell 1⟩, j0.cell 0, hb⟩
  have HK := Lib.hid hk
  have hmm := @run_makeMap Tryz.prog
  have bM : Below W.heap.size W (W.alloc (.map #[] 0)).drew := (below_new W _).drew
  have hM0 : MapI (W.alloc (.map #[] 0)).drew 2 W.heap.size 0 noG := (MapI.made W 2).keep rfl
  obtain ⟨w1, hrun, hM1, hgr, hsz⟩ := hM0.put Tryz.underlying84 (by unfold maxLen; omega) hn hfit
  have hrun2 : (Instr.mapUpdate 84 (.map (some W.heap.size)) (.int .i64 n) (.agg #[.slice A4 n4 c4, .int .i64 rv])).run Tryz.prog (W.drew.alloc (.map #[] 0)) = .ok () w1 := hrun
  have b1 : Below W.heap.size W w1 := ⟨hgr.os.trans bM.os, hgr.tape.trans bM.tape, hgr.output.trans bM.output, Nat.le_trans bM.size hgr.size, fun i hi => (hgr.block i (Nat.lt_of_lt_of_le hi bM.size) (fun e => by have := Option.some.inj e; omega)).trans (bM.block i hi)⟩
  have hdr : Below W.heap.size W W.drew := (Below.refl _ _).drew
  have HM1 := Lib.hid hM1
  have HW := Lib.hid hW
  have HB := Lib.hid hb
  have HK0 := Lib.hid k0
  have HK2 := Lib.hid k2
  have hlt0 := k0.lt
  have hlt2 := k2.lt
  clear hW hb k0 k1 k2 hk hM0 hM1 hgr hsz hfit
  go_enter Tryz.func67, Tryz.ntmps67
  go_wp2_with fail
  rw [← HW.out]
  go_region_held3 (fun VV => (VV.cell? ⟨w.heap.size + 1, 0, none⟩ = some (.slice A4 n4 c4) ∧ VV.cell? ⟨w.heap.size + 1, 1, none⟩ = some (.int .i64 rv)) ∧ VV.cell? ⟨w.heap.size, 0, none⟩ = some (.slice A N c) ∧ Below W.heap.size W VV)
    (first | with_reducible exact HK.out _ hdr | with_reducible exact HK.out _ bM | with_reducible exact HK.out _ b1 | with_reducible exact HK.out _ b1.drew)
    (first | fail)
  clear hrun hrun2 hmm bM hdr
  have HB1 := Lib.hid b1
  clear b1 hS
  go_wp2_with fail
  have HZ := Lib.hid @zero_R
  go_loopw [7, 8] (fun nv kv wr => ∃ (K b' s' : Nat) (g' : GMap), W.heap.size ≤ b' ∧ K ≤ N ∧ kv = .int .i64 K ∧ nv = .map (some b') ∧ MapI wr 2 b' s' g' ∧ lySum (zs.take K) + s' ≤ m + 1 ∧ overG (lyOver (zs.take K)) g' = overG (lyOver zs) (setG noG n #[.slice A4 n4 c4, .int .i64 rv]) ∧ Below w.heap.size w wr ∧ Below W.heap.size W wr) (fun _ k _ => (intOf k).toNat)
  case atStart => exact ⟨N, _, _, _, Nat.le_refl _, Nat.le_refl _, rfl, rfl, HM1.out, by rw [List.take_of_length_le (by have := HN.out; omega)]; have := HSUM.out; omega, by rw [List.take_of_length_le (by have := HN.out; omega)], HB.out.trans (HB1.out.mono HB.out.size), HB1.out⟩
  case round =>
    obtain ⟨K, b', s', g', hb', hK, rfl, rfl, hM, hsum, hg', hBw, hBW⟩ := hrel
    have HBB := Lib.hid hb'
    clear hb'
    have HMM := Lib.hid hM
    have HSS := Lib.hid hsum
    have HGG := Lib.hid hg'
    have z0 := (HK0.out.later hBW).cell 0
    have z2 := (HK2.out.later hBW)
    have HZ2 := Lib.hid z2
    obtain ⟨wo, rfl⟩ : ∃ wo, wo = wr := ⟨_, rfl⟩
    clear hM hsum hg' z2
    have hKc : K ≤ c := by omega
    have hKN : ((K : Nat) : Int) ≤ (c : Int) := by omega
    rcases Nat.eq_zero_or_pos K with h0 | hpos
    · subst h0
      go_wp2_with fail
      obtain ⟨W3, hW3⟩ : ∃ W3, W3 = (wo.alloc (.cells #[.map (some b')] 84)).alloc (.cells #[.slice A 0 c, .slice (some ⟨wo.heap.size, 0, none⟩) 1 1] 30) := ⟨_, rfl⟩
      have hb3 : Below wo.heap.size wo W3 := by rw [hW3]; exact (below_new wo _).alloc (by simp) _
      have y1 : Lies W3 wo.heap.size 84 #[.map (some b')] := by rw [hW3]; exact (Lies.new _ _ _).alloc _
      have y2 : Lies W3 (wo.heap.size + 1) 30 #[.slice A 0 c, .slice (some ⟨wo.heap.size, 0, none⟩) 1 1] := by rw [hW3]; exact Lies.new' _ _ _ (by simp)
      have hcon := concatR_any [(.slice A 0 c, (zs.take (0)).map lyV), (.slice (some ⟨wo.heap.size, 0, none⟩) 1 1, [.map (some b')])] (wo.heap.size + 1) 2 W3 y2 (Nat.le_refl _) (by
        intro p hp
        rcases List.mem_cons.1 hp with rfl | hp
        · have h := (HSRC.out.take (0) (by rw [List.length_map]; have := HN.out; omega)).later (hBw.trans (hb3.mono hBw.size))
          rw [← List.map_take] at h
          exact h
        · rw [List.mem_singleton.1 hp]
          refine .inr ⟨_, 1, rfl, Nat.le_refl _, fun j q hq => ?_⟩
          have hj : j = 0 := by have := (List.getElem?_eq_some_iff.1 hq).1; simp at this; exact this
          subst hj
          obtain rfl : Value.map (some b') = q := by simpa using hq
          have := y1.cell 0
          simpa [Addr.add] using this) (by
        intro p hp
        rcases List.mem_cons.1 hp with rfl | hp
        · intro q hq
          obtain ⟨l, _, rfl⟩ := List.mem_map.1 hq
          rfl
        · rw [List.mem_singleton.1 hp]
          intro q hq
          rw [List.mem_singleton.1 hq]
          rfl) (by first | (simp; done) | (simp; omega)) (by simp)
      rw [← hW3]
      have HW3 := Lib.hid hW3
      have HB3 := Lib.hid hb3
      clear hW3 hb3 y1 y2
      refine hcon.mono ?_
      rintro e w5 ⟨v', rfl, ho, hb5⟩
      clear hcon
      obtain ⟨A2, k2, c2, rfl⟩ := own_slice ho
      have hb35 : Below wo.heap.size wo w5 := HB3.out.trans (hb5.mono HB3.out.size)
      have m2 := HZ2.out.later hb35
      have mc0 := m2.cell 0
      have mf0 := m2.free 0
      have ml := m2.lt
      have HM2 := Lib.hid m2
      have HO := Lib.hid ho
      have hs3 : w.heap.size + 2 < W3.heap.size := Nat.lt_of_lt_of_le HZ2.out.lt HB3.out.size
      clear m2 ho
      go_wp2_with fail
      refine bodyPost_ret (v := .agg #[.slice A2 k2 c2]) (results_cell_row rfl _ _ (w.heap.size + 2) 32 _ (0, 0) _ rfl (HM2.out.set 0 _) Tryz.underlying32 rfl (by kernel_rfl)) rfl ?_
      have q5 : Below (w.heap.size + 2) w5 (w5.setCell ⟨w.heap.size + 2, 0, none⟩ (.slice A2 k2 c2)) := (Below.refl _ _).setCell (p := ⟨w.heap.size + 2, 0, none⟩) (Nat.le_refl _) _
      have hbz : Below w.heap.size w (w5.setCell ⟨w.heap.size + 2, 0, none⟩ (.slice A2 k2 c2)) := (hBw.trans (hb35.mono hBw.size)).trans (q5.mono (by omega))
      refine ⟨A2, k2, c2, rfl, ?_, hbz⟩
      intro wf hkf0
      have hkf : Kept (fun b => BX b ∧ b < w.heap.size) (w5.setCell ⟨w.heap.size + 2, 0, none⟩ (.slice A2 k2 c2)) wf := hkf0
      clear hkf0
      have hq5s := q5.size
      have hww := hBw.size
      have hw3 := HB3.out.size
      have hoo := own_same HO.out (w' := wf) fun i hi hlt => (hkf.2 i (by omega) (by intro e; have := e.2; omega)).trans (Below.heap_setCell _ ⟨w.heap.size + 2, 0, none⟩ _ i (by show i ≠ w.heap.size + 2; omega))
      have hsr := own_row_src hoo
      have hM6 := (HMM.out.later hb35).keep (Below.heap_setCell w5 ⟨w.heap.size + 2, 0, none⟩ (.slice A2 k2 c2) b' (by show b' ≠ w.heap.size + 2; have := HBB.out; omega))
      have hM7 := hM6.keep (hkf.2 b' hM6.lt (by intro e; have := e.2; have := HBB.out; omega))
      exact SaidV.anded (w0 := blank BX w) (N := N) (K := 0) HL0.out (fun l hl => by
        obtain ⟨hnx, hlx⟩ := blank_live (HL0.out l hl).live
        rw [blank_at hnx]
        exact (hkf.2 l.1 (by have := hbz.size; omega) (fun e => hnx e.1)).trans (hbz.block l.1 hlx)) HN.out (by omega) h4 HG.out hM7 HSS.out HGG.out (by simpa using hsr)

    · obtain ⟨K', rfl⟩ : ∃ K', K = K' + 1 := ⟨K - 1, by omega⟩
      obtain ⟨z, hz⟩ : ∃ z, zs[K']? = some z := ⟨_, List.getElem?_eq_getElem (by have := HN.out; omega)⟩
      have hzm : z ∈ zs := List.mem_of_getElem? hz
      obtain ⟨gg, o, rfl, hcl⟩ := HC.out K' (lyV z) (by rw [List.getElem?_map, hz]; rfl)
      have hml := (HL.out z hzm).later hBw
      have hgw := World.block_lt_of_cell? w _ hcl
      have c0 := (hBw.cell (p := ⟨gg, o + K', none⟩) hgw).trans hcl
      unfold lyV at c0
      obtain ⟨q1, hq1, hl1⟩ := hml.len
      obtain ⟨q2, hq2, hl2⟩ := HMM.out.len
      have hlen1 := fun ty => hl1 84 24 ty Tryz.underlying84
      have hlen2 := fun ty => hl2 84 24 ty Tryz.underlying84
      have hst : zs.take (K' + 1) = zs.take K' ++ [z] := take_step zs K' z hz
      have hsm : lySum (zs.take (K' + 1)) = lySum (zs.take K') + z.2.1 := by rw [hst, lySum_app]; simp [lySum]
      have hov : lyOver (zs.take (K' + 1)) = overG (lyOver (zs.take K')) z.2.2 := by rw [hst, lyOver_app]
      have hz1 : z.2.1 ≤ m + 1 := by have := HSS.out; omega
      have hs1 : s' ≤ m + 1 := by have := HSS.out; omega
      have hss : z.2.1 + s' ≤ m + 1 := by have := HSS.out; omega
      have HSM := Lib.hid hsm
      have HOV := Lib.hid hov
      have HML := Lib.hid hml
      have hpK : (0 : Int) < (K' : Int) + 1 := by omega
      have hx1 : (K' : Int) + 1 - 1 = (K' : Int) := by omega
      have hx2 : IntKind.i64.wrap (K' : Int) = (K' : Int) := IntWalk.i64_in _ (by omega)
      have hx3 : IntKind.i64.wrap ((K' : Int) + 1 - 1) = (K' : Int) := by rw [hx1, hx2]
      have hx4 : IntKind.i64.wrap (2 * (q2 : Int)) = 2 * (q2 : Int) := IntWalk.i64_in _ (by omega)
      have hKN' : K' < N := by omega
      clear hst hsm hov hml hl1 hl2 hz1
      by_cases hcond : (q1 : Int) ≤ 2 * (q2 : Int)
      · go_wp2_with fail
        obtain ⟨W3, hW3⟩ : ∃ W3, W3 = wo.alloc (.cells #[.map (some z.1), .map (some b')] 84) := ⟨_, rfl⟩
        have hb3 : Below wo.heap.size wo W3 := by rw [hW3]; exact below_new wo _
        have y1 : Lies W3 wo.heap.size 84 #[.map (some z.1), .map (some b')] := by rw [hW3]; exact Lies.new _ _ _
        have hmg := mergedR_any [z, (b', s', g')] (.slice (some ⟨wo.heap.size, 0, none⟩) 2 2) W3 (by
          refine .inr ⟨_, 2, rfl, Nat.le_refl _, fun j q hq => ?_⟩
          have hj : j = 0 ∨ j = 1 := by have := (List.getElem?_eq_some_iff.1 hq).1; simp at this; omega
          rcases hj with rfl | rfl
          · obtain rfl : lyV z = q := by simpa using hq
            simpa [Addr.add, lyV] using y1.cell 0
          · obtain rfl : lyV (b', s', g') = q := by simpa using hq
            simpa [Addr.add, lyV] using y1.cell 1) (by
          intro l hl
          rcases List.mem_cons.1 hl with rfl | hl
          · exact HML.out.later hb3
          · rw [List.mem_singleton.1 hl]
            exact HMM.out.later hb3) (by simp [lySum]; omega) (by simp)
        have e1 : lySum [z, (b', s', g')] = z.2.1 + s' := by simp [lySum]
        have e2 : lyOver [z, (b', s', g')] = overG z.2.2 g' := by simp [lyOver, overG_none]
        rw [e1, e2] at hmg
        rw [← hW3]
        have HW3 := Lib.hid hW3
        have HB3 := Lib.hid hb3
        clear hW3 hb3 y1 e1 e2
        refine hmg.mono ?_
        rintro e w5 ⟨rfl, hM5, hb5⟩
        clear hmg
        have hb35 : Below wo.heap.size wo w5 := HB3.out.trans (hb5.mono HB3.out.size)
        go_wp2_with fail
        go_roundw
        case rel =>
          refine ⟨K', W3.heap.size, z.2.1 + s', overG z.2.2 g', Nat.le_trans hBW.size HB3.out.size, by omega, rfl, rfl, hM5, ?_, ?_, hBw.trans (hb35.mono hBw.size), hBW.trans (hb35.mono hBW.size)⟩
          · have h1 := HSS.out
            have h2 := HSM.out
            omega
          · rw [← HGG.out, HOV.out, overG_assoc]
        case measure => (simp [intOf] <;> omega)
      · skip
        go_wp2_with fail
        obtain ⟨W3, hW3⟩ : ∃ W3, W3 = (wo.alloc (.cells #[.map (some b')] 84)).alloc (.cells #[.slice (some ⟨gg, o, none⟩) (K' + 1) c, .slice (some ⟨wo.heap.size, 0, none⟩) 1 1] 30) := ⟨_, rfl⟩
        have hb3 : Below wo.heap.size wo W3 := by rw [hW3]; exact (below_new wo _).alloc (by simp) _
        have y1 : Lies W3 wo.heap.size 84 #[.map (some b')] := by rw [hW3]; exact (Lies.new _ _ _).alloc _
        have y2 : Lies W3 (wo.heap.size + 1) 30 #[.slice (some ⟨gg, o, none⟩) (K' + 1) c, .slice (some ⟨wo.heap.size, 0, none⟩) 1 1] := by rw [hW3]; exact Lies.new' _ _ _ (by simp)
        have hcon := concatR_any [(.slice (some ⟨gg, o, none⟩) (K' + 1) c, (zs.take ((K' + 1))).map lyV), (.slice (some ⟨wo.heap.size, 0, none⟩) 1 1, [.map (some b')])] (wo.heap.size + 1) 2 W3 y2 (Nat.le_refl _) (by
          intro p hp
          rcases List.mem_cons.1 hp with rfl | hp
          · have h := (HSRC.out.take ((K' + 1)) (by rw [List.length_map]; have := HN.out; omega)).later (hBw.trans (hb3.mono hBw.size))
            rw [← List.map_take] at h
            exact h
          · rw [List.mem_singleton.1 hp]
            refine .inr ⟨_, 1, rfl, Nat.le_refl _, fun j q hq => ?_⟩
            have hj : j = 0 := by have := (List.getElem?_eq_some_iff.1 hq).1; simp at this; exact this
            subst hj
            obtain rfl : Value.map (some b') = q := by simpa using hq
            have := y1.cell 0
            simpa [Addr.add] using this) (by
          intro p hp
          rcases List.mem_cons.1 hp with rfl | hp
          · intro q hq
            obtain ⟨l, _, rfl⟩ := List.mem_map.1 hq
            rfl
          · rw [List.mem_singleton.1 hp]
            intro q hq
            rw [List.mem_singleton.1 hq]
            rfl) (by first | (simp; done) | (simp; omega)) (by simp)
        rw [← hW3]
        have HW3 := Lib.hid hW3
        have HB3 := Lib.hid hb3
        clear hW3 hb3 y1 y2
        refine hcon.mono ?_
        rintro e w5 ⟨v', rfl, ho, hb5⟩
        clear hcon
        obtain ⟨A2, k2, c2, rfl⟩ := own_slice ho
        have hb35 : Below wo.heap.size wo w5 := HB3.out.trans (hb5.mono HB3.out.size)
        have m2 := HZ2.out.later hb35
        have mc0 := m2.cell 0
        have mf0 := m2.free 0
        have ml := m2.lt
        have HM2 := Lib.hid m2
        have HO := Lib.hid ho
        have hs3 : w.heap.size + 2 < W3.heap.size := Nat.lt_of_lt_of_le HZ2.out.lt HB3.out.size
        clear m2 ho
        go_wp2_with fail
        refine bodyPost_ret (v := .agg #[.slice A2 k2 c2]) (results_cell_row rfl _ _ (w.heap.size + 2) 32 _ (0, 0) _ rfl (HM2.out.set 0 _) Tryz.underlying32 rfl (by kernel_rfl)) rfl ?_
        have q5 : Below (w.heap.size + 2) w5 (w5.setCell ⟨w.heap.size + 2, 0, none⟩ (.slice A2 k2 c2)) := (Below.refl _ _).setCell (p := ⟨w.heap.size + 2, 0, none⟩) (Nat.le_refl _) _
        have hbz : Below w.heap.size w (w5.setCell ⟨w.heap.size + 2, 0, none⟩ (.slice A2 k2 c2)) := (hBw.trans (hb35.mono hBw.size)).trans (q5.mono (by omega))
        refine ⟨A2, k2, c2, rfl, ?_, hbz⟩
        intro wf hkf0
        have hkf : Kept (fun b => BX b ∧ b < w.heap.size) (w5.setCell ⟨w.heap.size + 2, 0, none⟩ (.slice A2 k2 c2)) wf := hkf0
        clear hkf0
        have hq5s := q5.size
        have hww := hBw.size
        have hw3 := HB3.out.size
        have hoo := own_same HO.out (w' := wf) fun i hi hlt => (hkf.2 i (by omega) (by intro e; have := e.2; omega)).trans (Below.heap_setCell _ ⟨w.heap.size + 2, 0, none⟩ _ i (by show i ≠ w.heap.size + 2; omega))
        have hsr := own_row_src hoo
        have hM6 := (HMM.out.later hb35).keep (Below.heap_setCell w5 ⟨w.heap.size + 2, 0, none⟩ (.slice A2 k2 c2) b' (by show b' ≠ w.heap.size + 2; have := HBB.out; omega))
        have hM7 := hM6.keep (hkf.2 b' hM6.lt (by intro e; have := e.2; have := HBB.out; omega))
        exact SaidV.anded (w0 := blank BX w) (N := N) (K := (K' + 1)) HL0.out (fun l hl => by
          obtain ⟨hnx, hlx⟩ := blank_live (HL0.out l hl).live
          rw [blank_at hnx]
          exact (hkf.2 l.1 (by have := hbz.size; omega) (fun e => hnx e.1)).trans (hbz.block l.1 hlx)) HN.out (by omega) h4 HG.out hM7 HSS.out HGG.out (by simpa using hsr)
  
end Go.Proofs.YtpbhndmfmnfeoaaGreat

/- SetType, SetRow. -/
namespace Go.Proofs.YtpbhndmfmnfeoaaGreat
open Go.RowKit

def setF {α : Type} (T : Int → Option α) (n : Int) (x : α) : Int → Option α := fun k => if k = n then some x else T k
theorem SaidV.mono {w : World} {k m m' : Nat} {v : Value} {g : GMap} (h : SaidV w k v m g) (hm : m ≤ m') : SaidV w k v m' g := by
  obtain ⟨zs, a1, a2, a3, a4, a5⟩ := h
  exact ⟨zs, a1, a2, by omega, by omega, a5⟩
set_option maxRecDepth 100000 in
set_option maxHeartbeats 8000000 in
theorem setType_any (BX : Nat → Prop) (w : World) (sv : Value) (m : Nat) (T : Int → Option Ty) (R : Int → Option (List Str × Int)) (hs : SubV (blank BX w) sv m T R) (hm : m ≤ 1000) (n : Int) (hn : i64ok n) (t : Ty) (l : List Value) (ht : TRV w t l) (hsz : t.size ≤ 1000) :
    Calls Tryz.prog 56 #[sv, .int .i64 n, .agg l.toArray] w fun e w' => ∃ sv', e = .returned sv' ∧ (∀ wf, Kept (fun b => BX b ∧ b < w.heap.size) w' wf → SubV wf sv' (m + 1) (setF T n t) R) ∧ Below w.heap.size w w' := by
  obtain ⟨vt, vr, gt, gr, rfl, hst, hsr, htm, hrm⟩ := hs
  obtain ⟨A1, n1, c1, rfl⟩ := hst.one
  obtain ⟨A2, n2, c2, rfl⟩ := hsr.one
  have ht0 := ht
  obtain ⟨k, nm, v, kids, ls, rv⟩ := t
  obtain ⟨A3, n3, c3, A4, n4, c4, rfl⟩ := ht.shape
  unfold tyC at ht0 ⊢
  obtain ⟨W, hW⟩ : ∃ W, W = ((w.alloc (.cells #[.slice A1 n1 c1, .slice A2 n2 c2] 34)).alloc (.cells #[.int .i64 k, .string (ba nm), .int .i64 v, .slice A3 n3 c3, .slice A4 n4 c4, .int .i64 rv] 44)).alloc (.cells #[.slice none 0 0, .slice none 0 0] 34) := ⟨_, rfl⟩
  have hb : Below w.heap.size w W := by rw [hW]; exact (((Below.refl _ w).alloc (Nat.le_refl _) _).alloc (by simp) _).alloc (by simp; omega) _
  have k0 : Lies W w.heap.size 34 #[.slice A1 n1 c1, .slice A2 n2 c2] := by rw [hW]; exact ((Lies.new _ _ _).alloc _).alloc _
  have k1 : Lies W (w.heap.size + 1) 44 #[.int .i64 k, .string (ba nm), .int .i64 v, .slice A3 n3 c3, .slice A4 n4 c4, .int .i64 rv] := by rw [hW]; exact (Lies.new' _ _ _ (by simp)).alloc _
  have k2 : Lies W (w.heap.size + 2) 34 #[.slice none 0 0, .slice none 0 0] := by rw [hW]; exact Lies.new' _ _ _ (by simp)
  have hS : (W.cell? ⟨w.heap.size + 1, 0, none⟩ = some (.int .i64 k) ∧ W.cell? ⟨w.heap.size + 1, 1, none⟩ = some (.string (ba nm)) ∧ W.cell? ⟨w.heap.size + 1, 2, none⟩ = some (.int .i64 v) ∧ W.cell? ⟨w.heap.size + 1, 3, none⟩ = some (.slice A3 n3 c3) ∧ W.cell? ⟨w.heap.size + 1, 4, none⟩ = some (.slice A4 n4 c4) ∧ W.cell? ⟨w.heap.size + 1, 5, none⟩ = some (.int .i64 rv)) ∧ (W.cell? ⟨w.heap.size, 0, none⟩ = some (.slice A1 n1 c1) ∧ W.cell? ⟨w.heap.size, 1, none⟩ = some (.slice A2 n2 c2)) ∧ Below w.heap.size w W := ⟨⟨k1.cell 0, k1.cell 1, k1.cell 2, k1.cell 3, k1.cell 4, k1.cell 5⟩, ⟨k0.cell 0, k0.cell 1⟩, hb⟩
  have hk : ∀ V : World, V.heap[w.heap.size]? = W.heap[w.heap.size]? → V.heap[w.heap.size + 1]? = W.heap[w.heap.size + 1]? → Below w.heap.size w V → (V.cell? ⟨w.heap.size + 1, 0, none⟩ = some (.int .i64 k) ∧ V.cell? ⟨w.heap.size + 1, 1, none⟩ = some (.string (ba nm)) ∧ V.cell? ⟨w.heap.size + 1, 2, none⟩ = some (.int .i64 v) ∧ V.cell? ⟨w.heap.size + 1, 3, none⟩ = some (.slice A3 n3 c3) ∧ V.cell? ⟨w.heap.size + 1, 4, none⟩ = some (.slice A4 n4 c4) ∧ V.cell? ⟨w.heap.size + 1, 5, none⟩ = some (.int .i64 rv)) ∧ (V.cell? ⟨w.heap.size, 0, none⟩ = some (.slice A1 n1 c1) ∧ V.cell? ⟨w.heap.size, 1, none⟩ = some (.slice A2 n2 c2)) ∧ Below w.heap.size w V := fun V h0 h1 hb => by
    have j0 : Lies V w.heap.size 34 #[.slice A1 n1 c1, .slice A2 n2 c2] := h0.trans k0
    have j1 : Lies V (w.heap.size + 1) 44 #[.int .i64 k, .string (ba nm), .int .i64 v, .slice A3 n3 c3, .slice A4 n4 c4, .int .i64 rv] := h1.trans k1
    exact ⟨⟨j1.cell 0, j1.cell 1, j1.cell 2, j1.cell 3, j1.cell 4, j1.cell 5⟩, ⟨j0.cell 0, j0.cell 1⟩, hb⟩
  have HK := Lib.hid hk
  have hd0 : W.drew.heap[w.heap.size]? = W.heap[w.heap.size]? := rfl
  have hd1 : W.drew.heap[w.heap.size + 1]? = W.heap[w.heap.size + 1]? := rfl
  have hdB : Below w.heap.size w W.drew := hb.drew
  have hdr : Below W.heap.size W W.drew := (Below.refl _ _).drew
  have hlt0 := k0.lt
  have hlt1 := k1.lt
  have HW := Lib.hid hW
  have HB := Lib.hid hb
  have HK2 := Lib.hid k2
  have hco := fun w7 (hb : Below w.heap.size w w7) => copied_any w7 (.mk k nm v kids ls rv) _ (ht0.later hb) hsz
  have hand := fun w7 (hb : Below w.heap.size w w7) A5 n5 c5 A6 n6 c6 => andT_any (fun b => BX b ∨ w.heap.size ≤ b) w7 (.slice A1 n1 c1) m gt n k nm v A5 n5 c5 A6 n6 c6 rv (hst.keepL (blank_more hb)) hn hm
  have HCO := Lib.hid hco
  have HAND := Lib.hid hand
  clear hco hand ht0 ht
  have HST := Lib.hid hst
  have HSR := Lib.hid hsr
  have HTM := Lib.hid htm
  have HRM := Lib.hid hrm
  clear hW hb k0 k1 k2 hk hst hsr htm hrm
  go_enter Tryz.func56, Tryz.ntmps56
  go_wp2_with fail
  rw [← HW.out]
  go_region_held3 (fun VV => (VV.cell? ⟨w.heap.size + 1, 0, none⟩ = some (.int .i64 k) ∧ VV.cell? ⟨w.heap.size + 1, 1, none⟩ = some (.string (ba nm)) ∧ VV.cell? ⟨w.heap.size + 1, 2, none⟩ = some (.int .i64 v) ∧ VV.cell? ⟨w.heap.size + 1, 3, none⟩ = some (.slice A3 n3 c3) ∧ VV.cell? ⟨w.heap.size + 1, 4, none⟩ = some (.slice A4 n4 c4) ∧ VV.cell? ⟨w.heap.size + 1, 5, none⟩ = some (.int .i64 rv)) ∧ (VV.cell? ⟨w.heap.size, 0, none⟩ = some (.slice A1 n1 c1) ∧ VV.cell? ⟨w.heap.size, 1, none⟩ = some (.slice A2 n2 c2)) ∧ Below w.heap.size w VV)
    (first | with_reducible exact HK.out _ hd0 hd1 hdB | with_reducible exact HK.out _ p0 p1 pB | with_reducible exact HK.out _ a0 a1 aB | with_reducible exact HK.out _ s0 s1 sB)
    (first | (go_at_call 73; refine (HCO.out W.drew hdB).mono ?_; rintro e w7 ⟨l2, rfl, hfr, hb7a⟩; have hb7 : Below W.heap.size W w7 := hdr.trans hb7a; have p0 := hb7.block _ hlt0; have p1 := hb7.block _ hlt1; have pB : Below w.heap.size w w7 := HB.out.trans (hb7.mono HB.out.size); obtain ⟨A5, n5, c5, A6, n6, c6, rfl⟩ := (hfr w7 ⟨Nat.le_refl _, fun _ _ _ => rfl⟩).trv.shape; have HFR := Lib.hid hfr; clear hfr; unfold tyC) | (go_at_call 72; refine (HAND.out w7 pB A5 n5 c5 A6 n6 c6).mono ?_; rintro e w8 ⟨A7, n7, c7, rfl, hsd, hb8a⟩; have hb8 : Below W.heap.size W w8 := hb7.trans (hb8a.mono hb7.size); have a0 := hb8.block _ hlt0; have a1 := hb8.block _ hlt1; have aB : Below w.heap.size w w8 := HB.out.trans (hb8.mono HB.out.size); have m2 := HK2.out.later hb8; have mc0 := m2.cell 0; have mc1 := m2.cell 1; have mf0 := m2.free 0; have mf1 := m2.free 1; have ml := m2.lt; have q8 : Below (w.heap.size + 2) w8 ((w8.setCell ⟨w.heap.size + 2, 0, none⟩ (.slice A7 n7 c7)).setCell ⟨w.heap.size + 2, 1, none⟩ (.slice A2 n2 c2)) := ((Below.refl _ _).setCell (p := ⟨w.heap.size + 2, 0, none⟩) (Nat.le_refl _) _).setCell (p := ⟨w.heap.size + 2, 1, none⟩) (Nat.le_refl _) _; have s0 : ((w8.setCell ⟨w.heap.size + 2, 0, none⟩ (.slice A7 n7 c7)).setCell ⟨w.heap.size + 2, 1, none⟩ (.slice A2 n2 c2)).heap[w.heap.size]? = W.heap[w.heap.size]? := (q8.block _ (by omega)).trans a0; have s1 : ((w8.setCell ⟨w.heap.size + 2, 0, none⟩ (.slice A7 n7 c7)).setCell ⟨w.heap.size + 2, 1, none⟩ (.slice A2 n2 c2)).heap[w.heap.size + 1]? = W.heap[w.heap.size + 1]? := (q8.block _ (by omega)).trans a1; have sB : Below w.heap.size w ((w8.setCell ⟨w.heap.size + 2, 0, none⟩ (.slice A7 n7 c7)).setCell ⟨w.heap.size + 2, 1, none⟩ (.slice A2 n2 c2)) := aB.trans (q8.mono (by omega)); have HM2 := Lib.hid m2; have HQ8 := Lib.hid q8; have HSD := Lib.hid hsd; have HB8 := Lib.hid hb8a; clear m2 q8 hsd hb8a))
  go_wp2_with fail
  refine bodyPost_ret (v := .agg #[.slice A7 n7 c7, .slice A2 n2 c2]) (results_cell_row rfl _ _ (w.heap.size + 2) 34 _ (0, 0) _ rfl ((HM2.out.set 0 _).set 1 _) Tryz.underlying34 rfl (by kernel_rfl)) rfl ?_
  have hkw : ∀ (i : Nat), i ≠ w.heap.size + 2 → ((w8.setCell ⟨w.heap.size + 2, 0, none⟩ (.slice A7 n7 c7)).setCell ⟨w.heap.size + 2, 1, none⟩ (.slice A2 n2 c2)).heap[i]? = w8.heap[i]? := fun i h => (Below.heap_setCell _ ⟨w.heap.size + 2, 1, none⟩ _ i h).trans (Below.heap_setCell _ ⟨w.heap.size + 2, 0, none⟩ _ i h)
  have hw7s : w.heap.size + 2 < w7.heap.size := Nat.lt_of_lt_of_le HK2.out.lt hb7.size
  refine ⟨_, rfl, ?_, sB⟩
  intro wf hkf0
  have hkf : Kept (fun b => BX b ∧ b < w.heap.size) ((w8.setCell ⟨w.heap.size + 2, 0, none⟩ (.slice A7 n7 c7)).setCell ⟨w.heap.size + 2, 1, none⟩ (.slice A2 n2 c2)) wf := hkf0
  clear hkf0
  have hq8s := HQ8.out.size
  have hwfar : ∀ i, w.heap.size ≤ i → i ≠ w.heap.size + 2 → i < w8.heap.size → wf.heap[i]? = w8.heap[i]? := fun i h1 h2 h3 => (hkf.2 i (by omega) (fun e => by have := e.2; omega)).trans (hkw i h2)
  have hsdX := HSD.out wf ⟨Nat.le_trans hq8s hkf.1, fun b hb hn => by
    by_cases h1 : b < w.heap.size
    · exact (hkf.2 b (by omega) (fun e => hn ⟨.inl e.1, by omega⟩)).trans (hkw b (by omega))
    · exact hwfar b (by omega) (fun e => hn ⟨.inr (by omega), by omega⟩) hb⟩
  have hlv : ∀ g, live (blank BX w) g → wf.heap[g]? = (blank BX w).heap[g]? := blank_to (X := BX) (Y := fun b => BX b) ⟨Nat.le_trans sB.size hkf.1, fun b hb hn => (hkf.2 b (Nat.lt_of_lt_of_le hb sB.size) (fun e => hn e.1)).trans (sB.block b hb)⟩ (fun _ _ h => h)
  refine ⟨_, _, setG gt n #[.int .i64 k, .string (ba nm), .int .i64 v, .slice A5 n5 c5, .slice A6 n6 c6, .int .i64 rv], gr, rfl, hsdX, (HSR.out.keepL hlv).mono (Nat.le_succ m), ?_, HRM.out.keepL hlv⟩
  intro j hj
  unfold setF setG
  by_cases e : j = n
  · simp only [if_pos e]
    refine ⟨[.int .i64 k, .string (ba nm), .int .i64 v, .slice A5 n5 c5, .slice A6 n6 c6, .int .i64 rv], rfl, TFV.trv ?_⟩
    have hb8s := HB8.out.size
    have hws2 := HK2.out.lt
    exact HFR.out _ ⟨Nat.le_trans hb8s (Nat.le_trans hq8s hkf.1), fun b hb hn => by
      have h1 : ¬ (b < W.drew.heap.size + 2) := hn
      have h2 : W.drew.heap.size = W.heap.size := rfl
      exact (hwfar b (by omega) (by omega) (by omega)).trans (HB8.out.block b hb)⟩
  · simp only [if_neg e]
    exact (HTM.out.keepL hlv) j hj
end Go.Proofs.YtpbhndmfmnfeoaaGreat

/- SetType, SetRow. -/
namespace Go.Proofs.YtpbhndmfmnfeoaaGreat
open Go.RowKit

set_option maxRecDepth 100000 in
set_option maxHeartbeats 8000000 in
theorem setRow_any (BX : Nat → Prop) (w : World) (sv : Value) (m : Nat) (T : Int → Option Ty) (R : Int → Option (List Str × Int)) (hs : SubV (blank BX w) sv m T R) (hm : m ≤ 1000) (n : Int) (hn : i64ok n) (ls : List Str) (rv : Int) (l : List Value) (hr : RwV w (ls, rv) l) :
    Calls Tryz.prog 50 #[sv, .int .i64 n, .agg l.toArray] w fun e w' => ∃ sv', e = .returned sv' ∧ (∀ wf, Kept (fun b => BX b ∧ b < w.heap.size) w' wf → SubV wf sv' (m + 1) T (setF R n (ls, rv))) ∧ Below w.heap.size w w' := by
  obtain ⟨vt, vr, gt, gr, rfl, hst, hsr, htm, hrm⟩ := hs
  obtain ⟨A1, n1, c1, rfl⟩ := hst.one
  obtain ⟨A2, n2, c2, rfl⟩ := hsr.one
  obtain ⟨lv, rfl, hlv, hrv⟩ := hr
  obtain ⟨A4, n4, c4, rfl⟩ : ∃ A n c, lv = .slice A n c := by rcases hlv.1 with ⟨rfl, _⟩ | ⟨_, _, rfl, _⟩ <;> exact ⟨_, _, _, rfl⟩
  simp only at hlv hrv ⊢
  obtain ⟨W, hW⟩ : ∃ W, W = ((w.alloc (.cells #[.slice A1 n1 c1, .slice A2 n2 c2] 34)).alloc (.cells #[.slice A4 n4 c4, .int .i64 rv] 24)).alloc (.cells #[.slice none 0 0, .slice none 0 0] 34) := ⟨_, rfl⟩
  have hb : Below w.heap.size w W := by rw [hW]; exact (((Below.refl _ w).alloc (Nat.le_refl _) _).alloc (by simp) _).alloc (by simp; omega) _
  have k0 : Lies W w.heap.size 34 #[.slice A1 n1 c1, .slice A2 n2 c2] := by rw [hW]; exact ((Lies.new _ _ _).alloc _).alloc _
  have k1 : Lies W (w.heap.size + 1) 24 #[.slice A4 n4 c4, .int .i64 rv] := by rw [hW]; exact (Lies.new' _ _ _ (by simp)).alloc _
  have k2 : Lies W (w.heap.size + 2) 34 #[.slice none 0 0, .slice none 0 0] := by rw [hW]; exact Lies.new' _ _ _ (by simp)
  have hS : (W.cell? ⟨w.heap.size + 1, 0, none⟩ = some (.slice A4 n4 c4) ∧ W.cell? ⟨w.heap.size + 1, 1, none⟩ = some (.int .i64 rv)) ∧ (W.cell? ⟨w.heap.size, 0, none⟩ = some (.slice A1 n1 c1) ∧ W.cell? ⟨w.heap.size, 1, none⟩ = some (.slice A2 n2 c2)) ∧ Below w.heap.size w W := ⟨⟨k1.cell 0, k1.cell 1⟩, ⟨k0.cell 0, k0.cell 1⟩, hb⟩
  have hk : ∀ V : World, V.heap[w.heap.size]? = W.heap[w.heap.size]? → V.heap[w.heap.size + 1]? = W.heap[w.heap.size + 1]? → Below w.heap.size w V → (V.cell? ⟨w.heap.size + 1, 0, none⟩ = some (.slice A4 n4 c4) ∧ V.cell? ⟨w.heap.size + 1, 1, none⟩ = some (.int .i64 rv)) ∧ (V.cell? ⟨w.heap.size, 0, none⟩ = some (.slice A1 n1 c1) ∧ V.cell? ⟨w.heap.size, 1, none⟩ = some (.slice A2 n2 c2)) ∧ Below w.heap.size w V := fun V h0 h1 hb => by
    have j0 : Lies V w.heap.size 34 #[.slice A1 n1 c1, .slice A2 n2 c2] := h0.trans k0
    have j1 : Lies V (w.heap.size + 1) 24 #[.slice A4 n4 c4, .int .i64 rv] := h1.trans k1
    exact ⟨⟨j1.cell 0, j1.cell 1⟩, ⟨j0.cell 0, j0.cell 1⟩, hb⟩
  have HK := Lib.hid hk
  have hd0 : W.drew.heap[w.heap.size]? = W.heap[w.heap.size]? := rfl
  have hd1 : W.drew.heap[w.heap.size + 1]? = W.heap[w.heap.size + 1]? := rfl
  have hdB : Below w.heap.size w W.drew := hb.drew
  have hdr : Below W.heap.size W W.drew := (Below.refl _ _).drew
  have hlt0 := k0.lt
  have hlt1 := k1.lt
  have HW := Lib.hid hW
  have HB := Lib.hid hb
  have HK2 := Lib.hid k2
  have hco := fun w7 (hb : Below w.heap.size w w7) => copiedRow_any (.slice A4 n4 c4) ls rv w7 (hlv.keep hb.block)
  have hand := fun w7 (hb : Below w.heap.size w w7) A6 n6 c6 => andR_any (fun b => BX b ∨ w.heap.size ≤ b) w7 (.slice A2 n2 c2) m gr n A6 n6 c6 rv (hsr.keepL (blank_more hb)) hn hm
  have HCO := Lib.hid hco
  have HAND := Lib.hid hand
  have HRV := Lib.hid hrv
  have HLN := Lib.hid hlv.2
  clear hco hand hlv hrv
  have HST := Lib.hid hst
  have HSR := Lib.hid hsr
  have HTM := Lib.hid htm
  have HRM := Lib.hid hrm
  clear hW hb k0 k1 k2 hk hst hsr htm hrm
  go_enter Tryz.func50, Tryz.ntmps50
  go_wp2_with fail
  rw [← HW.out]
  go_region_held3 (fun VV => (VV.cell? ⟨w.heap.size + 1, 0, none⟩ = some (.slice A4 n4 c4) ∧ VV.cell? ⟨w.heap.size + 1, 1, none⟩ = some (.int .i64 rv)) ∧ (VV.cell? ⟨w.heap.size, 0, none⟩ = some (.slice A1 n1 c1) ∧ VV.cell? ⟨w.heap.size, 1, none⟩ = some (.slice A2 n2 c2)) ∧ Below w.heap.size w VV)
    (first | with_reducible exact HK.out _ hd0 hd1 hdB | with_reducible exact HK.out _ p0 p1 pB | with_reducible exact HK.out _ a0 a1 aB | with_reducible exact HK.out _ s0 s1 sB)
    (first | (go_at_call 27; refine (HCO.out W.drew hdB).mono ?_; rintro e w7 ⟨v2, rfl, hfr, hb7a⟩; have hb7 : Below W.heap.size W w7 := hdr.trans hb7a; have p0 := hb7.block _ hlt0; have p1 := hb7.block _ hlt1; have pB : Below w.heap.size w w7 := HB.out.trans (hb7.mono HB.out.size); have HFR := Lib.hid hfr; unfold OwnL at hfr; obtain ⟨A6, n6, c6, rfl⟩ := own_slice hfr; clear hfr) | (go_at_call 67; refine (HAND.out w7 pB A6 n6 c6).mono ?_; rintro e w8 ⟨A7, n7, c7, rfl, hsd, hb8a⟩; have hb8 : Below W.heap.size W w8 := hb7.trans (hb8a.mono hb7.size); have a0 := hb8.block _ hlt0; have a1 := hb8.block _ hlt1; have aB : Below w.heap.size w w8 := HB.out.trans (hb8.mono HB.out.size); have m2 := HK2.out.later hb8; have mc0 := m2.cell 0; have mc1 := m2.cell 1; have mf0 := m2.free 0; have mf1 := m2.free 1; have ml := m2.lt; have q8 : Below (w.heap.size + 2) w8 ((w8.setCell ⟨w.heap.size + 2, 0, none⟩ (.slice A1 n1 c1)).setCell ⟨w.heap.size + 2, 1, none⟩ (.slice A7 n7 c7)) := ((Below.refl _ _).setCell (p := ⟨w.heap.size + 2, 0, none⟩) (Nat.le_refl _) _).setCell (p := ⟨w.heap.size + 2, 1, none⟩) (Nat.le_refl _) _; have s0 : ((w8.setCell ⟨w.heap.size + 2, 0, none⟩ (.slice A1 n1 c1)).setCell ⟨w.heap.size + 2, 1, none⟩ (.slice A7 n7 c7)).heap[w.heap.size]? = W.heap[w.heap.size]? := (q8.block _ (by omega)).trans a0; have s1 : ((w8.setCell ⟨w.heap.size + 2, 0, none⟩ (.slice A1 n1 c1)).setCell ⟨w.heap.size + 2, 1, none⟩ (.slice A7 n7 c7)).heap[w.heap.size + 1]? = W.heap[w.heap.size + 1]? := (q8.block _ (by omega)).trans a1; have sB : Below w.heap.size w ((w8.setCell ⟨w.heap.size + 2, 0, none⟩ (.slice A1 n1 c1)).setCell ⟨w.heap.size + 2, 1, none⟩ (.slice A7 n7 c7)) := aB.trans (q8.mono (by omega)); have HM2 := Lib.hid m2; have HQ8 := Lib.hid q8; have HSD := Lib.hid hsd; have HB8 := Lib.hid hb8a; clear m2 q8 hsd hb8a))
  go_wp2_with fail
  refine bodyPost_ret (v := .agg #[.slice A1 n1 c1, .slice A7 n7 c7]) (results_cell_row rfl _ _ (w.heap.size + 2) 34 _ (0, 0) _ rfl ((HM2.out.set 0 _).set 1 _) Tryz.underlying34 rfl (by kernel_rfl)) rfl ?_
  have hkw : ∀ (i : Nat), i ≠ w.heap.size + 2 → ((w8.setCell ⟨w.heap.size + 2, 0, none⟩ (.slice A1 n1 c1)).setCell ⟨w.heap.size + 2, 1, none⟩ (.slice A7 n7 c7)).heap[i]? = w8.heap[i]? := fun i h => (Below.heap_setCell _ ⟨w.heap.size + 2, 1, none⟩ _ i h).trans (Below.heap_setCell _ ⟨w.heap.size + 2, 0, none⟩ _ i h)
  have hw7s : w.heap.size + 2 < w7.heap.size := Nat.lt_of_lt_of_le HK2.out.lt hb7.size
  refine ⟨_, rfl, ?_, sB⟩
  intro wf hkf0
  have hkf : Kept (fun b => BX b ∧ b < w.heap.size) ((w8.setCell ⟨w.heap.size + 2, 0, none⟩ (.slice A1 n1 c1)).setCell ⟨w.heap.size + 2, 1, none⟩ (.slice A7 n7 c7)) wf := hkf0
  clear hkf0
  have hq8s := HQ8.out.size
  have hwfar : ∀ i, w.heap.size ≤ i → i ≠ w.heap.size + 2 → i < w8.heap.size → wf.heap[i]? = w8.heap[i]? := fun i h1 h2 h3 => (hkf.2 i (by omega) (fun e => by have := e.2; omega)).trans (hkw i h2)
  have hsdX := HSD.out wf ⟨Nat.le_trans hq8s hkf.1, fun b hb hn => by
    by_cases h1 : b < w.heap.size
    · exact (hkf.2 b (by omega) (fun e => hn ⟨.inl e.1, by omega⟩)).trans (hkw b (by omega))
    · exact hwfar b (by omega) (fun e => hn ⟨.inr (by omega), by omega⟩) hb⟩
  have hlv : ∀ g, live (blank BX w) g → wf.heap[g]? = (blank BX w).heap[g]? := blank_to (X := BX) (Y := fun b => BX b) ⟨Nat.le_trans sB.size hkf.1, fun b hb hn => (hkf.2 b (Nat.lt_of_lt_of_le hb sB.size) (fun e => hn e.1)).trans (sB.block b hb)⟩ (fun _ _ h => h)
  refine ⟨_, _, gt, setG gr n #[.slice A6 n6 c6, .int .i64 rv], rfl, (HST.out.keepL hlv).mono (Nat.le_succ m), hsdX, HTM.out.keepL hlv, ?_⟩
  intro j hj
  unfold setF setG
  by_cases e : j = n
  · simp only [if_pos e]
    refine ⟨[.slice A6 n6 c6, .int .i64 rv], rfl, _, rfl, ?_, HRV.out⟩
    have hb8s := HB8.out.size
    have hws2 := HK2.out.lt
    have h2 : W.drew.heap.size = W.heap.size := rfl
    have h1 : OwnL wf W.drew.heap.size (.slice A6 n6 c6) ls := own_same HFR.out fun b hb hlt => (hwfar b (by omega) (by omega) (by omega)).trans (HB8.out.block b hlt)
    exact h1.str HLN.out
  · simp only [if_neg e]
    exact (HRM.out.keepL hlv) j hj
end Go.Proofs.YtpbhndmfmnfeoaaGreat
