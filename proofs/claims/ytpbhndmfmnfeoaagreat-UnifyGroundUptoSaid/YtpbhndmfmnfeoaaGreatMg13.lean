/- and: what is said of one number more. -/
import Derived.Test.YtpbhndmfmnfeoaaGreatMg05
import Derived.Test.YtpbhndmfmnfeoaaGreatMg12
import Derived.Test.YtpbhndmfmnfeoaaGreatMg01
import Derived.Deep.RegionHeld3
import Derived.IntWalk
import Derived.Deep.LoopGhost
import Derived.Outline
namespace Go.Proofs.YtpbhndmfmnfeoaaGreat
open Go.RowKit Go.Maps

theorem overG_assoc (a b c : GMap) : overG (overG a b) c = overG a (overG b c) := by
  funext n
  unfold overG
  cases c n <;> simp
theorem overG_set (a : GMap) (n : Int) (v : Array Value) : overG a (setG noG n v) = setG a n v := by
  funext k
  unfold overG setG noG
  by_cases h : k = n <;> simp [h]
theorem SrcV.take {w : World} {A : Option Addr} {n c : Nat} {xs : List Value} (h : SrcV w (.slice A n c) xs) (k : Nat) (hk : k ≤ xs.length) : SrcV w (.slice A k c) (xs.take k) := by
  rcases h with ⟨e, rfl⟩ | ⟨ad, q, e, h1, h2⟩
  · injection e with e1 e2 e3
    have : k = 0 := by simpa using hk
    subst e1 e2 e3 this
    exact .inl ⟨rfl, rfl⟩
  · injection e with e1 e2 e3
    subst e1 e2 e3
    have hl : (xs.take k).length = k := by simp; omega
    refine .inr ⟨ad, c, by rw [hl], by omega, fun j q hq => h2 j q ?_⟩
    have hj := (List.getElem?_eq_some_iff.1 hq).1
    rw [hl] at hj
    rwa [List.getElem?_take_of_lt hj] at hq
/-- What is said when a layer is laid on some of the elder ones. -/
theorem SaidV.anded {w0 wf : World} {k m K b' s' N : Nat} {g g' : GMap} {n : Int} {cs : Array Value} {zs : List Ly} {v' : Value} (hz : ∀ l ∈ zs, MapI w0 k l.1 l.2.1 l.2.2) (hb : ∀ l ∈ zs, wf.heap[l.1]? = w0.heap[l.1]?) (hN : N = zs.length) (hK : K ≤ N) (hNm : N ≤ m)
    (hg : ∀ j, i64ok j → lyOver zs j = g j) (hM : MapI wf k b' s' g') (hsum : lySum (zs.take K) + s' ≤ m + 1) (hg' : overG (lyOver (zs.take K)) g' = overG (lyOver zs) (setG noG n cs)) (hv : SrcV wf v' ((zs.take K).map lyV ++ [.map (some b')])) :
    SaidV wf k v' (m + 1) (setG g n cs) := by
  refine ⟨zs.take K ++ [(b', s', g')], by simpa [lyV] using hv, fun l hl => ?_, by rw [lySum_app]; simpa [lySum] using hsum, by simp; omega, fun j hj => ?_⟩
  · rcases List.mem_append.1 hl with h | h
    · exact (hz l (List.mem_of_mem_take h)).keep (hb l (List.mem_of_mem_take h))
    · rw [List.mem_singleton.1 h]
      exact hM
  · rw [lyOver_app]
    show overG (lyOver (zs.take K)) g' j = _
    rw [hg', overG_set]
    unfold setG
    split
    · rfl
    · exact hg j hj
theorem MapI.len {w : World} {k b m : Nat} {g : GMap} (h : MapI w k b m g) : ∃ q, q ≤ m ∧ ∀ (t e ty : TypeId), Tryz.prog.underlying t = some (.map 3 e) → (Builtin.len_ #[t] ty #[.map (some b)]).run Tryz.prog w = .ok (.int .i64 ((q : Nat) : Int)) w := by
  obtain ⟨D, h1, _⟩ := h
  exact ⟨Maps.size D, h1.size_le, fun t e ty ht => h1.len ht ty⟩
set_option maxHeartbeats 8000000 in
set_option maxRecDepth 100000 in
theorem andT_any (BX : Nat → Prop) (w : World) (sv : Value) (m : Nat) (g : GMap) (n : Int) (k : Int) (nm : Str) (v : Int) (A3 : Option Addr) (n3 c3 : Nat) (A4 : Option Addr) (n4 c4 : Nat) (rv : Int) (h : SaidV (blank BX w) 6 sv m g) (hn : i64ok n) (hm : m ≤ 1000) :
    Calls Tryz.prog 72 #[.agg #[sv], .int .i64 n, .agg #[.int .i64 k, .string (ba nm), .int .i64 v, .slice A3 n3 c3, .slice A4 n4 c4, .int .i64 rv]] w fun e w' => ∃ A' n' c', e = .returned (.agg #[.slice A' n' c']) ∧ (∀ wf, Kept (fun b => BX b ∧ b < w.heap.size) w' wf → SaidV wf 6 (.slice A' n' c') (m + 1) (setG g n #[.int .i64 k, .string (ba nm), .int .i64 v, .slice A3 n3 c3, .slice A4 n4 c4, .int .i64 rv])) ∧ Below w.heap.size w w' := by
  obtain ⟨zs, h1', h2', h3, h4, h5⟩ := h
  have HL0 := Lib.hid h2'
  have hbb : ∀ g, live (blank BX w) g → w.heap[g]? = (blank BX w).heap[g]? := fun g hg => (blank_at (blank_live hg).1).symm
  have h1 := h1'.keepL hbb
  have h2 := fun l hl => (h2' l hl).keep (hbb _ (h2' l hl).live)
  clear h1' h2' hbb
  obtain ⟨A, c, rfl, hc, hcell⟩ := h1.form (by simp; omega)
  simp only [List.length_map] at hc ⊢
  have hfit : Fit1 6 #[.int .i64 k, .string (ba nm), .int .i64 v, .slice A3 n3 c3, .slice A4 n4 c4, .int .i64 rv] := ⟨rfl, by simp [Value.oneCell']⟩
  obtain ⟨N, hN⟩ : ∃ N, N = zs.length := ⟨_, rfl⟩
  have HSRC := Lib.hid h1
  have HC := Lib.hid hcell
  have HL := Lib.hid h2
  have HN := Lib.hid hN
  have HSUM := Lib.hid h3
  have HG := Lib.hid h5
  rw [← hN] at hc h4 ⊢
  clear hcell h2 hN h3 h5 h1
  obtain ⟨W, hW⟩ : ∃ W, W = ((w.alloc (.cells #[.slice A N c] 29)).alloc (.cells #[.int .i64 k, .string (ba nm), .int .i64 v, .slice A3 n3 c3, .slice A4 n4 c4, .int .i64 rv] 44)).alloc (.cells #[.slice none 0 0] 29) := ⟨_, rfl⟩
  have hb : Below w.heap.size w W := by rw [hW]; exact (((Below.refl _ w).alloc (Nat.le_refl _) _).alloc (by simp) _).alloc (by simp; omega) _
  have k0 : Lies W w.heap.size 29 #[.slice A N c] := by rw [hW]; exact ((Lies.new _ _ _).alloc _).alloc _
  have k1 : Lies W (w.heap.size + 1) 44 #[.int .i64 k, .string (ba nm), .int .i64 v, .slice A3 n3 c3, .slice A4 n4 c4, .int .i64 rv] := by rw [hW]; exact (Lies.new' _ _ _ (by simp)).alloc _
  have k2 : Lies W (w.heap.size + 2) 29 #[.slice none 0 0] := by rw [hW]; exact Lies.new' _ _ _ (by simp)
  have hS : (W.cell? ⟨w.heap.size + 1, 0, none⟩ = some (.int .i64 k) ∧ W.cell? ⟨w.heap.size + 1, 1, none⟩ = some (.string (ba nm)) ∧ W.cell? ⟨w.heap.size + 1, 2, none⟩ = some (.int .i64 v) ∧ W.cell? ⟨w.heap.size + 1, 3, none⟩ = some (.slice A3 n3 c3) ∧ W.cell? ⟨w.heap.size + 1, 4, none⟩ = some (.slice A4 n4 c4) ∧ W.cell? ⟨w.heap.size + 1, 5, none⟩ = some (.int .i64 rv)) ∧ W.cell? ⟨w.heap.size, 0, none⟩ = some (.slice A N c) ∧ Below W.heap.size W W := ⟨⟨k1.cell 0, k1.cell 1, k1.cell 2, k1.cell 3, k1.cell 4, k1.cell 5⟩, k0.cell 0, Below.refl _ _⟩
  have hk : ∀ V : World, Below W.heap.size W V → (V.cell? ⟨w.heap.size + 1, 0, none⟩ = some (.int .i64 k) ∧ V.cell? ⟨w.heap.size + 1, 1, none⟩ = some (.string (ba nm)) ∧ V.cell? ⟨w.heap.size + 1, 2, none⟩ = some (.int .i64 v) ∧ V.cell? ⟨w.heap.size + 1, 3, none⟩ = some (.slice A3 n3 c3) ∧ V.cell? ⟨w.heap.size + 1, 4, none⟩ = some (.slice A4 n4 c4) ∧ V.cell? ⟨w.heap.size + 1, 5, none⟩ = some (.int .i64 rv)) ∧ V.cell? ⟨w.heap.size, 0, none⟩ = some (.slice A N c) ∧ Below W.heap.size W V := fun V hb => by
    have j0 := k0.later hb
    have j1 := k1.later hb
    exact ⟨⟨j1.cell 0, j1.cell 1, j1.cell 2, j1.cell 3, j1.cell 4, j1.cell 5⟩, j0.cell 0, hb⟩
  have HK := Lib.hid hk
  have hmm := @run_makeMap Tryz.prog
  have bM : Below W.heap.size W (W.alloc (.map #[] 0)).drew := (below_new W _).drew
  have hM0 : MapI (W.alloc (.map #[] 0)).drew 6 W.heap.size 0 noG := (MapI.made W 6).keep rfl
  obtain ⟨w1, hrun, hM1, hgr, hsz⟩ := hM0.put Tryz.underlying129 (by unfold maxLen; omega) hn hfit
  have hrun2 : (Instr.mapUpdate 129 (.map (some W.heap.size)) (.int .i64 n) (.agg #[.int .i64 k, .string (ba nm), .int .i64 v, .slice A3 n3 c3, .slice A4 n4 c4, .int .i64 rv])).run Tryz.prog (W.drew.alloc (.map #[] 0)) = .ok () w1 := hrun
  have b1 : Below W.heap.size W w1 := ⟨hgr.os.trans bM.os, hgr.tape.trans bM.tape, hgr.output.trans bM.output, Nat.le_trans bM.size hgr.size, fun i hi => (hgr.block i (Nat.lt_of_lt_of_le hi bM.size) (fun e => by have := Option.some.inj e; omega)).trans (bM.block i hi)⟩
  have hdr : Below W.heap.size W W.drew := (Below.refl _ _).drew
  have HM1 := Lib.hid hM1
  have HW := Lib.hid hW
  have HB := Lib.hid hb
  have HK0 := Lib.hid k0
  have HK2 := Lib.hid k2
  have hlt0 := k0.lt
  have hlt2 := k2.lt
  clear hW hb k0 k1 k2 hk hM0 hM1 hgr hsz hfit
  go_enter Tryz.func72, Tryz.ntmps72
  go_wp2_with fail
  rw [← HW.out]
  go_region_held3 (fun VV => (VV.cell? ⟨w.heap.size + 1, 0, none⟩ = some (.int .i64 k) ∧ VV.cell? ⟨w.heap.size + 1, 1, none⟩ = some (.string (ba nm)) ∧ VV.cell? ⟨w.heap.size + 1, 2, none⟩ = some (.int .i64 v) ∧ VV.cell? ⟨w.heap.size + 1, 3, none⟩ = some (.slice A3 n3 c3) ∧ VV.cell? ⟨w.heap.size + 1, 4, none⟩ = some (.slice A4 n4 c4) ∧ VV.cell? ⟨w.heap.size + 1, 5, none⟩ = some (.int .i64 rv)) ∧ VV.cell? ⟨w.heap.size, 0, none⟩ = some (.slice A N c) ∧ Below W.heap.size W VV)
    (first | with_reducible exact HK.out _ hdr | with_reducible exact HK.out _ bM | with_reducible exact HK.out _ b1 | with_reducible exact HK.out _ b1.drew)
    (first | fail)
  clear hrun hrun2 hmm bM hdr
  have HB1 := Lib.hid b1
  clear b1 hS
  go_wp2_with fail
  have HZ := Lib.hid @zero_T
  go_loopw [7, 8] (fun nv kv wr => ∃ (K b' s' : Nat) (g' : GMap), W.heap.size ≤ b' ∧ K ≤ N ∧ kv = .int .i64 K ∧ nv = .map (some b') ∧ MapI wr 6 b' s' g' ∧ lySum (zs.take K) + s' ≤ m + 1 ∧ overG (lyOver (zs.take K)) g' = overG (lyOver zs) (setG noG n #[.int .i64 k, .string (ba nm), .int .i64 v, .slice A3 n3 c3, .slice A4 n4 c4, .int .i64 rv]) ∧ Below w.heap.size w wr ∧ Below W.heap.size W wr) (fun _ k _ => (intOf k).toNat)
  case atStart => exact ⟨N, _, _, _, Nat.le_refl _, Nat.le_refl _, rfl, rfl, HM1.out, by rw [List.take_of_length_le (by have := HN.out; omega)]; have := HSUM.out; omega, by rw [List.take_of_length_le (by have := HN.out; omega)], HB.out.trans (HB1.out.mono HB.out.size), HB1.out⟩
  case round =>
    obtain ⟨K, b', s', g', hb', hK, rfl, rfl, hM, hsum, hg', hBw, hBW⟩ := hrel
    have HBB := Lib.hid hb'
    clear hb'
    have HMM := Lib.hid hM
    have HSS := Lib.hid hsum
    have HGG := Lib.hid hg'
    have z0 := (HK0.out.later hBW).cell 0
    have z2 := (HK2.out.later hBW)
    have HZ2 := Lib.hid z2
    obtain ⟨wo, rfl⟩ : ∃ wo, wo = wr := ⟨_, rfl⟩
    clear hM hsum hg' z2
    have hKc : K ≤ c := by omega
    have hKN : ((K : Nat) : Int) ≤ (c : Int) := by omega
    rcases Nat.eq_zero_or_pos K with h0 | hpos
    · subst h0
      go_wp2_with fail
      obtain ⟨W3, hW3⟩ : ∃ W3, W3 = (wo.alloc (.cells #[.map (some b')] 129)).alloc (.cells #[.slice A 0 c, .slice (some ⟨wo.heap.size, 0, none⟩) 1 1] 27) := ⟨_, rfl⟩
      have hb3 : Below wo.heap.size wo W3 := by rw [hW3]; exact (below_new wo _).alloc (by simp) _
      have y1 : Lies W3 wo.heap.size 129 #[.map (some b')] := by rw [hW3]; exact (Lies.new _ _ _).alloc _
      have y2 : Lies W3 (wo.heap.size + 1) 27 #[.slice A 0 c, .slice (some ⟨wo.heap.size, 0, none⟩) 1 1] := by rw [hW3]; exact Lies.new' _ _ _ (by simp)
      have hcon := concatT_any [(.slice A 0 c, (zs.take (0)).map lyV), (.slice (some ⟨wo.heap.size, 0, none⟩) 1 1, [.map (some b')])] (wo.heap.size + 1) 2 W3 y2 (Nat.le_refl _) (by
        intro p hp
        rcases List.mem_cons.1 hp with rfl | hp
        · have h := (HSRC.out.take (0) (by rw [List.length_map]; have := HN.out; omega)).later (hBw.trans (hb3.mono hBw.size))
          rw [← List.map_take] at h
          exact h
        · rw [List.mem_singleton.1 hp]
          refine .inr ⟨_, 1, rfl, Nat.le_refl _, fun j q hq => ?_⟩
          have hj : j = 0 := by have := (List.getElem?_eq_some_iff.1 hq).1; simp at this; exact this
          subst hj
          obtain rfl : Value.map (some b') = q := by simpa using hq
          have := y1.cell 0
          simpa [Addr.add] using this) (by
        intro p hp
        rcases List.mem_cons.1 hp with rfl | hp
        · intro q hq
          obtain ⟨l, _, rfl⟩ := List.mem_map.1 hq
          rfl
        · rw [List.mem_singleton.1 hp]
          intro q hq
          rw [List.mem_singleton.1 hq]
          rfl) (by first | (simp; done) | (simp; omega)) (by simp)
      rw [← hW3]
      have HW3 := Lib.hid hW3
      have HB3 := Lib.hid hb3
      clear hW3 hb3 y1 y2
      refine hcon.mono ?_
      rintro e w5 ⟨v', rfl, ho, hb5⟩
      clear hcon
      obtain ⟨A2, k2, c2, rfl⟩ := own_slice ho
      have hb35 : Below wo.heap.size wo w5 := HB3.out.trans (hb5.mono HB3.out.size)
      have m2 := HZ2.out.later hb35
      have mc0 := m2.cell 0
      have mf0 := m2.free 0
      have ml := m2.lt
      have HM2 := Lib.hid m2
      have HO := Lib.hid ho
      have hs3 : w.heap.size + 2 < W3.heap.size := Nat.lt_of_lt_of_le HZ2.out.lt HB3.out.size
      clear m2 ho
      go_wp2_with fail
      refine bodyPost_ret (v := .agg #[.slice A2 k2 c2]) (results_cell_row rfl _ _ (w.heap.size + 2) 29 _ (0, 0) _ rfl (HM2.out.set 0 _) Tryz.underlying29 rfl (by kernel_rfl)) rfl ?_
      have q5 : Below (w.heap.size + 2) w5 (w5.setCell ⟨w.heap.size + 2, 0, none⟩ (.slice A2 k2 c2)) := (Below.refl _ _).setCell (p := ⟨w.heap.size + 2, 0, none⟩) (Nat.le_refl _) _
      have hbz : Below w.heap.size w (w5.setCell ⟨w.heap.size + 2, 0, none⟩ (.slice A2 k2 c2)) := (hBw.trans (hb35.mono hBw.size)).trans (q5.mono (by omega))
      refine ⟨A2, k2, c2, rfl, ?_, hbz⟩
      intro wf hkf0
      have hkf : Kept (fun b => BX b ∧ b < w.heap.size) (w5.setCell ⟨w.heap.size + 2, 0, none⟩ (.slice A2 k2 c2)) wf := hkf0
      clear hkf0
      have hq5s := q5.size
      have hww := hBw.size
      have hw3 := HB3.out.size
      have hoo := own_same HO.out (w' := wf) fun i hi hlt => (hkf.2 i (by omega) (by intro e; have := e.2; omega)).trans (Below.heap_setCell _ ⟨w.heap.size + 2, 0, none⟩ _ i (by show i ≠ w.heap.size + 2; omega))
      have hsr := own_row_src hoo
      have hM6 := (HMM.out.later hb35).keep (Below.heap_setCell w5 ⟨w.heap.size + 2, 0, none⟩ (.slice A2 k2 c2) b' (by show b' ≠ w.heap.size + 2; have := HBB.out; omega))
      have hM7 := hM6.keep (hkf.2 b' hM6.lt (by intro e; have := e.2; have := HBB.out; omega))
      exact SaidV.anded (w0 := blank BX w) (N := N) (K := 0) HL0.out (fun l hl => by
        obtain ⟨hnx, hlx⟩ := blank_live (HL0.out l hl).live
        rw [blank_at hnx]
        exact (hkf.2 l.1 (by have := hbz.size; omega) (fun e => hnx e.1)).trans (hbz.block l.1 hlx)) HN.out (by omega) h4 HG.out hM7 HSS.out HGG.out (by simpa using hsr)

    · obtain ⟨K', rfl⟩ : ∃ K', K = K' + 1 := ⟨K - 1, by omega⟩
      obtain ⟨z, hz⟩ : ∃ z, zs[K']? = some z := ⟨_, List.getElem?_eq_getElem (by have := HN.out; omega)⟩
      have hzm : z ∈ zs := List.mem_of_getElem? hz
      obtain ⟨gg, o, rfl, hcl⟩ := HC.out K' (lyV z) (by rw [List.getElem?_map, hz]; rfl)
      have hml := (HL.out z hzm).later hBw
      have hgw := World.block_lt_of_cell? w _ hcl
      have c0 := (hBw.cell (p := ⟨gg, o + K', none⟩) hgw).trans hcl
      unfold lyV at c0
      obtain ⟨q1, hq1, hl1⟩ := hml.len
      obtain ⟨q2, hq2, hl2⟩ := HMM.out.len
      have hlen1 := fun ty => hl1 129 44 ty Tryz.underlying129
      have hlen2 := fun ty => hl2 129 44 ty Tryz.underlying129
      have hst : zs.take (K' + 1) = zs.take K' ++ [z] := take_step zs K' z hz
      have hsm : lySum (zs.take (K' + 1)) = lySum (zs.take K') + z.2.1 := by rw [hst, lySum_app]; simp [lySum]
      have hov : lyOver (zs.take (K' + 1)) = overG (lyOver (zs.take K')) z.2.2 := by rw [hst, lyOver_app]
      have hz1 : z.2.1 ≤ m + 1 := by have := HSS.out; omega
      have hs1 : s' ≤ m + 1 := by have := HSS.out; omega
      have hss : z.2.1 + s' ≤ m + 1 := by have := HSS.out; omega
      have HSM := Lib.hid hsm
      have HOV := Lib.hid hov
      have HML := Lib.hid hml
      have hpK : (0 : Int) < (K' : Int) + 1 := by omega
      have hx1 : (K' : Int) + 1 - 1 = (K' : Int) := by omega
      have hx2 : IntKind.i64.wrap (K' : Int) = (K' : Int) := IntWalk.i64_in _ (by omega)
      have hx3 : IntKind.i64.wrap ((K' : Int) + 1 - 1) = (K' : Int) := by rw [hx1, hx2]
      have hx4 : IntKind.i64.wrap (2 * (q2 : Int)) = 2 * (q2 : Int) := IntWalk.i64_in _ (by omega)
      have hKN' : K' < N := by omega
      clear hst hsm hov hml hl1 hl2 hz1
      by_cases hcond : (q1 : Int) ≤ 2 * (q2 : Int)
      · go_wp2_with fail
        obtain ⟨W3, hW3⟩ : ∃ W3, W3 = wo.alloc (.cells #[.map (some z.1), .map (some b')] 129) := ⟨_, rfl⟩
        have hb3 : Below wo.heap.size wo W3 := by rw [hW3]; exact below_new wo _
        have y1 : Lies W3 wo.heap.size 129 #[.map (some z.1), .map (some b')] := by rw [hW3]; exact Lies.new _ _ _
        have hmg := mergedT_any [z, (b', s', g')] (.slice (some ⟨wo.heap.size, 0, none⟩) 2 2) W3 (by
          refine .inr ⟨_, 2, rfl, Nat.le_refl _, fun j q hq => ?_⟩
          have hj : j = 0 ∨ j = 1 := by have := (List.getElem?_eq_some_iff.1 hq).1; simp at this; omega
          rcases hj with rfl | rfl
          · obtain rfl : lyV z = q := by simpa using hq
            simpa [Addr.add, lyV] using y1.cell 0
          · obtain rfl : lyV (b', s', g') = q := by simpa using hq
            simpa [Addr.add, lyV] using y1.cell 1) (by
          intro l hl
          rcases List.mem_cons.1 hl with rfl | hl
          · exact HML.out.later hb3
          · rw [List.mem_singleton.1 hl]
            exact HMM.out.later hb3) (by simp [lySum]; omega) (by simp)
        have e1 : lySum [z, (b', s', g')] = z.2.1 + s' := by simp [lySum]
        have e2 : lyOver [z, (b', s', g')] = overG z.2.2 g' := by simp [lyOver, overG_none]
        rw [e1, e2] at hmg
        rw [← hW3]
        have HW3 := Lib.hid hW3
        have HB3 := Lib.hid hb3
        clear hW3 hb3 y1 e1 e2
        refine hmg.mono ?_
        rintro e w5 ⟨rfl, hM5, hb5⟩
        clear hmg
        have hb35 : Below wo.heap.size wo w5 := HB3.out.trans (hb5.mono HB3.out.size)
        go_wp2_with fail
        go_roundw
        case rel =>
          refine ⟨K', W3.heap.size, z.2.1 + s', overG z.2.2 g', Nat.le_trans hBW.size HB3.out.size, by omega, rfl, rfl, hM5, ?_, ?_, hBw.trans (hb35.mono hBw.size), hBW.trans (hb35.mono hBW.size)⟩
          · have h1 := HSS.out
            have h2 := HSM.out
            omega
          · rw [← HGG.out, HOV.out, overG_assoc]
        case measure => (simp [intOf] <;> omega)
      · skip
        go_wp2_with fail
        obtain ⟨W3, hW3⟩ : ∃ W3, W3 = (wo.alloc (.cells #[.map (some b')] 129)).alloc (.cells #[.slice (some ⟨gg, o, none⟩) (K' + 1) c, .slice (some ⟨wo.heap.size, 0, none⟩) 1 1] 27) := ⟨_, rfl⟩
        have hb3 : Below wo.heap.size wo W3 := by rw [hW3]; exact (below_new wo _).alloc (by simp) _
        have y1 : Lies W3 wo.heap.size 129 #[.map (some b')] := by rw [hW3]; exact (Lies.new _ _ _).alloc _
        have y2 : Lies W3 (wo.heap.size + 1) 27 #[.slice (some ⟨gg, o, none⟩) (K' + 1) c, .slice (some ⟨wo.heap.size, 0, none⟩) 1 1] := by rw [hW3]; exact Lies.new' _ _ _ (by simp)
        have hcon := concatT_any [(.slice (some ⟨gg, o, none⟩) (K' + 1) c, (zs.take ((K' + 1))).map lyV), (.slice (some ⟨wo.heap.size, 0, none⟩) 1 1, [.map (some b')])] (wo.heap.size + 1) 2 W3 y2 (Nat.le_refl _) (by
          intro p hp
          rcases List.mem_cons.1 hp with rfl | hp
          · have h := (HSRC.out.take ((K' + 1)) (by rw [List.length_map]; have := HN.out; omega)).later (hBw.trans (hb3.mono hBw.size))
            rw [← List.map_take] at h
            exact h
          · rw [List.mem_singleton.1 hp]
            refine .inr ⟨_, 1, rfl, Nat.le_refl _, fun j q hq => ?_⟩
            have hj : j = 0 := by have := (List.getElem?_eq_some_iff.1 hq).1; simp at this; exact this
            subst hj
            obtain rfl : Value.map (some b') = q := by simpa using hq
            have := y1.cell 0
            simpa [Addr.add] using this) (by
          intro p hp
          rcases List.mem_cons.1 hp with rfl | hp
          · intro q hq
            obtain ⟨l, _, rfl⟩ := List.mem_map.1 hq
            rfl
          · rw [List.mem_singleton.1 hp]
            intro q hq
            rw [List.mem_singleton.1 hq]
            rfl) (by first | (simp; done) | (simp; omega)) (by simp)
        rw [← hW3]
        have HW3 := Lib.hid hW3
        have HB3 := Lib.hid hb3
        clear hW3 hb3 y1 y2
        refine hcon.mono ?_
        rintro e w5 ⟨v', rfl, ho, hb5⟩
        clear hcon
        obtain ⟨A2, k2, c2, rfl⟩ := own_slice ho
        have hb35 : Below wo.heap.size wo w5 := HB3.out.trans (hb5.mono HB3.out.size)
        have m2 := HZ2.out.later hb35
        have mc0 := m2.cell 0
        have mf0 := m2.free 0
        have ml := m2.lt
        have HM2 := Lib.hid m2
        have HO := Lib.hid ho
        have hs3 : w.heap.size + 2 < W3.heap.size := Nat.lt_of_lt_of_le HZ2.out.lt HB3.out.size
        clear m2 ho
        go_wp2_with fail
        refine bodyPost_ret (v := .agg #[.slice A2 k2 c2]) (results_cell_row rfl _ _ (w.heap.size + 2) 29 _ (0, 0) _ rfl (HM2.out.set 0 _) Tryz.underlying29 rfl (by kernel_rfl)) rfl ?_
        have q5 : Below (w.heap.size + 2) w5 (w5.setCell ⟨w.heap.size + 2, 0, none⟩ (.slice A2 k2 c2)) := (Below.refl _ _).setCell (p := ⟨w.heap.size + 2, 0, none⟩) (Nat.le_refl _) _
        have hbz : Below w.heap.size w (w5.setCell ⟨w.heap.size + 2, 0, none⟩ (.slice A2 k2 c2)) := (hBw.trans (hb35.mono hBw.size)).trans (q5.mono (by omega))
        refine ⟨A2, k2, c2, rfl, ?_, hbz⟩
        intro wf hkf0
        have hkf : Kept (fun b => BX b ∧ b < w.heap.size) (w5.setCell ⟨w.heap.size + 2, 0, none⟩ (.slice A2 k2 c2)) wf := hkf0
        clear hkf0
        have hq5s := q5.size
        have hww := hBw.size
        have hw3 := HB3.out.size
        have hoo := own_same HO.out (w' := wf) fun i hi hlt => (hkf.2 i (by omega) (by intro e; have := e.2; omega)).trans (Below.heap_setCell _ ⟨w.heap.size + 2, 0, none⟩ _ i (by show i ≠ w.heap.size + 2; omega))
        have hsr := own_row_src hoo
        have hM6 := (HMM.out.later hb35).keep (Below.heap_setCell w5 ⟨w.heap.size + 2, 0, none⟩ (.slice A2 k2 c2) b' (by show b' ≠ w.heap.size + 2; have := HBB.out; omega))
        have hM7 := hM6.keep (hkf.2 b' hM6.lt (by intro e; have := e.2; have := HBB.out; omega))
        exact SaidV.anded (w0 := blank BX w) (N := N) (K := (K' + 1)) HL0.out (fun l hl => by
          obtain ⟨hnx, hlx⟩ := blank_live (HL0.out l hl).live
          rw [blank_at hnx]
          exact (hkf.2 l.1 (by have := hbz.size; omega) (fun e => hnx e.1)).trans (hbz.block l.1 hlx)) HN.out (by omega) h4 HG.out hM7 HSS.out HGG.out (by simpa using hsr)
  
end Go.Proofs.YtpbhndmfmnfeoaaGreat

/- .. at maps of rows. -/
namespace Go.Proofs.YtpbhndmfmnfeoaaGreat
open Go.RowKit

theorem info_R (_ : True) : (Tryz.prog.info? 84).map (fun i => (i.zero, i.size, i.bytes)) = some (some (.map none), 1, 8) := by kernel_rfl
set_option maxRecDepth 100000 in
set_option maxHeartbeats 2000000 in
theorem growR_nil (n : Nat) (w : World) (hn : n ≤ 100000000) :
    Calls Tryz.prog 108 #[.slice none 0 0, .int .i64 n] w fun e w' => ∃ v, e = .returned v ∧ w'.ownsRow w.heap.size 84 1 v 0 [] ∧ Below w.heap.size w w' := by
  obtain ⟨i0, hi, hz0, hz1, hz2⟩ := info_parts (info_R trivial)
  rcases Nat.eq_zero_or_pos n with rfl | hp
  · go_enter Tryz.func108, Tryz.ntmps108
    go_wp2
    go_ret
    exact ⟨_, rfl, World.ownsRow_nil _ _ _ _, Below.refl _ _⟩
  · have hr := fun ty => Lib.run_append_nil_zeros w 30 3 ty 84 i0 (.map none) .i64 .i64 Tryz.underlying30 Tryz.underlying3 hi hz0 n hp (by omega) (by omega) (by rw [hz2]; omega)
    obtain ⟨G, hG⟩ : ∃ G, G = grownCap w n 0 84 := ⟨_, rfl⟩
    have hGn : n ≤ G := by rw [hG]; exact grownCap_ge w _ _ _
    have hGm : G ≤ maxLen := by rw [hG]; exact grownCap_le_maxLen w n 0 _ (by unfold maxLen; omega)
    have hG63 : G ≤ 9223372036854775807 := by unfold maxLen at hGm; omega
    rw [← hG] at hr
    have HM := Lib.hid hGm
    clear hGm hG
    go_enter Tryz.func108, Tryz.ntmps108
    go_wp2_with (at_builtin; refine Lib.wpList_append_run _ rfl _ _ _ _ rfl _ _ rfl rfl _ _ (hr _) ?_)
    go_ret
    have hb := (Below.refl w.heap.size w).drew.alloc (Nat.le_refl _) (.cells (Builtin.zeroCells (Value.cells (.map none)) n ++ Builtin.zeroCells (Value.cells (.map none)) (G - n)) 84)
    refine ⟨_, rfl, ⟨rfl, .inr ⟨w.heap.size, G, _, rfl, Nat.le_refl _, Lies.new _ _ _, Nat.zero_le _, HM.out, ?_, rfl⟩⟩, hb⟩
    simp [Builtin.zeroCells]
    omega

set_option maxRecDepth 100000 in
set_option maxHeartbeats 4000000 in
theorem concatR_any (ps : List (Value × List Value)) (b c : Nat) (w : World) (hb : Lies w b 30 (ps.map Prod.fst).toArray) (hc : ps.length ≤ c) (hsrc : ∀ p ∈ ps, SrcV w p.1 p.2) (h1 : ∀ p ∈ ps, ∀ q ∈ p.2, q.oneCell' = true)
    (hn : (ps.flatMap Prod.snd).length ≤ 10000000) (hk : ps.length ≤ 1000) :
    Calls Tryz.prog 85 #[.slice (some ⟨b, 0, none⟩) ps.length c] w fun e w' => ∃ v, e = .returned v ∧ w'.ownsRow w.heap.size 84 1 v (ps.flatMap Prod.snd).length (ps.flatMap Prod.snd) ∧ Below w.heap.size w w' := by
  obtain ⟨i0, hi, hz0, hz1, hz2⟩ := info_parts (info_R trivial)
  have hcell : ∀ (k : Nat) p, ps[k]? = some p → w.cell? ⟨b, k, none⟩ = some p.1 := fun k p hp => by
    rw [hb.cell]
    simp [hp]
  have hform : ∀ (k : Nat) p, ps[k]? = some p → ∃ A q, p.1 = .slice A p.2.length q ∧ p.2.length ≤ 10000000 := by
    intro k p hp
    have hm : p ∈ ps := List.mem_of_getElem? hp
    have hle : p.2.length ≤ (ps.flatMap Prod.snd).length := by
      obtain ⟨l1, l2, rfl⟩ := List.append_of_mem hm
      simp
      omega
    rcases hsrc p hm with ⟨e1, e2⟩ | ⟨ad, q, e1, _⟩
    · exact ⟨_, _, by rw [e1, e2]; rfl, by omega⟩
    · exact ⟨_, _, e1, by omega⟩
  have hsum : ∀ k, ((ps.take k).flatMap Prod.snd).length ≤ 10000000 := by
    intro k
    have h2 : ps.flatMap Prod.snd = (ps.take k).flatMap Prod.snd ++ (ps.drop k).flatMap Prod.snd := by rw [← List.flatMap_append, List.take_append_drop]
    have h3 := congrArg List.length h2
    rw [List.length_append] at h3
    omega
  have hstep : ∀ (k : Nat) p, ps[k]? = some p → (ps.take (k + 1)).flatMap Prod.snd = (ps.take k).flatMap Prod.snd ++ p.2 := by
    intro k p hp
    rw [take_step ps k p hp, List.flatMap_append]
    simp
  have hlt := hb.lt
  have HC := Lib.hid hcell
  have HF := Lib.hid hform
  have HS := Lib.hid hsum
  have HT := Lib.hid hstep
  have HR := Lib.hid hsrc
  have H1 := Lib.hid h1
  obtain ⟨m, hm⟩ : ∃ m, m = ps.length := ⟨_, rfl⟩
  have HM := Lib.hid hm
  rw [← hm] at hk hc ⊢
  clear hcell hform hsum hstep hsrc h1 hb hm hn
  go_enter Tryz.func85, Tryz.ntmps85
  go_wp2
  go_loopw [3, 11] (fun s i wr => ∃ k : Nat, k ≤ m ∧ i = .int .i64 k ∧ s = .int .i64 (((ps.take k).flatMap Prod.snd).length : Int) ∧ w = wr) (fun _ i _ => m - (intOf i).toNat)
  case atStart => exact ⟨0, Nat.zero_le _, rfl, rfl, rfl⟩
  case round =>
    obtain ⟨k, hkm, rfl, rfl, rfl⟩ := hrel
    by_cases hltk : k < m
    · obtain ⟨p, hp⟩ : ∃ p, ps[k]? = some p := ⟨_, List.getElem?_eq_getElem (by have := HM.out; omega)⟩
      have c0 := HC.out k p hp
      obtain ⟨A, q, e1, e2⟩ := HF.out k p hp
      rw [e1] at c0
      have hst := HT.out k p hp
      have hs0 := HS.out k
      have hl : ((ps.take (k + 1)).flatMap Prod.snd).length = ((ps.take k).flatMap Prod.snd).length + p.2.length := by rw [hst, List.length_append]
      obtain ⟨S, hS⟩ : ∃ S, S = ((ps.take k).flatMap Prod.snd).length := ⟨_, rfl⟩
      obtain ⟨L, hL⟩ : ∃ L, L = p.2.length := ⟨_, rfl⟩
      rw [← hS] at hs0 hl ⊢
      rw [← hL] at c0 hl e2
      have HL := Lib.hid hl
      have hkc : k < c := by omega
      clear hst hp hl hL hS e1
      go_wp2
      go_roundw
      case rel => exact ⟨k + 1, by omega, by simp, by rw [HL.out]; simp, by first | rfl | trivial⟩
      case measure => (simp [intOf] <;> omega)
    · obtain rfl : k = m := by omega
      have htk : ps.take k = ps := by rw [List.take_of_length_le]; have := HM.out; omega
      rw [htk]
      obtain ⟨N, hN⟩ : ∃ N, N = (ps.flatMap Prod.snd).length := ⟨_, rfl⟩
      have hN2 : N ≤ 10000000 := by have := HS.out k; rw [htk, ← hN] at this; exact this
      rw [← hN]
      have hg := growR_nil N w (by omega)
      have HG := Lib.hid hg
      have HN := Lib.hid hN
      have HTK := Lib.hid htk
      clear hg hN htk
      go_wp2_with fail
      refine HG.out.mono ?_
      rintro e w1 ⟨v1, rfl, ho1, hb1⟩
      have ho1' := Lib.hid ho1
      obtain ⟨A1, k1, c1, rfl⟩ := own_slice ho1
      clear ho1
      go_wp2_with fail
      go_loopw [6, 27] (fun s i wr => ∃ j : Nat, j ≤ k ∧ i = .int .i64 j ∧ wr.ownsRow w.heap.size 84 1 s ((ps.take j).flatMap Prod.snd).length ((ps.take j).flatMap Prod.snd) ∧ Below w.heap.size w wr) (fun _ i _ => k - (intOf i).toNat)
      case atStart => exact ⟨0, Nat.zero_le _, rfl, ho1'.out, hb1⟩
      case round =>
        obtain ⟨j, hjk, rfl, ho, hB⟩ := hrel
        by_cases hltj : j < k
        · obtain ⟨p, hp⟩ : ∃ p, ps[j]? = some p := ⟨_, List.getElem?_eq_getElem (by have := HM.out; omega)⟩
          have hpm : p ∈ ps := List.mem_of_getElem? hp
          have c0 := (hB.cell (p := ⟨b, j, none⟩) hlt).trans (HC.out j p hp)
          obtain ⟨A, q, e1, e2⟩ := HF.out j p hp
          have hsr := (HR.out p hpm).later hB
          have hone := H1.out p hpm
          have hst := HT.out j p hp
          have hs0 := HS.out j
          have hs1 := HS.out (j + 1)
          rw [hst, List.length_append] at hs1
          obtain ⟨X, hX⟩ : ∃ X, X = (ps.take j).flatMap Prod.snd := ⟨_, rfl⟩
          rw [← hX] at ho hs0 hst hs1
          obtain ⟨pv, pl⟩ := p
          dsimp only at c0 e1 e2 hsr hone hst hs1
          subst e1
          have HST := Lib.hid hst
          have HSR := Lib.hid hsr
          have HON := Lib.hid hone
          have HO := Lib.hid ho
          have HS1 := Lib.hid hs1
          obtain ⟨A0, m0, c0', rfl⟩ := own_slice ho
          have hjc : j < c := by omega
          clear hst hsr hone ho hp hX hpm hs1 hs0
          go_wp2_with (at_builtin; go_loud (refine wpList_append_srcV rfl (.tmp 31) (.tmp 32) 30 rfl w.heap.size 84 i0 _ 8 Tryz.underlying30 hi hz0 hz1 hz2 rfl _ X.length X rfl HO.out _ pl rfl HSR.out HON.out (by have := HS1.out; unfold maxLen; omega) (by have := HS1.out; omega) hB.size ?_); intro v' w2 ho2 hgr)
          have hrow : ∀ q, Value.ownBlock (.slice A0 m0 c0') = some q → w.heap.size ≤ q := fun q hq => (own_block HO.out q hq).1
          go_wp2_with fail
          go_roundw
          case rel =>
            refine ⟨j + 1, by omega, by simp, ?_, ?_⟩
            · rw [HST.out, List.length_append]; exact ho2
            · exact ⟨hgr.os.trans hB.os, hgr.tape.trans hB.tape, hgr.output.trans hB.output, Nat.le_trans hB.size hgr.size, fun g hg => (hgr.block g (Nat.lt_of_lt_of_le hg hB.size) (fun e => by have := hrow g e.symm; omega)).trans (hB.block g hg)⟩
          case measure => (simp [intOf] <;> omega)
        · obtain rfl : j = k := by omega
          rw [HTK.out] at ho
          have HO := Lib.hid ho
          obtain ⟨A0, m0, c0', rfl⟩ := own_slice ho
          clear ho
          go_wp2
          go_ret
          exact ⟨_, rfl, HO.out, hB⟩
end Go.Proofs.YtpbhndmfmnfeoaaGreat
