/- The reference's SetRow. -/
import Derived.Test.YtgheaaljnmkclaaSbx

import Derived.Outline
namespace Go.Proofs.Ytgheaaljnmkclaa
open Go.RowKit

theorem own_block_len {w : World} {B : Nat} {e : TypeId} {size n : Nat} {v : Value} {xs : List Value} (h : w.ownsRow B e size v n xs) : xs.length = n * size := h.1
theorem reads2 {w : World} {b o : Nat} {u v : Value} (h : ReadsAt w ⟨b, o, none⟩ [u, v]) : w.cell? ⟨b, o, none⟩ = some u ∧ w.cell? ⟨b, o + 1, none⟩ = some v := ⟨h 0 u rfl, h 1 v rfl⟩
set_option maxRecDepth 100000 in
set_option maxHeartbeats 8000000 in
theorem refSetRow_any (BX : Nat → Prop) (w : World) (sv : Value) (m : Nat) (h : RefV (blank BX w) sv m) (hm : m ≤ 1000) (n : Int) (A4 : Option Addr) (n4 c4 : Nat) (rv : Int) :
    Calls Try.prog 18 #[sv, .int .i64 n, .agg #[.slice A4 n4 c4, .int .i64 rv]] w fun e w' => ∃ sv', e = .returned sv' ∧ (∀ wf, Kept (fun b => BX b ∧ b < w.heap.size) w' wf → RefV wf sv' (m + 1)) ∧ Below w.heap.size w w' := by
  obtain ⟨va, vb, vc, vd, ms, ns, rs, ts, rfl, ht0, ht1, hs0, hs1, hlen2, hlen, hM, hN⟩ := h
  obtain ⟨i0, hi, hz0, hz1, hz2⟩ := info_parts info_I
  obtain ⟨i1, ki, kz0, kz1, kz2⟩ := info_parts info_Rw
  have hbb : ∀ g, live (blank BX w) g → w.heap[g]? = (blank BX w).heap[g]? := fun g hg => (blank_at (blank_live hg).1).symm
  have hs0w := hs0.keepL hbb
  have hs1w := hs1.keepL (fun r h => by rw [h.len]; omega) hbb
  obtain ⟨A0, c0, rfl, hc0, hx0⟩ := hs0w.form (by simp; omega)
  obtain ⟨A1, c1, rfl, hc1, hx1⟩ := hs1w.form
  simp only [List.length_map] at hc0
  obtain ⟨Aa, na, ca, rfl⟩ : ∃ A n c, va = .slice A n c := by rcases ht0 with ⟨rfl, _⟩ | ⟨_, _, rfl, _⟩ <;> exact ⟨_, _, _, rfl⟩
  obtain ⟨Ab, nb, cb, rfl⟩ : ∃ A n c, vb = .slice A n c := by obtain ⟨A, c, rfl, _⟩ := ht1.form; exact ⟨_, _, _, rfl⟩
  obtain ⟨N, hNN⟩ : ∃ N, N = ns.length := ⟨_, rfl⟩
  have hle1 : ts.length = N := by omega
  have HN := Lib.hid hNN
  have HX0 := Lib.hid hx0
  have HX1 := Lib.hid hx1
  have HT0 := Lib.hid ht0
  have HT1 := Lib.hid ht1
  have HL2 := Lib.hid hlen2
  have HM := Lib.hid hM
  have HL1 := Lib.hid hle1
  rw [List.length_map]
  rw [hle1] at hc1 ⊢
  rw [← hNN] at hc0 hN ⊢
  clear hx0 hx1 ht0 ht1 hlen2 hM hle1 hNN hlen hs0 hs1 hs0w hs1w hbb
  obtain ⟨W, hW⟩ : ∃ W, W = (((w.alloc (.cells #[.slice Aa na ca, .slice Ab nb cb, .slice A0 N c0, .slice A1 N c1] 42)).alloc (.cells #[.slice A4 n4 c4, .int .i64 rv] 26)).alloc (.cells #[.slice none 0 0, .slice none 0 0, .slice none 0 0, .slice none 0 0] 42)).alloc (.cells #[.slice Aa na ca, .slice Ab nb cb, .slice none 0 0, .slice none 0 0] 42) := ⟨_, rfl⟩
  have hb : Below w.heap.size w W := by rw [hW]; exact ((((Below.refl _ w).alloc (Nat.le_refl _) _).alloc (by simp) _).alloc (by simp; omega) _).alloc (by simp; omega) _
  have k0 : Lies W w.heap.size 42 #[.slice Aa na ca, .slice Ab nb cb, .slice A0 N c0, .slice A1 N c1] := by rw [hW]; exact (((Lies.new _ _ _).alloc _).alloc _).alloc _
  have k1 : Lies W (w.heap.size + 1) 26 #[.slice A4 n4 c4, .int .i64 rv] := by rw [hW]; exact ((Lies.new' _ _ _ (by simp)).alloc _).alloc _
  have k2 : Lies W (w.heap.size + 2) 42 #[.slice none 0 0, .slice none 0 0, .slice none 0 0, .slice none 0 0] := by rw [hW]; exact (Lies.new' _ _ _ (by simp)).alloc _
  have k3 : Lies W (w.heap.size + 3) 42 #[.slice Aa na ca, .slice Ab nb cb, .slice none 0 0, .slice none 0 0] := by rw [hW]; exact Lies.new' _ _ _ (by simp)
  have HW := Lib.hid hW
  have HB := Lib.hid hb
  have HK0 := Lib.hid k0
  have HK1 := Lib.hid k1
  have HK2 := Lib.hid k2
  have HK3 := Lib.hid k3
  have hlt3 := k3.lt
  clear hW hb k0 k1 k2 k3
  go_enter Try.func18, Try.ntmps18
  go_wp2_with fail
  rw [← HW.out]
  go_loopw [8] (fun i wr => ∃ (q p : Nat) (X Y : Value) (os : List Int) (us : List (List Value)), q ≤ N ∧ p ≤ q ∧ i = .int .i64 q ∧ Lies wr (w.heap.size + 3) 42 #[.slice Aa na ca, .slice Ab nb cb, X, Y] ∧ wr.ownsRow (w.heap.size + 4) 3 1 X p (os.map (Value.int .i64)) ∧ wr.ownsRow (w.heap.size + 4) 26 2 Y p us.flatten ∧ us.length = p ∧ (∀ r ∈ us, RowR r) ∧ Below (w.heap.size + 3) W wr) (fun i _ => N - (intOf i).toNat)
  case atStart => exact ⟨0, 0, _, _, [], [], Nat.zero_le _, Nat.le_refl _, rfl, HK3.out, ⟨rfl, .inl ⟨rfl, rfl⟩⟩, ⟨rfl, .inl ⟨rfl, rfl⟩⟩, rfl, (fun _ h => by cases h), Below.refl _ _⟩
  case round =>
    obtain ⟨q, p, X, Y, os, us, hq, hp, rfl, hl, hox, hoy, hul, hur, hB⟩ := hrel
    obtain ⟨wo, rfl⟩ : ∃ wo, wo = wr := ⟨_, rfl⟩
    obtain ⟨AX, nX, cX, rfl⟩ := own_slice hox
    obtain ⟨AY, nY, cY, rfl⟩ := own_slice hoy
    have hBw := HB.out.trans (hB.mono (Nat.le_add_right _ _))
    have m0 : Lies wo w.heap.size 42 #[.slice Aa na ca, .slice Ab nb cb, .slice A0 N c0, .slice A1 N c1] := (hB.block _ (by omega)).trans HK0.out
    have m1 : Lies wo (w.heap.size + 1) 26 #[.slice A4 n4 c4, .int .i64 rv] := (hB.block _ (by omega)).trans HK1.out
    have m2 : Lies wo (w.heap.size + 2) 42 #[.slice none 0 0, .slice none 0 0, .slice none 0 0, .slice none 0 0] := (hB.block _ (by omega)).trans HK2.out
    have hws : W.heap.size ≤ wo.heap.size := hB.size
    have x0 := m0.cell 2
    have z0 := m0.cell 3
    have HL := Lib.hid hl
    have HOX := Lib.hid hox
    have HOY := Lib.hid hoy
    have HUL := Lib.hid hul
    have HUR := Lib.hid hur
    have HBB := Lib.hid hB
    have HBW := Lib.hid hBw
    have HM0 := Lib.hid m0
    have HM1 := Lib.hid m1
    have HM2 := Lib.hid m2
    clear hl hox hoy hul hur hB m0 m1 m2
    by_cases hlt : q < N
    · obtain ⟨nq, hnq⟩ : ∃ nq, ns[q]? = some nq := ⟨_, List.getElem?_eq_getElem (by have := HN.out; omega)⟩
      obtain ⟨r5, hr5⟩ : ∃ r, ts[q]? = some r := ⟨_, List.getElem?_eq_getElem (by have := HL1.out; omega)⟩
      obtain ⟨g0, o0, rfl, hg0⟩ := HX0.out q (.int .i64 nq) (by rw [List.getElem?_map, hnq]; rfl)
      obtain ⟨hrow, g1, o1, rfl, hg1⟩ := HX1.out q r5 hr5
      have hrow0 := hrow
      obtain ⟨A6, n6, c6, rv5, rfl⟩ := hrow
      have hgl0 := World.block_lt_of_cell? w _ hg0
      have hgl1 := reads_block hg1 (by simp)
      have e0 : wo.cell? ⟨g0, o0 + q, none⟩ = some (.int .i64 nq) := (hBw.cell (p := ⟨g0, o0 + q, none⟩) hgl0).trans hg0
      have hr' := hg1.keep (hBw.block _ hgl1)
      obtain ⟨y0, y1⟩ := reads2 (b := g1) (o := o1 + q * 2) hr'
      have hqc0 : q < c0 := by omega
      have hqc1 : q < c1 := by omega
      have hlti : (q : Int) < (N : Int) := by omega
      have hgl0' : g0 < w.heap.size := hgl0
      have hgl1' : g1 < w.heap.size := hgl1
      clear hg0 hg1 hr' hgl0 hgl1 hnq hr5 hBw
      by_cases hne : nq = n
      · go_wp2_with fail
        go_roundw
        case rel => exact ⟨q + 1, p, _, _, os, us, by omega, by omega, by simp, HL.out, HOX.out, HOY.out, HUL.out, HUR.out, HBB.out⟩
        case measure => (simp [intOf] <;> omega)
      · have hUA : Below wo.heap.size wo (wo.alloc (.cells #[.int .i64 nq] 3)).drew := (below_new wo _).drew
        have HOA := Lib.hid (own_later HOX.out hUA)
        have hPA := own_block HOX.out
        have lcA := HL.out.cell 2
        have ltA := HL.out.lt
        have hwsA : w.heap.size + 4 ≤ wo.heap.size := (by omega)
        have HK6 := Lib.hid (show ∀ VV : World, VV.heap[w.heap.size]? = wo.heap[w.heap.size]? → VV.heap[g0]? = wo.heap[g0]? → (VV.cell? ⟨w.heap.size, 2, none⟩ = some (.slice (some ⟨g0, o0, none⟩) N c0) ∧ VV.cell? ⟨g0, o0 + q, none⟩ = some (.int .i64 nq)) from fun VV h0 h1 => by
          have e0' : ∀ j, VV.cell? ⟨w.heap.size, j, none⟩ = wo.cell? ⟨w.heap.size, j, none⟩ := fun j => World.cell?_of_block (w := wo) (a := ⟨w.heap.size, j, none⟩) h0
          have e1' : ∀ j, VV.cell? ⟨g0, j, none⟩ = wo.cell? ⟨g0, j, none⟩ := fun j => World.cell?_of_block (w := wo) (a := ⟨g0, j, none⟩) h1
          exact ⟨(e0' _).trans x0, (e1' _).trans e0⟩)
        have d0A : wo.drew.heap[w.heap.size]? = wo.heap[w.heap.size]? := rfl
        have dgA : wo.drew.heap[g0]? = wo.heap[g0]? := rfl
        have u0A : (wo.alloc (.cells #[.int .i64 nq] 3)).drew.heap[w.heap.size]? = wo.heap[w.heap.size]? := hUA.block _ (by omega)
        have ugA : (wo.alloc (.cells #[.int .i64 nq] 3)).drew.heap[g0]? = wo.heap[g0]? := hUA.block _ (by omega)
        have ldA : wo.drew.cell? ⟨w.heap.size + 3, 2, none⟩ = some (Value.slice AX nX cX) := HL.out.cell 2
        have luA : (wo.alloc (.cells #[.int .i64 nq] 3)).drew.cell? ⟨w.heap.size + 3, 2, none⟩ = some (Value.slice AX nX cX) := (HL.out.alloc _).cell 2
        go_wp2_with fail
        refine wp_region_held_drew (S := fun VV => (VV.cell? ⟨w.heap.size, 2, none⟩ = some (.slice (some ⟨g0, o0, none⟩) N c0) ∧ VV.cell? ⟨g0, o0 + q, none⟩ = some (.int .i64 nq))) (by kernel_rfl) ?_ (fun hHeld => ?_)
        · exact HK6.out _ d0A dgA
        refine wpAnyH_take (i := 0) (oi := ⟨some 28, _, _, _, _, _⟩) (v := ?_) rfl (by kernel_rfl) (by kernel_rfl) (by kernel_rfl) (fun _ _ _ h => h) (Or.inl ⟨by kernel_rfl, ?_⟩) (by assumption) ?_
        rotate_left
        · (intro w' hSw; (try dsimp only at hSw); go_split_ands; go_simp; first | done | with_reducible rfl)
        try simp only [Act.put, List.setIfInBounds_toArray, List.set_cons_zero, List.set_cons_succ]
        refine wpAnyH_take (i := 2) (oi := ⟨some 30, _, _, _, _, _⟩) (v := ?_) rfl (by kernel_rfl) (by kernel_rfl) (by kernel_rfl) (fun _ _ _ h => h) (Or.inl ⟨by kernel_rfl, ?_⟩) (by assumption) ?_
        rotate_left
        · (intro w' hSw; (try dsimp only at hSw); go_split_ands; go_simp; first | done | with_reducible rfl)
        try simp only [Act.put, List.setIfInBounds_toArray, List.set_cons_zero, List.set_cons_succ]
        refine wpAnyH_take (i := 3) (oi := ⟨some 31, _, _, _, _, _⟩) (v := ?_) rfl (by kernel_rfl) (by kernel_rfl) (by kernel_rfl) (fun _ _ _ h => h) (Or.inl ⟨by kernel_rfl, ?_⟩) (by assumption) ?_
        rotate_left
        · (intro w' hSw; (try dsimp only at hSw); go_split_ands; go_simp; first | done | with_reducible rfl)
        try simp only [Act.put, List.setIfInBounds_toArray, List.set_cons_zero, List.set_cons_succ]
        refine wpAnyH_take (i := 4) (oi := ⟨some 32, _, _, _, _, _⟩) (v := ?_) rfl (by kernel_rfl) (by kernel_rfl) (by kernel_rfl) (fun _ _ _ h => h) (Or.inl ⟨by kernel_rfl, ?_⟩) (by assumption) ?_
        rotate_left
        · (intro w' hSw; (try dsimp only at hSw); go_split_ands; go_simp; first | done | with_reducible rfl)
        try simp only [Act.put, List.setIfInBounds_toArray, List.set_cons_zero, List.set_cons_succ]
        refine wpAnyH_take (i := 5) (oi := ⟨some 33, _, _, _, _, _⟩) (v := ?_) rfl (by kernel_rfl) (by kernel_rfl) (by kernel_rfl) (fun _ _ _ h => h) (Or.inl ⟨by kernel_rfl, ?_⟩) (by assumption) ?_
        rotate_left
        · (intro w' hSw; (try dsimp only at hSw); go_split_ands; go_simp; first | done | with_reducible rfl)
        try simp only [Act.put, List.setIfInBounds_toArray, List.set_cons_zero, List.set_cons_succ]
        refine wpAnyH_take (i := 6) (oi := ⟨some 34, _, _, _, _, _⟩) (v := ?_) rfl (by kernel_rfl) (by kernel_rfl) (by kernel_rfl) (fun _ _ _ h => h) (Or.inl ⟨by kernel_rfl, ?_⟩) (by assumption) ?_
        rotate_left
        · (intro w' hSw; (try dsimp only at hSw); go_split_ands; go_simp; first | done | with_reducible rfl)
        try simp only [Act.put, List.setIfInBounds_toArray, List.set_cons_zero, List.set_cons_succ]
        refine wpAnyH_ready (rs := [1, 7]) (by kernel_rfl) (by simp) ?_
        refine AllReadyH.cons (o := ⟨some 29, _, _, _, _, _⟩) rfl (fun K hK => ?_) (AllReadyH.cons (o := ⟨some 35, _, _, _, _, _⟩) rfl (fun K hK => ?_) AllReadyH.nil)
        · go_simp
          refine hK.out _ _ ?_ (fun hHeld => ?_)
          · exact HK6.out _ d0A dgA
          clear hK K
          try simp only [Act.put, List.setIfInBounds_toArray, List.set_cons_zero, List.set_cons_succ]
          refine wpAnyH_ready (rs := [7]) (by kernel_rfl) (by simp) ?_
          refine AllReadyH.cons (o := ⟨some 35, _, _, _, _, _⟩) rfl (fun K hK => ?_) AllReadyH.nil
          go_simp
          refine hK.out _ _ ?_ (fun hHeld => ?_)
          · exact HK6.out _ u0A ugA
          clear hK K
          try simp only [Act.put, List.setIfInBounds_toArray, List.set_cons_zero, List.set_cons_succ]
          refine wpAnyH_ready (rs := [8]) (by kernel_rfl) (by simp) ?_
          refine AllReadyH.cons (o := ⟨some 36, _, _, _, _, _⟩) rfl (fun K hK => ?_) AllReadyH.nil
          refine step_append_lies _ rfl (.tmp 29) (.tmp 35) 39 rfl (w.heap.size + 4) 3 i0 (.int .i64 0) 1 8 Try.underlying39 hi hz0 hz1 hz2 rfl (by decide) (Value.slice AX nX cX) p _ rfl HOA.out ⟨wo.heap.size, 0, none⟩ 1 1 [.int .i64 nq] rfl rfl (World.news_of_block (Lies.new wo 3 #[.int .i64 nq])) (by simp [Value.oneCell']) (by decide) (by unfold maxLen; omega) (by omega) (by show w.heap.size + 4 ≤ (wo.alloc _).heap.size; rw [World.size_alloc]; omega) _ rfl ?_; intro gA cA WA hownA hgrA hatA hltA; have hfarA : ∀ i, i < wo.heap.size → (Value.slice AX nX cX).ownBlock ≠ some i → WA.heap[i]? = wo.heap[i]? := (fun i hi hn => (hgrA.block i (Nat.lt_of_lt_of_le hi hUA.size) (fun e => hn e.symm)).trans (hUA.block i hi)); have v3A : Lies WA (w.heap.size + 3) 42 #[.slice Aa na ca, .slice Ab nb cb, .slice AX nX cX, .slice AY nY cY] := (hfarA _ ltA (fun e => by have := (hPA _ e).1; omega)).trans HL.out; have f3A := v3A.free 2; have b3A := v3A.cell 2; have t3A := v3A.lt; have j0A : WA.heap[w.heap.size]? = wo.heap[w.heap.size]? := hfarA _ (by omega) (fun e => by have := (hPA _ e).1; omega); have jgA : WA.heap[g0]? = wo.heap[g0]? := hfarA _ (by omega) (fun e => by have := (hPA _ e).1; omega); have k0A : (WA.setCell ⟨w.heap.size + 3, 2, none⟩ (.slice (some ⟨gA, 0, none⟩) (p + 1) cA)).heap[w.heap.size]? = wo.heap[w.heap.size]? := (Below.heap_setCell _ ⟨w.heap.size + 3, 2, none⟩ _ w.heap.size (by show w.heap.size ≠ w.heap.size + 3; omega)).trans j0A; have kgA : (WA.setCell ⟨w.heap.size + 3, 2, none⟩ (.slice (some ⟨gA, 0, none⟩) (p + 1) cA)).heap[g0]? = wo.heap[g0]? := (Below.heap_setCell _ ⟨w.heap.size + 3, 2, none⟩ _ g0 (by show g0 ≠ w.heap.size + 3; omega)).trans jgA; have HGA := Lib.hid hgrA; have HFARA := Lib.hid hfarA; have HVA := Lib.hid v3A; have HOWNA := Lib.hid hownA; have HUA := Lib.hid hUA; clear hgrA hfarA v3A hownA hatA
          refine hK.out _ _ ?_ (fun hHeld => ?_)
          · exact HK6.out _ j0A jgA
          clear hK K
          try simp only [Act.put, List.setIfInBounds_toArray, List.set_cons_zero, List.set_cons_succ]
          refine wpAnyH_take (i := 9) (oi := ⟨some 37, _, _, _, _, _⟩) (v := ?_) rfl (by kernel_rfl) (by kernel_rfl) (by kernel_rfl) (fun _ _ _ h => h) (Or.inl ⟨by kernel_rfl, ?_⟩) (by assumption) ?_
          rotate_left
          · (intro w' hSw; (try dsimp only at hSw); go_split_ands; go_simp; first | done | with_reducible rfl)
          try simp only [Act.put, List.setIfInBounds_toArray, List.set_cons_zero, List.set_cons_succ]
          refine wpAnyH_ready (rs := [10]) (by kernel_rfl) (by simp) ?_
          refine AllReadyH.cons (o := ⟨none, _, _, _, _, _⟩) rfl (fun K hK => ?_) AllReadyH.nil
          go_simp
          refine hK.out _ _ ?_ (fun hHeld => ?_)
          · exact HK6.out _ k0A kgA
          clear hK K
          try simp only [Act.put, List.setIfInBounds_toArray, List.set_cons_zero, List.set_cons_succ]
          refine wpAnyH_done (by kernel_rfl) ?_ _
          go_wp2_with fail
          obtain ⟨wx, hwx⟩ : ∃ wx, wx = (WA.setCell ⟨w.heap.size + 3, 2, none⟩ (.slice (some ⟨gA, 0, none⟩) (p + 1) cA)) := ⟨_, rfl⟩
          have hszwx : wx.heap.size = WA.heap.size := by rw [hwx]; exact World.size_setCell _ _ _
          have hgewx : wo.heap.size ≤ wx.heap.size := by rw [hszwx]; exact Nat.le_trans HUA.out.size HGA.out.size
          have hwwx : ∀ i, i < wo.heap.size → (Value.slice AX nX cX).ownBlock ≠ some i → i ≠ w.heap.size + 3 → wx.heap[i]? = wo.heap[i]? := by
            intro i h1 h2 h3
            rw [hwx]
            exact (Below.heap_setCell _ ⟨w.heap.size + 3, 2, none⟩ _ i h3).trans (HFARA.out i h1 h2)
          have HLwx := Lib.hid (p := Lies wx (w.heap.size + 3) 42 #[.slice Aa na ca, .slice Ab nb cb, .slice (some ⟨gA, 0, none⟩) (p + 1) cA, .slice AY nY cY]) (by rw [hwx]; exact HVA.out.set 2 _)
          have HO1wx := Lib.hid (p := wx.ownsRow (w.heap.size + 4) 3 1 (.slice (some ⟨gA, 0, none⟩) (p + 1) cA) (p + 1) ((os.map (Value.int .i64)) ++ [.int .i64 nq])) (by rw [hwx]; exact own_same HOWNA.out fun i hi _ => Below.heap_setCell _ ⟨w.heap.size + 3, 2, none⟩ _ i (by show i ≠ w.heap.size + 3; omega))
          have HO2wx := Lib.hid (own_sameB HOY.out fun i hi => hwwx i (own_block HOY.out i hi).2 (fun e => own_apart HOX.out HOY.out (by decide) i e hi) (by have := (own_block HOY.out i hi).1; omega))
          have HBwx := Lib.hid (p := Below (w.heap.size + 3) wo wx) ⟨by rw [hwx]; exact HGA.out.os.trans HUA.out.os, by rw [hwx]; exact HGA.out.tape.trans HUA.out.tape, by rw [hwx]; exact HGA.out.output.trans HUA.out.output, hgewx, fun i hi => hwwx i (by omega) (fun e => by have := (own_block HOX.out i e).1; omega) (by omega)⟩
          rw [← hwx]
          clear f3A b3A hszwx hwx
          have z0x : wx.cell? ⟨w.heap.size, 3, none⟩ = some (.slice (some ⟨g1, o1, none⟩) N c1) := (World.cell?_of_block (w := wo) (a := ⟨w.heap.size, 3, none⟩) (hwwx w.heap.size (by omega) (fun e => by have := (own_block HOX.out _ e).1; omega) (by omega))).trans z0
          have y0 : wx.cell? ⟨g1, o1 + q * 2, none⟩ = some (.slice A6 n6 c6) := (World.cell?_of_block (w := wo) (a := ⟨g1, o1 + q * 2, none⟩) (hwwx g1 (by omega) (fun e => by have := (own_block HOX.out g1 e).1; omega) (by omega))).trans y0
          have y1 : wx.cell? ⟨g1, o1 + q * 2 + 1, none⟩ = some (.int .i64 rv5) := (World.cell?_of_block (w := wo) (a := ⟨g1, o1 + q * 2 + 1, none⟩) (hwwx g1 (by omega) (fun e => by have := (own_block HOX.out g1 e).1; omega) (by omega))).trans y1
          have hUB : Below wx.heap.size wx (wx.alloc (.cells #[.slice A6 n6 c6, .int .i64 rv5] 26)).drew := (below_new wx _).drew
          have HOB := Lib.hid (own_later HO2wx.out hUB)
          have hPB := own_block HO2wx.out
          have lcB := HLwx.out.cell 3
          have ltB := HLwx.out.lt
          have hwsB : w.heap.size + 4 ≤ wx.heap.size := (by omega)
          have HK7 := Lib.hid (show ∀ VV : World, VV.heap[w.heap.size]? = wx.heap[w.heap.size]? → VV.heap[g1]? = wx.heap[g1]? → (VV.cell? ⟨w.heap.size, 3, none⟩ = some (.slice (some ⟨g1, o1, none⟩) N c1) ∧ (VV.cell? ⟨g1, o1 + q * 2, none⟩ = some (.slice A6 n6 c6) ∧ VV.cell? ⟨g1, o1 + q * 2 + 1, none⟩ = some (.int .i64 rv5))) from fun VV h0 h1 => by
            have e0' : ∀ j, VV.cell? ⟨w.heap.size, j, none⟩ = wx.cell? ⟨w.heap.size, j, none⟩ := fun j => World.cell?_of_block (w := wx) (a := ⟨w.heap.size, j, none⟩) h0
            have e1' : ∀ j, VV.cell? ⟨g1, j, none⟩ = wx.cell? ⟨g1, j, none⟩ := fun j => World.cell?_of_block (w := wx) (a := ⟨g1, j, none⟩) h1
            exact ⟨(e0' _).trans z0x, ⟨(e1' _).trans y0, (e1' _).trans y1⟩⟩)
          have d0B : wx.drew.heap[w.heap.size]? = wx.heap[w.heap.size]? := rfl
          have dgB : wx.drew.heap[g1]? = wx.heap[g1]? := rfl
          have u0B : (wx.alloc (.cells #[.slice A6 n6 c6, .int .i64 rv5] 26)).drew.heap[w.heap.size]? = wx.heap[w.heap.size]? := hUB.block _ (by omega)
          have ugB : (wx.alloc (.cells #[.slice A6 n6 c6, .int .i64 rv5] 26)).drew.heap[g1]? = wx.heap[g1]? := hUB.block _ (by omega)
          have ldB : wx.drew.cell? ⟨w.heap.size + 3, 3, none⟩ = some (Value.slice AY nY cY) := HLwx.out.cell 3
          have luB : (wx.alloc (.cells #[.slice A6 n6 c6, .int .i64 rv5] 26)).drew.cell? ⟨w.heap.size + 3, 3, none⟩ = some (Value.slice AY nY cY) := (HLwx.out.alloc _).cell 3
          refine wp_region_held_drew (S := fun VV => (VV.cell? ⟨w.heap.size, 3, none⟩ = some (.slice (some ⟨g1, o1, none⟩) N c1) ∧ (VV.cell? ⟨g1, o1 + q * 2, none⟩ = some (.slice A6 n6 c6) ∧ VV.cell? ⟨g1, o1 + q * 2 + 1, none⟩ = some (.int .i64 rv5)))) (by kernel_rfl) ?_ (fun hHeld => ?_)
          · exact HK7.out _ d0B dgB
          refine wpAnyH_take (i := 0) (oi := ⟨some 38, _, _, _, _, _⟩) (v := ?_) rfl (by kernel_rfl) (by kernel_rfl) (by kernel_rfl) (fun _ _ _ h => h) (Or.inl ⟨by kernel_rfl, ?_⟩) (by assumption) ?_
          rotate_left
          · (intro w' hSw; (try dsimp only at hSw); go_split_ands; go_simp; first | done | with_reducible rfl)
          try simp only [Act.put, List.setIfInBounds_toArray, List.set_cons_zero, List.set_cons_succ]
          refine wpAnyH_take (i := 2) (oi := ⟨some 40, _, _, _, _, _⟩) (v := ?_) rfl (by kernel_rfl) (by kernel_rfl) (by kernel_rfl) (fun _ _ _ h => h) (Or.inl ⟨by kernel_rfl, ?_⟩) (by assumption) ?_
          rotate_left
          · (intro w' hSw; (try dsimp only at hSw); go_split_ands; go_simp; first | done | with_reducible rfl)
          try simp only [Act.put, List.setIfInBounds_toArray, List.set_cons_zero, List.set_cons_succ]
          refine wpAnyH_take (i := 3) (oi := ⟨some 41, _, _, _, _, _⟩) (v := ?_) rfl (by kernel_rfl) (by kernel_rfl) (by kernel_rfl) (fun _ _ _ h => h) (Or.inl ⟨by kernel_rfl, ?_⟩) (by assumption) ?_
          rotate_left
          · (intro w' hSw; (try dsimp only at hSw); go_split_ands; go_simp; first | done | with_reducible rfl)
          try simp only [Act.put, List.setIfInBounds_toArray, List.set_cons_zero, List.set_cons_succ]
          refine wpAnyH_take (i := 4) (oi := ⟨some 42, _, _, _, _, _⟩) (v := ?_) rfl (by kernel_rfl) (by kernel_rfl) (by kernel_rfl) (fun _ _ _ h => h) (Or.inl ⟨by kernel_rfl, ?_⟩) (by assumption) ?_
          rotate_left
          · (intro w' hSw; (try dsimp only at hSw); go_split_ands; go_simp; first | done | with_reducible rfl)
          try simp only [Act.put, List.setIfInBounds_toArray, List.set_cons_zero, List.set_cons_succ]
          refine wpAnyH_take (i := 5) (oi := ⟨some 43, _, _, _, _, _⟩) (v := ?_) rfl (by kernel_rfl) (by kernel_rfl) (by kernel_rfl) (fun _ _ _ h => h) (Or.inl ⟨by kernel_rfl, ?_⟩) (by assumption) ?_
          rotate_left
          · (intro w' hSw; (try dsimp only at hSw); go_split_ands; go_simp; first | done | with_reducible rfl)
          try simp only [Act.put, List.setIfInBounds_toArray, List.set_cons_zero, List.set_cons_succ]
          refine wpAnyH_take (i := 6) (oi := ⟨some 44, _, _, _, _, _⟩) (v := ?_) rfl (by kernel_rfl) (by kernel_rfl) (by kernel_rfl) (fun _ _ _ h => h) (Or.inl ⟨by kernel_rfl, ?_⟩) (by assumption) ?_
          rotate_left
          · (intro w' hSw; (try dsimp only at hSw); go_split_ands; go_simp; first | done | with_reducible rfl)
          try simp only [Act.put, List.setIfInBounds_toArray, List.set_cons_zero, List.set_cons_succ]
          refine wpAnyH_ready (rs := [1, 7]) (by kernel_rfl) (by simp) ?_
          refine AllReadyH.cons (o := ⟨some 39, _, _, _, _, _⟩) rfl (fun K hK => ?_) (AllReadyH.cons (o := ⟨some 45, _, _, _, _, _⟩) rfl (fun K hK => ?_) AllReadyH.nil)
          · go_simp
            refine hK.out _ _ ?_ (fun hHeld => ?_)
            · exact HK7.out _ d0B dgB
            clear hK K
            try simp only [Act.put, List.setIfInBounds_toArray, List.set_cons_zero, List.set_cons_succ]
            refine wpAnyH_ready (rs := [7]) (by kernel_rfl) (by simp) ?_
            refine AllReadyH.cons (o := ⟨some 45, _, _, _, _, _⟩) rfl (fun K hK => ?_) AllReadyH.nil
            go_simp
            refine hK.out _ _ ?_ (fun hHeld => ?_)
            · exact HK7.out _ u0B ugB
            clear hK K
            try simp only [Act.put, List.setIfInBounds_toArray, List.set_cons_zero, List.set_cons_succ]
            refine wpAnyH_ready (rs := [8]) (by kernel_rfl) (by simp) ?_
            refine AllReadyH.cons (o := ⟨some 46, _, _, _, _, _⟩) rfl (fun K hK => ?_) AllReadyH.nil
            refine step_append_lies _ rfl (.tmp 39) (.tmp 45) 40 rfl (w.heap.size + 4) 26 i1 (.agg zeroR) 2 32 Try.underlying40 ki kz0 kz1 kz2 rfl (by decide) (Value.slice AY nY cY) p _ rfl HOB.out ⟨wx.heap.size, 0, none⟩ 1 1 [.slice A6 n6 c6, .int .i64 rv5] rfl rfl (World.news_of_block (Lies.new wx 26 #[.slice A6 n6 c6, .int .i64 rv5])) (by simp [Value.oneCell']) (by decide) (by unfold maxLen; omega) (by omega) (by show w.heap.size + 4 ≤ (wx.alloc _).heap.size; rw [World.size_alloc]; omega) _ rfl ?_; intro gB cB WB hownB hgrB hatB hltB; have hfarB : ∀ i, i < wx.heap.size → (Value.slice AY nY cY).ownBlock ≠ some i → WB.heap[i]? = wx.heap[i]? := (fun i hi hn => (hgrB.block i (Nat.lt_of_lt_of_le hi hUB.size) (fun e => hn e.symm)).trans (hUB.block i hi)); have v3B : Lies WB (w.heap.size + 3) 42 #[.slice Aa na ca, .slice Ab nb cb, .slice (some ⟨gA, 0, none⟩) (p + 1) cA, .slice AY nY cY] := (hfarB _ ltB (fun e => by have := (hPB _ e).1; omega)).trans HLwx.out; have f3B := v3B.free 3; have b3B := v3B.cell 3; have t3B := v3B.lt; have j0B : WB.heap[w.heap.size]? = wx.heap[w.heap.size]? := hfarB _ (by omega) (fun e => by have := (hPB _ e).1; omega); have jgB : WB.heap[g1]? = wx.heap[g1]? := hfarB _ (by omega) (fun e => by have := (hPB _ e).1; omega); have k0B : (WB.setCell ⟨w.heap.size + 3, 3, none⟩ (.slice (some ⟨gB, 0, none⟩) (p + 1) cB)).heap[w.heap.size]? = wx.heap[w.heap.size]? := (Below.heap_setCell _ ⟨w.heap.size + 3, 3, none⟩ _ w.heap.size (by show w.heap.size ≠ w.heap.size + 3; omega)).trans j0B; have kgB : (WB.setCell ⟨w.heap.size + 3, 3, none⟩ (.slice (some ⟨gB, 0, none⟩) (p + 1) cB)).heap[g1]? = wx.heap[g1]? := (Below.heap_setCell _ ⟨w.heap.size + 3, 3, none⟩ _ g1 (by show g1 ≠ w.heap.size + 3; omega)).trans jgB; have HGB := Lib.hid hgrB; have HFARB := Lib.hid hfarB; have HVB := Lib.hid v3B; have HOWNB := Lib.hid hownB; have HUB := Lib.hid hUB; clear hgrB hfarB v3B hownB hatB
            refine hK.out _ _ ?_ (fun hHeld => ?_)
            · exact HK7.out _ j0B jgB
            clear hK K
            try simp only [Act.put, List.setIfInBounds_toArray, List.set_cons_zero, List.set_cons_succ]
            refine wpAnyH_take (i := 9) (oi := ⟨some 47, _, _, _, _, _⟩) (v := ?_) rfl (by kernel_rfl) (by kernel_rfl) (by kernel_rfl) (fun _ _ _ h => h) (Or.inl ⟨by kernel_rfl, ?_⟩) (by assumption) ?_
            rotate_left
            · (intro w' hSw; (try dsimp only at hSw); go_split_ands; go_simp; first | done | with_reducible rfl)
            try simp only [Act.put, List.setIfInBounds_toArray, List.set_cons_zero, List.set_cons_succ]
            refine wpAnyH_ready (rs := [10]) (by kernel_rfl) (by simp) ?_
            refine AllReadyH.cons (o := ⟨none, _, _, _, _, _⟩) rfl (fun K hK => ?_) AllReadyH.nil
            go_simp
            refine hK.out _ _ ?_ (fun hHeld => ?_)
            · exact HK7.out _ k0B kgB
            clear hK K
            try simp only [Act.put, List.setIfInBounds_toArray, List.set_cons_zero, List.set_cons_succ]
            refine wpAnyH_done (by kernel_rfl) ?_ _
            go_wp2_with fail
            obtain ⟨wz, hwz⟩ : ∃ wz, wz = (WB.setCell ⟨w.heap.size + 3, 3, none⟩ (.slice (some ⟨gB, 0, none⟩) (p + 1) cB)) := ⟨_, rfl⟩
            have hszwz : wz.heap.size = WB.heap.size := by rw [hwz]; exact World.size_setCell _ _ _
            have hgewz : wx.heap.size ≤ wz.heap.size := by rw [hszwz]; exact Nat.le_trans HUB.out.size HGB.out.size
            have hwwz : ∀ i, i < wx.heap.size → (Value.slice AY nY cY).ownBlock ≠ some i → i ≠ w.heap.size + 3 → wz.heap[i]? = wx.heap[i]? := by
              intro i h1 h2 h3
              rw [hwz]
              exact (Below.heap_setCell _ ⟨w.heap.size + 3, 3, none⟩ _ i h3).trans (HFARB.out i h1 h2)
            have HLwz := Lib.hid (p := Lies wz (w.heap.size + 3) 42 #[.slice Aa na ca, .slice Ab nb cb, .slice (some ⟨gA, 0, none⟩) (p + 1) cA, .slice (some ⟨gB, 0, none⟩) (p + 1) cB]) (by rw [hwz]; exact HVB.out.set 3 _)
            have HO1wz := Lib.hid (p := wz.ownsRow (w.heap.size + 4) 26 2 (.slice (some ⟨gB, 0, none⟩) (p + 1) cB) (p + 1) (us.flatten ++ [.slice A6 n6 c6, .int .i64 rv5])) (by rw [hwz]; exact own_same HOWNB.out fun i hi _ => Below.heap_setCell _ ⟨w.heap.size + 3, 3, none⟩ _ i (by show i ≠ w.heap.size + 3; omega))
            have HO2wz := Lib.hid (own_sameB HO1wx.out fun i hi => hwwz i (own_block HO1wx.out i hi).2 (fun e => own_apart HO2wx.out HO1wx.out (by decide) i e hi) (by have := (own_block HO1wx.out i hi).1; omega))
            have HBwz := Lib.hid (p := Below (w.heap.size + 3) wx wz) ⟨by rw [hwz]; exact HGB.out.os.trans HUB.out.os, by rw [hwz]; exact HGB.out.tape.trans HUB.out.tape, by rw [hwz]; exact HGB.out.output.trans HUB.out.output, hgewz, fun i hi => hwwz i (by omega) (fun e => by have := (own_block HO2wx.out i e).1; omega) (by omega)⟩
            rw [← hwz]
            clear f3B b3B hszwz hwz
            go_roundw
            case rel => exact ⟨q + 1, p + 1, _, _, os ++ [nq], us ++ [[.slice A6 n6 c6, .int .i64 rv5]], by omega, by omega, by simp, HLwz.out, by rw [List.map_append]; exact HO2wz.out, by rw [List.flatten_append]; simpa using HO1wz.out, by rw [List.length_append, HUL.out]; rfl, (fun r hr => by rcases List.mem_append.1 hr with h | h; exact HUR.out r h; rw [List.mem_singleton.1 h]; exact hrow0), HBB.out.trans ((HBwx.out.trans (HBwz.out.mono (Nat.le_refl _))).mono (Nat.le_refl _))⟩
            case measure => (simp [intOf] <;> omega)
          · go_simp
            refine hK.out _ _ ?_ (fun hHeld => ?_)
            · exact HK7.out _ u0B ugB
            clear hK K
            try simp only [Act.put, List.setIfInBounds_toArray, List.set_cons_zero, List.set_cons_succ]
            refine wpAnyH_ready (rs := [1]) (by kernel_rfl) (by simp) ?_
            refine AllReadyH.cons (o := ⟨some 39, _, _, _, _, _⟩) rfl (fun K hK => ?_) AllReadyH.nil
            go_simp
            refine hK.out _ _ ?_ (fun hHeld => ?_)
            · exact HK7.out _ u0B ugB
            clear hK K
            try simp only [Act.put, List.setIfInBounds_toArray, List.set_cons_zero, List.set_cons_succ]
            refine wpAnyH_ready (rs := [8]) (by kernel_rfl) (by simp) ?_
            refine AllReadyH.cons (o := ⟨some 46, _, _, _, _, _⟩) rfl (fun K hK => ?_) AllReadyH.nil
            refine step_append_lies _ rfl (.tmp 39) (.tmp 45) 40 rfl (w.heap.size + 4) 26 i1 (.agg zeroR) 2 32 Try.underlying40 ki kz0 kz1 kz2 rfl (by decide) (Value.slice AY nY cY) p _ rfl HOB.out ⟨wx.heap.size, 0, none⟩ 1 1 [.slice A6 n6 c6, .int .i64 rv5] rfl rfl (World.news_of_block (Lies.new wx 26 #[.slice A6 n6 c6, .int .i64 rv5])) (by simp [Value.oneCell']) (by decide) (by unfold maxLen; omega) (by omega) (by show w.heap.size + 4 ≤ (wx.alloc _).heap.size; rw [World.size_alloc]; omega) _ rfl ?_; intro gB cB WB hownB hgrB hatB hltB; have hfarB : ∀ i, i < wx.heap.size → (Value.slice AY nY cY).ownBlock ≠ some i → WB.heap[i]? = wx.heap[i]? := (fun i hi hn => (hgrB.block i (Nat.lt_of_lt_of_le hi hUB.size) (fun e => hn e.symm)).trans (hUB.block i hi)); have v3B : Lies WB (w.heap.size + 3) 42 #[.slice Aa na ca, .slice Ab nb cb, .slice (some ⟨gA, 0, none⟩) (p + 1) cA, .slice AY nY cY] := (hfarB _ ltB (fun e => by have := (hPB _ e).1; omega)).trans HLwx.out; have f3B := v3B.free 3; have b3B := v3B.cell 3; have t3B := v3B.lt; have j0B : WB.heap[w.heap.size]? = wx.heap[w.heap.size]? := hfarB _ (by omega) (fun e => by have := (hPB _ e).1; omega); have jgB : WB.heap[g1]? = wx.heap[g1]? := hfarB _ (by omega) (fun e => by have := (hPB _ e).1; omega); have k0B : (WB.setCell ⟨w.heap.size + 3, 3, none⟩ (.slice (some ⟨gB, 0, none⟩) (p + 1) cB)).heap[w.heap.size]? = wx.heap[w.heap.size]? := (Below.heap_setCell _ ⟨w.heap.size + 3, 3, none⟩ _ w.heap.size (by show w.heap.size ≠ w.heap.size + 3; omega)).trans j0B; have kgB : (WB.setCell ⟨w.heap.size + 3, 3, none⟩ (.slice (some ⟨gB, 0, none⟩) (p + 1) cB)).heap[g1]? = wx.heap[g1]? := (Below.heap_setCell _ ⟨w.heap.size + 3, 3, none⟩ _ g1 (by show g1 ≠ w.heap.size + 3; omega)).trans jgB; have HGB := Lib.hid hgrB; have HFARB := Lib.hid hfarB; have HVB := Lib.hid v3B; have HOWNB := Lib.hid hownB; have HUB := Lib.hid hUB; clear hgrB hfarB v3B hownB hatB
            refine hK.out _ _ ?_ (fun hHeld => ?_)
            · exact HK7.out _ j0B jgB
            clear hK K
            try simp only [Act.put, List.setIfInBounds_toArray, List.set_cons_zero, List.set_cons_succ]
            refine wpAnyH_take (i := 9) (oi := ⟨some 47, _, _, _, _, _⟩) (v := ?_) rfl (by kernel_rfl) (by kernel_rfl) (by kernel_rfl) (fun _ _ _ h => h) (Or.inl ⟨by kernel_rfl, ?_⟩) (by assumption) ?_
            rotate_left
            · (intro w' hSw; (try dsimp only at hSw); go_split_ands; go_simp; first | done | with_reducible rfl)
            try simp only [Act.put, List.setIfInBounds_toArray, List.set_cons_zero, List.set_cons_succ]
            refine wpAnyH_ready (rs := [10]) (by kernel_rfl) (by simp) ?_
            refine AllReadyH.cons (o := ⟨none, _, _, _, _, _⟩) rfl (fun K hK => ?_) AllReadyH.nil
            go_simp
            refine hK.out _ _ ?_ (fun hHeld => ?_)
            · exact HK7.out _ k0B kgB
            clear hK K
            try simp only [Act.put, List.setIfInBounds_toArray, List.set_cons_zero, List.set_cons_succ]
            refine wpAnyH_done (by kernel_rfl) ?_ _
            go_wp2_with fail
            obtain ⟨wz, hwz⟩ : ∃ wz, wz = (WB.setCell ⟨w.heap.size + 3, 3, none⟩ (.slice (some ⟨gB, 0, none⟩) (p + 1) cB)) := ⟨_, rfl⟩
            have hszwz : wz.heap.size = WB.heap.size := by rw [hwz]; exact World.size_setCell _ _ _
            have hgewz : wx.heap.size ≤ wz.heap.size := by rw [hszwz]; exact Nat.le_trans HUB.out.size HGB.out.size
            have hwwz : ∀ i, i < wx.heap.size → (Value.slice AY nY cY).ownBlock ≠ some i → i ≠ w.heap.size + 3 → wz.heap[i]? = wx.heap[i]? := by
              intro i h1 h2 h3
              rw [hwz]
              exact (Below.heap_setCell _ ⟨w.heap.size + 3, 3, none⟩ _ i h3).trans (HFARB.out i h1 h2)
            have HLwz := Lib.hid (p := Lies wz (w.heap.size + 3) 42 #[.slice Aa na ca, .slice Ab nb cb, .slice (some ⟨gA, 0, none⟩) (p + 1) cA, .slice (some ⟨gB, 0, none⟩) (p + 1) cB]) (by rw [hwz]; exact HVB.out.set 3 _)
            have HO1wz := Lib.hid (p := wz.ownsRow (w.heap.size + 4) 26 2 (.slice (some ⟨gB, 0, none⟩) (p + 1) cB) (p + 1) (us.flatten ++ [.slice A6 n6 c6, .int .i64 rv5])) (by rw [hwz]; exact own_same HOWNB.out fun i hi _ => Below.heap_setCell _ ⟨w.heap.size + 3, 3, none⟩ _ i (by show i ≠ w.heap.size + 3; omega))
            have HO2wz := Lib.hid (own_sameB HO1wx.out fun i hi => hwwz i (own_block HO1wx.out i hi).2 (fun e => own_apart HO2wx.out HO1wx.out (by decide) i e hi) (by have := (own_block HO1wx.out i hi).1; omega))
            have HBwz := Lib.hid (p := Below (w.heap.size + 3) wx wz) ⟨by rw [hwz]; exact HGB.out.os.trans HUB.out.os, by rw [hwz]; exact HGB.out.tape.trans HUB.out.tape, by rw [hwz]; exact HGB.out.output.trans HUB.out.output, hgewz, fun i hi => hwwz i (by omega) (fun e => by have := (own_block HO2wx.out i e).1; omega) (by omega)⟩
            rw [← hwz]
            clear f3B b3B hszwz hwz
            go_roundw
            case rel => exact ⟨q + 1, p + 1, _, _, os ++ [nq], us ++ [[.slice A6 n6 c6, .int .i64 rv5]], by omega, by omega, by simp, HLwz.out, by rw [List.map_append]; exact HO2wz.out, by rw [List.flatten_append]; simpa using HO1wz.out, by rw [List.length_append, HUL.out]; rfl, (fun r hr => by rcases List.mem_append.1 hr with h | h; exact HUR.out r h; rw [List.mem_singleton.1 h]; exact hrow0), HBB.out.trans ((HBwx.out.trans (HBwz.out.mono (Nat.le_refl _))).mono (Nat.le_refl _))⟩
            case measure => (simp [intOf] <;> omega)
        · go_simp
          refine hK.out _ _ ?_ (fun hHeld => ?_)
          · exact HK6.out _ u0A ugA
          clear hK K
          try simp only [Act.put, List.setIfInBounds_toArray, List.set_cons_zero, List.set_cons_succ]
          refine wpAnyH_ready (rs := [1]) (by kernel_rfl) (by simp) ?_
          refine AllReadyH.cons (o := ⟨some 29, _, _, _, _, _⟩) rfl (fun K hK => ?_) AllReadyH.nil
          go_simp
          refine hK.out _ _ ?_ (fun hHeld => ?_)
          · exact HK6.out _ u0A ugA
          clear hK K
          try simp only [Act.put, List.setIfInBounds_toArray, List.set_cons_zero, List.set_cons_succ]
          refine wpAnyH_ready (rs := [8]) (by kernel_rfl) (by simp) ?_
          refine AllReadyH.cons (o := ⟨some 36, _, _, _, _, _⟩) rfl (fun K hK => ?_) AllReadyH.nil
          refine step_append_lies _ rfl (.tmp 29) (.tmp 35) 39 rfl (w.heap.size + 4) 3 i0 (.int .i64 0) 1 8 Try.underlying39 hi hz0 hz1 hz2 rfl (by decide) (Value.slice AX nX cX) p _ rfl HOA.out ⟨wo.heap.size, 0, none⟩ 1 1 [.int .i64 nq] rfl rfl (World.news_of_block (Lies.new wo 3 #[.int .i64 nq])) (by simp [Value.oneCell']) (by decide) (by unfold maxLen; omega) (by omega) (by show w.heap.size + 4 ≤ (wo.alloc _).heap.size; rw [World.size_alloc]; omega) _ rfl ?_; intro gA cA WA hownA hgrA hatA hltA; have hfarA : ∀ i, i < wo.heap.size → (Value.slice AX nX cX).ownBlock ≠ some i → WA.heap[i]? = wo.heap[i]? := (fun i hi hn => (hgrA.block i (Nat.lt_of_lt_of_le hi hUA.size) (fun e => hn e.symm)).trans (hUA.block i hi)); have v3A : Lies WA (w.heap.size + 3) 42 #[.slice Aa na ca, .slice Ab nb cb, .slice AX nX cX, .slice AY nY cY] := (hfarA _ ltA (fun e => by have := (hPA _ e).1; omega)).trans HL.out; have f3A := v3A.free 2; have b3A := v3A.cell 2; have t3A := v3A.lt; have j0A : WA.heap[w.heap.size]? = wo.heap[w.heap.size]? := hfarA _ (by omega) (fun e => by have := (hPA _ e).1; omega); have jgA : WA.heap[g0]? = wo.heap[g0]? := hfarA _ (by omega) (fun e => by have := (hPA _ e).1; omega); have k0A : (WA.setCell ⟨w.heap.size + 3, 2, none⟩ (.slice (some ⟨gA, 0, none⟩) (p + 1) cA)).heap[w.heap.size]? = wo.heap[w.heap.size]? := (Below.heap_setCell _ ⟨w.heap.size + 3, 2, none⟩ _ w.heap.size (by show w.heap.size ≠ w.heap.size + 3; omega)).trans j0A; have kgA : (WA.setCell ⟨w.heap.size + 3, 2, none⟩ (.slice (some ⟨gA, 0, none⟩) (p + 1) cA)).heap[g0]? = wo.heap[g0]? := (Below.heap_setCell _ ⟨w.heap.size + 3, 2, none⟩ _ g0 (by show g0 ≠ w.heap.size + 3; omega)).trans jgA; have HGA := Lib.hid hgrA; have HFARA := Lib.hid hfarA; have HVA := Lib.hid v3A; have HOWNA := Lib.hid hownA; have HUA := Lib.hid hUA; clear hgrA hfarA v3A hownA hatA
          refine hK.out _ _ ?_ (fun hHeld => ?_)
          · exact HK6.out _ j0A jgA
          clear hK K
          try simp only [Act.put, List.setIfInBounds_toArray, List.set_cons_zero, List.set_cons_succ]
          refine wpAnyH_take (i := 9) (oi := ⟨some 37, _, _, _, _, _⟩) (v := ?_) rfl (by kernel_rfl) (by kernel_rfl) (by kernel_rfl) (fun _ _ _ h => h) (Or.inl ⟨by kernel_rfl, ?_⟩) (by assumption) ?_
          rotate_left
          · (intro w' hSw; (try dsimp only at hSw); go_split_ands; go_simp; first | done | with_reducible rfl)
          try simp only [Act.put, List.setIfInBounds_toArray, List.set_cons_zero, List.set_cons_succ]
          refine wpAnyH_ready (rs := [10]) (by kernel_rfl) (by simp) ?_
          refine AllReadyH.cons (o := ⟨none, _, _, _, _, _⟩) rfl (fun K hK => ?_) AllReadyH.nil
          go_simp
          refine hK.out _ _ ?_ (fun hHeld => ?_)
          · exact HK6.out _ k0A kgA
          clear hK K
          try simp only [Act.put, List.setIfInBounds_toArray, List.set_cons_zero, List.set_cons_succ]
          refine wpAnyH_done (by kernel_rfl) ?_ _
          go_wp2_with fail
          obtain ⟨wx, hwx⟩ : ∃ wx, wx = (WA.setCell ⟨w.heap.size + 3, 2, none⟩ (.slice (some ⟨gA, 0, none⟩) (p + 1) cA)) := ⟨_, rfl⟩
          have hszwx : wx.heap.size = WA.heap.size := by rw [hwx]; exact World.size_setCell _ _ _
          have hgewx : wo.heap.size ≤ wx.heap.size := by rw [hszwx]; exact Nat.le_trans HUA.out.size HGA.out.size
          have hwwx : ∀ i, i < wo.heap.size → (Value.slice AX nX cX).ownBlock ≠ some i → i ≠ w.heap.size + 3 → wx.heap[i]? = wo.heap[i]? := by
            intro i h1 h2 h3
            rw [hwx]
            exact (Below.heap_setCell _ ⟨w.heap.size + 3, 2, none⟩ _ i h3).trans (HFARA.out i h1 h2)
          have HLwx := Lib.hid (p := Lies wx (w.heap.size + 3) 42 #[.slice Aa na ca, .slice Ab nb cb, .slice (some ⟨gA, 0, none⟩) (p + 1) cA, .slice AY nY cY]) (by rw [hwx]; exact HVA.out.set 2 _)
          have HO1wx := Lib.hid (p := wx.ownsRow (w.heap.size + 4) 3 1 (.slice (some ⟨gA, 0, none⟩) (p + 1) cA) (p + 1) ((os.map (Value.int .i64)) ++ [.int .i64 nq])) (by rw [hwx]; exact own_same HOWNA.out fun i hi _ => Below.heap_setCell _ ⟨w.heap.size + 3, 2, none⟩ _ i (by show i ≠ w.heap.size + 3; omega))
          have HO2wx := Lib.hid (own_sameB HOY.out fun i hi => hwwx i (own_block HOY.out i hi).2 (fun e => own_apart HOX.out HOY.out (by decide) i e hi) (by have := (own_block HOY.out i hi).1; omega))
          have HBwx := Lib.hid (p := Below (w.heap.size + 3) wo wx) ⟨by rw [hwx]; exact HGA.out.os.trans HUA.out.os, by rw [hwx]; exact HGA.out.tape.trans HUA.out.tape, by rw [hwx]; exact HGA.out.output.trans HUA.out.output, hgewx, fun i hi => hwwx i (by omega) (fun e => by have := (own_block HOX.out i e).1; omega) (by omega)⟩
          rw [← hwx]
          clear f3A b3A hszwx hwx
          have z0x : wx.cell? ⟨w.heap.size, 3, none⟩ = some (.slice (some ⟨g1, o1, none⟩) N c1) := (World.cell?_of_block (w := wo) (a := ⟨w.heap.size, 3, none⟩) (hwwx w.heap.size (by omega) (fun e => by have := (own_block HOX.out _ e).1; omega) (by omega))).trans z0
          have y0 : wx.cell? ⟨g1, o1 + q * 2, none⟩ = some (.slice A6 n6 c6) := (World.cell?_of_block (w := wo) (a := ⟨g1, o1 + q * 2, none⟩) (hwwx g1 (by omega) (fun e => by have := (own_block HOX.out g1 e).1; omega) (by omega))).trans y0
          have y1 : wx.cell? ⟨g1, o1 + q * 2 + 1, none⟩ = some (.int .i64 rv5) := (World.cell?_of_block (w := wo) (a := ⟨g1, o1 + q * 2 + 1, none⟩) (hwwx g1 (by omega) (fun e => by have := (own_block HOX.out g1 e).1; omega) (by omega))).trans y1
          have hUB : Below wx.heap.size wx (wx.alloc (.cells #[.slice A6 n6 c6, .int .i64 rv5] 26)).drew := (below_new wx _).drew
          have HOB := Lib.hid (own_later HO2wx.out hUB)
          have hPB := own_block HO2wx.out
          have lcB := HLwx.out.cell 3
          have ltB := HLwx.out.lt
          have hwsB : w.heap.size + 4 ≤ wx.heap.size := (by omega)
          have HK7 := Lib.hid (show ∀ VV : World, VV.heap[w.heap.size]? = wx.heap[w.heap.size]? → VV.heap[g1]? = wx.heap[g1]? → (VV.cell? ⟨w.heap.size, 3, none⟩ = some (.slice (some ⟨g1, o1, none⟩) N c1) ∧ (VV.cell? ⟨g1, o1 + q * 2, none⟩ = some (.slice A6 n6 c6) ∧ VV.cell? ⟨g1, o1 + q * 2 + 1, none⟩ = some (.int .i64 rv5))) from fun VV h0 h1 => by
            have e0' : ∀ j, VV.cell? ⟨w.heap.size, j, none⟩ = wx.cell? ⟨w.heap.size, j, none⟩ := fun j => World.cell?_of_block (w := wx) (a := ⟨w.heap.size, j, none⟩) h0
            have e1' : ∀ j, VV.cell? ⟨g1, j, none⟩ = wx.cell? ⟨g1, j, none⟩ := fun j => World.cell?_of_block (w := wx) (a := ⟨g1, j, none⟩) h1
            exact ⟨(e0' _).trans z0x, ⟨(e1' _).trans y0, (e1' _).trans y1⟩⟩)
          have d0B : wx.drew.heap[w.heap.size]? = wx.heap[w.heap.size]? := rfl
          have dgB : wx.drew.heap[g1]? = wx.heap[g1]? := rfl
          have u0B : (wx.alloc (.cells #[.slice A6 n6 c6, .int .i64 rv5] 26)).drew.heap[w.heap.size]? = wx.heap[w.heap.size]? := hUB.block _ (by omega)
          have ugB : (wx.alloc (.cells #[.slice A6 n6 c6, .int .i64 rv5] 26)).drew.heap[g1]? = wx.heap[g1]? := hUB.block _ (by omega)
          have ldB : wx.drew.cell? ⟨w.heap.size + 3, 3, none⟩ = some (Value.slice AY nY cY) := HLwx.out.cell 3
          have luB : (wx.alloc (.cells #[.slice A6 n6 c6, .int .i64 rv5] 26)).drew.cell? ⟨w.heap.size + 3, 3, none⟩ = some (Value.slice AY nY cY) := (HLwx.out.alloc _).cell 3
          refine wp_region_held_drew (S := fun VV => (VV.cell? ⟨w.heap.size, 3, none⟩ = some (.slice (some ⟨g1, o1, none⟩) N c1) ∧ (VV.cell? ⟨g1, o1 + q * 2, none⟩ = some (.slice A6 n6 c6) ∧ VV.cell? ⟨g1, o1 + q * 2 + 1, none⟩ = some (.int .i64 rv5)))) (by kernel_rfl) ?_ (fun hHeld => ?_)
          · exact HK7.out _ d0B dgB
          refine wpAnyH_take (i := 0) (oi := ⟨some 38, _, _, _, _, _⟩) (v := ?_) rfl (by kernel_rfl) (by kernel_rfl) (by kernel_rfl) (fun _ _ _ h => h) (Or.inl ⟨by kernel_rfl, ?_⟩) (by assumption) ?_
          rotate_left
          · (intro w' hSw; (try dsimp only at hSw); go_split_ands; go_simp; first | done | with_reducible rfl)
          try simp only [Act.put, List.setIfInBounds_toArray, List.set_cons_zero, List.set_cons_succ]
          refine wpAnyH_take (i := 2) (oi := ⟨some 40, _, _, _, _, _⟩) (v := ?_) rfl (by kernel_rfl) (by kernel_rfl) (by kernel_rfl) (fun _ _ _ h => h) (Or.inl ⟨by kernel_rfl, ?_⟩) (by assumption) ?_
          rotate_left
          · (intro w' hSw; (try dsimp only at hSw); go_split_ands; go_simp; first | done | with_reducible rfl)
          try simp only [Act.put, List.setIfInBounds_toArray, List.set_cons_zero, List.set_cons_succ]
          refine wpAnyH_take (i := 3) (oi := ⟨some 41, _, _, _, _, _⟩) (v := ?_) rfl (by kernel_rfl) (by kernel_rfl) (by kernel_rfl) (fun _ _ _ h => h) (Or.inl ⟨by kernel_rfl, ?_⟩) (by assumption) ?_
          rotate_left
          · (intro w' hSw; (try dsimp only at hSw); go_split_ands; go_simp; first | done | with_reducible rfl)
          try simp only [Act.put, List.setIfInBounds_toArray, List.set_cons_zero, List.set_cons_succ]
          refine wpAnyH_take (i := 4) (oi := ⟨some 42, _, _, _, _, _⟩) (v := ?_) rfl (by kernel_rfl) (by kernel_rfl) (by kernel_rfl) (fun _ _ _ h => h) (Or.inl ⟨by kernel_rfl, ?_⟩) (by assumption) ?_
          rotate_left
          · (intro w' hSw; (try dsimp only at hSw); go_split_ands; go_simp; first | done | with_reducible rfl)
          try simp only [Act.put, List.setIfInBounds_toArray, List.set_cons_zero, List.set_cons_succ]
          refine wpAnyH_take (i := 5) (oi := ⟨some 43, _, _, _, _, _⟩) (v := ?_) rfl (by kernel_rfl) (by kernel_rfl) (by kernel_rfl) (fun _ _ _ h => h) (Or.inl ⟨by kernel_rfl, ?_⟩) (by assumption) ?_
          rotate_left
          · (intro w' hSw; (try dsimp only at hSw); go_split_ands; go_simp; first | done | with_reducible rfl)
          try simp only [Act.put, List.setIfInBounds_toArray, List.set_cons_zero, List.set_cons_succ]
          refine wpAnyH_take (i := 6) (oi := ⟨some 44, _, _, _, _, _⟩) (v := ?_) rfl (by kernel_rfl) (by kernel_rfl) (by kernel_rfl) (fun _ _ _ h => h) (Or.inl ⟨by kernel_rfl, ?_⟩) (by assumption) ?_
          rotate_left
          · (intro w' hSw; (try dsimp only at hSw); go_split_ands; go_simp; first | done | with_reducible rfl)
          try simp only [Act.put, List.setIfInBounds_toArray, List.set_cons_zero, List.set_cons_succ]
          refine wpAnyH_ready (rs := [1, 7]) (by kernel_rfl) (by simp) ?_
          refine AllReadyH.cons (o := ⟨some 39, _, _, _, _, _⟩) rfl (fun K hK => ?_) (AllReadyH.cons (o := ⟨some 45, _, _, _, _, _⟩) rfl (fun K hK => ?_) AllReadyH.nil)
          · go_simp
            refine hK.out _ _ ?_ (fun hHeld => ?_)
            · exact HK7.out _ d0B dgB
            clear hK K
            try simp only [Act.put, List.setIfInBounds_toArray, List.set_cons_zero, List.set_cons_succ]
            refine wpAnyH_ready (rs := [7]) (by kernel_rfl) (by simp) ?_
            refine AllReadyH.cons (o := ⟨some 45, _, _, _, _, _⟩) rfl (fun K hK => ?_) AllReadyH.nil
            go_simp
            refine hK.out _ _ ?_ (fun hHeld => ?_)
            · exact HK7.out _ u0B ugB
            clear hK K
            try simp only [Act.put, List.setIfInBounds_toArray, List.set_cons_zero, List.set_cons_succ]
            refine wpAnyH_ready (rs := [8]) (by kernel_rfl) (by simp) ?_
            refine AllReadyH.cons (o := ⟨some 46, _, _, _, _, _⟩) rfl (fun K hK => ?_) AllReadyH.nil
            refine step_append_lies _ rfl (.tmp 39) (.tmp 45) 40 rfl (w.heap.size + 4) 26 i1 (.agg zeroR) 2 32 Try.underlying40 ki kz0 kz1 kz2 rfl (by decide) (Value.slice AY nY cY) p _ rfl HOB.out ⟨wx.heap.size, 0, none⟩ 1 1 [.slice A6 n6 c6, .int .i64 rv5] rfl rfl (World.news_of_block (Lies.new wx 26 #[.slice A6 n6 c6, .int .i64 rv5])) (by simp [Value.oneCell']) (by decide) (by unfold maxLen; omega) (by omega) (by show w.heap.size + 4 ≤ (wx.alloc _).heap.size; rw [World.size_alloc]; omega) _ rfl ?_; intro gB cB WB hownB hgrB hatB hltB; have hfarB : ∀ i, i < wx.heap.size → (Value.slice AY nY cY).ownBlock ≠ some i → WB.heap[i]? = wx.heap[i]? := (fun i hi hn => (hgrB.block i (Nat.lt_of_lt_of_le hi hUB.size) (fun e => hn e.symm)).trans (hUB.block i hi)); have v3B : Lies WB (w.heap.size + 3) 42 #[.slice Aa na ca, .slice Ab nb cb, .slice (some ⟨gA, 0, none⟩) (p + 1) cA, .slice AY nY cY] := (hfarB _ ltB (fun e => by have := (hPB _ e).1; omega)).trans HLwx.out; have f3B := v3B.free 3; have b3B := v3B.cell 3; have t3B := v3B.lt; have j0B : WB.heap[w.heap.size]? = wx.heap[w.heap.size]? := hfarB _ (by omega) (fun e => by have := (hPB _ e).1; omega); have jgB : WB.heap[g1]? = wx.heap[g1]? := hfarB _ (by omega) (fun e => by have := (hPB _ e).1; omega); have k0B : (WB.setCell ⟨w.heap.size + 3, 3, none⟩ (.slice (some ⟨gB, 0, none⟩) (p + 1) cB)).heap[w.heap.size]? = wx.heap[w.heap.size]? := (Below.heap_setCell _ ⟨w.heap.size + 3, 3, none⟩ _ w.heap.size (by show w.heap.size ≠ w.heap.size + 3; omega)).trans j0B; have kgB : (WB.setCell ⟨w.heap.size + 3, 3, none⟩ (.slice (some ⟨gB, 0, none⟩) (p + 1) cB)).heap[g1]? = wx.heap[g1]? := (Below.heap_setCell _ ⟨w.heap.size + 3, 3, none⟩ _ g1 (by show g1 ≠ w.heap.size + 3; omega)).trans jgB; have HGB := Lib.hid hgrB; have HFARB := Lib.hid hfarB; have HVB := Lib.hid v3B; have HOWNB := Lib.hid hownB; have HUB := Lib.hid hUB; clear hgrB hfarB v3B hownB hatB
            refine hK.out _ _ ?_ (fun hHeld => ?_)
            · exact HK7.out _ j0B jgB
            clear hK K
            try simp only [Act.put, List.setIfInBounds_toArray, List.set_cons_zero, List.set_cons_succ]
            refine wpAnyH_take (i := 9) (oi := ⟨some 47, _, _, _, _, _⟩) (v := ?_) rfl (by kernel_rfl) (by kernel_rfl) (by kernel_rfl) (fun _ _ _ h => h) (Or.inl ⟨by kernel_rfl, ?_⟩) (by assumption) ?_
            rotate_left
            · (intro w' hSw; (try dsimp only at hSw); go_split_ands; go_simp; first | done | with_reducible rfl)
            try simp only [Act.put, List.setIfInBounds_toArray, List.set_cons_zero, List.set_cons_succ]
            refine wpAnyH_ready (rs := [10]) (by kernel_rfl) (by simp) ?_
            refine AllReadyH.cons (o := ⟨none, _, _, _, _, _⟩) rfl (fun K hK => ?_) AllReadyH.nil
            go_simp
            refine hK.out _ _ ?_ (fun hHeld => ?_)
            · exact HK7.out _ k0B kgB
            clear hK K
            try simp only [Act.put, List.setIfInBounds_toArray, List.set_cons_zero, List.set_cons_succ]
            refine wpAnyH_done (by kernel_rfl) ?_ _
            go_wp2_with fail
            obtain ⟨wz, hwz⟩ : ∃ wz, wz = (WB.setCell ⟨w.heap.size + 3, 3, none⟩ (.slice (some ⟨gB, 0, none⟩) (p + 1) cB)) := ⟨_, rfl⟩
            have hszwz : wz.heap.size = WB.heap.size := by rw [hwz]; exact World.size_setCell _ _ _
            have hgewz : wx.heap.size ≤ wz.heap.size := by rw [hszwz]; exact Nat.le_trans HUB.out.size HGB.out.size
            have hwwz : ∀ i, i < wx.heap.size → (Value.slice AY nY cY).ownBlock ≠ some i → i ≠ w.heap.size + 3 → wz.heap[i]? = wx.heap[i]? := by
              intro i h1 h2 h3
              rw [hwz]
              exact (Below.heap_setCell _ ⟨w.heap.size + 3, 3, none⟩ _ i h3).trans (HFARB.out i h1 h2)
            have HLwz := Lib.hid (p := Lies wz (w.heap.size + 3) 42 #[.slice Aa na ca, .slice Ab nb cb, .slice (some ⟨gA, 0, none⟩) (p + 1) cA, .slice (some ⟨gB, 0, none⟩) (p + 1) cB]) (by rw [hwz]; exact HVB.out.set 3 _)
            have HO1wz := Lib.hid (p := wz.ownsRow (w.heap.size + 4) 26 2 (.slice (some ⟨gB, 0, none⟩) (p + 1) cB) (p + 1) (us.flatten ++ [.slice A6 n6 c6, .int .i64 rv5])) (by rw [hwz]; exact own_same HOWNB.out fun i hi _ => Below.heap_setCell _ ⟨w.heap.size + 3, 3, none⟩ _ i (by show i ≠ w.heap.size + 3; omega))
            have HO2wz := Lib.hid (own_sameB HO1wx.out fun i hi => hwwz i (own_block HO1wx.out i hi).2 (fun e => own_apart HO2wx.out HO1wx.out (by decide) i e hi) (by have := (own_block HO1wx.out i hi).1; omega))
            have HBwz := Lib.hid (p := Below (w.heap.size + 3) wx wz) ⟨by rw [hwz]; exact HGB.out.os.trans HUB.out.os, by rw [hwz]; exact HGB.out.tape.trans HUB.out.tape, by rw [hwz]; exact HGB.out.output.trans HUB.out.output, hgewz, fun i hi => hwwz i (by omega) (fun e => by have := (own_block HO2wx.out i e).1; omega) (by omega)⟩
            rw [← hwz]
            clear f3B b3B hszwz hwz
            go_roundw
            case rel => exact ⟨q + 1, p + 1, _, _, os ++ [nq], us ++ [[.slice A6 n6 c6, .int .i64 rv5]], by omega, by omega, by simp, HLwz.out, by rw [List.map_append]; exact HO2wz.out, by rw [List.flatten_append]; simpa using HO1wz.out, by rw [List.length_append, HUL.out]; rfl, (fun r hr => by rcases List.mem_append.1 hr with h | h; exact HUR.out r h; rw [List.mem_singleton.1 h]; exact hrow0), HBB.out.trans ((HBwx.out.trans (HBwz.out.mono (Nat.le_refl _))).mono (Nat.le_refl _))⟩
            case measure => (simp [intOf] <;> omega)
          · go_simp
            refine hK.out _ _ ?_ (fun hHeld => ?_)
            · exact HK7.out _ u0B ugB
            clear hK K
            try simp only [Act.put, List.setIfInBounds_toArray, List.set_cons_zero, List.set_cons_succ]
            refine wpAnyH_ready (rs := [1]) (by kernel_rfl) (by simp) ?_
            refine AllReadyH.cons (o := ⟨some 39, _, _, _, _, _⟩) rfl (fun K hK => ?_) AllReadyH.nil
            go_simp
            refine hK.out _ _ ?_ (fun hHeld => ?_)
            · exact HK7.out _ u0B ugB
            clear hK K
            try simp only [Act.put, List.setIfInBounds_toArray, List.set_cons_zero, List.set_cons_succ]
            refine wpAnyH_ready (rs := [8]) (by kernel_rfl) (by simp) ?_
            refine AllReadyH.cons (o := ⟨some 46, _, _, _, _, _⟩) rfl (fun K hK => ?_) AllReadyH.nil
            refine step_append_lies _ rfl (.tmp 39) (.tmp 45) 40 rfl (w.heap.size + 4) 26 i1 (.agg zeroR) 2 32 Try.underlying40 ki kz0 kz1 kz2 rfl (by decide) (Value.slice AY nY cY) p _ rfl HOB.out ⟨wx.heap.size, 0, none⟩ 1 1 [.slice A6 n6 c6, .int .i64 rv5] rfl rfl (World.news_of_block (Lies.new wx 26 #[.slice A6 n6 c6, .int .i64 rv5])) (by simp [Value.oneCell']) (by decide) (by unfold maxLen; omega) (by omega) (by show w.heap.size + 4 ≤ (wx.alloc _).heap.size; rw [World.size_alloc]; omega) _ rfl ?_; intro gB cB WB hownB hgrB hatB hltB; have hfarB : ∀ i, i < wx.heap.size → (Value.slice AY nY cY).ownBlock ≠ some i → WB.heap[i]? = wx.heap[i]? := (fun i hi hn => (hgrB.block i (Nat.lt_of_lt_of_le hi hUB.size) (fun e => hn e.symm)).trans (hUB.block i hi)); have v3B : Lies WB (w.heap.size + 3) 42 #[.slice Aa na ca, .slice Ab nb cb, .slice (some ⟨gA, 0, none⟩) (p + 1) cA, .slice AY nY cY] := (hfarB _ ltB (fun e => by have := (hPB _ e).1; omega)).trans HLwx.out; have f3B := v3B.free 3; have b3B := v3B.cell 3; have t3B := v3B.lt; have j0B : WB.heap[w.heap.size]? = wx.heap[w.heap.size]? := hfarB _ (by omega) (fun e => by have := (hPB _ e).1; omega); have jgB : WB.heap[g1]? = wx.heap[g1]? := hfarB _ (by omega) (fun e => by have := (hPB _ e).1; omega); have k0B : (WB.setCell ⟨w.heap.size + 3, 3, none⟩ (.slice (some ⟨gB, 0, none⟩) (p + 1) cB)).heap[w.heap.size]? = wx.heap[w.heap.size]? := (Below.heap_setCell _ ⟨w.heap.size + 3, 3, none⟩ _ w.heap.size (by show w.heap.size ≠ w.heap.size + 3; omega)).trans j0B; have kgB : (WB.setCell ⟨w.heap.size + 3, 3, none⟩ (.slice (some ⟨gB, 0, none⟩) (p + 1) cB)).heap[g1]? = wx.heap[g1]? := (Below.heap_setCell _ ⟨w.heap.size + 3, 3, none⟩ _ g1 (by show g1 ≠ w.heap.size + 3; omega)).trans jgB; have HGB := Lib.hid hgrB; have HFARB := Lib.hid hfarB; have HVB := Lib.hid v3B; have HOWNB := Lib.hid hownB; have HUB := Lib.hid hUB; clear hgrB hfarB v3B hownB hatB
            refine hK.out _ _ ?_ (fun hHeld => ?_)
            · exact HK7.out _ j0B jgB
            clear hK K
            try simp only [Act.put, List.setIfInBounds_toArray, List.set_cons_zero, List.set_cons_succ]
            refine wpAnyH_take (i := 9) (oi := ⟨some 47, _, _, _, _, _⟩) (v := ?_) rfl (by kernel_rfl) (by kernel_rfl) (by kernel_rfl) (fun _ _ _ h => h) (Or.inl ⟨by kernel_rfl, ?_⟩) (by assumption) ?_
            rotate_left
            · (intro w' hSw; (try dsimp only at hSw); go_split_ands; go_simp; first | done | with_reducible rfl)
            try simp only [Act.put, List.setIfInBounds_toArray, List.set_cons_zero, List.set_cons_succ]
            refine wpAnyH_ready (rs := [10]) (by kernel_rfl) (by simp) ?_
            refine AllReadyH.cons (o := ⟨none, _, _, _, _, _⟩) rfl (fun K hK => ?_) AllReadyH.nil
            go_simp
            refine hK.out _ _ ?_ (fun hHeld => ?_)
            · exact HK7.out _ k0B kgB
            clear hK K
            try simp only [Act.put, List.setIfInBounds_toArray, List.set_cons_zero, List.set_cons_succ]
            refine wpAnyH_done (by kernel_rfl) ?_ _
            go_wp2_with fail
            obtain ⟨wz, hwz⟩ : ∃ wz, wz = (WB.setCell ⟨w.heap.size + 3, 3, none⟩ (.slice (some ⟨gB, 0, none⟩) (p + 1) cB)) := ⟨_, rfl⟩
            have hszwz : wz.heap.size = WB.heap.size := by rw [hwz]; exact World.size_setCell _ _ _
            have hgewz : wx.heap.size ≤ wz.heap.size := by rw [hszwz]; exact Nat.le_trans HUB.out.size HGB.out.size
            have hwwz : ∀ i, i < wx.heap.size → (Value.slice AY nY cY).ownBlock ≠ some i → i ≠ w.heap.size + 3 → wz.heap[i]? = wx.heap[i]? := by
              intro i h1 h2 h3
              rw [hwz]
              exact (Below.heap_setCell _ ⟨w.heap.size + 3, 3, none⟩ _ i h3).trans (HFARB.out i h1 h2)
            have HLwz := Lib.hid (p := Lies wz (w.heap.size + 3) 42 #[.slice Aa na ca, .slice Ab nb cb, .slice (some ⟨gA, 0, none⟩) (p + 1) cA, .slice (some ⟨gB, 0, none⟩) (p + 1) cB]) (by rw [hwz]; exact HVB.out.set 3 _)
            have HO1wz := Lib.hid (p := wz.ownsRow (w.heap.size + 4) 26 2 (.slice (some ⟨gB, 0, none⟩) (p + 1) cB) (p + 1) (us.flatten ++ [.slice A6 n6 c6, .int .i64 rv5])) (by rw [hwz]; exact own_same HOWNB.out fun i hi _ => Below.heap_setCell _ ⟨w.heap.size + 3, 3, none⟩ _ i (by show i ≠ w.heap.size + 3; omega))
            have HO2wz := Lib.hid (own_sameB HO1wx.out fun i hi => hwwz i (own_block HO1wx.out i hi).2 (fun e => own_apart HO2wx.out HO1wx.out (by decide) i e hi) (by have := (own_block HO1wx.out i hi).1; omega))
            have HBwz := Lib.hid (p := Below (w.heap.size + 3) wx wz) ⟨by rw [hwz]; exact HGB.out.os.trans HUB.out.os, by rw [hwz]; exact HGB.out.tape.trans HUB.out.tape, by rw [hwz]; exact HGB.out.output.trans HUB.out.output, hgewz, fun i hi => hwwz i (by omega) (fun e => by have := (own_block HO2wx.out i e).1; omega) (by omega)⟩
            rw [← hwz]
            clear f3B b3B hszwz hwz
            go_roundw
            case rel => exact ⟨q + 1, p + 1, _, _, os ++ [nq], us ++ [[.slice A6 n6 c6, .int .i64 rv5]], by omega, by omega, by simp, HLwz.out, by rw [List.map_append]; exact HO2wz.out, by rw [List.flatten_append]; simpa using HO1wz.out, by rw [List.length_append, HUL.out]; rfl, (fun r hr => by rcases List.mem_append.1 hr with h | h; exact HUR.out r h; rw [List.mem_singleton.1 h]; exact hrow0), HBB.out.trans ((HBwx.out.trans (HBwz.out.mono (Nat.le_refl _))).mono (Nat.le_refl _))⟩
            case measure => (simp [intOf] <;> omega)
    · obtain rfl : q = N := by omega
      have hUA : Below wo.heap.size wo (wo.alloc (.cells #[.int .i64 n] 3)) := (below_new wo _)
      have HOA := Lib.hid (own_later HOX.out hUA)
      have hPA := own_block HOX.out
      have lcA := HL.out.cell 2
      have ltA := HL.out.lt
      have hwsA : w.heap.size + 4 ≤ wo.heap.size := (by omega)
      go_wp2_with (first | (at_builtin; (refine wpList_append_lies _ rfl (.tmp 49) (.tmp 51) 39 rfl (w.heap.size + 4) 3 i0 (.int .i64 0) 1 8 Try.underlying39 hi hz0 hz1 hz2 rfl (by decide) (Value.slice AX nX cX) p _ rfl HOA.out ⟨wo.heap.size, 0, none⟩ 1 1 [.int .i64 n] rfl rfl (World.news_of_block (Lies.new wo 3 #[.int .i64 n])) (by simp [Value.oneCell']) (by decide) (by unfold maxLen; omega) (by omega) (by show w.heap.size + 4 ≤ (wo.alloc _).heap.size; rw [World.size_alloc]; omega) _ rfl ?_; intro gA cA WA hownA hgrA hatA hltA; have hfarA : ∀ i, i < wo.heap.size → (Value.slice AX nX cX).ownBlock ≠ some i → WA.heap[i]? = wo.heap[i]? := (fun i hi hn => (hgrA.block i (Nat.lt_of_lt_of_le hi hUA.size) (fun e => hn e.symm)).trans (hUA.block i hi)); have v3A : Lies WA (w.heap.size + 3) 42 #[.slice Aa na ca, .slice Ab nb cb, .slice AX nX cX, .slice AY nY cY] := (hfarA _ ltA (fun e => by have := (hPA _ e).1; omega)).trans HL.out; have f3A := v3A.free 2; have b3A := v3A.cell 2; have t3A := v3A.lt; have o3A := v3A.cell 3; have n1A : Lies WA (w.heap.size + 1) 26 #[.slice A4 n4 c4, .int .i64 rv] := (hfarA _ (by omega) (fun e => by have := (hPA _ e).1; omega)).trans HM1.out; have n1A0 := n1A.cell 0; have n1A1 := n1A.cell 1; have HN1A := Lib.hid n1A; clear n1A; have hgewx : wo.heap.size ≤ (WA.setCell ⟨w.heap.size + 3, 2, none⟩ (Value.slice (some ⟨gA, 0, none⟩) (p + 1) cA)).heap.size := (by rw [World.size_setCell]; exact Nat.le_trans hUA.size hgrA.size); have hwwx : ∀ i, i < wo.heap.size → (Value.slice AX nX cX).ownBlock ≠ some i → i ≠ w.heap.size + 3 → (WA.setCell ⟨w.heap.size + 3, 2, none⟩ (Value.slice (some ⟨gA, 0, none⟩) (p + 1) cA)).heap[i]? = wo.heap[i]? := (fun i h1 h2 h3 => (Below.heap_setCell _ ⟨w.heap.size + 3, 2, none⟩ _ i h3).trans (hfarA i h1 h2)); have HLwx := Lib.hid (p := Lies (WA.setCell ⟨w.heap.size + 3, 2, none⟩ (Value.slice (some ⟨gA, 0, none⟩) (p + 1) cA)) (w.heap.size + 3) 42 #[.slice Aa na ca, .slice Ab nb cb, .slice (some ⟨gA, 0, none⟩) (p + 1) cA, .slice AY nY cY]) (v3A.set 2 _); have HO1wx := Lib.hid (p := (WA.setCell ⟨w.heap.size + 3, 2, none⟩ (Value.slice (some ⟨gA, 0, none⟩) (p + 1) cA)).ownsRow (w.heap.size + 4) 3 1 (.slice (some ⟨gA, 0, none⟩) (p + 1) cA) (p + 1) ((os.map (Value.int .i64)) ++ [.int .i64 n])) (own_same hownA fun i hi _ => Below.heap_setCell _ ⟨w.heap.size + 3, 2, none⟩ _ i (by show i ≠ w.heap.size + 3; omega)); have HO2wx := Lib.hid (own_sameB (w' := (WA.setCell ⟨w.heap.size + 3, 2, none⟩ (Value.slice (some ⟨gA, 0, none⟩) (p + 1) cA))) HOY.out fun i hi => hwwx i (own_block HOY.out i hi).2 (fun e => own_apart HOX.out HOY.out (by decide) i e hi) (by have := (own_block HOY.out i hi).1; omega)); have HBwx := Lib.hid (p := Below (w.heap.size + 3) wo (WA.setCell ⟨w.heap.size + 3, 2, none⟩ (Value.slice (some ⟨gA, 0, none⟩) (p + 1) cA))) ⟨hgrA.os.trans hUA.os, hgrA.tape.trans hUA.tape, hgrA.output.trans hUA.output, hgewx, fun i hi => hwwx i (by omega) (fun e => by have := (own_block HOX.out i e).1; omega) (by omega)⟩; have hUB : Below (WA.setCell ⟨w.heap.size + 3, 2, none⟩ (Value.slice (some ⟨gA, 0, none⟩) (p + 1) cA)).heap.size (WA.setCell ⟨w.heap.size + 3, 2, none⟩ (Value.slice (some ⟨gA, 0, none⟩) (p + 1) cA)) ((WA.setCell ⟨w.heap.size + 3, 2, none⟩ (Value.slice (some ⟨gA, 0, none⟩) (p + 1) cA)).alloc (.cells #[.slice A4 n4 c4, .int .i64 rv] 26)) := (below_new (WA.setCell ⟨w.heap.size + 3, 2, none⟩ (Value.slice (some ⟨gA, 0, none⟩) (p + 1) cA)) _); have HOB := Lib.hid (own_later HO2wx.out hUB); have hPB := own_block HO2wx.out; have lcB := HLwx.out.cell 3; have ltB := HLwx.out.lt; have hwsB : w.heap.size + 4 ≤ (WA.setCell ⟨w.heap.size + 3, 2, none⟩ (Value.slice (some ⟨gA, 0, none⟩) (p + 1) cA)).heap.size := (by omega); have HGA := Lib.hid hgrA; have HFARA := Lib.hid hfarA; have HVA := Lib.hid v3A; have HOWNA := Lib.hid hownA; have HUA := Lib.hid hUA; clear hgrA hfarA v3A hownA hatA)) | (at_builtin; (refine wpList_append_lies _ rfl (.tmp 55) (.tmp 57) 40 rfl (w.heap.size + 4) 26 i1 (.agg zeroR) 2 32 Try.underlying40 ki kz0 kz1 kz2 rfl (by decide) (Value.slice AY nY cY) p _ rfl HOB.out ⟨WA.heap.size, 0, none⟩ 1 1 [.slice A4 n4 c4, .int .i64 rv] rfl rfl (World.news_of_block (Lies.new' (WA.setCell ⟨w.heap.size + 3, 2, none⟩ (Value.slice (some ⟨gA, 0, none⟩) (p + 1) cA)) 26 #[.slice A4 n4 c4, .int .i64 rv] (N := WA.heap.size) (World.size_setCell _ _ _))) (by simp [Value.oneCell']) (by decide) (by unfold maxLen; omega) (by omega) (by show w.heap.size + 4 ≤ ((WA.setCell ⟨w.heap.size + 3, 2, none⟩ (Value.slice (some ⟨gA, 0, none⟩) (p + 1) cA)).alloc _).heap.size; rw [World.size_alloc]; omega) _ rfl ?_; intro gB cB WB hownB hgrB hatB hltB; have hfarB : ∀ i, i < (WA.setCell ⟨w.heap.size + 3, 2, none⟩ (Value.slice (some ⟨gA, 0, none⟩) (p + 1) cA)).heap.size → (Value.slice AY nY cY).ownBlock ≠ some i → WB.heap[i]? = (WA.setCell ⟨w.heap.size + 3, 2, none⟩ (Value.slice (some ⟨gA, 0, none⟩) (p + 1) cA)).heap[i]? := (fun i hi hn => (hgrB.block i (Nat.lt_of_lt_of_le hi hUB.size) (fun e => hn e.symm)).trans (hUB.block i hi)); have v3B : Lies WB (w.heap.size + 3) 42 #[.slice Aa na ca, .slice Ab nb cb, .slice (some ⟨gA, 0, none⟩) (p + 1) cA, .slice AY nY cY] := (hfarB _ ltB (fun e => by have := (hPB _ e).1; omega)).trans HLwx.out; have f3B := v3B.free 3; have b3B := v3B.cell 3; have t3B := v3B.lt; have o0B := v3B.cell 0; have o1B := v3B.cell 1; have o2B := v3B.cell 2; have o3B := v3B.cell 3; have p2B : Lies WB (w.heap.size + 2) 42 #[.slice none 0 0, .slice none 0 0, .slice none 0 0, .slice none 0 0] := (hfarB _ (by omega) (fun e => by have := (hPB _ e).1; omega)).trans ((HBwx.out.block _ (by omega)).trans HM2.out); have p2B0 := p2B.cell 0; have r2B0 := p2B.free 0; have p2B1 := p2B.cell 1; have r2B1 := p2B.free 1; have p2B2 := p2B.cell 2; have r2B2 := p2B.free 2; have p2B3 := p2B.cell 3; have r2B3 := p2B.free 3; have t2B := p2B.lt; have HP2B := Lib.hid p2B; clear p2B; have HGB := Lib.hid hgrB; have HFARB := Lib.hid hfarB; have HVB := Lib.hid v3B; have HOWNB := Lib.hid hownB; have HUB := Lib.hid hUB; clear hgrB hfarB v3B hownB hatB)))
      obtain ⟨wz, hwz⟩ : ∃ wz, wz = (WB.setCell ⟨w.heap.size + 3, 3, none⟩ (.slice (some ⟨gB, 0, none⟩) (p + 1) cB)) := ⟨_, rfl⟩
      have hszwz : wz.heap.size = WB.heap.size := by rw [hwz]; exact World.size_setCell _ _ _
      have hgewz : (WA.setCell ⟨w.heap.size + 3, 2, none⟩ (Value.slice (some ⟨gA, 0, none⟩) (p + 1) cA)).heap.size ≤ wz.heap.size := by rw [hszwz]; exact Nat.le_trans HUB.out.size HGB.out.size
      have hwwz : ∀ i, i < (WA.setCell ⟨w.heap.size + 3, 2, none⟩ (Value.slice (some ⟨gA, 0, none⟩) (p + 1) cA)).heap.size → (Value.slice AY nY cY).ownBlock ≠ some i → i ≠ w.heap.size + 3 → wz.heap[i]? = (WA.setCell ⟨w.heap.size + 3, 2, none⟩ (Value.slice (some ⟨gA, 0, none⟩) (p + 1) cA)).heap[i]? := by
        intro i h1 h2 h3
        rw [hwz]
        exact (Below.heap_setCell _ ⟨w.heap.size + 3, 3, none⟩ _ i h3).trans (HFARB.out i h1 h2)
      have HLwz := Lib.hid (p := Lies wz (w.heap.size + 3) 42 #[.slice Aa na ca, .slice Ab nb cb, .slice (some ⟨gA, 0, none⟩) (p + 1) cA, .slice (some ⟨gB, 0, none⟩) (p + 1) cB]) (by rw [hwz]; exact HVB.out.set 3 _)
      have HO1wz := Lib.hid (p := wz.ownsRow (w.heap.size + 4) 26 2 (.slice (some ⟨gB, 0, none⟩) (p + 1) cB) (p + 1) (us.flatten ++ [.slice A4 n4 c4, .int .i64 rv])) (by rw [hwz]; exact own_same HOWNB.out fun i hi _ => Below.heap_setCell _ ⟨w.heap.size + 3, 3, none⟩ _ i (by show i ≠ w.heap.size + 3; omega))
      have HO2wz := Lib.hid (own_sameB HO1wx.out fun i hi => hwwz i (own_block HO1wx.out i hi).2 (fun e => own_apart HO2wx.out HO1wx.out (by decide) i e hi) (by have := (own_block HO1wx.out i hi).1; omega))
      have HBwz := Lib.hid (p := Below (w.heap.size + 3) (WA.setCell ⟨w.heap.size + 3, 2, none⟩ (Value.slice (some ⟨gA, 0, none⟩) (p + 1) cA)) wz) ⟨by rw [hwz]; exact HGB.out.os.trans HUB.out.os, by rw [hwz]; exact HGB.out.tape.trans HUB.out.tape, by rw [hwz]; exact HGB.out.output.trans HUB.out.output, hgewz, fun i hi => hwwz i (by omega) (fun e => by have := (own_block HO2wx.out i e).1; omega) (by omega)⟩
      rw [← hwz]
      clear f3B b3B hszwz hwz
      have hl2 : Lies wz (w.heap.size + 2) 42 #[.slice none 0 0, .slice none 0 0, .slice none 0 0, .slice none 0 0] := (HBwz.out.block _ (by omega)).trans ((HBwx.out.block _ (by omega)).trans HM2.out)
      have HR2 := Lib.hid hl2
      have hBz := HBB.out.trans (HBwx.out.trans HBwz.out)
      have HBz := Lib.hid (HB.out.trans (hBz.mono (Nat.le_add_right _ _)))
      clear hl2 hBz
      refine bodyPost_ret (v := .agg #[.slice Aa na ca, .slice Ab nb cb, .slice (some ⟨gA, 0, none⟩) (p + 1) cA, .slice (some ⟨gB, 0, none⟩) (p + 1) cB]) (results_cell_row rfl _ _ (w.heap.size + 2) 42 _ (0, 0) _ rfl ((((HR2.out.set 0 _).set 1 _).set 2 _).set 3 _) Try.underlying42 rfl (by kernel_rfl)) rfl ?_
      obtain ⟨wf, hwf⟩ : ∃ wf, wf = ((((wz.setCell ⟨w.heap.size + 2, 0, none⟩ (.slice Aa na ca)).setCell ⟨w.heap.size + 2, 1, none⟩ (.slice Ab nb cb)).setCell ⟨w.heap.size + 2, 2, none⟩ (.slice (some ⟨gA, 0, none⟩) (p + 1) cA)).setCell ⟨w.heap.size + 2, 3, none⟩ (.slice (some ⟨gB, 0, none⟩) (p + 1) cB)) := ⟨_, rfl⟩
      rw [← hwf]
      have hfin : ∀ i, i ≠ w.heap.size + 2 → wf.heap[i]? = wz.heap[i]? := by
        intro i h
        rw [hwf]
        exact (Below.heap_setCell _ ⟨w.heap.size + 2, 3, none⟩ _ i h).trans ((Below.heap_setCell _ ⟨w.heap.size + 2, 2, none⟩ _ i h).trans ((Below.heap_setCell _ ⟨w.heap.size + 2, 1, none⟩ _ i h).trans (Below.heap_setCell _ ⟨w.heap.size + 2, 0, none⟩ _ i h)))
      have hbf : Below w.heap.size w wf := by
        rw [hwf]
        exact HBz.out.trans (((((Below.refl w.heap.size wz).setCell (p := ⟨w.heap.size + 2, 0, none⟩) (Nat.le_add_right _ _) _).setCell (p := ⟨w.heap.size + 2, 1, none⟩) (Nat.le_add_right _ _) _).setCell (p := ⟨w.heap.size + 2, 2, none⟩) (Nat.le_add_right _ _) _).setCell (p := ⟨w.heap.size + 2, 3, none⟩) (Nat.le_add_right _ _) _)
      have hfs : wz.heap.size ≤ wf.heap.size := by
        rw [hwf, World.size_setCell, World.size_setCell, World.size_setCell, World.size_setCell]
        exact Nat.le_refl _
      clear hwf
      refine ⟨_, rfl, ?_, hbf⟩
      intro wy hky
      have hkk : ∀ g, live (blank BX w) g → wy.heap[g]? = (blank BX w).heap[g]? := blank_to (X := BX) (Y := fun b => BX b) ⟨Nat.le_trans hbf.size hky.1, fun b hb hn => (hky.2 b (Nat.lt_of_lt_of_le hb hbf.size) (fun e => hn e.1)).trans (hbf.block b hb)⟩ (fun _ _ h => h)
      have hfw : ∀ i, w.heap.size ≤ i → i ≠ w.heap.size + 2 → i < wz.heap.size → wy.heap[i]? = wz.heap[i]? := fun i h1 h2 h3 => (hky.2 i (by omega) (fun e => by have := e.2; omega)).trans (hfin i h2)
      refine ⟨_, _, _, _, ms, os ++ [n], rs, us ++ [[.slice A4 n4 c4, .int .i64 rv]], rfl, HT0.out.keepL hkk, HT1.out.keepL (fun r h => by rw [h.len]; omega) hkk, ?_, ?_, HL2.out, ?_, ?_, ?_⟩
      · exact own_row_src (n := p + 1) (e := 3) (B := w.heap.size + 4) (by rw [List.map_append]; exact own_same HO2wz.out fun i hi hlt => hfw i (by omega) (by omega) hlt)
      · exact own_rowsR (n := p + 1) (B := w.heap.size + 4) (e := 26) (by rw [List.flatten_append]; simpa using own_same HO1wz.out fun i hi hlt => hfw i (by omega) (by omega) hlt) (by rw [List.length_append, HUL.out]; rfl) (fun r hr => by rcases List.mem_append.1 hr with h | h; exact HUR.out r h; rw [List.mem_singleton.1 h]; exact ⟨_, _, _, _, rfl⟩) (fun r h => h.len)
      · rw [List.length_append, List.length_append]
        have := HUL.out
        have h1 := (own_block_len HOX.out)
        simp at h1 ⊢
        omega
      · exact Nat.le_succ_of_le HM.out
      · have h1 := (own_block_len HOX.out)
        simp at h1 ⊢
        omega
end Go.Proofs.Ytgheaaljnmkclaa
