/- Package scheme: copied is the type with lists of its own. -/
import Derived.Test.YthdfomcpoofkaaaMg12
import Derived.Test.YthdfomcpoofkaaaMg15
import Derived.Test.YthdfomcpoofkaaaMg16
import Derived.OwnWalk
import Derived.Outline
import Derived.Deep.QuietTactic
import Derived.BigQuiet
namespace Go.Proofs.Ythdfomcpoofkaaa
open Go.RowKit

set_option maxRecDepth 100000 in
set_option maxHeartbeats 8000000 in
theorem scopied_anyJ (w : World) (t : Ty) (l : List Value) (ht : TRV w t l) (hp : t.size ≤ 1000) :
    Calls Try.prog 45 #[.agg l.toArray] w fun e w' => ∃ l', e = .returned (.agg l'.toArray) ∧ (∀ w'', Kept (fun b => b < w.heap.size + 2) w' w'' → TFV w'' t l' ∧ Tree1 (w.heap.size + 2) l' w'') ∧ Below w.heap.size w w' := by
  have ht0 := ht
  obtain ⟨k, nm, v, kids, ls, rv⟩ := t
  obtain ⟨A3, n3, c3, A4, n4, c4, rfl⟩ := ht.shape
  have hap := fun w7 (hb : Below w.heap.size w w7) => apply_anyJ w7 noneV 0 T0 R0 (SubV.none w7 0) (by omega) (.mk k nm v kids ls rv) _ (ht0.later hb) (rowsFree0 T0 _) (by rw [pcsT0]; exact hp)
  rw [apT0] at hap
  unfold tyC noneV at hap
  unfold tyC at ht0 ⊢
  obtain ⟨W, hW⟩ : ∃ W, W = (w.alloc (.cells #[.int .i64 k, .string (ba nm), .int .i64 v, .slice A3 n3 c3, .slice A4 n4 c4, .int .i64 rv] 28)).alloc (.cells zeroT 28) := ⟨_, rfl⟩
  have hb : Below w.heap.size w W := by rw [hW]; exact ((Below.refl _ w).alloc (Nat.le_refl _) _).alloc (by simp) _
  have k1 : Lies W w.heap.size 28 #[.int .i64 k, .string (ba nm), .int .i64 v, .slice A3 n3 c3, .slice A4 n4 c4, .int .i64 rv] := by rw [hW]; exact (Lies.new _ _ _).alloc _
  have k2 : Lies W (w.heap.size + 1) 28 zeroT := by rw [hW]; exact Lies.new' _ _ _ (by simp)
  have hS : (W.cell? ⟨w.heap.size, 0, none⟩ = some (.int .i64 k) ∧ W.cell? ⟨w.heap.size, 1, none⟩ = some (.string (ba nm)) ∧ W.cell? ⟨w.heap.size, 2, none⟩ = some (.int .i64 v) ∧ W.cell? ⟨w.heap.size, 3, none⟩ = some (.slice A3 n3 c3) ∧ W.cell? ⟨w.heap.size, 4, none⟩ = some (.slice A4 n4 c4) ∧ W.cell? ⟨w.heap.size, 5, none⟩ = some (.int .i64 rv)) ∧ Below w.heap.size w W := ⟨⟨k1.cell 0, k1.cell 1, k1.cell 2, k1.cell 3, k1.cell 4, k1.cell 5⟩, hb⟩
  have hk : ∀ V V' : World, ((V.cell? ⟨w.heap.size, 0, none⟩ = some (.int .i64 k) ∧ V.cell? ⟨w.heap.size, 1, none⟩ = some (.string (ba nm)) ∧ V.cell? ⟨w.heap.size, 2, none⟩ = some (.int .i64 v) ∧ V.cell? ⟨w.heap.size, 3, none⟩ = some (.slice A3 n3 c3) ∧ V.cell? ⟨w.heap.size, 4, none⟩ = some (.slice A4 n4 c4) ∧ V.cell? ⟨w.heap.size, 5, none⟩ = some (.int .i64 rv)) ∧ Below w.heap.size w V) → V'.heap[w.heap.size]? = V.heap[w.heap.size]? → Below w.heap.size V V' → (V'.cell? ⟨w.heap.size, 0, none⟩ = some (.int .i64 k) ∧ V'.cell? ⟨w.heap.size, 1, none⟩ = some (.string (ba nm)) ∧ V'.cell? ⟨w.heap.size, 2, none⟩ = some (.int .i64 v) ∧ V'.cell? ⟨w.heap.size, 3, none⟩ = some (.slice A3 n3 c3) ∧ V'.cell? ⟨w.heap.size, 4, none⟩ = some (.slice A4 n4 c4) ∧ V'.cell? ⟨w.heap.size, 5, none⟩ = some (.int .i64 rv)) ∧ Below w.heap.size w V' := fun V V' h hb hb2 => by
    obtain ⟨⟨h0, h1, h2, h3, h4, h5⟩, h6⟩ := h
    have e : ∀ j, V'.cell? ⟨w.heap.size, j, none⟩ = V.cell? ⟨w.heap.size, j, none⟩ := fun j => World.cell?_of_block (w := V) (a := ⟨w.heap.size, j, none⟩) hb
    exact ⟨⟨(e 0).trans h0, (e 1).trans h1, (e 2).trans h2, (e 3).trans h3, (e 4).trans h4, (e 5).trans h5⟩, h6.trans hb2⟩
  have hdr : W.drew.heap[w.heap.size]? = W.heap[w.heap.size]? := rfl
  have hlt := k1.lt
  have hlt2 := k2.lt
  have HAP := Lib.hid hap
  have HW := Lib.hid hW
  have HB := Lib.hid hb
  have HK2 := Lib.hid k2
  have HK := Lib.hid hk
  clear hap hW hb k1 k2 ht0 ht hk
  unfold zeroT at HW HK2
  go_enter Try.func45, Try.ntmps45
  go_wp2_with fail
  rw [← HW.out]
  go_region_held3 (fun VV => (VV.cell? ⟨w.heap.size, 0, none⟩ = some (.int .i64 k) ∧ VV.cell? ⟨w.heap.size, 1, none⟩ = some (.string (ba nm)) ∧ VV.cell? ⟨w.heap.size, 2, none⟩ = some (.int .i64 v) ∧ VV.cell? ⟨w.heap.size, 3, none⟩ = some (.slice A3 n3 c3) ∧ VV.cell? ⟨w.heap.size, 4, none⟩ = some (.slice A4 n4 c4) ∧ VV.cell? ⟨w.heap.size, 5, none⟩ = some (.int .i64 rv)) ∧ Below w.heap.size w VV)
    (first | with_reducible exact HK.out _ _ hS hdr (Below.refl _ _).drew | with_reducible exact HK.out _ _ hS (hb7.block _ hlt) (hb7.mono HB.out.size) | with_reducible exact HK.out _ _ hS (hb8.block _ hlt) (hb8.mono HB.out.size) | with_reducible exact HK.out _ _ hS (hq0.trans (hb8.block _ hlt)) ((hb8.mono HB.out.size).trans hq1))
    (first | (go_at_call 25; refine (none_any _).mono ?_; rintro e w7 ⟨rfl, hb7a⟩; have hb7 : Below W.heap.size W w7 := (Below.refl _ _).drew.trans hb7a; unfold noneV) | (go_at_call 19; refine (HAP.out w7 (HB.out.trans (hb7.mono HB.out.size))).mono ?_; rintro e w8 ⟨l', rfl, htf, hb8a⟩; have hb8 : Below W.heap.size W w8 := hb7.trans (hb8a.mono hb7.size); have HS7 := Lib.hid hb7.size; have HTF := Lib.hid htf; obtain ⟨A5, n5, c5, A6, n6, c6, rfl⟩ := (htf w8 ⟨Nat.le_refl _, fun _ _ _ => rfl⟩).1.trv.shape; clear htf; unfold tyC; have m2 := HK2.out.later hb8; have mc0 := m2.cell 0; have mc1 := m2.cell 1; have mc2 := m2.cell 2; have mc3 := m2.cell 3; have mc4 := m2.cell 4; have mc5 := m2.cell 5; have mf0 := m2.free 0; have mf1 := m2.free 1; have mf2 := m2.free 2; have mf3 := m2.free 3; have mf4 := m2.free 4; have mf5 := m2.free 5; have ml := m2.lt; have hqa : Below (w.heap.size + 1) w8 ((((((w8.setCell ⟨w.heap.size + 1, 0, none⟩ (.int .i64 k)).setCell ⟨w.heap.size + 1, 1, none⟩ (.string (ba nm))).setCell ⟨w.heap.size + 1, 2, none⟩ (.int .i64 v)).setCell ⟨w.heap.size + 1, 3, none⟩ (.slice A5 n5 c5)).setCell ⟨w.heap.size + 1, 4, none⟩ (.slice A6 n6 c6)).setCell ⟨w.heap.size + 1, 5, none⟩ (.int .i64 rv)) := (((((((Below.refl (w.heap.size + 1) w8).setCell (p := ⟨w.heap.size + 1, 0, none⟩) (Nat.le_refl _) _).setCell (p := ⟨w.heap.size + 1, 1, none⟩) (Nat.le_refl _) _).setCell (p := ⟨w.heap.size + 1, 2, none⟩) (Nat.le_refl _) _).setCell (p := ⟨w.heap.size + 1, 3, none⟩) (Nat.le_refl _) _).setCell (p := ⟨w.heap.size + 1, 4, none⟩) (Nat.le_refl _) _).setCell (p := ⟨w.heap.size + 1, 5, none⟩) (Nat.le_refl _) _); have hq1 : Below w.heap.size w8 ((((((w8.setCell ⟨w.heap.size + 1, 0, none⟩ (.int .i64 k)).setCell ⟨w.heap.size + 1, 1, none⟩ (.string (ba nm))).setCell ⟨w.heap.size + 1, 2, none⟩ (.int .i64 v)).setCell ⟨w.heap.size + 1, 3, none⟩ (.slice A5 n5 c5)).setCell ⟨w.heap.size + 1, 4, none⟩ (.slice A6 n6 c6)).setCell ⟨w.heap.size + 1, 5, none⟩ (.int .i64 rv)) := hqa.mono (Nat.le_succ _); have hq0 : ((((((w8.setCell ⟨w.heap.size + 1, 0, none⟩ (.int .i64 k)).setCell ⟨w.heap.size + 1, 1, none⟩ (.string (ba nm))).setCell ⟨w.heap.size + 1, 2, none⟩ (.int .i64 v)).setCell ⟨w.heap.size + 1, 3, none⟩ (.slice A5 n5 c5)).setCell ⟨w.heap.size + 1, 4, none⟩ (.slice A6 n6 c6)).setCell ⟨w.heap.size + 1, 5, none⟩ (.int .i64 rv)).heap[w.heap.size]? = w8.heap[w.heap.size]? := hqa.block _ (Nat.lt_succ_self _); have hqo : ∀ g, g ≠ w.heap.size + 1 → ((((((w8.setCell ⟨w.heap.size + 1, 0, none⟩ (.int .i64 k)).setCell ⟨w.heap.size + 1, 1, none⟩ (.string (ba nm))).setCell ⟨w.heap.size + 1, 2, none⟩ (.int .i64 v)).setCell ⟨w.heap.size + 1, 3, none⟩ (.slice A5 n5 c5)).setCell ⟨w.heap.size + 1, 4, none⟩ (.slice A6 n6 c6)).setCell ⟨w.heap.size + 1, 5, none⟩ (.int .i64 rv)).heap[g]? = w8.heap[g]? := (fun g hg => ((Below.heap_setCell _ ⟨w.heap.size + 1, 5, none⟩ _ g hg).trans ((Below.heap_setCell _ ⟨w.heap.size + 1, 4, none⟩ _ g hg).trans ((Below.heap_setCell _ ⟨w.heap.size + 1, 3, none⟩ _ g hg).trans ((Below.heap_setCell _ ⟨w.heap.size + 1, 2, none⟩ _ g hg).trans ((Below.heap_setCell _ ⟨w.heap.size + 1, 1, none⟩ _ g hg).trans (Below.heap_setCell _ ⟨w.heap.size + 1, 0, none⟩ _ g hg))))))); have HM2 := Lib.hid m2; have HQO := Lib.hid hqo; have HQA := Lib.hid hqa; clear m2 hqo hqa))
  have n6' := (((((HM2.out.set 0 (.int .i64 k)).set 1 (.string (ba nm))).set 2 (.int .i64 v)).set 3 (.slice A5 n5 c5)).set 4 (.slice A6 n6 c6)).set 5 (.int .i64 rv)
  go_wp2_with fail
  refine bodyPost_ret (v := .agg #[.int .i64 k, .string (ba nm), .int .i64 v, .slice A5 n5 c5, .slice A6 n6 c6, .int .i64 rv]) (results_cell_row rfl _ _ (w.heap.size + 1) 28 _ (0, 0) _ rfl n6' Try.underlying28 rfl size_T) rfl ?_
  refine ⟨[.int .i64 k, .string (ba nm), .int .i64 v, .slice A5 n5 c5, .slice A6 n6 c6, .int .i64 rv], rfl, ?_, ((HB.out.trans (hb8.mono HB.out.size)).trans (HQA.out.mono (Nat.le_succ _)))⟩
  intro w'' hkk
  refine And.imp id (fun h => Tree1.mono h ?_) (HTF.out _ ⟨Nat.le_trans HQA.out.size hkk.1, fun b hlt' hn => (hkk.2 b (Nat.lt_of_lt_of_le hlt' HQA.out.size) fun e => hn ?_).trans (HQO.out b fun e => hn ?_)⟩)
  · have := HS7.out; omega
  · have := HS7.out; show b < w7.heap.size + 3; have e' : b < w.heap.size + 2 := e; omega
  · have := HS7.out; show b < w7.heap.size + 3; omega
theorem scopied_any (w : World) (t : Ty) (l : List Value) (ht : TRV w t l) (hp : t.size ≤ 1000) :
    Calls Try.prog 45 #[.agg l.toArray] w fun e w' => ∃ l', e = .returned (.agg l'.toArray) ∧ (∀ w'', Kept (fun b => b < w.heap.size + 2) w' w'' → TFV w'' t l') ∧ Below w.heap.size w w' :=
  (scopied_anyJ w t l ht hp).mono fun e w' ⟨l', h1, h2, h3⟩ => ⟨l', h1, fun w'' hk => (h2 w'' hk).1, h3⟩
end Go.Proofs.Ythdfomcpoofkaaa

/- Package scheme: a list with each number once. -/
namespace Go.Proofs.Ythdfomcpoofkaaa
open Go.RowKit

set_option maxRecDepth 100000 in
set_option maxHeartbeats 4000000 in
theorem once_any (w : World) (R : List Int) (v : Value) (hr : IntR w v R) (hm : R.length ≤ 10000000) :
    Calls Try.prog 49 #[v] w fun e w' => ∃ v', e = .returned v' ∧ OwnI w' w.heap.size v' (onceL R) ∧ Below w.heap.size w w' := by
  obtain ⟨A, cA, rfl, hcA, hmA, h4⟩ := hr
  obtain ⟨i0, hi, hz0, hz1, hz2⟩ := info_parts info_intS
  obtain ⟨NA, hNA⟩ : ∃ N, N = R.length := ⟨_, rfl⟩
  have HNA := Lib.hid hNA
  have HV := Lib.hid h4
  rw [← hNA] at hcA hm ⊢
  clear hNA h4
  have hmm := @run_makeMap Try.prog
  go_enter Try.func49, Try.ntmps49
  go_wp2_with fail
  go_loopw [10, 4] (fun i ov wr => ∃ (k : Nat) (A9 : Option Addr) (n9 c9 : Nat), k ≤ NA ∧ i = .int .i64 k ∧ ov = .slice A9 n9 c9 ∧ OwnI wr (w.heap.size + 1) (.slice A9 n9 c9) (onceL (R.take k)) ∧ MapI wr 0 w.heap.size k (inG (onceL (R.take k))) ∧ Below w.heap.size w wr) (fun i _ _ => NA - (intOf i).toNat)
  case atStart => exact ⟨0, none, 0, 0, Nat.zero_le _, rfl, rfl, World.ownsRow_nil _ _ _ _, by rw [List.take_zero, show onceL [] = [] from rfl, inG_nil]; exact MapI.made w 0, below_new w _⟩
  case round =>
    obtain ⟨k, A9, n9, c9, hk, rfl, rfl, hO, hM, hB⟩ := hrel
    have HB := Lib.hid hB
    have HO := Lib.hid hO
    have HM := Lib.hid hM
    by_cases hlt : k < NA
    · obtain ⟨x, hx⟩ : ∃ x, R[k]? = some x := ⟨_, List.getElem?_eq_getElem (by have := HNA.out; omega)⟩
      obtain ⟨hok, g, o, rfl, h6⟩ := HV.out k x hx
      have z6 := (hB.cell (p := ⟨g, o + k, none⟩) (World.block_lt_of_cell? w _ h6)).trans h6
      have hst := onceL_step R k x hx
      have hln := onceL_len (R.take k)
      have hln2 : (R.take k).length ≤ k := by rw [List.length_take]; omega
      have HLN := Lib.hid (show (onceL (R.take k)).length ≤ 100000000 by omega)
      have HST := Lib.hid hst
      have hlti : (k : Int) < (NA : Int) := by omega
      have hkc : k < cA := by omega
      have hc := has_any wr w.heap.size k _ x hM hok
      have HC := Lib.hid hc
      have HOK := Lib.hid hok
      clear h6 hx hB hO hM hst hln hln2 hok hc
      go_wp2_with fail
      refine HC.out.mono ?_
      rintro e w1 ⟨rfl, hb1⟩
      have HB1 := Lib.hid (HB.out.trans (hb1.mono HB.out.size))
      have HO1 := Lib.hid (own_later HO.out hb1)
      have HM1 := Lib.hid (HM.out.later hb1)
      have hs1 : w.heap.size < w1.heap.size := HM1.out.lt
      clear hb1
      by_cases hin : x ∈ onceL (R.take k)
      · have hd : decide (x ∈ onceL (R.take k)) = true := by simp [hin]
        have HS2 := Lib.hid (show onceL (R.take (k + 1)) = onceL (R.take k) by rw [HST.out, if_pos hin])
        rw [hd]
        clear hd
        go_wp2_with fail
        go_roundw
        case rel => exact ⟨k + 1, _, _, _, by omega, by simp, rfl, by rw [HS2.out]; exact HO1.out, by rw [HS2.out]; exact HM1.out.mono (by omega), HB1.out⟩
        case measure => simp [intOf]; omega
      · have hd : decide (x ∈ onceL (R.take k)) = false := by simp [hin]
        have HS2 := Lib.hid (show onceL (R.take (k + 1)) = onceL (R.take k) ++ [x] by rw [HST.out, if_neg hin])
        have hbn := below_new w1 (.cells #[.int .i64 x] 3)
        have HBN := Lib.hid hbn
        have hr1 : IntR (w1.alloc (.cells #[.int .i64 x] 3)) (.slice (some ⟨w1.heap.size, 0, none⟩) 1 1) [x] :=
          ⟨_, 1, rfl, Nat.le_refl _, by unfold maxLen; omega, fun i n hi => by
            rcases i with _ | i
            · injection hi with hi
              subst hi
              exact ⟨HOK.out, _, 0, rfl, new_cells w1 3 [.int .i64 x] rfl 0 _ rfl⟩
            · cases hi⟩
        have hc2 := setAdd_any (w1.alloc (.cells #[.int .i64 x] 3)) w.heap.size k _ [x] _ (HM1.out.later hbn) hr1 (by simp; omega)
        have HC2 := Lib.hid hc2
        rw [hd]
        clear hd hbn hr1 hc2
        go_wp2_with fail
        refine HC2.out.mono ?_
        rintro e w2 ⟨rfl, hM2, hB2⟩
        have hs2 : w1.heap.size + 1 ≤ w2.heap.size := by have := hB2.size; simpa using this
        have HB2 := Lib.hid (HB1.out.trans ((HBN.out.mono (Nat.le_of_lt hs1)).trans (hB2.below (B := w.heap.size) (Nat.le_refl _) (by simp; omega))))
        have HO2 := Lib.hid (own_same (own_later HO1.out HBN.out) (w' := w2) fun g hg hlt => hB2.block g hlt (by omega))
        have HM2 := Lib.hid hM2
        clear hM2 hB2
        have hone : ∀ u ∈ [Value.int .i64 x], u.oneCell' = true := by simp [Value.oneCell']
        have HBN2 := Lib.hid (below_new w2 (.cells #[.int .i64 x] 3))
        go_wp2_with (first | (at_builtin; go_loud (refine wpList_append_own_at _ rfl (.tmp 22) (.tmp 24) 39 rfl (w.heap.size + 1) 3 i0 (.int .i64 0) 1 8 Try.underlying39 hi hz0 hz1 hz2 rfl (by decide) _ (onceL (R.take k)).length ((onceL (R.take k)).map fun i => .int .i64 i) rfl (own_later HO2.out HBN2.out) ⟨w2.heap.size, 0, none⟩ 1 1 [.int .i64 x] rfl rfl (new_cells w2 _ _ rfl) hone (by have := HLN.out; unfold maxLen; omega) (by have := HLN.out; omega) (by simp; omega) ?_)))
        intro v' w3 hown hgr hnil hat
        obtain ⟨A8, n8, c8, rfl⟩ := own_slice hown
        have hrow : ∀ k, Value.ownBlock (.slice A9 n9 c9) = some k → w.heap.size + 1 ≤ k := fun k hk => (own_block HO2.out k hk).1
        have HB3 := Lib.hid (Below.grown (HB2.out.trans (HBN2.out.mono (by omega))) hgr (by simp; omega) (fun j hj => by have := hrow j hj; omega))
        have HM3 := Lib.hid ((HM2.out.later HBN2.out).keep (w' := w3) (hgr.block _ (by simp; omega) (fun e => by have := hrow _ e.symm; omega)))
        have HO3 := Lib.hid hown
        clear hown hgr hnil hat hrow
        go_wp2_with fail
        go_roundw
        case rel => exact ⟨k + 1, _, _, _, by omega, by simp, rfl, by rw [HS2.out]; unfold OwnI; rw [List.length_append, List.map_append]; exact HO3.out, by rw [HS2.out]; exact HM3.out, HB3.out⟩
        case measure => simp [intOf]; omega
    · obtain rfl : k = NA := by omega
      rw [HNA.out, List.take_length] at hO
      clear HO HM
      have HO := Lib.hid hO
      clear hO hB hM
      go_wp2_with fail
      go_ret
      exact ⟨_, rfl, own_mono HO.out (by omega), HB.out⟩
end Go.Proofs.Ythdfomcpoofkaaa

/- Vars of a type that came in: some of those that stand there, each once. -/
namespace Go.Proofs.Ythdfomcpoofkaaa
open Go.RowKit

theorem below_drewS (w : World) (n : Nat) : Below w.heap.size w (w.drewN n) := ⟨rfl, rfl, rfl, Nat.le_refl _, fun _ _ => rfl⟩
theorem AtC.later {w w' : World} {a : Addr} (h : AtC w w.heap.size a) (hb : Below w.heap.size w w') : AtC w' w'.heap.size a := by
  have h1 := h.keep (hb.block _ h.2.2)
  exact ⟨h1.1, h1.2.1, Nat.lt_of_lt_of_le h.2.2 hb.size⟩
theorem TW.later {w w' : World} {a : Addr} {t : Ty} (h : TW w a t) (hb : Below w.heap.size w w') : TW w' a t := by
  induction h with
  | mk a k nm v kids ls rv kv lv h0 hat hr hk hi _ ih => exact .mk a k nm v kids ls rv kv lv h0 (hat.later hb) (hr.keep (hb.block _ hat.2.2)) hk hi ih
/-- A type that came in, its cells. -/
def TWV (w : World) (t : Ty) (l : List Value) : Prop :=
  match t with
  | .mk k nm v kids _ rv => ∃ kv A n c, l = tyC k nm v kv (.slice A n c) rv ∧ SlR kv kids.length ∧ oks k v rv ∧ ∀ (i : Nat) t, kids[i]? = some t → TW w (kidAt kv i) t
theorem TWV.later {w w' : World} {t : Ty} {l : List Value} (h : TWV w t l) (hb : Below w.heap.size w w') : TWV w' t l := by
  obtain ⟨k, nm, v, kids, ls, rv⟩ := t
  obtain ⟨kv, A, n, c, h1, h2, h3, h4⟩ := h
  exact ⟨kv, A, n, c, h1, h2, h3, fun i t ht => (h4 i t ht).later hb⟩
theorem TWV.new {w : World} {t : Ty} {l : List Value} (h : TWV w t l) (e : TypeId) : TW (w.alloc (.cells l.toArray e)) ⟨w.heap.size, 0, none⟩ t := by
  obtain ⟨k, nm, v, kids, ls, rv⟩ := t
  obtain ⟨kv, A, n, c, rfl, hk, hi, hks⟩ := h
  have hb := below_new w (.cells (tyC k nm v kv (.slice A n c) rv).toArray e)
  have hl := Lies.new w e (tyC k nm v kv (.slice A n c) rv).toArray
  refine .mk _ k nm v kids ls rv kv (.slice A n c) rfl ⟨⟨_, _, _, hl⟩, hl.free 0, by simp⟩ (fun i u hu => ?_) hk hi fun i t ht => (hks i t ht).later hb
  have := hl.cell i
  rw [Nat.zero_add]
  rw [this]
  simpa using hu

set_option maxRecDepth 100000 in
set_option maxHeartbeats 4000000 in
theorem varsW_any (l : List Value) (t : Ty) (w : World) (ht : TWV w t l) (hs : t.size ≤ 40000000) :
    Calls Try.prog 47 #[.agg l.toArray] w fun e w' => ∃ v1 v2 K R, e = .returned (.tuple #[v1, v2]) ∧ OwnI w' w.heap.size v1 K ∧ OwnI w' w.heap.size v2 R ∧
      Ext1 (inK t) (2 * t.size) [] K ∧ Ext1 (inR t) (2 * t.size) [] R ∧ Below w.heap.size w w' := by
  have hta := ht.new 28
  obtain ⟨k, nm, v, kids, ls, rv⟩ := t
  obtain ⟨kv, A, n, c, rfl, hk, _, _⟩ := ht
  obtain ⟨A3, c3, rfl, _, _⟩ := hk.form
  generalize hT : Ty.mk k nm v kids ls rv = T at *
  obtain ⟨n3, hn3⟩ : ∃ n3, n3 = kids.length := ⟨_, rfl⟩
  rw [← hn3] at hta ⊢
  obtain ⟨w0, hw0⟩ : ∃ w0, w0 = w.alloc (.cells (tyC k nm v (.slice A3 n3 c3) (.slice A n c) rv).toArray 28) := ⟨_, rfl⟩
  have hb0 : Below w.heap.size w w0 := by rw [hw0]; exact below_new w _
  have hs0 : w0.heap.size = w.heap.size + 1 := by rw [hw0]; simp
  rw [← hw0] at hta
  unfold tyC at *
  have HW := Lib.hid hw0
  have HT := Lib.hid hta
  have HS0 := Lib.hid hs0
  have hmm := @run_makeMap Try.prog
  clear hw0 hT hta hs0 hk hn3
  go_enter Try.func47, Try.ntmps47
  go_wp2_with fail
  rw [← HW.out]
  obtain ⟨m1, hm1⟩ : ∃ m1, m1 = w0.alloc (.map #[] 0) := ⟨_, rfl⟩
  rw [← hm1]
  obtain ⟨m2, hm2⟩ : ∃ m2, m2 = m1.alloc (.map #[] 0) := ⟨_, rfl⟩
  rw [← hm2]
  obtain ⟨m3, hm3⟩ : ∃ m3, m3 = m2.alloc (.map #[] 0) := ⟨_, rfl⟩
  rw [← hm3]
  have z0 := HS0.out
  have z1 : m1.heap.size = w.heap.size + 2 := by rw [hm1, World.size_alloc, z0]
  have z2 : m2.heap.size = w.heap.size + 3 := by rw [hm2, World.size_alloc, z1]
  have z3 : m3.heap.size = w.heap.size + 4 := by rw [hm3, World.size_alloc, z2]
  have hG : GW w0 (w.heap.size + 1) (w.heap.size + 2) (w.heap.size + 3) (w.heap.size + 4) (w.heap.size + 5) [] [] (m3.alloc (.cells (gD (w.heap.size + 1) (w.heap.size + 2) (.slice none 0 0) (w.heap.size + 3) (.slice none 0 0)) 123)) := by
    have s1 := Bag.made (N := w0.heap.size) w0 (.agg #[])
    rw [← hm1, z0] at s1
    have i2 := IMap.made m1
    rw [← hm2, z1] at i2
    have i3 := IMap.made m2
    rw [← hm3, z2] at i3
    have b1 : Below w0.heap.size w0 m1 := by rw [hm1]; exact below_new _ _
    have b2 : Below m1.heap.size m1 m2 := by rw [hm2]; exact below_new _ _
    have b3 : Below m2.heap.size m2 m3 := by rw [hm3]; exact below_new _ _
    have b4 := below_new m3 (.cells (gD (w.heap.size + 1) (w.heap.size + 2) (.slice none 0 0) (w.heap.size + 3) (.slice none 0 0)) 123)
    refine ⟨⟨none, 0, 0, none, 0, 0, Lies.new' m3 _ _ z3, World.ownsRow_nil _ _ _ _, World.ownsRow_nil _ _ _ _, fun q h => by simp [Value.ownBlock] at h⟩, ⟨0, ?_⟩, (i2.keep (b3.block _ i2.lt)).keep (b4.block _ (by omega)), i3.keep (b4.block _ i3.lt), ?_, by simp [z3]⟩
    · rw [z0]
      exact ((s1.keep b2.block).keep b3.block).keep b4.block
    · exact ((b1.trans (b2.mono b1.size)).trans (b3.mono (by omega))).trans (b4.mono (by omega))
  have hgb : GB w0 (w.heap.size + 1) (w.heap.size + 2) (w.heap.size + 3) (w.heap.size + 4) (w.heap.size + 5) := ⟨by omega, by omega, by omega, by omega, by omega⟩
  have hcall := gatherW_any w0 _ _ _ _ _ hgb T.size _ T HT.out (Nat.le_refl _) _ [] [] hG (by simp; omega) (by simp; omega)
  refine hcall.mono ?_
  rintro e W1 ⟨rfl, K, R, hG1, hE, hF⟩
  obtain ⟨⟨A5, k5, c5, A6, k6, c6, hl5, hown5, hown6, _⟩, _, _, _, hB1, _⟩ := hG1
  have d2 : W1.cell? ⟨w.heap.size + 1 + 1 + 1 + 1, 2, none⟩ = some (.slice A5 k5 c5) := hl5.cell 2
  have d4 : W1.cell? ⟨w.heap.size + 1 + 1 + 1 + 1, 4, none⟩ = some (.slice A6 k6 c6) := hl5.cell 4
  have HB1 := Lib.hid (hb0.trans (hB1.mono hb0.size))
  have HO5 := Lib.hid hown5
  have HO6 := Lib.hid hown6
  have HE := Lib.hid hE
  have HF := Lib.hid hF
  clear hcall hG hl5 hown5 hown6 hm1 hm2 hm3 hE hF hB1 hgb
  go_wp2
  go_quiet (fail)
  go_wp2
  go_ret2
  exact ⟨_, _, K, R, rfl, own_mono (own_later HO5.out (below_drewS _ _)) (by omega), own_mono (own_later HO6.out (below_drewS _ _)) (by omega), HE.out, HF.out, HB1.out.trans ((below_drewS _ _).mono HB1.out.size)⟩
end Go.Proofs.Ythdfomcpoofkaaa

/- What is read at a place is one type; Vars of the call's own types: what is there is found. -/
namespace Go.Proofs.Ythdfomcpoofkaaa
open Go.RowKit

theorem StrR.one_list {w : World} {v : Value} {ls ms : List Str} (h : StrR w v ls) (k : StrR w v ms) : ls = ms := by
  obtain ⟨A, c, rfl, _, h2⟩ := h.form
  obtain ⟨B, d, e, _, k2⟩ := k.form
  injection e with e1 e2 e3
  subst e1
  refine List.ext_getElem? fun j => ?_
  by_cases hj : j < ls.length
  · obtain ⟨x, hx⟩ : ∃ x, ls[j]? = some x := ⟨_, List.getElem?_eq_getElem hj⟩
    obtain ⟨y, hy⟩ : ∃ y, ms[j]? = some y := ⟨_, List.getElem?_eq_getElem (by omega)⟩
    obtain ⟨g, o, e4, h4⟩ := h2 j x hx
    obtain ⟨g', o', e5, h5⟩ := k2 j y hy
    rw [e4] at e5
    injection e5 with e5
    injection e5 with e5 e6
    subst e5 e6
    rw [h4] at h5
    injection h5 with h5
    injection h5 with h5
    rw [hx, hy, (ba_eq x y).mp h5]
  · rw [List.getElem?_eq_none (by omega), List.getElem?_eq_none (by omega)]
theorem TF.one_type {w : World} {a : Addr} {t : Ty} (h : TF w a t) : ∀ u, TF w a u → t = u := by
  induction h with
  | mk a k nm v kids ls rv kv lv h0 hat hr hk hl hi hks ih =>
    intro u hu
    cases hu with
    | mk _ k' nm' v' kids' ls' rv' kv' lv' h0' hat' hr' hk' hl' hi' hks' =>
      have e0 := (hr 0 _ rfl).symm.trans (hr' 0 _ rfl)
      have e1 := (hr 1 _ rfl).symm.trans (hr' 1 _ rfl)
      have e2 := (hr 2 _ rfl).symm.trans (hr' 2 _ rfl)
      have e3 := (hr 3 _ rfl).symm.trans (hr' 3 _ rfl)
      have e4 := (hr 4 _ rfl).symm.trans (hr' 4 _ rfl)
      have e5 := (hr 5 _ rfl).symm.trans (hr' 5 _ rfl)
      simp only [Option.some.injEq, Value.int.injEq, Value.string.injEq, true_and] at e0 e1 e2 e3 e4 e5
      subst e0 e2 e3 e4 e5
      obtain rfl := (ba_eq nm nm').mp e1
      obtain rfl := hl.one_list hl'
      have hlen : kids.length = kids'.length := by
        obtain ⟨A, c, e, _⟩ := hk.slr.form
        obtain ⟨A', c', e', _⟩ := hk'.slr.form
        rw [e] at e'
        injection e'
      obtain rfl : kids = kids' := by
        refine List.ext_getElem? fun j => ?_
        by_cases hj : j < kids.length
        · obtain ⟨x, hx⟩ : ∃ x, kids[j]? = some x := ⟨_, List.getElem?_eq_getElem hj⟩
          obtain ⟨y, hy⟩ : ∃ y, kids'[j]? = some y := ⟨_, List.getElem?_eq_getElem (by omega)⟩
          rw [hx, hy, ih j x hx y (hks' j y hy)]
        · rw [List.getElem?_eq_none (by omega), List.getElem?_eq_none (by omega)]
      rfl
end Go.Proofs.Ythdfomcpoofkaaa
