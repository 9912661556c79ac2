/- Package scheme: Instance, by what becomes answers. -/
import Derived.Test.YthdfomcpoofkaaaScMw
import Derived.Test.YthdfomcpoofkaaaMg22
import Derived.Outline
namespace Go.Proofs.Ythdfomcpoofkaaa
open Go.RowKit

set_option maxRecDepth 100000 in
set_option maxHeartbeats 80000000 in
theorem instance_core (w : World) (v1 v2 : Value) (A R : List Int) (b : Bool) (t u : Ty) (l lu : List Value) (h1 : IntR w v1 A) (hA : A.length ≤ 100000000) (h2 : IntR w v2 R) (hBl : R.length ≤ 100000000) (ht : TRV w t l) (hu : TRV w u lu)
    (hH : ∀ (x z : World) (p bm bk br : Nat) (s1 s2 : Value), z.heap.size = x.heap.size → (∀ g, g ≠ p → z.heap[g]? = x.heap[g]?) → (∃ c, Lies x p 97 c) → Lies z p 97 (matC s1 s2 l bk br (.slice none 0 0) (.slice none 0 0) (.slice none 0 0) bm) → MapI x 0 bk A.length (inG A) → MapI x 0 br R.length (inG R) → KeyM x bm [] →
      (w.heap.size ≤ p ∧ p < x.heap.size ∧ w.heap.size ≤ bk ∧ w.heap.size ≤ bm ∧ w.heap.size ≤ br) → (bm ≠ bk ∧ bm ≠ br) → Below w.heap.size w z →
      Calls Try.prog 51 #[.pointer (some ⟨p, 0, none⟩), .agg lu.toArray] z fun e w' => e = .returned (.bool b) ∧ Below w.heap.size w w') :
    Calls Try.prog 27 #[schemeV v1 v2 l, .agg lu.toArray] w fun e w' => e = .returned (.bool b) ∧ Below w.heap.size w w' := by
  obtain ⟨AT, cT, rfl⟩ := h1.one
  obtain ⟨AR, cR, rfl⟩ := h2.one
  obtain ⟨nT, hnT⟩ : ∃ n, n = A.length := ⟨_, rfl⟩
  obtain ⟨nR, hnR⟩ : ∃ n, n = R.length := ⟨_, rfl⟩
  rw [← hnT] at h1 ⊢
  rw [← hnR] at h2 ⊢
  obtain ⟨k1, nm1, vv1, A1, n1, c1, B1, m1, d1, rv1, rfl⟩ := ht.shp
  obtain ⟨k2, nm2, vv2, A2, n2, c2, B2, m2, d2, rv2, rfl⟩ := hu.shp
  unfold schemeV
  unfold tyC at hH ⊢
  obtain ⟨W, hW⟩ : ∃ W, W = (w.alloc (.cells #[.slice AT nT cT, .slice AR nR cR, .int .i64 k1, .string (ba nm1), .int .i64 vv1, .slice A1 n1 c1, .slice B1 m1 d1, .int .i64 rv1] 62)).alloc (.cells #[.int .i64 k2, .string (ba nm2), .int .i64 vv2, .slice A2 n2 c2, .slice B2 m2 d2, .int .i64 rv2] 28) := ⟨_, rfl⟩
  have hb : Below w.heap.size w W := by rw [hW]; exact ((Below.refl _ w).alloc (Nat.le_refl _) _).alloc (by simp) _
  have k0 : Lies W w.heap.size 62 #[.slice AT nT cT, .slice AR nR cR, .int .i64 k1, .string (ba nm1), .int .i64 vv1, .slice A1 n1 c1, .slice B1 m1 d1, .int .i64 rv1] := by rw [hW]; exact (Lies.new _ _ _).alloc _
  have k3 : Lies W (w.heap.size + 1) 28 #[.int .i64 k2, .string (ba nm2), .int .i64 vv2, .slice A2 n2 c2, .slice B2 m2 d2, .int .i64 rv2] := by rw [hW]; exact Lies.new' _ _ _ (by simp)
  have hd : Below W.heap.size W W.drew := (Below.refl _ _).drew
  have HSS := Lib.hid (fun V (hV : Below W.heap.size W V) => (show (fun V => V.cell? ⟨w.heap.size, 0, none⟩ = some (.slice AT nT cT) ∧ V.cell? ⟨w.heap.size, 1, none⟩ = some (.slice AR nR cR) ∧ V.cell? ⟨w.heap.size, 2, none⟩ = some (.int .i64 k1) ∧ V.cell? ⟨w.heap.size, 3, none⟩ = some (.string (ba nm1)) ∧ V.cell? ⟨w.heap.size, 4, none⟩ = some (.int .i64 vv1) ∧ V.cell? ⟨w.heap.size, 5, none⟩ = some (.slice A1 n1 c1) ∧ V.cell? ⟨w.heap.size, 6, none⟩ = some (.slice B1 m1 d1) ∧ V.cell? ⟨w.heap.size, 7, none⟩ = some (.int .i64 rv1)) V from ⟨(k0.later hV).cell 0, (k0.later hV).cell 1, (k0.later hV).cell 2, (k0.later hV).cell 3, (k0.later hV).cell 4, (k0.later hV).cell 5, (k0.later hV).cell 6, (k0.later hV).cell 7⟩))
  have HS3 := Lib.hid (fun V (hV : Below W.heap.size W V) => (show V.cell? ⟨w.heap.size + 1, 0, none⟩ = some (.int .i64 k2) ∧ V.cell? ⟨w.heap.size + 1, 1, none⟩ = some (.string (ba nm2)) ∧ V.cell? ⟨w.heap.size + 1, 2, none⟩ = some (.int .i64 vv2) ∧ V.cell? ⟨w.heap.size + 1, 3, none⟩ = some (.slice A2 n2 c2) ∧ V.cell? ⟨w.heap.size + 1, 4, none⟩ = some (.slice B2 m2 d2) ∧ V.cell? ⟨w.heap.size + 1, 5, none⟩ = some (.int .i64 rv2) from ⟨(k3.later hV).cell 0, (k3.later hV).cell 1, (k3.later hV).cell 2, (k3.later hV).cell 3, (k3.later hV).cell 4, (k3.later hV).cell 5⟩))
  have HIA := Lib.hid (fun V (hV : Below W.heap.size W V) => h1.later (hb.trans (hV.mono hb.size)))
  have HIB := Lib.hid (fun V (hV : Below W.heap.size W V) => h2.later (hb.trans (hV.mono hb.size)))
  have HLA := Lib.hid hA
  have HLB := Lib.hid hBl
  have HH := Lib.hid hH
  have HBw := Lib.hid hb
  have HW := Lib.hid hW
  have hmm := @run_makeMap Try.prog
  clear h1 h2 hA hBl ht hu hH hb hW k0 k3 hnT hnR
  go_enter Try.func27, Try.ntmps27
  go_wp2_with fail
  rw [← HW.out]
  refine wp_region_held_drew (S := (fun V => V.cell? ⟨w.heap.size, 0, none⟩ = some (.slice AT nT cT) ∧ V.cell? ⟨w.heap.size, 1, none⟩ = some (.slice AR nR cR) ∧ V.cell? ⟨w.heap.size, 2, none⟩ = some (.int .i64 k1) ∧ V.cell? ⟨w.heap.size, 3, none⟩ = some (.string (ba nm1)) ∧ V.cell? ⟨w.heap.size, 4, none⟩ = some (.int .i64 vv1) ∧ V.cell? ⟨w.heap.size, 5, none⟩ = some (.slice A1 n1 c1) ∧ V.cell? ⟨w.heap.size, 6, none⟩ = some (.slice B1 m1 d1) ∧ V.cell? ⟨w.heap.size, 7, none⟩ = some (.int .i64 rv1))) (by kernel_rfl) ?_ (fun hHeld => ?_)
  · exact HSS.out _ hd
  refine wpAnyH_take (i := 0) (oi := ⟨some 6, _, _, _, _, _⟩) (v := ?_) rfl (by kernel_rfl) (by kernel_rfl) (by kernel_rfl) (fun _ _ _ h => h) (Or.inl ⟨by kernel_rfl, ?_⟩) (by assumption) ?_
  rotate_left
  · (intro w' hSw; (try dsimp only at hSw); go_split_ands; go_simp; first | done | with_reducible rfl)
  try simp only [Act.put, List.setIfInBounds_toArray, List.set_cons_zero, List.set_cons_succ]
  refine wpAnyH_take (i := 1) (oi := ⟨some 7, _, _, _, _, _⟩) (v := ?_) rfl (by kernel_rfl) (by kernel_rfl) (by kernel_rfl) (fun _ _ _ h => h) (Or.inl ⟨by kernel_rfl, ?_⟩) (by assumption) ?_
  rotate_left
  · (intro w' hSw; (try dsimp only at hSw); go_split_ands; go_simp; first | done | with_reducible rfl)
  try simp only [Act.put, List.setIfInBounds_toArray, List.set_cons_zero, List.set_cons_succ]
  refine wpAnyH_take (i := 2) (oi := ⟨some 8, _, _, _, _, _⟩) (v := ?_) rfl (by kernel_rfl) (by kernel_rfl) (by kernel_rfl) (fun _ _ _ h => h) (Or.inl ⟨by kernel_rfl, ?_⟩) (by assumption) ?_
  rotate_left
  · (intro w' hSw; (try dsimp only at hSw); go_split_ands; go_simp; first | done | with_reducible rfl)
  try simp only [Act.put, List.setIfInBounds_toArray, List.set_cons_zero, List.set_cons_succ]
  refine wpAnyH_take (i := 4) (oi := ⟨some 10, _, _, _, _, _⟩) (v := ?_) rfl (by kernel_rfl) (by kernel_rfl) (by kernel_rfl) (fun _ _ _ h => h) (Or.inl ⟨by kernel_rfl, ?_⟩) (by assumption) ?_
  rotate_left
  · (intro w' hSw; (try dsimp only at hSw); go_split_ands; go_simp; first | done | with_reducible rfl)
  try simp only [Act.put, List.setIfInBounds_toArray, List.set_cons_zero, List.set_cons_succ]
  refine wpAnyH_take (i := 5) (oi := ⟨some 11, _, _, _, _, _⟩) (v := ?_) rfl (by kernel_rfl) (by kernel_rfl) (by kernel_rfl) (fun _ _ _ h => h) (Or.inl ⟨by kernel_rfl, ?_⟩) (by assumption) ?_
  rotate_left
  · (intro w' hSw; (try dsimp only at hSw); go_split_ands; go_simp; first | done | with_reducible rfl)
  try simp only [Act.put, List.setIfInBounds_toArray, List.set_cons_zero, List.set_cons_succ]
  refine wpAnyH_ready (rs := [3, 8, 10]) (by kernel_rfl) (by simp) ?_
  refine AllReadyH.cons (o := ⟨some 9, _, _, _, _, _⟩) rfl (fun K hK => ?_) (AllReadyH.cons (o := ⟨some 14, _, _, _, _, _⟩) rfl (fun K hK => ?_) (AllReadyH.cons (o := ⟨some 5, _, _, _, _, _⟩) rfl (fun K hK => ?_) AllReadyH.nil))
  · go_simp
    go_at_call 50
    refine (setOf_any W.drew A _ (HIA.out _ (hd)) HLA.out).mono ?_
    rintro e y0 ⟨bk, hbk0, rfl, hmm0, hbs0⟩
    have HA := Lib.hid hmm0
    have HA0 := Lib.hid (show W.heap.size ≤ bk from Nat.le_trans (hd).size hbk0)
    clear hmm0
    have hby0 : Below W.heap.size W y0 := (hd).trans (hbs0.mono (hd).size)
    clear hbs0
    refine hK.out _ _ ?_ (fun hHeld => ?_)
    · exact HSS.out _ hby0
    clear hK K
    try simp only [Act.put, List.setIfInBounds_toArray, List.set_cons_zero, List.set_cons_succ]
    refine wpAnyH_ready (rs := [6, 8, 10]) (by kernel_rfl) (by simp) ?_
    refine AllReadyH.cons (o := ⟨some 12, _, _, _, _, _⟩) rfl (fun K hK => ?_) (AllReadyH.cons (o := ⟨some 14, _, _, _, _, _⟩) rfl (fun K hK => ?_) (AllReadyH.cons (o := ⟨some 5, _, _, _, _, _⟩) rfl (fun K hK => ?_) AllReadyH.nil))
    · go_simp
      go_at_call 50
      refine (setOf_any y0 R _ (HIB.out _ (hby0)) HLB.out).mono ?_
      rintro e y1 ⟨br, hbr0, rfl, hmm1, hbs1⟩
      have HB2 := Lib.hid hmm1
      have HB0 := Lib.hid (show W.heap.size ≤ br from Nat.le_trans (hby0).size hbr0)
      clear hmm1
      have hby1 : Below W.heap.size W y1 := (hby0).trans (hbs1.mono (hby0).size)
      have HA := Lib.hid (HA.out.later hbs1)
      clear hbs1
      refine hK.out _ _ ?_ (fun hHeld => ?_)
      · exact HSS.out _ hby1
      clear hK K
      try simp only [Act.put, List.setIfInBounds_toArray, List.set_cons_zero, List.set_cons_succ]
      refine wpAnyH_ready (rs := [7, 8, 10]) (by kernel_rfl) (by simp) ?_
      refine AllReadyH.cons (o := ⟨some 13, _, _, _, _, _⟩) rfl (fun K hK => ?_) (AllReadyH.cons (o := ⟨some 14, _, _, _, _, _⟩) rfl (fun K hK => ?_) (AllReadyH.cons (o := ⟨some 5, _, _, _, _, _⟩) rfl (fun K hK => ?_) AllReadyH.nil))
      · go_simp
        go_at_call 25
        refine (none_any y1).mono ?_
        unfold noneV
        rintro e y2 ⟨rfl, hbs2⟩
        have hby2 : Below W.heap.size W y2 := (hby1).trans (hbs2.mono (hby1).size)
        have HA := Lib.hid (HA.out.later hbs2)
        have HB2 := Lib.hid (HB2.out.later hbs2)
        clear hbs2
        refine hK.out _ _ ?_ (fun hHeld => ?_)
        · exact HSS.out _ hby2
        clear hK K
        try simp only [Act.put, List.setIfInBounds_toArray, List.set_cons_zero, List.set_cons_succ]
        refine wpAnyH_ready (rs := [8, 10]) (by kernel_rfl) (by simp) ?_
        refine AllReadyH.cons (o := ⟨some 14, _, _, _, _, _⟩) rfl (fun K hK => ?_) (AllReadyH.cons (o := ⟨some 5, _, _, _, _, _⟩) rfl (fun K hK => ?_) AllReadyH.nil)
        · go_simp
          obtain ⟨bm, hbm⟩ : ∃ b, b = (y2).heap.size := ⟨_, rfl⟩
          obtain ⟨y3, hy3⟩ : ∃ Y, Y = (y2).alloc (.map #[] 0) := ⟨_, rfl⟩
          have hbs3 : Below (y2).heap.size (y2) y3 := by rw [hy3]; exact below_new _ _
          have HMm := Lib.hid (show KeyM y3 bm [] by rw [hy3, hbm]; exact KeyM.made _)
          have HM0 := Lib.hid (show W.heap.size ≤ bm by rw [hbm]; exact (hby2).size)
          have HNEbk := Lib.hid (show bm ≠ bk by rw [hbm]; exact Nat.ne_of_gt HA.out.lt)
          have HNEbr := Lib.hid (show bm ≠ br by rw [hbm]; exact Nat.ne_of_gt HB2.out.lt)
          (try simp only [World.size_drew])
          rw [← hy3, ← hbm]
          clear hy3 hbm
          have hby3 : Below W.heap.size W y3 := (hby2).trans (hbs3.mono (hby2).size)
          have HA := Lib.hid (HA.out.later hbs3)
          have HB2 := Lib.hid (HB2.out.later hbs3)
          have HNE := Lib.hid (And.intro HNEbk.out HNEbr.out)
          clear hbs3
          refine hK.out _ _ ?_ (fun hHeld => ?_)
          · exact HSS.out _ hby3
          clear hK K
          try simp only [Act.put, List.setIfInBounds_toArray, List.set_cons_zero, List.set_cons_succ]
          refine wpAnyH_take (i := 9) (oi := ⟨some 15, _, _, _, _, _⟩) (v := ?_) rfl (by kernel_rfl) (by kernel_rfl) (by kernel_rfl) (fun _ _ _ h => h) (Or.inl ⟨by kernel_rfl, ?_⟩) (by assumption) ?_
          rotate_left
          · (intro w' hSw; (try dsimp only at hSw); go_split_ands; go_simp; first | done | with_reducible rfl)
          try simp only [Act.put, List.setIfInBounds_toArray, List.set_cons_zero, List.set_cons_succ]
          refine wpAnyH_ready (rs := [10]) (by kernel_rfl) (by simp) ?_
          refine AllReadyH.cons (o := ⟨some 5, _, _, _, _, _⟩) rfl (fun K hK => ?_) AllReadyH.nil
          go_simp
          obtain ⟨pb, hpb⟩ : ∃ b, b = (y3).heap.size := ⟨_, rfl⟩
          obtain ⟨y4, hy4⟩ : ∃ Y, Y = (y3).alloc (.cells #[.slice none 0 0, .slice none 0 0, .int .i64 0, .string ⟨#[]⟩, .int .i64 0, .slice none 0 0, .slice none 0 0, .int .i64 0, .map none, .map none, .slice none 0 0, .slice none 0 0, .slice none 0 0, .map none] 97) := ⟨_, rfl⟩
          have hbs4 : Below (y3).heap.size (y3) y4 := by rw [hy4]; exact below_new _ _
          have HL := Lib.hid (show Lies y4 pb 97 #[.slice none 0 0, .slice none 0 0, .int .i64 0, .string ⟨#[]⟩, .int .i64 0, .slice none 0 0, .slice none 0 0, .int .i64 0, .map none, .map none, .slice none 0 0, .slice none 0 0, .slice none 0 0, .map none] by rw [hy4, hpb]; exact Lies.new _ _ _)
          have HP := Lib.hid (show W.heap.size ≤ pb by rw [hpb]; exact (hby3).size)
          rw [← hy4, ← hpb]
          clear hy4 hpb
          have hby4 : Below W.heap.size W y4 := (hby3).trans (hbs4.mono (hby3).size)
          have HA := Lib.hid (HA.out.later hbs4)
          have HB2 := Lib.hid (HB2.out.later hbs4)
          have HMm := Lib.hid (HMm.out.later hbs4)
          clear hbs4
          refine hK.out _ _ ?_ (fun hHeld => ?_)
          · exact HSS.out _ hby4
          clear hK K
          try simp only [Act.put, List.setIfInBounds_toArray, List.set_cons_zero, List.set_cons_succ]
          refine wpAnyH_ready (rs := [11]) (by kernel_rfl) (by simp) ?_
          refine AllReadyH.cons (o := ⟨none, _, _, _, _, _⟩) rfl (fun K hK => ?_) AllReadyH.nil
          rw [if_pos (by kernel_rfl)]
          refine wp_store_row _ _ _ rfl (pb) #[.slice AT nT cT, .slice AR nR cR, .int .i64 k1, .string (ba nm1), .int .i64 vv1, .slice A1 n1 c1, .slice B1 m1 d1, .int .i64 rv1, .map (some bk), .map (some br), .slice none 0 0, .slice none 0 0, .slice none 0 0, .map (some bm)] rfl rfl 97 #[.slice none 0 0, .slice none 0 0, .int .i64 0, .string ⟨#[]⟩, .int .i64 0, .slice none 0 0, .slice none 0 0, .int .i64 0, .map none, .map none, .slice none 0 0, .slice none 0 0, .slice none 0 0, .map none] HL.out (by kernel_rfl) rfl (by simp [Value.oneCell']) ?_
          obtain ⟨z1, hz1⟩ : ∃ X, X = y4.setRow pb #[.slice AT nT cT, .slice AR nR cR, .int .i64 k1, .string (ba nm1), .int .i64 vv1, .slice A1 n1 c1, .slice B1 m1 d1, .int .i64 rv1, .map (some bk), .map (some br), .slice none 0 0, .slice none 0 0, .slice none 0 0, .map (some bm)] := ⟨_, rfl⟩
          rw [← hz1]
          have hbz : Below W.heap.size W z1 := by rw [hz1]; exact Sb.below_setRow (hby4) HP.out _
          have hlz : Lies z1 pb 97 #[.slice AT nT cT, .slice AR nR cR, .int .i64 k1, .string (ba nm1), .int .i64 vv1, .slice A1 n1 c1, .slice B1 m1 d1, .int .i64 rv1, .map (some bk), .map (some br), .slice none 0 0, .slice none 0 0, .slice none 0 0, .map (some bm)] := by rw [hz1]; exact Sb.setRow_at HL.out _
          have hoz : ∀ g, g ≠ pb → z1.heap[g]? = y4.heap[g]? := fun g hg => by rw [hz1]; exact Sb.setRow_other _ _ _ g hg
          have hfin := HH.out y4 z1 pb bm bk br _ _ (by rw [hz1, size_setRow]) hoz ⟨_, HL.out⟩ hlz HA.out HB2.out HMm.out ⟨Nat.le_trans HBw.out.size HP.out, HL.out.lt, Nat.le_trans HBw.out.size HA0.out, Nat.le_trans HBw.out.size HM0.out, Nat.le_trans HBw.out.size HB0.out⟩ HNE.out (HBw.out.trans (hbz.mono HBw.out.size))
          have HFIN := Lib.hid hfin
          have HZB := Lib.hid hbz
          clear hfin hlz hoz hz1
          refine hK.out _ _ ?_ (fun hHeld => ?_)
          · exact HSS.out _ hbz
          clear hK K
          try simp only [Act.put]
          refine wpAnyH_done (by kernel_rfl) ?_ _
          obtain ⟨f0, f1, f2, f3, f4, f5⟩ := HS3.out _ hbz
          go_wp2_with fail
          refine HFIN.out.mono ?_
          rintro e w9 ⟨rfl, hb9⟩
          clear f0 f1 f2 f3 f4 f5
          go_wp2_with fail
          go_ret
          exact ⟨rfl, hb9⟩
        · go_simp
          obtain ⟨pb, hpb⟩ : ∃ b, b = (y2).heap.size := ⟨_, rfl⟩
          obtain ⟨y3, hy3⟩ : ∃ Y, Y = (y2).alloc (.cells #[.slice none 0 0, .slice none 0 0, .int .i64 0, .string ⟨#[]⟩, .int .i64 0, .slice none 0 0, .slice none 0 0, .int .i64 0, .map none, .map none, .slice none 0 0, .slice none 0 0, .slice none 0 0, .map none] 97) := ⟨_, rfl⟩
          have hbs3 : Below (y2).heap.size (y2) y3 := by rw [hy3]; exact below_new _ _
          have HL := Lib.hid (show Lies y3 pb 97 #[.slice none 0 0, .slice none 0 0, .int .i64 0, .string ⟨#[]⟩, .int .i64 0, .slice none 0 0, .slice none 0 0, .int .i64 0, .map none, .map none, .slice none 0 0, .slice none 0 0, .slice none 0 0, .map none] by rw [hy3, hpb]; exact Lies.new _ _ _)
          have HP := Lib.hid (show W.heap.size ≤ pb by rw [hpb]; exact (hby2).size)
          rw [← hy3, ← hpb]
          clear hy3 hpb
          have hby3 : Below W.heap.size W y3 := (hby2).trans (hbs3.mono (hby2).size)
          have HA := Lib.hid (HA.out.later hbs3)
          have HB2 := Lib.hid (HB2.out.later hbs3)
          clear hbs3
          refine hK.out _ _ ?_ (fun hHeld => ?_)
          · exact HSS.out _ hby3
          clear hK K
          try simp only [Act.put, List.setIfInBounds_toArray, List.set_cons_zero, List.set_cons_succ]
          refine wpAnyH_ready (rs := [8]) (by kernel_rfl) (by simp) ?_
          refine AllReadyH.cons (o := ⟨some 14, _, _, _, _, _⟩) rfl (fun K hK => ?_) AllReadyH.nil
          go_simp
          obtain ⟨bm, hbm⟩ : ∃ b, b = (y3).heap.size := ⟨_, rfl⟩
          obtain ⟨y4, hy4⟩ : ∃ Y, Y = (y3).alloc (.map #[] 0) := ⟨_, rfl⟩
          have hbs4 : Below (y3).heap.size (y3) y4 := by rw [hy4]; exact below_new _ _
          have HMm := Lib.hid (show KeyM y4 bm [] by rw [hy4, hbm]; exact KeyM.made _)
          have HM0 := Lib.hid (show W.heap.size ≤ bm by rw [hbm]; exact (hby3).size)
          have HNEbk := Lib.hid (show bm ≠ bk by rw [hbm]; exact Nat.ne_of_gt HA.out.lt)
          have HNEbr := Lib.hid (show bm ≠ br by rw [hbm]; exact Nat.ne_of_gt HB2.out.lt)
          (try simp only [World.size_drew])
          rw [← hy4, ← hbm]
          clear hy4 hbm
          have hby4 : Below W.heap.size W y4 := (hby3).trans (hbs4.mono (hby3).size)
          have HA := Lib.hid (HA.out.later hbs4)
          have HB2 := Lib.hid (HB2.out.later hbs4)
          have HL := Lib.hid (HL.out.later hbs4)
          have HNE := Lib.hid (And.intro HNEbk.out HNEbr.out)
          clear hbs4
          refine hK.out _ _ ?_ (fun hHeld => ?_)
          · exact HSS.out _ hby4
          clear hK K
          try simp only [Act.put, List.setIfInBounds_toArray, List.set_cons_zero, List.set_cons_succ]
          refine wpAnyH_take (i := 9) (oi := ⟨some 15, _, _, _, _, _⟩) (v := ?_) rfl (by kernel_rfl) (by kernel_rfl) (by kernel_rfl) (fun _ _ _ h => h) (Or.inl ⟨by kernel_rfl, ?_⟩) (by assumption) ?_
          rotate_left
          · (intro w' hSw; (try dsimp only at hSw); go_split_ands; go_simp; first | done | with_reducible rfl)
          try simp only [Act.put, List.setIfInBounds_toArray, List.set_cons_zero, List.set_cons_succ]
          refine wpAnyH_ready (rs := [11]) (by kernel_rfl) (by simp) ?_
          refine AllReadyH.cons (o := ⟨none, _, _, _, _, _⟩) rfl (fun K hK => ?_) AllReadyH.nil
          rw [if_pos (by kernel_rfl)]
          refine wp_store_row _ _ _ rfl (pb) #[.slice AT nT cT, .slice AR nR cR, .int .i64 k1, .string (ba nm1), .int .i64 vv1, .slice A1 n1 c1, .slice B1 m1 d1, .int .i64 rv1, .map (some bk), .map (some br), .slice none 0 0, .slice none 0 0, .slice none 0 0, .map (some bm)] rfl rfl 97 #[.slice none 0 0, .slice none 0 0, .int .i64 0, .string ⟨#[]⟩, .int .i64 0, .slice none 0 0, .slice none 0 0, .int .i64 0, .map none, .map none, .slice none 0 0, .slice none 0 0, .slice none 0 0, .map none] HL.out (by kernel_rfl) rfl (by simp [Value.oneCell']) ?_
          obtain ⟨z1, hz1⟩ : ∃ X, X = y4.setRow pb #[.slice AT nT cT, .slice AR nR cR, .int .i64 k1, .string (ba nm1), .int .i64 vv1, .slice A1 n1 c1, .slice B1 m1 d1, .int .i64 rv1, .map (some bk), .map (some br), .slice none 0 0, .slice none 0 0, .slice none 0 0, .map (some bm)] := ⟨_, rfl⟩
          rw [← hz1]
          have hbz : Below W.heap.size W z1 := by rw [hz1]; exact Sb.below_setRow (hby4) HP.out _
          have hlz : Lies z1 pb 97 #[.slice AT nT cT, .slice AR nR cR, .int .i64 k1, .string (ba nm1), .int .i64 vv1, .slice A1 n1 c1, .slice B1 m1 d1, .int .i64 rv1, .map (some bk), .map (some br), .slice none 0 0, .slice none 0 0, .slice none 0 0, .map (some bm)] := by rw [hz1]; exact Sb.setRow_at HL.out _
          have hoz : ∀ g, g ≠ pb → z1.heap[g]? = y4.heap[g]? := fun g hg => by rw [hz1]; exact Sb.setRow_other _ _ _ g hg
          have hfin := HH.out y4 z1 pb bm bk br _ _ (by rw [hz1, size_setRow]) hoz ⟨_, HL.out⟩ hlz HA.out HB2.out HMm.out ⟨Nat.le_trans HBw.out.size HP.out, HL.out.lt, Nat.le_trans HBw.out.size HA0.out, Nat.le_trans HBw.out.size HM0.out, Nat.le_trans HBw.out.size HB0.out⟩ HNE.out (HBw.out.trans (hbz.mono HBw.out.size))
          have HFIN := Lib.hid hfin
          have HZB := Lib.hid hbz
          clear hfin hlz hoz hz1
          refine hK.out _ _ ?_ (fun hHeld => ?_)
          · exact HSS.out _ hbz
          clear hK K
          try simp only [Act.put]
          refine wpAnyH_done (by kernel_rfl) ?_ _
          obtain ⟨f0, f1, f2, f3, f4, f5⟩ := HS3.out _ hbz
          go_wp2_with fail
          refine HFIN.out.mono ?_
          rintro e w9 ⟨rfl, hb9⟩
          clear f0 f1 f2 f3 f4 f5
          go_wp2_with fail
          go_ret
          exact ⟨rfl, hb9⟩
      · go_simp
        obtain ⟨bm, hbm⟩ : ∃ b, b = (y1).heap.size := ⟨_, rfl⟩
        obtain ⟨y2, hy2⟩ : ∃ Y, Y = (y1).alloc (.map #[] 0) := ⟨_, rfl⟩
        have hbs2 : Below (y1).heap.size (y1) y2 := by rw [hy2]; exact below_new _ _
        have HMm := Lib.hid (show KeyM y2 bm [] by rw [hy2, hbm]; exact KeyM.made _)
        have HM0 := Lib.hid (show W.heap.size ≤ bm by rw [hbm]; exact (hby1).size)
        have HNEbk := Lib.hid (show bm ≠ bk by rw [hbm]; exact Nat.ne_of_gt HA.out.lt)
        have HNEbr := Lib.hid (show bm ≠ br by rw [hbm]; exact Nat.ne_of_gt HB2.out.lt)
        (try simp only [World.size_drew])
        rw [← hy2, ← hbm]
        clear hy2 hbm
        have hby2 : Below W.heap.size W y2 := (hby1).trans (hbs2.mono (hby1).size)
        have HA := Lib.hid (HA.out.later hbs2)
        have HB2 := Lib.hid (HB2.out.later hbs2)
        have HNE := Lib.hid (And.intro HNEbk.out HNEbr.out)
        clear hbs2
        refine hK.out _ _ ?_ (fun hHeld => ?_)
        · exact HSS.out _ hby2
        clear hK K
        try simp only [Act.put, List.setIfInBounds_toArray, List.set_cons_zero, List.set_cons_succ]
        refine wpAnyH_ready (rs := [7, 10]) (by kernel_rfl) (by simp) ?_
        refine AllReadyH.cons (o := ⟨some 13, _, _, _, _, _⟩) rfl (fun K hK => ?_) (AllReadyH.cons (o := ⟨some 5, _, _, _, _, _⟩) rfl (fun K hK => ?_) AllReadyH.nil)
        · go_simp
          go_at_call 25
          refine (none_any y2).mono ?_
          unfold noneV
          rintro e y3 ⟨rfl, hbs3⟩
          have hby3 : Below W.heap.size W y3 := (hby2).trans (hbs3.mono (hby2).size)
          have HA := Lib.hid (HA.out.later hbs3)
          have HB2 := Lib.hid (HB2.out.later hbs3)
          have HMm := Lib.hid (HMm.out.later hbs3)
          clear hbs3
          refine hK.out _ _ ?_ (fun hHeld => ?_)
          · exact HSS.out _ hby3
          clear hK K
          try simp only [Act.put, List.setIfInBounds_toArray, List.set_cons_zero, List.set_cons_succ]
          refine wpAnyH_take (i := 9) (oi := ⟨some 15, _, _, _, _, _⟩) (v := ?_) rfl (by kernel_rfl) (by kernel_rfl) (by kernel_rfl) (fun _ _ _ h => h) (Or.inl ⟨by kernel_rfl, ?_⟩) (by assumption) ?_
          rotate_left
          · (intro w' hSw; (try dsimp only at hSw); go_split_ands; go_simp; first | done | with_reducible rfl)
          try simp only [Act.put, List.setIfInBounds_toArray, List.set_cons_zero, List.set_cons_succ]
          refine wpAnyH_ready (rs := [10]) (by kernel_rfl) (by simp) ?_
          refine AllReadyH.cons (o := ⟨some 5, _, _, _, _, _⟩) rfl (fun K hK => ?_) AllReadyH.nil
          go_simp
          obtain ⟨pb, hpb⟩ : ∃ b, b = (y3).heap.size := ⟨_, rfl⟩
          obtain ⟨y4, hy4⟩ : ∃ Y, Y = (y3).alloc (.cells #[.slice none 0 0, .slice none 0 0, .int .i64 0, .string ⟨#[]⟩, .int .i64 0, .slice none 0 0, .slice none 0 0, .int .i64 0, .map none, .map none, .slice none 0 0, .slice none 0 0, .slice none 0 0, .map none] 97) := ⟨_, rfl⟩
          have hbs4 : Below (y3).heap.size (y3) y4 := by rw [hy4]; exact below_new _ _
          have HL := Lib.hid (show Lies y4 pb 97 #[.slice none 0 0, .slice none 0 0, .int .i64 0, .string ⟨#[]⟩, .int .i64 0, .slice none 0 0, .slice none 0 0, .int .i64 0, .map none, .map none, .slice none 0 0, .slice none 0 0, .slice none 0 0, .map none] by rw [hy4, hpb]; exact Lies.new _ _ _)
          have HP := Lib.hid (show W.heap.size ≤ pb by rw [hpb]; exact (hby3).size)
          rw [← hy4, ← hpb]
          clear hy4 hpb
          have hby4 : Below W.heap.size W y4 := (hby3).trans (hbs4.mono (hby3).size)
          have HA := Lib.hid (HA.out.later hbs4)
          have HB2 := Lib.hid (HB2.out.later hbs4)
          have HMm := Lib.hid (HMm.out.later hbs4)
          clear hbs4
          refine hK.out _ _ ?_ (fun hHeld => ?_)
          · exact HSS.out _ hby4
          clear hK K
          try simp only [Act.put, List.setIfInBounds_toArray, List.set_cons_zero, List.set_cons_succ]
          refine wpAnyH_ready (rs := [11]) (by kernel_rfl) (by simp) ?_
          refine AllReadyH.cons (o := ⟨none, _, _, _, _, _⟩) rfl (fun K hK => ?_) AllReadyH.nil
          rw [if_pos (by kernel_rfl)]
          refine wp_store_row _ _ _ rfl (pb) #[.slice AT nT cT, .slice AR nR cR, .int .i64 k1, .string (ba nm1), .int .i64 vv1, .slice A1 n1 c1, .slice B1 m1 d1, .int .i64 rv1, .map (some bk), .map (some br), .slice none 0 0, .slice none 0 0, .slice none 0 0, .map (some bm)] rfl rfl 97 #[.slice none 0 0, .slice none 0 0, .int .i64 0, .string ⟨#[]⟩, .int .i64 0, .slice none 0 0, .slice none 0 0, .int .i64 0, .map none, .map none, .slice none 0 0, .slice none 0 0, .slice none 0 0, .map none] HL.out (by kernel_rfl) rfl (by simp [Value.oneCell']) ?_
          obtain ⟨z1, hz1⟩ : ∃ X, X = y4.setRow pb #[.slice AT nT cT, .slice AR nR cR, .int .i64 k1, .string (ba nm1), .int .i64 vv1, .slice A1 n1 c1, .slice B1 m1 d1, .int .i64 rv1, .map (some bk), .map (some br), .slice none 0 0, .slice none 0 0, .slice none 0 0, .map (some bm)] := ⟨_, rfl⟩
          rw [← hz1]
          have hbz : Below W.heap.size W z1 := by rw [hz1]; exact Sb.below_setRow (hby4) HP.out _
          have hlz : Lies z1 pb 97 #[.slice AT nT cT, .slice AR nR cR, .int .i64 k1, .string (ba nm1), .int .i64 vv1, .slice A1 n1 c1, .slice B1 m1 d1, .int .i64 rv1, .map (some bk), .map (some br), .slice none 0 0, .slice none 0 0, .slice none 0 0, .map (some bm)] := by rw [hz1]; exact Sb.setRow_at HL.out _
          have hoz : ∀ g, g ≠ pb → z1.heap[g]? = y4.heap[g]? := fun g hg => by rw [hz1]; exact Sb.setRow_other _ _ _ g hg
          have hfin := HH.out y4 z1 pb bm bk br _ _ (by rw [hz1, size_setRow]) hoz ⟨_, HL.out⟩ hlz HA.out HB2.out HMm.out ⟨Nat.le_trans HBw.out.size HP.out, HL.out.lt, Nat.le_trans HBw.out.size HA0.out, Nat.le_trans HBw.out.size HM0.out, Nat.le_trans HBw.out.size HB0.out⟩ HNE.out (HBw.out.trans (hbz.mono HBw.out.size))
          have HFIN := Lib.hid hfin
          have HZB := Lib.hid hbz
          clear hfin hlz hoz hz1
          refine hK.out _ _ ?_ (fun hHeld => ?_)
          · exact HSS.out _ hbz
          clear hK K
          try simp only [Act.put]
          refine wpAnyH_done (by kernel_rfl) ?_ _
          obtain ⟨f0, f1, f2, f3, f4, f5⟩ := HS3.out _ hbz
          go_wp2_with fail
          refine HFIN.out.mono ?_
          rintro e w9 ⟨rfl, hb9⟩
          clear f0 f1 f2 f3 f4 f5
          go_wp2_with fail
          go_ret
          exact ⟨rfl, hb9⟩
        · go_simp
          obtain ⟨pb, hpb⟩ : ∃ b, b = (y2).heap.size := ⟨_, rfl⟩
          obtain ⟨y3, hy3⟩ : ∃ Y, Y = (y2).alloc (.cells #[.slice none 0 0, .slice none 0 0, .int .i64 0, .string ⟨#[]⟩, .int .i64 0, .slice none 0 0, .slice none 0 0, .int .i64 0, .map none, .map none, .slice none 0 0, .slice none 0 0, .slice none 0 0, .map none] 97) := ⟨_, rfl⟩
          have hbs3 : Below (y2).heap.size (y2) y3 := by rw [hy3]; exact below_new _ _
          have HL := Lib.hid (show Lies y3 pb 97 #[.slice none 0 0, .slice none 0 0, .int .i64 0, .string ⟨#[]⟩, .int .i64 0, .slice none 0 0, .slice none 0 0, .int .i64 0, .map none, .map none, .slice none 0 0, .slice none 0 0, .slice none 0 0, .map none] by rw [hy3, hpb]; exact Lies.new _ _ _)
          have HP := Lib.hid (show W.heap.size ≤ pb by rw [hpb]; exact (hby2).size)
          rw [← hy3, ← hpb]
          clear hy3 hpb
          have hby3 : Below W.heap.size W y3 := (hby2).trans (hbs3.mono (hby2).size)
          have HA := Lib.hid (HA.out.later hbs3)
          have HB2 := Lib.hid (HB2.out.later hbs3)
          have HMm := Lib.hid (HMm.out.later hbs3)
          clear hbs3
          refine hK.out _ _ ?_ (fun hHeld => ?_)
          · exact HSS.out _ hby3
          clear hK K
          try simp only [Act.put, List.setIfInBounds_toArray, List.set_cons_zero, List.set_cons_succ]
          refine wpAnyH_ready (rs := [7]) (by kernel_rfl) (by simp) ?_
          refine AllReadyH.cons (o := ⟨some 13, _, _, _, _, _⟩) rfl (fun K hK => ?_) AllReadyH.nil
          go_simp
          go_at_call 25
          refine (none_any y3).mono ?_
          unfold noneV
          rintro e y4 ⟨rfl, hbs4⟩
          have hby4 : Below W.heap.size W y4 := (hby3).trans (hbs4.mono (hby3).size)
          have HA := Lib.hid (HA.out.later hbs4)
          have HB2 := Lib.hid (HB2.out.later hbs4)
          have HMm := Lib.hid (HMm.out.later hbs4)
          have HL := Lib.hid (HL.out.later hbs4)
          clear hbs4
          refine hK.out _ _ ?_ (fun hHeld => ?_)
          · exact HSS.out _ hby4
          clear hK K
          try simp only [Act.put, List.setIfInBounds_toArray, List.set_cons_zero, List.set_cons_succ]
          refine wpAnyH_take (i := 9) (oi := ⟨some 15, _, _, _, _, _⟩) (v := ?_) rfl (by kernel_rfl) (by kernel_rfl) (by kernel_rfl) (fun _ _ _ h => h) (Or.inl ⟨by kernel_rfl, ?_⟩) (by assumption) ?_
          rotate_left
          · (intro w' hSw; (try dsimp only at hSw); go_split_ands; go_simp; first | done | with_reducible rfl)
          try simp only [Act.put, List.setIfInBounds_toArray, List.set_cons_zero, List.set_cons_succ]
          refine wpAnyH_ready (rs := [11]) (by kernel_rfl) (by simp) ?_
          refine AllReadyH.cons (o := ⟨none, _, _, _, _, _⟩) rfl (fun K hK => ?_) AllReadyH.nil
          rw [if_pos (by kernel_rfl)]
          refine wp_store_row _ _ _ rfl (pb) #[.slice AT nT cT, .slice AR nR cR, .int .i64 k1, .string (ba nm1), .int .i64 vv1, .slice A1 n1 c1, .slice B1 m1 d1, .int .i64 rv1, .map (some bk), .map (some br), .slice none 0 0, .slice none 0 0, .slice none 0 0, .map (some bm)] rfl rfl 97 #[.slice none 0 0, .slice none 0 0, .int .i64 0, .string ⟨#[]⟩, .int .i64 0, .slice none 0 0, .slice none 0 0, .int .i64 0, .map none, .map none, .slice none 0 0, .slice none 0 0, .slice none 0 0, .map none] HL.out (by kernel_rfl) rfl (by simp [Value.oneCell']) ?_
          obtain ⟨z1, hz1⟩ : ∃ X, X = y4.setRow pb #[.slice AT nT cT, .slice AR nR cR, .int .i64 k1, .string (ba nm1), .int .i64 vv1, .slice A1 n1 c1, .slice B1 m1 d1, .int .i64 rv1, .map (some bk), .map (some br), .slice none 0 0, .slice none 0 0, .slice none 0 0, .map (some bm)] := ⟨_, rfl⟩
          rw [← hz1]
          have hbz : Below W.heap.size W z1 := by rw [hz1]; exact Sb.below_setRow (hby4) HP.out _
          have hlz : Lies z1 pb 97 #[.slice AT nT cT, .slice AR nR cR, .int .i64 k1, .string (ba nm1), .int .i64 vv1, .slice A1 n1 c1, .slice B1 m1 d1, .int .i64 rv1, .map (some bk), .map (some br), .slice none 0 0, .slice none 0 0, .slice none 0 0, .map (some bm)] := by rw [hz1]; exact Sb.setRow_at HL.out _
          have hoz : ∀ g, g ≠ pb → z1.heap[g]? = y4.heap[g]? := fun g hg => by rw [hz1]; exact Sb.setRow_other _ _ _ g hg
          have hfin := HH.out y4 z1 pb bm bk br _ _ (by rw [hz1, size_setRow]) hoz ⟨_, HL.out⟩ hlz HA.out HB2.out HMm.out ⟨Nat.le_trans HBw.out.size HP.out, HL.out.lt, Nat.le_trans HBw.out.size HA0.out, Nat.le_trans HBw.out.size HM0.out, Nat.le_trans HBw.out.size HB0.out⟩ HNE.out (HBw.out.trans (hbz.mono HBw.out.size))
          have HFIN := Lib.hid hfin
          have HZB := Lib.hid hbz
          clear hfin hlz hoz hz1
          refine hK.out _ _ ?_ (fun hHeld => ?_)
          · exact HSS.out _ hbz
          clear hK K
          try simp only [Act.put]
          refine wpAnyH_done (by kernel_rfl) ?_ _
          obtain ⟨f0, f1, f2, f3, f4, f5⟩ := HS3.out _ hbz
          go_wp2_with fail
          refine HFIN.out.mono ?_
          rintro e w9 ⟨rfl, hb9⟩
          clear f0 f1 f2 f3 f4 f5
          go_wp2_with fail
          go_ret
          exact ⟨rfl, hb9⟩
      · go_simp
        obtain ⟨pb, hpb⟩ : ∃ b, b = (y1).heap.size := ⟨_, rfl⟩
        obtain ⟨y2, hy2⟩ : ∃ Y, Y = (y1).alloc (.cells #[.slice none 0 0, .slice none 0 0, .int .i64 0, .string ⟨#[]⟩, .int .i64 0, .slice none 0 0, .slice none 0 0, .int .i64 0, .map none, .map none, .slice none 0 0, .slice none 0 0, .slice none 0 0, .map none] 97) := ⟨_, rfl⟩
        have hbs2 : Below (y1).heap.size (y1) y2 := by rw [hy2]; exact below_new _ _
        have HL := Lib.hid (show Lies y2 pb 97 #[.slice none 0 0, .slice none 0 0, .int .i64 0, .string ⟨#[]⟩, .int .i64 0, .slice none 0 0, .slice none 0 0, .int .i64 0, .map none, .map none, .slice none 0 0, .slice none 0 0, .slice none 0 0, .map none] by rw [hy2, hpb]; exact Lies.new _ _ _)
        have HP := Lib.hid (show W.heap.size ≤ pb by rw [hpb]; exact (hby1).size)
        rw [← hy2, ← hpb]
        clear hy2 hpb
        have hby2 : Below W.heap.size W y2 := (hby1).trans (hbs2.mono (hby1).size)
        have HA := Lib.hid (HA.out.later hbs2)
        have HB2 := Lib.hid (HB2.out.later hbs2)
        clear hbs2
        refine hK.out _ _ ?_ (fun hHeld => ?_)
        · exact HSS.out _ hby2
        clear hK K
        try simp only [Act.put, List.setIfInBounds_toArray, List.set_cons_zero, List.set_cons_succ]
        refine wpAnyH_ready (rs := [7, 8]) (by kernel_rfl) (by simp) ?_
        refine AllReadyH.cons (o := ⟨some 13, _, _, _, _, _⟩) rfl (fun K hK => ?_) (AllReadyH.cons (o := ⟨some 14, _, _, _, _, _⟩) rfl (fun K hK => ?_) AllReadyH.nil)
        · go_simp
          go_at_call 25
          refine (none_any y2).mono ?_
          unfold noneV
          rintro e y3 ⟨rfl, hbs3⟩
          have hby3 : Below W.heap.size W y3 := (hby2).trans (hbs3.mono (hby2).size)
          have HA := Lib.hid (HA.out.later hbs3)
          have HB2 := Lib.hid (HB2.out.later hbs3)
          have HL := Lib.hid (HL.out.later hbs3)
          clear hbs3
          refine hK.out _ _ ?_ (fun hHeld => ?_)
          · exact HSS.out _ hby3
          clear hK K
          try simp only [Act.put, List.setIfInBounds_toArray, List.set_cons_zero, List.set_cons_succ]
          refine wpAnyH_ready (rs := [8]) (by kernel_rfl) (by simp) ?_
          refine AllReadyH.cons (o := ⟨some 14, _, _, _, _, _⟩) rfl (fun K hK => ?_) AllReadyH.nil
          go_simp
          obtain ⟨bm, hbm⟩ : ∃ b, b = (y3).heap.size := ⟨_, rfl⟩
          obtain ⟨y4, hy4⟩ : ∃ Y, Y = (y3).alloc (.map #[] 0) := ⟨_, rfl⟩
          have hbs4 : Below (y3).heap.size (y3) y4 := by rw [hy4]; exact below_new _ _
          have HMm := Lib.hid (show KeyM y4 bm [] by rw [hy4, hbm]; exact KeyM.made _)
          have HM0 := Lib.hid (show W.heap.size ≤ bm by rw [hbm]; exact (hby3).size)
          have HNEbk := Lib.hid (show bm ≠ bk by rw [hbm]; exact Nat.ne_of_gt HA.out.lt)
          have HNEbr := Lib.hid (show bm ≠ br by rw [hbm]; exact Nat.ne_of_gt HB2.out.lt)
          (try simp only [World.size_drew])
          rw [← hy4, ← hbm]
          clear hy4 hbm
          have hby4 : Below W.heap.size W y4 := (hby3).trans (hbs4.mono (hby3).size)
          have HA := Lib.hid (HA.out.later hbs4)
          have HB2 := Lib.hid (HB2.out.later hbs4)
          have HL := Lib.hid (HL.out.later hbs4)
          have HNE := Lib.hid (And.intro HNEbk.out HNEbr.out)
          clear hbs4
          refine hK.out _ _ ?_ (fun hHeld => ?_)
          · exact HSS.out _ hby4
          clear hK K
          try simp only [Act.put, List.setIfInBounds_toArray, List.set_cons_zero, List.set_cons_succ]
          refine wpAnyH_take (i := 9) (oi := ⟨some 15, _, _, _, _, _⟩) (v := ?_) rfl (by kernel_rfl) (by kernel_rfl) (by kernel_rfl) (fun _ _ _ h => h) (Or.inl ⟨by kernel_rfl, ?_⟩) (by assumption) ?_
          rotate_left
          · (intro w' hSw; (try dsimp only at hSw); go_split_ands; go_simp; first | done | with_reducible rfl)
          try simp only [Act.put, List.setIfInBounds_toArray, List.set_cons_zero, List.set_cons_succ]
          refine wpAnyH_ready (rs := [11]) (by kernel_rfl) (by simp) ?_
          refine AllReadyH.cons (o := ⟨none, _, _, _, _, _⟩) rfl (fun K hK => ?_) AllReadyH.nil
          rw [if_pos (by kernel_rfl)]
          refine wp_store_row _ _ _ rfl (pb) #[.slice AT nT cT, .slice AR nR cR, .int .i64 k1, .string (ba nm1), .int .i64 vv1, .slice A1 n1 c1, .slice B1 m1 d1, .int .i64 rv1, .map (some bk), .map (some br), .slice none 0 0, .slice none 0 0, .slice none 0 0, .map (some bm)] rfl rfl 97 #[.slice none 0 0, .slice none 0 0, .int .i64 0, .string ⟨#[]⟩, .int .i64 0, .slice none 0 0, .slice none 0 0, .int .i64 0, .map none, .map none, .slice none 0 0, .slice none 0 0, .slice none 0 0, .map none] HL.out (by kernel_rfl) rfl (by simp [Value.oneCell']) ?_
          obtain ⟨z1, hz1⟩ : ∃ X, X = y4.setRow pb #[.slice AT nT cT, .slice AR nR cR, .int .i64 k1, .string (ba nm1), .int .i64 vv1, .slice A1 n1 c1, .slice B1 m1 d1, .int .i64 rv1, .map (some bk), .map (some br), .slice none 0 0, .slice none 0 0, .slice none 0 0, .map (some bm)] := ⟨_, rfl⟩
          rw [← hz1]
          have hbz : Below W.heap.size W z1 := by rw [hz1]; exact Sb.below_setRow (hby4) HP.out _
          have hlz : Lies z1 pb 97 #[.slice AT nT cT, .slice AR nR cR, .int .i64 k1, .string (ba nm1), .int .i64 vv1, .slice A1 n1 c1, .slice B1 m1 d1, .int .i64 rv1, .map (some bk), .map (some br), .slice none 0 0, .slice none 0 0, .slice none 0 0, .map (some bm)] := by rw [hz1]; exact Sb.setRow_at HL.out _
          have hoz : ∀ g, g ≠ pb → z1.heap[g]? = y4.heap[g]? := fun g hg => by rw [hz1]; exact Sb.setRow_other _ _ _ g hg
          have hfin := HH.out y4 z1 pb bm bk br _ _ (by rw [hz1, size_setRow]) hoz ⟨_, HL.out⟩ hlz HA.out HB2.out HMm.out ⟨Nat.le_trans HBw.out.size HP.out, HL.out.lt, Nat.le_trans HBw.out.size HA0.out, Nat.le_trans HBw.out.size HM0.out, Nat.le_trans HBw.out.size HB0.out⟩ HNE.out (HBw.out.trans (hbz.mono HBw.out.size))
          have HFIN := Lib.hid hfin
          have HZB := Lib.hid hbz
          clear hfin hlz hoz hz1
          refine hK.out _ _ ?_ (fun hHeld => ?_)
          · exact HSS.out _ hbz
          clear hK K
          try simp only [Act.put]
          refine wpAnyH_done (by kernel_rfl) ?_ _
          obtain ⟨f0, f1, f2, f3, f4, f5⟩ := HS3.out _ hbz
          go_wp2_with fail
          refine HFIN.out.mono ?_
          rintro e w9 ⟨rfl, hb9⟩
          clear f0 f1 f2 f3 f4 f5
          go_wp2_with fail
          go_ret
          exact ⟨rfl, hb9⟩
        · go_simp
          obtain ⟨bm, hbm⟩ : ∃ b, b = (y2).heap.size := ⟨_, rfl⟩
          obtain ⟨y3, hy3⟩ : ∃ Y, Y = (y2).alloc (.map #[] 0) := ⟨_, rfl⟩
          have hbs3 : Below (y2).heap.size (y2) y3 := by rw [hy3]; exact below_new _ _
          have HMm := Lib.hid (show KeyM y3 bm [] by rw [hy3, hbm]; exact KeyM.made _)
          have HM0 := Lib.hid (show W.heap.size ≤ bm by rw [hbm]; exact (hby2).size)
          have HNEbk := Lib.hid (show bm ≠ bk by rw [hbm]; exact Nat.ne_of_gt HA.out.lt)
          have HNEbr := Lib.hid (show bm ≠ br by rw [hbm]; exact Nat.ne_of_gt HB2.out.lt)
          (try simp only [World.size_drew])
          rw [← hy3, ← hbm]
          clear hy3 hbm
          have hby3 : Below W.heap.size W y3 := (hby2).trans (hbs3.mono (hby2).size)
          have HA := Lib.hid (HA.out.later hbs3)
          have HB2 := Lib.hid (HB2.out.later hbs3)
          have HL := Lib.hid (HL.out.later hbs3)
          have HNE := Lib.hid (And.intro HNEbk.out HNEbr.out)
          clear hbs3
          refine hK.out _ _ ?_ (fun hHeld => ?_)
          · exact HSS.out _ hby3
          clear hK K
          try simp only [Act.put, List.setIfInBounds_toArray, List.set_cons_zero, List.set_cons_succ]
          refine wpAnyH_ready (rs := [7]) (by kernel_rfl) (by simp) ?_
          refine AllReadyH.cons (o := ⟨some 13, _, _, _, _, _⟩) rfl (fun K hK => ?_) AllReadyH.nil
          go_simp
          go_at_call 25
          refine (none_any y3).mono ?_
          unfold noneV
          rintro e y4 ⟨rfl, hbs4⟩
          have hby4 : Below W.heap.size W y4 := (hby3).trans (hbs4.mono (hby3).size)
          have HA := Lib.hid (HA.out.later hbs4)
          have HB2 := Lib.hid (HB2.out.later hbs4)
          have HMm := Lib.hid (HMm.out.later hbs4)
          have HL := Lib.hid (HL.out.later hbs4)
          clear hbs4
          refine hK.out _ _ ?_ (fun hHeld => ?_)
          · exact HSS.out _ hby4
          clear hK K
          try simp only [Act.put, List.setIfInBounds_toArray, List.set_cons_zero, List.set_cons_succ]
          refine wpAnyH_take (i := 9) (oi := ⟨some 15, _, _, _, _, _⟩) (v := ?_) rfl (by kernel_rfl) (by kernel_rfl) (by kernel_rfl) (fun _ _ _ h => h) (Or.inl ⟨by kernel_rfl, ?_⟩) (by assumption) ?_
          rotate_left
          · (intro w' hSw; (try dsimp only at hSw); go_split_ands; go_simp; first | done | with_reducible rfl)
          try simp only [Act.put, List.setIfInBounds_toArray, List.set_cons_zero, List.set_cons_succ]
          refine wpAnyH_ready (rs := [11]) (by kernel_rfl) (by simp) ?_
          refine AllReadyH.cons (o := ⟨none, _, _, _, _, _⟩) rfl (fun K hK => ?_) AllReadyH.nil
          rw [if_pos (by kernel_rfl)]
          refine wp_store_row _ _ _ rfl (pb) #[.slice AT nT cT, .slice AR nR cR, .int .i64 k1, .string (ba nm1), .int .i64 vv1, .slice A1 n1 c1, .slice B1 m1 d1, .int .i64 rv1, .map (some bk), .map (some br), .slice none 0 0, .slice none 0 0, .slice none 0 0, .map (some bm)] rfl rfl 97 #[.slice none 0 0, .slice none 0 0, .int .i64 0, .string ⟨#[]⟩, .int .i64 0, .slice none 0 0, .slice none 0 0, .int .i64 0, .map none, .map none, .slice none 0 0, .slice none 0 0, .slice none 0 0, .map none] HL.out (by kernel_rfl) rfl (by simp [Value.oneCell']) ?_
          obtain ⟨z1, hz1⟩ : ∃ X, X = y4.setRow pb #[.slice AT nT cT, .slice AR nR cR, .int .i64 k1, .string (ba nm1), .int .i64 vv1, .slice A1 n1 c1, .slice B1 m1 d1, .int .i64 rv1, .map (some bk), .map (some br), .slice none 0 0, .slice none 0 0, .slice none 0 0, .map (some bm)] := ⟨_, rfl⟩
          rw [← hz1]
          have hbz : Below W.heap.size W z1 := by rw [hz1]; exact Sb.below_setRow (hby4) HP.out _
          have hlz : Lies z1 pb 97 #[.slice AT nT cT, .slice AR nR cR, .int .i64 k1, .string (ba nm1), .int .i64 vv1, .slice A1 n1 c1, .slice B1 m1 d1, .int .i64 rv1, .map (some bk), .map (some br), .slice none 0 0, .slice none 0 0, .slice none 0 0, .map (some bm)] := by rw [hz1]; exact Sb.setRow_at HL.out _
          have hoz : ∀ g, g ≠ pb → z1.heap[g]? = y4.heap[g]? := fun g hg => by rw [hz1]; exact Sb.setRow_other _ _ _ g hg
          have hfin := HH.out y4 z1 pb bm bk br _ _ (by rw [hz1, size_setRow]) hoz ⟨_, HL.out⟩ hlz HA.out HB2.out HMm.out ⟨Nat.le_trans HBw.out.size HP.out, HL.out.lt, Nat.le_trans HBw.out.size HA0.out, Nat.le_trans HBw.out.size HM0.out, Nat.le_trans HBw.out.size HB0.out⟩ HNE.out (HBw.out.trans (hbz.mono HBw.out.size))
          have HFIN := Lib.hid hfin
          have HZB := Lib.hid hbz
          clear hfin hlz hoz hz1
          refine hK.out _ _ ?_ (fun hHeld => ?_)
          · exact HSS.out _ hbz
          clear hK K
          try simp only [Act.put]
          refine wpAnyH_done (by kernel_rfl) ?_ _
          obtain ⟨f0, f1, f2, f3, f4, f5⟩ := HS3.out _ hbz
          go_wp2_with fail
          refine HFIN.out.mono ?_
          rintro e w9 ⟨rfl, hb9⟩
          clear f0 f1 f2 f3 f4 f5
          go_wp2_with fail
          go_ret
          exact ⟨rfl, hb9⟩
    · go_simp
      obtain ⟨bm, hbm⟩ : ∃ b, b = (y0).heap.size := ⟨_, rfl⟩
      obtain ⟨y1, hy1⟩ : ∃ Y, Y = (y0).alloc (.map #[] 0) := ⟨_, rfl⟩
      have hbs1 : Below (y0).heap.size (y0) y1 := by rw [hy1]; exact below_new _ _
      have HMm := Lib.hid (show KeyM y1 bm [] by rw [hy1, hbm]; exact KeyM.made _)
      have HM0 := Lib.hid (show W.heap.size ≤ bm by rw [hbm]; exact (hby0).size)
      have HNEbk := Lib.hid (show bm ≠ bk by rw [hbm]; exact Nat.ne_of_gt HA.out.lt)
      (try simp only [World.size_drew])
      rw [← hy1, ← hbm]
      clear hy1 hbm
      have hby1 : Below W.heap.size W y1 := (hby0).trans (hbs1.mono (hby0).size)
      have HA := Lib.hid (HA.out.later hbs1)
      clear hbs1
      refine hK.out _ _ ?_ (fun hHeld => ?_)
      · exact HSS.out _ hby1
      clear hK K
      try simp only [Act.put, List.setIfInBounds_toArray, List.set_cons_zero, List.set_cons_succ]
      refine wpAnyH_ready (rs := [6, 10]) (by kernel_rfl) (by simp) ?_
      refine AllReadyH.cons (o := ⟨some 12, _, _, _, _, _⟩) rfl (fun K hK => ?_) (AllReadyH.cons (o := ⟨some 5, _, _, _, _, _⟩) rfl (fun K hK => ?_) AllReadyH.nil)
      · go_simp
        go_at_call 50
        refine (setOf_any y1 R _ (HIB.out _ (hby1)) HLB.out).mono ?_
        rintro e y2 ⟨br, hbr0, rfl, hmm2, hbs2⟩
        have HB2 := Lib.hid hmm2
        have HB0 := Lib.hid (show W.heap.size ≤ br from Nat.le_trans (hby1).size hbr0)
        have HNEbr := Lib.hid (show bm ≠ br from by have := HMm.out.lt; omega)
        clear hmm2
        have hby2 : Below W.heap.size W y2 := (hby1).trans (hbs2.mono (hby1).size)
        have HA := Lib.hid (HA.out.later hbs2)
        have HMm := Lib.hid (HMm.out.later hbs2)
        have HNE := Lib.hid (And.intro HNEbk.out HNEbr.out)
        clear hbs2
        refine hK.out _ _ ?_ (fun hHeld => ?_)
        · exact HSS.out _ hby2
        clear hK K
        try simp only [Act.put, List.setIfInBounds_toArray, List.set_cons_zero, List.set_cons_succ]
        refine wpAnyH_ready (rs := [7, 10]) (by kernel_rfl) (by simp) ?_
        refine AllReadyH.cons (o := ⟨some 13, _, _, _, _, _⟩) rfl (fun K hK => ?_) (AllReadyH.cons (o := ⟨some 5, _, _, _, _, _⟩) rfl (fun K hK => ?_) AllReadyH.nil)
        · go_simp
          go_at_call 25
          refine (none_any y2).mono ?_
          unfold noneV
          rintro e y3 ⟨rfl, hbs3⟩
          have hby3 : Below W.heap.size W y3 := (hby2).trans (hbs3.mono (hby2).size)
          have HA := Lib.hid (HA.out.later hbs3)
          have HB2 := Lib.hid (HB2.out.later hbs3)
          have HMm := Lib.hid (HMm.out.later hbs3)
          clear hbs3
          refine hK.out _ _ ?_ (fun hHeld => ?_)
          · exact HSS.out _ hby3
          clear hK K
          try simp only [Act.put, List.setIfInBounds_toArray, List.set_cons_zero, List.set_cons_succ]
          refine wpAnyH_take (i := 9) (oi := ⟨some 15, _, _, _, _, _⟩) (v := ?_) rfl (by kernel_rfl) (by kernel_rfl) (by kernel_rfl) (fun _ _ _ h => h) (Or.inl ⟨by kernel_rfl, ?_⟩) (by assumption) ?_
          rotate_left
          · (intro w' hSw; (try dsimp only at hSw); go_split_ands; go_simp; first | done | with_reducible rfl)
          try simp only [Act.put, List.setIfInBounds_toArray, List.set_cons_zero, List.set_cons_succ]
          refine wpAnyH_ready (rs := [10]) (by kernel_rfl) (by simp) ?_
          refine AllReadyH.cons (o := ⟨some 5, _, _, _, _, _⟩) rfl (fun K hK => ?_) AllReadyH.nil
          go_simp
          obtain ⟨pb, hpb⟩ : ∃ b, b = (y3).heap.size := ⟨_, rfl⟩
          obtain ⟨y4, hy4⟩ : ∃ Y, Y = (y3).alloc (.cells #[.slice none 0 0, .slice none 0 0, .int .i64 0, .string ⟨#[]⟩, .int .i64 0, .slice none 0 0, .slice none 0 0, .int .i64 0, .map none, .map none, .slice none 0 0, .slice none 0 0, .slice none 0 0, .map none] 97) := ⟨_, rfl⟩
          have hbs4 : Below (y3).heap.size (y3) y4 := by rw [hy4]; exact below_new _ _
          have HL := Lib.hid (show Lies y4 pb 97 #[.slice none 0 0, .slice none 0 0, .int .i64 0, .string ⟨#[]⟩, .int .i64 0, .slice none 0 0, .slice none 0 0, .int .i64 0, .map none, .map none, .slice none 0 0, .slice none 0 0, .slice none 0 0, .map none] by rw [hy4, hpb]; exact Lies.new _ _ _)
          have HP := Lib.hid (show W.heap.size ≤ pb by rw [hpb]; exact (hby3).size)
          rw [← hy4, ← hpb]
          clear hy4 hpb
          have hby4 : Below W.heap.size W y4 := (hby3).trans (hbs4.mono (hby3).size)
          have HA := Lib.hid (HA.out.later hbs4)
          have HB2 := Lib.hid (HB2.out.later hbs4)
          have HMm := Lib.hid (HMm.out.later hbs4)
          clear hbs4
          refine hK.out _ _ ?_ (fun hHeld => ?_)
          · exact HSS.out _ hby4
          clear hK K
          try simp only [Act.put, List.setIfInBounds_toArray, List.set_cons_zero, List.set_cons_succ]
          refine wpAnyH_ready (rs := [11]) (by kernel_rfl) (by simp) ?_
          refine AllReadyH.cons (o := ⟨none, _, _, _, _, _⟩) rfl (fun K hK => ?_) AllReadyH.nil
          rw [if_pos (by kernel_rfl)]
          refine wp_store_row _ _ _ rfl (pb) #[.slice AT nT cT, .slice AR nR cR, .int .i64 k1, .string (ba nm1), .int .i64 vv1, .slice A1 n1 c1, .slice B1 m1 d1, .int .i64 rv1, .map (some bk), .map (some br), .slice none 0 0, .slice none 0 0, .slice none 0 0, .map (some bm)] rfl rfl 97 #[.slice none 0 0, .slice none 0 0, .int .i64 0, .string ⟨#[]⟩, .int .i64 0, .slice none 0 0, .slice none 0 0, .int .i64 0, .map none, .map none, .slice none 0 0, .slice none 0 0, .slice none 0 0, .map none] HL.out (by kernel_rfl) rfl (by simp [Value.oneCell']) ?_
          obtain ⟨z1, hz1⟩ : ∃ X, X = y4.setRow pb #[.slice AT nT cT, .slice AR nR cR, .int .i64 k1, .string (ba nm1), .int .i64 vv1, .slice A1 n1 c1, .slice B1 m1 d1, .int .i64 rv1, .map (some bk), .map (some br), .slice none 0 0, .slice none 0 0, .slice none 0 0, .map (some bm)] := ⟨_, rfl⟩
          rw [← hz1]
          have hbz : Below W.heap.size W z1 := by rw [hz1]; exact Sb.below_setRow (hby4) HP.out _
          have hlz : Lies z1 pb 97 #[.slice AT nT cT, .slice AR nR cR, .int .i64 k1, .string (ba nm1), .int .i64 vv1, .slice A1 n1 c1, .slice B1 m1 d1, .int .i64 rv1, .map (some bk), .map (some br), .slice none 0 0, .slice none 0 0, .slice none 0 0, .map (some bm)] := by rw [hz1]; exact Sb.setRow_at HL.out _
          have hoz : ∀ g, g ≠ pb → z1.heap[g]? = y4.heap[g]? := fun g hg => by rw [hz1]; exact Sb.setRow_other _ _ _ g hg
          have hfin := HH.out y4 z1 pb bm bk br _ _ (by rw [hz1, size_setRow]) hoz ⟨_, HL.out⟩ hlz HA.out HB2.out HMm.out ⟨Nat.le_trans HBw.out.size HP.out, HL.out.lt, Nat.le_trans HBw.out.size HA0.out, Nat.le_trans HBw.out.size HM0.out, Nat.le_trans HBw.out.size HB0.out⟩ HNE.out (HBw.out.trans (hbz.mono HBw.out.size))
          have HFIN := Lib.hid hfin
          have HZB := Lib.hid hbz
          clear hfin hlz hoz hz1
          refine hK.out _ _ ?_ (fun hHeld => ?_)
          · exact HSS.out _ hbz
          clear hK K
          try simp only [Act.put]
          refine wpAnyH_done (by kernel_rfl) ?_ _
          obtain ⟨f0, f1, f2, f3, f4, f5⟩ := HS3.out _ hbz
          go_wp2_with fail
          refine HFIN.out.mono ?_
          rintro e w9 ⟨rfl, hb9⟩
          clear f0 f1 f2 f3 f4 f5
          go_wp2_with fail
          go_ret
          exact ⟨rfl, hb9⟩
        · go_simp
          obtain ⟨pb, hpb⟩ : ∃ b, b = (y2).heap.size := ⟨_, rfl⟩
          obtain ⟨y3, hy3⟩ : ∃ Y, Y = (y2).alloc (.cells #[.slice none 0 0, .slice none 0 0, .int .i64 0, .string ⟨#[]⟩, .int .i64 0, .slice none 0 0, .slice none 0 0, .int .i64 0, .map none, .map none, .slice none 0 0, .slice none 0 0, .slice none 0 0, .map none] 97) := ⟨_, rfl⟩
          have hbs3 : Below (y2).heap.size (y2) y3 := by rw [hy3]; exact below_new _ _
          have HL := Lib.hid (show Lies y3 pb 97 #[.slice none 0 0, .slice none 0 0, .int .i64 0, .string ⟨#[]⟩, .int .i64 0, .slice none 0 0, .slice none 0 0, .int .i64 0, .map none, .map none, .slice none 0 0, .slice none 0 0, .slice none 0 0, .map none] by rw [hy3, hpb]; exact Lies.new _ _ _)
          have HP := Lib.hid (show W.heap.size ≤ pb by rw [hpb]; exact (hby2).size)
          rw [← hy3, ← hpb]
          clear hy3 hpb
          have hby3 : Below W.heap.size W y3 := (hby2).trans (hbs3.mono (hby2).size)
          have HA := Lib.hid (HA.out.later hbs3)
          have HB2 := Lib.hid (HB2.out.later hbs3)
          have HMm := Lib.hid (HMm.out.later hbs3)
          clear hbs3
          refine hK.out _ _ ?_ (fun hHeld => ?_)
          · exact HSS.out _ hby3
          clear hK K
          try simp only [Act.put, List.setIfInBounds_toArray, List.set_cons_zero, List.set_cons_succ]
          refine wpAnyH_ready (rs := [7]) (by kernel_rfl) (by simp) ?_
          refine AllReadyH.cons (o := ⟨some 13, _, _, _, _, _⟩) rfl (fun K hK => ?_) AllReadyH.nil
          go_simp
          go_at_call 25
          refine (none_any y3).mono ?_
          unfold noneV
          rintro e y4 ⟨rfl, hbs4⟩
          have hby4 : Below W.heap.size W y4 := (hby3).trans (hbs4.mono (hby3).size)
          have HA := Lib.hid (HA.out.later hbs4)
          have HB2 := Lib.hid (HB2.out.later hbs4)
          have HMm := Lib.hid (HMm.out.later hbs4)
          have HL := Lib.hid (HL.out.later hbs4)
          clear hbs4
          refine hK.out _ _ ?_ (fun hHeld => ?_)
          · exact HSS.out _ hby4
          clear hK K
          try simp only [Act.put, List.setIfInBounds_toArray, List.set_cons_zero, List.set_cons_succ]
          refine wpAnyH_take (i := 9) (oi := ⟨some 15, _, _, _, _, _⟩) (v := ?_) rfl (by kernel_rfl) (by kernel_rfl) (by kernel_rfl) (fun _ _ _ h => h) (Or.inl ⟨by kernel_rfl, ?_⟩) (by assumption) ?_
          rotate_left
          · (intro w' hSw; (try dsimp only at hSw); go_split_ands; go_simp; first | done | with_reducible rfl)
          try simp only [Act.put, List.setIfInBounds_toArray, List.set_cons_zero, List.set_cons_succ]
          refine wpAnyH_ready (rs := [11]) (by kernel_rfl) (by simp) ?_
          refine AllReadyH.cons (o := ⟨none, _, _, _, _, _⟩) rfl (fun K hK => ?_) AllReadyH.nil
          rw [if_pos (by kernel_rfl)]
          refine wp_store_row _ _ _ rfl (pb) #[.slice AT nT cT, .slice AR nR cR, .int .i64 k1, .string (ba nm1), .int .i64 vv1, .slice A1 n1 c1, .slice B1 m1 d1, .int .i64 rv1, .map (some bk), .map (some br), .slice none 0 0, .slice none 0 0, .slice none 0 0, .map (some bm)] rfl rfl 97 #[.slice none 0 0, .slice none 0 0, .int .i64 0, .string ⟨#[]⟩, .int .i64 0, .slice none 0 0, .slice none 0 0, .int .i64 0, .map none, .map none, .slice none 0 0, .slice none 0 0, .slice none 0 0, .map none] HL.out (by kernel_rfl) rfl (by simp [Value.oneCell']) ?_
          obtain ⟨z1, hz1⟩ : ∃ X, X = y4.setRow pb #[.slice AT nT cT, .slice AR nR cR, .int .i64 k1, .string (ba nm1), .int .i64 vv1, .slice A1 n1 c1, .slice B1 m1 d1, .int .i64 rv1, .map (some bk), .map (some br), .slice none 0 0, .slice none 0 0, .slice none 0 0, .map (some bm)] := ⟨_, rfl⟩
          rw [← hz1]
          have hbz : Below W.heap.size W z1 := by rw [hz1]; exact Sb.below_setRow (hby4) HP.out _
          have hlz : Lies z1 pb 97 #[.slice AT nT cT, .slice AR nR cR, .int .i64 k1, .string (ba nm1), .int .i64 vv1, .slice A1 n1 c1, .slice B1 m1 d1, .int .i64 rv1, .map (some bk), .map (some br), .slice none 0 0, .slice none 0 0, .slice none 0 0, .map (some bm)] := by rw [hz1]; exact Sb.setRow_at HL.out _
          have hoz : ∀ g, g ≠ pb → z1.heap[g]? = y4.heap[g]? := fun g hg => by rw [hz1]; exact Sb.setRow_other _ _ _ g hg
          have hfin := HH.out y4 z1 pb bm bk br _ _ (by rw [hz1, size_setRow]) hoz ⟨_, HL.out⟩ hlz HA.out HB2.out HMm.out ⟨Nat.le_trans HBw.out.size HP.out, HL.out.lt, Nat.le_trans HBw.out.size HA0.out, Nat.le_trans HBw.out.size HM0.out, Nat.le_trans HBw.out.size HB0.out⟩ HNE.out (HBw.out.trans (hbz.mono HBw.out.size))
          have HFIN := Lib.hid hfin
          have HZB := Lib.hid hbz
          clear hfin hlz hoz hz1
          refine hK.out _ _ ?_ (fun hHeld => ?_)
          · exact HSS.out _ hbz
          clear hK K
          try simp only [Act.put]
          refine wpAnyH_done (by kernel_rfl) ?_ _
          obtain ⟨f0, f1, f2, f3, f4, f5⟩ := HS3.out _ hbz
          go_wp2_with fail
          refine HFIN.out.mono ?_
          rintro e w9 ⟨rfl, hb9⟩
          clear f0 f1 f2 f3 f4 f5
          go_wp2_with fail
          go_ret
          exact ⟨rfl, hb9⟩
      · go_simp
        obtain ⟨pb, hpb⟩ : ∃ b, b = (y1).heap.size := ⟨_, rfl⟩
        obtain ⟨y2, hy2⟩ : ∃ Y, Y = (y1).alloc (.cells #[.slice none 0 0, .slice none 0 0, .int .i64 0, .string ⟨#[]⟩, .int .i64 0, .slice none 0 0, .slice none 0 0, .int .i64 0, .map none, .map none, .slice none 0 0, .slice none 0 0, .slice none 0 0, .map none] 97) := ⟨_, rfl⟩
        have hbs2 : Below (y1).heap.size (y1) y2 := by rw [hy2]; exact below_new _ _
        have HL := Lib.hid (show Lies y2 pb 97 #[.slice none 0 0, .slice none 0 0, .int .i64 0, .string ⟨#[]⟩, .int .i64 0, .slice none 0 0, .slice none 0 0, .int .i64 0, .map none, .map none, .slice none 0 0, .slice none 0 0, .slice none 0 0, .map none] by rw [hy2, hpb]; exact Lies.new _ _ _)
        have HP := Lib.hid (show W.heap.size ≤ pb by rw [hpb]; exact (hby1).size)
        rw [← hy2, ← hpb]
        clear hy2 hpb
        have hby2 : Below W.heap.size W y2 := (hby1).trans (hbs2.mono (hby1).size)
        have HA := Lib.hid (HA.out.later hbs2)
        have HMm := Lib.hid (HMm.out.later hbs2)
        clear hbs2
        refine hK.out _ _ ?_ (fun hHeld => ?_)
        · exact HSS.out _ hby2
        clear hK K
        try simp only [Act.put, List.setIfInBounds_toArray, List.set_cons_zero, List.set_cons_succ]
        refine wpAnyH_ready (rs := [6]) (by kernel_rfl) (by simp) ?_
        refine AllReadyH.cons (o := ⟨some 12, _, _, _, _, _⟩) rfl (fun K hK => ?_) AllReadyH.nil
        go_simp
        go_at_call 50
        refine (setOf_any y2 R _ (HIB.out _ (hby2)) HLB.out).mono ?_
        rintro e y3 ⟨br, hbr0, rfl, hmm3, hbs3⟩
        have HB2 := Lib.hid hmm3
        have HB0 := Lib.hid (show W.heap.size ≤ br from Nat.le_trans (hby2).size hbr0)
        have HNEbr := Lib.hid (show bm ≠ br from by have := HMm.out.lt; omega)
        clear hmm3
        have hby3 : Below W.heap.size W y3 := (hby2).trans (hbs3.mono (hby2).size)
        have HA := Lib.hid (HA.out.later hbs3)
        have HMm := Lib.hid (HMm.out.later hbs3)
        have HL := Lib.hid (HL.out.later hbs3)
        have HNE := Lib.hid (And.intro HNEbk.out HNEbr.out)
        clear hbs3
        refine hK.out _ _ ?_ (fun hHeld => ?_)
        · exact HSS.out _ hby3
        clear hK K
        try simp only [Act.put, List.setIfInBounds_toArray, List.set_cons_zero, List.set_cons_succ]
        refine wpAnyH_ready (rs := [7]) (by kernel_rfl) (by simp) ?_
        refine AllReadyH.cons (o := ⟨some 13, _, _, _, _, _⟩) rfl (fun K hK => ?_) AllReadyH.nil
        go_simp
        go_at_call 25
        refine (none_any y3).mono ?_
        unfold noneV
        rintro e y4 ⟨rfl, hbs4⟩
        have hby4 : Below W.heap.size W y4 := (hby3).trans (hbs4.mono (hby3).size)
        have HA := Lib.hid (HA.out.later hbs4)
        have HB2 := Lib.hid (HB2.out.later hbs4)
        have HMm := Lib.hid (HMm.out.later hbs4)
        have HL := Lib.hid (HL.out.later hbs4)
        clear hbs4
        refine hK.out _ _ ?_ (fun hHeld => ?_)
        · exact HSS.out _ hby4
        clear hK K
        try simp only [Act.put, List.setIfInBounds_toArray, List.set_cons_zero, List.set_cons_succ]
        refine wpAnyH_take (i := 9) (oi := ⟨some 15, _, _, _, _, _⟩) (v := ?_) rfl (by kernel_rfl) (by kernel_rfl) (by kernel_rfl) (fun _ _ _ h => h) (Or.inl ⟨by kernel_rfl, ?_⟩) (by assumption) ?_
        rotate_left
        · (intro w' hSw; (try dsimp only at hSw); go_split_ands; go_simp; first | done | with_reducible rfl)
        try simp only [Act.put, List.setIfInBounds_toArray, List.set_cons_zero, List.set_cons_succ]
        refine wpAnyH_ready (rs := [11]) (by kernel_rfl) (by simp) ?_
        refine AllReadyH.cons (o := ⟨none, _, _, _, _, _⟩) rfl (fun K hK => ?_) AllReadyH.nil
        rw [if_pos (by kernel_rfl)]
        refine wp_store_row _ _ _ rfl (pb) #[.slice AT nT cT, .slice AR nR cR, .int .i64 k1, .string (ba nm1), .int .i64 vv1, .slice A1 n1 c1, .slice B1 m1 d1, .int .i64 rv1, .map (some bk), .map (some br), .slice none 0 0, .slice none 0 0, .slice none 0 0, .map (some bm)] rfl rfl 97 #[.slice none 0 0, .slice none 0 0, .int .i64 0, .string ⟨#[]⟩, .int .i64 0, .slice none 0 0, .slice none 0 0, .int .i64 0, .map none, .map none, .slice none 0 0, .slice none 0 0, .slice none 0 0, .map none] HL.out (by kernel_rfl) rfl (by simp [Value.oneCell']) ?_
        obtain ⟨z1, hz1⟩ : ∃ X, X = y4.setRow pb #[.slice AT nT cT, .slice AR nR cR, .int .i64 k1, .string (ba nm1), .int .i64 vv1, .slice A1 n1 c1, .slice B1 m1 d1, .int .i64 rv1, .map (some bk), .map (some br), .slice none 0 0, .slice none 0 0, .slice none 0 0, .map (some bm)] := ⟨_, rfl⟩
        rw [← hz1]
        have hbz : Below W.heap.size W z1 := by rw [hz1]; exact Sb.below_setRow (hby4) HP.out _
        have hlz : Lies z1 pb 97 #[.slice AT nT cT, .slice AR nR cR, .int .i64 k1, .string (ba nm1), .int .i64 vv1, .slice A1 n1 c1, .slice B1 m1 d1, .int .i64 rv1, .map (some bk), .map (some br), .slice none 0 0, .slice none 0 0, .slice none 0 0, .map (some bm)] := by rw [hz1]; exact Sb.setRow_at HL.out _
        have hoz : ∀ g, g ≠ pb → z1.heap[g]? = y4.heap[g]? := fun g hg => by rw [hz1]; exact Sb.setRow_other _ _ _ g hg
        have hfin := HH.out y4 z1 pb bm bk br _ _ (by rw [hz1, size_setRow]) hoz ⟨_, HL.out⟩ hlz HA.out HB2.out HMm.out ⟨Nat.le_trans HBw.out.size HP.out, HL.out.lt, Nat.le_trans HBw.out.size HA0.out, Nat.le_trans HBw.out.size HM0.out, Nat.le_trans HBw.out.size HB0.out⟩ HNE.out (HBw.out.trans (hbz.mono HBw.out.size))
        have HFIN := Lib.hid hfin
        have HZB := Lib.hid hbz
        clear hfin hlz hoz hz1
        refine hK.out _ _ ?_ (fun hHeld => ?_)
        · exact HSS.out _ hbz
        clear hK K
        try simp only [Act.put]
        refine wpAnyH_done (by kernel_rfl) ?_ _
        obtain ⟨f0, f1, f2, f3, f4, f5⟩ := HS3.out _ hbz
        go_wp2_with fail
        refine HFIN.out.mono ?_
        rintro e w9 ⟨rfl, hb9⟩
        clear f0 f1 f2 f3 f4 f5
        go_wp2_with fail
        go_ret
        exact ⟨rfl, hb9⟩
    · go_simp
      obtain ⟨pb, hpb⟩ : ∃ b, b = (y0).heap.size := ⟨_, rfl⟩
      obtain ⟨y1, hy1⟩ : ∃ Y, Y = (y0).alloc (.cells #[.slice none 0 0, .slice none 0 0, .int .i64 0, .string ⟨#[]⟩, .int .i64 0, .slice none 0 0, .slice none 0 0, .int .i64 0, .map none, .map none, .slice none 0 0, .slice none 0 0, .slice none 0 0, .map none] 97) := ⟨_, rfl⟩
      have hbs1 : Below (y0).heap.size (y0) y1 := by rw [hy1]; exact below_new _ _
      have HL := Lib.hid (show Lies y1 pb 97 #[.slice none 0 0, .slice none 0 0, .int .i64 0, .string ⟨#[]⟩, .int .i64 0, .slice none 0 0, .slice none 0 0, .int .i64 0, .map none, .map none, .slice none 0 0, .slice none 0 0, .slice none 0 0, .map none] by rw [hy1, hpb]; exact Lies.new _ _ _)
      have HP := Lib.hid (show W.heap.size ≤ pb by rw [hpb]; exact (hby0).size)
      rw [← hy1, ← hpb]
      clear hy1 hpb
      have hby1 : Below W.heap.size W y1 := (hby0).trans (hbs1.mono (hby0).size)
      have HA := Lib.hid (HA.out.later hbs1)
      clear hbs1
      refine hK.out _ _ ?_ (fun hHeld => ?_)
      · exact HSS.out _ hby1
      clear hK K
      try simp only [Act.put, List.setIfInBounds_toArray, List.set_cons_zero, List.set_cons_succ]
      refine wpAnyH_ready (rs := [6, 8]) (by kernel_rfl) (by simp) ?_
      refine AllReadyH.cons (o := ⟨some 12, _, _, _, _, _⟩) rfl (fun K hK => ?_) (AllReadyH.cons (o := ⟨some 14, _, _, _, _, _⟩) rfl (fun K hK => ?_) AllReadyH.nil)
      · go_simp
        go_at_call 50
        refine (setOf_any y1 R _ (HIB.out _ (hby1)) HLB.out).mono ?_
        rintro e y2 ⟨br, hbr0, rfl, hmm2, hbs2⟩
        have HB2 := Lib.hid hmm2
        have HB0 := Lib.hid (show W.heap.size ≤ br from Nat.le_trans (hby1).size hbr0)
        clear hmm2
        have hby2 : Below W.heap.size W y2 := (hby1).trans (hbs2.mono (hby1).size)
        have HA := Lib.hid (HA.out.later hbs2)
        have HL := Lib.hid (HL.out.later hbs2)
        clear hbs2
        refine hK.out _ _ ?_ (fun hHeld => ?_)
        · exact HSS.out _ hby2
        clear hK K
        try simp only [Act.put, List.setIfInBounds_toArray, List.set_cons_zero, List.set_cons_succ]
        refine wpAnyH_ready (rs := [7, 8]) (by kernel_rfl) (by simp) ?_
        refine AllReadyH.cons (o := ⟨some 13, _, _, _, _, _⟩) rfl (fun K hK => ?_) (AllReadyH.cons (o := ⟨some 14, _, _, _, _, _⟩) rfl (fun K hK => ?_) AllReadyH.nil)
        · go_simp
          go_at_call 25
          refine (none_any y2).mono ?_
          unfold noneV
          rintro e y3 ⟨rfl, hbs3⟩
          have hby3 : Below W.heap.size W y3 := (hby2).trans (hbs3.mono (hby2).size)
          have HA := Lib.hid (HA.out.later hbs3)
          have HB2 := Lib.hid (HB2.out.later hbs3)
          have HL := Lib.hid (HL.out.later hbs3)
          clear hbs3
          refine hK.out _ _ ?_ (fun hHeld => ?_)
          · exact HSS.out _ hby3
          clear hK K
          try simp only [Act.put, List.setIfInBounds_toArray, List.set_cons_zero, List.set_cons_succ]
          refine wpAnyH_ready (rs := [8]) (by kernel_rfl) (by simp) ?_
          refine AllReadyH.cons (o := ⟨some 14, _, _, _, _, _⟩) rfl (fun K hK => ?_) AllReadyH.nil
          go_simp
          obtain ⟨bm, hbm⟩ : ∃ b, b = (y3).heap.size := ⟨_, rfl⟩
          obtain ⟨y4, hy4⟩ : ∃ Y, Y = (y3).alloc (.map #[] 0) := ⟨_, rfl⟩
          have hbs4 : Below (y3).heap.size (y3) y4 := by rw [hy4]; exact below_new _ _
          have HMm := Lib.hid (show KeyM y4 bm [] by rw [hy4, hbm]; exact KeyM.made _)
          have HM0 := Lib.hid (show W.heap.size ≤ bm by rw [hbm]; exact (hby3).size)
          have HNEbk := Lib.hid (show bm ≠ bk by rw [hbm]; exact Nat.ne_of_gt HA.out.lt)
          have HNEbr := Lib.hid (show bm ≠ br by rw [hbm]; exact Nat.ne_of_gt HB2.out.lt)
          (try simp only [World.size_drew])
          rw [← hy4, ← hbm]
          clear hy4 hbm
          have hby4 : Below W.heap.size W y4 := (hby3).trans (hbs4.mono (hby3).size)
          have HA := Lib.hid (HA.out.later hbs4)
          have HB2 := Lib.hid (HB2.out.later hbs4)
          have HL := Lib.hid (HL.out.later hbs4)
          have HNE := Lib.hid (And.intro HNEbk.out HNEbr.out)
          clear hbs4
          refine hK.out _ _ ?_ (fun hHeld => ?_)
          · exact HSS.out _ hby4
          clear hK K
          try simp only [Act.put, List.setIfInBounds_toArray, List.set_cons_zero, List.set_cons_succ]
          refine wpAnyH_take (i := 9) (oi := ⟨some 15, _, _, _, _, _⟩) (v := ?_) rfl (by kernel_rfl) (by kernel_rfl) (by kernel_rfl) (fun _ _ _ h => h) (Or.inl ⟨by kernel_rfl, ?_⟩) (by assumption) ?_
          rotate_left
          · (intro w' hSw; (try dsimp only at hSw); go_split_ands; go_simp; first | done | with_reducible rfl)
          try simp only [Act.put, List.setIfInBounds_toArray, List.set_cons_zero, List.set_cons_succ]
          refine wpAnyH_ready (rs := [11]) (by kernel_rfl) (by simp) ?_
          refine AllReadyH.cons (o := ⟨none, _, _, _, _, _⟩) rfl (fun K hK => ?_) AllReadyH.nil
          rw [if_pos (by kernel_rfl)]
          refine wp_store_row _ _ _ rfl (pb) #[.slice AT nT cT, .slice AR nR cR, .int .i64 k1, .string (ba nm1), .int .i64 vv1, .slice A1 n1 c1, .slice B1 m1 d1, .int .i64 rv1, .map (some bk), .map (some br), .slice none 0 0, .slice none 0 0, .slice none 0 0, .map (some bm)] rfl rfl 97 #[.slice none 0 0, .slice none 0 0, .int .i64 0, .string ⟨#[]⟩, .int .i64 0, .slice none 0 0, .slice none 0 0, .int .i64 0, .map none, .map none, .slice none 0 0, .slice none 0 0, .slice none 0 0, .map none] HL.out (by kernel_rfl) rfl (by simp [Value.oneCell']) ?_
          obtain ⟨z1, hz1⟩ : ∃ X, X = y4.setRow pb #[.slice AT nT cT, .slice AR nR cR, .int .i64 k1, .string (ba nm1), .int .i64 vv1, .slice A1 n1 c1, .slice B1 m1 d1, .int .i64 rv1, .map (some bk), .map (some br), .slice none 0 0, .slice none 0 0, .slice none 0 0, .map (some bm)] := ⟨_, rfl⟩
          rw [← hz1]
          have hbz : Below W.heap.size W z1 := by rw [hz1]; exact Sb.below_setRow (hby4) HP.out _
          have hlz : Lies z1 pb 97 #[.slice AT nT cT, .slice AR nR cR, .int .i64 k1, .string (ba nm1), .int .i64 vv1, .slice A1 n1 c1, .slice B1 m1 d1, .int .i64 rv1, .map (some bk), .map (some br), .slice none 0 0, .slice none 0 0, .slice none 0 0, .map (some bm)] := by rw [hz1]; exact Sb.setRow_at HL.out _
          have hoz : ∀ g, g ≠ pb → z1.heap[g]? = y4.heap[g]? := fun g hg => by rw [hz1]; exact Sb.setRow_other _ _ _ g hg
          have hfin := HH.out y4 z1 pb bm bk br _ _ (by rw [hz1, size_setRow]) hoz ⟨_, HL.out⟩ hlz HA.out HB2.out HMm.out ⟨Nat.le_trans HBw.out.size HP.out, HL.out.lt, Nat.le_trans HBw.out.size HA0.out, Nat.le_trans HBw.out.size HM0.out, Nat.le_trans HBw.out.size HB0.out⟩ HNE.out (HBw.out.trans (hbz.mono HBw.out.size))
          have HFIN := Lib.hid hfin
          have HZB := Lib.hid hbz
          clear hfin hlz hoz hz1
          refine hK.out _ _ ?_ (fun hHeld => ?_)
          · exact HSS.out _ hbz
          clear hK K
          try simp only [Act.put]
          refine wpAnyH_done (by kernel_rfl) ?_ _
          obtain ⟨f0, f1, f2, f3, f4, f5⟩ := HS3.out _ hbz
          go_wp2_with fail
          refine HFIN.out.mono ?_
          rintro e w9 ⟨rfl, hb9⟩
          clear f0 f1 f2 f3 f4 f5
          go_wp2_with fail
          go_ret
          exact ⟨rfl, hb9⟩
        · go_simp
          obtain ⟨bm, hbm⟩ : ∃ b, b = (y2).heap.size := ⟨_, rfl⟩
          obtain ⟨y3, hy3⟩ : ∃ Y, Y = (y2).alloc (.map #[] 0) := ⟨_, rfl⟩
          have hbs3 : Below (y2).heap.size (y2) y3 := by rw [hy3]; exact below_new _ _
          have HMm := Lib.hid (show KeyM y3 bm [] by rw [hy3, hbm]; exact KeyM.made _)
          have HM0 := Lib.hid (show W.heap.size ≤ bm by rw [hbm]; exact (hby2).size)
          have HNEbk := Lib.hid (show bm ≠ bk by rw [hbm]; exact Nat.ne_of_gt HA.out.lt)
          have HNEbr := Lib.hid (show bm ≠ br by rw [hbm]; exact Nat.ne_of_gt HB2.out.lt)
          (try simp only [World.size_drew])
          rw [← hy3, ← hbm]
          clear hy3 hbm
          have hby3 : Below W.heap.size W y3 := (hby2).trans (hbs3.mono (hby2).size)
          have HA := Lib.hid (HA.out.later hbs3)
          have HB2 := Lib.hid (HB2.out.later hbs3)
          have HL := Lib.hid (HL.out.later hbs3)
          have HNE := Lib.hid (And.intro HNEbk.out HNEbr.out)
          clear hbs3
          refine hK.out _ _ ?_ (fun hHeld => ?_)
          · exact HSS.out _ hby3
          clear hK K
          try simp only [Act.put, List.setIfInBounds_toArray, List.set_cons_zero, List.set_cons_succ]
          refine wpAnyH_ready (rs := [7]) (by kernel_rfl) (by simp) ?_
          refine AllReadyH.cons (o := ⟨some 13, _, _, _, _, _⟩) rfl (fun K hK => ?_) AllReadyH.nil
          go_simp
          go_at_call 25
          refine (none_any y3).mono ?_
          unfold noneV
          rintro e y4 ⟨rfl, hbs4⟩
          have hby4 : Below W.heap.size W y4 := (hby3).trans (hbs4.mono (hby3).size)
          have HA := Lib.hid (HA.out.later hbs4)
          have HB2 := Lib.hid (HB2.out.later hbs4)
          have HMm := Lib.hid (HMm.out.later hbs4)
          have HL := Lib.hid (HL.out.later hbs4)
          clear hbs4
          refine hK.out _ _ ?_ (fun hHeld => ?_)
          · exact HSS.out _ hby4
          clear hK K
          try simp only [Act.put, List.setIfInBounds_toArray, List.set_cons_zero, List.set_cons_succ]
          refine wpAnyH_take (i := 9) (oi := ⟨some 15, _, _, _, _, _⟩) (v := ?_) rfl (by kernel_rfl) (by kernel_rfl) (by kernel_rfl) (fun _ _ _ h => h) (Or.inl ⟨by kernel_rfl, ?_⟩) (by assumption) ?_
          rotate_left
          · (intro w' hSw; (try dsimp only at hSw); go_split_ands; go_simp; first | done | with_reducible rfl)
          try simp only [Act.put, List.setIfInBounds_toArray, List.set_cons_zero, List.set_cons_succ]
          refine wpAnyH_ready (rs := [11]) (by kernel_rfl) (by simp) ?_
          refine AllReadyH.cons (o := ⟨none, _, _, _, _, _⟩) rfl (fun K hK => ?_) AllReadyH.nil
          rw [if_pos (by kernel_rfl)]
          refine wp_store_row _ _ _ rfl (pb) #[.slice AT nT cT, .slice AR nR cR, .int .i64 k1, .string (ba nm1), .int .i64 vv1, .slice A1 n1 c1, .slice B1 m1 d1, .int .i64 rv1, .map (some bk), .map (some br), .slice none 0 0, .slice none 0 0, .slice none 0 0, .map (some bm)] rfl rfl 97 #[.slice none 0 0, .slice none 0 0, .int .i64 0, .string ⟨#[]⟩, .int .i64 0, .slice none 0 0, .slice none 0 0, .int .i64 0, .map none, .map none, .slice none 0 0, .slice none 0 0, .slice none 0 0, .map none] HL.out (by kernel_rfl) rfl (by simp [Value.oneCell']) ?_
          obtain ⟨z1, hz1⟩ : ∃ X, X = y4.setRow pb #[.slice AT nT cT, .slice AR nR cR, .int .i64 k1, .string (ba nm1), .int .i64 vv1, .slice A1 n1 c1, .slice B1 m1 d1, .int .i64 rv1, .map (some bk), .map (some br), .slice none 0 0, .slice none 0 0, .slice none 0 0, .map (some bm)] := ⟨_, rfl⟩
          rw [← hz1]
          have hbz : Below W.heap.size W z1 := by rw [hz1]; exact Sb.below_setRow (hby4) HP.out _
          have hlz : Lies z1 pb 97 #[.slice AT nT cT, .slice AR nR cR, .int .i64 k1, .string (ba nm1), .int .i64 vv1, .slice A1 n1 c1, .slice B1 m1 d1, .int .i64 rv1, .map (some bk), .map (some br), .slice none 0 0, .slice none 0 0, .slice none 0 0, .map (some bm)] := by rw [hz1]; exact Sb.setRow_at HL.out _
          have hoz : ∀ g, g ≠ pb → z1.heap[g]? = y4.heap[g]? := fun g hg => by rw [hz1]; exact Sb.setRow_other _ _ _ g hg
          have hfin := HH.out y4 z1 pb bm bk br _ _ (by rw [hz1, size_setRow]) hoz ⟨_, HL.out⟩ hlz HA.out HB2.out HMm.out ⟨Nat.le_trans HBw.out.size HP.out, HL.out.lt, Nat.le_trans HBw.out.size HA0.out, Nat.le_trans HBw.out.size HM0.out, Nat.le_trans HBw.out.size HB0.out⟩ HNE.out (HBw.out.trans (hbz.mono HBw.out.size))
          have HFIN := Lib.hid hfin
          have HZB := Lib.hid hbz
          clear hfin hlz hoz hz1
          refine hK.out _ _ ?_ (fun hHeld => ?_)
          · exact HSS.out _ hbz
          clear hK K
          try simp only [Act.put]
          refine wpAnyH_done (by kernel_rfl) ?_ _
          obtain ⟨f0, f1, f2, f3, f4, f5⟩ := HS3.out _ hbz
          go_wp2_with fail
          refine HFIN.out.mono ?_
          rintro e w9 ⟨rfl, hb9⟩
          clear f0 f1 f2 f3 f4 f5
          go_wp2_with fail
          go_ret
          exact ⟨rfl, hb9⟩
      · go_simp
        obtain ⟨bm, hbm⟩ : ∃ b, b = (y1).heap.size := ⟨_, rfl⟩
        obtain ⟨y2, hy2⟩ : ∃ Y, Y = (y1).alloc (.map #[] 0) := ⟨_, rfl⟩
        have hbs2 : Below (y1).heap.size (y1) y2 := by rw [hy2]; exact below_new _ _
        have HMm := Lib.hid (show KeyM y2 bm [] by rw [hy2, hbm]; exact KeyM.made _)
        have HM0 := Lib.hid (show W.heap.size ≤ bm by rw [hbm]; exact (hby1).size)
        have HNEbk := Lib.hid (show bm ≠ bk by rw [hbm]; exact Nat.ne_of_gt HA.out.lt)
        (try simp only [World.size_drew])
        rw [← hy2, ← hbm]
        clear hy2 hbm
        have hby2 : Below W.heap.size W y2 := (hby1).trans (hbs2.mono (hby1).size)
        have HA := Lib.hid (HA.out.later hbs2)
        have HL := Lib.hid (HL.out.later hbs2)
        clear hbs2
        refine hK.out _ _ ?_ (fun hHeld => ?_)
        · exact HSS.out _ hby2
        clear hK K
        try simp only [Act.put, List.setIfInBounds_toArray, List.set_cons_zero, List.set_cons_succ]
        refine wpAnyH_ready (rs := [6]) (by kernel_rfl) (by simp) ?_
        refine AllReadyH.cons (o := ⟨some 12, _, _, _, _, _⟩) rfl (fun K hK => ?_) AllReadyH.nil
        go_simp
        go_at_call 50
        refine (setOf_any y2 R _ (HIB.out _ (hby2)) HLB.out).mono ?_
        rintro e y3 ⟨br, hbr0, rfl, hmm3, hbs3⟩
        have HB2 := Lib.hid hmm3
        have HB0 := Lib.hid (show W.heap.size ≤ br from Nat.le_trans (hby2).size hbr0)
        have HNEbr := Lib.hid (show bm ≠ br from by have := HMm.out.lt; omega)
        clear hmm3
        have hby3 : Below W.heap.size W y3 := (hby2).trans (hbs3.mono (hby2).size)
        have HA := Lib.hid (HA.out.later hbs3)
        have HMm := Lib.hid (HMm.out.later hbs3)
        have HL := Lib.hid (HL.out.later hbs3)
        have HNE := Lib.hid (And.intro HNEbk.out HNEbr.out)
        clear hbs3
        refine hK.out _ _ ?_ (fun hHeld => ?_)
        · exact HSS.out _ hby3
        clear hK K
        try simp only [Act.put, List.setIfInBounds_toArray, List.set_cons_zero, List.set_cons_succ]
        refine wpAnyH_ready (rs := [7]) (by kernel_rfl) (by simp) ?_
        refine AllReadyH.cons (o := ⟨some 13, _, _, _, _, _⟩) rfl (fun K hK => ?_) AllReadyH.nil
        go_simp
        go_at_call 25
        refine (none_any y3).mono ?_
        unfold noneV
        rintro e y4 ⟨rfl, hbs4⟩
        have hby4 : Below W.heap.size W y4 := (hby3).trans (hbs4.mono (hby3).size)
        have HA := Lib.hid (HA.out.later hbs4)
        have HB2 := Lib.hid (HB2.out.later hbs4)
        have HMm := Lib.hid (HMm.out.later hbs4)
        have HL := Lib.hid (HL.out.later hbs4)
        clear hbs4
        refine hK.out _ _ ?_ (fun hHeld => ?_)
        · exact HSS.out _ hby4
        clear hK K
        try simp only [Act.put, List.setIfInBounds_toArray, List.set_cons_zero, List.set_cons_succ]
        refine wpAnyH_take (i := 9) (oi := ⟨some 15, _, _, _, _, _⟩) (v := ?_) rfl (by kernel_rfl) (by kernel_rfl) (by kernel_rfl) (fun _ _ _ h => h) (Or.inl ⟨by kernel_rfl, ?_⟩) (by assumption) ?_
        rotate_left
        · (intro w' hSw; (try dsimp only at hSw); go_split_ands; go_simp; first | done | with_reducible rfl)
        try simp only [Act.put, List.setIfInBounds_toArray, List.set_cons_zero, List.set_cons_succ]
        refine wpAnyH_ready (rs := [11]) (by kernel_rfl) (by simp) ?_
        refine AllReadyH.cons (o := ⟨none, _, _, _, _, _⟩) rfl (fun K hK => ?_) AllReadyH.nil
        rw [if_pos (by kernel_rfl)]
        refine wp_store_row _ _ _ rfl (pb) #[.slice AT nT cT, .slice AR nR cR, .int .i64 k1, .string (ba nm1), .int .i64 vv1, .slice A1 n1 c1, .slice B1 m1 d1, .int .i64 rv1, .map (some bk), .map (some br), .slice none 0 0, .slice none 0 0, .slice none 0 0, .map (some bm)] rfl rfl 97 #[.slice none 0 0, .slice none 0 0, .int .i64 0, .string ⟨#[]⟩, .int .i64 0, .slice none 0 0, .slice none 0 0, .int .i64 0, .map none, .map none, .slice none 0 0, .slice none 0 0, .slice none 0 0, .map none] HL.out (by kernel_rfl) rfl (by simp [Value.oneCell']) ?_
        obtain ⟨z1, hz1⟩ : ∃ X, X = y4.setRow pb #[.slice AT nT cT, .slice AR nR cR, .int .i64 k1, .string (ba nm1), .int .i64 vv1, .slice A1 n1 c1, .slice B1 m1 d1, .int .i64 rv1, .map (some bk), .map (some br), .slice none 0 0, .slice none 0 0, .slice none 0 0, .map (some bm)] := ⟨_, rfl⟩
        rw [← hz1]
        have hbz : Below W.heap.size W z1 := by rw [hz1]; exact Sb.below_setRow (hby4) HP.out _
        have hlz : Lies z1 pb 97 #[.slice AT nT cT, .slice AR nR cR, .int .i64 k1, .string (ba nm1), .int .i64 vv1, .slice A1 n1 c1, .slice B1 m1 d1, .int .i64 rv1, .map (some bk), .map (some br), .slice none 0 0, .slice none 0 0, .slice none 0 0, .map (some bm)] := by rw [hz1]; exact Sb.setRow_at HL.out _
        have hoz : ∀ g, g ≠ pb → z1.heap[g]? = y4.heap[g]? := fun g hg => by rw [hz1]; exact Sb.setRow_other _ _ _ g hg
        have hfin := HH.out y4 z1 pb bm bk br _ _ (by rw [hz1, size_setRow]) hoz ⟨_, HL.out⟩ hlz HA.out HB2.out HMm.out ⟨Nat.le_trans HBw.out.size HP.out, HL.out.lt, Nat.le_trans HBw.out.size HA0.out, Nat.le_trans HBw.out.size HM0.out, Nat.le_trans HBw.out.size HB0.out⟩ HNE.out (HBw.out.trans (hbz.mono HBw.out.size))
        have HFIN := Lib.hid hfin
        have HZB := Lib.hid hbz
        clear hfin hlz hoz hz1
        refine hK.out _ _ ?_ (fun hHeld => ?_)
        · exact HSS.out _ hbz
        clear hK K
        try simp only [Act.put]
        refine wpAnyH_done (by kernel_rfl) ?_ _
        obtain ⟨f0, f1, f2, f3, f4, f5⟩ := HS3.out _ hbz
        go_wp2_with fail
        refine HFIN.out.mono ?_
        rintro e w9 ⟨rfl, hb9⟩
        clear f0 f1 f2 f3 f4 f5
        go_wp2_with fail
        go_ret
        exact ⟨rfl, hb9⟩
  · go_simp
    obtain ⟨bm, hbm⟩ : ∃ b, b = W.heap.size := ⟨_, rfl⟩
    obtain ⟨y0, hy0⟩ : ∃ Y, Y = (W.alloc (.map #[] 0)).drew := ⟨_, rfl⟩
    have hby0 : Below W.heap.size W y0 := by rw [hy0]; exact (below_new W _).drew
    have HMm := Lib.hid (show KeyM y0 bm [] by rw [hy0, hbm]; exact KeyM.keep (w' := (W.alloc (.map #[] 0)).drew) (KeyM.made W) rfl (fun x hx => by cases hx))
    have HM0 := Lib.hid (show W.heap.size ≤ bm by rw [hbm]; exact Nat.le_refl _)
    rw [← hy0, ← hbm]
    clear hy0 hbm
    refine hK.out _ _ ?_ (fun hHeld => ?_)
    · exact HSS.out _ hby0
    clear hK K
    try simp only [Act.put, List.setIfInBounds_toArray, List.set_cons_zero, List.set_cons_succ]
    refine wpAnyH_ready (rs := [3, 10]) (by kernel_rfl) (by simp) ?_
    refine AllReadyH.cons (o := ⟨some 9, _, _, _, _, _⟩) rfl (fun K hK => ?_) (AllReadyH.cons (o := ⟨some 5, _, _, _, _, _⟩) rfl (fun K hK => ?_) AllReadyH.nil)
    · go_simp
      go_at_call 50
      refine (setOf_any y0 A _ (HIA.out _ (hby0)) HLA.out).mono ?_
      rintro e y1 ⟨bk, hbk0, rfl, hmm1, hbs1⟩
      have HA := Lib.hid hmm1
      have HA0 := Lib.hid (show W.heap.size ≤ bk from Nat.le_trans (hby0).size hbk0)
      have HNEbk := Lib.hid (show bm ≠ bk from by have := HMm.out.lt; omega)
      clear hmm1
      have hby1 : Below W.heap.size W y1 := (hby0).trans (hbs1.mono (hby0).size)
      have HMm := Lib.hid (HMm.out.later hbs1)
      clear hbs1
      refine hK.out _ _ ?_ (fun hHeld => ?_)
      · exact HSS.out _ hby1
      clear hK K
      try simp only [Act.put, List.setIfInBounds_toArray, List.set_cons_zero, List.set_cons_succ]
      refine wpAnyH_ready (rs := [6, 10]) (by kernel_rfl) (by simp) ?_
      refine AllReadyH.cons (o := ⟨some 12, _, _, _, _, _⟩) rfl (fun K hK => ?_) (AllReadyH.cons (o := ⟨some 5, _, _, _, _, _⟩) rfl (fun K hK => ?_) AllReadyH.nil)
      · go_simp
        go_at_call 50
        refine (setOf_any y1 R _ (HIB.out _ (hby1)) HLB.out).mono ?_
        rintro e y2 ⟨br, hbr0, rfl, hmm2, hbs2⟩
        have HB2 := Lib.hid hmm2
        have HB0 := Lib.hid (show W.heap.size ≤ br from Nat.le_trans (hby1).size hbr0)
        have HNEbr := Lib.hid (show bm ≠ br from by have := HMm.out.lt; omega)
        clear hmm2
        have hby2 : Below W.heap.size W y2 := (hby1).trans (hbs2.mono (hby1).size)
        have HA := Lib.hid (HA.out.later hbs2)
        have HMm := Lib.hid (HMm.out.later hbs2)
        have HNE := Lib.hid (And.intro HNEbk.out HNEbr.out)
        clear hbs2
        refine hK.out _ _ ?_ (fun hHeld => ?_)
        · exact HSS.out _ hby2
        clear hK K
        try simp only [Act.put, List.setIfInBounds_toArray, List.set_cons_zero, List.set_cons_succ]
        refine wpAnyH_ready (rs := [7, 10]) (by kernel_rfl) (by simp) ?_
        refine AllReadyH.cons (o := ⟨some 13, _, _, _, _, _⟩) rfl (fun K hK => ?_) (AllReadyH.cons (o := ⟨some 5, _, _, _, _, _⟩) rfl (fun K hK => ?_) AllReadyH.nil)
        · go_simp
          go_at_call 25
          refine (none_any y2).mono ?_
          unfold noneV
          rintro e y3 ⟨rfl, hbs3⟩
          have hby3 : Below W.heap.size W y3 := (hby2).trans (hbs3.mono (hby2).size)
          have HA := Lib.hid (HA.out.later hbs3)
          have HB2 := Lib.hid (HB2.out.later hbs3)
          have HMm := Lib.hid (HMm.out.later hbs3)
          clear hbs3
          refine hK.out _ _ ?_ (fun hHeld => ?_)
          · exact HSS.out _ hby3
          clear hK K
          try simp only [Act.put, List.setIfInBounds_toArray, List.set_cons_zero, List.set_cons_succ]
          refine wpAnyH_take (i := 9) (oi := ⟨some 15, _, _, _, _, _⟩) (v := ?_) rfl (by kernel_rfl) (by kernel_rfl) (by kernel_rfl) (fun _ _ _ h => h) (Or.inl ⟨by kernel_rfl, ?_⟩) (by assumption) ?_
          rotate_left
          · (intro w' hSw; (try dsimp only at hSw); go_split_ands; go_simp; first | done | with_reducible rfl)
          try simp only [Act.put, List.setIfInBounds_toArray, List.set_cons_zero, List.set_cons_succ]
          refine wpAnyH_ready (rs := [10]) (by kernel_rfl) (by simp) ?_
          refine AllReadyH.cons (o := ⟨some 5, _, _, _, _, _⟩) rfl (fun K hK => ?_) AllReadyH.nil
          go_simp
          obtain ⟨pb, hpb⟩ : ∃ b, b = (y3).heap.size := ⟨_, rfl⟩
          obtain ⟨y4, hy4⟩ : ∃ Y, Y = (y3).alloc (.cells #[.slice none 0 0, .slice none 0 0, .int .i64 0, .string ⟨#[]⟩, .int .i64 0, .slice none 0 0, .slice none 0 0, .int .i64 0, .map none, .map none, .slice none 0 0, .slice none 0 0, .slice none 0 0, .map none] 97) := ⟨_, rfl⟩
          have hbs4 : Below (y3).heap.size (y3) y4 := by rw [hy4]; exact below_new _ _
          have HL := Lib.hid (show Lies y4 pb 97 #[.slice none 0 0, .slice none 0 0, .int .i64 0, .string ⟨#[]⟩, .int .i64 0, .slice none 0 0, .slice none 0 0, .int .i64 0, .map none, .map none, .slice none 0 0, .slice none 0 0, .slice none 0 0, .map none] by rw [hy4, hpb]; exact Lies.new _ _ _)
          have HP := Lib.hid (show W.heap.size ≤ pb by rw [hpb]; exact (hby3).size)
          rw [← hy4, ← hpb]
          clear hy4 hpb
          have hby4 : Below W.heap.size W y4 := (hby3).trans (hbs4.mono (hby3).size)
          have HA := Lib.hid (HA.out.later hbs4)
          have HB2 := Lib.hid (HB2.out.later hbs4)
          have HMm := Lib.hid (HMm.out.later hbs4)
          clear hbs4
          refine hK.out _ _ ?_ (fun hHeld => ?_)
          · exact HSS.out _ hby4
          clear hK K
          try simp only [Act.put, List.setIfInBounds_toArray, List.set_cons_zero, List.set_cons_succ]
          refine wpAnyH_ready (rs := [11]) (by kernel_rfl) (by simp) ?_
          refine AllReadyH.cons (o := ⟨none, _, _, _, _, _⟩) rfl (fun K hK => ?_) AllReadyH.nil
          rw [if_pos (by kernel_rfl)]
          refine wp_store_row _ _ _ rfl (pb) #[.slice AT nT cT, .slice AR nR cR, .int .i64 k1, .string (ba nm1), .int .i64 vv1, .slice A1 n1 c1, .slice B1 m1 d1, .int .i64 rv1, .map (some bk), .map (some br), .slice none 0 0, .slice none 0 0, .slice none 0 0, .map (some bm)] rfl rfl 97 #[.slice none 0 0, .slice none 0 0, .int .i64 0, .string ⟨#[]⟩, .int .i64 0, .slice none 0 0, .slice none 0 0, .int .i64 0, .map none, .map none, .slice none 0 0, .slice none 0 0, .slice none 0 0, .map none] HL.out (by kernel_rfl) rfl (by simp [Value.oneCell']) ?_
          obtain ⟨z1, hz1⟩ : ∃ X, X = y4.setRow pb #[.slice AT nT cT, .slice AR nR cR, .int .i64 k1, .string (ba nm1), .int .i64 vv1, .slice A1 n1 c1, .slice B1 m1 d1, .int .i64 rv1, .map (some bk), .map (some br), .slice none 0 0, .slice none 0 0, .slice none 0 0, .map (some bm)] := ⟨_, rfl⟩
          rw [← hz1]
          have hbz : Below W.heap.size W z1 := by rw [hz1]; exact Sb.below_setRow (hby4) HP.out _
          have hlz : Lies z1 pb 97 #[.slice AT nT cT, .slice AR nR cR, .int .i64 k1, .string (ba nm1), .int .i64 vv1, .slice A1 n1 c1, .slice B1 m1 d1, .int .i64 rv1, .map (some bk), .map (some br), .slice none 0 0, .slice none 0 0, .slice none 0 0, .map (some bm)] := by rw [hz1]; exact Sb.setRow_at HL.out _
          have hoz : ∀ g, g ≠ pb → z1.heap[g]? = y4.heap[g]? := fun g hg => by rw [hz1]; exact Sb.setRow_other _ _ _ g hg
          have hfin := HH.out y4 z1 pb bm bk br _ _ (by rw [hz1, size_setRow]) hoz ⟨_, HL.out⟩ hlz HA.out HB2.out HMm.out ⟨Nat.le_trans HBw.out.size HP.out, HL.out.lt, Nat.le_trans HBw.out.size HA0.out, Nat.le_trans HBw.out.size HM0.out, Nat.le_trans HBw.out.size HB0.out⟩ HNE.out (HBw.out.trans (hbz.mono HBw.out.size))
          have HFIN := Lib.hid hfin
          have HZB := Lib.hid hbz
          clear hfin hlz hoz hz1
          refine hK.out _ _ ?_ (fun hHeld => ?_)
          · exact HSS.out _ hbz
          clear hK K
          try simp only [Act.put]
          refine wpAnyH_done (by kernel_rfl) ?_ _
          obtain ⟨f0, f1, f2, f3, f4, f5⟩ := HS3.out _ hbz
          go_wp2_with fail
          refine HFIN.out.mono ?_
          rintro e w9 ⟨rfl, hb9⟩
          clear f0 f1 f2 f3 f4 f5
          go_wp2_with fail
          go_ret
          exact ⟨rfl, hb9⟩
        · go_simp
          obtain ⟨pb, hpb⟩ : ∃ b, b = (y2).heap.size := ⟨_, rfl⟩
          obtain ⟨y3, hy3⟩ : ∃ Y, Y = (y2).alloc (.cells #[.slice none 0 0, .slice none 0 0, .int .i64 0, .string ⟨#[]⟩, .int .i64 0, .slice none 0 0, .slice none 0 0, .int .i64 0, .map none, .map none, .slice none 0 0, .slice none 0 0, .slice none 0 0, .map none] 97) := ⟨_, rfl⟩
          have hbs3 : Below (y2).heap.size (y2) y3 := by rw [hy3]; exact below_new _ _
          have HL := Lib.hid (show Lies y3 pb 97 #[.slice none 0 0, .slice none 0 0, .int .i64 0, .string ⟨#[]⟩, .int .i64 0, .slice none 0 0, .slice none 0 0, .int .i64 0, .map none, .map none, .slice none 0 0, .slice none 0 0, .slice none 0 0, .map none] by rw [hy3, hpb]; exact Lies.new _ _ _)
          have HP := Lib.hid (show W.heap.size ≤ pb by rw [hpb]; exact (hby2).size)
          rw [← hy3, ← hpb]
          clear hy3 hpb
          have hby3 : Below W.heap.size W y3 := (hby2).trans (hbs3.mono (hby2).size)
          have HA := Lib.hid (HA.out.later hbs3)
          have HB2 := Lib.hid (HB2.out.later hbs3)
          have HMm := Lib.hid (HMm.out.later hbs3)
          clear hbs3
          refine hK.out _ _ ?_ (fun hHeld => ?_)
          · exact HSS.out _ hby3
          clear hK K
          try simp only [Act.put, List.setIfInBounds_toArray, List.set_cons_zero, List.set_cons_succ]
          refine wpAnyH_ready (rs := [7]) (by kernel_rfl) (by simp) ?_
          refine AllReadyH.cons (o := ⟨some 13, _, _, _, _, _⟩) rfl (fun K hK => ?_) AllReadyH.nil
          go_simp
          go_at_call 25
          refine (none_any y3).mono ?_
          unfold noneV
          rintro e y4 ⟨rfl, hbs4⟩
          have hby4 : Below W.heap.size W y4 := (hby3).trans (hbs4.mono (hby3).size)
          have HA := Lib.hid (HA.out.later hbs4)
          have HB2 := Lib.hid (HB2.out.later hbs4)
          have HMm := Lib.hid (HMm.out.later hbs4)
          have HL := Lib.hid (HL.out.later hbs4)
          clear hbs4
          refine hK.out _ _ ?_ (fun hHeld => ?_)
          · exact HSS.out _ hby4
          clear hK K
          try simp only [Act.put, List.setIfInBounds_toArray, List.set_cons_zero, List.set_cons_succ]
          refine wpAnyH_take (i := 9) (oi := ⟨some 15, _, _, _, _, _⟩) (v := ?_) rfl (by kernel_rfl) (by kernel_rfl) (by kernel_rfl) (fun _ _ _ h => h) (Or.inl ⟨by kernel_rfl, ?_⟩) (by assumption) ?_
          rotate_left
          · (intro w' hSw; (try dsimp only at hSw); go_split_ands; go_simp; first | done | with_reducible rfl)
          try simp only [Act.put, List.setIfInBounds_toArray, List.set_cons_zero, List.set_cons_succ]
          refine wpAnyH_ready (rs := [11]) (by kernel_rfl) (by simp) ?_
          refine AllReadyH.cons (o := ⟨none, _, _, _, _, _⟩) rfl (fun K hK => ?_) AllReadyH.nil
          rw [if_pos (by kernel_rfl)]
          refine wp_store_row _ _ _ rfl (pb) #[.slice AT nT cT, .slice AR nR cR, .int .i64 k1, .string (ba nm1), .int .i64 vv1, .slice A1 n1 c1, .slice B1 m1 d1, .int .i64 rv1, .map (some bk), .map (some br), .slice none 0 0, .slice none 0 0, .slice none 0 0, .map (some bm)] rfl rfl 97 #[.slice none 0 0, .slice none 0 0, .int .i64 0, .string ⟨#[]⟩, .int .i64 0, .slice none 0 0, .slice none 0 0, .int .i64 0, .map none, .map none, .slice none 0 0, .slice none 0 0, .slice none 0 0, .map none] HL.out (by kernel_rfl) rfl (by simp [Value.oneCell']) ?_
          obtain ⟨z1, hz1⟩ : ∃ X, X = y4.setRow pb #[.slice AT nT cT, .slice AR nR cR, .int .i64 k1, .string (ba nm1), .int .i64 vv1, .slice A1 n1 c1, .slice B1 m1 d1, .int .i64 rv1, .map (some bk), .map (some br), .slice none 0 0, .slice none 0 0, .slice none 0 0, .map (some bm)] := ⟨_, rfl⟩
          rw [← hz1]
          have hbz : Below W.heap.size W z1 := by rw [hz1]; exact Sb.below_setRow (hby4) HP.out _
          have hlz : Lies z1 pb 97 #[.slice AT nT cT, .slice AR nR cR, .int .i64 k1, .string (ba nm1), .int .i64 vv1, .slice A1 n1 c1, .slice B1 m1 d1, .int .i64 rv1, .map (some bk), .map (some br), .slice none 0 0, .slice none 0 0, .slice none 0 0, .map (some bm)] := by rw [hz1]; exact Sb.setRow_at HL.out _
          have hoz : ∀ g, g ≠ pb → z1.heap[g]? = y4.heap[g]? := fun g hg => by rw [hz1]; exact Sb.setRow_other _ _ _ g hg
          have hfin := HH.out y4 z1 pb bm bk br _ _ (by rw [hz1, size_setRow]) hoz ⟨_, HL.out⟩ hlz HA.out HB2.out HMm.out ⟨Nat.le_trans HBw.out.size HP.out, HL.out.lt, Nat.le_trans HBw.out.size HA0.out, Nat.le_trans HBw.out.size HM0.out, Nat.le_trans HBw.out.size HB0.out⟩ HNE.out (HBw.out.trans (hbz.mono HBw.out.size))
          have HFIN := Lib.hid hfin
          have HZB := Lib.hid hbz
          clear hfin hlz hoz hz1
          refine hK.out _ _ ?_ (fun hHeld => ?_)
          · exact HSS.out _ hbz
          clear hK K
          try simp only [Act.put]
          refine wpAnyH_done (by kernel_rfl) ?_ _
          obtain ⟨f0, f1, f2, f3, f4, f5⟩ := HS3.out _ hbz
          go_wp2_with fail
          refine HFIN.out.mono ?_
          rintro e w9 ⟨rfl, hb9⟩
          clear f0 f1 f2 f3 f4 f5
          go_wp2_with fail
          go_ret
          exact ⟨rfl, hb9⟩
      · go_simp
        obtain ⟨pb, hpb⟩ : ∃ b, b = (y1).heap.size := ⟨_, rfl⟩
        obtain ⟨y2, hy2⟩ : ∃ Y, Y = (y1).alloc (.cells #[.slice none 0 0, .slice none 0 0, .int .i64 0, .string ⟨#[]⟩, .int .i64 0, .slice none 0 0, .slice none 0 0, .int .i64 0, .map none, .map none, .slice none 0 0, .slice none 0 0, .slice none 0 0, .map none] 97) := ⟨_, rfl⟩
        have hbs2 : Below (y1).heap.size (y1) y2 := by rw [hy2]; exact below_new _ _
        have HL := Lib.hid (show Lies y2 pb 97 #[.slice none 0 0, .slice none 0 0, .int .i64 0, .string ⟨#[]⟩, .int .i64 0, .slice none 0 0, .slice none 0 0, .int .i64 0, .map none, .map none, .slice none 0 0, .slice none 0 0, .slice none 0 0, .map none] by rw [hy2, hpb]; exact Lies.new _ _ _)
        have HP := Lib.hid (show W.heap.size ≤ pb by rw [hpb]; exact (hby1).size)
        rw [← hy2, ← hpb]
        clear hy2 hpb
        have hby2 : Below W.heap.size W y2 := (hby1).trans (hbs2.mono (hby1).size)
        have HA := Lib.hid (HA.out.later hbs2)
        have HMm := Lib.hid (HMm.out.later hbs2)
        clear hbs2
        refine hK.out _ _ ?_ (fun hHeld => ?_)
        · exact HSS.out _ hby2
        clear hK K
        try simp only [Act.put, List.setIfInBounds_toArray, List.set_cons_zero, List.set_cons_succ]
        refine wpAnyH_ready (rs := [6]) (by kernel_rfl) (by simp) ?_
        refine AllReadyH.cons (o := ⟨some 12, _, _, _, _, _⟩) rfl (fun K hK => ?_) AllReadyH.nil
        go_simp
        go_at_call 50
        refine (setOf_any y2 R _ (HIB.out _ (hby2)) HLB.out).mono ?_
        rintro e y3 ⟨br, hbr0, rfl, hmm3, hbs3⟩
        have HB2 := Lib.hid hmm3
        have HB0 := Lib.hid (show W.heap.size ≤ br from Nat.le_trans (hby2).size hbr0)
        have HNEbr := Lib.hid (show bm ≠ br from by have := HMm.out.lt; omega)
        clear hmm3
        have hby3 : Below W.heap.size W y3 := (hby2).trans (hbs3.mono (hby2).size)
        have HA := Lib.hid (HA.out.later hbs3)
        have HMm := Lib.hid (HMm.out.later hbs3)
        have HL := Lib.hid (HL.out.later hbs3)
        have HNE := Lib.hid (And.intro HNEbk.out HNEbr.out)
        clear hbs3
        refine hK.out _ _ ?_ (fun hHeld => ?_)
        · exact HSS.out _ hby3
        clear hK K
        try simp only [Act.put, List.setIfInBounds_toArray, List.set_cons_zero, List.set_cons_succ]
        refine wpAnyH_ready (rs := [7]) (by kernel_rfl) (by simp) ?_
        refine AllReadyH.cons (o := ⟨some 13, _, _, _, _, _⟩) rfl (fun K hK => ?_) AllReadyH.nil
        go_simp
        go_at_call 25
        refine (none_any y3).mono ?_
        unfold noneV
        rintro e y4 ⟨rfl, hbs4⟩
        have hby4 : Below W.heap.size W y4 := (hby3).trans (hbs4.mono (hby3).size)
        have HA := Lib.hid (HA.out.later hbs4)
        have HB2 := Lib.hid (HB2.out.later hbs4)
        have HMm := Lib.hid (HMm.out.later hbs4)
        have HL := Lib.hid (HL.out.later hbs4)
        clear hbs4
        refine hK.out _ _ ?_ (fun hHeld => ?_)
        · exact HSS.out _ hby4
        clear hK K
        try simp only [Act.put, List.setIfInBounds_toArray, List.set_cons_zero, List.set_cons_succ]
        refine wpAnyH_take (i := 9) (oi := ⟨some 15, _, _, _, _, _⟩) (v := ?_) rfl (by kernel_rfl) (by kernel_rfl) (by kernel_rfl) (fun _ _ _ h => h) (Or.inl ⟨by kernel_rfl, ?_⟩) (by assumption) ?_
        rotate_left
        · (intro w' hSw; (try dsimp only at hSw); go_split_ands; go_simp; first | done | with_reducible rfl)
        try simp only [Act.put, List.setIfInBounds_toArray, List.set_cons_zero, List.set_cons_succ]
        refine wpAnyH_ready (rs := [11]) (by kernel_rfl) (by simp) ?_
        refine AllReadyH.cons (o := ⟨none, _, _, _, _, _⟩) rfl (fun K hK => ?_) AllReadyH.nil
        rw [if_pos (by kernel_rfl)]
        refine wp_store_row _ _ _ rfl (pb) #[.slice AT nT cT, .slice AR nR cR, .int .i64 k1, .string (ba nm1), .int .i64 vv1, .slice A1 n1 c1, .slice B1 m1 d1, .int .i64 rv1, .map (some bk), .map (some br), .slice none 0 0, .slice none 0 0, .slice none 0 0, .map (some bm)] rfl rfl 97 #[.slice none 0 0, .slice none 0 0, .int .i64 0, .string ⟨#[]⟩, .int .i64 0, .slice none 0 0, .slice none 0 0, .int .i64 0, .map none, .map none, .slice none 0 0, .slice none 0 0, .slice none 0 0, .map none] HL.out (by kernel_rfl) rfl (by simp [Value.oneCell']) ?_
        obtain ⟨z1, hz1⟩ : ∃ X, X = y4.setRow pb #[.slice AT nT cT, .slice AR nR cR, .int .i64 k1, .string (ba nm1), .int .i64 vv1, .slice A1 n1 c1, .slice B1 m1 d1, .int .i64 rv1, .map (some bk), .map (some br), .slice none 0 0, .slice none 0 0, .slice none 0 0, .map (some bm)] := ⟨_, rfl⟩
        rw [← hz1]
        have hbz : Below W.heap.size W z1 := by rw [hz1]; exact Sb.below_setRow (hby4) HP.out _
        have hlz : Lies z1 pb 97 #[.slice AT nT cT, .slice AR nR cR, .int .i64 k1, .string (ba nm1), .int .i64 vv1, .slice A1 n1 c1, .slice B1 m1 d1, .int .i64 rv1, .map (some bk), .map (some br), .slice none 0 0, .slice none 0 0, .slice none 0 0, .map (some bm)] := by rw [hz1]; exact Sb.setRow_at HL.out _
        have hoz : ∀ g, g ≠ pb → z1.heap[g]? = y4.heap[g]? := fun g hg => by rw [hz1]; exact Sb.setRow_other _ _ _ g hg
        have hfin := HH.out y4 z1 pb bm bk br _ _ (by rw [hz1, size_setRow]) hoz ⟨_, HL.out⟩ hlz HA.out HB2.out HMm.out ⟨Nat.le_trans HBw.out.size HP.out, HL.out.lt, Nat.le_trans HBw.out.size HA0.out, Nat.le_trans HBw.out.size HM0.out, Nat.le_trans HBw.out.size HB0.out⟩ HNE.out (HBw.out.trans (hbz.mono HBw.out.size))
        have HFIN := Lib.hid hfin
        have HZB := Lib.hid hbz
        clear hfin hlz hoz hz1
        refine hK.out _ _ ?_ (fun hHeld => ?_)
        · exact HSS.out _ hbz
        clear hK K
        try simp only [Act.put]
        refine wpAnyH_done (by kernel_rfl) ?_ _
        obtain ⟨f0, f1, f2, f3, f4, f5⟩ := HS3.out _ hbz
        go_wp2_with fail
        refine HFIN.out.mono ?_
        rintro e w9 ⟨rfl, hb9⟩
        clear f0 f1 f2 f3 f4 f5
        go_wp2_with fail
        go_ret
        exact ⟨rfl, hb9⟩
    · go_simp
      obtain ⟨pb, hpb⟩ : ∃ b, b = (y0).heap.size := ⟨_, rfl⟩
      obtain ⟨y1, hy1⟩ : ∃ Y, Y = (y0).alloc (.cells #[.slice none 0 0, .slice none 0 0, .int .i64 0, .string ⟨#[]⟩, .int .i64 0, .slice none 0 0, .slice none 0 0, .int .i64 0, .map none, .map none, .slice none 0 0, .slice none 0 0, .slice none 0 0, .map none] 97) := ⟨_, rfl⟩
      have hbs1 : Below (y0).heap.size (y0) y1 := by rw [hy1]; exact below_new _ _
      have HL := Lib.hid (show Lies y1 pb 97 #[.slice none 0 0, .slice none 0 0, .int .i64 0, .string ⟨#[]⟩, .int .i64 0, .slice none 0 0, .slice none 0 0, .int .i64 0, .map none, .map none, .slice none 0 0, .slice none 0 0, .slice none 0 0, .map none] by rw [hy1, hpb]; exact Lies.new _ _ _)
      have HP := Lib.hid (show W.heap.size ≤ pb by rw [hpb]; exact (hby0).size)
      rw [← hy1, ← hpb]
      clear hy1 hpb
      have hby1 : Below W.heap.size W y1 := (hby0).trans (hbs1.mono (hby0).size)
      have HMm := Lib.hid (HMm.out.later hbs1)
      clear hbs1
      refine hK.out _ _ ?_ (fun hHeld => ?_)
      · exact HSS.out _ hby1
      clear hK K
      try simp only [Act.put, List.setIfInBounds_toArray, List.set_cons_zero, List.set_cons_succ]
      refine wpAnyH_ready (rs := [3]) (by kernel_rfl) (by simp) ?_
      refine AllReadyH.cons (o := ⟨some 9, _, _, _, _, _⟩) rfl (fun K hK => ?_) AllReadyH.nil
      go_simp
      go_at_call 50
      refine (setOf_any y1 A _ (HIA.out _ (hby1)) HLA.out).mono ?_
      rintro e y2 ⟨bk, hbk0, rfl, hmm2, hbs2⟩
      have HA := Lib.hid hmm2
      have HA0 := Lib.hid (show W.heap.size ≤ bk from Nat.le_trans (hby1).size hbk0)
      have HNEbk := Lib.hid (show bm ≠ bk from by have := HMm.out.lt; omega)
      clear hmm2
      have hby2 : Below W.heap.size W y2 := (hby1).trans (hbs2.mono (hby1).size)
      have HMm := Lib.hid (HMm.out.later hbs2)
      have HL := Lib.hid (HL.out.later hbs2)
      clear hbs2
      refine hK.out _ _ ?_ (fun hHeld => ?_)
      · exact HSS.out _ hby2
      clear hK K
      try simp only [Act.put, List.setIfInBounds_toArray, List.set_cons_zero, List.set_cons_succ]
      refine wpAnyH_ready (rs := [6]) (by kernel_rfl) (by simp) ?_
      refine AllReadyH.cons (o := ⟨some 12, _, _, _, _, _⟩) rfl (fun K hK => ?_) AllReadyH.nil
      go_simp
      go_at_call 50
      refine (setOf_any y2 R _ (HIB.out _ (hby2)) HLB.out).mono ?_
      rintro e y3 ⟨br, hbr0, rfl, hmm3, hbs3⟩
      have HB2 := Lib.hid hmm3
      have HB0 := Lib.hid (show W.heap.size ≤ br from Nat.le_trans (hby2).size hbr0)
      have HNEbr := Lib.hid (show bm ≠ br from by have := HMm.out.lt; omega)
      clear hmm3
      have hby3 : Below W.heap.size W y3 := (hby2).trans (hbs3.mono (hby2).size)
      have HA := Lib.hid (HA.out.later hbs3)
      have HMm := Lib.hid (HMm.out.later hbs3)
      have HL := Lib.hid (HL.out.later hbs3)
      have HNE := Lib.hid (And.intro HNEbk.out HNEbr.out)
      clear hbs3
      refine hK.out _ _ ?_ (fun hHeld => ?_)
      · exact HSS.out _ hby3
      clear hK K
      try simp only [Act.put, List.setIfInBounds_toArray, List.set_cons_zero, List.set_cons_succ]
      refine wpAnyH_ready (rs := [7]) (by kernel_rfl) (by simp) ?_
      refine AllReadyH.cons (o := ⟨some 13, _, _, _, _, _⟩) rfl (fun K hK => ?_) AllReadyH.nil
      go_simp
      go_at_call 25
      refine (none_any y3).mono ?_
      unfold noneV
      rintro e y4 ⟨rfl, hbs4⟩
      have hby4 : Below W.heap.size W y4 := (hby3).trans (hbs4.mono (hby3).size)
      have HA := Lib.hid (HA.out.later hbs4)
      have HB2 := Lib.hid (HB2.out.later hbs4)
      have HMm := Lib.hid (HMm.out.later hbs4)
      have HL := Lib.hid (HL.out.later hbs4)
      clear hbs4
      refine hK.out _ _ ?_ (fun hHeld => ?_)
      · exact HSS.out _ hby4
      clear hK K
      try simp only [Act.put, List.setIfInBounds_toArray, List.set_cons_zero, List.set_cons_succ]
      refine wpAnyH_take (i := 9) (oi := ⟨some 15, _, _, _, _, _⟩) (v := ?_) rfl (by kernel_rfl) (by kernel_rfl) (by kernel_rfl) (fun _ _ _ h => h) (Or.inl ⟨by kernel_rfl, ?_⟩) (by assumption) ?_
      rotate_left
      · (intro w' hSw; (try dsimp only at hSw); go_split_ands; go_simp; first | done | with_reducible rfl)
      try simp only [Act.put, List.setIfInBounds_toArray, List.set_cons_zero, List.set_cons_succ]
      refine wpAnyH_ready (rs := [11]) (by kernel_rfl) (by simp) ?_
      refine AllReadyH.cons (o := ⟨none, _, _, _, _, _⟩) rfl (fun K hK => ?_) AllReadyH.nil
      rw [if_pos (by kernel_rfl)]
      refine wp_store_row _ _ _ rfl (pb) #[.slice AT nT cT, .slice AR nR cR, .int .i64 k1, .string (ba nm1), .int .i64 vv1, .slice A1 n1 c1, .slice B1 m1 d1, .int .i64 rv1, .map (some bk), .map (some br), .slice none 0 0, .slice none 0 0, .slice none 0 0, .map (some bm)] rfl rfl 97 #[.slice none 0 0, .slice none 0 0, .int .i64 0, .string ⟨#[]⟩, .int .i64 0, .slice none 0 0, .slice none 0 0, .int .i64 0, .map none, .map none, .slice none 0 0, .slice none 0 0, .slice none 0 0, .map none] HL.out (by kernel_rfl) rfl (by simp [Value.oneCell']) ?_
      obtain ⟨z1, hz1⟩ : ∃ X, X = y4.setRow pb #[.slice AT nT cT, .slice AR nR cR, .int .i64 k1, .string (ba nm1), .int .i64 vv1, .slice A1 n1 c1, .slice B1 m1 d1, .int .i64 rv1, .map (some bk), .map (some br), .slice none 0 0, .slice none 0 0, .slice none 0 0, .map (some bm)] := ⟨_, rfl⟩
      rw [← hz1]
      have hbz : Below W.heap.size W z1 := by rw [hz1]; exact Sb.below_setRow (hby4) HP.out _
      have hlz : Lies z1 pb 97 #[.slice AT nT cT, .slice AR nR cR, .int .i64 k1, .string (ba nm1), .int .i64 vv1, .slice A1 n1 c1, .slice B1 m1 d1, .int .i64 rv1, .map (some bk), .map (some br), .slice none 0 0, .slice none 0 0, .slice none 0 0, .map (some bm)] := by rw [hz1]; exact Sb.setRow_at HL.out _
      have hoz : ∀ g, g ≠ pb → z1.heap[g]? = y4.heap[g]? := fun g hg => by rw [hz1]; exact Sb.setRow_other _ _ _ g hg
      have hfin := HH.out y4 z1 pb bm bk br _ _ (by rw [hz1, size_setRow]) hoz ⟨_, HL.out⟩ hlz HA.out HB2.out HMm.out ⟨Nat.le_trans HBw.out.size HP.out, HL.out.lt, Nat.le_trans HBw.out.size HA0.out, Nat.le_trans HBw.out.size HM0.out, Nat.le_trans HBw.out.size HB0.out⟩ HNE.out (HBw.out.trans (hbz.mono HBw.out.size))
      have HFIN := Lib.hid hfin
      have HZB := Lib.hid hbz
      clear hfin hlz hoz hz1
      refine hK.out _ _ ?_ (fun hHeld => ?_)
      · exact HSS.out _ hbz
      clear hK K
      try simp only [Act.put]
      refine wpAnyH_done (by kernel_rfl) ?_ _
      obtain ⟨f0, f1, f2, f3, f4, f5⟩ := HS3.out _ hbz
      go_wp2_with fail
      refine HFIN.out.mono ?_
      rintro e w9 ⟨rfl, hb9⟩
      clear f0 f1 f2 f3 f4 f5
      go_wp2_with fail
      go_ret
      exact ⟨rfl, hb9⟩
  · go_simp
    obtain ⟨pb, hpb⟩ : ∃ b, b = W.heap.size := ⟨_, rfl⟩
    obtain ⟨y0, hy0⟩ : ∃ Y, Y = (W.alloc (.cells #[.slice none 0 0, .slice none 0 0, .int .i64 0, .string ⟨#[]⟩, .int .i64 0, .slice none 0 0, .slice none 0 0, .int .i64 0, .map none, .map none, .slice none 0 0, .slice none 0 0, .slice none 0 0, .map none] 97)).drew := ⟨_, rfl⟩
    have hby0 : Below W.heap.size W y0 := by rw [hy0]; exact (below_new W _).drew
    have HL := Lib.hid (show Lies y0 pb 97 #[.slice none 0 0, .slice none 0 0, .int .i64 0, .string ⟨#[]⟩, .int .i64 0, .slice none 0 0, .slice none 0 0, .int .i64 0, .map none, .map none, .slice none 0 0, .slice none 0 0, .slice none 0 0, .map none] by rw [hy0, hpb]; exact Lies.new W _ _)
    have HP := Lib.hid (show W.heap.size ≤ pb by rw [hpb]; exact Nat.le_refl _)
    rw [← hy0, ← hpb]
    clear hy0 hpb
    refine hK.out _ _ ?_ (fun hHeld => ?_)
    · exact HSS.out _ hby0
    clear hK K
    try simp only [Act.put, List.setIfInBounds_toArray, List.set_cons_zero, List.set_cons_succ]
    refine wpAnyH_ready (rs := [3, 8]) (by kernel_rfl) (by simp) ?_
    refine AllReadyH.cons (o := ⟨some 9, _, _, _, _, _⟩) rfl (fun K hK => ?_) (AllReadyH.cons (o := ⟨some 14, _, _, _, _, _⟩) rfl (fun K hK => ?_) AllReadyH.nil)
    · go_simp
      go_at_call 50
      refine (setOf_any y0 A _ (HIA.out _ (hby0)) HLA.out).mono ?_
      rintro e y1 ⟨bk, hbk0, rfl, hmm1, hbs1⟩
      have HA := Lib.hid hmm1
      have HA0 := Lib.hid (show W.heap.size ≤ bk from Nat.le_trans (hby0).size hbk0)
      clear hmm1
      have hby1 : Below W.heap.size W y1 := (hby0).trans (hbs1.mono (hby0).size)
      have HL := Lib.hid (HL.out.later hbs1)
      clear hbs1
      refine hK.out _ _ ?_ (fun hHeld => ?_)
      · exact HSS.out _ hby1
      clear hK K
      try simp only [Act.put, List.setIfInBounds_toArray, List.set_cons_zero, List.set_cons_succ]
      refine wpAnyH_ready (rs := [6, 8]) (by kernel_rfl) (by simp) ?_
      refine AllReadyH.cons (o := ⟨some 12, _, _, _, _, _⟩) rfl (fun K hK => ?_) (AllReadyH.cons (o := ⟨some 14, _, _, _, _, _⟩) rfl (fun K hK => ?_) AllReadyH.nil)
      · go_simp
        go_at_call 50
        refine (setOf_any y1 R _ (HIB.out _ (hby1)) HLB.out).mono ?_
        rintro e y2 ⟨br, hbr0, rfl, hmm2, hbs2⟩
        have HB2 := Lib.hid hmm2
        have HB0 := Lib.hid (show W.heap.size ≤ br from Nat.le_trans (hby1).size hbr0)
        clear hmm2
        have hby2 : Below W.heap.size W y2 := (hby1).trans (hbs2.mono (hby1).size)
        have HA := Lib.hid (HA.out.later hbs2)
        have HL := Lib.hid (HL.out.later hbs2)
        clear hbs2
        refine hK.out _ _ ?_ (fun hHeld => ?_)
        · exact HSS.out _ hby2
        clear hK K
        try simp only [Act.put, List.setIfInBounds_toArray, List.set_cons_zero, List.set_cons_succ]
        refine wpAnyH_ready (rs := [7, 8]) (by kernel_rfl) (by simp) ?_
        refine AllReadyH.cons (o := ⟨some 13, _, _, _, _, _⟩) rfl (fun K hK => ?_) (AllReadyH.cons (o := ⟨some 14, _, _, _, _, _⟩) rfl (fun K hK => ?_) AllReadyH.nil)
        · go_simp
          go_at_call 25
          refine (none_any y2).mono ?_
          unfold noneV
          rintro e y3 ⟨rfl, hbs3⟩
          have hby3 : Below W.heap.size W y3 := (hby2).trans (hbs3.mono (hby2).size)
          have HA := Lib.hid (HA.out.later hbs3)
          have HB2 := Lib.hid (HB2.out.later hbs3)
          have HL := Lib.hid (HL.out.later hbs3)
          clear hbs3
          refine hK.out _ _ ?_ (fun hHeld => ?_)
          · exact HSS.out _ hby3
          clear hK K
          try simp only [Act.put, List.setIfInBounds_toArray, List.set_cons_zero, List.set_cons_succ]
          refine wpAnyH_ready (rs := [8]) (by kernel_rfl) (by simp) ?_
          refine AllReadyH.cons (o := ⟨some 14, _, _, _, _, _⟩) rfl (fun K hK => ?_) AllReadyH.nil
          go_simp
          obtain ⟨bm, hbm⟩ : ∃ b, b = (y3).heap.size := ⟨_, rfl⟩
          obtain ⟨y4, hy4⟩ : ∃ Y, Y = (y3).alloc (.map #[] 0) := ⟨_, rfl⟩
          have hbs4 : Below (y3).heap.size (y3) y4 := by rw [hy4]; exact below_new _ _
          have HMm := Lib.hid (show KeyM y4 bm [] by rw [hy4, hbm]; exact KeyM.made _)
          have HM0 := Lib.hid (show W.heap.size ≤ bm by rw [hbm]; exact (hby3).size)
          have HNEbk := Lib.hid (show bm ≠ bk by rw [hbm]; exact Nat.ne_of_gt HA.out.lt)
          have HNEbr := Lib.hid (show bm ≠ br by rw [hbm]; exact Nat.ne_of_gt HB2.out.lt)
          (try simp only [World.size_drew])
          rw [← hy4, ← hbm]
          clear hy4 hbm
          have hby4 : Below W.heap.size W y4 := (hby3).trans (hbs4.mono (hby3).size)
          have HA := Lib.hid (HA.out.later hbs4)
          have HB2 := Lib.hid (HB2.out.later hbs4)
          have HL := Lib.hid (HL.out.later hbs4)
          have HNE := Lib.hid (And.intro HNEbk.out HNEbr.out)
          clear hbs4
          refine hK.out _ _ ?_ (fun hHeld => ?_)
          · exact HSS.out _ hby4
          clear hK K
          try simp only [Act.put, List.setIfInBounds_toArray, List.set_cons_zero, List.set_cons_succ]
          refine wpAnyH_take (i := 9) (oi := ⟨some 15, _, _, _, _, _⟩) (v := ?_) rfl (by kernel_rfl) (by kernel_rfl) (by kernel_rfl) (fun _ _ _ h => h) (Or.inl ⟨by kernel_rfl, ?_⟩) (by assumption) ?_
          rotate_left
          · (intro w' hSw; (try dsimp only at hSw); go_split_ands; go_simp; first | done | with_reducible rfl)
          try simp only [Act.put, List.setIfInBounds_toArray, List.set_cons_zero, List.set_cons_succ]
          refine wpAnyH_ready (rs := [11]) (by kernel_rfl) (by simp) ?_
          refine AllReadyH.cons (o := ⟨none, _, _, _, _, _⟩) rfl (fun K hK => ?_) AllReadyH.nil
          rw [if_pos (by kernel_rfl)]
          refine wp_store_row _ _ _ rfl (pb) #[.slice AT nT cT, .slice AR nR cR, .int .i64 k1, .string (ba nm1), .int .i64 vv1, .slice A1 n1 c1, .slice B1 m1 d1, .int .i64 rv1, .map (some bk), .map (some br), .slice none 0 0, .slice none 0 0, .slice none 0 0, .map (some bm)] rfl rfl 97 #[.slice none 0 0, .slice none 0 0, .int .i64 0, .string ⟨#[]⟩, .int .i64 0, .slice none 0 0, .slice none 0 0, .int .i64 0, .map none, .map none, .slice none 0 0, .slice none 0 0, .slice none 0 0, .map none] HL.out (by kernel_rfl) rfl (by simp [Value.oneCell']) ?_
          obtain ⟨z1, hz1⟩ : ∃ X, X = y4.setRow pb #[.slice AT nT cT, .slice AR nR cR, .int .i64 k1, .string (ba nm1), .int .i64 vv1, .slice A1 n1 c1, .slice B1 m1 d1, .int .i64 rv1, .map (some bk), .map (some br), .slice none 0 0, .slice none 0 0, .slice none 0 0, .map (some bm)] := ⟨_, rfl⟩
          rw [← hz1]
          have hbz : Below W.heap.size W z1 := by rw [hz1]; exact Sb.below_setRow (hby4) HP.out _
          have hlz : Lies z1 pb 97 #[.slice AT nT cT, .slice AR nR cR, .int .i64 k1, .string (ba nm1), .int .i64 vv1, .slice A1 n1 c1, .slice B1 m1 d1, .int .i64 rv1, .map (some bk), .map (some br), .slice none 0 0, .slice none 0 0, .slice none 0 0, .map (some bm)] := by rw [hz1]; exact Sb.setRow_at HL.out _
          have hoz : ∀ g, g ≠ pb → z1.heap[g]? = y4.heap[g]? := fun g hg => by rw [hz1]; exact Sb.setRow_other _ _ _ g hg
          have hfin := HH.out y4 z1 pb bm bk br _ _ (by rw [hz1, size_setRow]) hoz ⟨_, HL.out⟩ hlz HA.out HB2.out HMm.out ⟨Nat.le_trans HBw.out.size HP.out, HL.out.lt, Nat.le_trans HBw.out.size HA0.out, Nat.le_trans HBw.out.size HM0.out, Nat.le_trans HBw.out.size HB0.out⟩ HNE.out (HBw.out.trans (hbz.mono HBw.out.size))
          have HFIN := Lib.hid hfin
          have HZB := Lib.hid hbz
          clear hfin hlz hoz hz1
          refine hK.out _ _ ?_ (fun hHeld => ?_)
          · exact HSS.out _ hbz
          clear hK K
          try simp only [Act.put]
          refine wpAnyH_done (by kernel_rfl) ?_ _
          obtain ⟨f0, f1, f2, f3, f4, f5⟩ := HS3.out _ hbz
          go_wp2_with fail
          refine HFIN.out.mono ?_
          rintro e w9 ⟨rfl, hb9⟩
          clear f0 f1 f2 f3 f4 f5
          go_wp2_with fail
          go_ret
          exact ⟨rfl, hb9⟩
        · go_simp
          obtain ⟨bm, hbm⟩ : ∃ b, b = (y2).heap.size := ⟨_, rfl⟩
          obtain ⟨y3, hy3⟩ : ∃ Y, Y = (y2).alloc (.map #[] 0) := ⟨_, rfl⟩
          have hbs3 : Below (y2).heap.size (y2) y3 := by rw [hy3]; exact below_new _ _
          have HMm := Lib.hid (show KeyM y3 bm [] by rw [hy3, hbm]; exact KeyM.made _)
          have HM0 := Lib.hid (show W.heap.size ≤ bm by rw [hbm]; exact (hby2).size)
          have HNEbk := Lib.hid (show bm ≠ bk by rw [hbm]; exact Nat.ne_of_gt HA.out.lt)
          have HNEbr := Lib.hid (show bm ≠ br by rw [hbm]; exact Nat.ne_of_gt HB2.out.lt)
          (try simp only [World.size_drew])
          rw [← hy3, ← hbm]
          clear hy3 hbm
          have hby3 : Below W.heap.size W y3 := (hby2).trans (hbs3.mono (hby2).size)
          have HA := Lib.hid (HA.out.later hbs3)
          have HB2 := Lib.hid (HB2.out.later hbs3)
          have HL := Lib.hid (HL.out.later hbs3)
          have HNE := Lib.hid (And.intro HNEbk.out HNEbr.out)
          clear hbs3
          refine hK.out _ _ ?_ (fun hHeld => ?_)
          · exact HSS.out _ hby3
          clear hK K
          try simp only [Act.put, List.setIfInBounds_toArray, List.set_cons_zero, List.set_cons_succ]
          refine wpAnyH_ready (rs := [7]) (by kernel_rfl) (by simp) ?_
          refine AllReadyH.cons (o := ⟨some 13, _, _, _, _, _⟩) rfl (fun K hK => ?_) AllReadyH.nil
          go_simp
          go_at_call 25
          refine (none_any y3).mono ?_
          unfold noneV
          rintro e y4 ⟨rfl, hbs4⟩
          have hby4 : Below W.heap.size W y4 := (hby3).trans (hbs4.mono (hby3).size)
          have HA := Lib.hid (HA.out.later hbs4)
          have HB2 := Lib.hid (HB2.out.later hbs4)
          have HMm := Lib.hid (HMm.out.later hbs4)
          have HL := Lib.hid (HL.out.later hbs4)
          clear hbs4
          refine hK.out _ _ ?_ (fun hHeld => ?_)
          · exact HSS.out _ hby4
          clear hK K
          try simp only [Act.put, List.setIfInBounds_toArray, List.set_cons_zero, List.set_cons_succ]
          refine wpAnyH_take (i := 9) (oi := ⟨some 15, _, _, _, _, _⟩) (v := ?_) rfl (by kernel_rfl) (by kernel_rfl) (by kernel_rfl) (fun _ _ _ h => h) (Or.inl ⟨by kernel_rfl, ?_⟩) (by assumption) ?_
          rotate_left
          · (intro w' hSw; (try dsimp only at hSw); go_split_ands; go_simp; first | done | with_reducible rfl)
          try simp only [Act.put, List.setIfInBounds_toArray, List.set_cons_zero, List.set_cons_succ]
          refine wpAnyH_ready (rs := [11]) (by kernel_rfl) (by simp) ?_
          refine AllReadyH.cons (o := ⟨none, _, _, _, _, _⟩) rfl (fun K hK => ?_) AllReadyH.nil
          rw [if_pos (by kernel_rfl)]
          refine wp_store_row _ _ _ rfl (pb) #[.slice AT nT cT, .slice AR nR cR, .int .i64 k1, .string (ba nm1), .int .i64 vv1, .slice A1 n1 c1, .slice B1 m1 d1, .int .i64 rv1, .map (some bk), .map (some br), .slice none 0 0, .slice none 0 0, .slice none 0 0, .map (some bm)] rfl rfl 97 #[.slice none 0 0, .slice none 0 0, .int .i64 0, .string ⟨#[]⟩, .int .i64 0, .slice none 0 0, .slice none 0 0, .int .i64 0, .map none, .map none, .slice none 0 0, .slice none 0 0, .slice none 0 0, .map none] HL.out (by kernel_rfl) rfl (by simp [Value.oneCell']) ?_
          obtain ⟨z1, hz1⟩ : ∃ X, X = y4.setRow pb #[.slice AT nT cT, .slice AR nR cR, .int .i64 k1, .string (ba nm1), .int .i64 vv1, .slice A1 n1 c1, .slice B1 m1 d1, .int .i64 rv1, .map (some bk), .map (some br), .slice none 0 0, .slice none 0 0, .slice none 0 0, .map (some bm)] := ⟨_, rfl⟩
          rw [← hz1]
          have hbz : Below W.heap.size W z1 := by rw [hz1]; exact Sb.below_setRow (hby4) HP.out _
          have hlz : Lies z1 pb 97 #[.slice AT nT cT, .slice AR nR cR, .int .i64 k1, .string (ba nm1), .int .i64 vv1, .slice A1 n1 c1, .slice B1 m1 d1, .int .i64 rv1, .map (some bk), .map (some br), .slice none 0 0, .slice none 0 0, .slice none 0 0, .map (some bm)] := by rw [hz1]; exact Sb.setRow_at HL.out _
          have hoz : ∀ g, g ≠ pb → z1.heap[g]? = y4.heap[g]? := fun g hg => by rw [hz1]; exact Sb.setRow_other _ _ _ g hg
          have hfin := HH.out y4 z1 pb bm bk br _ _ (by rw [hz1, size_setRow]) hoz ⟨_, HL.out⟩ hlz HA.out HB2.out HMm.out ⟨Nat.le_trans HBw.out.size HP.out, HL.out.lt, Nat.le_trans HBw.out.size HA0.out, Nat.le_trans HBw.out.size HM0.out, Nat.le_trans HBw.out.size HB0.out⟩ HNE.out (HBw.out.trans (hbz.mono HBw.out.size))
          have HFIN := Lib.hid hfin
          have HZB := Lib.hid hbz
          clear hfin hlz hoz hz1
          refine hK.out _ _ ?_ (fun hHeld => ?_)
          · exact HSS.out _ hbz
          clear hK K
          try simp only [Act.put]
          refine wpAnyH_done (by kernel_rfl) ?_ _
          obtain ⟨f0, f1, f2, f3, f4, f5⟩ := HS3.out _ hbz
          go_wp2_with fail
          refine HFIN.out.mono ?_
          rintro e w9 ⟨rfl, hb9⟩
          clear f0 f1 f2 f3 f4 f5
          go_wp2_with fail
          go_ret
          exact ⟨rfl, hb9⟩
      · go_simp
        obtain ⟨bm, hbm⟩ : ∃ b, b = (y1).heap.size := ⟨_, rfl⟩
        obtain ⟨y2, hy2⟩ : ∃ Y, Y = (y1).alloc (.map #[] 0) := ⟨_, rfl⟩
        have hbs2 : Below (y1).heap.size (y1) y2 := by rw [hy2]; exact below_new _ _
        have HMm := Lib.hid (show KeyM y2 bm [] by rw [hy2, hbm]; exact KeyM.made _)
        have HM0 := Lib.hid (show W.heap.size ≤ bm by rw [hbm]; exact (hby1).size)
        have HNEbk := Lib.hid (show bm ≠ bk by rw [hbm]; exact Nat.ne_of_gt HA.out.lt)
        (try simp only [World.size_drew])
        rw [← hy2, ← hbm]
        clear hy2 hbm
        have hby2 : Below W.heap.size W y2 := (hby1).trans (hbs2.mono (hby1).size)
        have HA := Lib.hid (HA.out.later hbs2)
        have HL := Lib.hid (HL.out.later hbs2)
        clear hbs2
        refine hK.out _ _ ?_ (fun hHeld => ?_)
        · exact HSS.out _ hby2
        clear hK K
        try simp only [Act.put, List.setIfInBounds_toArray, List.set_cons_zero, List.set_cons_succ]
        refine wpAnyH_ready (rs := [6]) (by kernel_rfl) (by simp) ?_
        refine AllReadyH.cons (o := ⟨some 12, _, _, _, _, _⟩) rfl (fun K hK => ?_) AllReadyH.nil
        go_simp
        go_at_call 50
        refine (setOf_any y2 R _ (HIB.out _ (hby2)) HLB.out).mono ?_
        rintro e y3 ⟨br, hbr0, rfl, hmm3, hbs3⟩
        have HB2 := Lib.hid hmm3
        have HB0 := Lib.hid (show W.heap.size ≤ br from Nat.le_trans (hby2).size hbr0)
        have HNEbr := Lib.hid (show bm ≠ br from by have := HMm.out.lt; omega)
        clear hmm3
        have hby3 : Below W.heap.size W y3 := (hby2).trans (hbs3.mono (hby2).size)
        have HA := Lib.hid (HA.out.later hbs3)
        have HMm := Lib.hid (HMm.out.later hbs3)
        have HL := Lib.hid (HL.out.later hbs3)
        have HNE := Lib.hid (And.intro HNEbk.out HNEbr.out)
        clear hbs3
        refine hK.out _ _ ?_ (fun hHeld => ?_)
        · exact HSS.out _ hby3
        clear hK K
        try simp only [Act.put, List.setIfInBounds_toArray, List.set_cons_zero, List.set_cons_succ]
        refine wpAnyH_ready (rs := [7]) (by kernel_rfl) (by simp) ?_
        refine AllReadyH.cons (o := ⟨some 13, _, _, _, _, _⟩) rfl (fun K hK => ?_) AllReadyH.nil
        go_simp
        go_at_call 25
        refine (none_any y3).mono ?_
        unfold noneV
        rintro e y4 ⟨rfl, hbs4⟩
        have hby4 : Below W.heap.size W y4 := (hby3).trans (hbs4.mono (hby3).size)
        have HA := Lib.hid (HA.out.later hbs4)
        have HB2 := Lib.hid (HB2.out.later hbs4)
        have HMm := Lib.hid (HMm.out.later hbs4)
        have HL := Lib.hid (HL.out.later hbs4)
        clear hbs4
        refine hK.out _ _ ?_ (fun hHeld => ?_)
        · exact HSS.out _ hby4
        clear hK K
        try simp only [Act.put, List.setIfInBounds_toArray, List.set_cons_zero, List.set_cons_succ]
        refine wpAnyH_take (i := 9) (oi := ⟨some 15, _, _, _, _, _⟩) (v := ?_) rfl (by kernel_rfl) (by kernel_rfl) (by kernel_rfl) (fun _ _ _ h => h) (Or.inl ⟨by kernel_rfl, ?_⟩) (by assumption) ?_
        rotate_left
        · (intro w' hSw; (try dsimp only at hSw); go_split_ands; go_simp; first | done | with_reducible rfl)
        try simp only [Act.put, List.setIfInBounds_toArray, List.set_cons_zero, List.set_cons_succ]
        refine wpAnyH_ready (rs := [11]) (by kernel_rfl) (by simp) ?_
        refine AllReadyH.cons (o := ⟨none, _, _, _, _, _⟩) rfl (fun K hK => ?_) AllReadyH.nil
        rw [if_pos (by kernel_rfl)]
        refine wp_store_row _ _ _ rfl (pb) #[.slice AT nT cT, .slice AR nR cR, .int .i64 k1, .string (ba nm1), .int .i64 vv1, .slice A1 n1 c1, .slice B1 m1 d1, .int .i64 rv1, .map (some bk), .map (some br), .slice none 0 0, .slice none 0 0, .slice none 0 0, .map (some bm)] rfl rfl 97 #[.slice none 0 0, .slice none 0 0, .int .i64 0, .string ⟨#[]⟩, .int .i64 0, .slice none 0 0, .slice none 0 0, .int .i64 0, .map none, .map none, .slice none 0 0, .slice none 0 0, .slice none 0 0, .map none] HL.out (by kernel_rfl) rfl (by simp [Value.oneCell']) ?_
        obtain ⟨z1, hz1⟩ : ∃ X, X = y4.setRow pb #[.slice AT nT cT, .slice AR nR cR, .int .i64 k1, .string (ba nm1), .int .i64 vv1, .slice A1 n1 c1, .slice B1 m1 d1, .int .i64 rv1, .map (some bk), .map (some br), .slice none 0 0, .slice none 0 0, .slice none 0 0, .map (some bm)] := ⟨_, rfl⟩
        rw [← hz1]
        have hbz : Below W.heap.size W z1 := by rw [hz1]; exact Sb.below_setRow (hby4) HP.out _
        have hlz : Lies z1 pb 97 #[.slice AT nT cT, .slice AR nR cR, .int .i64 k1, .string (ba nm1), .int .i64 vv1, .slice A1 n1 c1, .slice B1 m1 d1, .int .i64 rv1, .map (some bk), .map (some br), .slice none 0 0, .slice none 0 0, .slice none 0 0, .map (some bm)] := by rw [hz1]; exact Sb.setRow_at HL.out _
        have hoz : ∀ g, g ≠ pb → z1.heap[g]? = y4.heap[g]? := fun g hg => by rw [hz1]; exact Sb.setRow_other _ _ _ g hg
        have hfin := HH.out y4 z1 pb bm bk br _ _ (by rw [hz1, size_setRow]) hoz ⟨_, HL.out⟩ hlz HA.out HB2.out HMm.out ⟨Nat.le_trans HBw.out.size HP.out, HL.out.lt, Nat.le_trans HBw.out.size HA0.out, Nat.le_trans HBw.out.size HM0.out, Nat.le_trans HBw.out.size HB0.out⟩ HNE.out (HBw.out.trans (hbz.mono HBw.out.size))
        have HFIN := Lib.hid hfin
        have HZB := Lib.hid hbz
        clear hfin hlz hoz hz1
        refine hK.out _ _ ?_ (fun hHeld => ?_)
        · exact HSS.out _ hbz
        clear hK K
        try simp only [Act.put]
        refine wpAnyH_done (by kernel_rfl) ?_ _
        obtain ⟨f0, f1, f2, f3, f4, f5⟩ := HS3.out _ hbz
        go_wp2_with fail
        refine HFIN.out.mono ?_
        rintro e w9 ⟨rfl, hb9⟩
        clear f0 f1 f2 f3 f4 f5
        go_wp2_with fail
        go_ret
        exact ⟨rfl, hb9⟩
    · go_simp
      obtain ⟨bm, hbm⟩ : ∃ b, b = (y0).heap.size := ⟨_, rfl⟩
      obtain ⟨y1, hy1⟩ : ∃ Y, Y = (y0).alloc (.map #[] 0) := ⟨_, rfl⟩
      have hbs1 : Below (y0).heap.size (y0) y1 := by rw [hy1]; exact below_new _ _
      have HMm := Lib.hid (show KeyM y1 bm [] by rw [hy1, hbm]; exact KeyM.made _)
      have HM0 := Lib.hid (show W.heap.size ≤ bm by rw [hbm]; exact (hby0).size)
      (try simp only [World.size_drew])
      rw [← hy1, ← hbm]
      clear hy1 hbm
      have hby1 : Below W.heap.size W y1 := (hby0).trans (hbs1.mono (hby0).size)
      have HL := Lib.hid (HL.out.later hbs1)
      clear hbs1
      refine hK.out _ _ ?_ (fun hHeld => ?_)
      · exact HSS.out _ hby1
      clear hK K
      try simp only [Act.put, List.setIfInBounds_toArray, List.set_cons_zero, List.set_cons_succ]
      refine wpAnyH_ready (rs := [3]) (by kernel_rfl) (by simp) ?_
      refine AllReadyH.cons (o := ⟨some 9, _, _, _, _, _⟩) rfl (fun K hK => ?_) AllReadyH.nil
      go_simp
      go_at_call 50
      refine (setOf_any y1 A _ (HIA.out _ (hby1)) HLA.out).mono ?_
      rintro e y2 ⟨bk, hbk0, rfl, hmm2, hbs2⟩
      have HA := Lib.hid hmm2
      have HA0 := Lib.hid (show W.heap.size ≤ bk from Nat.le_trans (hby1).size hbk0)
      have HNEbk := Lib.hid (show bm ≠ bk from by have := HMm.out.lt; omega)
      clear hmm2
      have hby2 : Below W.heap.size W y2 := (hby1).trans (hbs2.mono (hby1).size)
      have HMm := Lib.hid (HMm.out.later hbs2)
      have HL := Lib.hid (HL.out.later hbs2)
      clear hbs2
      refine hK.out _ _ ?_ (fun hHeld => ?_)
      · exact HSS.out _ hby2
      clear hK K
      try simp only [Act.put, List.setIfInBounds_toArray, List.set_cons_zero, List.set_cons_succ]
      refine wpAnyH_ready (rs := [6]) (by kernel_rfl) (by simp) ?_
      refine AllReadyH.cons (o := ⟨some 12, _, _, _, _, _⟩) rfl (fun K hK => ?_) AllReadyH.nil
      go_simp
      go_at_call 50
      refine (setOf_any y2 R _ (HIB.out _ (hby2)) HLB.out).mono ?_
      rintro e y3 ⟨br, hbr0, rfl, hmm3, hbs3⟩
      have HB2 := Lib.hid hmm3
      have HB0 := Lib.hid (show W.heap.size ≤ br from Nat.le_trans (hby2).size hbr0)
      have HNEbr := Lib.hid (show bm ≠ br from by have := HMm.out.lt; omega)
      clear hmm3
      have hby3 : Below W.heap.size W y3 := (hby2).trans (hbs3.mono (hby2).size)
      have HA := Lib.hid (HA.out.later hbs3)
      have HMm := Lib.hid (HMm.out.later hbs3)
      have HL := Lib.hid (HL.out.later hbs3)
      have HNE := Lib.hid (And.intro HNEbk.out HNEbr.out)
      clear hbs3
      refine hK.out _ _ ?_ (fun hHeld => ?_)
      · exact HSS.out _ hby3
      clear hK K
      try simp only [Act.put, List.setIfInBounds_toArray, List.set_cons_zero, List.set_cons_succ]
      refine wpAnyH_ready (rs := [7]) (by kernel_rfl) (by simp) ?_
      refine AllReadyH.cons (o := ⟨some 13, _, _, _, _, _⟩) rfl (fun K hK => ?_) AllReadyH.nil
      go_simp
      go_at_call 25
      refine (none_any y3).mono ?_
      unfold noneV
      rintro e y4 ⟨rfl, hbs4⟩
      have hby4 : Below W.heap.size W y4 := (hby3).trans (hbs4.mono (hby3).size)
      have HA := Lib.hid (HA.out.later hbs4)
      have HB2 := Lib.hid (HB2.out.later hbs4)
      have HMm := Lib.hid (HMm.out.later hbs4)
      have HL := Lib.hid (HL.out.later hbs4)
      clear hbs4
      refine hK.out _ _ ?_ (fun hHeld => ?_)
      · exact HSS.out _ hby4
      clear hK K
      try simp only [Act.put, List.setIfInBounds_toArray, List.set_cons_zero, List.set_cons_succ]
      refine wpAnyH_take (i := 9) (oi := ⟨some 15, _, _, _, _, _⟩) (v := ?_) rfl (by kernel_rfl) (by kernel_rfl) (by kernel_rfl) (fun _ _ _ h => h) (Or.inl ⟨by kernel_rfl, ?_⟩) (by assumption) ?_
      rotate_left
      · (intro w' hSw; (try dsimp only at hSw); go_split_ands; go_simp; first | done | with_reducible rfl)
      try simp only [Act.put, List.setIfInBounds_toArray, List.set_cons_zero, List.set_cons_succ]
      refine wpAnyH_ready (rs := [11]) (by kernel_rfl) (by simp) ?_
      refine AllReadyH.cons (o := ⟨none, _, _, _, _, _⟩) rfl (fun K hK => ?_) AllReadyH.nil
      rw [if_pos (by kernel_rfl)]
      refine wp_store_row _ _ _ rfl (pb) #[.slice AT nT cT, .slice AR nR cR, .int .i64 k1, .string (ba nm1), .int .i64 vv1, .slice A1 n1 c1, .slice B1 m1 d1, .int .i64 rv1, .map (some bk), .map (some br), .slice none 0 0, .slice none 0 0, .slice none 0 0, .map (some bm)] rfl rfl 97 #[.slice none 0 0, .slice none 0 0, .int .i64 0, .string ⟨#[]⟩, .int .i64 0, .slice none 0 0, .slice none 0 0, .int .i64 0, .map none, .map none, .slice none 0 0, .slice none 0 0, .slice none 0 0, .map none] HL.out (by kernel_rfl) rfl (by simp [Value.oneCell']) ?_
      obtain ⟨z1, hz1⟩ : ∃ X, X = y4.setRow pb #[.slice AT nT cT, .slice AR nR cR, .int .i64 k1, .string (ba nm1), .int .i64 vv1, .slice A1 n1 c1, .slice B1 m1 d1, .int .i64 rv1, .map (some bk), .map (some br), .slice none 0 0, .slice none 0 0, .slice none 0 0, .map (some bm)] := ⟨_, rfl⟩
      rw [← hz1]
      have hbz : Below W.heap.size W z1 := by rw [hz1]; exact Sb.below_setRow (hby4) HP.out _
      have hlz : Lies z1 pb 97 #[.slice AT nT cT, .slice AR nR cR, .int .i64 k1, .string (ba nm1), .int .i64 vv1, .slice A1 n1 c1, .slice B1 m1 d1, .int .i64 rv1, .map (some bk), .map (some br), .slice none 0 0, .slice none 0 0, .slice none 0 0, .map (some bm)] := by rw [hz1]; exact Sb.setRow_at HL.out _
      have hoz : ∀ g, g ≠ pb → z1.heap[g]? = y4.heap[g]? := fun g hg => by rw [hz1]; exact Sb.setRow_other _ _ _ g hg
      have hfin := HH.out y4 z1 pb bm bk br _ _ (by rw [hz1, size_setRow]) hoz ⟨_, HL.out⟩ hlz HA.out HB2.out HMm.out ⟨Nat.le_trans HBw.out.size HP.out, HL.out.lt, Nat.le_trans HBw.out.size HA0.out, Nat.le_trans HBw.out.size HM0.out, Nat.le_trans HBw.out.size HB0.out⟩ HNE.out (HBw.out.trans (hbz.mono HBw.out.size))
      have HFIN := Lib.hid hfin
      have HZB := Lib.hid hbz
      clear hfin hlz hoz hz1
      refine hK.out _ _ ?_ (fun hHeld => ?_)
      · exact HSS.out _ hbz
      clear hK K
      try simp only [Act.put]
      refine wpAnyH_done (by kernel_rfl) ?_ _
      obtain ⟨f0, f1, f2, f3, f4, f5⟩ := HS3.out _ hbz
      go_wp2_with fail
      refine HFIN.out.mono ?_
      rintro e w9 ⟨rfl, hb9⟩
      clear f0 f1 f2 f3 f4 f5
      go_wp2_with fail
      go_ret
      exact ⟨rfl, hb9⟩
end Go.Proofs.Ythdfomcpoofkaaa
