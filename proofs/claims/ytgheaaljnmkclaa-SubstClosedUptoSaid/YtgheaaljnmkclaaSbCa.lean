/- The law SubstClosed: its walk. -/
import Derived.Test.YtgheaaljnmkclaaSbz
import Derived.Test.YtgheaaljnmkclaaSbSh
import Derived.Test.YtgheaaljnmkclaaSbw
import Derived.Test.YtgheaaljnmkclaaSbRt
import Derived.Test.YtgheaaljnmkclaaSbVr
import Derived.Test.YtgheaaljnmkclaaSbFn
import Derived.Deep.DeepCutAuto
import Derived.Deep.CutRange
import Derived.Deep.RegionHeld3
import Derived.Outline
import Derived.Laws.CopyOwn
namespace Go.Proofs.Ytgheaaljnmkclaa
open Go.RowKit

set_option maxRecDepth 100000 in
set_option maxHeartbeats 8000000 in
theorem substClosed_walk (w : World) (lv : Value) (xs : List SayD) (t : Ty) (tl : List Value) (u : Ty) (ul : List Value) (hx : SayR w lv xs) (hN : xs.length ≤ 2000000) (ht : TRV w t tl) (hts : t.size ≤ 100000000) (hu : TRV w u ul) (hus : u.size ≤ 100000000) :
    Calls Try.prog 4 #[lv, .agg tl.toArray, .agg ul.toArray] w fun e w' => e = .returned (.bool true) ∧ Below w.heap.size w w' := by
  obtain ⟨k0, nm0, v0, A0, n0, c0, B0, m0, d0, rv0, rfl⟩ := ht.form
  obtain ⟨k1, nm1, v1, A1, n1, c1, B1, m1, d1, rv1, rfl⟩ := hu.form
  obtain ⟨W0, hW0⟩ : ∃ W0, W0 = (w.alloc (.cells #[.int .i64 k0, .string (ba nm0), .int .i64 v0, .slice A0 n0 c0, .slice B0 m0 d0, .int .i64 rv0] 28)).alloc (.cells #[.int .i64 k1, .string (ba nm1), .int .i64 v1, .slice A1 n1 c1, .slice B1 m1 d1, .int .i64 rv1] 28) := ⟨_, rfl⟩
  have hb0 : Below w.heap.size w W0 := by rw [hW0]; exact ((Below.refl _ w).alloc (Nat.le_refl _) _).alloc (by simp) _
  have HW0 := Lib.hid hW0
  have HB := Lib.hid hb0
  have HL_t := Lib.hid (show Lies W0 w.heap.size 28 #[.int .i64 k0, .string (ba nm0), .int .i64 v0, .slice A0 n0 c0, .slice B0 m0 d0, .int .i64 rv0] from by rw [hW0]; exact (Lies.new _ _ _).alloc _)
  have HL_u := Lib.hid (show Lies W0 (w.heap.size + 1) 28 #[.int .i64 k1, .string (ba nm1), .int .i64 v1, .slice A1 n1 c1, .slice B1 m1 d1, .int .i64 rv1] from by rw [hW0]; exact Lies.new' _ _ _ (by simp))
  have HX := Lib.hid hx
  have HT := Lib.hid ht
  have HU := Lib.hid hu
  have HTS := Lib.hid hts
  have HUS := Lib.hid hus
  have HNN := Lib.hid hN
  clear hW0 hb0 hx ht hu hts hus hN
  go_enter Try.func4, Try.ntmps4
  go_wp2_with fail
  rw [← HW0.out]
  refine (shown_any W0).mono ?_
  rintro e w1 ⟨rfl, hb1⟩
  have HL_t := Lib.hid (HL_t.out.later hb1)
  have HL_u := Lib.hid (HL_u.out.later hb1)
  have HB := Lib.hid (HB.out.trans (hb1.mono HB.out.size))
  obtain ⟨sz, hsz⟩ : ∃ sz, sz = t.size := ⟨_, rfl⟩
  obtain ⟨uz, huz⟩ : ∃ uz, uz = u.size := ⟨_, rfl⟩
  have HSZ := Lib.hid hsz
  have HUZ := Lib.hid huz
  have hc := count_any t w1 _ HTS.out (HT.out.later HB.out)
  rw [← hsz] at hc
  have HC := Lib.hid hc
  have q1_t_0 := HL_t.out.cell 0
  have q1_t_1 := HL_t.out.cell 1
  have q1_t_2 := HL_t.out.cell 2
  have q1_t_3 := HL_t.out.cell 3
  have q1_t_4 := HL_t.out.cell 4
  have q1_t_5 := HL_t.out.cell 5
  clear hb1 hsz huz hc
  go_wp2_with fail
  refine HC.out.mono ?_
  rintro e w2 ⟨rfl, hb2⟩
  have HL_t := Lib.hid (HL_t.out.later hb2)
  have HL_u := Lib.hid (HL_u.out.later hb2)
  have HB := Lib.hid (HB.out.trans (hb2.mono HB.out.size))
  clear hb2 HC q1_t_0 q1_t_1 q1_t_2 q1_t_3 q1_t_4 q1_t_5
  by_cases h100 : 100 < sz
  · have h100i : (100 : Int) < (sz : Int) := by omega
    have h100d : decide (100 < sz) = true := by simp [h100]
    go_wp2_with fail
    go_ret
    exact ⟨rfl, HB.out⟩
  have h100i : ¬ ((100 : Int) < (sz : Int)) := by omega
  have h100d : decide (100 < sz) = false := by simp [h100]
  have hc := count_any u w2 _ HUS.out (HU.out.later HB.out)
  rw [← HUZ.out] at hc
  have HC := Lib.hid hc
  have q2_u_0 := HL_u.out.cell 0
  have q2_u_1 := HL_u.out.cell 1
  have q2_u_2 := HL_u.out.cell 2
  have q2_u_3 := HL_u.out.cell 3
  have q2_u_4 := HL_u.out.cell 4
  have q2_u_5 := HL_u.out.cell 5
  clear hc
  go_wp2_with fail
  refine HC.out.mono ?_
  rintro e w3 ⟨rfl, hb3⟩
  have HL_t := Lib.hid (HL_t.out.later hb3)
  have HL_u := Lib.hid (HL_u.out.later hb3)
  have HB := Lib.hid (HB.out.trans (hb3.mono HB.out.size))
  clear hb3 HC q2_u_0 q2_u_1 q2_u_2 q2_u_3 q2_u_4 q2_u_5
  by_cases h20 : 20 < uz
  · have h20i : (20 : Int) < (uz : Int) := by omega
    have h20d : decide (20 < uz) = true := by simp [h20]
    go_wp2_with fail
    go_ret
    exact ⟨rfl, HB.out⟩
  have h20i : ¬ ((20 : Int) < (uz : Int)) := by omega
  have h20d : decide (20 < uz) = false := by simp [h20]
  have HC := Lib.hid (right_any t w3 _ HTS.out (HT.out.later HB.out))
  have q3_t_0 := HL_t.out.cell 0
  have q3_t_1 := HL_t.out.cell 1
  have q3_t_2 := HL_t.out.cell 2
  have q3_t_3 := HL_t.out.cell 3
  have q3_t_4 := HL_t.out.cell 4
  have q3_t_5 := HL_t.out.cell 5
  go_wp2_with fail
  refine HC.out.mono ?_
  rintro e w4 ⟨br, rfl, hbr, hb4⟩
  have HL_t := Lib.hid (HL_t.out.later hb4)
  have HL_u := Lib.hid (HL_u.out.later hb4)
  have HB := Lib.hid (HB.out.trans (hb4.mono HB.out.size))
  have HBR := Lib.hid hbr
  clear hb4 hbr HC q3_t_0 q3_t_1 q3_t_2 q3_t_3 q3_t_4 q3_t_5
  cases br
  · go_wp2_with fail
    go_ret
    exact ⟨rfl, HB.out⟩
  have HRP := Lib.hid (HBR.out (by simp))
  have HC := Lib.hid (said_any w4 lv xs (HX.out.keep HB.out.block) HNN.out)
  clear HBR
  go_wp2_with fail
  refine HC.out.mono ?_
  rintro e w5 ⟨Aa, Ab, Ac, Ad, Ae, Af, na, ca, nb, cb, nc, cc, nd, cd, ne, ce, nf, cf, T, R, rfl, hsub, hsmall, hb5⟩
  obtain ⟨V5, hV5⟩ : ∃ V, V = (w5.alloc (.cells #[.slice Aa na ca, .slice Ab nb cb] 38)).alloc (.cells #[.slice Ac nc cc, .slice Ad nd cd, .slice Ae ne ce, .slice Af nf cf] 42) := ⟨_, rfl⟩
  have hbn5 : Below w5.heap.size w5 V5 := by rw [hV5]; exact ((Below.refl _ w5).alloc (Nat.le_refl _) _).alloc (by simp) _
  have hbv : Below w4.heap.size w4 V5 := hb5.trans (hbn5.mono hb5.size)
  have HL_t := Lib.hid (HL_t.out.later hbv)
  have HL_u := Lib.hid (HL_u.out.later hbv)
  have HL_s := Lib.hid (show Lies V5 w5.heap.size 38 #[.slice Aa na ca, .slice Ab nb cb] from by rw [hV5]; exact (Lies.new _ _ _).alloc _)
  have HB := Lib.hid (HB.out.trans (hbv.mono HB.out.size))
  have HSUB := Lib.hid (hsub.later hbn5)
  have HSM := Lib.hid hsmall
  obtain ⟨LV, hLV⟩ : ∃ LV, LV = varsT t ([], []) := ⟨_, rfl⟩
  have hc := vars_any t V5 _ (by have := HSZ.out; omega) (HT.out.later HB.out)
  rw [← hLV] at hc
  have HLV := Lib.hid hLV
  have HC := Lib.hid hc
  have hlen := varsT_len t ([], [])
  rw [← hLV] at hlen
  have HLEN := Lib.hid (show LV.1.length ≤ 100 ∧ LV.2.length ≤ 100 from by have := HSZ.out; simp only [List.length_nil] at hlen; omega)
  have q5_t_0 := HL_t.out.cell 0
  have q5_t_1 := HL_t.out.cell 1
  have q5_t_2 := HL_t.out.cell 2
  have q5_t_3 := HL_t.out.cell 3
  have q5_t_4 := HL_t.out.cell 4
  have q5_t_5 := HL_t.out.cell 5
  rw [hV5] at q5_t_0 q5_t_1 q5_t_2 q5_t_3 q5_t_4 q5_t_5
  have HV5 := Lib.hid hV5
  clear hLV hc hlen hV5 hbn5 hbv hb5 hsub hsmall
  go_wp2_with fail
  rw [← HV5.out]
  refine HC.out.mono ?_
  rintro e w6 ⟨va, vb, rfl, hva, hvb, hb6⟩
  have HL_t := Lib.hid (HL_t.out.later hb6)
  have HL_u := Lib.hid (HL_u.out.later hb6)
  have HL_s := Lib.hid (HL_s.out.later hb6)
  have HB := Lib.hid (HB.out.trans (hb6.mono HB.out.size))
  have HSUB := Lib.hid (HSUB.out.later hb6)
  obtain ⟨La, hLa⟩ : ∃ La, La = LV.1 := ⟨_, rfl⟩
  obtain ⟨Lb, hLb⟩ : ∃ Lb, Lb = LV.2 := ⟨_, rfl⟩
  rw [← hLa] at hva
  rw [← hLb] at hvb
  obtain ⟨AA, cA, rfl, hcA, hmA⟩ := hva.form
  obtain ⟨AB, cB, rfl, hcB, hmB⟩ := hvb.form
  have HLa := Lib.hid hLa
  have HLb := Lib.hid hLb
  have HMA := Lib.hid (fun (j : Nat) x (h : La[j]? = some x) => hmA j x h)
  have HMB := Lib.hid (fun (j : Nat) x (h : Lb[j]? = some x) => hmB j x h)
  obtain ⟨NA, hNA⟩ : ∃ NA, NA = La.length := ⟨_, rfl⟩
  obtain ⟨NB, hNB⟩ : ∃ NB, NB = Lb.length := ⟨_, rfl⟩
  have HNA := Lib.hid hNA
  have HNB := Lib.hid hNB
  rw [← hNA] at hcA ⊢
  rw [← hNB] at hcB ⊢
  have hNA100 : NA ≤ 100 := by rw [hNA, hLa]; exact HLEN.out.1
  have hNB100 : NB ≤ 100 := by rw [hNB, hLb]; exact HLEN.out.2
  clear hLa hLb hmA hmB hNA hNB hva hvb hb6 HC q5_t_0 q5_t_1 q5_t_2 q5_t_3 q5_t_4 q5_t_5
  go_wp2_with fail
  go_loopw [12, 13, 14] (fun i _ _ wr => ∃ q : Nat, q ≤ NA ∧ i = .int .i64 q ∧ (∀ (j : Nat) x, j < q → La[j]? = some x → T x = none) ∧ Below w6.heap.size w6 wr) (fun i _ _ _ => NA - (intOf i).toNat)
  case atStart => exact ⟨0, Nat.zero_le _, rfl, fun j x hj => by omega, Below.refl _ _⟩
  case round =>
    obtain ⟨q, hq, rfl, hne, hBW⟩ := hrel
    obtain ⟨wo, rfl⟩ : ∃ wo, wo = wr := ⟨_, rfl⟩
    have HBW := Lib.hid hBW
    have HBo := Lib.hid (HB.out.trans (hBW.mono HB.out.size))
    have HNE := Lib.hid hne
    clear hBW hne
    by_cases hlt : q < NA
    · obtain ⟨x, hxx⟩ : ∃ x, La[q]? = some x := ⟨_, List.getElem?_eq_getElem (by have := HNA.out; omega)⟩
      obtain ⟨hx64, g, o, rfl, h6⟩ := HMA.out q x hxx
      have hls := HL_s.out.later HBW.out
      have z0 := hls.cell 0
      have z1 := hls.cell 1
      have z2 := (HBW.out.cell (p := ⟨g, o + q, none⟩) (World.block_lt_of_cell? w6 _ h6)).trans h6
      have hk : ∀ V : World, Below wo.heap.size wo V → (V.cell? ⟨w5.heap.size, 0, none⟩ = some (.slice Aa na ca) ∧ V.cell? ⟨w5.heap.size, 1, none⟩ = some (.slice Ab nb cb) ∧ V.cell? ⟨g, o + q, none⟩ = some (.int .i64 x)) ∧ Below wo.heap.size wo V := fun V hb => ⟨⟨(hb.cell (p := ⟨w5.heap.size, 0, none⟩) hls.lt).trans z0, (hb.cell (p := ⟨w5.heap.size, 1, none⟩) hls.lt).trans z1, (hb.cell (p := ⟨g, o + q, none⟩) (World.block_lt_of_cell? wo _ z2)).trans z2⟩, hb⟩
      have HK := Lib.hid hk
      have HXX := Lib.hid hxx
      have hd : Below wo.heap.size wo wo.drew := (Below.refl _ _).drew
      obtain ⟨fx, hfx⟩ : ∃ fx, fx = (T x).isSome := ⟨_, rfl⟩
      have hc := fun (V : World) (hd : Below wo.heap.size wo V) => typ0 (HSUB.out.later (HBW.out.trans (hd.mono HBW.out.size))) (by omega) x hx64 (fun y hy => Nat.le_trans (HSM.out _ y hy) (by omega))
      rw [← hfx] at hc
      have HC := Lib.hid hc
      have HDA := Lib.hid (show Below wo.heap.size wo ((wo.alloc (.cells #[.int .i64 0, .string ⟨#[]⟩, .int .i64 0, .slice none 0 0, .slice none 0 0, .int .i64 0] 28)).drew) from ((Below.refl _ wo).alloc (Nat.le_refl _) _).drew)
      have HNA9 := Lib.hid (show Lies ((wo.alloc (.cells #[.int .i64 0, .string ⟨#[]⟩, .int .i64 0, .slice none 0 0, .slice none 0 0, .int .i64 0] 28)).drew) wo.heap.size 28 #[.int .i64 0, .string ⟨#[]⟩, .int .i64 0, .slice none 0 0, .slice none 0 0, .int .i64 0] from Lies.new wo _ _)
      have HFX := Lib.hid hfx
      have HD := Lib.hid hd
      have hlti : (q : Int) < (NA : Int) := by omega
      have hqc : q < cA := by omega
      clear hxx h6 hls z0 z1 z2 hk hc hfx hd hx64
      go_upto_region 9 with fail
      refine wp_region_held_drew (S := fun V => (V.cell? ⟨w5.heap.size, 0, none⟩ = some (.slice Aa na ca) ∧ V.cell? ⟨w5.heap.size, 1, none⟩ = some (.slice Ab nb cb) ∧ V.cell? ⟨g, o + q, none⟩ = some (.int .i64 x)) ∧ Below wo.heap.size wo V) (by kernel_rfl) ?_ (fun hHeld => ?_)
      · exact HK.out _ HD.out
      refine wpAnyH_take (i := 0) (oi := ⟨some 52, _, _, _, _, _⟩) (v := ?_) rfl (by kernel_rfl) (by kernel_rfl) (by kernel_rfl) (fun _ _ _ h => h) (Or.inl ⟨by kernel_rfl, ?_⟩) (by assumption) ?_
      rotate_left
      · (intro w' hSw; (try dsimp only at hSw); go_split_ands; go_simp; first | done | with_reducible rfl)
      try simp only [Act.put, List.setIfInBounds_toArray, List.set_cons_zero, List.set_cons_succ]
      refine wpAnyH_take (i := 1) (oi := ⟨some 53, _, _, _, _, _⟩) (v := ?_) rfl (by kernel_rfl) (by kernel_rfl) (by kernel_rfl) (fun _ _ _ h => h) (Or.inl ⟨by kernel_rfl, ?_⟩) (by assumption) ?_
      rotate_left
      · (intro w' hSw; (try dsimp only at hSw); go_split_ands; go_simp; first | done | with_reducible rfl)
      try simp only [Act.put, List.setIfInBounds_toArray, List.set_cons_zero, List.set_cons_succ]
      refine wpAnyH_take (i := 2) (oi := ⟨some 54, _, _, _, _, _⟩) (v := ?_) rfl (by kernel_rfl) (by kernel_rfl) (by kernel_rfl) (fun _ _ _ h => h) (Or.inl ⟨by kernel_rfl, ?_⟩) (by assumption) ?_
      rotate_left
      · (intro w' hSw; (try dsimp only at hSw); go_split_ands; go_simp; first | done | with_reducible rfl)
      try simp only [Act.put, List.setIfInBounds_toArray, List.set_cons_zero, List.set_cons_succ]
      refine wpAnyH_take (i := 3) (oi := ⟨some 55, _, _, _, _, _⟩) (v := ?_) rfl (by kernel_rfl) (by kernel_rfl) (by kernel_rfl) (fun _ _ _ h => h) (Or.inl ⟨by kernel_rfl, ?_⟩) (by assumption) ?_
      rotate_left
      · (intro w' hSw; (try dsimp only at hSw); go_split_ands; go_simp; first | done | with_reducible rfl)
      try simp only [Act.put, List.setIfInBounds_toArray, List.set_cons_zero, List.set_cons_succ]
      refine wpAnyH_take (i := 4) (oi := ⟨some 56, _, _, _, _, _⟩) (v := ?_) rfl (by kernel_rfl) (by kernel_rfl) (by kernel_rfl) (fun _ _ _ h => h) (Or.inl ⟨by kernel_rfl, ?_⟩) (by assumption) ?_
      rotate_left
      · (intro w' hSw; (try dsimp only at hSw); go_split_ands; go_simp; first | done | with_reducible rfl)
      try simp only [Act.put, List.setIfInBounds_toArray, List.set_cons_zero, List.set_cons_succ]
      refine wpAnyH_ready (rs := [5, 9]) (by kernel_rfl) (by simp) ?_
      refine AllReadyH.cons (o := ⟨some 57, _, _, _, _, _⟩) rfl (fun K hK => ?_) (AllReadyH.cons (o := ⟨some 13, _, _, _, _, _⟩) rfl (fun K hK => ?_) (AllReadyH.nil))
      · go_simp
        go_at_call 10
        refine (HC.out _ HD.out).mono ?_
        rintro e w9 ⟨k9, nm9, v9, A9, n9, c9, B9, m9, d9, rv9, rfl, ht9, hb9a⟩
        have hb9 : Below wo.heap.size wo w9 := HD.out.trans (hb9a.mono HD.out.size)
        clear hb9a
        clear ht9
        refine hK.out _ _ ?_ (fun hHeld => ?_)
        · exact HK.out _ hb9
        clear hK K
        try simp only [Act.put, List.setIfInBounds_toArray, List.set_cons_zero, List.set_cons_succ]
        refine wpAnyH_take (i := 6) (oi := ⟨some 51, _, _, _, _, _⟩) (v := ?_) rfl (by kernel_rfl) (by kernel_rfl) (by kernel_rfl) (fun _ _ _ h => h) (Or.inl ⟨by kernel_rfl, ?_⟩) (by assumption) ?_
        rotate_left
        · (intro w' hSw; (try dsimp only at hSw); go_split_ands; go_simp; first | done | with_reducible rfl)
        try simp only [Act.put, List.setIfInBounds_toArray, List.set_cons_zero, List.set_cons_succ]
        refine wpAnyH_take (i := 7) (oi := ⟨some 58, _, _, _, _, _⟩) (v := ?_) rfl (by kernel_rfl) (by kernel_rfl) (by kernel_rfl) (fun _ _ _ h => h) (Or.inl ⟨by kernel_rfl, ?_⟩) (by assumption) ?_
        rotate_left
        · (intro w' hSw; (try dsimp only at hSw); go_split_ands; go_simp; first | done | with_reducible rfl)
        try simp only [Act.put, List.setIfInBounds_toArray, List.set_cons_zero, List.set_cons_succ]
        refine wpAnyH_take (i := 8) (oi := ⟨some 59, _, _, _, _, _⟩) (v := ?_) rfl (by kernel_rfl) (by kernel_rfl) (by kernel_rfl) (fun _ _ _ h => h) (Or.inl ⟨by kernel_rfl, ?_⟩) (by assumption) ?_
        rotate_left
        · (intro w' hSw; (try dsimp only at hSw); go_split_ands; go_simp; first | done | with_reducible rfl)
        try simp only [Act.put, List.setIfInBounds_toArray, List.set_cons_zero, List.set_cons_succ]
        refine wpAnyH_ready (rs := [9]) (by kernel_rfl) (by simp) ?_
        refine AllReadyH.cons (o := ⟨some 13, _, _, _, _, _⟩) rfl (fun K hK => ?_) (AllReadyH.nil)
        go_simp
        refine hK.out _ _ ?_ (fun hHeld => ?_)
        · exact HK.out _ (hb9.alloc hb9.size _)
        clear hK K
        try simp only [Act.put, List.setIfInBounds_toArray, List.set_cons_zero, List.set_cons_succ]
        refine wpAnyH_ready (rs := [10]) (by kernel_rfl) (by simp) ?_
        refine AllReadyH.cons (o := ⟨none, _, _, _, _, _⟩) rfl (fun K hK => ?_) (AllReadyH.nil)
        rw [if_pos (by kernel_rfl)]
        refine wp_store_row _ _ _ rfl w9.heap.size #[.int .i64 k9, .string (ba nm9), .int .i64 v9, .slice A9 n9 c9, .slice B9 m9 d9, .int .i64 rv9] rfl rfl 28 #[.int .i64 0, .string ⟨#[]⟩, .int .i64 0, .slice none 0 0, .slice none 0 0, .int .i64 0] (Lies.new _ _ _) (by kernel_rfl) rfl (by simp [Value.oneCell']) ?_
        refine hK.out _ _ ?_ (fun hHeld => ?_)
        · exact HK.out _ (below_setRow (hb9.alloc hb9.size _) hb9.size _)
        clear hK K
        try simp only [Act.put]
        refine wpAnyH_ready (rs := [11]) (by kernel_rfl) (by simp) ?_
        refine AllReadyH.cons (o := ⟨some 14, _, _, _, _, _⟩) rfl (fun K hK => ?_) (AllReadyH.nil)
        go_simp
        refine hK.out _ _ ?_ (fun hHeld => ?_)
        · exact HK.out _ (below_setRow (hb9.alloc hb9.size _) hb9.size _)
        clear hK K
        try simp only [Act.put, List.setIfInBounds_toArray, List.set_cons_zero, List.set_cons_succ]
        refine wpAnyH_done (by kernel_rfl) ?_ _
        obtain ⟨wz, hwz⟩ : ∃ wz, wz = (w9.alloc (.cells #[.int .i64 0, .string ⟨#[]⟩, .int .i64 0, .slice none 0 0, .slice none 0 0, .int .i64 0] 28)).setRow w9.heap.size #[.int .i64 k9, .string (ba nm9), .int .i64 v9, .slice A9 n9 c9, .slice B9 m9 d9, .int .i64 rv9] := ⟨_, rfl⟩
        have HBZ := Lib.hid (show Below wo.heap.size wo wz from by rw [hwz]; exact below_setRow (hb9.alloc hb9.size _) hb9.size _)
        rw [← hwz]
        clear hwz hb9
        cases fx
        · go_wp2_with fail
          go_roundw
          case rel => exact ⟨q + 1, by omega, by simp, fun j y hj hy => by
            by_cases hjq : j = q
            · subst hjq; rw [HXX.out] at hy; injection hy with hy; rw [← hy]; have h := HFX.out; cases hT : T x with | none => rfl | some z => rw [hT] at h; simp at h
            · exact HNE.out j y (by omega) hy, HBW.out.trans (HBZ.out.mono HBW.out.size)⟩
          case measure => (simp [intOf] <;> omega)
        · go_wp2_with fail
          go_ret
          exact ⟨rfl, HBo.out.trans (HBZ.out.mono HBo.out.size)⟩
      · go_simp
        refine hK.out _ _ ?_ (fun hHeld => ?_)
        · exact HK.out _ HDA.out
        clear hK K
        try simp only [Act.put, List.setIfInBounds_toArray, List.set_cons_zero, List.set_cons_succ]
        refine wpAnyH_ready (rs := [5]) (by kernel_rfl) (by simp) ?_
        refine AllReadyH.cons (o := ⟨some 57, _, _, _, _, _⟩) rfl (fun K hK => ?_) (AllReadyH.nil)
        go_simp
        go_at_call 10
        refine (HC.out _ HDA.out).mono ?_
        rintro e w9 ⟨k9, nm9, v9, A9, n9, c9, B9, m9, d9, rv9, rfl, ht9, hb9a⟩
        have hb9 : Below wo.heap.size wo w9 := HDA.out.trans (hb9a.mono HDA.out.size)
        have hn9 := Lib.hid (HNA9.out.later hb9a)
        clear hb9a
        clear ht9
        refine hK.out _ _ ?_ (fun hHeld => ?_)
        · exact HK.out _ hb9
        clear hK K
        try simp only [Act.put, List.setIfInBounds_toArray, List.set_cons_zero, List.set_cons_succ]
        refine wpAnyH_take (i := 6) (oi := ⟨some 51, _, _, _, _, _⟩) (v := ?_) rfl (by kernel_rfl) (by kernel_rfl) (by kernel_rfl) (fun _ _ _ h => h) (Or.inl ⟨by kernel_rfl, ?_⟩) (by assumption) ?_
        rotate_left
        · (intro w' hSw; (try dsimp only at hSw); go_split_ands; go_simp; first | done | with_reducible rfl)
        try simp only [Act.put, List.setIfInBounds_toArray, List.set_cons_zero, List.set_cons_succ]
        refine wpAnyH_take (i := 7) (oi := ⟨some 58, _, _, _, _, _⟩) (v := ?_) rfl (by kernel_rfl) (by kernel_rfl) (by kernel_rfl) (fun _ _ _ h => h) (Or.inl ⟨by kernel_rfl, ?_⟩) (by assumption) ?_
        rotate_left
        · (intro w' hSw; (try dsimp only at hSw); go_split_ands; go_simp; first | done | with_reducible rfl)
        try simp only [Act.put, List.setIfInBounds_toArray, List.set_cons_zero, List.set_cons_succ]
        refine wpAnyH_take (i := 8) (oi := ⟨some 59, _, _, _, _, _⟩) (v := ?_) rfl (by kernel_rfl) (by kernel_rfl) (by kernel_rfl) (fun _ _ _ h => h) (Or.inl ⟨by kernel_rfl, ?_⟩) (by assumption) ?_
        rotate_left
        · (intro w' hSw; (try dsimp only at hSw); go_split_ands; go_simp; first | done | with_reducible rfl)
        try simp only [Act.put, List.setIfInBounds_toArray, List.set_cons_zero, List.set_cons_succ]
        refine wpAnyH_ready (rs := [10]) (by kernel_rfl) (by simp) ?_
        refine AllReadyH.cons (o := ⟨none, _, _, _, _, _⟩) rfl (fun K hK => ?_) (AllReadyH.nil)
        rw [if_pos (by kernel_rfl)]
        refine wp_store_row _ _ _ rfl wo.heap.size #[.int .i64 k9, .string (ba nm9), .int .i64 v9, .slice A9 n9 c9, .slice B9 m9 d9, .int .i64 rv9] rfl rfl 28 #[.int .i64 0, .string ⟨#[]⟩, .int .i64 0, .slice none 0 0, .slice none 0 0, .int .i64 0] (hn9.out) (by kernel_rfl) rfl (by simp [Value.oneCell']) ?_
        refine hK.out _ _ ?_ (fun hHeld => ?_)
        · exact HK.out _ (below_setRow hb9 (Nat.le_refl _) _)
        clear hK K
        try simp only [Act.put]
        refine wpAnyH_ready (rs := [11]) (by kernel_rfl) (by simp) ?_
        refine AllReadyH.cons (o := ⟨some 14, _, _, _, _, _⟩) rfl (fun K hK => ?_) (AllReadyH.nil)
        go_simp
        refine hK.out _ _ ?_ (fun hHeld => ?_)
        · exact HK.out _ (below_setRow hb9 (Nat.le_refl _) _)
        clear hK K
        try simp only [Act.put, List.setIfInBounds_toArray, List.set_cons_zero, List.set_cons_succ]
        refine wpAnyH_done (by kernel_rfl) ?_ _
        obtain ⟨wz, hwz⟩ : ∃ wz, wz = w9.setRow wo.heap.size #[.int .i64 k9, .string (ba nm9), .int .i64 v9, .slice A9 n9 c9, .slice B9 m9 d9, .int .i64 rv9] := ⟨_, rfl⟩
        have HBZ := Lib.hid (show Below wo.heap.size wo wz from by rw [hwz]; exact below_setRow hb9 (Nat.le_refl _) _)
        rw [← hwz]
        clear hwz hb9
        cases fx
        · go_wp2_with fail
          go_roundw
          case rel => exact ⟨q + 1, by omega, by simp, fun j y hj hy => by
            by_cases hjq : j = q
            · subst hjq; rw [HXX.out] at hy; injection hy with hy; rw [← hy]; have h := HFX.out; cases hT : T x with | none => rfl | some z => rw [hT] at h; simp at h
            · exact HNE.out j y (by omega) hy, HBW.out.trans (HBZ.out.mono HBW.out.size)⟩
          case measure => (simp [intOf] <;> omega)
        · go_wp2_with fail
          go_ret
          exact ⟨rfl, HBo.out.trans (HBZ.out.mono HBo.out.size)⟩
    · obtain rfl : q = NA := by omega
      have hnone : ∀ x ∈ La, T x = none := by
        intro x hx
        obtain ⟨j, hj, he⟩ := List.getElem_of_mem hx
        exact HNE.out j x (by have := HNA.out; omega) (by rw [List.getElem?_eq_getElem hj, he])
      have HNO_a := Lib.hid hnone
      have HL_t := Lib.hid (HL_t.out.later HBW.out)
      have HL_u := Lib.hid (HL_u.out.later HBW.out)
      have HL_s := Lib.hid (HL_s.out.later HBW.out)
      have HSUB := Lib.hid (HSUB.out.later HBW.out)
      have HB := HBo
      clear hnone HBo
      have HMB := Lib.hid (fun (j : Nat) x (h : Lb[j]? = some x) => (⟨(HMB.out j x h).1, (by obtain ⟨g, o, e, h6⟩ := (HMB.out j x h).2; exact ⟨g, o, e, (HBW.out.cell (p := ⟨g, o + j, none⟩) (World.block_lt_of_cell? w6 _ h6)).trans h6⟩)⟩ : i64ok x ∧ ∃ g o, AB = some ⟨g, o, none⟩ ∧ wo.cell? ⟨g, o + j, none⟩ = some (.int .i64 x)))
      obtain ⟨w7, hw7⟩ : ∃ w7, w7 = wo := ⟨_, rfl⟩
      subst hw7
      clear HBW
      go_wp2_with fail
      go_loopw [15, 16, 17] (fun i _ _ wr => ∃ q : Nat, q ≤ NB ∧ i = .int .i64 q ∧ (∀ (j : Nat) x, j < q → Lb[j]? = some x → R x = none) ∧ Below w7.heap.size w7 wr) (fun i _ _ _ => NB - (intOf i).toNat)
      case atStart => exact ⟨0, Nat.zero_le _, rfl, fun j x hj => by omega, Below.refl _ _⟩
      case round =>
        obtain ⟨q, hq, rfl, hne, hBW⟩ := hrel
        obtain ⟨wo, rfl⟩ : ∃ wo, wo = wr := ⟨_, rfl⟩
        have HBW := Lib.hid hBW
        have HBo := Lib.hid (HB.out.trans (hBW.mono HB.out.size))
        have HNE := Lib.hid hne
        clear hBW hne
        by_cases hlt : q < NB
        · obtain ⟨x, hxx⟩ : ∃ x, Lb[q]? = some x := ⟨_, List.getElem?_eq_getElem (by have := HNB.out; omega)⟩
          obtain ⟨hx64, g, o, rfl, h6⟩ := HMB.out q x hxx
          have hls := HL_s.out.later HBW.out
          have z0 := hls.cell 0
          have z1 := hls.cell 1
          have z2 := (HBW.out.cell (p := ⟨g, o + q, none⟩) (World.block_lt_of_cell? w7 _ h6)).trans h6
          have hk : ∀ V : World, Below wo.heap.size wo V → (V.cell? ⟨w5.heap.size, 0, none⟩ = some (.slice Aa na ca) ∧ V.cell? ⟨w5.heap.size, 1, none⟩ = some (.slice Ab nb cb) ∧ V.cell? ⟨g, o + q, none⟩ = some (.int .i64 x)) ∧ Below wo.heap.size wo V := fun V hb => ⟨⟨(hb.cell (p := ⟨w5.heap.size, 0, none⟩) hls.lt).trans z0, (hb.cell (p := ⟨w5.heap.size, 1, none⟩) hls.lt).trans z1, (hb.cell (p := ⟨g, o + q, none⟩) (World.block_lt_of_cell? wo _ z2)).trans z2⟩, hb⟩
          have HK := Lib.hid hk
          have HXX := Lib.hid hxx
          have hd : Below wo.heap.size wo wo.drew := (Below.refl _ _).drew
          obtain ⟨fx, hfx⟩ : ∃ fx, fx = (R x).isSome := ⟨_, rfl⟩
          have hc := fun (V : World) (hd : Below wo.heap.size wo V) => row0 (HSUB.out.later (HBW.out.trans (hd.mono HBW.out.size))) (by omega) x hx64
          rw [← hfx] at hc
          have HC := Lib.hid hc
          have HDA := Lib.hid (show Below wo.heap.size wo ((wo.alloc (.cells #[.slice none 0 0, .int .i64 0] 26)).drew) from ((Below.refl _ wo).alloc (Nat.le_refl _) _).drew)
          have HNA9 := Lib.hid (show Lies ((wo.alloc (.cells #[.slice none 0 0, .int .i64 0] 26)).drew) wo.heap.size 26 #[.slice none 0 0, .int .i64 0] from Lies.new wo _ _)
          have HFX := Lib.hid hfx
          have HD := Lib.hid hd
          have hlti : (q : Int) < (NB : Int) := by omega
          have hqc : q < cB := by omega
          clear hxx h6 hls z0 z1 z2 hk hc hfx hd hx64
          go_upto_region 15 with fail
          refine wp_region_held_drew (S := fun V => (V.cell? ⟨w5.heap.size, 0, none⟩ = some (.slice Aa na ca) ∧ V.cell? ⟨w5.heap.size, 1, none⟩ = some (.slice Ab nb cb) ∧ V.cell? ⟨g, o + q, none⟩ = some (.int .i64 x)) ∧ Below wo.heap.size wo V) (by kernel_rfl) ?_ (fun hHeld => ?_)
          · exact HK.out _ HD.out
          refine wpAnyH_take (i := 0) (oi := ⟨some 69, _, _, _, _, _⟩) (v := ?_) rfl (by kernel_rfl) (by kernel_rfl) (by kernel_rfl) (fun _ _ _ h => h) (Or.inl ⟨by kernel_rfl, ?_⟩) (by assumption) ?_
          rotate_left
          · (intro w' hSw; (try dsimp only at hSw); go_split_ands; go_simp; first | done | with_reducible rfl)
          try simp only [Act.put, List.setIfInBounds_toArray, List.set_cons_zero, List.set_cons_succ]
          refine wpAnyH_take (i := 1) (oi := ⟨some 70, _, _, _, _, _⟩) (v := ?_) rfl (by kernel_rfl) (by kernel_rfl) (by kernel_rfl) (fun _ _ _ h => h) (Or.inl ⟨by kernel_rfl, ?_⟩) (by assumption) ?_
          rotate_left
          · (intro w' hSw; (try dsimp only at hSw); go_split_ands; go_simp; first | done | with_reducible rfl)
          try simp only [Act.put, List.setIfInBounds_toArray, List.set_cons_zero, List.set_cons_succ]
          refine wpAnyH_take (i := 2) (oi := ⟨some 71, _, _, _, _, _⟩) (v := ?_) rfl (by kernel_rfl) (by kernel_rfl) (by kernel_rfl) (fun _ _ _ h => h) (Or.inl ⟨by kernel_rfl, ?_⟩) (by assumption) ?_
          rotate_left
          · (intro w' hSw; (try dsimp only at hSw); go_split_ands; go_simp; first | done | with_reducible rfl)
          try simp only [Act.put, List.setIfInBounds_toArray, List.set_cons_zero, List.set_cons_succ]
          refine wpAnyH_take (i := 3) (oi := ⟨some 72, _, _, _, _, _⟩) (v := ?_) rfl (by kernel_rfl) (by kernel_rfl) (by kernel_rfl) (fun _ _ _ h => h) (Or.inl ⟨by kernel_rfl, ?_⟩) (by assumption) ?_
          rotate_left
          · (intro w' hSw; (try dsimp only at hSw); go_split_ands; go_simp; first | done | with_reducible rfl)
          try simp only [Act.put, List.setIfInBounds_toArray, List.set_cons_zero, List.set_cons_succ]
          refine wpAnyH_take (i := 4) (oi := ⟨some 73, _, _, _, _, _⟩) (v := ?_) rfl (by kernel_rfl) (by kernel_rfl) (by kernel_rfl) (fun _ _ _ h => h) (Or.inl ⟨by kernel_rfl, ?_⟩) (by assumption) ?_
          rotate_left
          · (intro w' hSw; (try dsimp only at hSw); go_split_ands; go_simp; first | done | with_reducible rfl)
          try simp only [Act.put, List.setIfInBounds_toArray, List.set_cons_zero, List.set_cons_succ]
          refine wpAnyH_ready (rs := [5, 9]) (by kernel_rfl) (by simp) ?_
          refine AllReadyH.cons (o := ⟨some 74, _, _, _, _, _⟩) rfl (fun K hK => ?_) (AllReadyH.cons (o := ⟨some 16, _, _, _, _, _⟩) rfl (fun K hK => ?_) (AllReadyH.nil))
          · go_simp
            go_at_call 11
            refine (HC.out _ HD.out).mono ?_
            rintro e w9 ⟨A9, n9, c9, rv9, rfl, ht9, hb9a⟩
            have hb9 : Below wo.heap.size wo w9 := HD.out.trans (hb9a.mono HD.out.size)
            clear hb9a
            clear ht9
            refine hK.out _ _ ?_ (fun hHeld => ?_)
            · exact HK.out _ hb9
            clear hK K
            try simp only [Act.put, List.setIfInBounds_toArray, List.set_cons_zero, List.set_cons_succ]
            refine wpAnyH_take (i := 6) (oi := ⟨some 68, _, _, _, _, _⟩) (v := ?_) rfl (by kernel_rfl) (by kernel_rfl) (by kernel_rfl) (fun _ _ _ h => h) (Or.inl ⟨by kernel_rfl, ?_⟩) (by assumption) ?_
            rotate_left
            · (intro w' hSw; (try dsimp only at hSw); go_split_ands; go_simp; first | done | with_reducible rfl)
            try simp only [Act.put, List.setIfInBounds_toArray, List.set_cons_zero, List.set_cons_succ]
            refine wpAnyH_take (i := 7) (oi := ⟨some 75, _, _, _, _, _⟩) (v := ?_) rfl (by kernel_rfl) (by kernel_rfl) (by kernel_rfl) (fun _ _ _ h => h) (Or.inl ⟨by kernel_rfl, ?_⟩) (by assumption) ?_
            rotate_left
            · (intro w' hSw; (try dsimp only at hSw); go_split_ands; go_simp; first | done | with_reducible rfl)
            try simp only [Act.put, List.setIfInBounds_toArray, List.set_cons_zero, List.set_cons_succ]
            refine wpAnyH_take (i := 8) (oi := ⟨some 76, _, _, _, _, _⟩) (v := ?_) rfl (by kernel_rfl) (by kernel_rfl) (by kernel_rfl) (fun _ _ _ h => h) (Or.inl ⟨by kernel_rfl, ?_⟩) (by assumption) ?_
            rotate_left
            · (intro w' hSw; (try dsimp only at hSw); go_split_ands; go_simp; first | done | with_reducible rfl)
            try simp only [Act.put, List.setIfInBounds_toArray, List.set_cons_zero, List.set_cons_succ]
            refine wpAnyH_ready (rs := [9]) (by kernel_rfl) (by simp) ?_
            refine AllReadyH.cons (o := ⟨some 16, _, _, _, _, _⟩) rfl (fun K hK => ?_) (AllReadyH.nil)
            go_simp
            refine hK.out _ _ ?_ (fun hHeld => ?_)
            · exact HK.out _ (hb9.alloc hb9.size _)
            clear hK K
            try simp only [Act.put, List.setIfInBounds_toArray, List.set_cons_zero, List.set_cons_succ]
            refine wpAnyH_ready (rs := [10]) (by kernel_rfl) (by simp) ?_
            refine AllReadyH.cons (o := ⟨none, _, _, _, _, _⟩) rfl (fun K hK => ?_) (AllReadyH.nil)
            rw [if_pos (by kernel_rfl)]
            refine wp_store_row _ _ _ rfl w9.heap.size #[.slice A9 n9 c9, .int .i64 rv9] rfl rfl 26 #[.slice none 0 0, .int .i64 0] (Lies.new _ _ _) (by kernel_rfl) rfl (by simp [Value.oneCell']) ?_
            refine hK.out _ _ ?_ (fun hHeld => ?_)
            · exact HK.out _ (below_setRow (hb9.alloc hb9.size _) hb9.size _)
            clear hK K
            try simp only [Act.put]
            refine wpAnyH_ready (rs := [11]) (by kernel_rfl) (by simp) ?_
            refine AllReadyH.cons (o := ⟨some 17, _, _, _, _, _⟩) rfl (fun K hK => ?_) (AllReadyH.nil)
            go_simp
            refine hK.out _ _ ?_ (fun hHeld => ?_)
            · exact HK.out _ (below_setRow (hb9.alloc hb9.size _) hb9.size _)
            clear hK K
            try simp only [Act.put, List.setIfInBounds_toArray, List.set_cons_zero, List.set_cons_succ]
            refine wpAnyH_done (by kernel_rfl) ?_ _
            obtain ⟨wz, hwz⟩ : ∃ wz, wz = (w9.alloc (.cells #[.slice none 0 0, .int .i64 0] 26)).setRow w9.heap.size #[.slice A9 n9 c9, .int .i64 rv9] := ⟨_, rfl⟩
            have HBZ := Lib.hid (show Below wo.heap.size wo wz from by rw [hwz]; exact below_setRow (hb9.alloc hb9.size _) hb9.size _)
            rw [← hwz]
            clear hwz hb9
            cases fx
            · go_wp2_with fail
              go_roundw
              case rel => exact ⟨q + 1, by omega, by simp, fun j y hj hy => by
                by_cases hjq : j = q
                · subst hjq; rw [HXX.out] at hy; injection hy with hy; rw [← hy]; have h := HFX.out; cases hT : R x with | none => rfl | some z => rw [hT] at h; simp at h
                · exact HNE.out j y (by omega) hy, HBW.out.trans (HBZ.out.mono HBW.out.size)⟩
              case measure => (simp [intOf] <;> omega)
            · go_wp2_with fail
              go_ret
              exact ⟨rfl, HBo.out.trans (HBZ.out.mono HBo.out.size)⟩
          · go_simp
            refine hK.out _ _ ?_ (fun hHeld => ?_)
            · exact HK.out _ HDA.out
            clear hK K
            try simp only [Act.put, List.setIfInBounds_toArray, List.set_cons_zero, List.set_cons_succ]
            refine wpAnyH_ready (rs := [5]) (by kernel_rfl) (by simp) ?_
            refine AllReadyH.cons (o := ⟨some 74, _, _, _, _, _⟩) rfl (fun K hK => ?_) (AllReadyH.nil)
            go_simp
            go_at_call 11
            refine (HC.out _ HDA.out).mono ?_
            rintro e w9 ⟨A9, n9, c9, rv9, rfl, ht9, hb9a⟩
            have hb9 : Below wo.heap.size wo w9 := HDA.out.trans (hb9a.mono HDA.out.size)
            have hn9 := Lib.hid (HNA9.out.later hb9a)
            clear hb9a
            clear ht9
            refine hK.out _ _ ?_ (fun hHeld => ?_)
            · exact HK.out _ hb9
            clear hK K
            try simp only [Act.put, List.setIfInBounds_toArray, List.set_cons_zero, List.set_cons_succ]
            refine wpAnyH_take (i := 6) (oi := ⟨some 68, _, _, _, _, _⟩) (v := ?_) rfl (by kernel_rfl) (by kernel_rfl) (by kernel_rfl) (fun _ _ _ h => h) (Or.inl ⟨by kernel_rfl, ?_⟩) (by assumption) ?_
            rotate_left
            · (intro w' hSw; (try dsimp only at hSw); go_split_ands; go_simp; first | done | with_reducible rfl)
            try simp only [Act.put, List.setIfInBounds_toArray, List.set_cons_zero, List.set_cons_succ]
            refine wpAnyH_take (i := 7) (oi := ⟨some 75, _, _, _, _, _⟩) (v := ?_) rfl (by kernel_rfl) (by kernel_rfl) (by kernel_rfl) (fun _ _ _ h => h) (Or.inl ⟨by kernel_rfl, ?_⟩) (by assumption) ?_
            rotate_left
            · (intro w' hSw; (try dsimp only at hSw); go_split_ands; go_simp; first | done | with_reducible rfl)
            try simp only [Act.put, List.setIfInBounds_toArray, List.set_cons_zero, List.set_cons_succ]
            refine wpAnyH_take (i := 8) (oi := ⟨some 76, _, _, _, _, _⟩) (v := ?_) rfl (by kernel_rfl) (by kernel_rfl) (by kernel_rfl) (fun _ _ _ h => h) (Or.inl ⟨by kernel_rfl, ?_⟩) (by assumption) ?_
            rotate_left
            · (intro w' hSw; (try dsimp only at hSw); go_split_ands; go_simp; first | done | with_reducible rfl)
            try simp only [Act.put, List.setIfInBounds_toArray, List.set_cons_zero, List.set_cons_succ]
            refine wpAnyH_ready (rs := [10]) (by kernel_rfl) (by simp) ?_
            refine AllReadyH.cons (o := ⟨none, _, _, _, _, _⟩) rfl (fun K hK => ?_) (AllReadyH.nil)
            rw [if_pos (by kernel_rfl)]
            refine wp_store_row _ _ _ rfl wo.heap.size #[.slice A9 n9 c9, .int .i64 rv9] rfl rfl 26 #[.slice none 0 0, .int .i64 0] (hn9.out) (by kernel_rfl) rfl (by simp [Value.oneCell']) ?_
            refine hK.out _ _ ?_ (fun hHeld => ?_)
            · exact HK.out _ (below_setRow hb9 (Nat.le_refl _) _)
            clear hK K
            try simp only [Act.put]
            refine wpAnyH_ready (rs := [11]) (by kernel_rfl) (by simp) ?_
            refine AllReadyH.cons (o := ⟨some 17, _, _, _, _, _⟩) rfl (fun K hK => ?_) (AllReadyH.nil)
            go_simp
            refine hK.out _ _ ?_ (fun hHeld => ?_)
            · exact HK.out _ (below_setRow hb9 (Nat.le_refl _) _)
            clear hK K
            try simp only [Act.put, List.setIfInBounds_toArray, List.set_cons_zero, List.set_cons_succ]
            refine wpAnyH_done (by kernel_rfl) ?_ _
            obtain ⟨wz, hwz⟩ : ∃ wz, wz = w9.setRow wo.heap.size #[.slice A9 n9 c9, .int .i64 rv9] := ⟨_, rfl⟩
            have HBZ := Lib.hid (show Below wo.heap.size wo wz from by rw [hwz]; exact below_setRow hb9 (Nat.le_refl _) _)
            rw [← hwz]
            clear hwz hb9
            cases fx
            · go_wp2_with fail
              go_roundw
              case rel => exact ⟨q + 1, by omega, by simp, fun j y hj hy => by
                by_cases hjq : j = q
                · subst hjq; rw [HXX.out] at hy; injection hy with hy; rw [← hy]; have h := HFX.out; cases hT : R x with | none => rfl | some z => rw [hT] at h; simp at h
                · exact HNE.out j y (by omega) hy, HBW.out.trans (HBZ.out.mono HBW.out.size)⟩
              case measure => (simp [intOf] <;> omega)
            · go_wp2_with fail
              go_ret
              exact ⟨rfl, HBo.out.trans (HBZ.out.mono HBo.out.size)⟩
        · obtain rfl : q = NB := by omega
          have hnone : ∀ x ∈ Lb, R x = none := by
            intro x hx
            obtain ⟨j, hj, he⟩ := List.getElem_of_mem hx
            exact HNE.out j x (by have := HNB.out; omega) (by rw [List.getElem?_eq_getElem hj, he])
          have HNO_b := Lib.hid hnone
          have HL_t := Lib.hid (HL_t.out.later HBW.out)
          have HL_u := Lib.hid (HL_u.out.later HBW.out)
          have HL_s := Lib.hid (HL_s.out.later HBW.out)
          have HSUB := Lib.hid (HSUB.out.later HBW.out)
          have HB := HBo
          clear hnone HBo
          obtain ⟨V, hV⟩ : ∃ V, V = wo.alloc (.cells #[.int .i64 7, .string ⟨#[]⟩, .int .i64 9, .slice none 0 0, .slice none 0 0, .int .i64 0] 28) := ⟨_, rfl⟩
          obtain ⟨b18, hb18⟩ : ∃ b, b = wo.heap.size := ⟨_, rfl⟩
          have hbV : Below wo.heap.size wo V := by rw [hV]; exact below_new wo _
          have HL_v := Lib.hid (show Lies V b18 28 #[.int .i64 7, .string ⟨#[]⟩, .int .i64 9, .slice none 0 0, .slice none 0 0, .int .i64 0] from by rw [hV, hb18]; exact Lies.new _ _ _)
          have HL_t := Lib.hid (HL_t.out.later hbV)
          have HL_u := Lib.hid (HL_u.out.later hbV)
          have HL_s := Lib.hid (HL_s.out.later hbV)
          have HSUB := Lib.hid (HSUB.out.later hbV)
          have HB := Lib.hid (HB.out.trans (hbV.mono HB.out.size))
          have HV := Lib.hid hV
          have HB18 := Lib.hid hb18
          clear hV hbV hb18
          go_upto_region 19 with fail
          rw [← HB18.out, ← HV.out]
          go_cut [19] from 80 to 87 (fun p wx => ∃ (g : Nat) (k5 : Int) (nm5 : List UInt8) (v5 : Int) (A5 : Option Addr) (n5 c5 : Nat) (B5 : Option Addr) (m5 d5 : Nat) (rv5 : Int), p = .pointer (some ⟨g, 0, none⟩) ∧ Lies wx g 28 #[.int .i64 k5, .string (ba nm5), .int .i64 v5, .slice A5 n5 c5, .slice B5 m5 d5, .int .i64 rv5] ∧ TRV wx (tfunU u) [.int .i64 k5, .string (ba nm5), .int .i64 v5, .slice A5 n5 c5, .slice B5 m5 d5, .int .i64 rv5] ∧ Below V.heap.size V wx)
          case first =>
            have HK := Lib.hid (show ∀ X : World, Below V.heap.size V X → (X.cell? ⟨w5.heap.size, 0, none⟩ = some (.slice Aa na ca) ∧ X.cell? ⟨w5.heap.size, 1, none⟩ = some (.slice Ab nb cb)) ∧ (X.cell? ⟨(w.heap.size + 1), 0, none⟩ = some (.int .i64 k1) ∧ X.cell? ⟨(w.heap.size + 1), 1, none⟩ = some (.string (ba nm1)) ∧ X.cell? ⟨(w.heap.size + 1), 2, none⟩ = some (.int .i64 v1) ∧ X.cell? ⟨(w.heap.size + 1), 3, none⟩ = some (.slice A1 n1 c1) ∧ X.cell? ⟨(w.heap.size + 1), 4, none⟩ = some (.slice B1 m1 d1) ∧ X.cell? ⟨(w.heap.size + 1), 5, none⟩ = some (.int .i64 rv1)) ∧ (X.cell? ⟨b18, 0, none⟩ = some (.int .i64 7) ∧ X.cell? ⟨b18, 1, none⟩ = some (.string ⟨#[]⟩) ∧ X.cell? ⟨b18, 2, none⟩ = some (.int .i64 9) ∧ X.cell? ⟨b18, 3, none⟩ = some (.slice none 0 0) ∧ X.cell? ⟨b18, 4, none⟩ = some (.slice none 0 0) ∧ X.cell? ⟨b18, 5, none⟩ = some (.int .i64 0)) from fun X hb => ⟨⟨(hb.cell (p := ⟨w5.heap.size, 0, none⟩) HL_s.out.lt).trans (HL_s.out.cell 0), (hb.cell (p := ⟨w5.heap.size, 1, none⟩) HL_s.out.lt).trans (HL_s.out.cell 1)⟩, ⟨(hb.cell (p := ⟨(w.heap.size + 1), 0, none⟩) HL_u.out.lt).trans (HL_u.out.cell 0), (hb.cell (p := ⟨(w.heap.size + 1), 1, none⟩) HL_u.out.lt).trans (HL_u.out.cell 1), (hb.cell (p := ⟨(w.heap.size + 1), 2, none⟩) HL_u.out.lt).trans (HL_u.out.cell 2), (hb.cell (p := ⟨(w.heap.size + 1), 3, none⟩) HL_u.out.lt).trans (HL_u.out.cell 3), (hb.cell (p := ⟨(w.heap.size + 1), 4, none⟩) HL_u.out.lt).trans (HL_u.out.cell 4), (hb.cell (p := ⟨(w.heap.size + 1), 5, none⟩) HL_u.out.lt).trans (HL_u.out.cell 5)⟩, ⟨(hb.cell (p := ⟨b18, 0, none⟩) HL_v.out.lt).trans (HL_v.out.cell 0), (hb.cell (p := ⟨b18, 1, none⟩) HL_v.out.lt).trans (HL_v.out.cell 1), (hb.cell (p := ⟨b18, 2, none⟩) HL_v.out.lt).trans (HL_v.out.cell 2), (hb.cell (p := ⟨b18, 3, none⟩) HL_v.out.lt).trans (HL_v.out.cell 3), (hb.cell (p := ⟨b18, 4, none⟩) HL_v.out.lt).trans (HL_v.out.cell 4), (hb.cell (p := ⟨b18, 5, none⟩) HL_v.out.lt).trans (HL_v.out.cell 5)⟩⟩)
            have HC2 := Lib.hid (show ∀ X : World, Below V.heap.size V X → _ from fun X hb => setT0 (HSUB.out.later hb) (by omega) 9 (i64ok_of (by omega) (by omega)) u _ (HU.out.later (HB.out.trans (hb.mono HB.out.size))) (by have := HUZ.out; omega))
            have HC7 := Lib.hid (show ∀ (X : World) (g : Nat) (A1 : Option Addr) (n1 c1 : Nat) (A2 : Option Addr) (n2 c2 : Nat), Lies X g 28 #[.int .i64 7, .string ⟨#[]⟩, .int .i64 9, .slice none 0 0, .slice none 0 0, .int .i64 0, .int .i64 7, .string ⟨#[]⟩, .int .i64 9, .slice none 0 0, .slice none 0 0, .int .i64 0] → SubV X (.agg #[.slice A1 n1 c1, .slice A2 n2 c2]) 11 (setF T 9 u) R →
                Calls Try.prog 16 #[.agg #[.slice A1 n1 c1, .slice A2 n2 c2], .agg #[.int .i64 5, .string ⟨#[]⟩, .int .i64 0, .slice (some ⟨g, 0, none⟩) 2 2, .slice none 0 0, .int .i64 0]] X fun e x7 => ∃ k5 nm5 v5 A5 n5 c5 B5 m5 d5 rv5, e = .returned (.agg #[.int .i64 k5, .string (ba nm5), .int .i64 v5, .slice A5 n5 c5, .slice B5 m5 d5, .int .i64 rv5]) ∧ (∀ w'', Kept (fun b => b < X.heap.size + 3) x7 w'' → TRV w'' (tfunU u) [.int .i64 k5, .string (ba nm5), .int .i64 v5, .slice A5 n5 c5, .slice B5 m5 d5, .int .i64 rv5]) ∧ Below X.heap.size X x7 from fun X g A1 n1 c1 A2 n2 c2 hl hs => by
              refine (apply_any X _ 11 _ R hs (by omega) tfun9 _ (fun9_trv (show Lies X g 28 #[.int .i64 7, .string (ba []), .int .i64 9, .slice none 0 0, .slice none 0 0, .int .i64 0, .int .i64 7, .string (ba []), .int .i64 9, .slice none 0 0, .slice none 0 0, .int .i64 0] from hl)) (rf_fun9 T R u) (pcs_fun9 T u (by have := HUZ.out; omega))).mono ?_
              rintro e x7 ⟨l, rfl, h1, h2⟩
              rw [ap_fun9] at h1
              have h3 := (h1 x7 ⟨Nat.le_refl _, fun _ _ _ => rfl⟩).trv
              obtain ⟨k5, nm5, v5, A5, n5, c5, B5, m5, d5, rv5, rfl⟩ := h3.form
              exact ⟨_, _, _, _, _, _, _, _, _, _, rfl, fun w'' hk => (h1 w'' hk).trv, h2⟩)
            refine wp_region_held_drew (S := fun X => (X.cell? ⟨w5.heap.size, 0, none⟩ = some (.slice Aa na ca) ∧ X.cell? ⟨w5.heap.size, 1, none⟩ = some (.slice Ab nb cb)) ∧ (X.cell? ⟨(w.heap.size + 1), 0, none⟩ = some (.int .i64 k1) ∧ X.cell? ⟨(w.heap.size + 1), 1, none⟩ = some (.string (ba nm1)) ∧ X.cell? ⟨(w.heap.size + 1), 2, none⟩ = some (.int .i64 v1) ∧ X.cell? ⟨(w.heap.size + 1), 3, none⟩ = some (.slice A1 n1 c1) ∧ X.cell? ⟨(w.heap.size + 1), 4, none⟩ = some (.slice B1 m1 d1) ∧ X.cell? ⟨(w.heap.size + 1), 5, none⟩ = some (.int .i64 rv1)) ∧ (X.cell? ⟨b18, 0, none⟩ = some (.int .i64 7) ∧ X.cell? ⟨b18, 1, none⟩ = some (.string ⟨#[]⟩) ∧ X.cell? ⟨b18, 2, none⟩ = some (.int .i64 9) ∧ X.cell? ⟨b18, 3, none⟩ = some (.slice none 0 0) ∧ X.cell? ⟨b18, 4, none⟩ = some (.slice none 0 0) ∧ X.cell? ⟨b18, 5, none⟩ = some (.int .i64 0))) (by kernel_rfl) ?_ (fun hHeld => ?_)
            · exact HK.out _ (Below.refl V.heap.size V).drew
            refine wpAnyH_take (i := 0) (oi := ⟨some 80, _, _, _, _, _⟩) (v := ?_) rfl (by kernel_rfl) (by kernel_rfl) (by kernel_rfl) (fun _ _ _ h => h) (Or.inl ⟨by kernel_rfl, ?_⟩) (by assumption) ?_
            rotate_left
            · (intro w' hSw; (try dsimp only at hSw); go_split_ands; go_simp; first | done | with_reducible rfl)
            try simp only [Act.put, List.setIfInBounds_toArray, List.set_cons_zero, List.set_cons_succ]
            refine wpAnyH_take (i := 1) (oi := ⟨some 81, _, _, _, _, _⟩) (v := ?_) rfl (by kernel_rfl) (by kernel_rfl) (by kernel_rfl) (fun _ _ _ h => h) (Or.inl ⟨by kernel_rfl, ?_⟩) (by assumption) ?_
            rotate_left
            · (intro w' hSw; (try dsimp only at hSw); go_split_ands; go_simp; first | done | with_reducible rfl)
            try simp only [Act.put, List.setIfInBounds_toArray, List.set_cons_zero, List.set_cons_succ]
            refine wpAnyH_take (i := 3) (oi := ⟨some 83, _, _, _, _, _⟩) (v := ?_) rfl (by kernel_rfl) (by kernel_rfl) (by kernel_rfl) (fun _ _ _ h => h) (Or.inl ⟨by kernel_rfl, ?_⟩) (by assumption) ?_
            rotate_left
            · (intro w' hSw; (try dsimp only at hSw); go_split_ands; go_simp; first | done | with_reducible rfl)
            try simp only [Act.put, List.setIfInBounds_toArray, List.set_cons_zero, List.set_cons_succ]
            refine wpAnyH_take (i := 4) (oi := ⟨some 84, _, _, _, _, _⟩) (v := ?_) rfl (by kernel_rfl) (by kernel_rfl) (by kernel_rfl) (fun _ _ _ h => h) (Or.inl ⟨by kernel_rfl, ?_⟩) (by assumption) ?_
            rotate_left
            · (intro w' hSw; (try dsimp only at hSw); go_split_ands; go_simp; first | done | with_reducible rfl)
            try simp only [Act.put, List.setIfInBounds_toArray, List.set_cons_zero, List.set_cons_succ]
            refine wpAnyH_ready (rs := [2, 5, 8]) (by kernel_rfl) (by simp) ?_
            refine AllReadyH.cons (o := ⟨some 82, _, _, _, _, _⟩) rfl (fun K hK => ?_) (AllReadyH.cons (o := ⟨some 85, _, _, _, _, _⟩) rfl (fun K hK => ?_) (AllReadyH.cons (o := ⟨some 19, _, _, _, _, _⟩) rfl (fun K hK => ?_) (AllReadyH.nil)))
            · go_simp
              go_at_call 8
              refine (HC2.out _ ((Below.refl V.heap.size V)).drew).mono ?_
              rintro e x2 ⟨A8, n8, c8, B8, m8, d8, rfl, hs8, hba⟩
              have HB2 := Lib.hid ((((Below.refl V.heap.size V)).drew).trans (hba.mono (((Below.refl V.heap.size V)).drew).size))
              have HS8 := Lib.hid hs8
              clear hs8 hba
              refine hK.out _ _ ?_ (fun hHeld => ?_)
              · exact HK.out _ (HB2.out)
              clear hK K
              try simp only [Act.put, List.setIfInBounds_toArray, List.set_cons_zero, List.set_cons_succ]
              refine wpAnyH_ready (rs := [5, 8]) (by kernel_rfl) (by simp) ?_
              refine AllReadyH.cons (o := ⟨some 85, _, _, _, _, _⟩) rfl (fun K hK => ?_) (AllReadyH.cons (o := ⟨some 19, _, _, _, _, _⟩) rfl (fun K hK => ?_) (AllReadyH.nil))
              · go_simp
                refine hK.out _ _ ?_ (fun hHeld => ?_)
                · exact HK.out _ (((HB2.out).alloc (HB2.out).size _))
                clear hK K
                try simp only [Act.put, List.setIfInBounds_toArray, List.set_cons_zero, List.set_cons_succ]
                refine wpAnyH_take (i := 6) (oi := ⟨some 86, _, _, _, _, _⟩) (v := ?_) rfl (by kernel_rfl) (by kernel_rfl) (by kernel_rfl) (fun _ _ _ h => h) (Or.inl ⟨by kernel_rfl, ?_⟩) (by assumption) ?_
                rotate_left
                · (intro w' hSw; (try dsimp only at hSw); go_split_ands; go_simp; first | done | with_reducible rfl)
                try simp only [Act.put, List.setIfInBounds_toArray, List.set_cons_zero, List.set_cons_succ]
                refine wpAnyH_ready (rs := [7, 8]) (by kernel_rfl) (by simp) ?_
                refine AllReadyH.cons (o := ⟨some 87, _, _, _, _, _⟩) rfl (fun K hK => ?_) (AllReadyH.cons (o := ⟨some 19, _, _, _, _, _⟩) rfl (fun K hK => ?_) (AllReadyH.nil))
                · go_simp
                  go_at_call 16
                  have hc7 := HC7.out ((x2.alloc (.cells #[.int .i64 7, .string ⟨#[]⟩, .int .i64 9, .slice none 0 0, .slice none 0 0, .int .i64 0, .int .i64 7, .string ⟨#[]⟩, .int .i64 9, .slice none 0 0, .slice none 0 0, .int .i64 0] 28))) (x2.heap.size) _ _ _ _ _ _ (show Lies ((x2.alloc (.cells #[.int .i64 7, .string ⟨#[]⟩, .int .i64 9, .slice none 0 0, .slice none 0 0, .int .i64 0, .int .i64 7, .string ⟨#[]⟩, .int .i64 9, .slice none 0 0, .slice none 0 0, .int .i64 0] 28))) (x2.heap.size) 28 #[.int .i64 7, .string ⟨#[]⟩, .int .i64 9, .slice none 0 0, .slice none 0 0, .int .i64 0, .int .i64 7, .string ⟨#[]⟩, .int .i64 9, .slice none 0 0, .slice none 0 0, .int .i64 0] from Lies.new' _ 28 #[.int .i64 7, .string ⟨#[]⟩, .int .i64 9, .slice none 0 0, .slice none 0 0, .int .i64 0, .int .i64 7, .string ⟨#[]⟩, .int .i64 9, .slice none 0 0, .slice none 0 0, .int .i64 0] (by simp)) (HS8.out.later (((Below.refl x2.heap.size x2)).alloc ((Below.refl x2.heap.size x2)).size _))
                  (with_reducible refine hc7.mono ?_)
                  clear hc7
                  rintro e x7 ⟨k5, nm5, v5, A5, n5, c5, B5, m5, d5, rv5, rfl, ht5, hba⟩
                  have HB7 := Lib.hid ((((HB2.out).alloc (HB2.out).size _)).trans (hba.mono (((HB2.out).alloc (HB2.out).size _)).size))
                  have HT5 := Lib.hid ht5
                  have HBLK := Lib.hid ((show Lies ((x2.alloc (.cells #[.int .i64 7, .string ⟨#[]⟩, .int .i64 9, .slice none 0 0, .slice none 0 0, .int .i64 0, .int .i64 7, .string ⟨#[]⟩, .int .i64 9, .slice none 0 0, .slice none 0 0, .int .i64 0] 28))) (x2.heap.size) 28 #[.int .i64 7, .string ⟨#[]⟩, .int .i64 9, .slice none 0 0, .slice none 0 0, .int .i64 0, .int .i64 7, .string ⟨#[]⟩, .int .i64 9, .slice none 0 0, .slice none 0 0, .int .i64 0] from Lies.new' _ 28 #[.int .i64 7, .string ⟨#[]⟩, .int .i64 9, .slice none 0 0, .slice none 0 0, .int .i64 0, .int .i64 7, .string ⟨#[]⟩, .int .i64 9, .slice none 0 0, .slice none 0 0, .int .i64 0] (by simp)).later hba)
                  clear ht5 hba
                  refine hK.out _ _ ?_ (fun hHeld => ?_)
                  · exact HK.out _ (HB7.out)
                  clear hK K
                  try simp only [Act.put, List.setIfInBounds_toArray, List.set_cons_zero, List.set_cons_succ]
                  refine wpAnyH_ready (rs := [8]) (by kernel_rfl) (by simp) ?_
                  refine AllReadyH.cons (o := ⟨some 19, _, _, _, _, _⟩) rfl (fun K hK => ?_) (AllReadyH.nil)
                  go_simp
                  refine hK.out _ _ ?_ (fun hHeld => ?_)
                  · exact HK.out _ (((HB7.out).alloc (HB7.out).size _))
                  clear hK K
                  try simp only [Act.put, List.setIfInBounds_toArray, List.set_cons_zero, List.set_cons_succ]
                  have HZGE := Lib.hid (show V.heap.size ≤ x7.heap.size from by have := (HB7.out).size; omega)
                  refine wpAnyH_ready (rs := [9]) (by kernel_rfl) (by simp) ?_
                  refine AllReadyH.cons (o := ⟨none, _, _, _, _, _⟩) rfl (fun K hK => ?_) (AllReadyH.nil)
                  rw [if_pos (by kernel_rfl)]
                  refine wp_store_row _ _ _ rfl (x7.heap.size) #[.int .i64 k5, .string (ba nm5), .int .i64 v5, .slice A5 n5 c5, .slice B5 m5 d5, .int .i64 rv5] rfl rfl 28 #[.int .i64 0, .string ⟨#[]⟩, .int .i64 0, .slice none 0 0, .slice none 0 0, .int .i64 0] ((show Lies ((x7.alloc (.cells #[.int .i64 0, .string ⟨#[]⟩, .int .i64 0, .slice none 0 0, .slice none 0 0, .int .i64 0] 28))) (x7.heap.size) 28 #[.int .i64 0, .string ⟨#[]⟩, .int .i64 0, .slice none 0 0, .slice none 0 0, .int .i64 0] from Lies.new' _ 28 #[.int .i64 0, .string ⟨#[]⟩, .int .i64 0, .slice none 0 0, .slice none 0 0, .int .i64 0] (by simp))) (by kernel_rfl) rfl (by simp [Value.oneCell']) ?_
                  refine hK.out _ _ ?_ (fun hHeld => ?_)
                  · exact HK.out _ (below_setRow (((HB7.out).alloc (HB7.out).size _)) (by have := HZGE.out; first | exact this | omega) _)
                  clear hK K
                  try simp only [Act.put]
                  refine wpAnyH_done (by kernel_rfl) ?_ _
                  go_wp2_with fail
                  go_meet
                  exact ⟨_, k5, nm5, v5, A5, n5, c5, B5, m5, d5, rv5, rfl, setRow_heap _ _ _ _ _ _ ((show Lies ((x7.alloc (.cells #[.int .i64 0, .string ⟨#[]⟩, .int .i64 0, .slice none 0 0, .slice none 0 0, .int .i64 0] 28))) (x7.heap.size) 28 #[.int .i64 0, .string ⟨#[]⟩, .int .i64 0, .slice none 0 0, .slice none 0 0, .int .i64 0] from Lies.new' _ 28 #[.int .i64 0, .string ⟨#[]⟩, .int .i64 0, .slice none 0 0, .slice none 0 0, .int .i64 0] (by simp))), HT5.out _ ⟨by simp, fun b hb hn => (setRow_other _ _ _ _ (by omega)).trans ((below_new _ _).block b hb)⟩, below_setRow (((HB7.out).alloc (HB7.out).size _)) (by have := HZGE.out; first | exact this | omega) _⟩
                · go_simp
                  refine hK.out _ _ ?_ (fun hHeld => ?_)
                  · exact HK.out _ (((((HB2.out).alloc (HB2.out).size _)).alloc (((HB2.out).alloc (HB2.out).size _)).size _))
                  clear hK K
                  try simp only [Act.put, List.setIfInBounds_toArray, List.set_cons_zero, List.set_cons_succ]
                  have HZGE := Lib.hid (show V.heap.size ≤ x2.heap.size + 1 from by have := (HB2.out).size; omega)
                  refine wpAnyH_ready (rs := [7]) (by kernel_rfl) (by simp) ?_
                  refine AllReadyH.cons (o := ⟨some 87, _, _, _, _, _⟩) rfl (fun K hK => ?_) (AllReadyH.nil)
                  have HZLT := Lib.hid (show x2.heap.size + 1 < (((x2.alloc (.cells #[.int .i64 7, .string ⟨#[]⟩, .int .i64 9, .slice none 0 0, .slice none 0 0, .int .i64 0, .int .i64 7, .string ⟨#[]⟩, .int .i64 9, .slice none 0 0, .slice none 0 0, .int .i64 0] 28)).alloc (.cells #[.int .i64 0, .string ⟨#[]⟩, .int .i64 0, .slice none 0 0, .slice none 0 0, .int .i64 0] 28))).heap.size from (show Lies (((x2.alloc (.cells #[.int .i64 7, .string ⟨#[]⟩, .int .i64 9, .slice none 0 0, .slice none 0 0, .int .i64 0, .int .i64 7, .string ⟨#[]⟩, .int .i64 9, .slice none 0 0, .slice none 0 0, .int .i64 0] 28)).alloc (.cells #[.int .i64 0, .string ⟨#[]⟩, .int .i64 0, .slice none 0 0, .slice none 0 0, .int .i64 0] 28))) (x2.heap.size + 1) 28 #[.int .i64 0, .string ⟨#[]⟩, .int .i64 0, .slice none 0 0, .slice none 0 0, .int .i64 0] from Lies.new' _ 28 #[.int .i64 0, .string ⟨#[]⟩, .int .i64 0, .slice none 0 0, .slice none 0 0, .int .i64 0] (by simp)).lt)
                  go_simp
                  go_at_call 16
                  have hc7 := HC7.out (((x2.alloc (.cells #[.int .i64 7, .string ⟨#[]⟩, .int .i64 9, .slice none 0 0, .slice none 0 0, .int .i64 0, .int .i64 7, .string ⟨#[]⟩, .int .i64 9, .slice none 0 0, .slice none 0 0, .int .i64 0] 28)).alloc (.cells #[.int .i64 0, .string ⟨#[]⟩, .int .i64 0, .slice none 0 0, .slice none 0 0, .int .i64 0] 28))) (x2.heap.size) _ _ _ _ _ _ (show Lies (((x2.alloc (.cells #[.int .i64 7, .string ⟨#[]⟩, .int .i64 9, .slice none 0 0, .slice none 0 0, .int .i64 0, .int .i64 7, .string ⟨#[]⟩, .int .i64 9, .slice none 0 0, .slice none 0 0, .int .i64 0] 28)).alloc (.cells #[.int .i64 0, .string ⟨#[]⟩, .int .i64 0, .slice none 0 0, .slice none 0 0, .int .i64 0] 28))) (x2.heap.size) 28 #[.int .i64 7, .string ⟨#[]⟩, .int .i64 9, .slice none 0 0, .slice none 0 0, .int .i64 0, .int .i64 7, .string ⟨#[]⟩, .int .i64 9, .slice none 0 0, .slice none 0 0, .int .i64 0] from (Lies.new' _ 28 #[.int .i64 7, .string ⟨#[]⟩, .int .i64 9, .slice none 0 0, .slice none 0 0, .int .i64 0, .int .i64 7, .string ⟨#[]⟩, .int .i64 9, .slice none 0 0, .slice none 0 0, .int .i64 0] (by simp)).alloc _) (HS8.out.later (((((Below.refl x2.heap.size x2)).alloc ((Below.refl x2.heap.size x2)).size _)).alloc ((((Below.refl x2.heap.size x2)).alloc ((Below.refl x2.heap.size x2)).size _)).size _))
                  (with_reducible refine hc7.mono ?_)
                  clear hc7
                  rintro e x7 ⟨k5, nm5, v5, A5, n5, c5, B5, m5, d5, rv5, rfl, ht5, hba⟩
                  have HB7 := Lib.hid ((((((HB2.out).alloc (HB2.out).size _)).alloc (((HB2.out).alloc (HB2.out).size _)).size _)).trans (hba.mono (((((HB2.out).alloc (HB2.out).size _)).alloc (((HB2.out).alloc (HB2.out).size _)).size _)).size))
                  have HT5 := Lib.hid ht5
                  have HBLK := Lib.hid ((show Lies (((x2.alloc (.cells #[.int .i64 7, .string ⟨#[]⟩, .int .i64 9, .slice none 0 0, .slice none 0 0, .int .i64 0, .int .i64 7, .string ⟨#[]⟩, .int .i64 9, .slice none 0 0, .slice none 0 0, .int .i64 0] 28)).alloc (.cells #[.int .i64 0, .string ⟨#[]⟩, .int .i64 0, .slice none 0 0, .slice none 0 0, .int .i64 0] 28))) (x2.heap.size) 28 #[.int .i64 7, .string ⟨#[]⟩, .int .i64 9, .slice none 0 0, .slice none 0 0, .int .i64 0, .int .i64 7, .string ⟨#[]⟩, .int .i64 9, .slice none 0 0, .slice none 0 0, .int .i64 0] from (Lies.new' _ 28 #[.int .i64 7, .string ⟨#[]⟩, .int .i64 9, .slice none 0 0, .slice none 0 0, .int .i64 0, .int .i64 7, .string ⟨#[]⟩, .int .i64 9, .slice none 0 0, .slice none 0 0, .int .i64 0] (by simp)).alloc _).later hba)
                  have HZER := Lib.hid ((show Lies (((x2.alloc (.cells #[.int .i64 7, .string ⟨#[]⟩, .int .i64 9, .slice none 0 0, .slice none 0 0, .int .i64 0, .int .i64 7, .string ⟨#[]⟩, .int .i64 9, .slice none 0 0, .slice none 0 0, .int .i64 0] 28)).alloc (.cells #[.int .i64 0, .string ⟨#[]⟩, .int .i64 0, .slice none 0 0, .slice none 0 0, .int .i64 0] 28))) (x2.heap.size + 1) 28 #[.int .i64 0, .string ⟨#[]⟩, .int .i64 0, .slice none 0 0, .slice none 0 0, .int .i64 0] from Lies.new' _ 28 #[.int .i64 0, .string ⟨#[]⟩, .int .i64 0, .slice none 0 0, .slice none 0 0, .int .i64 0] (by simp)).later hba)
                  clear ht5 hba
                  refine hK.out _ _ ?_ (fun hHeld => ?_)
                  · exact HK.out _ (HB7.out)
                  clear hK K
                  try simp only [Act.put, List.setIfInBounds_toArray, List.set_cons_zero, List.set_cons_succ]
                  refine wpAnyH_ready (rs := [9]) (by kernel_rfl) (by simp) ?_
                  refine AllReadyH.cons (o := ⟨none, _, _, _, _, _⟩) rfl (fun K hK => ?_) (AllReadyH.nil)
                  rw [if_pos (by kernel_rfl)]
                  refine wp_store_row _ _ _ rfl (x2.heap.size + 1) #[.int .i64 k5, .string (ba nm5), .int .i64 v5, .slice A5 n5 c5, .slice B5 m5 d5, .int .i64 rv5] rfl rfl 28 #[.int .i64 0, .string ⟨#[]⟩, .int .i64 0, .slice none 0 0, .slice none 0 0, .int .i64 0] ((show Lies (x7) (x2.heap.size + 1) 28 #[.int .i64 0, .string ⟨#[]⟩, .int .i64 0, .slice none 0 0, .slice none 0 0, .int .i64 0] from HZER.out)) (by kernel_rfl) rfl (by simp [Value.oneCell']) ?_
                  refine hK.out _ _ ?_ (fun hHeld => ?_)
                  · exact HK.out _ (below_setRow (HB7.out) (by have := HZGE.out; first | exact this | omega) _)
                  clear hK K
                  try simp only [Act.put]
                  refine wpAnyH_done (by kernel_rfl) ?_ _
                  go_wp2_with fail
                  go_meet
                  exact ⟨_, k5, nm5, v5, A5, n5, c5, B5, m5, d5, rv5, rfl, setRow_heap _ _ _ _ _ _ ((show Lies (x7) (x2.heap.size + 1) 28 #[.int .i64 0, .string ⟨#[]⟩, .int .i64 0, .slice none 0 0, .slice none 0 0, .int .i64 0] from HZER.out)), HT5.out _ ⟨by simp, fun b hb hn => setRow_other _ _ _ _ (fun e => hn (by have := HZLT.out; show b < _; omega))⟩, below_setRow (HB7.out) (by have := HZGE.out; first | exact this | omega) _⟩
              · go_simp
                refine hK.out _ _ ?_ (fun hHeld => ?_)
                · exact HK.out _ (((HB2.out).alloc (HB2.out).size _))
                clear hK K
                try simp only [Act.put, List.setIfInBounds_toArray, List.set_cons_zero, List.set_cons_succ]
                have HZGE := Lib.hid (show V.heap.size ≤ x2.heap.size from by have := (HB2.out).size; omega)
                refine wpAnyH_ready (rs := [5]) (by kernel_rfl) (by simp) ?_
                refine AllReadyH.cons (o := ⟨some 85, _, _, _, _, _⟩) rfl (fun K hK => ?_) (AllReadyH.nil)
                go_simp
                refine hK.out _ _ ?_ (fun hHeld => ?_)
                · exact HK.out _ (((((HB2.out).alloc (HB2.out).size _)).alloc (((HB2.out).alloc (HB2.out).size _)).size _))
                clear hK K
                try simp only [Act.put, List.setIfInBounds_toArray, List.set_cons_zero, List.set_cons_succ]
                refine wpAnyH_take (i := 6) (oi := ⟨some 86, _, _, _, _, _⟩) (v := ?_) rfl (by kernel_rfl) (by kernel_rfl) (by kernel_rfl) (fun _ _ _ h => h) (Or.inl ⟨by kernel_rfl, ?_⟩) (by assumption) ?_
                rotate_left
                · (intro w' hSw; (try dsimp only at hSw); go_split_ands; go_simp; first | done | with_reducible rfl)
                try simp only [Act.put, List.setIfInBounds_toArray, List.set_cons_zero, List.set_cons_succ]
                refine wpAnyH_ready (rs := [7]) (by kernel_rfl) (by simp) ?_
                refine AllReadyH.cons (o := ⟨some 87, _, _, _, _, _⟩) rfl (fun K hK => ?_) (AllReadyH.nil)
                have HZLT := Lib.hid (show x2.heap.size < (((x2.alloc (.cells #[.int .i64 0, .string ⟨#[]⟩, .int .i64 0, .slice none 0 0, .slice none 0 0, .int .i64 0] 28)).alloc (.cells #[.int .i64 7, .string ⟨#[]⟩, .int .i64 9, .slice none 0 0, .slice none 0 0, .int .i64 0, .int .i64 7, .string ⟨#[]⟩, .int .i64 9, .slice none 0 0, .slice none 0 0, .int .i64 0] 28))).heap.size from (show Lies (((x2.alloc (.cells #[.int .i64 0, .string ⟨#[]⟩, .int .i64 0, .slice none 0 0, .slice none 0 0, .int .i64 0] 28)).alloc (.cells #[.int .i64 7, .string ⟨#[]⟩, .int .i64 9, .slice none 0 0, .slice none 0 0, .int .i64 0, .int .i64 7, .string ⟨#[]⟩, .int .i64 9, .slice none 0 0, .slice none 0 0, .int .i64 0] 28))) (x2.heap.size) 28 #[.int .i64 0, .string ⟨#[]⟩, .int .i64 0, .slice none 0 0, .slice none 0 0, .int .i64 0] from (Lies.new' _ 28 #[.int .i64 0, .string ⟨#[]⟩, .int .i64 0, .slice none 0 0, .slice none 0 0, .int .i64 0] (by simp)).alloc _).lt)
                go_simp
                go_at_call 16
                have hc7 := HC7.out (((x2.alloc (.cells #[.int .i64 0, .string ⟨#[]⟩, .int .i64 0, .slice none 0 0, .slice none 0 0, .int .i64 0] 28)).alloc (.cells #[.int .i64 7, .string ⟨#[]⟩, .int .i64 9, .slice none 0 0, .slice none 0 0, .int .i64 0, .int .i64 7, .string ⟨#[]⟩, .int .i64 9, .slice none 0 0, .slice none 0 0, .int .i64 0] 28))) (x2.heap.size + 1) _ _ _ _ _ _ (show Lies (((x2.alloc (.cells #[.int .i64 0, .string ⟨#[]⟩, .int .i64 0, .slice none 0 0, .slice none 0 0, .int .i64 0] 28)).alloc (.cells #[.int .i64 7, .string ⟨#[]⟩, .int .i64 9, .slice none 0 0, .slice none 0 0, .int .i64 0, .int .i64 7, .string ⟨#[]⟩, .int .i64 9, .slice none 0 0, .slice none 0 0, .int .i64 0] 28))) (x2.heap.size + 1) 28 #[.int .i64 7, .string ⟨#[]⟩, .int .i64 9, .slice none 0 0, .slice none 0 0, .int .i64 0, .int .i64 7, .string ⟨#[]⟩, .int .i64 9, .slice none 0 0, .slice none 0 0, .int .i64 0] from Lies.new' _ 28 #[.int .i64 7, .string ⟨#[]⟩, .int .i64 9, .slice none 0 0, .slice none 0 0, .int .i64 0, .int .i64 7, .string ⟨#[]⟩, .int .i64 9, .slice none 0 0, .slice none 0 0, .int .i64 0] (by simp)) (HS8.out.later (((((Below.refl x2.heap.size x2)).alloc ((Below.refl x2.heap.size x2)).size _)).alloc ((((Below.refl x2.heap.size x2)).alloc ((Below.refl x2.heap.size x2)).size _)).size _))
                (with_reducible refine hc7.mono ?_)
                clear hc7
                rintro e x7 ⟨k5, nm5, v5, A5, n5, c5, B5, m5, d5, rv5, rfl, ht5, hba⟩
                have HB7 := Lib.hid ((((((HB2.out).alloc (HB2.out).size _)).alloc (((HB2.out).alloc (HB2.out).size _)).size _)).trans (hba.mono (((((HB2.out).alloc (HB2.out).size _)).alloc (((HB2.out).alloc (HB2.out).size _)).size _)).size))
                have HT5 := Lib.hid ht5
                have HBLK := Lib.hid ((show Lies (((x2.alloc (.cells #[.int .i64 0, .string ⟨#[]⟩, .int .i64 0, .slice none 0 0, .slice none 0 0, .int .i64 0] 28)).alloc (.cells #[.int .i64 7, .string ⟨#[]⟩, .int .i64 9, .slice none 0 0, .slice none 0 0, .int .i64 0, .int .i64 7, .string ⟨#[]⟩, .int .i64 9, .slice none 0 0, .slice none 0 0, .int .i64 0] 28))) (x2.heap.size + 1) 28 #[.int .i64 7, .string ⟨#[]⟩, .int .i64 9, .slice none 0 0, .slice none 0 0, .int .i64 0, .int .i64 7, .string ⟨#[]⟩, .int .i64 9, .slice none 0 0, .slice none 0 0, .int .i64 0] from Lies.new' _ 28 #[.int .i64 7, .string ⟨#[]⟩, .int .i64 9, .slice none 0 0, .slice none 0 0, .int .i64 0, .int .i64 7, .string ⟨#[]⟩, .int .i64 9, .slice none 0 0, .slice none 0 0, .int .i64 0] (by simp)).later hba)
                have HZER := Lib.hid ((show Lies (((x2.alloc (.cells #[.int .i64 0, .string ⟨#[]⟩, .int .i64 0, .slice none 0 0, .slice none 0 0, .int .i64 0] 28)).alloc (.cells #[.int .i64 7, .string ⟨#[]⟩, .int .i64 9, .slice none 0 0, .slice none 0 0, .int .i64 0, .int .i64 7, .string ⟨#[]⟩, .int .i64 9, .slice none 0 0, .slice none 0 0, .int .i64 0] 28))) (x2.heap.size) 28 #[.int .i64 0, .string ⟨#[]⟩, .int .i64 0, .slice none 0 0, .slice none 0 0, .int .i64 0] from (Lies.new' _ 28 #[.int .i64 0, .string ⟨#[]⟩, .int .i64 0, .slice none 0 0, .slice none 0 0, .int .i64 0] (by simp)).alloc _).later hba)
                clear ht5 hba
                refine hK.out _ _ ?_ (fun hHeld => ?_)
                · exact HK.out _ (HB7.out)
                clear hK K
                try simp only [Act.put, List.setIfInBounds_toArray, List.set_cons_zero, List.set_cons_succ]
                refine wpAnyH_ready (rs := [9]) (by kernel_rfl) (by simp) ?_
                refine AllReadyH.cons (o := ⟨none, _, _, _, _, _⟩) rfl (fun K hK => ?_) (AllReadyH.nil)
                rw [if_pos (by kernel_rfl)]
                refine wp_store_row _ _ _ rfl (x2.heap.size) #[.int .i64 k5, .string (ba nm5), .int .i64 v5, .slice A5 n5 c5, .slice B5 m5 d5, .int .i64 rv5] rfl rfl 28 #[.int .i64 0, .string ⟨#[]⟩, .int .i64 0, .slice none 0 0, .slice none 0 0, .int .i64 0] ((show Lies (x7) (x2.heap.size) 28 #[.int .i64 0, .string ⟨#[]⟩, .int .i64 0, .slice none 0 0, .slice none 0 0, .int .i64 0] from HZER.out)) (by kernel_rfl) rfl (by simp [Value.oneCell']) ?_
                refine hK.out _ _ ?_ (fun hHeld => ?_)
                · exact HK.out _ (below_setRow (HB7.out) (by have := HZGE.out; first | exact this | omega) _)
                clear hK K
                try simp only [Act.put]
                refine wpAnyH_done (by kernel_rfl) ?_ _
                go_wp2_with fail
                go_meet
                exact ⟨_, k5, nm5, v5, A5, n5, c5, B5, m5, d5, rv5, rfl, setRow_heap _ _ _ _ _ _ ((show Lies (x7) (x2.heap.size) 28 #[.int .i64 0, .string ⟨#[]⟩, .int .i64 0, .slice none 0 0, .slice none 0 0, .int .i64 0] from HZER.out)), HT5.out _ ⟨by simp, fun b hb hn => setRow_other _ _ _ _ (fun e => hn (by have := HZLT.out; show b < _; omega))⟩, below_setRow (HB7.out) (by have := HZGE.out; first | exact this | omega) _⟩
            · go_simp
              refine hK.out _ _ ?_ (fun hHeld => ?_)
              · exact HK.out _ (((((Below.refl V.heap.size V)).alloc ((Below.refl V.heap.size V)).size _)).drew)
              clear hK K
              try simp only [Act.put, List.setIfInBounds_toArray, List.set_cons_zero, List.set_cons_succ]
              refine wpAnyH_take (i := 6) (oi := ⟨some 86, _, _, _, _, _⟩) (v := ?_) rfl (by kernel_rfl) (by kernel_rfl) (by kernel_rfl) (fun _ _ _ h => h) (Or.inl ⟨by kernel_rfl, ?_⟩) (by assumption) ?_
              rotate_left
              · (intro w' hSw; (try dsimp only at hSw); go_split_ands; go_simp; first | done | with_reducible rfl)
              try simp only [Act.put, List.setIfInBounds_toArray, List.set_cons_zero, List.set_cons_succ]
              refine wpAnyH_ready (rs := [2, 8]) (by kernel_rfl) (by simp) ?_
              refine AllReadyH.cons (o := ⟨some 82, _, _, _, _, _⟩) rfl (fun K hK => ?_) (AllReadyH.cons (o := ⟨some 19, _, _, _, _, _⟩) rfl (fun K hK => ?_) (AllReadyH.nil))
              · go_simp
                go_at_call 8
                refine (HC2.out _ ((((Below.refl V.heap.size V)).alloc ((Below.refl V.heap.size V)).size _)).drew).mono ?_
                rintro e x2 ⟨A8, n8, c8, B8, m8, d8, rfl, hs8, hba⟩
                have HB2 := Lib.hid ((((((Below.refl V.heap.size V)).alloc ((Below.refl V.heap.size V)).size _)).drew).trans (hba.mono (((((Below.refl V.heap.size V)).alloc ((Below.refl V.heap.size V)).size _)).drew).size))
                have HS8 := Lib.hid hs8
                have HBLK := Lib.hid ((show Lies ((V.alloc (.cells #[.int .i64 7, .string ⟨#[]⟩, .int .i64 9, .slice none 0 0, .slice none 0 0, .int .i64 0, .int .i64 7, .string ⟨#[]⟩, .int .i64 9, .slice none 0 0, .slice none 0 0, .int .i64 0] 28)).drew) (V.heap.size) 28 #[.int .i64 7, .string ⟨#[]⟩, .int .i64 9, .slice none 0 0, .slice none 0 0, .int .i64 0, .int .i64 7, .string ⟨#[]⟩, .int .i64 9, .slice none 0 0, .slice none 0 0, .int .i64 0] from Lies.new' _ 28 #[.int .i64 7, .string ⟨#[]⟩, .int .i64 9, .slice none 0 0, .slice none 0 0, .int .i64 0, .int .i64 7, .string ⟨#[]⟩, .int .i64 9, .slice none 0 0, .slice none 0 0, .int .i64 0] (by simp)).later hba)
                clear hs8 hba
                refine hK.out _ _ ?_ (fun hHeld => ?_)
                · exact HK.out _ (HB2.out)
                clear hK K
                try simp only [Act.put, List.setIfInBounds_toArray, List.set_cons_zero, List.set_cons_succ]
                refine wpAnyH_ready (rs := [7, 8]) (by kernel_rfl) (by simp) ?_
                refine AllReadyH.cons (o := ⟨some 87, _, _, _, _, _⟩) rfl (fun K hK => ?_) (AllReadyH.cons (o := ⟨some 19, _, _, _, _, _⟩) rfl (fun K hK => ?_) (AllReadyH.nil))
                · go_simp
                  go_at_call 16
                  have hc7 := HC7.out (x2) (V.heap.size) _ _ _ _ _ _ (show Lies (x2) (V.heap.size) 28 #[.int .i64 7, .string ⟨#[]⟩, .int .i64 9, .slice none 0 0, .slice none 0 0, .int .i64 0, .int .i64 7, .string ⟨#[]⟩, .int .i64 9, .slice none 0 0, .slice none 0 0, .int .i64 0] from HBLK.out) (HS8.out.later (Below.refl x2.heap.size x2))
                  (with_reducible refine hc7.mono ?_)
                  clear hc7
                  rintro e x7 ⟨k5, nm5, v5, A5, n5, c5, B5, m5, d5, rv5, rfl, ht5, hba⟩
                  have HB7 := Lib.hid ((HB2.out).trans (hba.mono (HB2.out).size))
                  have HT5 := Lib.hid ht5
                  have HBLK := Lib.hid ((show Lies (x2) (V.heap.size) 28 #[.int .i64 7, .string ⟨#[]⟩, .int .i64 9, .slice none 0 0, .slice none 0 0, .int .i64 0, .int .i64 7, .string ⟨#[]⟩, .int .i64 9, .slice none 0 0, .slice none 0 0, .int .i64 0] from HBLK.out).later hba)
                  clear ht5 hba
                  refine hK.out _ _ ?_ (fun hHeld => ?_)
                  · exact HK.out _ (HB7.out)
                  clear hK K
                  try simp only [Act.put, List.setIfInBounds_toArray, List.set_cons_zero, List.set_cons_succ]
                  refine wpAnyH_ready (rs := [8]) (by kernel_rfl) (by simp) ?_
                  refine AllReadyH.cons (o := ⟨some 19, _, _, _, _, _⟩) rfl (fun K hK => ?_) (AllReadyH.nil)
                  go_simp
                  refine hK.out _ _ ?_ (fun hHeld => ?_)
                  · exact HK.out _ (((HB7.out).alloc (HB7.out).size _))
                  clear hK K
                  try simp only [Act.put, List.setIfInBounds_toArray, List.set_cons_zero, List.set_cons_succ]
                  have HZGE := Lib.hid (show V.heap.size ≤ x7.heap.size from by have := (HB7.out).size; omega)
                  refine wpAnyH_ready (rs := [9]) (by kernel_rfl) (by simp) ?_
                  refine AllReadyH.cons (o := ⟨none, _, _, _, _, _⟩) rfl (fun K hK => ?_) (AllReadyH.nil)
                  rw [if_pos (by kernel_rfl)]
                  refine wp_store_row _ _ _ rfl (x7.heap.size) #[.int .i64 k5, .string (ba nm5), .int .i64 v5, .slice A5 n5 c5, .slice B5 m5 d5, .int .i64 rv5] rfl rfl 28 #[.int .i64 0, .string ⟨#[]⟩, .int .i64 0, .slice none 0 0, .slice none 0 0, .int .i64 0] ((show Lies ((x7.alloc (.cells #[.int .i64 0, .string ⟨#[]⟩, .int .i64 0, .slice none 0 0, .slice none 0 0, .int .i64 0] 28))) (x7.heap.size) 28 #[.int .i64 0, .string ⟨#[]⟩, .int .i64 0, .slice none 0 0, .slice none 0 0, .int .i64 0] from Lies.new' _ 28 #[.int .i64 0, .string ⟨#[]⟩, .int .i64 0, .slice none 0 0, .slice none 0 0, .int .i64 0] (by simp))) (by kernel_rfl) rfl (by simp [Value.oneCell']) ?_
                  refine hK.out _ _ ?_ (fun hHeld => ?_)
                  · exact HK.out _ (below_setRow (((HB7.out).alloc (HB7.out).size _)) (by have := HZGE.out; first | exact this | omega) _)
                  clear hK K
                  try simp only [Act.put]
                  refine wpAnyH_done (by kernel_rfl) ?_ _
                  go_wp2_with fail
                  go_meet
                  exact ⟨_, k5, nm5, v5, A5, n5, c5, B5, m5, d5, rv5, rfl, setRow_heap _ _ _ _ _ _ ((show Lies ((x7.alloc (.cells #[.int .i64 0, .string ⟨#[]⟩, .int .i64 0, .slice none 0 0, .slice none 0 0, .int .i64 0] 28))) (x7.heap.size) 28 #[.int .i64 0, .string ⟨#[]⟩, .int .i64 0, .slice none 0 0, .slice none 0 0, .int .i64 0] from Lies.new' _ 28 #[.int .i64 0, .string ⟨#[]⟩, .int .i64 0, .slice none 0 0, .slice none 0 0, .int .i64 0] (by simp))), HT5.out _ ⟨by simp, fun b hb hn => (setRow_other _ _ _ _ (by omega)).trans ((below_new _ _).block b hb)⟩, below_setRow (((HB7.out).alloc (HB7.out).size _)) (by have := HZGE.out; first | exact this | omega) _⟩
                · go_simp
                  refine hK.out _ _ ?_ (fun hHeld => ?_)
                  · exact HK.out _ (((HB2.out).alloc (HB2.out).size _))
                  clear hK K
                  try simp only [Act.put, List.setIfInBounds_toArray, List.set_cons_zero, List.set_cons_succ]
                  have HZGE := Lib.hid (show V.heap.size ≤ x2.heap.size from by have := (HB2.out).size; omega)
                  refine wpAnyH_ready (rs := [7]) (by kernel_rfl) (by simp) ?_
                  refine AllReadyH.cons (o := ⟨some 87, _, _, _, _, _⟩) rfl (fun K hK => ?_) (AllReadyH.nil)
                  have HZLT := Lib.hid (show x2.heap.size < ((x2.alloc (.cells #[.int .i64 0, .string ⟨#[]⟩, .int .i64 0, .slice none 0 0, .slice none 0 0, .int .i64 0] 28))).heap.size from (show Lies ((x2.alloc (.cells #[.int .i64 0, .string ⟨#[]⟩, .int .i64 0, .slice none 0 0, .slice none 0 0, .int .i64 0] 28))) (x2.heap.size) 28 #[.int .i64 0, .string ⟨#[]⟩, .int .i64 0, .slice none 0 0, .slice none 0 0, .int .i64 0] from Lies.new' _ 28 #[.int .i64 0, .string ⟨#[]⟩, .int .i64 0, .slice none 0 0, .slice none 0 0, .int .i64 0] (by simp)).lt)
                  go_simp
                  go_at_call 16
                  have hc7 := HC7.out ((x2.alloc (.cells #[.int .i64 0, .string ⟨#[]⟩, .int .i64 0, .slice none 0 0, .slice none 0 0, .int .i64 0] 28))) (V.heap.size) _ _ _ _ _ _ (show Lies ((x2.alloc (.cells #[.int .i64 0, .string ⟨#[]⟩, .int .i64 0, .slice none 0 0, .slice none 0 0, .int .i64 0] 28))) (V.heap.size) 28 #[.int .i64 7, .string ⟨#[]⟩, .int .i64 9, .slice none 0 0, .slice none 0 0, .int .i64 0, .int .i64 7, .string ⟨#[]⟩, .int .i64 9, .slice none 0 0, .slice none 0 0, .int .i64 0] from (HBLK.out).alloc _) (HS8.out.later (((Below.refl x2.heap.size x2)).alloc ((Below.refl x2.heap.size x2)).size _))
                  (with_reducible refine hc7.mono ?_)
                  clear hc7
                  rintro e x7 ⟨k5, nm5, v5, A5, n5, c5, B5, m5, d5, rv5, rfl, ht5, hba⟩
                  have HB7 := Lib.hid ((((HB2.out).alloc (HB2.out).size _)).trans (hba.mono (((HB2.out).alloc (HB2.out).size _)).size))
                  have HT5 := Lib.hid ht5
                  have HBLK := Lib.hid ((show Lies ((x2.alloc (.cells #[.int .i64 0, .string ⟨#[]⟩, .int .i64 0, .slice none 0 0, .slice none 0 0, .int .i64 0] 28))) (V.heap.size) 28 #[.int .i64 7, .string ⟨#[]⟩, .int .i64 9, .slice none 0 0, .slice none 0 0, .int .i64 0, .int .i64 7, .string ⟨#[]⟩, .int .i64 9, .slice none 0 0, .slice none 0 0, .int .i64 0] from (HBLK.out).alloc _).later hba)
                  have HZER := Lib.hid ((show Lies ((x2.alloc (.cells #[.int .i64 0, .string ⟨#[]⟩, .int .i64 0, .slice none 0 0, .slice none 0 0, .int .i64 0] 28))) (x2.heap.size) 28 #[.int .i64 0, .string ⟨#[]⟩, .int .i64 0, .slice none 0 0, .slice none 0 0, .int .i64 0] from Lies.new' _ 28 #[.int .i64 0, .string ⟨#[]⟩, .int .i64 0, .slice none 0 0, .slice none 0 0, .int .i64 0] (by simp)).later hba)
                  clear ht5 hba
                  refine hK.out _ _ ?_ (fun hHeld => ?_)
                  · exact HK.out _ (HB7.out)
                  clear hK K
                  try simp only [Act.put, List.setIfInBounds_toArray, List.set_cons_zero, List.set_cons_succ]
                  refine wpAnyH_ready (rs := [9]) (by kernel_rfl) (by simp) ?_
                  refine AllReadyH.cons (o := ⟨none, _, _, _, _, _⟩) rfl (fun K hK => ?_) (AllReadyH.nil)
                  rw [if_pos (by kernel_rfl)]
                  refine wp_store_row _ _ _ rfl (x2.heap.size) #[.int .i64 k5, .string (ba nm5), .int .i64 v5, .slice A5 n5 c5, .slice B5 m5 d5, .int .i64 rv5] rfl rfl 28 #[.int .i64 0, .string ⟨#[]⟩, .int .i64 0, .slice none 0 0, .slice none 0 0, .int .i64 0] ((show Lies (x7) (x2.heap.size) 28 #[.int .i64 0, .string ⟨#[]⟩, .int .i64 0, .slice none 0 0, .slice none 0 0, .int .i64 0] from HZER.out)) (by kernel_rfl) rfl (by simp [Value.oneCell']) ?_
                  refine hK.out _ _ ?_ (fun hHeld => ?_)
                  · exact HK.out _ (below_setRow (HB7.out) (by have := HZGE.out; first | exact this | omega) _)
                  clear hK K
                  try simp only [Act.put]
                  refine wpAnyH_done (by kernel_rfl) ?_ _
                  go_wp2_with fail
                  go_meet
                  exact ⟨_, k5, nm5, v5, A5, n5, c5, B5, m5, d5, rv5, rfl, setRow_heap _ _ _ _ _ _ ((show Lies (x7) (x2.heap.size) 28 #[.int .i64 0, .string ⟨#[]⟩, .int .i64 0, .slice none 0 0, .slice none 0 0, .int .i64 0] from HZER.out)), HT5.out _ ⟨by simp, fun b hb hn => setRow_other _ _ _ _ (fun e => hn (by have := HZLT.out; show b < _; omega))⟩, below_setRow (HB7.out) (by have := HZGE.out; first | exact this | omega) _⟩
              · go_simp
                refine hK.out _ _ ?_ (fun hHeld => ?_)
                · exact HK.out _ (((((((Below.refl V.heap.size V)).alloc ((Below.refl V.heap.size V)).size _)).alloc ((((Below.refl V.heap.size V)).alloc ((Below.refl V.heap.size V)).size _)).size _)).drew)
                clear hK K
                try simp only [Act.put, List.setIfInBounds_toArray, List.set_cons_zero, List.set_cons_succ]
                have HZGE := Lib.hid (show V.heap.size ≤ V.heap.size + 1 from by have := ((Below.refl V.heap.size V)).size; omega)
                refine wpAnyH_ready (rs := [2]) (by kernel_rfl) (by simp) ?_
                refine AllReadyH.cons (o := ⟨some 82, _, _, _, _, _⟩) rfl (fun K hK => ?_) (AllReadyH.nil)
                go_simp
                go_at_call 8
                refine (HC2.out _ ((((((Below.refl V.heap.size V)).alloc ((Below.refl V.heap.size V)).size _)).alloc ((((Below.refl V.heap.size V)).alloc ((Below.refl V.heap.size V)).size _)).size _)).drew).mono ?_
                rintro e x2 ⟨A8, n8, c8, B8, m8, d8, rfl, hs8, hba⟩
                have HB2 := Lib.hid ((((((((Below.refl V.heap.size V)).alloc ((Below.refl V.heap.size V)).size _)).alloc ((((Below.refl V.heap.size V)).alloc ((Below.refl V.heap.size V)).size _)).size _)).drew).trans (hba.mono (((((((Below.refl V.heap.size V)).alloc ((Below.refl V.heap.size V)).size _)).alloc ((((Below.refl V.heap.size V)).alloc ((Below.refl V.heap.size V)).size _)).size _)).drew).size))
                have HS8 := Lib.hid hs8
                have HBLK := Lib.hid ((show Lies (((V.alloc (.cells #[.int .i64 7, .string ⟨#[]⟩, .int .i64 9, .slice none 0 0, .slice none 0 0, .int .i64 0, .int .i64 7, .string ⟨#[]⟩, .int .i64 9, .slice none 0 0, .slice none 0 0, .int .i64 0] 28)).alloc (.cells #[.int .i64 0, .string ⟨#[]⟩, .int .i64 0, .slice none 0 0, .slice none 0 0, .int .i64 0] 28)).drew) (V.heap.size) 28 #[.int .i64 7, .string ⟨#[]⟩, .int .i64 9, .slice none 0 0, .slice none 0 0, .int .i64 0, .int .i64 7, .string ⟨#[]⟩, .int .i64 9, .slice none 0 0, .slice none 0 0, .int .i64 0] from (Lies.new' _ 28 #[.int .i64 7, .string ⟨#[]⟩, .int .i64 9, .slice none 0 0, .slice none 0 0, .int .i64 0, .int .i64 7, .string ⟨#[]⟩, .int .i64 9, .slice none 0 0, .slice none 0 0, .int .i64 0] (by simp)).alloc _).later hba)
                have HZER := Lib.hid ((show Lies (((V.alloc (.cells #[.int .i64 7, .string ⟨#[]⟩, .int .i64 9, .slice none 0 0, .slice none 0 0, .int .i64 0, .int .i64 7, .string ⟨#[]⟩, .int .i64 9, .slice none 0 0, .slice none 0 0, .int .i64 0] 28)).alloc (.cells #[.int .i64 0, .string ⟨#[]⟩, .int .i64 0, .slice none 0 0, .slice none 0 0, .int .i64 0] 28)).drew) (V.heap.size + 1) 28 #[.int .i64 0, .string ⟨#[]⟩, .int .i64 0, .slice none 0 0, .slice none 0 0, .int .i64 0] from Lies.new' _ 28 #[.int .i64 0, .string ⟨#[]⟩, .int .i64 0, .slice none 0 0, .slice none 0 0, .int .i64 0] (by simp)).later hba)
                clear hs8 hba
                refine hK.out _ _ ?_ (fun hHeld => ?_)
                · exact HK.out _ (HB2.out)
                clear hK K
                try simp only [Act.put, List.setIfInBounds_toArray, List.set_cons_zero, List.set_cons_succ]
                refine wpAnyH_ready (rs := [7]) (by kernel_rfl) (by simp) ?_
                refine AllReadyH.cons (o := ⟨some 87, _, _, _, _, _⟩) rfl (fun K hK => ?_) (AllReadyH.nil)
                have HZLT := Lib.hid (show V.heap.size + 1 < (x2).heap.size from (show Lies (x2) (V.heap.size + 1) 28 #[.int .i64 0, .string ⟨#[]⟩, .int .i64 0, .slice none 0 0, .slice none 0 0, .int .i64 0] from HZER.out).lt)
                go_simp
                go_at_call 16
                have hc7 := HC7.out (x2) (V.heap.size) _ _ _ _ _ _ (show Lies (x2) (V.heap.size) 28 #[.int .i64 7, .string ⟨#[]⟩, .int .i64 9, .slice none 0 0, .slice none 0 0, .int .i64 0, .int .i64 7, .string ⟨#[]⟩, .int .i64 9, .slice none 0 0, .slice none 0 0, .int .i64 0] from HBLK.out) (HS8.out.later (Below.refl x2.heap.size x2))
                (with_reducible refine hc7.mono ?_)
                clear hc7
                rintro e x7 ⟨k5, nm5, v5, A5, n5, c5, B5, m5, d5, rv5, rfl, ht5, hba⟩
                have HB7 := Lib.hid ((HB2.out).trans (hba.mono (HB2.out).size))
                have HT5 := Lib.hid ht5
                have HBLK := Lib.hid ((show Lies (x2) (V.heap.size) 28 #[.int .i64 7, .string ⟨#[]⟩, .int .i64 9, .slice none 0 0, .slice none 0 0, .int .i64 0, .int .i64 7, .string ⟨#[]⟩, .int .i64 9, .slice none 0 0, .slice none 0 0, .int .i64 0] from HBLK.out).later hba)
                have HZER := Lib.hid ((show Lies (x2) (V.heap.size + 1) 28 #[.int .i64 0, .string ⟨#[]⟩, .int .i64 0, .slice none 0 0, .slice none 0 0, .int .i64 0] from HZER.out).later hba)
                clear ht5 hba
                refine hK.out _ _ ?_ (fun hHeld => ?_)
                · exact HK.out _ (HB7.out)
                clear hK K
                try simp only [Act.put, List.setIfInBounds_toArray, List.set_cons_zero, List.set_cons_succ]
                refine wpAnyH_ready (rs := [9]) (by kernel_rfl) (by simp) ?_
                refine AllReadyH.cons (o := ⟨none, _, _, _, _, _⟩) rfl (fun K hK => ?_) (AllReadyH.nil)
                rw [if_pos (by kernel_rfl)]
                refine wp_store_row _ _ _ rfl (V.heap.size + 1) #[.int .i64 k5, .string (ba nm5), .int .i64 v5, .slice A5 n5 c5, .slice B5 m5 d5, .int .i64 rv5] rfl rfl 28 #[.int .i64 0, .string ⟨#[]⟩, .int .i64 0, .slice none 0 0, .slice none 0 0, .int .i64 0] ((show Lies (x7) (V.heap.size + 1) 28 #[.int .i64 0, .string ⟨#[]⟩, .int .i64 0, .slice none 0 0, .slice none 0 0, .int .i64 0] from HZER.out)) (by kernel_rfl) rfl (by simp [Value.oneCell']) ?_
                refine hK.out _ _ ?_ (fun hHeld => ?_)
                · exact HK.out _ (below_setRow (HB7.out) (by have := HZGE.out; first | exact this | omega) _)
                clear hK K
                try simp only [Act.put]
                refine wpAnyH_done (by kernel_rfl) ?_ _
                go_wp2_with fail
                go_meet
                exact ⟨_, k5, nm5, v5, A5, n5, c5, B5, m5, d5, rv5, rfl, setRow_heap _ _ _ _ _ _ ((show Lies (x7) (V.heap.size + 1) 28 #[.int .i64 0, .string ⟨#[]⟩, .int .i64 0, .slice none 0 0, .slice none 0 0, .int .i64 0] from HZER.out)), HT5.out _ ⟨by simp, fun b hb hn => setRow_other _ _ _ _ (fun e => hn (by have := HZLT.out; show b < _; omega))⟩, below_setRow (HB7.out) (by have := HZGE.out; first | exact this | omega) _⟩
            · go_simp
              refine hK.out _ _ ?_ (fun hHeld => ?_)
              · exact HK.out _ (((((Below.refl V.heap.size V)).alloc ((Below.refl V.heap.size V)).size _)).drew)
              clear hK K
              try simp only [Act.put, List.setIfInBounds_toArray, List.set_cons_zero, List.set_cons_succ]
              have HZGE := Lib.hid (show V.heap.size ≤ V.heap.size from by have := ((Below.refl V.heap.size V)).size; omega)
              refine wpAnyH_ready (rs := [2, 5]) (by kernel_rfl) (by simp) ?_
              refine AllReadyH.cons (o := ⟨some 82, _, _, _, _, _⟩) rfl (fun K hK => ?_) (AllReadyH.cons (o := ⟨some 85, _, _, _, _, _⟩) rfl (fun K hK => ?_) (AllReadyH.nil))
              · go_simp
                go_at_call 8
                refine (HC2.out _ ((((Below.refl V.heap.size V)).alloc ((Below.refl V.heap.size V)).size _)).drew).mono ?_
                rintro e x2 ⟨A8, n8, c8, B8, m8, d8, rfl, hs8, hba⟩
                have HB2 := Lib.hid ((((((Below.refl V.heap.size V)).alloc ((Below.refl V.heap.size V)).size _)).drew).trans (hba.mono (((((Below.refl V.heap.size V)).alloc ((Below.refl V.heap.size V)).size _)).drew).size))
                have HS8 := Lib.hid hs8
                have HZER := Lib.hid ((show Lies ((V.alloc (.cells #[.int .i64 0, .string ⟨#[]⟩, .int .i64 0, .slice none 0 0, .slice none 0 0, .int .i64 0] 28)).drew) (V.heap.size) 28 #[.int .i64 0, .string ⟨#[]⟩, .int .i64 0, .slice none 0 0, .slice none 0 0, .int .i64 0] from Lies.new' _ 28 #[.int .i64 0, .string ⟨#[]⟩, .int .i64 0, .slice none 0 0, .slice none 0 0, .int .i64 0] (by simp)).later hba)
                clear hs8 hba
                refine hK.out _ _ ?_ (fun hHeld => ?_)
                · exact HK.out _ (HB2.out)
                clear hK K
                try simp only [Act.put, List.setIfInBounds_toArray, List.set_cons_zero, List.set_cons_succ]
                refine wpAnyH_ready (rs := [5]) (by kernel_rfl) (by simp) ?_
                refine AllReadyH.cons (o := ⟨some 85, _, _, _, _, _⟩) rfl (fun K hK => ?_) (AllReadyH.nil)
                go_simp
                refine hK.out _ _ ?_ (fun hHeld => ?_)
                · exact HK.out _ (((HB2.out).alloc (HB2.out).size _))
                clear hK K
                try simp only [Act.put, List.setIfInBounds_toArray, List.set_cons_zero, List.set_cons_succ]
                refine wpAnyH_take (i := 6) (oi := ⟨some 86, _, _, _, _, _⟩) (v := ?_) rfl (by kernel_rfl) (by kernel_rfl) (by kernel_rfl) (fun _ _ _ h => h) (Or.inl ⟨by kernel_rfl, ?_⟩) (by assumption) ?_
                rotate_left
                · (intro w' hSw; (try dsimp only at hSw); go_split_ands; go_simp; first | done | with_reducible rfl)
                try simp only [Act.put, List.setIfInBounds_toArray, List.set_cons_zero, List.set_cons_succ]
                refine wpAnyH_ready (rs := [7]) (by kernel_rfl) (by simp) ?_
                refine AllReadyH.cons (o := ⟨some 87, _, _, _, _, _⟩) rfl (fun K hK => ?_) (AllReadyH.nil)
                have HZLT := Lib.hid (show V.heap.size < ((x2.alloc (.cells #[.int .i64 7, .string ⟨#[]⟩, .int .i64 9, .slice none 0 0, .slice none 0 0, .int .i64 0, .int .i64 7, .string ⟨#[]⟩, .int .i64 9, .slice none 0 0, .slice none 0 0, .int .i64 0] 28))).heap.size from (show Lies ((x2.alloc (.cells #[.int .i64 7, .string ⟨#[]⟩, .int .i64 9, .slice none 0 0, .slice none 0 0, .int .i64 0, .int .i64 7, .string ⟨#[]⟩, .int .i64 9, .slice none 0 0, .slice none 0 0, .int .i64 0] 28))) (V.heap.size) 28 #[.int .i64 0, .string ⟨#[]⟩, .int .i64 0, .slice none 0 0, .slice none 0 0, .int .i64 0] from (HZER.out).alloc _).lt)
                go_simp
                go_at_call 16
                have hc7 := HC7.out ((x2.alloc (.cells #[.int .i64 7, .string ⟨#[]⟩, .int .i64 9, .slice none 0 0, .slice none 0 0, .int .i64 0, .int .i64 7, .string ⟨#[]⟩, .int .i64 9, .slice none 0 0, .slice none 0 0, .int .i64 0] 28))) (x2.heap.size) _ _ _ _ _ _ (show Lies ((x2.alloc (.cells #[.int .i64 7, .string ⟨#[]⟩, .int .i64 9, .slice none 0 0, .slice none 0 0, .int .i64 0, .int .i64 7, .string ⟨#[]⟩, .int .i64 9, .slice none 0 0, .slice none 0 0, .int .i64 0] 28))) (x2.heap.size) 28 #[.int .i64 7, .string ⟨#[]⟩, .int .i64 9, .slice none 0 0, .slice none 0 0, .int .i64 0, .int .i64 7, .string ⟨#[]⟩, .int .i64 9, .slice none 0 0, .slice none 0 0, .int .i64 0] from Lies.new' _ 28 #[.int .i64 7, .string ⟨#[]⟩, .int .i64 9, .slice none 0 0, .slice none 0 0, .int .i64 0, .int .i64 7, .string ⟨#[]⟩, .int .i64 9, .slice none 0 0, .slice none 0 0, .int .i64 0] (by simp)) (HS8.out.later (((Below.refl x2.heap.size x2)).alloc ((Below.refl x2.heap.size x2)).size _))
                (with_reducible refine hc7.mono ?_)
                clear hc7
                rintro e x7 ⟨k5, nm5, v5, A5, n5, c5, B5, m5, d5, rv5, rfl, ht5, hba⟩
                have HB7 := Lib.hid ((((HB2.out).alloc (HB2.out).size _)).trans (hba.mono (((HB2.out).alloc (HB2.out).size _)).size))
                have HT5 := Lib.hid ht5
                have HBLK := Lib.hid ((show Lies ((x2.alloc (.cells #[.int .i64 7, .string ⟨#[]⟩, .int .i64 9, .slice none 0 0, .slice none 0 0, .int .i64 0, .int .i64 7, .string ⟨#[]⟩, .int .i64 9, .slice none 0 0, .slice none 0 0, .int .i64 0] 28))) (x2.heap.size) 28 #[.int .i64 7, .string ⟨#[]⟩, .int .i64 9, .slice none 0 0, .slice none 0 0, .int .i64 0, .int .i64 7, .string ⟨#[]⟩, .int .i64 9, .slice none 0 0, .slice none 0 0, .int .i64 0] from Lies.new' _ 28 #[.int .i64 7, .string ⟨#[]⟩, .int .i64 9, .slice none 0 0, .slice none 0 0, .int .i64 0, .int .i64 7, .string ⟨#[]⟩, .int .i64 9, .slice none 0 0, .slice none 0 0, .int .i64 0] (by simp)).later hba)
                have HZER := Lib.hid ((show Lies ((x2.alloc (.cells #[.int .i64 7, .string ⟨#[]⟩, .int .i64 9, .slice none 0 0, .slice none 0 0, .int .i64 0, .int .i64 7, .string ⟨#[]⟩, .int .i64 9, .slice none 0 0, .slice none 0 0, .int .i64 0] 28))) (V.heap.size) 28 #[.int .i64 0, .string ⟨#[]⟩, .int .i64 0, .slice none 0 0, .slice none 0 0, .int .i64 0] from (HZER.out).alloc _).later hba)
                clear ht5 hba
                refine hK.out _ _ ?_ (fun hHeld => ?_)
                · exact HK.out _ (HB7.out)
                clear hK K
                try simp only [Act.put, List.setIfInBounds_toArray, List.set_cons_zero, List.set_cons_succ]
                refine wpAnyH_ready (rs := [9]) (by kernel_rfl) (by simp) ?_
                refine AllReadyH.cons (o := ⟨none, _, _, _, _, _⟩) rfl (fun K hK => ?_) (AllReadyH.nil)
                rw [if_pos (by kernel_rfl)]
                refine wp_store_row _ _ _ rfl (V.heap.size) #[.int .i64 k5, .string (ba nm5), .int .i64 v5, .slice A5 n5 c5, .slice B5 m5 d5, .int .i64 rv5] rfl rfl 28 #[.int .i64 0, .string ⟨#[]⟩, .int .i64 0, .slice none 0 0, .slice none 0 0, .int .i64 0] ((show Lies (x7) (V.heap.size) 28 #[.int .i64 0, .string ⟨#[]⟩, .int .i64 0, .slice none 0 0, .slice none 0 0, .int .i64 0] from HZER.out)) (by kernel_rfl) rfl (by simp [Value.oneCell']) ?_
                refine hK.out _ _ ?_ (fun hHeld => ?_)
                · exact HK.out _ (below_setRow (HB7.out) (by have := HZGE.out; first | exact this | omega) _)
                clear hK K
                try simp only [Act.put]
                refine wpAnyH_done (by kernel_rfl) ?_ _
                go_wp2_with fail
                go_meet
                exact ⟨_, k5, nm5, v5, A5, n5, c5, B5, m5, d5, rv5, rfl, setRow_heap _ _ _ _ _ _ ((show Lies (x7) (V.heap.size) 28 #[.int .i64 0, .string ⟨#[]⟩, .int .i64 0, .slice none 0 0, .slice none 0 0, .int .i64 0] from HZER.out)), HT5.out _ ⟨by simp, fun b hb hn => setRow_other _ _ _ _ (fun e => hn (by have := HZLT.out; show b < _; omega))⟩, below_setRow (HB7.out) (by have := HZGE.out; first | exact this | omega) _⟩
              · go_simp
                refine hK.out _ _ ?_ (fun hHeld => ?_)
                · exact HK.out _ (((((((Below.refl V.heap.size V)).alloc ((Below.refl V.heap.size V)).size _)).alloc ((((Below.refl V.heap.size V)).alloc ((Below.refl V.heap.size V)).size _)).size _)).drew)
                clear hK K
                try simp only [Act.put, List.setIfInBounds_toArray, List.set_cons_zero, List.set_cons_succ]
                refine wpAnyH_take (i := 6) (oi := ⟨some 86, _, _, _, _, _⟩) (v := ?_) rfl (by kernel_rfl) (by kernel_rfl) (by kernel_rfl) (fun _ _ _ h => h) (Or.inl ⟨by kernel_rfl, ?_⟩) (by assumption) ?_
                rotate_left
                · (intro w' hSw; (try dsimp only at hSw); go_split_ands; go_simp; first | done | with_reducible rfl)
                try simp only [Act.put, List.setIfInBounds_toArray, List.set_cons_zero, List.set_cons_succ]
                refine wpAnyH_ready (rs := [2]) (by kernel_rfl) (by simp) ?_
                refine AllReadyH.cons (o := ⟨some 82, _, _, _, _, _⟩) rfl (fun K hK => ?_) (AllReadyH.nil)
                go_simp
                go_at_call 8
                refine (HC2.out _ ((((((Below.refl V.heap.size V)).alloc ((Below.refl V.heap.size V)).size _)).alloc ((((Below.refl V.heap.size V)).alloc ((Below.refl V.heap.size V)).size _)).size _)).drew).mono ?_
                rintro e x2 ⟨A8, n8, c8, B8, m8, d8, rfl, hs8, hba⟩
                have HB2 := Lib.hid ((((((((Below.refl V.heap.size V)).alloc ((Below.refl V.heap.size V)).size _)).alloc ((((Below.refl V.heap.size V)).alloc ((Below.refl V.heap.size V)).size _)).size _)).drew).trans (hba.mono (((((((Below.refl V.heap.size V)).alloc ((Below.refl V.heap.size V)).size _)).alloc ((((Below.refl V.heap.size V)).alloc ((Below.refl V.heap.size V)).size _)).size _)).drew).size))
                have HS8 := Lib.hid hs8
                have HBLK := Lib.hid ((show Lies (((V.alloc (.cells #[.int .i64 0, .string ⟨#[]⟩, .int .i64 0, .slice none 0 0, .slice none 0 0, .int .i64 0] 28)).alloc (.cells #[.int .i64 7, .string ⟨#[]⟩, .int .i64 9, .slice none 0 0, .slice none 0 0, .int .i64 0, .int .i64 7, .string ⟨#[]⟩, .int .i64 9, .slice none 0 0, .slice none 0 0, .int .i64 0] 28)).drew) (V.heap.size + 1) 28 #[.int .i64 7, .string ⟨#[]⟩, .int .i64 9, .slice none 0 0, .slice none 0 0, .int .i64 0, .int .i64 7, .string ⟨#[]⟩, .int .i64 9, .slice none 0 0, .slice none 0 0, .int .i64 0] from Lies.new' _ 28 #[.int .i64 7, .string ⟨#[]⟩, .int .i64 9, .slice none 0 0, .slice none 0 0, .int .i64 0, .int .i64 7, .string ⟨#[]⟩, .int .i64 9, .slice none 0 0, .slice none 0 0, .int .i64 0] (by simp)).later hba)
                have HZER := Lib.hid ((show Lies (((V.alloc (.cells #[.int .i64 0, .string ⟨#[]⟩, .int .i64 0, .slice none 0 0, .slice none 0 0, .int .i64 0] 28)).alloc (.cells #[.int .i64 7, .string ⟨#[]⟩, .int .i64 9, .slice none 0 0, .slice none 0 0, .int .i64 0, .int .i64 7, .string ⟨#[]⟩, .int .i64 9, .slice none 0 0, .slice none 0 0, .int .i64 0] 28)).drew) (V.heap.size) 28 #[.int .i64 0, .string ⟨#[]⟩, .int .i64 0, .slice none 0 0, .slice none 0 0, .int .i64 0] from (Lies.new' _ 28 #[.int .i64 0, .string ⟨#[]⟩, .int .i64 0, .slice none 0 0, .slice none 0 0, .int .i64 0] (by simp)).alloc _).later hba)
                clear hs8 hba
                refine hK.out _ _ ?_ (fun hHeld => ?_)
                · exact HK.out _ (HB2.out)
                clear hK K
                try simp only [Act.put, List.setIfInBounds_toArray, List.set_cons_zero, List.set_cons_succ]
                refine wpAnyH_ready (rs := [7]) (by kernel_rfl) (by simp) ?_
                refine AllReadyH.cons (o := ⟨some 87, _, _, _, _, _⟩) rfl (fun K hK => ?_) (AllReadyH.nil)
                have HZLT := Lib.hid (show V.heap.size < (x2).heap.size from (show Lies (x2) (V.heap.size) 28 #[.int .i64 0, .string ⟨#[]⟩, .int .i64 0, .slice none 0 0, .slice none 0 0, .int .i64 0] from HZER.out).lt)
                go_simp
                go_at_call 16
                have hc7 := HC7.out (x2) (V.heap.size + 1) _ _ _ _ _ _ (show Lies (x2) (V.heap.size + 1) 28 #[.int .i64 7, .string ⟨#[]⟩, .int .i64 9, .slice none 0 0, .slice none 0 0, .int .i64 0, .int .i64 7, .string ⟨#[]⟩, .int .i64 9, .slice none 0 0, .slice none 0 0, .int .i64 0] from HBLK.out) (HS8.out.later (Below.refl x2.heap.size x2))
                (with_reducible refine hc7.mono ?_)
                clear hc7
                rintro e x7 ⟨k5, nm5, v5, A5, n5, c5, B5, m5, d5, rv5, rfl, ht5, hba⟩
                have HB7 := Lib.hid ((HB2.out).trans (hba.mono (HB2.out).size))
                have HT5 := Lib.hid ht5
                have HBLK := Lib.hid ((show Lies (x2) (V.heap.size + 1) 28 #[.int .i64 7, .string ⟨#[]⟩, .int .i64 9, .slice none 0 0, .slice none 0 0, .int .i64 0, .int .i64 7, .string ⟨#[]⟩, .int .i64 9, .slice none 0 0, .slice none 0 0, .int .i64 0] from HBLK.out).later hba)
                have HZER := Lib.hid ((show Lies (x2) (V.heap.size) 28 #[.int .i64 0, .string ⟨#[]⟩, .int .i64 0, .slice none 0 0, .slice none 0 0, .int .i64 0] from HZER.out).later hba)
                clear ht5 hba
                refine hK.out _ _ ?_ (fun hHeld => ?_)
                · exact HK.out _ (HB7.out)
                clear hK K
                try simp only [Act.put, List.setIfInBounds_toArray, List.set_cons_zero, List.set_cons_succ]
                refine wpAnyH_ready (rs := [9]) (by kernel_rfl) (by simp) ?_
                refine AllReadyH.cons (o := ⟨none, _, _, _, _, _⟩) rfl (fun K hK => ?_) (AllReadyH.nil)
                rw [if_pos (by kernel_rfl)]
                refine wp_store_row _ _ _ rfl (V.heap.size) #[.int .i64 k5, .string (ba nm5), .int .i64 v5, .slice A5 n5 c5, .slice B5 m5 d5, .int .i64 rv5] rfl rfl 28 #[.int .i64 0, .string ⟨#[]⟩, .int .i64 0, .slice none 0 0, .slice none 0 0, .int .i64 0] ((show Lies (x7) (V.heap.size) 28 #[.int .i64 0, .string ⟨#[]⟩, .int .i64 0, .slice none 0 0, .slice none 0 0, .int .i64 0] from HZER.out)) (by kernel_rfl) rfl (by simp [Value.oneCell']) ?_
                refine hK.out _ _ ?_ (fun hHeld => ?_)
                · exact HK.out _ (below_setRow (HB7.out) (by have := HZGE.out; first | exact this | omega) _)
                clear hK K
                try simp only [Act.put]
                refine wpAnyH_done (by kernel_rfl) ?_ _
                go_wp2_with fail
                go_meet
                exact ⟨_, k5, nm5, v5, A5, n5, c5, B5, m5, d5, rv5, rfl, setRow_heap _ _ _ _ _ _ ((show Lies (x7) (V.heap.size) 28 #[.int .i64 0, .string ⟨#[]⟩, .int .i64 0, .slice none 0 0, .slice none 0 0, .int .i64 0] from HZER.out)), HT5.out _ ⟨by simp, fun b hb hn => setRow_other _ _ _ _ (fun e => hn (by have := HZLT.out; show b < _; omega))⟩, below_setRow (HB7.out) (by have := HZGE.out; first | exact this | omega) _⟩
          case rest =>
            obtain ⟨g, k5, nm5, v5, A5, n5, c5, B5, m5, d5, rv5, rfl, hl5, ht5, hb5⟩ := hcut
            obtain ⟨ge, oe, ce, Be, me, de, he, hce, x, y, hxt, hyt, hrx, hry⟩ := funU_open ht5
            simp only [List.cons.injEq, Value.int.injEq, Value.string.injEq, Value.slice.injEq, and_true, true_and] at he
            obtain ⟨rfl, _, rfl, ⟨rfl, rfl, rfl⟩, ⟨rfl, rfl, rfl⟩, rfl⟩ := he
            obtain ⟨k6, nm6, v6, A6, n6, c6, B6, m6, d6, rv6, rfl⟩ := hxt.form
            obtain ⟨k7, nm7, v7, A7, n7, c7, B7, m7, d7, rv7, rfl⟩ := hyt.form
            have hgl : ge < wc.heap.size := reads_block hrx (by simp)
            have HL_o := Lib.hid hl5
            have HL_t := Lib.hid (HL_t.out.later hb5)
            have HL_u := Lib.hid (HL_u.out.later hb5)
            have HL_s := Lib.hid (HL_s.out.later hb5)
            have HSUB := Lib.hid (HSUB.out.later hb5)
            have HB := Lib.hid (HB.out.trans (hb5.mono HB.out.size))
            have HK := Lib.hid (show ∀ X : World, Below wc.heap.size wc X → (X.cell? ⟨w5.heap.size, 0, none⟩ = some (.slice Aa na ca) ∧ X.cell? ⟨w5.heap.size, 1, none⟩ = some (.slice Ab nb cb)) ∧ (X.cell? ⟨w.heap.size, 0, none⟩ = some (.int .i64 k0) ∧ X.cell? ⟨w.heap.size, 1, none⟩ = some (.string (ba nm0)) ∧ X.cell? ⟨w.heap.size, 2, none⟩ = some (.int .i64 v0) ∧ X.cell? ⟨w.heap.size, 3, none⟩ = some (.slice A0 n0 c0) ∧ X.cell? ⟨w.heap.size, 4, none⟩ = some (.slice B0 m0 d0) ∧ X.cell? ⟨w.heap.size, 5, none⟩ = some (.int .i64 rv0)) ∧ (X.cell? ⟨(w.heap.size + 1), 0, none⟩ = some (.int .i64 k1) ∧ X.cell? ⟨(w.heap.size + 1), 1, none⟩ = some (.string (ba nm1)) ∧ X.cell? ⟨(w.heap.size + 1), 2, none⟩ = some (.int .i64 v1) ∧ X.cell? ⟨(w.heap.size + 1), 3, none⟩ = some (.slice A1 n1 c1) ∧ X.cell? ⟨(w.heap.size + 1), 4, none⟩ = some (.slice B1 m1 d1) ∧ X.cell? ⟨(w.heap.size + 1), 5, none⟩ = some (.int .i64 rv1)) ∧ X.cell? ⟨g, 3, none⟩ = some (.slice (some ⟨ge, oe, none⟩) 2 c5) ∧ (X.cell? ⟨ge, oe, none⟩ = some (.int .i64 k6) ∧ X.cell? ⟨ge, oe + 1, none⟩ = some (.string (ba nm6)) ∧ X.cell? ⟨ge, oe + 2, none⟩ = some (.int .i64 v6) ∧ X.cell? ⟨ge, oe + 3, none⟩ = some (.slice A6 n6 c6) ∧ X.cell? ⟨ge, oe + 4, none⟩ = some (.slice B6 m6 d6) ∧ X.cell? ⟨ge, oe + 5, none⟩ = some (.int .i64 rv6)) ∧ (X.cell? ⟨ge, (oe + 6) + 0, none⟩ = some (.int .i64 k7) ∧ X.cell? ⟨ge, (oe + 6) + 1, none⟩ = some (.string (ba nm7)) ∧ X.cell? ⟨ge, (oe + 6) + 2, none⟩ = some (.int .i64 v7) ∧ X.cell? ⟨ge, (oe + 6) + 3, none⟩ = some (.slice A7 n7 c7) ∧ X.cell? ⟨ge, (oe + 6) + 4, none⟩ = some (.slice B7 m7 d7) ∧ X.cell? ⟨ge, (oe + 6) + 5, none⟩ = some (.int .i64 rv7)) from fun X hb => ⟨⟨(hb.cell (p := ⟨w5.heap.size, 0, none⟩) HL_s.out.lt).trans (HL_s.out.cell 0), (hb.cell (p := ⟨w5.heap.size, 1, none⟩) HL_s.out.lt).trans (HL_s.out.cell 1)⟩, ⟨(hb.cell (p := ⟨w.heap.size, 0, none⟩) HL_t.out.lt).trans (HL_t.out.cell 0), (hb.cell (p := ⟨w.heap.size, 1, none⟩) HL_t.out.lt).trans (HL_t.out.cell 1), (hb.cell (p := ⟨w.heap.size, 2, none⟩) HL_t.out.lt).trans (HL_t.out.cell 2), (hb.cell (p := ⟨w.heap.size, 3, none⟩) HL_t.out.lt).trans (HL_t.out.cell 3), (hb.cell (p := ⟨w.heap.size, 4, none⟩) HL_t.out.lt).trans (HL_t.out.cell 4), (hb.cell (p := ⟨w.heap.size, 5, none⟩) HL_t.out.lt).trans (HL_t.out.cell 5)⟩, ⟨(hb.cell (p := ⟨(w.heap.size + 1), 0, none⟩) HL_u.out.lt).trans (HL_u.out.cell 0), (hb.cell (p := ⟨(w.heap.size + 1), 1, none⟩) HL_u.out.lt).trans (HL_u.out.cell 1), (hb.cell (p := ⟨(w.heap.size + 1), 2, none⟩) HL_u.out.lt).trans (HL_u.out.cell 2), (hb.cell (p := ⟨(w.heap.size + 1), 3, none⟩) HL_u.out.lt).trans (HL_u.out.cell 3), (hb.cell (p := ⟨(w.heap.size + 1), 4, none⟩) HL_u.out.lt).trans (HL_u.out.cell 4), (hb.cell (p := ⟨(w.heap.size + 1), 5, none⟩) HL_u.out.lt).trans (HL_u.out.cell 5)⟩, (hb.cell (p := ⟨g, 3, none⟩) HL_o.out.lt).trans (HL_o.out.cell 3), ⟨(hb.cell (p := ⟨ge, oe + 0, none⟩) hgl).trans (hrx 0 _ rfl), (hb.cell (p := ⟨ge, oe + 1, none⟩) hgl).trans (hrx 1 _ rfl), (hb.cell (p := ⟨ge, oe + 2, none⟩) hgl).trans (hrx 2 _ rfl), (hb.cell (p := ⟨ge, oe + 3, none⟩) hgl).trans (hrx 3 _ rfl), (hb.cell (p := ⟨ge, oe + 4, none⟩) hgl).trans (hrx 4 _ rfl), (hb.cell (p := ⟨ge, oe + 5, none⟩) hgl).trans (hrx 5 _ rfl)⟩, ⟨(hb.cell (p := ⟨ge, (oe + 6) + 0, none⟩) hgl).trans (hry 0 _ rfl), (hb.cell (p := ⟨ge, (oe + 6) + 1, none⟩) hgl).trans (hry 1 _ rfl), (hb.cell (p := ⟨ge, (oe + 6) + 2, none⟩) hgl).trans (hry 2 _ rfl), (hb.cell (p := ⟨ge, (oe + 6) + 3, none⟩) hgl).trans (hry 3 _ rfl), (hb.cell (p := ⟨ge, (oe + 6) + 4, none⟩) hgl).trans (hry 4 _ rfl), (hb.cell (p := ⟨ge, (oe + 6) + 5, none⟩) hgl).trans (hry 5 _ rfl)⟩⟩)
            have HXT := Lib.hid hxt
            have HYT := Lib.hid hyt
            obtain ⟨hca, hcp, hcr⟩ := closed_ap (T := T) (R := R) t ([], []) HRP.out (fun z hz => HNO_a.out z (by rw [HLa.out, HLV.out]; exact hz)) (fun z hz => HNO_b.out z (by rw [HLb.out, HLV.out]; exact hz))
            have hap := app0 (HSUB.out.later (Below.refl wc.heap.size wc).drew) (by omega) t _ (HT.out.later (HB.out.trans ((Below.refl wc.heap.size wc).drew.mono HB.out.size))) hcr (by rw [hcp]; have := HSZ.out; omega)
            rw [hca] at hap
            have HCA := Lib.hid hap
            have HS1 := Lib.hid (show ∀ (X : World) (l1 l2 : List Value), TRV X t l1 → TRV X t l2 → _ from fun X l1 l2 h1 h2 => same_any t X l1 l2 (by have := HSZ.out; omega) h1 h2)
            have HS2 := Lib.hid (show ∀ (X : World) (l1 l2 : List Value), TRV X u l1 → TRV X u l2 → _ from fun X l1 l2 h1 h2 => same_any u X l1 l2 (by have := HUZ.out; omega) h1 h2)
            have HT0 := Lib.hid (HT.out.later HB.out)
            have HU0 := Lib.hid (HU.out.later HB.out)
            clear hl5 ht5 hb5 hxt hyt hrx hry hca hcp hcr hap hgl
            go_upto_region 20 with fail
            go_region_held3 (fun X => (X.cell? ⟨w5.heap.size, 0, none⟩ = some (.slice Aa na ca) ∧ X.cell? ⟨w5.heap.size, 1, none⟩ = some (.slice Ab nb cb)) ∧ (X.cell? ⟨w.heap.size, 0, none⟩ = some (.int .i64 k0) ∧ X.cell? ⟨w.heap.size, 1, none⟩ = some (.string (ba nm0)) ∧ X.cell? ⟨w.heap.size, 2, none⟩ = some (.int .i64 v0) ∧ X.cell? ⟨w.heap.size, 3, none⟩ = some (.slice A0 n0 c0) ∧ X.cell? ⟨w.heap.size, 4, none⟩ = some (.slice B0 m0 d0) ∧ X.cell? ⟨w.heap.size, 5, none⟩ = some (.int .i64 rv0)) ∧ (X.cell? ⟨(w.heap.size + 1), 0, none⟩ = some (.int .i64 k1) ∧ X.cell? ⟨(w.heap.size + 1), 1, none⟩ = some (.string (ba nm1)) ∧ X.cell? ⟨(w.heap.size + 1), 2, none⟩ = some (.int .i64 v1) ∧ X.cell? ⟨(w.heap.size + 1), 3, none⟩ = some (.slice A1 n1 c1) ∧ X.cell? ⟨(w.heap.size + 1), 4, none⟩ = some (.slice B1 m1 d1) ∧ X.cell? ⟨(w.heap.size + 1), 5, none⟩ = some (.int .i64 rv1)) ∧ X.cell? ⟨g, 3, none⟩ = some (.slice (some ⟨ge, oe, none⟩) 2 c5) ∧ (X.cell? ⟨ge, oe, none⟩ = some (.int .i64 k6) ∧ X.cell? ⟨ge, oe + 1, none⟩ = some (.string (ba nm6)) ∧ X.cell? ⟨ge, oe + 2, none⟩ = some (.int .i64 v6) ∧ X.cell? ⟨ge, oe + 3, none⟩ = some (.slice A6 n6 c6) ∧ X.cell? ⟨ge, oe + 4, none⟩ = some (.slice B6 m6 d6) ∧ X.cell? ⟨ge, oe + 5, none⟩ = some (.int .i64 rv6)) ∧ (X.cell? ⟨ge, (oe + 6) + 0, none⟩ = some (.int .i64 k7) ∧ X.cell? ⟨ge, (oe + 6) + 1, none⟩ = some (.string (ba nm7)) ∧ X.cell? ⟨ge, (oe + 6) + 2, none⟩ = some (.int .i64 v7) ∧ X.cell? ⟨ge, (oe + 6) + 3, none⟩ = some (.slice A7 n7 c7) ∧ X.cell? ⟨ge, (oe + 6) + 4, none⟩ = some (.slice B7 m7 d7) ∧ X.cell? ⟨ge, (oe + 6) + 5, none⟩ = some (.int .i64 rv7)))
              (first | exact HK.out _ (Below.refl wc.heap.size wc).drew | exact HK.out _ hb9 | exact HK.out _ hb10 | exact HK.out _ hb11 | exact HK.out _ hb12)
              (first
                | (go_at_call 16; refine HCA.out.mono ?_; rintro e x9 ⟨k9, nm9, v9, A9, n9, c9, B9, m9, d9, rv9, rfl, ht9, hba⟩; have hb9 : Below wc.heap.size wc x9 := (Below.refl wc.heap.size wc).drew.trans hba; have hs9 := HS1.out x9 _ _ ht9 (HT0.out.later hb9); clear hba)
                | (go_at_call 12; with_reducible refine hs9.mono ?_; rintro e x10 ⟨rfl, hba⟩; have hb10 : Below wc.heap.size wc x10 := hb9.trans (hba.mono hb9.size); have hs10 := HS2.out x10 _ _ (HXT.out.later hb10) (HU0.out.later hb10); clear hba hs9)
                | (go_at_call 12; with_reducible refine hs10.mono ?_; rintro e x11 ⟨rfl, hba⟩; have hb11 : Below wc.heap.size wc x11 := hb10.trans (hba.mono hb10.size); have hs11 := HS2.out x11 _ _ (HYT.out.later hb11) (HU0.out.later hb11); clear hba hs10)
                | (go_at_call 12; with_reducible refine hs11.mono ?_; rintro e x12 ⟨rfl, hba⟩; have hb12 : Below wc.heap.size wc x12 := hb11.trans (hba.mono hb11.size); clear hba hs11))
            go_wp2
            go_ret
            exact ⟨rfl, HB.out.trans (hb12.mono HB.out.size)⟩
end Go.Proofs.Ytgheaaljnmkclaa
