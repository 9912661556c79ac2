/- The walk of the law ParseBrackets. -/
import Derived.Test.YtnkfkaahjplnmaaGreatDoorLpBase
import Derived.Test.YtnkfkaahjplnmaaGreatDoorCv
import Derived.Test.YtnkfkaahjplnmaaGreatDoorGrSame
import Derived.Test.YtnkfkaahjplnmaaGreatDoorGuBr
import Derived.Outline
import Derived.Deep.DeepCutAuto
namespace Go.Proofs.YtnkfkaahjplnmaaGreatDoor
open Go.RowKit Pz

theorem open_pg {w : World} {P : Nat → Prop} {p : Prog} {l : List Value} (h : PgIt w P p l) : ∃ A c A' c' b, l = [.slice A p.effs.length c, .slice A' p.dats.length c'] ++ b ∧ HT w P p.body b := by
  obtain ⟨ev, dv, b, xs, ys, rfl, _, he, _, _, hd, _, hT⟩ := h
  rcases own_cells he with ⟨rfl, h0⟩ | ⟨g, c, rfl, _⟩ <;> rcases own_cells hd with ⟨rfl, h1⟩ | ⟨g', c', rfl, _⟩
  · exact ⟨none, 0, none, 0, b, by rw [h0, h1]; rfl, hT⟩
  · exact ⟨none, 0, _, c', b, by rw [h0]; rfl, hT⟩
  · exact ⟨_, c, none, 0, b, by rw [h1]; rfl, hT⟩
  · exact ⟨_, c, _, c', b, rfl, hT⟩
theorem ones_succ (c : UInt8) (j : Nat) : [c] ++ List.replicate j c = List.replicate (j + 1) c := rfl
theorem br_snoc (a b : List UInt8) (j : Nat) : a ++ (b ++ 10 :: List.replicate j 41) ++ [41] = a ++ (b ++ 10 :: List.replicate (j + 1) 41) := by
  rw [List.replicate_succ']
  simp

set_option maxRecDepth 100000 in
set_option maxHeartbeats 4000000 in
theorem parseBrackets_any (v : Value) (l : List UInt8) (n0 : Int) (w : World) (hb : Bs w v l) (hG : Good w) (hl : l.length ≤ 140737488351232) :
    Calls Tryz.prog 4 #[v, .int .i64 n0] w (Yes w) := by
  obtain ⟨n1, hn1, hb1⟩ := and_mask n0 65535 (by decide)
  have htn : (bits .and .i64 n0 65535).tmod 231 = ((n1 % 231 : Nat) : Int) := by
    rw [show (65535 : Int) = ((65535 : Nat) : Int) from rfl, hb1]; rfl
  have hn : n1 % 231 ≤ 230 := by have := Nat.mod_lt n1 (show 0 < 231 by decide); omega
  generalize n1 % 231 = n at htn hn
  clear hb1 hn1
  have hb0 := hb
  obtain ⟨A, c, rfl, hlc, hcell⟩ := hb
  clear hcell
  have hm := min_len l 500
  have hb1 := hb0.cut 500
  have hL : (l.take 500).length ≤ 500 := by rw [List.length_take]; omega
  have hLc : (l.take 500).length ≤ c := by rw [List.length_take]; omega
  generalize l.take 500 = L at hm hb1 hL hLc
  have HM := Lib.hid hm
  clear hm hb0
  have hl0 : (0:Int) ≤ (l.length : Int) := by omega
  go_enter Tryz.func4, Tryz.ntmps4
  go_wp2_with fail
  refine (shown_any _ hG).mono ?_
  rintro e w1 ⟨rfl, hB1⟩
  have hG1 := hG.later hB1
  have hs1 := hB1.size
  go_wp2_with fail
  rw [show ((500 : Int)) = ((500 : Nat) : Int) from rfl, HM.out]
  have hb2 := hb1.later hB1
  refine (parse_any _ L _ hb2 hG1 (by omega)).mono ?_
  rintro e w2 ⟨lp, rfl, hit, hB2⟩
  have hs2 := hB2.size
  have hG2 := hG1.later hB2
  have hb3 := hb2.later hB2
  have hB02 := hB1.trans (hB2.mono hs1)
  obtain ⟨hon, hsz, hzz⟩ := pg_store hit
  have HON := Lib.hid hon
  have HSZ := Lib.hid hsz
  have HZZ := Lib.hid hzz
  have lz := Lies.new w2 41 zP
  have lp1 := Lies.new w2 41 lp.toArray
  have hb4 := below_new w2 (.cells lp.toArray 41)
  have hs4 := hb4.size
  have hG4 := hG2.later hb4
  have hbs4 := hb3.later hb4
  have hit4 := pgOK.same hit (fun g _ hg => hb4.block g hg)
  have hB04 := hB02.trans (hb4.mono hB02.size)
  unfold zP at lz HZZ
  clear hon hsz hzz hit hb1 hb2 hb3
  have hbr := br_parse (B := L) hL
  obtain ⟨R, hR⟩ : ∃ R, R = parseR L := ⟨_, rfl⟩
  rw [← hR] at hit4 hbr ⊢
  clear hR
  obtain ⟨⟨ef, da, tm⟩, aR, eR⟩ := R
  dsimp only at hit4 hbr ⊢
  obtain ⟨A1, c1, A2, c2, b, hl4, hT⟩ := open_pg hit4
  dsimp only at hl4 hT
  obtain ⟨w4, hw4⟩ : ∃ w4, w4 = w2.alloc (.cells lp.toArray 41) := ⟨_, rfl⟩
  have hw24 : w2.heap.size < w4.heap.size := by rw [hw4]; simp
  have d0 : w4.cell? ⟨w2.heap.size, 0, none⟩ = some (.slice A1 ef.length c1) := by rw [hw4, lp1.cell, hl4]; rfl
  have d1 : w4.cell? ⟨w2.heap.size, 1, none⟩ = some (.slice A2 da.length c2) := by rw [hw4, lp1.cell, hl4]; rfl
  have hmid : w4.rangeAt w2.heap.size 2 b := by
    have h := lp1
    rw [← hw4, hl4] at h
    exact Lies.rangeMid (l := [.slice A1 ef.length c1, .slice A2 da.length c2]) (r := b) h
  rw [← hw4] at hb4 hs4 hG4 hbs4 hT hB04
  have hTl := hT.len
  have HTL := Lib.hid hTl
  have HT0 := Lib.hid hT
  have HBR := Lib.hid hbr
  have d0' := d0
  have d1' := d1
  rw [hw4] at d0' d1'
  have HW4 := Lib.hid hw4
  clear hl4 hit4 hTl hT hbr lp1 hw4
  have hel : (0 : Int) ≤ (ef.length : Int) := by omega
  have hdl : (0 : Int) ≤ (da.length : Int) := by omega
  by_cases he : eR = 0
  · subst he
    by_cases hef : ef.length = 0
    · by_cases hda : da.length = 0
      · have hef' := List.eq_nil_of_length_eq_zero hef
        have hda' := List.eq_nil_of_length_eq_zero hda
        have HBR2 := Lib.hid (HBR.out rfl hef' hda' (n := n) hn)
        rw [hef] at d0 d0'
        rw [hda] at d1 d1'
        clear HBR hef hda hef' hda' hel hdl
        go_upto_region 7 with ((with_reducible show wpList _ _ _ (⟨_, Op.store _ (.tmp 6) _, _, _, _, _⟩ :: _) _ _); refine wpList_store_rowTo rfl 41 (.tmp 6) (.tmp 24) rfl rfl _ lp.toArray rfl rfl 41 _ lz HSZ.out HZZ.out HON.out ?_; rw [set_new rfl])
        rw [← HW4.out]
        go_wp2_with fail
        go_loop [9, 10] (fun s i => ∃ j : Nat, j ≤ n ∧ s = .string (ba (List.replicate j 40)) ∧ i = .int .i64 j) (fun _ i => n - (intOf i).toNat)
        case atStart => exact ⟨0, Nat.zero_le _, rfl, rfl⟩
        case round =>
          obtain ⟨j, hj, rfl, rfl⟩ := hrel
          have hls := ba_size (List.replicate j (40 : UInt8))
          rw [List.length_replicate] at hls
          have hz : (ba (List.replicate j (40 : UInt8))).size ≤ 231 := by omega
          by_cases hlt : j < n
          · have hst : (⟨#[40]⟩ : ByteArray) ++ ba (List.replicate j (40 : UInt8)) = ba (List.replicate (j + 1) (40 : UInt8)) := ba_app2 [40] _
            have HST := Lib.hid hst
            clear hst hls
            go_wp2
            go_round
            case rel => exact ⟨j + 1, by omega, by rw [HST.out], by go_num⟩
            case measure => simp [intOf]; omega
          · obtain rfl : j = n := by omega
            have hcv := conv_bs hbs4
            have hlL := ba_size L
            have hzL : (ba L).size ≤ 500 := by omega
            have q0 : ba (List.replicate j (40 : UInt8)) ++ ba L = ba (List.replicate j (40 : UInt8) ++ L) := ba_app2 _ _
            have z0 : (ba (List.replicate j (40 : UInt8) ++ L)).size ≤ 731 := by rw [← q0, ByteArray.size_append]; omega
            have q1 : ba (List.replicate j (40 : UInt8) ++ L) ++ ⟨#[10]⟩ = ba (List.replicate j (40 : UInt8) ++ (L ++ 10 :: List.replicate 0 41)) := (ba_app2 _ [10]).trans (by rw [List.append_assoc]; rfl)
            obtain ⟨X0, hX0⟩ : ∃ X, X = List.replicate j (40 : UInt8) ++ L := ⟨_, rfl⟩
            rw [← hX0] at q0 q1 z0
            have Q1 := Lib.hid q1
            clear hX0 hls hlL
            go_wp2_with fail
            go_loop [9, 11] (fun s i => ∃ k : Nat, k ≤ j ∧ s = .string (ba (List.replicate j 40 ++ (L ++ 10 :: List.replicate k 41))) ∧ i = .int .i64 k) (fun _ i => j - (intOf i).toNat)
            case atStart => exact ⟨0, Nat.zero_le _, rfl, rfl⟩
            case round =>
              obtain ⟨k, hk, rfl, rfl⟩ := hrel
              have hls := ba_size (List.replicate j 40 ++ (L ++ 10 :: List.replicate k 41))
              rw [List.length_append, List.length_append, List.length_cons, List.length_replicate, List.length_replicate] at hls
              have hz2 : (ba (List.replicate j 40 ++ (L ++ 10 :: List.replicate k 41))).size ≤ 1000 := by omega
              by_cases hlt2 : k < j
              · have hst : ba (List.replicate j 40 ++ (L ++ 10 :: List.replicate k 41)) ++ ⟨#[41]⟩ = ba (List.replicate j 40 ++ (L ++ 10 :: List.replicate (k + 1) 41)) := (ba_app2 _ [41]).trans (congrArg ba (br_snoc _ _ _))
                obtain ⟨Y, hY⟩ : ∃ Y, Y = List.replicate j 40 ++ (L ++ 10 :: List.replicate k 41) := ⟨_, rfl⟩
                rw [← hY] at hst hz2 ⊢
                have HST := Lib.hid hst
                clear hst hls hY
                go_wp2
                go_round
                case rel => exact ⟨k + 1, by omega, by rw [HST.out], by go_num⟩
                case measure => simp [intOf]; omega
              · obtain rfl : k = j := by omega
                have hcv2 := conv_sb
                have hQl := brT_len L k
                have hQe : List.replicate k 40 ++ (L ++ 10 :: List.replicate k 41) = brT L k := rfl
                rw [hQe] at hz2 ⊢
                obtain ⟨R2, hR2⟩ : ∃ R, R = parseR (brT L k) := ⟨_, rfl⟩
                have hpar := fun w hb hG hl => parse_any (.slice (some ⟨w4.heap.size, 0, none⟩) (ba (brT L k)).size (grownCap w4 (ba (brT L k)).size 0 5)) (brT L k) w hb hG hl
                unfold ParseEnd at hpar
                rw [← hR2] at hpar HBR2
                obtain ⟨Q, hQ⟩ : ∃ Q, Q = brT L k := ⟨_, rfl⟩
                rw [← hQ] at hpar hQl hz2 ⊢
                have hbq := Bs.bytes w4 Q _ rfl
                have hBb := Lib.bytesWorld_below w4 5 (ba Q)
                have hBs := hBb.size
                clear hls hQe hR2 hQ hcv q0 z0 hz
                go_wp2_with fail
                refine (hpar _ hbq (hG4.later hBb) (by omega)).mono ?_
                rintro e w8 ⟨lq, rfl, hitq, hB8⟩
                have hB48 := hBb.trans (hB8.mono hBs)
                have hs48 := hB48.size
                obtain ⟨hon2, hsz2, hzz2⟩ := pg_store hitq
                have HON2 := Lib.hid hon2
                have HSZ2 := Lib.hid hsz2
                have HZZ2 := Lib.hid hzz2
                have lz2 := Lies.new w8 41 zP
                have lq1 := Lies.new w8 41 lq.toArray
                have hb9 := below_new w8 (.cells lq.toArray 41)
                have hB49 := hB48.trans (hb9.mono hs48)
                have hB09 := hB04.trans (hB49.mono hB04.size)
                have hitq9 := pgOK.same hitq (fun g _ hg => hb9.block g hg)
                have hT9 := HT0.out.later hB49
                have hmid9 : (w8.alloc (.cells lq.toArray 41)).rangeAt w2.heap.size 2 b := fun j u hu => (World.cell?_of_block (w := w4) (a := ⟨w2.heap.size, 2 + j, none⟩) (hB49.block _ (show w2.heap.size < w4.heap.size by omega))).trans (hmid j u hu)
                unfold zP at lz2 HZZ2
                clear hon2 hsz2 hzz2 hitq hbq hcv2 hmid
                obtain ⟨pq, aq, eq⟩ := R2
                dsimp only at hitq9 HBR2 ⊢
                obtain ⟨ev2, dv2, b2, hl42, hT2⟩ := open_body hitq9
                have hmid2 : (w8.alloc (.cells lq.toArray 41)).rangeAt w8.heap.size 2 b2 := by
                  have h := lq1
                  rw [hl42] at h ⊢
                  exact Lies.rangeMid (l := [ev2, dv2]) (r := b2) h
                have hTl2 := hT2.len
                have HTL2 := Lib.hid hTl2
                rcases HBR2.out with ⟨h6, hk0⟩ | ⟨h0, hk2, hno⟩
                · subst h6
                  have hki : (0 : Int) < (k : Int) := by omega
                  clear hTl2 hT2 hl42 hitq9 hT9 hmid9 hmid2 HBR2
                  go_wp2_with (first | (refine wpList_store_rowTo rfl 41 (.tmp 12) (.tmp 68) rfl rfl _ lq.toArray rfl rfl 41 _ lz2 HSZ2.out HZZ2.out HON2.out ?_; rw [set_new rfl]))
                  go_ret
                  exact ⟨rfl, hB09⟩
                · subst h0
                  have hsame := fun W hW => sameTerm_any hT9 pq.body b2 _ hno.symm hT2 W hW
                  have hki : (k : Int) ≤ 200 := by omega
                  clear hTl2 hT2 hl42 hitq9 hT9 HBR2 hno
                  go_wp2_with (first | (refine wpList_store_rowTo rfl 41 (.tmp 12) (.tmp 68) rfl rfl _ lq.toArray rfl rfl 41 _ lz2 HSZ2.out HZZ2.out HON2.out ?_; rw [set_new rfl]) | ((with_reducible show wpList _ _ _ (⟨_, Op.load _ (.tmp 88), _, _, _, _⟩ :: _) _ _); refine wpList_load_midG (by rfl) 39 (.tmp 88) rfl w2.heap.size 2 rfl b _ hmid9 Tryz.underlying39 rfl (by rw [sz39, HTL.out]) ?_) | ((with_reducible show wpList _ _ _ (⟨_, Op.load _ (.tmp 90), _, _, _, _⟩ :: _) _ _); refine wpList_load_midG (by rfl) 39 (.tmp 90) rfl w8.heap.size 2 rfl b2 _ hmid2 Tryz.underlying39 rfl (by rw [sz39, HTL2.out]) ?_))
                  refine (hsame _ (Below.refl _ _)).mono ?_
                  rintro e w10 ⟨rfl, hB10⟩
                  go_wp2
                  go_ret
                  exact ⟨rfl, hB09.trans (hB10.mono hB09.size)⟩
      · have hpos : (0 : Int) < (da.length : Int) := by omega
        have hposN : 0 < da.length := by omega
        rw [hef] at d0 d0'
        clear HBR hef hda hel
        go_wp2_with (first | (refine wpList_store_rowTo rfl 41 (.tmp 6) (.tmp 24) rfl rfl _ lp.toArray rfl rfl 41 _ lz HSZ.out HZZ.out HON.out ?_; rw [set_new rfl]))
        go_ret
        exact ⟨rfl, by rw [← HW4.out]; exact hB04⟩
    · have hpos : (0 : Int) < (ef.length : Int) := by omega
      have hposN : 0 < ef.length := by omega
      clear HBR hef
      go_wp2_with (first | (refine wpList_store_rowTo rfl 41 (.tmp 6) (.tmp 24) rfl rfl _ lp.toArray rfl rfl 41 _ lz HSZ.out HZZ.out HON.out ?_; rw [set_new rfl]))
      go_ret
      exact ⟨rfl, by rw [← HW4.out]; exact hB04⟩
  · have hei : ¬ (eR : Int) = 0 := by omega
    clear HBR he
    go_wp2_with (first | (refine wpList_store_rowTo rfl 41 (.tmp 6) (.tmp 24) rfl rfl _ lp.toArray rfl rfl 41 _ lz HSZ.out HZZ.out HON.out ?_; rw [set_new rfl]))
    go_ret
    exact ⟨rfl, by rw [← HW4.out]; exact hB04⟩
end Go.Proofs.YtnkfkaahjplnmaaGreatDoor
