/- The walk of the law ParseNames. -/
import Derived.Test.YtboejbnkkhcccaaGreatDoorLpBase
import Derived.Test.YtboejbnkkhcccaaGreatDoorLnA
import Derived.Test.YtboejbnkkhcccaaGreatDoorSmb
import Derived.Deep.DeepCutAuto
namespace Go.Proofs.YtboejbnkkhcccaaGreatDoor
open Go.RowKit Pz

theorem open_nmA {w : World} {P : Nat → Prop} {r : Nat} {S : List UInt8} {l : List Value} (h : PgIt w P ⟨[], [], .mk 5 0 S [] 0 [.mk 2 r [] [] 0 [] []] []⟩ l) : l[4]? = some (.string (ba S)) := by
  obtain ⟨ev, dv, b, rfl, hT⟩ := open_body h
  cases hT
  rfl
/-- What is read of the second program. -/
theorem open_nmB {w : World} {P : Nat → Prop} {i : Nat} {S : List UInt8} {l : List Value} (h : PgIt w P ⟨[([69], [⟨S, (1, []), (4, [69])⟩])], [], .mk 2 i [] [] 0 [] []⟩ l) :
    ∃ ge ce go co dv b, l = pgC (.slice (some ⟨ge, 0, none⟩) 1 ce) dv b ∧ 1 ≤ ce ∧ 1 ≤ co ∧ w.cell? ⟨ge, 1, none⟩ = some (.slice (some ⟨go, 0, none⟩) 1 co) ∧ w.cell? ⟨go, 0, none⟩ = some (.string (ba S)) ∧ w.cell? ⟨go, 7, none⟩ = some (.int .i64 4) := by
  obtain ⟨ev, dv, b, xs, ys, rfl, hx1, hx2, hx3, _, _, _, hT⟩ := h
  have hx1' : xs.length = 1 := hx1
  obtain ⟨m, rfl⟩ : ∃ m, xs = [m] := by
    match xs, hx1' with
    | [m], _ => exact ⟨m, rfl⟩
  obtain ⟨v, ss, rfl, hs1, hs2, hs3⟩ := hx3 0 _ m rfl rfl
  have hs1' : ss.length = 1 := hs1
  obtain ⟨q, rfl⟩ : ∃ q, ss = [q] := by
    match ss, hs1' with
    | [q], _ => exact ⟨q, rfl⟩
  have hq : q = sgC S (1, []) (4, [69]) := hs3 0 _ q rfl rfl
  subst hq
  rcases own_cells hx2 with ⟨_, h0⟩ | ⟨ge, ce, rfl, hce, _, _, hcE⟩
  · cases h0
  rcases own_cells hs2 with ⟨_, h0⟩ | ⟨go, co, rfl, hco, _, _, hcO⟩
  · cases h0
  exact ⟨ge, ce, go, co, dv, b, rfl, hce, hco, hcE 1 _ rfl, hcO 0 _ rfl, hcO 7 _ rfl⟩
theorem ins_case (c : UInt8) (h : Lx.inB Lx.inss c = true) : c.toNat = 95 ∨ (48 ≤ c.toNat ∧ c.toNat ≤ 57) ∨ (65 ≤ c.toNat ∧ c.toNat ≤ 90) ∨ (97 ≤ c.toNat ∧ c.toNat ≤ 122) := by
  simp [Lx.inB, Lx.inss] at h
  omega
theorem out_case (c : UInt8) (h : Lx.inB Lx.inss c = false) : c.toNat < 48 ∨ (57 < c.toNat ∧ c.toNat < 65) ∨ (90 < c.toNat ∧ c.toNat < 95) ∨ c.toNat = 96 ∨ 122 < c.toNat := by
  simp [Lx.inB, Lx.inss] at h
  omega
theorem take_min (s : List UInt8) : (ba s).extract 0 (min s.length 70) = ba (s.take 70) := by
  rw [extract_ba0, ba_list]
  congr 1
  by_cases h : s.length ≤ 70
  · rw [List.take_of_length_le (l := s) (i := 70) h, List.take_of_length_le (by omega)]
  · rw [show min s.length 70 = 70 by omega]
set_option maxRecDepth 100000 in
set_option maxHeartbeats 4000000 in
theorem parseNames_any (s : List UInt8) (w : World) (hG : Good w) (hl : s.length ≤ 140737488351232) :
    Calls Tryz.prog 5 #[.string (ba s)] w (Yes w) := by
  have hsz := ba_size s
  have hsz2 : (ba s).size ≤ 140737488351232 := by omega
  have hm : (min ((ba s).size : Int) 70).toNat = min s.length 70 := by rw [hsz]; omega
  have HM := Lib.hid hm
  have hm1 : (0:Int) ≤ min ((ba s).size : Int) 70 := by omega
  have hm2 : min ((ba s).size : Int) 70 ≤ ((ba s).size : Int) := by omega
  clear hm hsz
  go_enter Tryz.func5, Tryz.ntmps5
  go_wp2_with fail
  refine (shown_any _ hG).mono ?_
  rintro e w1 ⟨rfl, hB1⟩
  have hG1 := hG.later hB1
  have hs1 := hB1.size
  go_wp2_with fail
  rw [HM.out, take_min]
  have hL : (s.take 70).length ≤ 70 := by rw [List.length_take]; omega
  obtain ⟨S, hS⟩ : ∃ S, S = s.take 70 := ⟨_, rfl⟩
  rw [← hS] at hL ⊢
  clear hS HM hm1 hm2
  refine (smallN_any S w1 (by omega)).mono ?_
  rintro e w2 ⟨rfl, hB2⟩
  have hB02 := hB1.trans (hB2.mono hs1)
  have hs2 := hB02.size
  have hG2 := hG1.later hB2
  have hSz := ba_size S
  have hS70 : (ba S).size ≤ 70 := by omega
  obtain ⟨T, hT⟩ : ∃ T, T = ba S := ⟨_, rfl⟩
  have hTl : T.data.toList = S := by rw [hT, ba_list]
  rw [← hT] at hS70 hSz ⊢
  have HT := Lib.hid hT
  have HTL := Lib.hid hTl
  have HSZ := Lib.hid hSz
  clear hT hTl hSz
  obtain ⟨ok, hok⟩ : ∃ ok, ok = smallB S := ⟨_, rfl⟩
  rw [← hok]
  have HOK := Lib.hid hok
  clear hok
  go_wp2_with fail
  go_loop [5] (fun i => ∃ k : Nat, k ≤ T.size ∧ i = .int .i64 k ∧ insAll S = insAll (T.data.toList.drop k)) (fun i => T.size - (intOf i).toNat)
  case atStart => exact ⟨0, Nat.zero_le _, rfl, by rw [HTL.out]; simp⟩
  case round =>
    obtain ⟨k, hk, rfl, hr⟩ := hrel
    have HR := Lib.hid hr
    clear hr
    by_cases hlt : k < T.size
    · have hid := insAll_drop T k hlt
      have HID := Lib.hid hid
      clear hid
      cases hc : Lx.inB Lx.inss T[k] with
      | true =>
        have hcs := ins_case _ hc
        have HC := Lib.hid hc
        clear hc
        rcases hcs with h1 | ⟨h1, h2⟩ | ⟨h1, h2⟩ | ⟨h1, h2⟩
        all_goals
          go_wp2
          all_goals
            go_round
            case rel => exact ⟨k + 1, by omega, by go_num, by rw [HR.out, HID.out, HC.out]; rfl⟩
            case measure => simp [intOf]; omega
      | false =>
        have hcs := out_case _ hc
        clear hc
        have hne : ((T[k].toNat : Int) != 95) = true := by
          have : ¬ ((T[k].toNat : Int) = 95) := by omega
          simpa using this
        rcases hcs with h1 | ⟨h1, h2⟩ | ⟨h1, h2⟩ | h1 | h1
        all_goals
          go_wp2
          go_ret
          exact ⟨rfl, hB02⟩
    · obtain rfl : k = T.size := by omega
      have hi : insAll S = true := by rw [HR.out, List.drop_of_length_le (by simp)]; rfl
      have HI := Lib.hid hi
      clear hi HR
      have hA : (⟨#[102, 117, 110, 32]⟩ : ByteArray) ++ T ++ ⟨#[32, 45, 62, 32, 48]⟩ = ba (nmA S) := by
        rw [HT.out, show (⟨#[102, 117, 110, 32]⟩ : ByteArray) = ba [102, 117, 110, 32] from rfl, show (⟨#[32, 45, 62, 32, 48]⟩ : ByteArray) = ba [32, 45, 62, 32, 48] from rfl, ba_app2, ba_app2, List.append_assoc]
        rfl
      have hB : (⟨#[101, 102, 102, 101, 99, 116, 32, 69, 32, 123, 32]⟩ : ByteArray) ++ T ++ ⟨#[32, 58, 32, 105, 110, 116, 32, 45, 62, 32, 69, 32, 125, 32, 48]⟩ = ba (nmB S) := by
        rw [HT.out, show (⟨#[101, 102, 102, 101, 99, 116, 32, 69, 32, 123, 32]⟩ : ByteArray) = ba [101, 102, 102, 101, 99, 116, 32, 69, 32, 123, 32] from rfl, show (⟨#[32, 58, 32, 105, 110, 116, 32, 45, 62, 32, 69, 32, 125, 32, 48]⟩ : ByteArray) = ba [32, 58, 32, 105, 110, 116, 32, 45, 62, 32, 69, 32, 125, 32, 48] from rfl, ba_app2, ba_app2, List.append_assoc]
        rfl
      have hA1 : ((⟨#[102, 117, 110, 32]⟩ : ByteArray) ++ T).size ≤ 100 := by rw [ByteArray.size_append]; show 4 + T.size ≤ 100; omega
      have hB1' : ((⟨#[101, 102, 102, 101, 99, 116, 32, 69, 32, 123, 32]⟩ : ByteArray) ++ T).size ≤ 100 := by rw [ByteArray.size_append]; show 11 + T.size ≤ 100; omega
      have hcv := conv_sb
      have hAl : (nmA S).length ≤ 100 := by rw [nmA_len]; omega
      have hBl : (nmB S).length ≤ 100 := by rw [nmB_len]; omega
      have hbs := Bs.bytes w2 (nmA S) (nmA S).length (ba_size _).symm
      have hBb := Lib.bytesWorld_below w2 5 (ba (nmA S))
      have hG3 := hG2.later hBb
      have hB3 := hB02.trans (hBb.mono hs2)
      go_wp2_with fail
      refine (parse_any _ (nmA S) _ hbs hG3 (by omega)).mono ?_
      rintro e w3 ⟨l1, rfl, hit1, hB4⟩
      have hB03 := hB3.trans (hB4.mono hB3.size)
      have hs3 := hB03.size
      obtain ⟨hon1, hsz1, hzz1⟩ := pg_store hit1
      have HON1 := Lib.hid hon1
      have HSZ1 := Lib.hid hsz1
      have HZZ1 := Lib.hid hzz1
      have lz1 := Lies.new w3 41 zP
      have lp1 := Lies.new w3 41 l1.toArray
      have hb5 := below_new w3 (.cells l1.toArray 41)
      have hB05 := hB03.trans (hb5.mono hs3)
      have hG5 := (hG3.later hB4).later hb5
      unfold zP at lz1 HZZ1
      clear hon1 hsz1 hzz1 hcv hbs hBb hB3 hB4 hG3 hA hA1 hAl
      have hcv := fun (W : World) => conv_sb (ba (nmB S)) W
      obtain ⟨R1, hR1⟩ : ∃ R, R = parseR (nmA S) := ⟨_, rfl⟩
      rw [← hR1] at hit1 ⊢
      obtain ⟨P1, a1, e1⟩ := R1
      have HR1 := Lib.hid hR1
      clear hR1
      dsimp only at hit1 ⊢
      have hbs := Bs.bytes (w3.alloc (.cells l1.toArray 41)) (nmB S) (nmB S).length (ba_size _).symm
      have hBb := Lib.bytesWorld_below (w3.alloc (.cells l1.toArray 41)) 5 (ba (nmB S))
      have hG6 := hG5.later hBb
      have hB06 := hB05.trans (hBb.mono hB05.size)
      rw [show (w3.alloc (.cells l1.toArray 41)).heap.size = w3.heap.size + 1 by simp] at hbs
      go_wp2_with (first | (refine wpList_store_rowTo rfl 41 (.tmp 7) (.tmp 63) rfl rfl _ l1.toArray rfl rfl 41 _ lz1 HSZ1.out HZZ1.out HON1.out ?_; rw [set_new rfl]))
      refine (parse_any _ (nmB S) _ hbs hG6 (by omega)).mono ?_
      rintro e w4 ⟨l2, rfl, hit2, hB7⟩
      have hB07 := hB06.trans (hB7.mono hB06.size)
      have hs4 := hB07.size
      have lp3 := ((lp1.later hBb).later hB7)
      obtain ⟨hon2, hsz2', hzz2⟩ := pg_store hit2
      have HON2 := Lib.hid hon2
      have HSZ2 := Lib.hid hsz2'
      have HZZ2 := Lib.hid hzz2
      have lz2 := Lies.new w4 41 zP
      have lp2 := Lies.new w4 41 l2.toArray
      have hb8 := below_new w4 (.cells l2.toArray 41)
      have hB08 := hB07.trans (hb8.mono hs4)
      have lp4 := lp3.later hb8
      unfold zP at lz2 HZZ2
      clear hon2 hsz2' hzz2 hcv hbs hBb hB06 hB7 hG6 hG5 hG2 hB hB1' lz1 lp1
      obtain ⟨R2, hR2⟩ : ∃ R, R = parseR (nmB S) := ⟨_, rfl⟩
      rw [← hR2] at hit2 ⊢
      obtain ⟨P2, a2, e2⟩ := R2
      have HR2 := Lib.hid hR2
      clear hR2
      dsimp only at hit2 ⊢
      cases ok with
      | false =>
        obtain ⟨hbad1, hbad2⟩ := names_bad HI.out hL HOK.out.symm
        rw [← HR1.out] at hbad1
        rw [← HR2.out] at hbad2
        dsimp only at hbad1 hbad2
        have hz1 : ((e1 : Int) == 0) = false := by simp; omega
        have hz2 : ((e2 : Int) == 0) = false := by simp; omega
        clear hit1 hit2 hbad1 hbad2
        go_upto_region 12 with (refine wpList_store_rowTo rfl 41 (.tmp 10) (.tmp 72) rfl rfl _ l2.toArray rfl rfl 41 _ lz2 HSZ2.out HZZ2.out HON2.out ?_; rw [set_new rfl])
        go_wp2_with fail
        go_ret
        exact ⟨rfl, hB08⟩
      | true =>
        obtain ⟨⟨r1, hr1⟩, ⟨r2, hr2⟩⟩ := names_good hL HOK.out.symm
        rw [← HR1.out] at hr1
        rw [← HR2.out] at hr2
        injection hr1 with hp1 hq1
        injection hq1 with ha1 he1
        injection hr2 with hp2 hq2
        injection hq2 with ha2 he2
        subst hp1 ha1 he1 hp2 ha2 he2
        have c4 := open_nmA hit1
        obtain ⟨ge, ce, go, co, dv, b, hl2, hce, hco, cg, co0, co7⟩ := open_nmB hit2
        have d4 : (w4.alloc (.cells l2.toArray 41)).cell? ⟨w3.heap.size, 4, none⟩ = some (.string T) := by
          rw [lp4.cell, HT.out, ← c4]
          simp
        have d0 : (w4.alloc (.cells l2.toArray 41)).cell? ⟨w4.heap.size, 0, none⟩ = some (.slice (some ⟨ge, 0, none⟩) 1 ce) := by
          rw [lp2.cell, hl2]
          rfl
        have dg := (hb8.cell (p := ⟨ge, 1, none⟩) (World.block_lt_of_cell? w4 _ cg)).trans cg
        have do0 := (hb8.cell (p := ⟨go, 0, none⟩) (World.block_lt_of_cell? w4 _ co0)).trans co0
        have do7 := (hb8.cell (p := ⟨go, 7, none⟩) (World.block_lt_of_cell? w4 _ co7)).trans co7
        rw [← HT.out] at do0
        clear hit1 hit2 hl2 cg co0 co7 c4
        go_upto_region 12 with (refine wpList_store_rowTo rfl 41 (.tmp 10) (.tmp 72) rfl rfl _ l2.toArray rfl rfl 41 _ lz2 HSZ2.out HZZ2.out HON2.out ?_; rw [set_new rfl])
        go_wp2_with fail
        go_ret
        exact ⟨rfl, hB08⟩
end Go.Proofs.YtboejbnkkhcccaaGreatDoor
