/- The walk of the law ParseWords. -/
import Derived.Test.YtnkfkaahjplnmaaGreatDoorLpBase
import Derived.Test.YtnkfkaahjplnmaaGreatDoorCv
import Derived.Test.YtnkfkaahjplnmaaGreatDoorGsTold
import Derived.Test.YtnkfkaahjplnmaaGreatDoorGrSame
import Derived.Test.YtnkfkaahjplnmaaGreatDoorGtOrd
import Derived.Outline
namespace Go.Proofs.YtnkfkaahjplnmaaGreatDoor
open Go.RowKit Pz

theorem parseW_size (sz : Nat) (ws : List Lx.Tk) (h : (parseW sz ws).2.2 = 0) : (parseW sz ws).1.body.size ≤ 2 * ws.length := by
  obtain ⟨q, hq⟩ : ∃ q, q = Pz.program sz ⟨ws, 0, 0, 0⟩ := ⟨_, rfl⟩
  have hi := size_program sz ws
  rw [← hq] at hi
  obtain ⟨q, s⟩ := q
  by_cases hs : s.er = 0
  · by_cases hd : 200 < q.body.deep
    · rw [parseW_deep hq.symm hs hd] at h; cases h
    · rw [parseW_ok hq.symm hs hd]; exact hi hs
  · rw [parseW_err hq.symm hs] at h; exact absurd h hs

set_option maxRecDepth 100000 in
set_option maxHeartbeats 4000000 in
theorem parseWords_any (v : Value) (l : List UInt8) (w : World) (hb : Bs w v l) (hG : Good w) (hl : l.length ≤ 140737488351232) :
    Calls Tryz.prog 3 #[v] w (Yes w) := by
  have hb0 := hb
  obtain ⟨A, c, rfl, hlc, hcell⟩ := hb
  clear hcell
  have hm := min_len l 2000
  have hb1 := hb0.cut 2000
  have hL : (l.take 2000).length ≤ 2000 := by rw [List.length_take]; omega
  have hLc : (l.take 2000).length ≤ c := by rw [List.length_take]; omega
  generalize l.take 2000 = L at hm hb1 hL hLc
  have HM := Lib.hid hm
  clear hm hb0
  have hl0 : (0:Int) ≤ (l.length : Int) := by omega
  have hcv := conv_sb
  go_enter Tryz.func3, Tryz.ntmps3
  go_wp2_with fail
  refine (shown_any _ hG).mono ?_
  rintro e w1 ⟨rfl, hB1⟩
  have hG1 := hG.later hB1
  have hs1 := hB1.size
  go_wp2_with fail
  rw [show ((2000 : Int)) = ((2000 : Nat) : Int) from rfl, HM.out]
  refine (lex_any _ L _ (hb1.later hB1) hG1 (by omega)).mono ?_
  rintro e w2 ⟨v2, rfl, hown2, hB2⟩
  have hs2 := hB2.size
  have hG2 := hG1.later hB2
  have hb2 := (hb1.later hB1).later hB2
  have hB02 := hB1.trans (hB2.mono hs1)
  rcases lexR_cases L (by omega) with ⟨ws, hr, hw⟩ | ⟨ws, p, hr, hw⟩
  · rw [hr] at hown2 ⊢
    have hT2 := Ts.own hown2
    clear hown2
    have hcnt := hw.count
    have htl := textF_len ws
    have hts := hw.size
    have htx : (textF ws).length ≤ 4000 := by omega
    obtain ⟨ws1, hr1, hws1, hm0, hmz, hpt⟩ := parse_text (B := L) (by omega) (by omega) hw
    generalize movF (textF ws).length ws ws1 = φ at hws1 hm0 hmz hpt
    have htells := parseW_tells L.length ws
    have hins := parseW_ins (sz := L.length) hw.rise (fun x hx => by have := hw.pos_lt x hx; omega)
    have hsize := parseW_size L.length ws
    rw [← parseR_ok hr] at htells hins hsize
    clear htl hts
    obtain ⟨A2, c2, hv2⟩ : ∃ A c, v2 = .slice A ws.length c := by obtain ⟨A, c, h, _⟩ := hT2; exact ⟨A, c, h⟩
    subst hv2
    go_wp2_with fail
    refine (parse_any _ L _ hb2 hG2 (by omega)).mono ?_
    rintro e w3 ⟨lp, rfl, hit, hB3⟩
    have hs3 := hB3.size
    obtain ⟨hon, hsz, hzz⟩ := pg_store hit
    have HON := Lib.hid hon
    have HSZ := Lib.hid hsz
    have HZZ := Lib.hid hzz
    have lz := Lies.new w3 41 zP
    have lp1 := Lies.new w3 41 lp.toArray
    have hb4 := below_new w3 (.cells lp.toArray 41)
    have hs4 := hb4.size
    have hG4 := (hG2.later hB3).later hb4
    have hT4 := (hT2.later hB3).later hb4
    have hit4 := pgOK.same hit (fun g _ hg => hb4.block g hg)
    have hB04 := hB02.trans ((hB3.trans (hb4.mono hs3)).mono hB02.size)
    unfold zP at lz HZZ
    clear hon hsz hzz hit hb1 hb2
    obtain ⟨R, hR⟩ : ∃ R, R = parseR L := ⟨_, rfl⟩
    rw [← hR] at hit4 hpt htells hins hsize ⊢
    clear hR
    obtain ⟨PR, aR, eR⟩ := R
    dsimp only at hit4 hpt htells hins hsize ⊢
    go_wp2_with (first | (refine wpList_store_rowTo rfl 41 (.tmp 7) (.tmp 35) rfl rfl _ lp.toArray rfl rfl 41 _ lz HSZ.out HZZ.out HON.out ?_; rw [set_new rfl]))
    obtain ⟨w4, hw4⟩ : ∃ w4, w4 = w3.alloc (.cells lp.toArray 41) := ⟨_, rfl⟩
    have hw34 : w3.heap.size < w4.heap.size := by rw [hw4]; simp
    rw [← hw4] at lp1 hb4 hs4 hG4 hT4 hit4 hB04 ⊢
    refine (text_any _ ws _ hT4 (by omega) (by omega)).mono ?_
    rintro e w5 ⟨rfl, hB5⟩
    have hBb := Lib.bytesWorld_below w5 5 (ba (textF ws))
    have hbs := Bs.bytes w5 (textF ws) _ rfl
    go_wp2_with fail
    refine (lex_any _ (textF ws) _ hbs ((hG4.later hB5).later hBb) (by omega)).mono ?_
    rintro e w6 ⟨v6, rfl, hown6, hB6⟩
    rw [hr1] at hown6 ⊢
    have hT6 := Ts.own hown6
    clear hown6
    obtain ⟨A6, c6, hv6⟩ : ∃ A c, v6 = .slice A ws1.length c := by obtain ⟨A, c, h, _⟩ := hT6; exact ⟨A, c, h⟩
    subst hv6
    have hs5 := hB5.size
    have hsb := hBb.size
    have hB46 := (hB5.trans (hBb.mono hs5)).trans (hB6.mono (by omega))
    have hs6 := hB46.size
    have hT46 := hT4.later hB46
    clear hbs
    go_wp2_with fail
    refine (text_any _ ws _ hT46 (by omega) (by omega)).mono ?_
    rintro e w7 ⟨rfl, hB7⟩
    have hBb7 := Lib.bytesWorld_below w7 5 (ba (textF ws))
    have hbs7 := Bs.bytes w7 (textF ws) _ rfl
    go_wp2_with fail
    refine (parse_any _ (textF ws) _ hbs7 (((hG4.later hB46).later hB7).later hBb7) (by omega)).mono ?_
    rintro e w8 ⟨lq, rfl, hitq, hB8⟩
    rw [hpt] at hitq ⊢
    have hs7 := hB7.size
    have hsb7 := hBb7.size
    have hB48 := hB46.trans (((hB7.trans (hBb7.mono hs7)).trans (hB8.mono (by omega))).mono hs6)
    have hs48 := hB48.size
    obtain ⟨hon2, hsz2, hzz2⟩ := pg_store hitq
    have HON2 := Lib.hid hon2
    have HSZ2 := Lib.hid hsz2
    have HZZ2 := Lib.hid hzz2
    have lz2 := Lies.new w8 41 zP
    have lq1 := Lies.new w8 41 lq.toArray
    have hb9 := below_new w8 (.cells lq.toArray 41)
    have hs9 := hb9.size
    have hB49 := hB48.trans (hb9.mono hs48)
    have lp9 := lp1.later hB49
    have hit9 := pgOK.same hit4 (fun g _ hg => hB49.block g hg)
    have hitq9 := pgOK.same hitq (fun g _ hg => hb9.block g hg)
    have hB09 := hB04.trans (hB49.mono hB04.size)
    have hT9 := hT4.later hB49
    have hT69 := (hT6.later ((hB7.trans (hBb7.mono hs7)).trans (hB8.mono (by omega)))).later (hb9.mono (by omega))
    have hrp := Lies.range lp9
    have hrq := Lies.range lq1
    have hlp := pgOK.len hit9
    have hlq := pgOK.len hitq9
    have HLP := Lib.hid hlp
    have HLQ := Lib.hid hlq
    have hw1l : ws1.length = ws.length := by rw [hws1, List.length_map]
    have HW1 := Lib.hid hws1
    have hsame := fun W hW => same_any hit9 hitq9 rfl rfl (noAt_m φ PR.body).symm W hW
    unfold zP at lz2 HZZ2
    clear hon2 hsz2 hzz2 hlp hlq hws1 hit4 hitq hbs7 hT46 hcv
    rw [hw1l] at hT69
    clear hw1l hT6
    go_wp2_with (first | (refine wpList_store_rowTo rfl 41 (.tmp 13) (.tmp 51) rfl rfl _ lq.toArray rfl rfl 41 _ lz2 HSZ2.out HZZ2.out HON2.out ?_; rw [set_new rfl]) | ((with_reducible show wpList _ _ _ (⟨_, Op.load _ (.tmp 7), _, _, _, _⟩ :: _) _ _); refine wpList_load_midG (by rfl) 41 (.tmp 7) rfl w3.heap.size 0 rfl lp _ hrp Tryz.underlying41 rfl (by rw [szPg, HLP.out]) ?_) | ((with_reducible show wpList _ _ _ (⟨_, Op.load _ (.tmp 13), _, _, _, _⟩ :: _) _ _); refine wpList_load_midG (by rfl) 41 (.tmp 13) rfl w8.heap.size 0 rfl lq _ hrq Tryz.underlying41 rfl (by rw [szPg, HLQ.out]) ?_))
    refine (hsame _ (Below.refl _ _)).mono ?_
    rintro e w10 ⟨rfl, hB10⟩
    have hB0 := hB09.trans (hB10.mono hB09.size)
    rcases htells with ⟨rfl, rfl, hdeep⟩ | ⟨he, ha⟩
    · have hi := hins rfl
      have hz := hsize rfl
      obtain ⟨ev, dv, b, hl4, hT⟩ := open_body hit9
      have hmid : w10.rangeAt w3.heap.size 2 b := by
        have h := lp9.later hB10
        rw [hl4] at h
        exact Lies.rangeMid (l := [ev, dv]) (r := b) h
      have hTl := hT.len
      have HTL := Lib.hid hTl
      have hbare := bare_any (z := L.length) (by omega) hT 0 hi w10 hB10
      rw [show (((0 : Nat)) : Int) = 0 from rfl] at hbare
      have hdep := fun W hW => depth_any b PR.body _ W (hT.later hW) (by omega)
      rw [show min PR.body.deep 1000 = PR.body.deep by omega] at hdep
      have hdl : (PR.body.deep : Int) ≤ 200 := by omega
      have HBARE := Lib.hid hbare
      have HDEP := Lib.hid hdep
      have HHI := Lib.hid hi
      clear hit9 hitq9 hbare hdep hT hTl hl4 hi hsame hpt
      go_wp2_with (first | ((with_reducible show wpList _ _ _ (⟨_, Op.load _ (.tmp 121), _, _, _, _⟩ :: _) _ _); refine wpList_load_midG (by rfl) 39 (.tmp 121) rfl w3.heap.size 2 rfl b _ hmid Tryz.underlying39 rfl (by rw [sz39, HTL.out]) ?_))
      refine HBARE.out.mono ?_
      rintro e w11 ⟨rfl, hB11⟩
      have hmid11 : w11.rangeAt w3.heap.size 2 b := fun j u hu => (World.cell?_of_block (w := w10) (a := ⟨w3.heap.size, 2 + j, none⟩) (hB11.block _ (show w3.heap.size < w10.heap.size by have := hB10.size; omega))).trans (hmid j u hu)
      go_wp2_with (first | ((with_reducible show wpList _ _ _ (⟨_, Op.load _ (.tmp 128), _, _, _, _⟩ :: _) _ _); refine wpList_load_midG (by rfl) 39 (.tmp 128) rfl w3.heap.size 2 rfl b _ hmid11 Tryz.underlying39 rfl (by rw [sz39, HTL.out]) ?_))
      refine (HDEP.out _ (hB10.trans (hB11.mono hB10.size))).mono ?_
      rintro e w12 ⟨rfl, hB12⟩
      go_wp2
      go_ret
      exact ⟨rfl, hB0.trans ((hB11.trans (hB12.mono hB11.size)).mono hB0.size)⟩
    · clear hit9 hitq9 hsame hins hsize hpt hG4 hrp hrq lp9 lp1 lq1 lz2
      have hT10 := hT9.later hB10
      have hT610 := hT69.later hB10
      have hk1 : (ws.length : Int) ≤ 2000 := by omega
      rw [HW1.out] at hT610
      by_cases ha0 : aR = 0
      · subst ha0
        rcases he with rfl | rfl
        · go_wp2
          go_ret
          exact ⟨rfl, hB0⟩
        · go_wp2
          go_ret
          exact ⟨rfl, hB0⟩
      · have hai : ¬ (aR : Int) = 0 := by omega
        rcases he with rfl | rfl
        all_goals
          go_wp2
          go_loopw [16] (fun i wr => ∃ k : Nat, k ≤ ws.length ∧ i = .int .i64 k ∧ Below w10.heap.size w10 wr ∧ ∀ (j : Nat) x, j < k → ws[j]? = some x → x.pos ≠ aR) (fun i _ => ws.length - (intOf i).toNat)
          case atStart => exact ⟨0, Nat.zero_le _, rfl, Below.refl _ _, fun j x hj => by omega⟩
          case round =>
            obtain ⟨k, hk, rfl, hC, hno⟩ := hrel
            by_cases hlt : k < ws.length
            · obtain ⟨x, hx⟩ : ∃ x, ws[k]? = some x := ⟨_, List.getElem?_eq_getElem hlt⟩
              obtain ⟨g, o, c', hv, -⟩ := hT10.form (by omega)
              obtain ⟨g', o', c'', hv', -⟩ := hT610.form (by rw [List.length_map]; omega)
              injection hv with hv hl1 hv2
              injection hv' with hv' hl2 hv3
              clear hl1 hl2
              subst hv hv' hv2 hv3
              obtain ⟨-, -, -, x3⟩ := (hT10.later hC).at_ hx
              obtain ⟨-, -, -, y3⟩ := (hT610.later hC).at_ (i := k) (x := mT φ x) (by rw [List.getElem?_map, hx]; rfl)
              simp only [mT] at y3
              have hlti : (k : Int) < (ws.length : Int) := by omega
              by_cases hp : x.pos = aR
              · rw [hp] at x3 y3
                clear hno hT10 hT610 hx hp
                go_wp2
                go_ret
                exact ⟨rfl, hB0.trans (hC.mono hB0.size)⟩
              · have hpi : ¬ (x.pos : Int) = (aR : Int) := by omega
                have HNO := Lib.hid hno
                have HX := Lib.hid hx
                have HP := Lib.hid hp
                clear hno hx hp
                go_wp2
                go_roundw
                case rel => exact ⟨k + 1, by omega, by go_num, hC, fun j z hj hz => by
                  by_cases hjk : j = k
                  · subst hjk
                    rw [HX.out] at hz
                    injection hz with hz
                    subst hz
                    exact HP.out
                  · exact HNO.out j z (by omega) hz⟩
                case measure => simp [intOf]; omega
            · obtain rfl : k = ws.length := by omega
              have e : aR = L.length := by
                rcases ha with h | h | ⟨x, hx, h⟩
                · exact absurd h ha0
                · exact h
                · obtain ⟨j, hj, rfl⟩ := List.mem_iff_getElem.1 hx
                  exact absurd h (hno j _ hj (List.getElem?_eq_getElem hj))
              subst e
              clear hno hT10 hT610 ha
              go_wp2
              go_ret
              exact ⟨rfl, hB0.trans (hC.mono hB0.size)⟩
  · rw [hr] at hown2 ⊢
    go_wp2_with fail
    go_ret
    exact ⟨rfl, hB02⟩
end Go.Proofs.YtnkfkaahjplnmaaGreatDoor
