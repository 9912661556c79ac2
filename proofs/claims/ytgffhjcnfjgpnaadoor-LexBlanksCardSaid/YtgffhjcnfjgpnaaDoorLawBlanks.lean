/- The walk of the law LexBlanks. -/
import Derived.Test.YtgffhjcnfjgpnaaDoorPureK
import Derived.Deep.DeepCutAuto
import Derived.IntWalk
namespace Go.Proofs.YtgffhjcnfjgpnaaDoor
open Go.RowKit

/-- A slice of strings. -/
def Ss (w : World) (v : Value) (N : List ByteArray) : Prop :=
  ∃ A c, v = .slice A N.length c ∧ N.length ≤ c ∧ N.length ≤ maxLen ∧ (∀ s ∈ N, s.size ≤ maxLen) ∧ (0 < N.length → ∃ a : Addr, A = some a ∧ ∀ j (h : j < N.length), w.cell? (a.add j) = some (.string N[j]))
theorem Ss.later {w w' : World} {v : Value} {N : List ByteArray} (h : Ss w v N) (hb : Below w.heap.size w w') : Ss w' v N := by
  obtain ⟨A, c, h1, h2, h3, h4, h5⟩ := h
  refine ⟨A, c, h1, h2, h3, h4, fun h => ?_⟩
  obtain ⟨a, h6, h7⟩ := h5 h
  exact ⟨a, h6, fun j hj => (hb.cell (World.block_lt_of_cell? w _ (h7 j hj))).trans (h7 j hj)⟩
theorem note_ba (X : ByteArray) : ∃ T : List UInt8, X.extract 0 (min (X.size : Int) 20).toNat = ba T ∧ T.length ≤ 20 := by
  refine ⟨(X.extract 0 (min (X.size : Int) 20).toNat).data.toList, by apply ByteArray.ext; apply Array.toList_inj.1; simp only [ba], ?_⟩
  have : (X.extract 0 (min (X.size : Int) 20).toNat).size ≤ 20 := by rw [ByteArray.size_extract]; omega
  simpa using this
theorem ba_get {T : List UInt8} {k : Nat} {c : UInt8} (hc : T[k]? = some c) (h : k < (ba T).size) : (ba T)[k] = c := by
  obtain ⟨h', rfl⟩ := List.getElem?_eq_some_iff.1 hc
  show (ba T).data[k] = _
  simp [ba]
theorem ba_ext1 {T : List UInt8} {k : Nat} {c : UInt8} (hc : T[k]? = some c) : (ba T).extract k (k + 1) = ba [c] := by
  obtain ⟨h', rfl⟩ := List.getElem?_eq_some_iff.1 hc
  apply ByteArray.ext
  apply Array.toList_inj.1
  simp [ba, List.take_add_one, h']
theorem ba_app2 (a b : List UInt8) : ba a ++ ba b = ba (a ++ b) := by
  apply ByteArray.ext
  apply Array.toList_inj.1
  simp [ba]
theorem pre_six {x : Lx.Tk} (h : x.k = 6) (S : List UInt8) : ba S ++ ba x.t ++ ⟨#[33]⟩ = ba (S ++ wB x) := by
  rw [wB, if_pos h]
  apply ByteArray.ext
  apply Array.toList_inj.1
  simp [ba]
theorem pre_not {x : Lx.Tk} (h : ¬ x.k = 6) (S : List UInt8) : ba S ++ ba x.t = ba (S ++ wB x) := by
  rw [wB, if_neg h]; exact ba_app2 _ _
theorem ba_35 (Q : List UInt8) : ba Q ++ ⟨#[35]⟩ = ba (Q ++ [35]) := ba_app2 Q [35]
theorem ba_1310 (Q : List UInt8) : ba Q ++ ⟨#[13, 10]⟩ = ba (Q ++ [13, 10]) := ba_app2 Q [13, 10]
theorem step_eq {ws : List Lx.Tk} {k : Nat} {x : Lx.Tk} {gs : List (List UInt8)} {S : List UInt8} (hS : [32, 9] ++ srcOf ((ws.take k).zip gs) = S) (hx : ws[k]? = some x) (hl : gs.length = k) (g : List UInt8) :
    S ++ wB x ++ g = [32, 9] ++ srcOf ((ws.take (k + 1)).zip (gs ++ [g])) := by
  rw [src_snoc hx gs hl g, ← hS]; simp
theorem gs_snoc {gs : List (List UInt8)} (h : ∀ g ∈ gs, Gap g ∧ g.length ≤ 23) {g : List UInt8} (hg : Gap g) (hl : g.length ≤ 23) : ∀ d ∈ gs ++ [g], Gap d ∧ d.length ≤ 23 := by
  intro d hd
  simp only [List.mem_append, List.mem_singleton] at hd
  rcases hd with hd | rfl
  · exact h d hd
  · exact ⟨hg, hl⟩
def NoteRel (S1 T : List UInt8) (s i : Value) : Prop := ∃ k : Nat, k ≤ T.length ∧ i = .int .i64 k ∧ s = .string (ba (S1 ++ nolf (T.take k)))
def BlRel (ws : List Lx.Tk) (w2 : World) (s i : Value) (wr : World) : Prop :=
  ∃ (k : Nat) (gs : List (List UInt8)), k ≤ ws.length ∧ i = .int .i64 k ∧ gs.length = k ∧ (∀ g ∈ gs, Gap g ∧ g.length ≤ 23) ∧ s = .string (ba ([32, 9] ++ srcOf ((ws.take k).zip gs))) ∧ Below w2.heap.size w2 wr

set_option maxRecDepth 100000 in
set_option maxHeartbeats 4000000 in
theorem blanks_any (v : Value) (l : List UInt8) (u : Value) (N : List ByteArray) (w : World) (hb : Bs w v l) (hN : Ss w u N) (hG : Good w) (hl : l.length ≤ 140737488351232) :
    Calls Tryd.prog 4 #[v, u] w (Yes w) := by
  have hb0 := hb
  have hN0 := hN
  obtain ⟨A, c, rfl, hlc, hcell⟩ := hb
  obtain ⟨An, cn, rfl, hNc, hNm, _, _⟩ := hN
  clear hcell
  have hmn := min_len l 2000
  have hb1 := hb0.cut 2000
  have hL : (l.take 2000).length ≤ 2000 := by rw [List.length_take]; omega
  have hLc : (l.take 2000).length ≤ c := by rw [List.length_take]; omega
  generalize l.take 2000 = L at hmn hb1 hL hLc
  have HM := Lib.hid hmn
  clear hmn hb0
  have hl0 : (0:Int) ≤ (l.length : Int) := by omega
  have hcvs := conv_sb
  go_enter Tryd.func4, Tryd.ntmps4
  go_wp2_with fail
  refine (shown_any _ hG).mono ?_
  rintro e w1 ⟨rfl, hB1⟩
  have hG1 := hG.later hB1
  have hs1 := hB1.size
  go_wp2_with fail
  rw [show ((2000 : Int)) = ((2000 : Nat) : Int) from rfl, HM.out]
  refine (lex_any _ L _ (hb1.later hB1) hG1 (by omega)).mono ?_
  rintro e w2 ⟨v2, rfl, hown2, hB2⟩
  have hs2 := hB2.size
  have hG2 := hG1.later hB2
  have hN2 := (hN0.later hB1).later hB2
  rcases lexR_cases L (by omega) with ⟨ws, hr, hw⟩ | ⟨ws, p, hr, hw⟩
  · rw [hr] at hown2 ⊢
    have hT2 := Ts.own hown2
    obtain ⟨A2, c2, hv2, hc2, hf2⟩ := hT2
    have hT2 := Ts.own hown2
    subst hv2
    clear hown2 hf2
    have hcnt := hw.count
    have hblen := blanks_len hw hL
    have HBL := Lib.hid hblen
    clear hblen hN0 hb1
    go_wp2_with fail
    go_loopw [9, 10, 11, 12] (fun s i _ _ wr => BlRel ws w2 s i wr) (fun _ i _ _ _ => ws.length - (intOf i).toNat)
    case atStart => exact ⟨0, [], Nat.zero_le _, rfl, rfl, by simp, rfl, Below.refl _ _⟩
    case round =>
      rename_i wr
      obtain ⟨k, gs, hk, rfl, hgl, hgs, rfl, hnx⟩ := hrel
      have hsz := hnx.size
      have hlen := HBL.out k gs hk hgl (fun g hg => (hgs g hg).2)
      have HGS := Lib.hid hgs
      clear hgs
      by_cases hlt : k < ws.length
      · obtain ⟨x, hx⟩ : ∃ x, ws[k]? = some x := ⟨_, List.getElem?_eq_getElem hlt⟩
        obtain ⟨g2, o2, c2', hv2, _⟩ := hT2.form (by omega)
        injection hv2 with e1 e2 e3
        subst e1 e3
        obtain ⟨y0, y1, _, _⟩ := (hT2.later hnx).at_ hx
        have hse := fun (S : List UInt8) (hS : [32, 9] ++ srcOf ((ws.take k).zip gs) = S) => step_eq hS hx hgl
        have hsd := ba_size ([32, 9] ++ srcOf ((ws.take k).zip gs))
        have hwb := hw.size.2 x (List.mem_of_getElem? hx)
        have hxt : x.t.length ≤ (wB x).length := by unfold wB; split <;> simp
        generalize hS : [32, 9] ++ srcOf ((ws.take k).zip gs) = S at hlen hsd hse ⊢
        have hse := hse S rfl
        have hSb : (ba S).size ≤ 60000 := by omega
        have hSl : S.length ≤ 60000 := hlen
        have hxs := ba_size x.t
        have hxb : (ba x.t).size ≤ 2000 := by omega
        have hsw := ba_size (S ++ wB x)
        have hSWl : (S ++ wB x).length ≤ 62000 := by rw [List.length_append]; omega
        have hswb : (ba (S ++ wB x)).size ≤ 62000 := by omega
        have HSE := Lib.hid hse
        clear hse hsd hxs hS hx hsw hlen
        by_cases hkN : k < N.length
        · obtain ⟨A3, c3, hvN, _, _, hNs, hcN⟩ := hN2.later hnx
          injection hvN with e1 e2 e3
          subst e1 e3
          obtain ⟨aN, rfl, hcell⟩ := hcN (by omega)
          have hcX := hcell k hkN
          have hXm := hNs N[k] (List.getElem_mem hkN)
          generalize N[k] = X at hcX hXm
          clear hcell hNs hcN
          unfold maxLen at hXm
          have hX0 : (0 : Int) ≤ (X.size : Int) := by omega
          by_cases hk6 : x.k = 6
          · have hb6 : ((x.k : Int) == 6) = true := by simp; omega
            have hp6 := pre_six hk6 S
            have HP6 := Lib.hid hp6
            clear hp6
            go_upto_region 14 with (fail)
            go_region
            obtain ⟨T, hT, hTl⟩ := note_ba X
            rw [hT, HP6.out]
            clear hT
            generalize hS1 : S ++ wB x = S1 at hswb hSWl ⊢
            have HS1 := Lib.hid hS1
            have hS2l : (S1 ++ [35]).length ≤ 63000 := by simp; omega
            generalize hS2 : S1 ++ [35] = S2 at hS2l
            have HS2 := Lib.hid hS2
            clear hS2
            have hTs := ba_size T
            have hTb : (ba T).size ≤ 20 := by omega
            have HTS := Lib.hid hTs
            clear hTs hS1
            go_wp2_with fail
            go_loop [9, 12] (fun s i => NoteRel S2 T s i) (fun _ i => T.length - (intOf i).toNat)
            case atStart => exact ⟨0, Nat.zero_le _, rfl, by rw [ba_35, HS2.out]; simp [nolf]⟩
            case round =>
              obtain ⟨kk, hkk, rfl, rfl⟩ := hrel
              have hn1 := nolf_len (T.take kk)
              have hn2 : (T.take kk).length ≤ kk := by rw [List.length_take]; omega
              have hss := ba_size (S2 ++ nolf (T.take kk))
              have hsl : (S2 ++ nolf (T.take kk)).length ≤ 70000 := by simp; omega
              generalize hQ : S2 ++ nolf (T.take kk) = Q at hss hsl ⊢
              have hsb : (ba Q).size ≤ 70000 := by omega
              have HQ := Lib.hid hQ
              clear hss hQ hn1 hn2
              by_cases hk2 : kk < T.length
              · have h2 : kk < (ba T).size := by rw [HTS.out]; exact hk2
                obtain ⟨d, hd⟩ : ∃ d, T[kk]? = some d := ⟨_, List.getElem?_eq_getElem hk2⟩
                have hg := ba_get hd h2
                have hx1 := ba_ext1 hd
                have hnt := nolf_take hd
                clear hd
                have HX1 := Lib.hid hx1
                have HNT := Lib.hid hnt
                have h1s : ((ba T).extract kk (kk + 1)).size ≤ 1 := by rw [hx1, ba_size]; simp
                clear hx1 hnt
                by_cases h10 : (ba T)[kk].toNat = 10
                · have hb10 : ((d.toNat : Int) != 10) = false := by rw [← hg]; simp; omega
                  have hc10 : d = 10 := by rw [← hg]; apply UInt8.toNat_inj.1; simpa using h10
                  go_wp2
                  go_round
                  case rel => exact ⟨kk + 1, by omega, by go_num, by rw [HNT.out, if_pos hc10, List.append_nil, HQ.out]⟩
                  case measure => simp [intOf] <;> omega
                · have hb10 : ((d.toNat : Int) != 10) = true := by rw [← hg]; simp; omega
                  have hc10 : ¬ d = 10 := fun e => h10 (by rw [hg, e]; rfl)
                  go_wp2
                  go_round
                  case rel => exact ⟨kk + 1, by omega, by go_num, by rw [HNT.out, if_neg hc10, HX1.out, ba_app2, ← HQ.out, List.append_assoc]⟩
                  case measure => simp [intOf] <;> omega
              · have h2 : ¬ kk < (ba T).size := by rw [HTS.out]; exact hk2
                have hkT : T.take kk = T := List.take_of_length_le (by omega)
                have HKT := Lib.hid hkT
                clear hkT
                have hgap := gap_note (nolf T) (nolf_ne T)
                have hgl2 : (35 :: nolf T ++ [13, 10]).length ≤ 23 := by have := nolf_len T; simp; omega
                have hgs2 := gs_snoc HGS.out hgap hgl2
                have HG2 := Lib.hid hgs2
                clear hgs2 hgap hgl2
                go_wp2
                go_roundw
                case rel => first | exact ⟨k + 1, gs ++ [35 :: nolf T ++ [13, 10]], by omega, by go_num, by simp; omega, HG2.out, by rw [ba_1310, ← HSE.out, ← HQ.out, HKT.out, ← HS2.out, HS1.out]; simp, bdrewN hnx _⟩ | ((repeat apply Exists.intro); exact ⟨⟨k + 1, gs ++ [35 :: nolf T ++ [13, 10]], by omega, by go_num, by simp; omega, HG2.out, by rw [ba_1310, ← HSE.out, ← HQ.out, HKT.out, ← HS2.out, HS1.out]; simp, bdrewN hnx _⟩, rfl⟩)
                case measure => simp [intOf] <;> omega
          · have hb6 : ((x.k : Int) == 6) = false := by simp; omega
            have hp6 := pre_not hk6 S
            have HP6 := Lib.hid hp6
            clear hp6
            go_upto_region 14 with (fail)
            go_region
            obtain ⟨T, hT, hTl⟩ := note_ba X
            rw [hT, HP6.out]
            clear hT
            generalize hS1 : S ++ wB x = S1 at hswb hSWl ⊢
            have HS1 := Lib.hid hS1
            have hS2l : (S1 ++ [35]).length ≤ 63000 := by simp; omega
            generalize hS2 : S1 ++ [35] = S2 at hS2l
            have HS2 := Lib.hid hS2
            clear hS2
            have hTs := ba_size T
            have hTb : (ba T).size ≤ 20 := by omega
            have HTS := Lib.hid hTs
            clear hTs hS1
            go_wp2_with fail
            go_loop [9, 12] (fun s i => NoteRel S2 T s i) (fun _ i => T.length - (intOf i).toNat)
            case atStart => exact ⟨0, Nat.zero_le _, rfl, by rw [ba_35, HS2.out]; simp [nolf]⟩
            case round =>
              obtain ⟨kk, hkk, rfl, rfl⟩ := hrel
              have hn1 := nolf_len (T.take kk)
              have hn2 : (T.take kk).length ≤ kk := by rw [List.length_take]; omega
              have hss := ba_size (S2 ++ nolf (T.take kk))
              have hsl : (S2 ++ nolf (T.take kk)).length ≤ 70000 := by simp; omega
              generalize hQ : S2 ++ nolf (T.take kk) = Q at hss hsl ⊢
              have hsb : (ba Q).size ≤ 70000 := by omega
              have HQ := Lib.hid hQ
              clear hss hQ hn1 hn2
              by_cases hk2 : kk < T.length
              · have h2 : kk < (ba T).size := by rw [HTS.out]; exact hk2
                obtain ⟨d, hd⟩ : ∃ d, T[kk]? = some d := ⟨_, List.getElem?_eq_getElem hk2⟩
                have hg := ba_get hd h2
                have hx1 := ba_ext1 hd
                have hnt := nolf_take hd
                clear hd
                have HX1 := Lib.hid hx1
                have HNT := Lib.hid hnt
                have h1s : ((ba T).extract kk (kk + 1)).size ≤ 1 := by rw [hx1, ba_size]; simp
                clear hx1 hnt
                by_cases h10 : (ba T)[kk].toNat = 10
                · have hb10 : ((d.toNat : Int) != 10) = false := by rw [← hg]; simp; omega
                  have hc10 : d = 10 := by rw [← hg]; apply UInt8.toNat_inj.1; simpa using h10
                  go_wp2
                  go_round
                  case rel => exact ⟨kk + 1, by omega, by go_num, by rw [HNT.out, if_pos hc10, List.append_nil, HQ.out]⟩
                  case measure => simp [intOf] <;> omega
                · have hb10 : ((d.toNat : Int) != 10) = true := by rw [← hg]; simp; omega
                  have hc10 : ¬ d = 10 := fun e => h10 (by rw [hg, e]; rfl)
                  go_wp2
                  go_round
                  case rel => exact ⟨kk + 1, by omega, by go_num, by rw [HNT.out, if_neg hc10, HX1.out, ba_app2, ← HQ.out, List.append_assoc]⟩
                  case measure => simp [intOf] <;> omega
              · have h2 : ¬ kk < (ba T).size := by rw [HTS.out]; exact hk2
                have hkT : T.take kk = T := List.take_of_length_le (by omega)
                have HKT := Lib.hid hkT
                clear hkT
                have hgap := gap_note (nolf T) (nolf_ne T)
                have hgl2 : (35 :: nolf T ++ [13, 10]).length ≤ 23 := by have := nolf_len T; simp; omega
                have hgs2 := gs_snoc HGS.out hgap hgl2
                have HG2 := Lib.hid hgs2
                clear hgs2 hgap hgl2
                go_wp2
                go_roundw
                case rel => first | exact ⟨k + 1, gs ++ [35 :: nolf T ++ [13, 10]], by omega, by go_num, by simp; omega, HG2.out, by rw [ba_1310, ← HSE.out, ← HQ.out, HKT.out, ← HS2.out, HS1.out]; simp, bdrewN hnx _⟩ | ((repeat apply Exists.intro); exact ⟨⟨k + 1, gs ++ [35 :: nolf T ++ [13, 10]], by omega, by go_num, by simp; omega, HG2.out, by rw [ba_1310, ← HSE.out, ← HQ.out, HKT.out, ← HS2.out, HS1.out]; simp, bdrewN hnx _⟩, rfl⟩)
                case measure => simp [intOf] <;> omega
        · by_cases hk6 : x.k = 6
          · have hb6 : ((x.k : Int) == 6) = true := by simp; omega
            have hp6 := pre_six hk6 S
            have HP6 := Lib.hid hp6
            clear hp6
            have hgs2 := gs_snoc HGS.out gap_crlf (by simp)
            have HG2 := Lib.hid hgs2
            clear hgs2
            go_wp2
            go_roundw
            case rel => first | exact ⟨k + 1, gs ++ [[13, 10]], by omega, by go_num, by simp; omega, HG2.out, by rw [HP6.out, ba_1310, HSE.out], hnx⟩ | ((repeat apply Exists.intro); exact ⟨⟨k + 1, gs ++ [[13, 10]], by omega, by go_num, by simp; omega, HG2.out, by rw [HP6.out, ba_1310, HSE.out], hnx⟩, rfl⟩)
            case measure => simp [intOf] <;> omega
          · have hb6 : ((x.k : Int) == 6) = false := by simp; omega
            have hp6 := pre_not hk6 S
            have HP6 := Lib.hid hp6
            clear hp6
            have hgs2 := gs_snoc HGS.out gap_crlf (by simp)
            have HG2 := Lib.hid hgs2
            clear hgs2
            go_wp2
            go_roundw
            case rel => first | exact ⟨k + 1, gs ++ [[13, 10]], by omega, by go_num, by simp; omega, HG2.out, by rw [HP6.out, ba_1310, HSE.out], hnx⟩ | ((repeat apply Exists.intro); exact ⟨⟨k + 1, gs ++ [[13, 10]], by omega, by go_num, by simp; omega, HG2.out, by rw [HP6.out, ba_1310, HSE.out], hnx⟩, rfl⟩)
            case measure => simp [intOf] <;> omega
      · have hkl : k = ws.length := by omega
        subst hkl
        rw [List.take_length] at hlen ⊢
        obtain ⟨wsa, hla, hal⟩ := blanks_lex hw gs hgl (fun g hg => (HGS.out g hg).1)
        generalize hS : [32, 9] ++ srcOf (ws.zip gs) = S at hlen hla ⊢
        have hlex := lexR_ok (by omega) hla
        have hSz := ba_size S
        have hSb : (ba S).size ≤ 60000 := by omega
        have hGw := hG2.later hnx
        have hBW := Lib.bytesWorld_below wr 5 (ba S)
        have hsW := hBW.size
        have hTr := hT2.later hnx
        have HLX := Lib.hid hlex
        have HAL := Lib.hid hal
        clear hlex hal hS hSz hla
        go_wp2_with fail
        refine (lex_any _ S _ (Bs.bytes wr S (ba S).size rfl) (hGw.later hBW) (by omega)).mono ?_
        rintro e w4 ⟨v4, rfl, hown4, hB4⟩
        rw [HLX.out] at hown4 ⊢
        have hs4 := hB4.size
        have hT4 := Ts.own hown4
        clear hown4
        go_wp2_with fail
        refine (same_any false _ _ ws wsa _ ((hTr.later hBW).later hB4) hT4 HAL.out (by omega)).mono ?_
        rintro e w5 ⟨rfl, hB5⟩
        go_wp2
        go_ret
        exact ⟨rfl, (((((hB1.trans (hB2.mono hs1)).trans (hnx.mono (by omega))).trans (hBW.mono (by omega))).trans (hB4.mono (by omega))).trans (hB5.mono (by omega)))⟩
  · rw [hr] at hown2 ⊢
    obtain ⟨A2, c2, rfl⟩ := (Ts.own hown2).nil_of
    clear hown2
    go_wp2
    go_ret
    exact ⟨rfl, hB1.trans (hB2.mono hs1)⟩
end Go.Proofs.YtgffhjcnfjgpnaaDoor
