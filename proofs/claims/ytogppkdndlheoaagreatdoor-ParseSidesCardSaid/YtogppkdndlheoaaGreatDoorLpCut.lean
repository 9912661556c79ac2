/- The walk of the law ParseCut. -/
import Derived.Test.YtogppkdndlheoaaGreatDoorSha
import Derived.Test.YtogppkdndlheoaaGreatDoorGaPure
import Derived.Outline
namespace Go.Proofs.YtogppkdndlheoaaGreatDoor
open Go.RowKit Pz

/-- What a store of a program asks. -/
theorem pg_store {w : World} {P : Nat → Prop} {p : Prog} {l : List Value} (h : PgIt w P p l) : l.toArray.all (·.oneCell') = true ∧ (Tryz.prog.info? 41).map (·.size) = some l.toArray.size ∧ zP.size = l.toArray.size := by
  have hlen := pgOK.len h
  exact ⟨all_oneCell_toArray (pgOK.one h), by rw [szPg]; simp [hlen], by simp [hlen, zP]⟩
theorem cut_parse {sz sz' : Nat} {ws : List Lx.Tk} {k : Nat} (h : (parseW sz ws).2.2 = 0) :
    (parseW sz' (ws.take k)).2.2 = 0 ∨ ((parseW sz' (ws.take k)).2.2 = 3 ∧ (parseW sz' (ws.take k)).2.1 = sz') ∨ (parseW sz' (ws.take k)).2.2 = 6 := by
  have hp : (Pz.program sz ⟨ws, 0, 0, 0⟩).2.er = 0 := by
    unfold parseW at h
    split at h
    · rename_i hn; exact absurd h hn
    · rename_i hn; exact Decidable.not_not.1 hn
  have hc := cut_program (sz := sz) (sz' := sz') (ws := ws) (ws' := ws.take k) (r := ws.drop k) (List.take_append_drop k ws).symm hp
  unfold parseW
  split
  · rename_i hn
    rcases hc with h1 | h1 | h1
    · exact absurd h1 hn
    · exact .inr (.inl h1)
    · exact .inr (.inr h1)
  · split
    · exact .inr (.inr rfl)
    · exact .inl rfl

theorem Ts.own {w : World} {B : Nat} {v : Value} {ws : List Lx.Tk} (h : w.ownsRow B 47 4 v ws.length (wordsC ws)) : Ts w v ws := by
  rcases h.2 with ⟨rfl, h0⟩ | ⟨g, cap, cur, rfl, hg, hh, hn, hm, hs, ht⟩
  · exact ⟨none, 0, by rw [h0], by omega, fun hp => by omega⟩
  · refine ⟨_, cap, rfl, hn, fun hp => ⟨g, 0, rfl, fun j u hj => ?_⟩⟩
    have hj4 : j < ws.length * 4 := by
      have := (List.getElem?_eq_some_iff.1 hj).1
      rw [h.1] at this
      exact this
    have := h.cellAt j hj4
    simp only [Nat.zero_add]
    rw [this, hj]

set_option maxRecDepth 100000 in
set_option maxHeartbeats 4000000 in
theorem parseCut_any (v : Value) (l : List UInt8) (at_ : Int) (w : World) (hb : Bs w v l) (hG : Good w) (hl : l.length ≤ 140737488351232) :
    Calls Tryz.prog 5 #[v, .int .i64 at_] w (Yes w) := by
  have hb0 := hb
  obtain ⟨A, c, rfl, hlc, hcell⟩ := hb
  clear hcell
  have hm := min_len l 1000
  have hb1 := hb0.cut 1000
  have hL : (l.take 1000).length ≤ 1000 := by rw [List.length_take]; omega
  have hLc : (l.take 1000).length ≤ c := by rw [List.length_take]; omega
  generalize l.take 1000 = L at hm hb1 hL hLc
  have HM := Lib.hid hm
  clear hm hb0
  have hl0 : (0:Int) ≤ (l.length : Int) := by omega
  go_enter Tryz.func5, Tryz.ntmps5
  go_wp2_with fail
  refine (shown_any _ hG).mono ?_
  rintro e w1 ⟨rfl, hB1⟩
  have hG1 := hG.later hB1
  have hs1 := hB1.size
  go_wp2_with fail
  rw [show ((1000 : Int)) = ((1000 : Nat) : Int) from rfl, HM.out]
  refine (parse_any _ L _ (hb1.later hB1) hG1 (by omega)).mono ?_
  rintro e w2 ⟨lp, rfl, hit, hB2⟩
  have hs2 := hB2.size
  obtain ⟨hon, hsz, hzz⟩ := pg_store hit
  have HON := Lib.hid hon
  have HSZ := Lib.hid hsz
  have HZZ := Lib.hid hzz
  have lz := Lies.new w2 41 zP
  have hb3 := below_new w2 (.cells lp.toArray 41)
  unfold zP at lz HZZ
  clear hit hon hsz hzz
  obtain ⟨R, hR⟩ : ∃ R, R = parseR L := ⟨_, rfl⟩
  rw [← hR]
  obtain ⟨PR, aR, eR⟩ := R
  have HR := Lib.hid hR
  clear hR
  dsimp only
  go_wp2_with (first | (refine wpList_store_rowTo rfl 41 (.tmp 6) (.tmp 26) rfl rfl _ lp.toArray rfl rfl 41 _ lz HSZ.out HZZ.out HON.out ?_; rw [set_new rfl]))
  refine (lex_any _ L _ ((hb1.later hB1).later hB2 |>.later hb3) ((hG1.later hB2).later hb3) (by omega)).mono ?_
  rintro e w4 ⟨v4, rfl, hown4, hB4⟩
  have hB24 : Below w2.heap.size w2 w4 := hb3.trans (hB4.mono hb3.size)
  have hs4 := hB24.size
  have hBall : Below w.heap.size w w4 := (hB1.trans (hB2.mono hs1)).trans (hB24.mono (by omega))
  by_cases he : eR = 0
  · subst he
    rcases lexR_cases L (by omega) with ⟨ws, hr, hw⟩ | ⟨ws, p, hr, hw⟩
    · rw [hr] at hown4 ⊢
      have hRW := HR.out
      rw [parseR_ok hr] at hRW
      have HRW := Lib.hid hRW
      clear hRW
      have hT4 := Ts.own hown4
      clear hown4
      cases hws : ws with
      | nil =>
        subst hws
        obtain ⟨A4, c4, rfl⟩ := hT4.nil_of
        go_wp2_with fail
        go_ret
        exact ⟨rfl, hBall⟩
      | cons x0 r =>
        have h0 : 0 < ws.length := by rw [hws]; simp
        clear hws
        obtain ⟨g, o, c2, hv2, hc2⟩ := hT4.form h0
        subst hv2
        have hne : ((ws.length : Int) == 0) = false := by simp only [beq_eq_false_iff_ne, ne_eq]; omega
        have hcnt := hw.count
        obtain ⟨n, hn, hbits⟩ := and_mask at_ 65535 (by decide)
        have htm : (bits .and .i64 at_ 65535).tmod (ws.length : Int) = ((n % ws.length : Nat) : Int) := by
          rw [show (65535 : Int) = ((65535 : Nat) : Int) from rfl, hbits]
          rfl
        have hk : n % ws.length < ws.length := Nat.mod_lt _ h0
        clear hbits hn
        generalize n % ws.length = k at htm hk
        obtain ⟨x, hx⟩ : ∃ x, ws[k]? = some x := ⟨_, List.getElem?_eq_getElem hk⟩
        obtain ⟨_, _, _, x3⟩ := hT4.at_ hx
        have hp : x.pos ≤ L.length := by have := hw.pos_le x (List.mem_of_getElem? hx); omega
        have HX := Lib.hid hx
        clear hx
        go_wp2_with fail
        have hcut := (hw.cut k x HX.out)
        rw [Nat.sub_zero] at hcut
        have hlen' : (L.take x.pos).length = x.pos := by rw [List.length_take]; omega
        have hlex := lexR_ok (by rw [List.length_take]; omega) hcut
        have hbs := (((hb1.later hB1).later hB2).later hB24).cut x.pos
        rw [hlen'] at hbs
        have hcp := cut_parse (sz := L.length) (sz' := x.pos) (ws := ws) (k := k) (by rw [← HRW.out])
        have hPR := parseR_ok hlex
        rw [hlen'] at hPR
        refine (parse_any _ (L.take x.pos) _ hbs ((hG1.later hB2).later hB24) (by omega)).mono ?_
        rintro e w5 ⟨l5, rfl, hit5, hB5⟩
        rw [hPR] at hit5 ⊢
        obtain ⟨hon5, hsz5, hzz5⟩ := pg_store hit5
        have HON5 := Lib.hid hon5
        have HSZ5 := Lib.hid hsz5
        have HZZ5 := Lib.hid hzz5
        have lz5 := Lies.new w5 41 zP
        have hb6 := below_new w5 (.cells l5.toArray 41)
        have hs5 := hB5.size
        have hBend := (hBall.trans (hB5.mono hBall.size)).trans (hb6.mono (by have := hBall.size; omega))
        unfold zP at lz5 HZZ5
        clear hit5 hon5 hsz5 hzz5 hPR hlex hcut hbs
        obtain ⟨R5, hR5⟩ : ∃ R5, R5 = parseW x.pos (ws.take k) := ⟨_, rfl⟩
        rw [← hR5] at hcp ⊢
        clear hR5
        obtain ⟨P5, a5, e5⟩ := R5
        dsimp only at hcp ⊢
        rcases hcp with rfl | ⟨rfl, rfl⟩ | rfl
        · go_wp2_with (first | (refine wpList_store_rowTo rfl 41 (.tmp 14) (.tmp 58) rfl rfl _ l5.toArray rfl rfl 41 _ lz5 HSZ5.out HZZ5.out HON5.out ?_; rw [set_new rfl]))
          go_ret
          exact ⟨rfl, hBend⟩
        · go_wp2_with (first | (refine wpList_store_rowTo rfl 41 (.tmp 14) (.tmp 58) rfl rfl _ l5.toArray rfl rfl 41 _ lz5 HSZ5.out HZZ5.out HON5.out ?_; rw [set_new rfl]))
          go_ret
          exact ⟨rfl, hBend⟩
        · go_wp2_with (first | (refine wpList_store_rowTo rfl 41 (.tmp 14) (.tmp 58) rfl rfl _ l5.toArray rfl rfl 41 _ lz5 HSZ5.out HZZ5.out HON5.out ?_; rw [set_new rfl]))
          go_ret
          exact ⟨rfl, hBend⟩
    · exfalso
      have := HR.out
      rw [parseR_err hr (by decide)] at this
      cases this
  · have hei : ((eR : Int) == 0) = false := by simp; omega
    have hei2 : ¬ (eR : Int) = 0 := by omega
    obtain ⟨A4, n4, c4, hv4⟩ : ∃ A k c, v4 = .slice A k c := by rcases (OwnP.of hown4).2 with ⟨h, _⟩ | ⟨g, cap, cur, h, _⟩ <;> exact ⟨_, _, _, h⟩
    subst hv4
    go_wp2_with fail
    go_ret
    exact ⟨rfl, hBall⟩
end Go.Proofs.YtogppkdndlheoaaGreatDoor
