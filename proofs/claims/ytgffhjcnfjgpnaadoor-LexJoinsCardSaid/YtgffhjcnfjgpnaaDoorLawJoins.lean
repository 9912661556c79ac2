/- The walk of the law LexJoins. -/
import Derived.Test.YtgffhjcnfjgpnaaDoorPureJ
import Derived.Test.YtgffhjcnfjgpnaaDoorLawBack
import Derived.Lib.SmallJoins
namespace Go.Proofs.YtgffhjcnfjgpnaaDoor
open Go.RowKit

theorem Formed.cut {A : Option Addr} {n c m : Nat} (h : Formed (.slice A n c)) (hm : m ≤ n) : Formed (.slice A m c) := by
  rcases h with h | ⟨a, n', c', h⟩
  · injection h with h1 h2 h3
    subst h1 h2 h3
    have : m = 0 := by omega
    subst this
    exact .inl rfl
  · injection h with h1 h2 h3
    subst h1
    exact .inr ⟨a, m, c, rfl⟩

def JoinRel (d : Nat) (ws' : List Lx.Tk) (w7 : World) (B gy cap : Nat) (i : Value) (wr : World) : Prop :=
  ∃ k : Nat, k ≤ ws'.length ∧ i = .int .i64 k ∧ wr.ownsRow B 31 4 (.slice (some ⟨gy, 0, none⟩) ws'.length cap) ws'.length (wordsC (shA d ws' k)) ∧ w7.grownBy wr (some gy)
theorem wordsC_app (a b : List Lx.Tk) : wordsC (a ++ b) = wordsC a ++ wordsC b := by simp [wordsC]
theorem grown_trans {a b c : World} {row : Option Nat} (h : a.grownBy b row) (k : b.grownBy c row) : a.grownBy c row :=
  ⟨k.os.trans h.os, k.tape.trans h.tape, k.output.trans h.output, Nat.le_trans h.size k.size, fun i hi hne => (k.block i (Nat.lt_of_lt_of_le hi h.size) hne).trans (h.block i hi hne)⟩
theorem join_step {d : Nat} {ws' : List Lx.Tk} {w7 wr : World} {B gy cap k : Nat} {x : Lx.Tk} (hx : ws'[k]? = some x)
    (hown : wr.ownsRow B 31 4 (.slice (some ⟨gy, 0, none⟩) ws'.length cap) ws'.length (wordsC (shA d ws' k))) (hg : w7.grownBy wr (some gy)) :
    wr.cell? ⟨gy, k * 4 + 3, none⟩ = some (.int .i64 (x.pos : Int)) ∧ wr.frozen? ⟨gy, k * 4 + 3, none⟩ = false ∧
    ∀ q : Int, q = ((x.pos + d : Nat) : Int) → (wr.setCell ⟨gy, k * 4 + 3, none⟩ (.int .i64 q)).ownsRow B 31 4 (.slice (some ⟨gy, 0, none⟩) ws'.length cap) ws'.length (wordsC (shA d ws' (k + 1))) ∧ w7.grownBy (wr.setCell ⟨gy, k * 4 + 3, none⟩ (.int .i64 q)) (some gy) := by
  have hk := (List.getElem?_eq_some_iff.1 hx).1
  refine ⟨?_, hown.frozenAt _, fun q hq => ?_⟩
  · rw [hown.cellAt (k * 4 + 3) (by omega)]
    exact (words_at _ k x (shA_at hx).1).2.2.2
  · subst hq
    have := hown.stored (k * 4 + 3) (.int .i64 ((x.pos + d : Nat) : Int))
    rw [shA_words hx] at this
    exact ⟨this.1, grown_trans hg this.2⟩

set_option maxRecDepth 100000 in
set_option maxHeartbeats 4000000 in
theorem joins_any (v : Value) (l : List UInt8) (u : Value) (m : List UInt8) (w : World) (hb : Bs w v l) (hbm : Bs w u m) (hfv : Formed v) (hfu : Formed u) (hG : Good w) (hl : l.length ≤ 140737488351232) (hm : m.length ≤ 140737488351232) :
    Calls Tryd.prog 9 #[v, u] w (Yes w) := by
  have hb0 := hb
  have hm0 := hbm
  obtain ⟨A, c, rfl, hlc, hcell⟩ := hb
  obtain ⟨Am, cm, rfl, hlcm, hcellm⟩ := hbm
  clear hcell hcellm
  have hmn := min_len l 1000
  have hmm := min_len m 1000
  have hb1 := hb0.cut 1000
  have hm1 := hm0.cut 1000
  have hL : (l.take 1000).length ≤ 1000 := by rw [List.length_take]; omega
  have hLc : (l.take 1000).length ≤ c := by rw [List.length_take]; omega
  have hM : (m.take 1000).length ≤ 1000 := by rw [List.length_take]; omega
  have hMc : (m.take 1000).length ≤ cm := by rw [List.length_take]; omega
  have hf1 := hfv.cut (m := (l.take 1000).length) (by rw [List.length_take]; omega)
  have hf2 := hfu.cut (m := (m.take 1000).length) (by rw [List.length_take]; omega)
  clear hfv hfu
  generalize l.take 1000 = L at hmn hb1 hL hLc hf1
  generalize m.take 1000 = M at hmm hm1 hM hMc hf2
  have HM := Lib.hid hmn
  have HMM := Lib.hid hmm
  clear hmn hmm hb0 hm0
  have hl0 : (0:Int) ≤ (l.length : Int) := by omega
  have hm0 : (0:Int) ≤ (m.length : Int) := by omega
  obtain ⟨i5, hi5, hz50, hz51, hz52⟩ := info_parts Tryd.info5
  obtain ⟨i0, hi, hz0, hz1, hz2⟩ := info_parts Tryd.info31
  go_enter Tryd.func9, Tryd.ntmps9
  go_wp2_with fail
  refine (shown_any _ hG).mono ?_
  rintro e w1 ⟨rfl, hB1⟩
  have hG1 := hG.later hB1
  have hs1 := hB1.size
  go_wp2_with fail
  rw [show ((1000 : Int)) = ((1000 : Nat) : Int) from rfl, HM.out, HMM.out]
  refine (lex_any _ L _ (hb1.later hB1) hG1 (by omega)).mono ?_
  rintro e w2 ⟨v2, rfl, hown2, hB2⟩
  have hs2 := hB2.size
  have hG2 := hG1.later hB2
  have hbL := (hb1.later hB1).later hB2
  have hbM := (hm1.later hB1).later hB2
  go_wp2_with fail
  refine (lex_any _ M _ hbM hG2 (by omega)).mono ?_
  rintro e w3 ⟨v3, rfl, hown3, hB3⟩
  have hs3 := hB3.size
  have hG3 := hG2.later hB3
  have hbL3 := hbL.later hB3
  have hbM3 := hbM.later hB3
  clear hb1 hm1 hbL hbM
  have hmk := World.ownsRow_made (base := w3.heap.size) (e := 5) (size := 1) w3 #[] 0 (Nat.le_refl _) (by unfold maxLen; omega) rfl
  have hsrc1 := (hbL3.later ((Below.refl _ _).alloc (Nat.le_refl _) (.cells #[] 5))).src hf1
  go_wp2_with (at_builtin; go_loud (refine wpList_append_src rfl _ _ 22 rfl w3.heap.size 5 i5 (.int .u8 0) 1 1 Tryd.underlying22 hi5 hz50 hz51 hz52 rfl (by decide) _ _ _ rfl hmk _ _ _ rfl hsrc1 ?c1 (bytesC_one _) ?c3 ?c4 ?c5 ?_))
  case c1 => simp [bytesC]
  case c3 => unfold maxLen; omega
  case c4 => omega
  case c5 => simp
  intro v4 w4 hown4 hgr4
  have hN4 : Below w3.heap.size w3 w4 := ((Below.refl _ _).alloc (Nat.le_refl _) (.cells #[] 5)).grown hgr4 (by simp) (fun k hk => by simp [Value.ownBlock] at hk; omega)
  have hs4 := hN4.size
  clear hgr4 hmk hsrc1
  have hown4b := hown4.alloc (.cells #[.int .u8 10] 5)
  have hsrc2 := (Bs.lit w4 [10] #[.int .u8 10] (0, 0) rfl rfl rfl).src (.inr ⟨_, _, _, rfl⟩)
  go_wp2_with (at_builtin; go_loud (refine wpList_append_src rfl _ _ 22 rfl w3.heap.size 5 i5 (.int .u8 0) 1 1 Tryd.underlying22 hi5 hz50 hz51 hz52 rfl (by decide) _ _ _ rfl hown4b _ _ _ rfl hsrc2 ?c1 (bytesC_one _) ?c3 ?c4 ?c5 ?_))
  case c1 => simp [bytesC]
  case c3 => unfold maxLen; simp; omega
  case c4 => simp; omega
  case c5 => simp; omega
  intro v5 w5 hown5 hgr5
  have hN5 : Below w3.heap.size w3 w5 := (hN4.alloc hs4 (.cells #[.int .u8 10] 5)).grown hgr5 (by simp; omega) (fun k hk => (hown4.lt k hk).1)
  have hs5 := hN5.size
  have hsrc3 := (hbM3.later hN5).src hf2
  clear hgr5 hown4b hsrc2 hown4
  go_wp2_with (at_builtin; go_loud (refine wpList_append_src rfl _ _ 22 rfl w3.heap.size 5 i5 (.int .u8 0) 1 1 Tryd.underlying22 hi5 hz50 hz51 hz52 rfl (by decide) _ _ _ rfl hown5 _ _ _ rfl hsrc3 ?c1 (bytesC_one _) ?c3 ?c4 ?c5 ?_))
  case c1 => simp [bytesC]
  case c3 => unfold maxLen; simp; omega
  case c4 => simp; omega
  case c5 => exact hs5
  intro v6 w6 hown6 hgr6
  have hN6 : Below w3.heap.size w3 w6 := hN5.grown hgr6 hs5 (fun k hk => (hown5.lt k hk).1)
  have hs6 := hN6.size
  have hownA : w6.ownsRow w3.heap.size 5 1 v6 (L ++ 10 :: M).length (bytesC (L ++ 10 :: M)) := by
    rw [show (L ++ 10 :: M).length = 0 + L.length + 1 + M.length by simp; omega, show bytesC (L ++ 10 :: M) = [] ++ bytesC L ++ bytesC [10] ++ bytesC M by simp [bytesC]]
    simpa using hown6
  have hbs6 := own_bs hownA
  have hG6 := hG3.later hN6
  have hAl : (L ++ 10 :: M).length ≤ 2001 := by simp; omega
  clear hgr6 hown6 hown5 hownA hsrc3
  go_wp2_with fail
  refine (lex_any _ (L ++ 10 :: M) _ hbs6 hG6 (by omega)).mono ?_
  rintro e w7 ⟨v7, rfl, hown7, hB7⟩
  have hs7 := hB7.size
  have hN7 := hN6.trans (hB7.mono hs6)
  have hW3 : Below w.heap.size w w3 := (hB1.trans (hB2.mono hs1)).trans (hB3.mono (by omega))
  clear hbs6 hbL3 hbM3
  rcases lexR_cases L (by omega) with ⟨ws, hr, hw⟩ | ⟨ws, p, hr, hw⟩
  · rcases lexR_cases M (by omega) with ⟨ws', hr', hw'⟩ | ⟨ws', p, hr', hw'⟩
    · have hr7 := lexR_ok (by omega) (lex_join_ok hw hw')
      rw [hr] at hown2 ⊢
      rw [hr'] at hown3 ⊢
      rw [hr7] at hown7 ⊢
      have hcX := hw.count
      have hcY := hw'.count
      have hposY := hw'.pos_le
      have hX7 := own_later (own_later hown2 hB3) (hN7.mono (Nat.le_refl _))
      have hY7 := own_later hown3 (hN7.mono (Nat.le_refl _))
      have hlX := hown2.lt
      have hlY := hown3.lt
      have hlZ := hown7.lt
      generalize hd : L.length + 1 = d at hown7 hr7
      have hd1 : (d : Int) = (L.length : Int) + 1 := by omega
      have HD := Lib.hid hd
      clear hd hown2 hown3
      have hZX : v7.ownBlock = none ∨ v7.ownBlock ≠ v2.ownBlock := by
        rcases h : v7.ownBlock with _ | k
        · exact .inl rfl
        · right
          intro e
          have := hlZ k h
          have := hlX k e.symm
          omega
      have hZl : (ws ++ ws'.map (shP d)).length ≤ 2000 := by simp; omega
      rcases hY7.2 with ⟨hv3, hn0⟩ | ⟨gy, cap, cur, hv3, _, _, hnc, _⟩
      · subst hv3
        have hw0 : ws' = [] := List.eq_nil_of_length_eq_zero hn0
        subst hw0
        have hgr := grown_refl w7 none
        have hZne : v7.ownBlock = none ∨ v7.ownBlock ≠ none := by cases v7.ownBlock <;> simp
        have hBr := Below.refl w.heap.size w7
        go_wp2_with fail
        go_loopw [16] (fun i wr => i = .int .i64 0 ∧ wr = w7) (fun _ _ => 0)
        case atStart => exact ⟨rfl, rfl⟩
        case round =>
          obtain ⟨rfl, hwr⟩ := hrel
          have e9 := hwr.symm
          subst e9
          have hXr := hX7
          have hsrc := own_src hY7
          go_wp2_with (at_builtin; go_loud (refine wpList_append_src2 (by rfl) _ _ 24 rfl w1.heap.size 31 i0 (.agg #[.int .i64 0, .string ⟨#[]⟩, .int .i64 0, .int .i64 0]) 4 40 Tryd.underlying24 hi hz0 hz1 hz2 rfl (by decide) _ _ _ rfl hXr _ _ _ rfl hsrc ?c1 (wordsC_one _) ?c3 ?c4 ?c5 ?_))
          case c1 => rfl
          case c3 => unfold maxLen; simp; omega
          case c4 => omega
          case c5 => omega
          intro v8 w8 hown8 hgr8
          have hT8 : Ts w8 v8 (ws ++ ([] : List Lx.Tk).map (shP d)) := Ts.own (B := w1.heap.size) (by rw [List.length_append, List.length_map, wordsC_app]; exact hown8)
          have hZ8 := Ts.own ((hown7.kept hgr hZne).kept hgr8 hZX)
          have hB8 : Below w.heap.size w7 w8 := hBr.grown hgr8 (by omega) (fun k hk => by have := hlX k hk; omega)
          have hs8 := hB8.size
          clear hown7 hown8 hgr hgr8 hXr hsrc hX7 hY7
          go_wp2_with fail
          refine (same_any true _ _ _ _ _ hZ8 hT8 (AlikeL.refl _ _) (by omega)).mono ?_
          rintro e w9 ⟨rfl, hB9⟩
          go_wp2
          go_ret
          exact ⟨rfl, ((hW3.trans (hN7.mono (by omega))).trans hB8).trans (hB9.mono (by omega))⟩
      · subst hv3
        obtain ⟨hgy1, hgy2⟩ := hlY gy rfl
        have hPos := Lib.hid hposY
        clear hlY hposY
        have hlen' : (ws'.length : Int) ≤ 1000 := by omega
        go_wp2_with fail
        go_loopw [16] (fun i wr => JoinRel d ws' w7 w2.heap.size gy cap i wr) (fun i _ => ws'.length - (intOf i).toNat)
        case atStart => exact ⟨0, Nat.zero_le _, rfl, by rw [shA_zero]; exact hY7, grown_refl _ _⟩
        case round =>
          rename_i wr
          obtain ⟨k, hk, rfl, hrow, hgr⟩ := hrel
          by_cases hlt : k < ws'.length
          · obtain ⟨x, hx⟩ : ∃ x, ws'[k]? = some x := ⟨_, List.getElem?_eq_getElem hlt⟩
            have hp := hPos.out x (List.mem_of_getElem? hx)
            obtain ⟨hc1, hc2, hst⟩ := join_step hx hrow hgr
            have HST := Lib.hid hst
            clear hst hx
            go_wp2
            go_roundw
            case rel => first | exact ⟨k + 1, by omega, by go_num, (HST.out _ (by omega)).1, (HST.out _ (by omega)).2⟩ | ((repeat apply Exists.intro); exact ⟨⟨k + 1, by omega, by go_num, (HST.out _ (by omega)).1, (HST.out _ (by omega)).2⟩, rfl⟩)
            case measure => simp [intOf] <;> omega
          · have hkl : k = ws'.length := by omega
            subst hkl
            rw [shA_all] at hrow
            have hZne : v7.ownBlock = none ∨ v7.ownBlock ≠ some gy := .inr fun e => by have := hlZ gy e; omega
            have hXr := hX7.kept hgr (.inr fun e => by have := hlX gy e; omega)
            have hBr : Below w.heap.size w7 wr := (Below.refl _ _).grown hgr (by omega) (fun k hk => by injection hk; omega)
            have hsr := hgr.size
            have hsrc := own_src hrow
            go_wp2_with (at_builtin; go_loud (refine wpList_append_src2 (by rfl) _ _ 24 rfl w1.heap.size 31 i0 (.agg #[.int .i64 0, .string ⟨#[]⟩, .int .i64 0, .int .i64 0]) 4 40 Tryd.underlying24 hi hz0 hz1 hz2 rfl (by decide) _ _ _ rfl hXr _ _ _ rfl hsrc ?c1 (wordsC_one _) ?c3 ?c4 ?c5 ?_))
            case c1 => rw [wordsC_len]; simp
            case c3 => unfold maxLen; omega
            case c4 => omega
            case c5 => omega
            intro v8 w8 hown8 hgr8
            have hT8 : Ts w8 v8 (ws ++ ws'.map (shP d)) := Ts.own (B := w1.heap.size) (by rw [List.length_append, List.length_map, wordsC_app]; exact hown8)
            have hZ8 := Ts.own ((hown7.kept hgr hZne).kept hgr8 hZX)
            have hB8 : Below w.heap.size w7 w8 := hBr.grown hgr8 (by omega) (fun k hk => by have := hlX k hk; omega)
            have hs8 := hB8.size
            clear hown7 hown8 hgr hgr8 hXr hsrc hX7 hY7
            go_wp2_with fail
            refine (same_any true _ _ _ _ _ hZ8 hT8 (AlikeL.refl _ _) (by omega)).mono ?_
            rintro e w9 ⟨rfl, hB9⟩
            go_wp2
            go_ret
            exact ⟨rfl, ((hW3.trans (hN7.mono (by omega))).trans hB8).trans (hB9.mono (by omega))⟩
    · have hr7 := lexR_err (by omega) (lex_join_err hw hw')
      have hp := hw'.err_lt
      rw [hr] at hown2 ⊢
      rw [hr'] at hown3 ⊢
      rw [hr7] at hown7 ⊢
      obtain ⟨A7, c7, rfl⟩ := (Ts.own hown7).nil_of
      have hcast : ((L.length + 1 + p : Nat) : Int) = (L.length : Int) + 1 + (p : Int) := by omega
      rw [hcast]
      clear hown2 hown3 hown7
      go_wp2
      go_ret
      exact ⟨rfl, hW3.trans (hN7.mono (by omega))⟩
  · have hr7 := lexR_err (by omega) (lex_join_first (M := M) hw)
    rw [hr] at hown2 ⊢
    rw [hr7] at hown7 ⊢
    obtain ⟨A7, c7, rfl⟩ := (Ts.own hown7).nil_of
    clear hown2 hown3 hown7
    go_wp2
    go_ret
    exact ⟨rfl, hW3.trans (hN7.mono (by omega))⟩
end Go.Proofs.YtgffhjcnfjgpnaaDoor
