/- The walk of the law LexBack. -/
import Derived.Test.YtgffhjcnfjgpnaaDoorLawAlone
import Derived.IntWalk
namespace Go.Proofs.YtgffhjcnfjgpnaaDoor
open Go.RowKit

theorem Lexes.err_lt {p : Nat} {l : List UInt8} {ws : List Lx.Tk} {e : Nat} (h : Lexes p l ws (some e)) : e < p + l.length := by
  generalize hr : some e = r at h
  induction h with
  | done => cases hr
  | err p l h0 h =>
    injection hr with hr
    have := sk_lt h0
    omega
  | word p l x m ws r h hl ih =>
    have hb := firstF_bound h
    have := ih hr
    simp only [List.length_drop] at hb this
    omega
/-- Where a word stands in its source. -/
theorem Lexes.stands {p : Nat} {l : List UInt8} {ws : List Lx.Tk} {r : Option Nat} (h : Lexes p l ws r) : ∀ x ∈ ws, p ≤ x.pos ∧ x.pos + x.t.length ≤ p + l.length ∧ (l.drop (x.pos - p)).take x.t.length = x.t ∧ 1 ≤ x.k ∧ x.k ≤ 6 ∧ x.t ≠ [] ∧ (x.k ≠ 1 → x.n = 0) := by
  induction h with
  | done => simp
  | err => simp
  | word p l x m ws r h hl ih =>
    intro y hy
    have hb := firstF_bound h
    simp only [List.length_drop] at hb
    simp only [List.mem_cons] at hy
    rcases hy with rfl | hy
    · obtain ⟨_, h1, h2, h3, h4, _, h5, h6⟩ := first_word h
      refine ⟨?_, ?_, ?_, h1, h2, h3, h4⟩
      · show p ≤ p + sk l; omega
      · show p + sk l + x.t.length ≤ _; omega
      · show (l.drop (p + sk l - p)).take x.t.length = x.t
        rw [Nat.add_sub_cancel_left]; exact h5
    · obtain ⟨i1, i2, i3, i4⟩ := ih y hy
      simp only [List.length_drop] at i2
      refine ⟨by omega, by omega, ?_, i4⟩
      rw [List.drop_drop] at i3
      have e : sk l + m + (y.pos - (p + sk l + m)) = y.pos - p := by omega
      rw [e] at i3
      exact i3
theorem Lexes.behind {p : Nat} {l : List UInt8} {ws : List Lx.Tk} {r : Option Nat} (h : Lexes p l ws r) : ∀ (k : Nat) (x y : Lx.Tk), ws[k]? = some x → ws[k + 1]? = some y → x.pos + x.t.length ≤ y.pos := by
  induction h with
  | done => intro k x y hx; simp at hx
  | err => intro k x y hx; simp at hx
  | word p l z m ws r h hl ih =>
    intro k x y hx hy
    cases k with
    | zero =>
      simp at hx hy
      subst hx
      have := hl.pos_ge y (List.mem_of_getElem? hy)
      obtain ⟨_, _, _, _, _, _, _, h6⟩ := first_word h
      show p + sk l + z.t.length ≤ y.pos
      omega
    | succ k => exact ih k x y (by simpa using hx) (by simpa using hy)
theorem Bs.part {w : World} {a : Addr} {n c : Nat} {l : List UInt8} (h : Bs w (.slice (some a) n c) l) (p m : Nat) (c' : Nat) (hp : p + m ≤ l.length) (hc : m ≤ c') : Bs w (.slice (some (a.add p)) m c') ((l.drop p).take m) := by
  obtain ⟨A', c2, h1, h2, h3⟩ := h
  have hl : ((l.drop p).take m).length = m := by rw [List.length_take, List.length_drop]; omega
  refine ⟨_, c', by rw [hl], by rw [hl]; exact hc, fun h0 => ⟨_, rfl, fun j hj => ?_⟩⟩
  rw [hl] at hj
  obtain ⟨a', h4, h5⟩ := h3 (by omega)
  injection h1 with hA _ _
  rw [h4] at hA
  injection hA with hA
  subst hA
  have e : (a.add p).add j = a.add (p + j) := by
    unfold Addr.add
    by_cases hi : p = 0 <;> by_cases hj : j = 0 <;> simp [hi, hj, Nat.add_assoc]
  rw [e, h5 (p + j) (by omega)]
  simp only [List.getElem_take, List.getElem_drop]

theorem slice_part (A : Option Addr) (n c p m : Nat) (hc : p + m ≤ c) (hp : p < c) (w : World) :
    (Instr.slice 22 (.slice A n c) (some (.int .i64 (p : Int))) (some (.int .i64 ((p : Int) + (m : Int)))) none).run Tryd.prog w = .ok (.slice (A.map (·.add p)) m (c - p)) w := by
  have hu : Tryd.prog.underlying 22 = some (.slice (Tryd.prog.elem 22)) := by kernel_rfl
  rw [run_slice_lh (P := Tryd.prog) (w := w) 22 A n c hu .i64 .i64 (p : Int) ((p : Int) + (m : Int)) (by omega) (by omega) (by omega)]
  have hs : (sizeOf (Tryd.prog.elem 22)).run Tryd.prog w = .ok 1 w := by kernel_rfl
  rw [hs]
  have e1 : ((p : Int) + (m : Int)).toNat - p = m := by omega
  have e2 : ¬ c = p := by omega
  show Result.ok (sliced A (p : Int).toNat ((p : Int) + (m : Int)).toNat c 1) w = _
  rw [sliced, Int.toNat_natCast, if_neg e2, e1, Nat.mul_one]
def BackRel (ws : List Lx.Tk) (w2 : World) (en i : Value) (wr : World) : Prop := ∃ k n : Nat, k ≤ ws.length ∧ i = .int .i64 k ∧ en = .int .i64 n ∧ n ≤ 6000 ∧ (∀ x, ws[k]? = some x → n ≤ x.pos) ∧ Below w2.heap.size w2 wr
set_option maxRecDepth 100000 in
set_option maxHeartbeats 2000000 in
theorem back_any (v : Value) (l : List UInt8) (w : World) (hb : Bs w v l) (hG : Good w) (hl : l.length ≤ 140737488351232) :
    Calls Tryd.prog 3 #[v] w (Yes w) := by
  have hb0 := hb
  obtain ⟨A, c, rfl, hlc, hcell⟩ := hb
  clear hcell
  have hm := min_len l 3000
  have hb1 := hb0.cut 3000
  have hL : (l.take 3000).length ≤ 3000 := by rw [List.length_take]; omega
  have hLc : (l.take 3000).length ≤ c := by rw [List.length_take]; omega
  generalize l.take 3000 = L at hm hb1 hL hLc
  have HM := Lib.hid hm
  clear hm hb0
  have hl0 : (0:Int) ≤ (l.length : Int) := by omega
  have hcv := conv_sb
  go_enter Tryd.func3, Tryd.ntmps3
  go_wp2_with fail
  refine (shown_any _ hG).mono ?_
  rintro e w1 ⟨rfl, hB1⟩
  have hG1 := hG.later hB1
  have hs1 := hB1.size
  go_wp2_with fail
  rw [show ((3000 : Int)) = ((3000 : Nat) : Int) from rfl, HM.out]
  refine (lex_any _ L _ (hb1.later hB1) hG1 (by omega)).mono ?_
  rintro e w2 ⟨v2, rfl, hown2, hB2⟩
  have hs2 := hB2.size
  have hG2 := hG1.later hB2
  rcases lexR_cases L (by omega) with ⟨ws, hr, hw⟩ | ⟨ws, p, hr, hw⟩
  · rw [hr] at hown2 ⊢
    have hT2 := Ts.own hown2
    clear hown2
    have hcnt := hw.count
    have hT2' := hT2
    obtain ⟨A2, c2, rfl, hc2, hcell2⟩ := hT2'
    obtain ⟨ws1, hw1, hal⟩ := lex_text hw
    have htl := textF_len ws
    have hts := hw.size.1
    have htx : (textF ws).length ≤ 6000 := by omega
    have hr1 := lexR_ok (by omega) hw1
    clear hr htl hts
    go_wp2_with fail
    refine (text_any _ ws _ hT2 (by omega) (by omega)).mono ?_
    rintro e w3 ⟨rfl, hB3⟩
    have hs3 := hB3.size
    have hG3 := hG2.later hB3
    have hBb := Lib.bytesWorld_below w3 5 (ba (textF ws))
    have hG3' := hG3.later hBb
    have hbs := Bs.bytes w3 (textF ws) _ rfl
    have hsb := hBb.size
    go_wp2_with fail
    refine (lex_any _ (textF ws) _ hbs hG3' (by omega)).mono ?_
    rintro e w4 ⟨v4, rfl, hown4, hB4⟩
    rw [hr1] at hown4 ⊢
    have hs4 := hB4.size
    have hT4 := Ts.own hown4
    have hT4' := hT4
    obtain ⟨A4, c4, rfl, _⟩ := hT4'
    have hTx4 := ((hT2.later hB3).later hBb).later hB4
    have hB24 := (hB3.trans (hBb.mono (by omega))).trans (hB4.mono (by omega))
    clear hown4 hr1 hbs hG3 hG3'
    go_wp2_with fail
    refine (same_any false _ _ ws ws1 _ hTx4 hT4 hal (by omega)).mono ?_
    rintro e w5 ⟨rfl, hB5⟩
    have hs5 := hB5.size
    have hB25 := hB24.trans (hB5.mono (by omega))
    clear hT4 hTx4 hal hw1
    go_wp2
    go_loopw [11, 12] (fun en i wr => BackRel ws w2 en i wr) (fun _ i _ => ws.length - (intOf i).toNat)
    case atStart => exact ⟨0, 0, Nat.zero_le _, rfl, rfl, by omega, fun x _ => Nat.zero_le _, hB25⟩
    case round =>
      rename_i wr
      obtain ⟨k, n, hk, rfl, rfl, hn, hpos, hnx⟩ := hrel
      have hsz := hnx.size
      by_cases hlt : k < ws.length
      · obtain ⟨x, hx⟩ : ∃ x, ws[k]? = some x := ⟨_, List.getElem?_eq_getElem hlt⟩
        have hxm := List.mem_of_getElem? hx
        obtain ⟨g, o, hA2, hcells⟩ := hcell2 (by omega)
        subst hA2
        obtain ⟨x0, x1, x2, x3⟩ := (hT2.later hnx).at_ hx
        obtain ⟨_, q1, q2, q3, q4, q5, q6⟩ := hw.stands x hxm
        have hpx := hpos x hx
        have hxs := ba_size x.t
        have hxt : 0 < x.t.length := List.length_pos_iff.2 q5
        obtain ⟨aL, hAL, _⟩ : ∃ aL : Addr, A = some aL ∧ True := by
          obtain ⟨_, _, hv1, _, hcb⟩ := hb1
          obtain ⟨aL, h4, _⟩ := hcb (by omega)
          injection hv1 with hA
          exact ⟨aL, by rw [hA, h4], trivial⟩
        subst hAL
        have hpart := ((hb1.later (hB1.trans (hB2.mono hs1))).later hnx).part x.pos x.t.length (c - x.pos) (by omega) (by omega)
        rw [Nat.sub_zero] at q2
        rw [q2] at hpart
        have hconv : ∀ (m : Nat) (o : Obj), (convert 22 9 (.slice (some (aL.add x.pos)) (ba x.t).size (c - x.pos))).run Tryd.prog ((wr.alloc o).drewN m) = .ok (.string (ba x.t)) ((wr.alloc o).drewN m) :=
          fun m o => by rw [hxs]; exact conv_bs (hpart.later (bdrewN ((Below.refl _ _).alloc (Nat.le_refl _) o) m))
        have d1 : decide ((x.pos : Int) < (n : Int)) = false := by simp; omega
        have d1n : decide (x.pos < n) = false := by simp; omega
        have d2 : (ba x.t).toList.isEmpty = false := by rw [ba_toList]; simpa using q5
        have d3 : decide ((L.length : Int) < (x.pos : Int) + ((ba x.t).size : Int)) = false := by rw [hxs]; simp; omega
        have d3w : IntKind.i64.wrap ((x.pos : Int) + ((ba x.t).size : Int)) = (x.pos : Int) + ((ba x.t).size : Int) := IntWalk.i64_in _ (by omega)
        have d5 : decide ((x.k : Int) < 1) = false := by simp; omega
        have d6 : decide ((6 : Int) < (x.k : Int)) = false := by simp; omega
        have hxs2 : x.pos + (ba x.t).size ≤ L.length := by rw [hxs]; omega
        have hxs4 : ((x.pos : Int) + ((ba x.t).size : Int)) ≤ (c : Int) := by rw [hxs]; omega
        have hxs5 : (x.pos : Int) ≤ ((x.pos : Int) + ((ba x.t).size : Int)) := by omega
        have hxs6 : x.pos < c := by omega
        have hsl := slice_part (some aL) L.length c x.pos (ba x.t).size (by omega) (by omega)
        have hxs3 : 0 < (ba x.t).size := by rw [hxs]; omega
        have HN : Hid (∀ y, ws[k + 1]? = some y → x.pos + (ba x.t).size ≤ y.pos) := fun y hy => by
          have := hw.behind k x y hx hy
          rw [hxs]; exact this
        have HXS := Lib.hid hxs
        have HT := Lib.hid hT2
        have HX := Lib.hid hx
        have HP := Lib.hid hpos
        clear hx hxs hT2 hpart hcells hpos q2 hxm hcell2
        by_cases hk1 : x.k = 1
        · have d7 : ((x.k : Int) == 1) = true := by simp; omega
          have d7' : ((x.k : Int) != 1) = false := by simp; omega
          clear hk1 q6
          go_wp2
          go_quiet (fail)
          go_wp2
          go_roundw
          case rel => first | exact ⟨k + 1, x.pos + (ba x.t).size, by omega, by go_num, by go_num, by omega, HN.out, bdrewN (hnx.alloc (by omega) _) _⟩ | ((repeat apply Exists.intro); exact ⟨⟨k + 1, x.pos + (ba x.t).size, by omega, by go_num, by go_num, by omega, HN.out, bdrewN (hnx.alloc (by omega) _) _⟩, rfl⟩)
          case measure => simp [intOf] <;> omega
        · have d7 : ((x.k : Int) == 1) = false := by simp; omega
          have d7' : ((x.k : Int) != 1) = true := by simp; omega
          have hxn := q6 hk1
          have d8 : ((x.n : Int) == 0) = true := by simp; omega
          have d8' : ((x.n : Int) != 0) = false := by simp; omega
          clear hk1 q6 hxn
          go_wp2
          go_quiet (fail)
          go_wp2
          go_roundw
          case rel => first | exact ⟨k + 1, x.pos + (ba x.t).size, by omega, by go_num, by go_num, by omega, HN.out, bdrewN (hnx.alloc (by omega) _) _⟩ | ((repeat apply Exists.intro); exact ⟨⟨k + 1, x.pos + (ba x.t).size, by omega, by go_num, by go_num, by omega, HN.out, bdrewN (hnx.alloc (by omega) _) _⟩, rfl⟩)
          case measure => simp [intOf] <;> omega
      · go_wp2
        go_ret
        exact ⟨rfl, (hB1.trans (hB2.mono hs1)).trans (hnx.mono (by omega))⟩
  · have hp := hw.err_lt
    rw [hr] at hown2 ⊢
    obtain ⟨A2, c2, rfl⟩ := (Ts.own hown2).nil_of
    clear hown2
    have hp2 : p < L.length := by omega
    go_wp2
    go_ret
    exact ⟨rfl, hB1.trans (hB2.mono hs1)⟩
end Go.Proofs.YtgffhjcnfjgpnaaDoor
