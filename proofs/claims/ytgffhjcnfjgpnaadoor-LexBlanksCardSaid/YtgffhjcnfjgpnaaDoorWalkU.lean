/- The contract of Text. -/
import Derived.Test.YtgffhjcnfjgpnaaDoorWalkT
namespace Go.Proofs.YtgffhjcnfjgpnaaDoor
open Go.RowKit

/-- A slice of words. -/
def Ts (w : World) (v : Value) (ws : List Lx.Tk) : Prop :=
  ∃ A c, v = .slice A ws.length c ∧ ws.length ≤ c ∧ (0 < ws.length → ∃ g o, A = some ⟨g, o, none⟩ ∧ ∀ j u, (wordsC ws)[j]? = some u → w.cell? ⟨g, o + j, none⟩ = some u)
theorem Ts.later {w w' : World} {v : Value} {ws : List Lx.Tk} (h : Ts w v ws) (hb : Below w.heap.size w w') : Ts w' v ws := by
  obtain ⟨A, c, h1, h2, h3⟩ := h
  refine ⟨A, c, h1, h2, fun h => ?_⟩
  obtain ⟨g, o, h4, h5⟩ := h3 h
  exact ⟨g, o, h4, fun j u hj => (hb.cell (p := ⟨g, o + j, none⟩) (World.block_lt_of_cell? w _ (h5 j u hj))).trans (h5 j u hj)⟩
theorem words_at (ws : List Lx.Tk) : ∀ (i : Nat) (x : Lx.Tk), ws[i]? = some x → (wordsC ws)[i * 4]? = some (.int .i64 (x.k : Int)) ∧ (wordsC ws)[i * 4 + 1]? = some (.string (ba x.t)) ∧ (wordsC ws)[i * 4 + 2]? = some (.int .i64 (x.n : Int)) ∧ (wordsC ws)[i * 4 + 3]? = some (.int .i64 (x.pos : Int)) := by
  induction ws with
  | nil => intro i x h; simp at h
  | cons y r ih =>
    intro i x h
    have e : wordsC (y :: r) = tkC y ++ wordsC r := rfl
    match i, h with
    | 0, h => simp at h; subst h; simp [e, tkC]
    | i + 1, h =>
      have := ih i x (by simpa using h)
      have hl : (tkC y).length = 4 := rfl
      rw [e, List.getElem?_append_right (by rw [hl]; omega), List.getElem?_append_right (by rw [hl]; omega), List.getElem?_append_right (by rw [hl]; omega), List.getElem?_append_right (by rw [hl]; omega), hl,
        show (i + 1) * 4 - 4 = i * 4 by omega, show (i + 1) * 4 + 1 - 4 = i * 4 + 1 by omega, show (i + 1) * 4 + 2 - 4 = i * 4 + 2 by omega, show (i + 1) * 4 + 3 - 4 = i * 4 + 3 by omega]
      exact this
theorem Ts.at_ {w : World} {ws : List Lx.Tk} {g o c n : Nat} (h : Ts w (.slice (some ⟨g, o, none⟩) n c) ws) {i : Nat} {x : Lx.Tk} (hx : ws[i]? = some x) :
    w.cell? ⟨g, o + i * 4, none⟩ = some (.int .i64 (x.k : Int)) ∧ w.cell? ⟨g, o + i * 4 + 1, none⟩ = some (.string (ba x.t)) ∧ w.cell? ⟨g, o + i * 4 + 2, none⟩ = some (.int .i64 (x.n : Int)) ∧ w.cell? ⟨g, o + i * 4 + 3, none⟩ = some (.int .i64 (x.pos : Int)) := by
  obtain ⟨A, c', h1, h2, h3⟩ := h
  have hi : i < ws.length := (List.getElem?_eq_some_iff.1 hx).1
  obtain ⟨g', o', h4, h5⟩ := h3 (by omega)
  injection h1 with hA _ _
  rw [h4] at hA
  injection hA with hA
  injection hA with hg ho _
  subst hg ho
  obtain ⟨a1, a2, a3, a4⟩ := words_at ws i x hx
  exact ⟨h5 _ _ a1, h5 _ _ a2, h5 _ _ a3, h5 _ _ a4⟩
theorem Ts.form {w : World} {v : Value} {ws : List Lx.Tk} (h : Ts w v ws) (h0 : 0 < ws.length) : ∃ g o c, v = .slice (some ⟨g, o, none⟩) ws.length c ∧ ws.length ≤ c := by
  obtain ⟨A, c, h1, h2, h3⟩ := h
  obtain ⟨g, o, h4, _⟩ := h3 h0
  exact ⟨g, o, c, by rw [h1, h4], h2⟩

/-- A word as it is written. -/
def wB (x : Lx.Tk) : List UInt8 := if x.k = 6 then x.t ++ [33] else x.t
def textF : List Lx.Tk → List UInt8
  | [] => []
  | x :: r => wB x ++ r.flatMap fun y => 32 :: wB y
theorem textF_snoc (l : List Lx.Tk) (x : Lx.Tk) : textF (l ++ [x]) = (if l = [] then [] else textF l ++ [32]) ++ wB x := by
  cases l with
  | nil => simp [textF]
  | cons y r => simp [textF]
theorem take_snoc (ws : List Lx.Tk) (i : Nat) (x : Lx.Tk) (h : ws[i]? = some x) : ws.take (i + 1) = ws.take i ++ [x] := by
  obtain ⟨hi, rfl⟩ := List.getElem?_eq_some_iff.1 h
  rw [List.take_succ_eq_append_getElem hi]
theorem textF_take_le (ws : List Lx.Tk) (i : Nat) : (textF (ws.take i)).length ≤ (textF ws).length := by
  cases ws with
  | nil => simp [textF]
  | cons y r =>
    cases i with
    | zero => simp [textF]
    | succ i =>
      simp only [List.take_succ_cons, textF, List.length_append, List.length_flatMap]
      have : ((r.take i).map fun y => (32 :: wB y).length).sum ≤ (r.map fun y => (32 :: wB y).length).sum := by
        have h2 : (r.map fun y => (32 :: wB y).length).sum = ((r.take i).map fun y => (32 :: wB y).length).sum + ((r.drop i).map fun y => (32 :: wB y).length).sum := by
          rw [← List.sum_append, ← List.map_append, List.take_append_drop]
        omega
      omega

theorem writeByte_at (B b : Nat) (l : List UInt8) (c : UInt8) (i : Int) (hi : (c.toNat : Int) = i) (w : World) (h : Bld w B b l) (hlen : l.length + 1 ≤ 140737488355328) (hBw : B ≤ w.heap.size) :
    Calls Tryd.prog 17 #[.pointer (some ⟨b, 0, none⟩), .int .u8 i] w (WbEnd w B b (l ++ [c]) .nilIface) := by
  subst hi; exact writeByte_any B b l c w h hlen hBw
theorem bld_lt {w : World} {B b : Nat} {l : List UInt8} (h : Bld w B b l) : b < w.heap.size := by
  rcases h with h | h <;> exact h.lt
def TextEnd (ws : List Lx.Tk) (w : World) (e : Ending) (w' : World) : Prop := e = .returned (.string (ba (textF ws))) ∧ Below w.heap.size w w'
def TextRel (ws : List Lx.Tk) (w : World) (i : Value) (wr : World) : Prop := ∃ k : Nat, k ≤ ws.length ∧ i = .int .i64 k ∧ Bld wr w.heap.size w.heap.size (textF (ws.take k)) ∧ Below w.heap.size w wr
set_option maxRecDepth 100000 in
set_option maxHeartbeats 1500000 in
theorem text_any (v : Value) (ws : List Lx.Tk) (w : World) (h : Ts w v ws) (hlen : (textF ws).length ≤ 1000000) (hn : ws.length ≤ 1000000) :
    Calls Tryd.prog 12 #[v] w (TextEnd ws w) := by
  obtain ⟨A, c, rfl, hc, hcell⟩ := h
  go_enter Tryd.func12, Tryd.ntmps12
  go_wp2
  go_loopw [8] (fun i wr => TextRel ws w i wr) (fun i _ => ws.length - (intOf i).toNat)
  case atStart => exact ⟨0, Nat.zero_le _, rfl, Lib.fresh_isBuilder 46 5 w, (Below.refl _ _).alloc (by simp) _⟩
  case round =>
    rename_i wr
    obtain ⟨k, hk, rfl, hbld, hnx⟩ := hrel
    have hsz := hnx.size
    by_cases hlt : k < ws.length
    · obtain ⟨x, hx⟩ : ∃ x, ws[k]? = some x := ⟨_, List.getElem?_eq_getElem hlt⟩
      obtain ⟨g, o, hA, hcells⟩ := hcell (by omega)
      subst hA
      have hts : Ts wr (.slice (some ⟨g, o, none⟩) ws.length c) ws := Ts.later ⟨_, c, rfl, hc, fun _ => ⟨g, o, rfl, hcells⟩⟩ hnx
      obtain ⟨x0, x1, x2, x3⟩ := hts.at_ hx
      have hbd := textF_take_le ws (k + 1)
      have hsn := take_snoc ws k x hx
      rw [hsn, textF_snoc] at hbd
      have HSN := Lib.hid hsn
      clear hts hcells hcell hsn hx
      have hL := Lies.new wr 31 #[.int .i64 (x.k : Int), .string (ba x.t), .int .i64 (x.n : Int), .int .i64 (x.pos : Int)]
      have hB0 := hbld.alloc (.cells #[.int .i64 (x.k : Int), .string (ba x.t), .int .i64 (x.n : Int), .int .i64 (x.pos : Int)] 31)
      have hN0 := hnx.alloc (by omega) (.cells #[.int .i64 (x.k : Int), .string (ba x.t), .int .i64 (x.n : Int), .int .i64 (x.pos : Int)] 31)
      have hxs := ba_size x.t
      have hxl := ba_list x.t
      have HXS := Lib.hid hxs
      have HXL := Lib.hid hxl
      have hne : wr.heap.size ≠ w.heap.size := fun e => by
        have := bld_lt hbld
        omega
      clear hxs hxl hbld
      by_cases hs6 : x.k = 6
      · have h6 := Lib.hid hs6
        have h6' : ((x.k : Int) == 6) = true := by simp; omega
        have hwl : (wB x).length = x.t.length + 1 := by simp [wB, hs6]
        clear hs6
        by_cases hk0 : k = 0
        · have hT0 : textF (ws.take k) = [] := by subst hk0; rfl
          have hW0 : ws.take k = [] := by subst hk0; rfl
          have hkz : k ≤ 0 := by omega
          rw [if_pos hW0, List.nil_append, hwl] at hbd
          have hbd2 : (ba x.t).size ≤ 1000000 := by rw [HXS.out]; omega
          clear hk0 hwl
          have hB1 : Bld (wr.alloc (.cells #[.int .i64 (x.k : Int), .string (ba x.t), .int .i64 (x.n : Int), .int .i64 (x.pos : Int)] 31)) w.heap.size w.heap.size [] := by rw [hT0] at hB0; exact hB0
          go_wp2_with fail
          refine (writeString_any w.heap.size w.heap.size [] (ba x.t) _ hB1 (by simp; omega) (by simp <;> omega)).mono ?_
          rintro e w2 ⟨rfl, hU2, hBl2, hK2⟩
          have hL2 := hK2 _ _ _ (by decide) hne hL
          have hz2 := hBl2.size
          obtain ⟨d0, d1, d2, d3, hg⟩ := tok_cells hL2
          go_wp2_with fail
          refine (writeByte_at w.heap.size w.heap.size ([] ++ (ba x.t).data.toList) 33 33 rfl _ hU2.bld (by simp [HXL.out]; omega) (by simp at hz2; omega)).mono ?_
          rintro e w3 ⟨rfl, hU3, hBl3, hK3⟩
          go_wp2
          go_roundw
          case rel =>
            refine ⟨k + 1, by omega, by go_num, ?_, ((hN0).trans hBl2).trans hBl3⟩
            have hfin := hU3.bld
            rw [HXL.out] at hfin
            rw [HSN.out, textF_snoc, if_pos hW0, wB, if_pos h6.out]
            simpa using hfin
          case measure => simp [intOf] <;> omega
        · have hW0 : ws.take k ≠ [] := by
            intro e; have h9 := congrArg List.length e; rw [List.length_take, List.length_nil] at h9; omega
          have hkz : 0 < k := by omega
          rw [if_neg hW0, List.length_append, List.length_append, hwl] at hbd
          have hbd2 : (ba x.t).size + (textF (ws.take k)).length ≤ 1000000 := by rw [HXS.out]; simp at hbd; omega
          clear hwl
          go_wp2_with fail
          refine (writeByte_at w.heap.size w.heap.size (textF (ws.take k)) 32 32 rfl _ hB0 (by omega) (by simp <;> omega)).mono ?_
          rintro e w1 ⟨rfl, hU1, hBl1, hK1⟩
          have hL1 := hK1 _ _ _ (by decide) hne hL
          have hz1 := hBl1.size
          obtain ⟨c0, c1, c2, c3, hf⟩ := tok_cells hL1
          go_wp2_with fail
          refine (writeString_any w.heap.size w.heap.size (textF (ws.take k) ++ [32]) (ba x.t) _ hU1.bld (by simp; omega) (by simp at hz1; omega)).mono ?_
          rintro e w2 ⟨rfl, hU2, hBl2, hK2⟩
          have hL2 := hK2 _ _ _ (by decide) hne hL1
          have hz2 := hBl2.size
          obtain ⟨d0, d1, d2, d3, hg⟩ := tok_cells hL2
          go_wp2_with fail
          refine (writeByte_at w.heap.size w.heap.size ((textF (ws.take k) ++ [32]) ++ (ba x.t).data.toList) 33 33 rfl _ hU2.bld (by simp [HXL.out]; omega) (by simp at hz2 hz1; omega)).mono ?_
          rintro e w3 ⟨rfl, hU3, hBl3, hK3⟩
          go_wp2
          go_roundw
          case rel =>
            refine ⟨k + 1, by omega, by go_num, ?_, ((hN0.trans hBl1).trans hBl2).trans hBl3⟩
            have hfin := hU3.bld
            rw [HXL.out] at hfin
            rw [HSN.out, textF_snoc, if_neg hW0, wB, if_pos h6.out]
            simpa using hfin
          case measure => simp [intOf] <;> omega
      · have h6 := Lib.hid hs6
        have h6' : ((x.k : Int) == 6) = false := by simp; omega
        have hwl : (wB x).length = x.t.length := by simp [wB, hs6]
        clear hs6
        by_cases hk0 : k = 0
        · have hT0 : textF (ws.take k) = [] := by subst hk0; rfl
          have hW0 : ws.take k = [] := by subst hk0; rfl
          have hkz : k ≤ 0 := by omega
          rw [if_pos hW0, List.nil_append, hwl] at hbd
          have hbd2 : (ba x.t).size ≤ 1000000 := by rw [HXS.out]; omega
          clear hk0 hwl
          have hB1 : Bld (wr.alloc (.cells #[.int .i64 (x.k : Int), .string (ba x.t), .int .i64 (x.n : Int), .int .i64 (x.pos : Int)] 31)) w.heap.size w.heap.size [] := by rw [hT0] at hB0; exact hB0
          go_wp2_with fail
          refine (writeString_any w.heap.size w.heap.size [] (ba x.t) _ hB1 (by simp; omega) (by simp <;> omega)).mono ?_
          rintro e w2 ⟨rfl, hU2, hBl2, hK2⟩
          have hL2 := hK2 _ _ _ (by decide) hne hL
          have hz2 := hBl2.size
          obtain ⟨d0, d1, d2, d3, hg⟩ := tok_cells hL2
          go_wp2
          go_roundw
          case rel =>
            refine ⟨k + 1, by omega, by go_num, ?_, (hN0).trans hBl2⟩
            have hfin := hU2.bld
            rw [HXL.out] at hfin
            rw [HSN.out, textF_snoc, if_pos hW0, wB, if_neg h6.out]
            simpa using hfin
          case measure => simp [intOf] <;> omega
        · have hW0 : ws.take k ≠ [] := by
            intro e; have h9 := congrArg List.length e; rw [List.length_take, List.length_nil] at h9; omega
          have hkz : 0 < k := by omega
          rw [if_neg hW0, List.length_append, List.length_append, hwl] at hbd
          have hbd2 : (ba x.t).size + (textF (ws.take k)).length ≤ 1000000 := by rw [HXS.out]; simp at hbd; omega
          clear hwl
          go_wp2_with fail
          refine (writeByte_at w.heap.size w.heap.size (textF (ws.take k)) 32 32 rfl _ hB0 (by omega) (by simp <;> omega)).mono ?_
          rintro e w1 ⟨rfl, hU1, hBl1, hK1⟩
          have hL1 := hK1 _ _ _ (by decide) hne hL
          have hz1 := hBl1.size
          obtain ⟨c0, c1, c2, c3, hf⟩ := tok_cells hL1
          go_wp2_with fail
          refine (writeString_any w.heap.size w.heap.size (textF (ws.take k) ++ [32]) (ba x.t) _ hU1.bld (by simp; omega) (by simp at hz1; omega)).mono ?_
          rintro e w2 ⟨rfl, hU2, hBl2, hK2⟩
          have hL2 := hK2 _ _ _ (by decide) hne hL1
          have hz2 := hBl2.size
          obtain ⟨d0, d1, d2, d3, hg⟩ := tok_cells hL2
          go_wp2
          go_roundw
          case rel =>
            refine ⟨k + 1, by omega, by go_num, ?_, (hN0.trans hBl1).trans hBl2⟩
            have hfin := hU2.bld
            rw [HXL.out] at hfin
            rw [HSN.out, textF_snoc, if_neg hW0, wB, if_neg h6.out]
            simpa using hfin
          case measure => simp [intOf] <;> omega
    · have hke : ws.take k = ws := List.take_of_length_le (by omega)
      rw [hke] at hbld
      clear hke
      go_wp2_with (go_at_call 19; refine (Tryd.Builder_String_any w.heap.size w.heap.size (textF ws) _ hbld (by omega)).mono ?_; rintro e w' ⟨rfl, hw⟩)
      go_ret
      exact ⟨rfl, hnx.trans hw⟩
end Go.Proofs.YtgffhjcnfjgpnaaDoor
