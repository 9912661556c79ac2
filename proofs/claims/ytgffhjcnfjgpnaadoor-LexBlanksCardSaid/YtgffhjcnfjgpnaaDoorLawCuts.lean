/- The walk of the law LexCuts. -/
import Derived.Test.YtgffhjcnfjgpnaaDoorPureB
import Derived.Test.YtgffhjcnfjgpnaaDoorWalkW
namespace Go.Proofs.YtgffhjcnfjgpnaaDoor
open Go.RowKit

/-- The law answers true; nothing that was there has turned. -/
def Yes (w : World) (e : Ending) (w' : World) : Prop := e = .returned (.bool true) ∧ Below w.heap.size w w'
theorem Bs.later {w w' : World} {v : Value} {l : List UInt8} (h : Bs w v l) (hb : Below w.heap.size w w') : Bs w' v l := by
  obtain ⟨A, c, h1, h2, h3⟩ := h
  refine ⟨A, c, h1, h2, fun h0 => ?_⟩
  obtain ⟨a, h4, h5⟩ := h3 h0
  exact ⟨a, h4, fun j hj => (hb.cell (World.block_lt_of_cell? w _ (h5 j hj))).trans (h5 j hj)⟩
theorem Bs.cut {w : World} {A : Option Addr} {c : Nat} {l : List UInt8} {n : Nat} (h : Bs w (.slice A n c) l) (k : Nat) : Bs w (.slice A (l.take k).length c) (l.take k) := by
  obtain ⟨A', c', h1, h2, h3⟩ := h
  injection h1 with hA hn hc
  subst hA hc
  refine ⟨A, c, rfl, by rw [List.length_take]; omega, fun h0 => ?_⟩
  obtain ⟨a, h4, h5⟩ := h3 (by rw [List.length_take] at h0; omega)
  refine ⟨a, h4, fun j hj => ?_⟩
  rw [h5 j (by rw [List.length_take] at hj; omega), List.getElem_take]
theorem min_len (l : List UInt8) (n : Nat) : (min (l.length : Int) (n : Int)).toNat = (l.take n).length := by rw [List.length_take]; omega
theorem Ts.nil_of {w : World} {v : Value} (h : Ts w v []) : ∃ A c, v = .slice A 0 c := by
  obtain ⟨A, c, h1, _⟩ := h
  exact ⟨A, c, h1⟩

theorem and_mask (a : Int) (m : Nat) (hm : m < 9223372036854775808) : ∃ n : Nat, n ≤ m ∧ bits .and .i64 a (m : Int) = (n : Int) := by
  have h2 : (BitVec.ofInt 64 (m : Int)).toNat = m := by
    rw [BitVec.ofInt_natCast, BitVec.toNat_ofNat]; exact Nat.mod_eq_of_lt (by omega)
  have hle : (BitVec.ofInt 64 a &&& BitVec.ofInt 64 (m : Int)).toNat ≤ m := by
    rw [BitVec.toNat_and, h2]; exact Nat.and_le_right
  refine ⟨(BitVec.ofInt 64 a &&& BitVec.ofInt 64 (m : Int)).toNat, hle, ?_⟩
  show IntKind.i64.wrap ((BitVec.ofInt 64 a &&& BitVec.ofInt 64 (m : Int)).toNat : Int) = _
  exact IntWalk.i64_in _ (by omega)
theorem Ts.cut {w : World} {g o n c : Nat} {ws : List Lx.Tk} (h : Ts w (.slice (some ⟨g, o, none⟩) n c) ws) {k : Nat} (hk : k ≤ ws.length) : Ts w (.slice (some ⟨g, o, none⟩) k c) (ws.take k) := by
  obtain ⟨A, c', h1, h2, h3⟩ := h
  injection h1 with hA hn hc
  subst hc
  refine ⟨some ⟨g, o, none⟩, c, by rw [List.length_take]; congr 1; omega, by rw [List.length_take]; omega, fun h0 => ?_⟩
  obtain ⟨g', o', h4, h5⟩ := h3 (by rw [List.length_take] at h0; omega)
  rw [← hA] at h4
  injection h4 with h4
  injection h4 with hg ho _
  subst hg ho
  refine ⟨g, o, rfl, fun j u hj => h5 j u ?_⟩
  have e : wordsC ws = wordsC (ws.take k) ++ wordsC (ws.drop k) := by
    unfold wordsC; rw [← List.flatMap_append, List.take_append_drop]
  rw [e, List.getElem?_append_left (List.getElem?_eq_some_iff.1 hj).1]
  exact hj
theorem AlikeL.refl (p : Bool) (l : List Lx.Tk) : AlikeL p l l := ⟨rfl, fun i x y h1 h2 => by
  rw [h1] at h2; cases h2; exact ⟨rfl, rfl, rfl, fun _ => rfl⟩⟩
theorem Lexes.pos_le {p : Nat} {l : List UInt8} {ws : List Lx.Tk} {r : Option Nat} (h : Lexes p l ws r) : ∀ x ∈ ws, x.pos ≤ p + l.length := by
  induction h with
  | done => simp
  | err => simp
  | word p l x m ws r h hr ih =>
    intro y hy
    have hb := firstF_bound h
    simp only [List.length_drop] at hb
    simp only [List.mem_cons] at hy
    rcases hy with rfl | hy
    · show p + sk l ≤ _; omega
    · have := ih y hy; simp only [List.length_drop] at this; omega
theorem Lexes.count {p : Nat} {l : List UInt8} {ws : List Lx.Tk} {r : Option Nat} (h : Lexes p l ws r) : ws.length ≤ l.length := by
  induction h with
  | done => simp
  | err => simp
  | word p l x m ws r h hr ih =>
    have hb := firstF_bound h
    simp only [List.length_drop] at hb ih
    simp only [List.length_cons]; omega

set_option maxRecDepth 100000 in
set_option maxHeartbeats 1000000 in
theorem cuts_any (v : Value) (l : List UInt8) (at_ : Int) (w : World) (hb : Bs w v l) (hG : Good w) (hl : l.length ≤ 140737488351232) :
    Calls Tryd.prog 8 #[v, .int .i64 at_] w (Yes w) := by
  have hb0 := hb
  obtain ⟨A, c, rfl, hlc, hcell⟩ := hb
  clear hcell
  have hm := min_len l 1000
  have hb1 := hb0.cut 1000
  have hL : (l.take 1000).length ≤ 1000 := by rw [List.length_take]; omega
  have hLc : (l.take 1000).length ≤ c := by rw [List.length_take]; omega
  generalize l.take 1000 = L at hm hb1 hL hLc
  have HM := Lib.hid hm
  clear hm hb0
  have hl0 : (0:Int) ≤ (l.length : Int) := by omega
  go_enter Tryd.func8, Tryd.ntmps8
  go_wp2_with fail
  refine (shown_any _ hG).mono ?_
  rintro e w1 ⟨rfl, hB1⟩
  have hG1 := hG.later hB1
  have hs1 := hB1.size
  go_wp2_with fail
  rw [show ((1000 : Int)) = ((1000 : Nat) : Int) from rfl, HM.out]
  refine (lex_any _ L _ (hb1.later hB1) hG1 (by omega)).mono ?_
  rintro e w2 ⟨v2, rfl, hown2, hB2⟩
  have hs2 := hB2.size
  rcases lexR_cases L (by omega) with ⟨ws, hr, hw⟩ | ⟨ws, p, hr, hw⟩
  · rw [hr] at hown2 ⊢
    have hT2 := Ts.own hown2
    clear hown2
    cases hws : ws with
    | nil =>
      subst hws
      obtain ⟨A2, c2, rfl⟩ := hT2.nil_of
      go_wp2
      go_ret
      exact ⟨rfl, hB1.trans (hB2.mono hs1)⟩
    | cons x0 r =>
      have h0 : 0 < ws.length := by rw [hws]; simp
      clear hws
      obtain ⟨g, o, c2, hv2, hc2⟩ := hT2.form h0
      subst hv2
      have hne : ((ws.length : Int) == 0) = false := by simp only [beq_eq_false_iff_ne, ne_eq]; omega
      have hcnt := hw.count
      obtain ⟨n, hn, hbits⟩ := and_mask at_ 65535 (by decide)
      have htm : (bits .and .i64 at_ 65535).tmod (ws.length : Int) = ((n % ws.length : Nat) : Int) := by
        rw [show (65535 : Int) = ((65535 : Nat) : Int) from rfl, hbits]
        rfl
      have hk : n % ws.length < ws.length := Nat.mod_lt _ h0
      clear hbits hn
      generalize n % ws.length = k at htm hk
      obtain ⟨x, hx⟩ : ∃ x, ws[k]? = some x := ⟨_, List.getElem?_eq_getElem hk⟩
      obtain ⟨_, _, _, x3⟩ := hT2.at_ hx
      have hp : x.pos ≤ L.length := by have := hw.pos_le x (List.mem_of_getElem? hx); omega
      have HX := Lib.hid hx
      clear hx
      go_wp2_with fail
      have hcut := (hw.cut k x HX.out)
      rw [Nat.sub_zero] at hcut
      have hlex := lexR_ok (by rw [List.length_take]; omega) hcut
      have hbs := ((hb1.later hB1).later hB2).cut x.pos
      rw [List.length_take, Nat.min_eq_left hp] at hbs
      refine (lex_any _ (L.take x.pos) _ hbs (hG1.later hB2) (by rw [List.length_take]; omega)).mono ?_
      rintro e w3 ⟨v3, rfl, hown3, hB3⟩
      rw [hlex] at hown3 ⊢
      have hT3 := Ts.own hown3
      have hTk := (hT2.later hB3).cut (Nat.le_of_lt hk)
      have hs3 := hB3.size
      have hKl : (ws.take k).length ≤ 1000 := by rw [List.length_take]; omega
      clear hown3 hcut hlex hbs
      generalize ws.take k = K at hT3 hTk hKl ⊢
      have hT3' := hT3
      obtain ⟨A3, c3, rfl, _⟩ := hT3'
      go_wp2_with fail
      refine (same_any true _ _ K K _ hT3 hTk (AlikeL.refl _ _) (by omega)).mono ?_
      rintro e w4 ⟨rfl, hB4⟩
      go_wp2
      go_ret
      exact ⟨rfl, ((hB1.trans (hB2.mono hs1)).trans (hB3.mono (by omega))).trans (hB4.mono (by omega))⟩
  · rw [hr] at hown2 ⊢
    obtain ⟨A2, c2, rfl⟩ := (Ts.own hown2).nil_of
    clear hown2
    go_wp2
    go_ret
    exact ⟨rfl, hB1.trans (hB2.mono hs1)⟩
end Go.Proofs.YtgffhjcnfjgpnaaDoor
