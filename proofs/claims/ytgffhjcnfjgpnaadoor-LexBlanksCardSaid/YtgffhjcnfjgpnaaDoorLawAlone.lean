/- The walk of the law LexAlone. -/
import Derived.Test.YtgffhjcnfjgpnaaDoorPureC
import Derived.Test.YtgffhjcnfjgpnaaDoorLawCuts
import Derived.Lib.AtoiErrMem
namespace Go.Proofs.YtgffhjcnfjgpnaaDoor
open Go.RowKit

theorem conv_sb (s : ByteArray) (w : World) : (convert 9 22 (.string s)).run Tryd.prog w = .ok (.slice (some ⟨w.heap.size, 0, none⟩) s.size (grownCap w s.size 0 5)) (Lib.bytesWorld w 5 s) :=
  Lib.run_convert_string_bytes w 9 22 5 s Tryd.underlying9 Tryd.underlying22 Tryd.underlying5
theorem Bs.bytes (w : World) (l : List UInt8) (n : Nat) (hn : n = (ba l).size) : Bs (Lib.bytesWorld w 5 (ba l)) (.slice (some ⟨w.heap.size, 0, none⟩) n (grownCap w n 0 5)) l := by
  subst hn
  have hs := ba_size l
  refine ⟨_, _, by rw [hs], by have h1 := grownCap_ge w (ba l).size 0 5; have h2 := grownCap_ge w l.length 0 5; omega, fun _ => ⟨_, rfl, fun j hj => ?_⟩⟩
  have e : (⟨w.heap.size, 0, none⟩ : Addr).add j = ⟨w.heap.size, j, none⟩ := by unfold Addr.add; split <;> simp_all
  rw [e, Lib.bytesWorld_cell w 5 (ba l) j (by omega), ba_list]
  simp [List.getD, List.getElem?_eq_getElem hj]
theorem Ts.sub {w : World} {g o n c : Nat} {ws : List Lx.Tk} (h : Ts w (.slice (some ⟨g, o, none⟩) n c) ws) {k : Nat} {x : Lx.Tk} (hx : ws[k]? = some x) {c' : Nat} (hc : 1 ≤ c') : Ts w (.slice (some ⟨g, o + k * 4, none⟩) 1 c') [x] := by
  obtain ⟨a0, a1, a2, a3⟩ := h.at_ hx
  refine ⟨_, c', rfl, hc, fun _ => ⟨g, o + k * 4, rfl, fun j u hj => ?_⟩⟩
  match j, hj with
  | 0, hj => simp [wordsC, tkC] at hj; subst hj; exact a0
  | 1, hj => simp [wordsC, tkC] at hj; subst hj; exact a1
  | 2, hj => simp [wordsC, tkC] at hj; subst hj; exact a2
  | 3, hj => simp [wordsC, tkC] at hj; subst hj; exact a3
  | j + 4, hj => simp [wordsC, tkC] at hj
theorem WordOK.len {x : Lx.Tk} (h : WordOK x) : (wB x).length ≤ 1000000 → lexR (wB x) = ([atPos ⟨x.k, x.t, x.n, 0⟩ 0], 0, 0) := fun hl => lexR_ok (by omega) (lexes_one x h 0)
theorem Lexes.size {p : Nat} {l : List UInt8} {ws : List Lx.Tk} {r : Option Nat} (h : Lexes p l ws r) : (ws.map fun x => (wB x).length + 1).sum ≤ 2 * l.length ∧ ∀ x ∈ ws, (wB x).length ≤ l.length := by
  induction h with
  | done => simp
  | err => simp
  | word p l x m ws r h hr ih =>
    have hb := firstF_bound h
    have hm := (first_ok h (p + sk l)).2
    simp only [List.length_drop] at hb ih
    obtain ⟨i1, i2⟩ := ih
    have e : wB (atPos x (p + sk l)) = wB x := rfl
    simp only [List.map_cons, List.sum_cons, List.mem_cons]
    rw [e]
    refine ⟨by omega, fun y hy => ?_⟩
    rcases hy with rfl | hy
    · rw [e]; omega
    · have := i2 y hy; omega
theorem textF_len (ws : List Lx.Tk) : (textF ws).length ≤ (ws.map fun x => (wB x).length + 1).sum := by
  cases ws with
  | nil => simp [textF]
  | cons x r =>
    simp only [textF, List.length_append, List.length_flatMap, List.map_cons, List.sum_cons, List.length_cons]
    omega

theorem alike_back (x : Lx.Tk) (q : Nat) : AlikeL false [atPos ⟨x.k, x.t, x.n, 0⟩ q] [x] := ⟨rfl, fun i a b ha hb => by
  cases i with
  | zero => simp at ha hb; subst ha hb; exact ⟨rfl, rfl, rfl, fun h => by cases h⟩
  | succ i => simp at ha⟩
def AloneRel (ws : List Lx.Tk) (w2 : World) (i : Value) (wr : World) : Prop := ∃ k : Nat, k ≤ ws.length ∧ i = .int .i64 k ∧ Below w2.heap.size w2 wr
set_option maxRecDepth 100000 in
set_option maxHeartbeats 2000000 in
theorem alone_any (v : Value) (l : List UInt8) (w : World) (hb : Bs w v l) (hG : Good w) (hl : l.length ≤ 140737488351232) :
    Calls Tryd.prog 7 #[v] w (Yes w) := by
  have hb0 := hb
  obtain ⟨A, c, rfl, hlc, hcell⟩ := hb
  clear hcell
  have hm := min_len l 2000
  have hb1 := hb0.cut 2000
  have hL : (l.take 2000).length ≤ 2000 := by rw [List.length_take]; omega
  have hLc : (l.take 2000).length ≤ c := by rw [List.length_take]; omega
  generalize l.take 2000 = L at hm hb1 hL hLc
  have HM := Lib.hid hm
  clear hm hb0
  have hl0 : (0:Int) ≤ (l.length : Int) := by omega
  have hcv := conv_sb
  go_enter Tryd.func7, Tryd.ntmps7
  go_wp2_with fail
  refine (shown_any _ hG).mono ?_
  rintro e w1 ⟨rfl, hB1⟩
  have hG1 := hG.later hB1
  have hs1 := hB1.size
  go_wp2_with fail
  rw [show ((2000 : Int)) = ((2000 : Nat) : Int) from rfl, HM.out]
  refine (lex_any _ L _ (hb1.later hB1) hG1 (by omega)).mono ?_
  rintro e w2 ⟨v2, rfl, hown2, hB2⟩
  have hs2 := hB2.size
  have hG2 := hG1.later hB2
  rcases lexR_cases L (by omega) with ⟨ws, hr, hw⟩ | ⟨ws, p, hr, hw⟩
  · rw [hr] at hown2 ⊢
    have hT2 := Ts.own hown2
    clear hown2
    have hcnt := hw.count
    have hT2' := hT2
    obtain ⟨A2, c2, rfl, hc2, hcell2⟩ := hT2'
    clear hr
    go_wp2
    go_loopw [7] (fun i wr => AloneRel ws w2 i wr) (fun i _ => ws.length - (intOf i).toNat)
    case atStart => exact ⟨0, Nat.zero_le _, rfl, Below.refl _ _⟩
    case round =>
      rename_i wr
      obtain ⟨k, hk, rfl, hnx⟩ := hrel
      have hsz := hnx.size
      by_cases hlt : k < ws.length
      · obtain ⟨x, hx⟩ : ∃ x, ws[k]? = some x := ⟨_, List.getElem?_eq_getElem hlt⟩
        have hxm := List.mem_of_getElem? hx
        obtain ⟨g, o, hA2, _⟩ := hcell2 (by omega)
        subst hA2
        have hTx := (hT2.later hnx).sub hx (c' := c2 - k) (by omega)
        have hok := hw.ok x hxm
        have hxl := hw.size.2 x hxm
        have hlex := hok.len (by omega)
        have htx : textF [x] = wB x := by simp [textF]
        have hkc : k < c2 := by omega
        clear hx hxm
        go_wp2_with fail
        refine (text_any _ [x] _ hTx (by rw [htx]; omega) (by simp)).mono ?_
        rintro e w3 ⟨rfl, hB3⟩
        rw [htx]
        have hs3 := hB3.size
        have hBb := Lib.bytesWorld_below w3 5 (ba (wB x))
        have hsb := hBb.size
        have hG3 := ((hG2.later hnx).later hB3).later hBb
        have hbs := Bs.bytes w3 (wB x) _ rfl
        go_wp2_with fail
        refine (lex_any _ (wB x) _ hbs hG3 (by omega)).mono ?_
        rintro e w4 ⟨v4, rfl, hown4, hB4⟩
        rw [hlex] at hown4 ⊢
        have hs4 := hB4.size
        have hT4 := Ts.own hown4
        have hT4' := hT4
        obtain ⟨g4, o4, c4, hv4, _⟩ := hT4'.form (by simp)
        subst hv4
        have hTx4 := ((hTx.later hB3).later hBb).later hB4
        obtain ⟨_, _, _, y3⟩ := hT4.at_ (i := 0) (x := atPos ⟨x.k, x.t, x.n, 0⟩ 0) rfl
        simp only [atPos, Nat.zero_mul, Nat.add_zero, Int.cast_ofNat_Int] at y3
        clear hown4 hlex hbs hG3
        go_wp2_with fail
        refine (same_any false _ _ _ [x] _ hT4 hTx4 (alike_back x 0) (by simp)).mono ?_
        rintro e w5 ⟨rfl, hB5⟩
        have hN := (((hnx.trans (hB3.mono hsz)).trans (hBb.mono (by omega))).trans (hB4.mono (by omega))).trans (hB5.mono (by omega))
        clear hT4 hT4' hTx4 hTx
        go_wp2
        go_roundw
        case rel => first | exact ⟨k + 1, by omega, by go_num, hN⟩ | ((repeat apply Exists.intro); exact ⟨⟨k + 1, by omega, by go_num, hN⟩, rfl⟩)
        case measure => simp [intOf] <;> omega
      · go_wp2
        go_ret
        exact ⟨rfl, (hB1.trans (hB2.mono hs1)).trans (hnx.mono (by omega))⟩
  · rw [hr] at hown2 ⊢
    obtain ⟨A2, c2, rfl⟩ := (Ts.own hown2).nil_of
    clear hown2
    go_wp2
    go_ret
    exact ⟨rfl, hB1.trans (hB2.mono hs1)⟩
end Go.Proofs.YtgffhjcnfjgpnaaDoor
