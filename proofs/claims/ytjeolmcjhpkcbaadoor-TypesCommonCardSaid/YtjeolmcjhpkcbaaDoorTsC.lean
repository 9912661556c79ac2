/- The walk of the law TypesSorts. -/
import Derived.Test.YtjeolmcjhpkcbaaDoorTsB
import Derived.Outline
namespace Go.Proofs.YtjeolmcjhpkcbaaDoor
open Go.RowKit Go.Shelf Go.Sort

theorem min_len30 (l : List Str) (n : Nat) : (min (l.length : Int) (n : Int)).toNat = (l.take n).length := by rw [List.length_take]; omega
theorem Fm.cut {A : Option Addr} {n c : Nat} (h : Fm (.slice A n c)) (k : Nat) (hk : k ≤ n) : Fm (.slice A k c) := by
  rcases h with h | ⟨a, n', c', h⟩
  · injection h with h1 h2 h3
    subst h1 h2 h3
    exact .inl (by congr 1; omega)
  · injection h with h1 h2 h3
    subst h1
    exact .inr ⟨_, _, _, rfl⟩
theorem Strs.one (w : World) (s : Str) : Strs (w.alloc (.cells #[.string (ba s)] 9)) (.slice (Option.some ⟨w.heap.size, 0, none⟩) 1 1) [s] := by
  refine ⟨_, 1, rfl, Nat.le_refl _, by unfold maxLen; omega, fun _ => ⟨w.heap.size, 0, rfl, fun i x hx => ?_⟩⟩
  match i, hx with
  | 0, hx =>
    have : s = x := by simpa using hx
    subst this
    exact (Lies.new w 9 #[.string (ba s)]).cell 0
theorem strs_own {w : World} {B n : Nat} {v : Value} {ls : List Str} (h : w.ownsRow B 9 1 v n (ls.map encStr)) (hn : n = ls.length) : Strs w v ls := by
  subst hn
  rcases h.2 with ⟨h1, h2⟩ | h2
  · rw [h1, List.length_eq_zero_iff.1 h2]
    exact Strs.nil w
  · exact OwnS.strs (B := B) h2
theorem keep2 {w w' : World} {B : Nat} {v0 v1 : Value} (h : w.cell? ⟨B, 0, none⟩ = some v0 ∧ w.cell? ⟨B, 1, none⟩ = some v1) (hb : Below w.heap.size w w') : w'.cell? ⟨B, 0, none⟩ = some v0 ∧ w'.cell? ⟨B, 1, none⟩ = some v1 := by
  have K : ∀ (p : Addr) (v : Value), w.cell? p = some v → w'.cell? p = some v := fun p v hp => (hb.cell (World.block_lt_of_cell? w _ hp)).trans hp
  exact ⟨K _ _ h.1, K _ _ h.2⟩
theorem own_one (w : World) (x : Str) : (w.alloc (.cells #[.string (ba x)] 9)).ownsRow w.heap.size 9 1 (.slice (Option.some ⟨w.heap.size, 0, none⟩) 1 1) 1 ([x].map encStr) :=
  ⟨rfl, .inr ⟨w.heap.size, 1, _, rfl, Nat.le_refl _, Lies.new w 9 #[.string (ba x)], Nat.le_refl _, by unfold maxLen; omega, rfl, rfl⟩⟩
theorem own_none (w : World) {N : Nat} (hN : w.heap.size = N) : (w.alloc (.cells #[] 9)).ownsRow N 9 1 (.slice (Option.some ⟨N, 0, none⟩) 0 0) 0 (([] : List Str).map encStr) :=
  ⟨rfl, .inr ⟨N, 0, _, rfl, Nat.le_refl _, Lies.new' w 9 #[] hN, Nat.le_refl _, by unfold maxLen; omega, rfl, rfl⟩⟩
theorem strs_drop {w : World} {g n c : Nat} {ls : List Str} (h : Strs w (.slice (Option.some ⟨g, 0, none⟩) n c) ls) (k : Nat) : ∀ (j : Nat) u, ((ls.drop k).map encStr)[j]? = Option.some u → w.cell? ((⟨g, k, none⟩ : Addr).add j) = Option.some u := by
  intro j u hj
  have h2 := strs_news h (k + j) u (by rw [List.map_drop, List.getElem?_drop] at hj; exact hj)
  rw [Addr.add0] at h2 ⊢
  rw [← h2]
  congr 2
  omega
theorem own_shape {w : World} {B : Nat} {v : Value} {ls : List Str} (h : OwnS w B v ls) {n : Nat} (hn : ls.length = n) : ∃ g c, v = .slice (Option.some ⟨g, 0, none⟩) n c := by
  obtain ⟨g, cap, cur, rfl, _⟩ := h
  subst hn
  exact ⟨g, cap, rfl⟩
theorem keepS {w w' : World} {a b c : Nat} {v0 v1 v2 v3 v4 v5 : Value} (h : w.cell? ⟨a, 0, none⟩ = some v0 ∧ w.cell? ⟨a, 1, none⟩ = some v1 ∧ w.cell? ⟨b, 0, none⟩ = some v2 ∧ w.cell? ⟨b, 1, none⟩ = some v3 ∧ w.cell? ⟨c, 0, none⟩ = some v4 ∧ w.cell? ⟨c, 1, none⟩ = some v5) (hb : Below w.heap.size w w') :
    w'.cell? ⟨a, 0, none⟩ = some v0 ∧ w'.cell? ⟨a, 1, none⟩ = some v1 ∧ w'.cell? ⟨b, 0, none⟩ = some v2 ∧ w'.cell? ⟨b, 1, none⟩ = some v3 ∧ w'.cell? ⟨c, 0, none⟩ = some v4 ∧ w'.cell? ⟨c, 1, none⟩ = some v5 ∧ Below w.heap.size w w' := by
  obtain ⟨a0, a1, a2, a3, a4, a5⟩ := h
  have K : ∀ (p : Addr) (v : Value), w.cell? p = some v → w'.cell? p = some v := fun p v hp => (hb.cell (World.block_lt_of_cell? w _ hp)).trans hp
  exact ⟨K _ _ a0, K _ _ a1, K _ _ a2, K _ _ a3, K _ _ a4, K _ _ a5, hb⟩
/-- Where the loop stands that turns the labels round. -/
def BkRel (w1 : World) (L : List Str) (b i : Value) (wr : World) : Prop :=
  ∃ k : Nat, k ≤ L.length ∧ i = .int .i64 ((k : Int) - 1) ∧ wr.ownsRow w1.heap.size 9 1 b (L.length - k) ((L.drop k).reverse.map encStr) ∧ [] ∉ L.drop k ∧ Below w1.heap.size w1 wr

set_option maxRecDepth 100000 in
set_option maxHeartbeats 8000000 in
theorem typesSorts_any (v : Value) (ls : List Str) (n0 at0 : Int) (w : World) (hv : Strs w v ls) (hf : Fm v) :
    Calls Tryd.prog 8 #[v, .int .i64 n0, .int .i64 at0] w (Yes w) := by
  obtain ⟨n, hn, hb⟩ := and_mask n0 255 (by decide)
  have htn : bits .and .i64 n0 255 = ((n : Nat) : Int) := by
    rw [show (255 : Int) = ((255 : Nat) : Int) from rfl, hb]
  have hv0 := hv
  obtain ⟨A, c, rfl, hlc, hm0⟩ := hv.slice
  have hl0 : ls.length ≤ 9223372036854775807 := by unfold maxLen at hm0; omega
  have hm := min_len30 ls 30
  have hb1 := hv0.cut 30
  have hf1 := hf.cut (ls.take 30).length (by rw [List.length_take]; omega)
  have hL : (ls.take 30).length ≤ 30 := by rw [List.length_take]; omega
  have hLc : (ls.take 30).length ≤ c := by rw [List.length_take]; omega
  have hLl : (ls.take 30).length ≤ ls.length := by rw [List.length_take]; omega
  generalize ls.take 30 = L at hm hb1 hf1 hL hLc hLl
  have HM := Lib.hid hm
  have HB1 := Lib.hid hb1
  have HF1 := Lib.hid hf1
  clear hm hv0 hb hv hb1 hf hf1
  go_enter Tryd.func8, Tryd.ntmps8
  go_wp2_with fail
  refine (shown_any _).mono ?_
  rintro e w1 ⟨rfl, hB1⟩
  go_wp2_with fail
  have hM3 : min (ls.length : Int) 30 = (L.length : Int) := by have := HM.out; omega
  rw [hM3, show max (L.length : Int) 0 = (L.length : Int) by omega, Int.toNat_natCast]
  clear hM3
  go_loopw [8, 9] (fun b i wr => BkRel w1 L b i wr) (fun _ i _ => (intOf i + 1).toNat)
  case atStart => exact ⟨L.length, Nat.le_refl _, rfl, ⟨by simp, .inl ⟨rfl, by omega⟩⟩, by simp, Below.refl _ _⟩
  case round =>
    obtain ⟨k, hk, rfl, how, hne, hB⟩ := hrel
    cases k with
    | zero =>
      have hne : [] ∉ L := by simpa using hne
      have hbk : Strs wr u8 L.reverse := strs_own how (by simp)
      have hBw := hB1.trans (hB.mono hB1.size)
      have hst := HB1.out.later hBw
      have hs1 := sorted_any _ L (n : Int) wr hst (by omega)
      have HS1 := Lib.hid hs1
      have HNE := Lib.hid hne
      have HBK := Lib.hid hbk
      have HST := Lib.hid hst
      obtain ⟨Ab, mb, cb, rfl⟩ := own_slice how
      clear hs1 hne hbk hst how
      go_wp2_with fail
      refine HS1.out.mono ?_
      rintro e w2 ⟨va, rfl, ho2, hb2⟩
      obtain ⟨ga, ca, rfl⟩ := own_shape ho2 (sortS_len L)
      have hbn := below_new w2 (.cells #[.slice (some ⟨ga, 0, none⟩) L.length ca, .int .i64 (n : Int)] 25)
      have n2 := Lies.new w2 25 #[.slice (some ⟨ga, 0, none⟩) L.length ca, .int .i64 (n : Int)]
      have hs2 := sorted_any _ L.reverse (n : Int) _ ((HBK.out.later hb2).later hbn) (by simp; omega)
      have HS2 := Lib.hid hs2
      have HO2 := Lib.hid ho2
      have HBN := Lib.hid hbn
      have HN2 := Lib.hid n2
      unfold rowV
      clear hs2 ho2 hbn n2
      go_wp2_with fail
      refine HS2.out.mono ?_
      rintro e w4 ⟨vb, rfl, ho4, hb4⟩
      obtain ⟨gx, cx, rfl⟩ := own_shape ho4 (show _ = L.length by rw [sortS_len, List.length_reverse])
      have hB24 : Below w2.heap.size w2 w4 := HBN.out.trans (hb4.mono HBN.out.size)
      have hBr4 : Below wr.heap.size wr w4 := hb2.trans (hB24.mono hb2.size)
      have hbn4 := below_new w4 (.cells #[.slice (some ⟨gx, 0, none⟩) L.length cx, .int .i64 (n : Int)] 25)
      have n4 := Lies.new w4 25 #[.slice (some ⟨gx, 0, none⟩) L.length cx, .int .i64 (n : Int)]
      have hbn5 := hbn4.trans ((below_new (w4.alloc (.cells #[.slice (some ⟨gx, 0, none⟩) L.length cx, .int .i64 (n : Int)] 25)) (.cells #[] 9)).mono hbn4.size)
      have hst6 := (HST.out.later hBr4).later hbn5
      have hown6 := own_none (w4.alloc (.cells #[.slice (some ⟨gx, 0, none⟩) L.length cx, .int .i64 (n : Int)] 25)) (N := w4.heap.size + 1) (by simp)
      have HST6 := Lib.hid hst6
      have HOWN6 := Lib.hid hown6
      have HO4 := Lib.hid ho4
      have HB24 := Lib.hid hB24
      have HBN5 := Lib.hid hbn5
      have HN4 := Lib.hid n4
      clear hst6 hown6 hbn5 ho4 hB24 n4 hbn4
      unfold rowV
      rcases Nat.eq_zero_or_pos L.length with hL0 | hLp
      · have hn1 : ¬ 0 < L.length := by omega
        have hn2 : ¬ (0 : Int) < (L.length : Int) := by omega
        clear hL0
        go_wp2_with (first | (at_builtin; go_loud (refine wpList_append_strs rfl (.tmp 52) (.tmp 53) rfl (w4.heap.size + 1) _ _ [] rfl HOWN6.out _ L rfl HST6.out HF1.out (by decide) (by omega) (by simp) ?_); intro v7 w7 hown7 hgr7 hnil7 _; simp only [List.nil_append, Nat.zero_add] at hown7; obtain ⟨g7, c7, cur7, rfl, hx7⟩ := OwnS.of hown7 rfl (fun e => nomatch hnil7 e); have hS7 := OwnS.strs (B := w4.heap.size + 1) ⟨g7, c7, cur7, rfl, hx7⟩; have HS7 := Lib.hid hS7; clear hown7 hnil7 hS7 hx7))
        have hS7 := HS7.out
        have hB57 : Below (w4.heap.size + 1) (w4.alloc (.cells #[.slice (some ⟨gx, 0, none⟩) L.length cx, .int .i64 (n : Int)] 25)) w7 := ((below_new (w4.alloc (.cells #[.slice (some ⟨gx, 0, none⟩) L.length cx, .int .i64 (n : Int)] 25)) (.cells #[] 9)).mono (by simp)).grown hgr7 (by simp) (fun k e => by have e2 : some (w4.heap.size + 1) = some k := e; injection e2 with e2; omega)
        have hB47 : Below w4.heap.size w4 w7 := (below_new w4 _).trans (hB57.mono (by omega))
        have hso := sorted_any _ L (n : Int) w7 hS7 (by omega)
        have HSO := Lib.hid hso
        clear hso
        go_wp2_with fail
        refine HSO.out.mono ?_
        rintro e w11 ⟨vc, rfl, ho11, hb11⟩
        obtain ⟨gc, cc, rfl⟩ := own_shape ho11 (sortS_len L)
        have hB11 : Below w4.heap.size w4 w11 := hB47.trans (hb11.mono hB47.size)
        have n11 := Lies.new w11 25 #[.slice (some ⟨gc, 0, none⟩) L.length cc, .int .i64 (n : Int)]
        obtain ⟨w12, hw12⟩ : ∃ w12, w12 = w11.alloc (.cells #[.slice (some ⟨gc, 0, none⟩) L.length cc, .int .i64 (n : Int)] 25) := ⟨_, rfl⟩
        have hb12 : Below w11.heap.size w11 w12 := by rw [hw12]; exact below_new _ _
        rw [← hw12] at n11
        have hB12 : Below w4.heap.size w4 w12 := hB11.trans (hb12.mono hB11.size)
        have n2 := (HN2.out.later hb4).later hB12
        have n4 : Lies w12 w4.heap.size 25 #[.slice (some ⟨gx, 0, none⟩) L.length cx, .int .i64 (n : Int)] := (HN4.out.below hB57 (by omega)).later (hb11.trans (hb12.mono hb11.size))
        have sa : Strs w12 (.slice (some ⟨ga, 0, none⟩) L.length ca) (sortS L) := ((HO2.out.strs.later HB24.out).later hB12)
        have sx : Strs w12 (.slice (some ⟨gx, 0, none⟩) L.length cx) (sortS L) := by rw [← sortS_reverse]; exact HO4.out.strs.later hB12
        have sc : Strs w12 (.slice (some ⟨gc, 0, none⟩) L.length cc) (sortS L) := by exact ho11.strs.later hb12
        have hS : w12.cell? ⟨w2.heap.size, 0, none⟩ = some (.slice (some ⟨ga, 0, none⟩) L.length ca) ∧ w12.cell? ⟨w2.heap.size, 1, none⟩ = some (.int .i64 (n : Int)) ∧ w12.cell? ⟨w4.heap.size, 0, none⟩ = some (.slice (some ⟨gx, 0, none⟩) L.length cx) ∧ w12.cell? ⟨w4.heap.size, 1, none⟩ = some (.int .i64 (n : Int)) ∧ w12.cell? ⟨w11.heap.size, 0, none⟩ = some (.slice (some ⟨gc, 0, none⟩) L.length cc) ∧ w12.cell? ⟨w11.heap.size, 1, none⟩ = some (.int .i64 (n : Int)) := ⟨n2.cell 0, n2.cell 1, n4.cell 0, n4.cell 1, n11.cell 0, n11.cell 1⟩
        have hlS : (sortS L).length ≤ 1000 := by rw [sortS_len]; omega
        have hR : ∀ W, Below w12.heap.size w12 W → Calls Tryd.prog 18 #[.agg #[.slice (some ⟨ga, 0, none⟩) L.length ca, .int .i64 (n : Int)]] W fun e w' => e = .returned (.bool true) ∧ Below w12.heap.size w12 w' := fun W hW => (rightRow_any _ (sortS L) (n : Int) W (sa.later hW) (by omega)).mono fun e w' h => ⟨by rw [h.1, rowOk_sortS (by omega) HNE.out], hW.trans (h.2.mono hW.size)⟩
        have hX : ∀ W, Below w12.heap.size w12 W → Calls Tryd.prog 21 #[.agg #[.slice (some ⟨ga, 0, none⟩) L.length ca, .int .i64 (n : Int)], .agg #[.slice (some ⟨gx, 0, none⟩) L.length cx, .int .i64 (n : Int)]] W fun e w' => e = .returned (.bool true) ∧ Below w12.heap.size w12 w' := fun W hW => (sameRow_any _ _ (sortS L) (sortS L) (n : Int) (n : Int) W (sa.later hW) (sx.later hW) (by omega) (by omega)).mono fun e w' h => ⟨by rw [h.1]; simp, hW.trans (h.2.mono hW.size)⟩
        have hC : ∀ W, Below w12.heap.size w12 W → Calls Tryd.prog 21 #[.agg #[.slice (some ⟨ga, 0, none⟩) L.length ca, .int .i64 (n : Int)], .agg #[.slice (some ⟨gc, 0, none⟩) L.length cc, .int .i64 (n : Int)]] W fun e w' => e = .returned (.bool true) ∧ Below w12.heap.size w12 w' := fun W hW => (sameRow_any _ _ (sortS L) (sortS L) (n : Int) (n : Int) W (sa.later hW) (sc.later hW) (by omega) (by omega)).mono fun e w' h => ⟨by rw [h.1]; simp, hW.trans (h.2.mono hW.size)⟩
        have hG : ∀ W, Below w12.heap.size w12 W → Calls Tryd.prog 29 #[.agg #[.slice (some ⟨ga, 0, none⟩) L.length ca, .int .i64 (n : Int)]] W fun e w' => ∃ g' c', e = .returned (.agg #[.slice (some ⟨g', 0, none⟩) L.length c', .int .i64 (n : Int)]) ∧ Strs w' (.slice (some ⟨g', 0, none⟩) L.length c') (sortS L) ∧ Below w12.heap.size w12 w' := fun W hW => (sorted_any _ (sortS L) (n : Int) W (sa.later hW) hlS).mono fun e w' ⟨v', h1, h2, h3⟩ => by
          rw [sortS_idem] at h2
          obtain ⟨g', c', rfl⟩ := own_shape h2 (sortS_len L)
          exact ⟨g', c', h1, h2.strs, hW.trans (h3.mono hW.size)⟩
        have hD : ∀ W g' c', Strs W (.slice (some ⟨g', 0, none⟩) L.length c') (sortS L) → Below w12.heap.size w12 W → Calls Tryd.prog 21 #[.agg #[.slice (some ⟨g', 0, none⟩) L.length c', .int .i64 (n : Int)], .agg #[.slice (some ⟨ga, 0, none⟩) L.length ca, .int .i64 (n : Int)]] W fun e w' => e = .returned (.bool true) ∧ Below w12.heap.size w12 w' := fun W g' c' hs hW => (sameRow_any _ _ (sortS L) (sortS L) (n : Int) (n : Int) W hs (sa.later hW) (by omega) (by omega)).mono fun e w' h => ⟨by rw [h.1]; simp, hW.trans (h.2.mono hW.size)⟩
        have HS := Lib.hid hS
        have HW12 := Lib.hid hw12
        have hBend : Below w.heap.size w w12 := hBw.trans ((hBr4.trans (hB12.mono hBr4.size)).mono hBw.size)
        have HBE := Lib.hid hBend
        clear hS hw12 hBend sa sx sc n2 n4 n11 hb12 hB12 hB11 hB47 hB57 ho11 hb11 hgr7 hlS
        unfold rowV
        go_wp2
        rw [← HW12.out]
        go_region_held3 (fun w' => w'.cell? ⟨w2.heap.size, 0, none⟩ = some (.slice (some ⟨ga, 0, none⟩) L.length ca) ∧ w'.cell? ⟨w2.heap.size, 1, none⟩ = some (.int .i64 (n : Int)) ∧ w'.cell? ⟨w4.heap.size, 0, none⟩ = some (.slice (some ⟨gx, 0, none⟩) L.length cx) ∧ w'.cell? ⟨w4.heap.size, 1, none⟩ = some (.int .i64 (n : Int)) ∧ w'.cell? ⟨w11.heap.size, 0, none⟩ = some (.slice (some ⟨gc, 0, none⟩) L.length cc) ∧ w'.cell? ⟨w11.heap.size, 1, none⟩ = some (.int .i64 (n : Int)) ∧ Below w12.heap.size w12 w')
          (first | exact keepS HS.out (Below.refl _ _).drew | exact keepS HS.out b5 | exact keepS HS.out b4 | exact keepS HS.out b3 | exact keepS HS.out b2 | exact keepS HS.out b1)
          (first | (go_at_call 18; refine (hR _ (Below.refl _ _).drew).mono ?_; rintro e v1 ⟨rfl, b1⟩) | (go_at_call 29; refine (hG _ b3).mono ?_; rintro e v4 ⟨g', c', rfl, hs4, b4⟩) | (go_at_call 21; refine (hD _ _ _ (hs4.later (Below.refl _ _)) b4).mono ?_; rintro e v5 ⟨rfl, b5⟩) | (go_at_call 21; refine (hC _ b2).mono ?_; rintro e v3 ⟨rfl, b3⟩) | (go_at_call 21; refine (hX _ b1).mono ?_; rintro e v2 ⟨rfl, b2⟩))
        go_wp2
        go_ret
        exact ⟨rfl, HBE.out.trans (b5.mono HBE.out.size)⟩
      · obtain ⟨m0, hm0', hbits⟩ := and_mask at0 255 (by decide)
        have htm : (bits .and .i64 at0 255).tmod (L.length : Int) = ((m0 % L.length : Nat) : Int) := by
          rw [show (255 : Int) = ((255 : Nat) : Int) from rfl, hbits]
          rfl
        have hk2 : m0 % L.length < L.length := Nat.mod_lt _ hLp
        clear hbits hm0'
        generalize m0 % L.length = j at htm hk2
        obtain ⟨x, hx⟩ : ∃ x, L[j]? = some x := ⟨_, List.getElem?_eq_getElem hk2⟩
        have HX := Lib.hid hx
        clear hx
        go_wp2_with (first | (at_builtin; go_loud (refine wpList_append_strs rfl (.tmp 52) (.tmp 53) rfl (w4.heap.size + 1) _ _ [] rfl HOWN6.out _ L rfl HST6.out HF1.out (by decide) (by omega) (by simp) ?_); intro v7 w7 hown7 hgr7 hnil7 _; simp only [List.nil_append, Nat.zero_add] at hown7; obtain ⟨g7, c7, cur7, rfl, hx7⟩ := OwnS.of hown7 rfl (fun e => nomatch hnil7 e); have hS7 := OwnS.strs (B := w4.heap.size + 1) ⟨g7, c7, cur7, rfl, hx7⟩; have hc7 : w7.cell? ⟨g7, j, none⟩ = some (.string (ba x)) := (by obtain ⟨A', c', h1, _, _, h4⟩ := hS7; obtain ⟨g, o, h5, h6⟩ := h4 hLp; injection h1 with h1; rw [h5] at h1; injection h1 with h1; injection h1 with h1 h2 _; have := h6 j x HX.out; rw [← h1, ← h2, Nat.zero_add] at this; exact this); have HS7 := Lib.hid hS7; have HX7 := Lib.hid hx7; clear hown7 hnil7 hS7 hx7))
        have hown8 := own_one w7 x
        have hbn8 := below_new w7 (.cells #[.string (ba x)] 9)
        have hj1 : j ≤ c7 := by obtain ⟨_, _, _, _, h, _⟩ := HX7.out; omega
        have hj2 : j + 1 ≤ L.length := hk2
        have hlc7 : L.length ≤ c7 := by obtain ⟨_, _, h, _⟩ := HX7.out; omega
        have hj3 : (j : Int) + 1 ≤ (L.length : Int) := by omega
        have hj4 : (j : Int) ≤ (c7 : Int) := by omega
        have hj5 : (0 : Int) ≤ (j : Int) + 1 := by omega
        have hj6 : (L.length : Int) ≤ (c7 : Int) := by omega
        have hj7 : (0 : Int) ≤ (j : Int) := by omega
        have hj8 : IntKind.i64.wrap ((j : Int) + 1) = (j : Int) + 1 := IntWalk.i64_in _ (by omega)
        obtain ⟨ad, had⟩ : ∃ ad, (if c7 = j + 1 then some (⟨g7, 0, none⟩ : Addr) else some ⟨g7, j + 1, none⟩) = some ad ∧ (j + 1 < L.length → ad = ⟨g7, j + 1, none⟩) := by
          by_cases h : c7 = j + 1
          · exact ⟨_, by rw [if_pos h], fun h2 => by omega⟩
          · exact ⟨_, by rw [if_neg h], fun _ => rfl⟩
        have HAD := Lib.hid had
        clear had
        have HO8 := Lib.hid hown8
        have HBN8 := Lib.hid hbn8
        clear hown8 hbn8
        go_region_held3 (fun w' => Below w7.heap.size w7 w')
          (first | exact (Below.refl _ _).drew | exact HBN8.out.drew | exact hB10 | exact hB9)
          (first | (refine step_append_strs rfl (.tmp 68) (.tmp 71) rfl w7.heap.size _ 1 [x] rfl (own_later HO8.out (Below.refl _ _).drew) (by decide) ⟨g7, 0, none⟩ j c7 (L.take j) rfl (by rw [List.length_take]; omega) (strs_news (((HS7.out.cut j)).later ‹Below w7.heap.size w7 _›)) (by decide) (by rw [List.length_take]; omega) (by simp) ?_; intro g9 c9 w9 hown9 hgr8 hat8 hlt9; have hgr9 : World.grownBy (w7.alloc (.cells #[.string (ba x)] 9)) w9 (some w7.heap.size) := ⟨hgr8.os, hgr8.tape, hgr8.output, hgr8.size, hgr8.block⟩; have hB9 : Below w7.heap.size w7 w9 := HBN8.out.grown hgr9 (by simp) (fun k e => by injection e with e; omega); clear hgr8 hat8 hgr9) | (go_loud (refine step_append_strs rfl (.tmp 72) (.tmp 76) rfl w7.heap.size _ (1 + j) (x :: L.take j) rfl hown9 (by omega) ad (L.length - (j + 1)) (c7 - (j + 1)) (L.drop (j + 1)) (by exact congrArg (fun z => Value.slice z (L.length - (j + 1)) (c7 - (j + 1))) HAD.out.1) (by rw [List.length_drop]) (fun q u hq => by rw [HAD.out.2 (by have := (List.getElem?_eq_some_iff.1 hq).1; simp at this; omega)]; exact strs_drop (HS7.out.later ‹Below w7.heap.size w7 _›) (j + 1) q u hq) (by omega) (by rw [List.length_drop]; omega) (by have := hB9.size; simp; omega) ?_); intro g10 c10 w10 hown10 hgr10 _ _; have hB10 : Below w7.heap.size w7 w10 := hB9.grown hgr10 (by have := hB9.size; omega) (fun k e => (own_block hown9 k e).1)))
        rw [HAD.out.1]
        have hB57 : Below (w4.heap.size + 1) (w4.alloc (.cells #[.slice (some ⟨gx, 0, none⟩) L.length cx, .int .i64 (n : Int)] 25)) w7 := ((below_new (w4.alloc (.cells #[.slice (some ⟨gx, 0, none⟩) L.length cx, .int .i64 (n : Int)] 25)) (.cells #[] 9)).mono (by simp)).grown hgr7 (by simp) (fun k e => by have e2 : some (w4.heap.size + 1) = some k := e; injection e2 with e2; omega)
        have hB47 : Below w4.heap.size w4 w7 := (below_new w4 _).trans (hB57.mono (by omega))
        have hB410 : Below w4.heap.size w4 w10 := hB47.trans (hB10.mono hB47.size)
        have hst10 := strs_own hown10 (by simp; omega)
        have hp10 := sortS_moved HX.out
        have hl10 : (x :: L.take j ++ L.drop (j + 1)).length = L.length := by rw [← sortS_len, hp10, sortS_len]
        obtain ⟨L2, hL2⟩ : ∃ L2, L2 = x :: L.take j ++ L.drop (j + 1) := ⟨_, rfl⟩
        rw [← hL2] at hst10 hp10 hl10
        have hso := sorted_any _ L2 (n : Int) w10 hst10 (by omega)
        have HSO := Lib.hid hso
        clear hso hst10 hL2
        go_wp2_with fail
        refine HSO.out.mono ?_
        rintro e w11 ⟨vc, rfl, ho11, hb11⟩
        obtain ⟨gc, cc, rfl⟩ := own_shape ho11 (show _ = L.length by rw [hp10, sortS_len])
        have hB11 : Below w4.heap.size w4 w11 := hB410.trans (hb11.mono hB410.size)
        have n11 := Lies.new w11 25 #[.slice (some ⟨gc, 0, none⟩) L.length cc, .int .i64 (n : Int)]
        obtain ⟨w12, hw12⟩ : ∃ w12, w12 = w11.alloc (.cells #[.slice (some ⟨gc, 0, none⟩) L.length cc, .int .i64 (n : Int)] 25) := ⟨_, rfl⟩
        have hb12 : Below w11.heap.size w11 w12 := by rw [hw12]; exact below_new _ _
        rw [← hw12] at n11
        have hB12 : Below w4.heap.size w4 w12 := hB11.trans (hb12.mono hB11.size)
        have n2 := (HN2.out.later hb4).later hB12
        have n4 : Lies w12 w4.heap.size 25 #[.slice (some ⟨gx, 0, none⟩) L.length cx, .int .i64 (n : Int)] := ((HN4.out.below hB57 (by omega)).later hB10).later (hb11.trans (hb12.mono hb11.size))
        have sa : Strs w12 (.slice (some ⟨ga, 0, none⟩) L.length ca) (sortS L) := ((HO2.out.strs.later HB24.out).later hB12)
        have sx : Strs w12 (.slice (some ⟨gx, 0, none⟩) L.length cx) (sortS L) := by rw [← sortS_reverse]; exact HO4.out.strs.later hB12
        have sc : Strs w12 (.slice (some ⟨gc, 0, none⟩) L.length cc) (sortS L) := by rw [← hp10]; exact ho11.strs.later hb12
        have hS : w12.cell? ⟨w2.heap.size, 0, none⟩ = some (.slice (some ⟨ga, 0, none⟩) L.length ca) ∧ w12.cell? ⟨w2.heap.size, 1, none⟩ = some (.int .i64 (n : Int)) ∧ w12.cell? ⟨w4.heap.size, 0, none⟩ = some (.slice (some ⟨gx, 0, none⟩) L.length cx) ∧ w12.cell? ⟨w4.heap.size, 1, none⟩ = some (.int .i64 (n : Int)) ∧ w12.cell? ⟨w11.heap.size, 0, none⟩ = some (.slice (some ⟨gc, 0, none⟩) L.length cc) ∧ w12.cell? ⟨w11.heap.size, 1, none⟩ = some (.int .i64 (n : Int)) := ⟨n2.cell 0, n2.cell 1, n4.cell 0, n4.cell 1, n11.cell 0, n11.cell 1⟩
        have hlS : (sortS L).length ≤ 1000 := by rw [sortS_len]; omega
        have hR : ∀ W, Below w12.heap.size w12 W → Calls Tryd.prog 18 #[.agg #[.slice (some ⟨ga, 0, none⟩) L.length ca, .int .i64 (n : Int)]] W fun e w' => e = .returned (.bool true) ∧ Below w12.heap.size w12 w' := fun W hW => (rightRow_any _ (sortS L) (n : Int) W (sa.later hW) (by omega)).mono fun e w' h => ⟨by rw [h.1, rowOk_sortS (by omega) HNE.out], hW.trans (h.2.mono hW.size)⟩
        have hX : ∀ W, Below w12.heap.size w12 W → Calls Tryd.prog 21 #[.agg #[.slice (some ⟨ga, 0, none⟩) L.length ca, .int .i64 (n : Int)], .agg #[.slice (some ⟨gx, 0, none⟩) L.length cx, .int .i64 (n : Int)]] W fun e w' => e = .returned (.bool true) ∧ Below w12.heap.size w12 w' := fun W hW => (sameRow_any _ _ (sortS L) (sortS L) (n : Int) (n : Int) W (sa.later hW) (sx.later hW) (by omega) (by omega)).mono fun e w' h => ⟨by rw [h.1]; simp, hW.trans (h.2.mono hW.size)⟩
        have hC : ∀ W, Below w12.heap.size w12 W → Calls Tryd.prog 21 #[.agg #[.slice (some ⟨ga, 0, none⟩) L.length ca, .int .i64 (n : Int)], .agg #[.slice (some ⟨gc, 0, none⟩) L.length cc, .int .i64 (n : Int)]] W fun e w' => e = .returned (.bool true) ∧ Below w12.heap.size w12 w' := fun W hW => (sameRow_any _ _ (sortS L) (sortS L) (n : Int) (n : Int) W (sa.later hW) (sc.later hW) (by omega) (by omega)).mono fun e w' h => ⟨by rw [h.1]; simp, hW.trans (h.2.mono hW.size)⟩
        have hG : ∀ W, Below w12.heap.size w12 W → Calls Tryd.prog 29 #[.agg #[.slice (some ⟨ga, 0, none⟩) L.length ca, .int .i64 (n : Int)]] W fun e w' => ∃ g' c', e = .returned (.agg #[.slice (some ⟨g', 0, none⟩) L.length c', .int .i64 (n : Int)]) ∧ Strs w' (.slice (some ⟨g', 0, none⟩) L.length c') (sortS L) ∧ Below w12.heap.size w12 w' := fun W hW => (sorted_any _ (sortS L) (n : Int) W (sa.later hW) hlS).mono fun e w' ⟨v', h1, h2, h3⟩ => by
          rw [sortS_idem] at h2
          obtain ⟨g', c', rfl⟩ := own_shape h2 (sortS_len L)
          exact ⟨g', c', h1, h2.strs, hW.trans (h3.mono hW.size)⟩
        have hD : ∀ W g' c', Strs W (.slice (some ⟨g', 0, none⟩) L.length c') (sortS L) → Below w12.heap.size w12 W → Calls Tryd.prog 21 #[.agg #[.slice (some ⟨g', 0, none⟩) L.length c', .int .i64 (n : Int)], .agg #[.slice (some ⟨ga, 0, none⟩) L.length ca, .int .i64 (n : Int)]] W fun e w' => e = .returned (.bool true) ∧ Below w12.heap.size w12 w' := fun W g' c' hs hW => (sameRow_any _ _ (sortS L) (sortS L) (n : Int) (n : Int) W hs (sa.later hW) (by omega) (by omega)).mono fun e w' h => ⟨by rw [h.1]; simp, hW.trans (h.2.mono hW.size)⟩
        have HS := Lib.hid hS
        have HW12 := Lib.hid hw12
        have hBend : Below w.heap.size w w12 := hBw.trans ((hBr4.trans (hB12.mono hBr4.size)).mono hBw.size)
        have HBE := Lib.hid hBend
        clear hS hw12 hBend sa sx sc n2 n4 n11 hb12 hB12 hB11 hB410 hB47 hB57 ho11 hb11 hB10 hB9 hown9 hown10 hgr10 hgr7 hlS
        unfold rowV
        go_wp2
        rw [← HW12.out]
        go_region_held3 (fun w' => w'.cell? ⟨w2.heap.size, 0, none⟩ = some (.slice (some ⟨ga, 0, none⟩) L.length ca) ∧ w'.cell? ⟨w2.heap.size, 1, none⟩ = some (.int .i64 (n : Int)) ∧ w'.cell? ⟨w4.heap.size, 0, none⟩ = some (.slice (some ⟨gx, 0, none⟩) L.length cx) ∧ w'.cell? ⟨w4.heap.size, 1, none⟩ = some (.int .i64 (n : Int)) ∧ w'.cell? ⟨w11.heap.size, 0, none⟩ = some (.slice (some ⟨gc, 0, none⟩) L.length cc) ∧ w'.cell? ⟨w11.heap.size, 1, none⟩ = some (.int .i64 (n : Int)) ∧ Below w12.heap.size w12 w')
          (first | exact keepS HS.out (Below.refl _ _).drew | exact keepS HS.out b5 | exact keepS HS.out b4 | exact keepS HS.out b3 | exact keepS HS.out b2 | exact keepS HS.out b1)
          (first | (go_at_call 18; refine (hR _ (Below.refl _ _).drew).mono ?_; rintro e v1 ⟨rfl, b1⟩) | (go_at_call 29; refine (hG _ b3).mono ?_; rintro e v4 ⟨g', c', rfl, hs4, b4⟩) | (go_at_call 21; refine (hD _ _ _ (hs4.later (Below.refl _ _)) b4).mono ?_; rintro e v5 ⟨rfl, b5⟩) | (go_at_call 21; refine (hC _ b2).mono ?_; rintro e v3 ⟨rfl, b3⟩) | (go_at_call 21; refine (hX _ b1).mono ?_; rintro e v2 ⟨rfl, b2⟩))
        go_wp2
        go_ret
        exact ⟨rfl, HBE.out.trans (b5.mono HBE.out.size)⟩
    | succ k =>
      rw [show ((k + 1 : Nat) : Int) - 1 = (k : Int) by omega]
      obtain ⟨s, hs⟩ : ∃ s, L[k]? = some s := ⟨_, List.getElem?_eq_getElem (by omega)⟩
      have hsw := HB1.out
      have hfm := HF1.out
      obtain ⟨A', c', h1, _, _, h4⟩ := hsw
      obtain ⟨g, o, h5, h6⟩ := h4 (by omega)
      injection h1 with h1
      subst h1 h5
      have hcell : w.cell? ⟨g, o + k, none⟩ = some (.string (ba s)) := h6 k s hs
      have hc1 : wr.cell? ⟨g, o + k, none⟩ = some (.string (ba s)) := by
        have hlt := World.block_lt_of_cell? w _ hcell
        have hB0 := hB1.trans (hB.mono hB1.size)
        exact (hB0.cell hlt).trans hcell
      have hdr : L.drop k = s :: L.drop (k + 1) := by
        obtain ⟨h7, h8⟩ := List.getElem?_eq_some_iff.1 hs
        rw [List.drop_eq_getElem_cons h7, h8]
      by_cases hse : s = []
      · have hbs : (ba s).toList.isEmpty = true := by rw [ba_toList, hse]; rfl
        have hBw := hB1.trans (hB.mono hB1.size)
        clear h4 h6 hcell how hdr hs hse
        go_wp2
        go_ret
        exact ⟨rfl, hBw⟩
      · have hbs : (ba s).toList.isEmpty = false := by rw [ba_toList]; cases s with | nil => exact absurd rfl hse | cons _ _ => rfl
        have hst := Strs.one wr s
        obtain ⟨A8, m8, c8, rfl⟩ := own_slice how
        clear h4 h6 hcell hs
        go_wp2_with (at_builtin; go_loud (refine wpList_append_strs rfl (.tmp 35) (.tmp 40) rfl w1.heap.size _ _ _ rfl (own_later how (below_new wr (.cells #[.string (ba s)] 9))) _ [s] rfl hst (.inr ⟨_, _, _, rfl⟩) (by omega) (by simp) (by have := hB.size; rw [World.size_alloc]; omega) ?_); intro v' w3 hown3 hgr _ _)
        go_roundw
        case rel =>
          refine ⟨_, v', _, ⟨k, by omega, rfl, ?_, ?_, ?_⟩, rfl, rfl, rfl⟩
          · rw [hdr, List.reverse_cons, show L.length - k = L.length - (k + 1) + 1 by omega]; exact hown3
          · rw [hdr]; intro h; rcases List.mem_cons.1 h with h | h
            · exact hse h.symm
            · exact hne h
          · exact (hB.trans ((below_new wr _).mono hB.size)).grown hgr (by have := hB.size; rw [World.size_alloc]; omega) (fun b hb => (own_block how b hb).1)
        case measure => simp [intOf]; omega
end Go.Proofs.YtjeolmcjhpkcbaaDoor
