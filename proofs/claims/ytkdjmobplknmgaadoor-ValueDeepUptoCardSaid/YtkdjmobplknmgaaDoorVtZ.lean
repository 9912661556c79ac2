/- How many bytes a value's text has: of, within. -/
import Derived.Test.YtkdjmobplknmgaaDoorVtW
import Derived.Test.YtkdjmobplknmgaaDoorVaE
import Derived.IntWalk
namespace Go.Proofs.YtkdjmobplknmgaaDoor
open Go.RowKit

/-- Numbers are 64 bits. -/
def alN (_k n : Int) (_nm : Str) (_m : Nat) : Bool := decide (-9223372036854775808 ≤ n) && decide (n ≤ 9223372036854775807)
theorem alN_r {k n : Int} {nm : Str} {m : Nat} (h : alN k n nm m = true) : i64r n := by
  unfold alN at h
  rw [Bool.and_eq_true, decide_eq_true_eq, decide_eq_true_eq] at h
  exact h
mutual
/-- How many bytes a value's text has. -/
def lenV : Vl → Nat
  | .mk k n nm l => (wordV k n nm).length + lenL l
def lenL : List Vl → Nat
  | [] => 0
  | t :: r => lenV t + 2 + lenL r
end
theorem lenL_append : ∀ (l m : List Vl), lenL (l ++ m) = lenL l + lenL m
  | [], m => by simp [lenL]
  | x :: r, m => by
    simp only [List.cons_append, lenL, lenL_append r m]
    omega
theorem lenL_take {kids : List Vl} {q : Nat} {t : Vl} (ht : kids[q]? = some t) : lenL (kids.take (q + 1)) = lenL (kids.take q) + lenV t + 2 := by
  rw [take_step kids q t ht, lenL_append]
  simp [lenL]
  omega
theorem lenL_take_le (kids : List Vl) (q : Nat) : lenL (kids.take q) ≤ lenL kids := by
  have h := lenL_append (kids.take q) (kids.drop q)
  rw [List.take_append_drop] at h
  omega
theorem len_mem {t : Vl} : ∀ {l : List Vl}, t ∈ l → lenV t ≤ lenL l
  | [], h => by cases h
  | x :: r, h => by
    unfold lenL
    rcases List.mem_cons.1 h with rfl | h
    · omega
    · have := len_mem h
      omega
def SizeEnd (n : Nat) (w : World) (b lo hi : Nat) (L : List Addr) (e : Ending) (w' : World) : Prop :=
  ∃ (L' : List Addr), e = .returned (.int .i64 (n : Int)) ∧ KeyL w' b L' ∧ (∀ x ∈ L', x ∈ L ∨ (lo ≤ x.block ∧ x.block < hi)) ∧ Bt b w w'
/-- What calls of the two ask. -/
structure SizeAsk (t : Vl) (w : World) (b lo hi : Nat) (a : Addr) (L : List Addr) : Prop where
  map : KeyL w b L
  at_ : VA w lo hi a t
  free : ∀ x ∈ L, x.block < lo ∨ hi ≤ x.block
  tab : Tab w
  ahead : 1 < b
  num : okV alN t = true
  len : lenV t ≤ 100000000
def SizeOK (t : Vl) : Prop := ∀ (w : World) (b lo hi : Nat) (a : Addr) (L : List Addr), SizeAsk t w b lo hi a L → Calls Tryd.prog 26 #[.map (some b), .pointer (some a)] w (SizeEnd (lenV t) w b lo hi L)
def WithinOK (t : Vl) : Prop := ∀ (w : World) (b lo hi : Nat) (a : Addr) (L : List Addr), SizeAsk t w b lo hi a L → 0 < t.kids.length → Calls Tryd.prog 42 #[.map (some b), .pointer (some a)] w (SizeEnd (lenL t.kids) w b lo hi L)
theorem Tab.bt {w w' : World} {b : Nat} (h : Tab w) (hb : Bt b w w') (hne : 1 < b) (hlt : b ≤ w.heap.size) : Tab w' := h.below (hb.below (Nat.le_refl _) hlt) hne
theorem sum_v (a b : Nat) (h : a + b + 2 ≤ 100000000) : Value.int .i64 (min ((a : Int) + ((b : Int) + 2)) 2147483648) = .int .i64 ((a + b + 2 : Nat) : Int) := by
  rw [Int.min_eq_left (by omega)]
  exact congrArg (Value.int .i64) (by omega)
/-- Where the loop over the kids stands. -/
def WithRel (kids : List Vl) (w2 : World) (b lo _g : Nat) (f : Nat → Nat) (L : List Addr) (d i : Value) (wr : World) : Prop :=
  ∃ (q : Nat) (L' : List Addr), q ≤ kids.length ∧ i = .int .i64 (q : Int) ∧ d = .int .i64 ((lenL (kids.take q) : Nat) : Int) ∧ KeyL wr b L' ∧ (∀ x ∈ L', x ∈ L ∨ (lo ≤ x.block ∧ x.block < f q)) ∧ Bt b w2 wr
set_option maxRecDepth 100000 in
set_option maxHeartbeats 8000000 in
theorem within_step (k n : Int) (nm : Str) (kids : List Vl) (ih : ∀ (i : Nat) t, kids[i]? = some t → SizeOK t) : WithinOK (.mk k n nm kids) := by
  intro w b lo hi a L hA hkl
  obtain ⟨hK, hV, hL, hT, hgb, hN, hlen⟩ := hA
  obtain ⟨kv, f, hsp, hat, hr, hsl, hlo, hf, hks⟩ := hV.open
  obtain ⟨A, c, rfl, hmc, hcm, hg⟩ := hsl
  have hkl' : 0 < kids.length := hkl
  obtain ⟨g, rfl, hgat, hfg, hghi⟩ := hg hkl'
  obtain ⟨ab, ao, asp⟩ := a
  have hsp' : asp = none := hsp
  subst hsp'
  have hll : lenL kids ≤ 100000000 := by
    have : lenV (.mk k n nm kids) = (wordV k n nm).length + lenL kids := by simp [lenV]
    omega
  have hnk : okVL alN kids = true := by
    have : okV alN (.mk k n nm kids) = (alN k n nm kids.length && okVL alN kids) := by simp [okV]
    rw [this, Bool.and_eq_true] at hN
    exact hN.2
  have hkid := kids_any w ab ao g k n nm kids.length c hr hkl' hmc hcm
  unfold keyL at hkid
  obtain ⟨c0, c1, c2, c3⟩ := reads4 hr
  have hgL : (⟨g, 0, none⟩ : Addr) ∉ L := fun h => by
    have h1 := hL _ h
    have h2 := mono_le hf (Nat.zero_le kids.length)
    have h3 : g < lo ∨ hi ≤ g := h1
    omega
  have hzp : (0 : Int) < (kids.length : Int) := by omega
  have hmb : kids.length ≤ 9223372036854775807 := by unfold maxLen at hcm; omega
  have hbw := hK.lt
  have HKD := Lib.hid hkid
  have HK := Lib.hid hK
  have HL := Lib.hid hL
  have HR0 := Lib.hid hr
  have HKS := Lib.hid hks
  have HAT := Lib.hid hat
  have HIH := Lib.hid ih
  have HF := Lib.hid hf
  have HGA := Lib.hid hgat
  have HGL := Lib.hid hgL
  have HTB := Lib.hid hT
  have HNK := Lib.hid hnk
  have HLL := Lib.hid hll
  clear hkid hK hV hL hr hks hat ih hsp hf hgat hgL hT hnk hll hN hlen hg
  show Calls _ _ _ _ (SizeEnd (lenL kids) w b lo hi L)
  go_enter Tryd.func42, Tryd.ntmps42
  go_wp2_with fail
  refine HKD.out.mono ?_
  rintro e w2 ⟨rfl, hb2⟩
  obtain ⟨w3, hw3⟩ : ∃ w3, w3 = w2.alloc (.cells #[.pointer (some ⟨g, 0, none⟩), .int .i64 (kids.length : Int)] 66) := ⟨_, rfl⟩
  have hb3 : Below w.heap.size w w3 := by rw [hw3]; exact hb2.trans ((below_new w2 _).mono hb2.size)
  have l3 : Lies w3 w2.heap.size 66 #[.pointer (some ⟨g, 0, none⟩), .int .i64 (kids.length : Int)] := by rw [hw3]; exact Lies.new w2 _ _
  have hk3 := HK.out.later hb3
  have hg3 : AtCells w3 ⟨g, 0, none⟩ := HGA.out.keep (hb3.block _ HGA.out.lt)
  have d0 : w3.cell? ⟨w2.heap.size, 0, none⟩ = some (.pointer (some ⟨g, 0, none⟩)) := l3.cell 0
  have d1 : w3.cell? ⟨w2.heap.size, 1, none⟩ = some (.int .i64 (kids.length : Int)) := l3.cell 1
  have hr3 := HR0.out.keep (hb3.block _ HAT.out.lt)
  have x3 : w3.cell? ⟨ab, ao + 3, none⟩ = some (.slice (some ⟨g, 0, none⟩) kids.length c) := hr3 3 _ rfl
  have u2 := d0
  have u3 := d1
  have u4 := x3
  rw [hw3] at u2 u3 u4
  have HW3 := Lib.hid hw3
  have HB3 := Lib.hid (Bt.of_below (b := b) hb3)
  have HL3 := Lib.hid l3
  have HK3 := Lib.hid hk3
  have HG3 := Lib.hid hg3
  have HNE := Lib.hid (show w2.heap.size ≠ b by have := hb2.size; omega)
  clear hw3 hb3 l3 hk3 hg3 hr3 hb2
  go_wp2_with (first | (at_lookup; rw [← HW3.out]; refine wpList_look_keyL _ rfl 43 (.tmp 12) (.tmp 13) rfl Tryd.underlying43 rfl HK3.out ⟨g, 0, none⟩ (kids.length : Int) rfl HG3.out HGL.out ?_))
  go_loopw [6, 24] (fun d i wr => WithRel kids w3 b lo g f L d i wr) (fun _ i _ => kids.length - (intOf i).toNat)
  case atStart => exact ⟨0, L, Nat.zero_le _, rfl, rfl, HK3.out, fun x hx => .inl hx, .refl _ _⟩
  case round =>
    obtain ⟨q, L', hq, rfl, rfl, hK', hL', hBt⟩ := hrel
    have hBW := HB3.out.trans hBt
    have l3r := HL3.out.bt hBt HNE.out
    have d0r : wr.cell? ⟨w2.heap.size, 0, none⟩ = some (.pointer (some ⟨g, 0, none⟩)) := l3r.cell 0
    have d1r : wr.cell? ⟨w2.heap.size, 1, none⟩ = some (.int .i64 (kids.length : Int)) := l3r.cell 1
    have hrr := HR0.out.keep (hBW.keeps HK.out.isMap _ HAT.out)
    have x3r : wr.cell? ⟨ab, ao + 3, none⟩ = some (.slice (some ⟨g, 0, none⟩) kids.length c) := hrr 3 _ rfl
    have hgatr : AtCells wr ⟨g, 0, none⟩ := HG3.out.keep (hBt.keeps HK3.out.isMap _ HG3.out)
    have HBW := Lib.hid hBW
    have HBT := Lib.hid hBt
    have HKQ := Lib.hid hK'
    have HLQ := Lib.hid hL'
    have HGR := Lib.hid hgatr
    clear hBW hBt hK' hL' hgatr l3r hrr d0 d1 x3 u2 u3 u4 c0 c1 c2 c3
    by_cases hlt : q < kids.length
    · obtain ⟨t, ht⟩ : ∃ t, kids[q]? = some t := ⟨_, List.getElem?_eq_getElem hlt⟩
      have hva : VA wr (f q) (f (q + 1)) ⟨g, q * 4, none⟩ t := by
        have h := (HKS.out q t ht).keep (HBW.out.keeps HK.out.isMap)
        have e : kidV (.slice (some ⟨g, 0, none⟩) kids.length c) q = ⟨g, q * 4, none⟩ := by simp [kidV]
        rwa [e] at h
      have hfree : ∀ x ∈ L', x.block < f q ∨ f (q + 1) ≤ x.block := fun x hx => by
        have h1 := mono_le HF.out (Nat.zero_le q)
        have h2 := mono_le HF.out (show q + 1 ≤ kids.length by omega)
        have h3 := mono_le HF.out (Nat.zero_le (q + 1))
        rcases HLQ.out x hx with h | h
        · have h4 := HL.out x h
          omega
        · omega
      have hmem : t ∈ kids := List.mem_of_getElem? ht
      have htl := len_mem hmem
      have hdt := lenL_take ht
      have hdl := lenL_take_le kids (q + 1)
      have hll := HLL.out
      have hc := HIH.out q t ht wr b (f q) (f (q + 1)) ⟨g, q * 4, none⟩ L' ⟨HKQ.out, hva, hfree, HTB.out.bt HBW.out hgb (Nat.le_of_lt hbw), hgb, ok_mem hmem HNK.out, by omega⟩
      unfold SizeEnd at hc
      have hqc : q < c := by omega
      have hx1 : lenV t ≤ 100000000 := by omega
      have hx2 : lenL (kids.take q) ≤ 100000000 := by omega
      have hx3 : lenL (kids.take q) + lenV t + 2 ≤ 100000000 := by omega
      have HT := Lib.hid ht
      have HDT := Lib.hid hdt
      have HC := Lib.hid hc
      have HX3 := Lib.hid hx3
      obtain ⟨la, hla⟩ : ∃ la, la = lenL (kids.take q) := ⟨_, rfl⟩
      obtain ⟨lb, hlb⟩ : ∃ lb, lb = lenV t := ⟨_, rfl⟩
      rw [← hla] at hx2 HDT HX3 ⊢
      rw [← hlb] at hx1 HC HDT HX3
      have hx5 : (la : Int) + ((lb : Int) + 2) ≤ 2147483648 := by have := HX3.out; omega
      clear ht hva hfree hmem hdt hc hll hdl htl hla hlb hx3
      go_wp2_with fail
      refine HC.out.mono ?_
      rintro e w5 ⟨L2, rfl, hK5, hL5, hB5⟩
      have HK5 := Lib.hid hK5
      have HL5 := Lib.hid hL5
      have HB5 := Lib.hid hB5
      clear hK5 hL5 hB5
      go_wp2
      go_roundw
      case rel =>
        refine ⟨q + 1, L2, by omega, by go_num, ?_, HK5.out, fun x hx => ?_, HBT.out.trans HB5.out⟩
        · rw [HDT.out]
          exact sum_v _ _ HX3.out
        · have h1 := HF.out q
          have h2 := mono_le HF.out (Nat.zero_le q)
          rcases HL5.out x hx with h | h
          · rcases HLQ.out x h with h | h
            · exact .inl h
            · exact .inr ⟨h.1, by omega⟩
          · exact .inr ⟨by omega, h.2⟩
      case measure => simp [intOf]; omega
    · obtain rfl : q = kids.length := by omega
      rw [List.take_length]
      go_wp2_with (at_mapUpdate; refine wpList_put_keyL _ rfl 43 (.tmp 41) (.tmp 42) (.tmp 43) rfl Tryd.underlying43 rfl HKQ.out ⟨g, 0, none⟩ (kids.length : Int) (lenL kids : Nat) rfl rfl HGR.out ?_; intro w6 hk6 hgr6 hs6; have HK6 := Lib.hid hk6; have HGR6 := Lib.hid hgr6; clear hk6 hgr6 hs6)
      go_ret
      refine ⟨_, rfl, HK6.out, fun x hx => ?_, HBW.out.trans (.of_grown HGR6.out)⟩
      have h0' := mono_le HF.out (Nat.zero_le kids.length)
      rcases List.mem_cons.1 hx with rfl | hx
      · exact .inr ⟨by show lo ≤ g; omega, hghi⟩
      · rcases HLQ.out x hx with h | h
        · exact .inl h
        · exact .inr (by omega)
theorem min_v (a : Nat) (h : a ≤ 100000000) : Ending.returned (.int .i64 (min (a : Int) 2147483648)) = .returned (.int .i64 (a : Int)) := by
  rw [Int.min_eq_left (by omega)]
theorem min_v2 (a b : Nat) (h : a + b ≤ 100000000) : Ending.returned (.int .i64 (min ((a : Int) + (b : Int)) 2147483648)) = .returned (.int .i64 ((a + b : Nat) : Int)) := by
  rw [Int.min_eq_left (by omega)]
  exact congrArg (fun x => Ending.returned (.int .i64 x)) (by omega)
set_option maxRecDepth 100000 in
set_option maxHeartbeats 8000000 in
theorem of_step (k n : Int) (nm : Str) (kids : List Vl) (hW : WithinOK (.mk k n nm kids)) : SizeOK (.mk k n nm kids) := by
  intro w b lo hi a L hA
  have hA0 := hA
  obtain ⟨hK, hV, hL, hT, hgb, hN, hlen⟩ := hA
  obtain ⟨kv, f, hsp, hat, hr, hsl, hlo, hf, hks⟩ := hV.open
  obtain ⟨A, c, rfl, hmc, hcm, hg⟩ := hsl
  obtain ⟨ab, ao, asp⟩ := a
  have hsp' : asp = none := hsp
  subst hsp'
  have hn : i64r n := by
    have : okV alN (.mk k n nm kids) = (alN k n nm kids.length && okVL alN kids) := by simp [okV]
    rw [this, Bool.and_eq_true] at hN
    exact alN_r hN.1
  have hlv : lenV (.mk k n nm kids) = (wordV k n nm).length + lenL kids := by simp [lenV]
  have hwd := word_any w ab ao k n nm _ hr hn hT
  have hbw := hK.lt
  obtain ⟨T, hTT⟩ : ∃ T, T = wordV k n nm := ⟨_, rfl⟩
  rw [← hTT] at hwd hlv
  have hsz : (ba T).size = T.length := ba_size T
  have hl1 : T.length ≤ 100000000 := by omega
  have HWD := Lib.hid hwd
  have HA := Lib.hid hA0
  have HR0 := Lib.hid hr
  have HAT := Lib.hid hat
  have HK := Lib.hid hK
  have HLV := Lib.hid hlv
  have HTT := Lib.hid hTT
  have HLN := Lib.hid hlen
  have HWI := Lib.hid hW
  clear hwd hA0 hr hat hK hlv hTT hN hV hL hg hf hks hn hsp hlo hmc hcm hlen hW
  by_cases hz : kids.length = 0
  · have hzi : ¬ (0 : Int) < (kids.length : Int) := by omega
    have hll : lenL kids = 0 := by rw [List.eq_nil_of_length_eq_zero hz]; rfl
    have HLL := Lib.hid hll
    clear hz hll
    go_enter Tryd.func26, Tryd.ntmps26
    go_wp2_with fail
    refine HWD.out.mono ?_
    rintro e w1 ⟨rfl, hb1⟩
    have hr1 := HR0.out.keep (hb1.block _ HAT.out.lt)
    have x3 : w1.cell? ⟨ab, ao + 3, none⟩ = some (.slice A kids.length c) := hr1 3 _ rfl
    have HK1 := Lib.hid (HK.out.later hb1)
    have HB1 := Lib.hid (Bt.of_below (b := b) hb1)
    clear hr1 hb1
    go_wp2
    go_ret
    refine ⟨L, ?_, HK1.out, fun x hx => .inl hx, HB1.out⟩
    rw [HLV.out, HLL.out]
    exact min_v _ hl1
  · have hzi : (0 : Int) < (kids.length : Int) := by omega
    have hkp : 0 < kids.length := by omega
    go_enter Tryd.func26, Tryd.ntmps26
    go_wp2_with fail
    refine HWD.out.mono ?_
    rintro e w1 ⟨rfl, hb1⟩
    have hr1 := HR0.out.keep (hb1.block _ HAT.out.lt)
    have x3 : w1.cell? ⟨ab, ao + 3, none⟩ = some (.slice A kids.length c) := hr1 3 _ rfl
    have hA1 : SizeAsk (.mk k n nm kids) w1 b lo hi ⟨ab, ao, none⟩ L := ⟨HA.out.map.later hb1, HA.out.at_.later hb1, HA.out.free, HA.out.tab.later hb1, HA.out.ahead, HA.out.num, HA.out.len⟩
    have hwi := HWI.out w1 b lo hi ⟨ab, ao, none⟩ L hA1 hkp
    have hwi' : Calls Tryd.prog 42 #[.map (some b), .pointer (some ⟨ab, ao, none⟩)] w1 (SizeEnd (lenL kids) w1 b lo hi L) := hwi
    unfold SizeEnd at hwi'
    have hx1 : T.length + lenL kids ≤ 100000000 := by have h1 := HLV.out; have h2 := HLN.out; omega
    have hx2 : (T.length : Int) + (lenL kids : Int) ≤ 100000000 := by omega
    obtain ⟨ll, hll⟩ : ∃ ll, ll = lenL kids := ⟨_, rfl⟩
    rw [← hll] at hx1 hx2 hwi' HLV
    have HWI2 := Lib.hid hwi'
    have HX1 := Lib.hid hx1
    have HB1 := Lib.hid (Bt.of_below (b := b) hb1)
    have hx4 : ll ≤ 100000000 := by omega
    clear hr1 hb1 hA1 hwi hwi' hll hx1
    go_wp2_with fail
    refine HWI2.out.mono ?_
    rintro e w2 ⟨L2, rfl, hK2, hL2, hB2⟩
    have HK2 := Lib.hid hK2
    have HL2 := Lib.hid hL2
    have HB2 := Lib.hid hB2
    clear hK2 hL2 hB2
    go_wp2
    go_ret
    refine ⟨L2, ?_, HK2.out, HL2.out, HB1.out.trans HB2.out⟩
    rw [HLV.out]
    exact min_v2 _ _ HX1.out
theorem size_all : ∀ (m : Nat) (t : Vl), t.size ≤ m → SizeOK t
  | 0, .mk k n nm kids, h => absurd h (by simp [Vl.size])
  | m + 1, .mk k n nm kids, h => of_step k n nm kids (within_step k n nm kids fun i t ht => size_all m t (by
      have h1 := Vl.size_mem (List.mem_of_getElem? ht)
      have h2 : 1 + Vl.sizeL kids ≤ m + 1 := by simpa [Vl.size] using h
      omega))
end Go.Proofs.YtkdjmobplknmgaaDoor
