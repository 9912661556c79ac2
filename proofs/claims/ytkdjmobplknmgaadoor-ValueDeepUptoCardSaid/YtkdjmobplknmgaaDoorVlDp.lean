/- The walk of the law ValueDeep. -/
import Derived.Test.YtkdjmobplknmgaaDoorVsW
import Derived.Great.BuildSlice
import Derived.Deep.WholeRow
namespace Go.Proofs.YtkdjmobplknmgaaDoor
open Go Go.RowKit

theorem and_mask (a : Int) (m : Nat) (hm : m < 9223372036854775808) : ∃ n : Nat, n ≤ m ∧ bits .and .i64 a (m : Int) = (n : Int) := by
  have h2 : (BitVec.ofInt 64 (m : Int)).toNat = m := by
    rw [BitVec.ofInt_natCast, BitVec.toNat_ofNat]; exact Nat.mod_eq_of_lt (by omega)
  have hle : (BitVec.ofInt 64 a &&& BitVec.ofInt 64 (m : Int)).toNat ≤ m := by
    rw [BitVec.toNat_and, h2]; exact Nat.and_le_right
  refine ⟨(BitVec.ofInt 64 a &&& BitVec.ofInt 64 (m : Int)).toNat, hle, ?_⟩
  show IntKind.i64.wrap ((BitVec.ofInt 64 a &&& BitVec.ofInt 64 (m : Int)).toNat : Int) = _
  exact IntWalk.i64_in _ (by omega)
/-- What lies between two blocks stays. -/
theorem VA.between {w w' : World} {lo hi : Nat} {a : Addr} {t : Vl} (h : VA w lo hi a t) : (∀ g, lo ≤ g → g < hi → w'.heap[g]? = w.heap[g]?) → w'.heap[a.block]? = w.heap[a.block]? → VA w' lo hi a t := by
  induction h with
  | mk lo hi a k n nm kids kv f h0 hat hr hsl hlo hf _ ih =>
    intro hk ha
    obtain ⟨A, c, rfl, h2, h3, h4⟩ := hsl
    have hf0 := mono_le hf (Nat.zero_le kids.length)
    refine .mk lo hi a k n nm kids _ f h0 (hat.keep ha) (hr.keep ha) ⟨A, c, rfl, h2, h3, fun h => ?_⟩ hlo hf fun i t ht => ?_
    · obtain ⟨g, h5, h6, h7, h8⟩ := h4 h
      exact ⟨g, h5, h6.keep (hk g (by omega) h8), h7, h8⟩
    · have hi1 := (List.getElem?_eq_some_iff.1 ht).1
      obtain ⟨g, rfl, h6, h7, h8⟩ := h4 (by omega)
      have h9 := mono_le hf (show i + 1 ≤ kids.length by omega)
      have h10 := mono_le hf (Nat.zero_le i)
      exact ih i t ht (fun q hq1 hq2 => hk q (by omega) (by omega)) (hk g (by omega) h8)
theorem VV.between {w w' : World} {lo hi : Nat} {t : Vl} {l : List Value} (h : VV w lo hi t l) (hk : ∀ g, lo ≤ g → g < hi → w'.heap[g]? = w.heap[g]?) : VV w' lo hi t l := by
  obtain ⟨k, n, nm, kids⟩ := t
  obtain ⟨kv, f, rfl, ⟨A, c, rfl, h2, h3, h4⟩, hlo, hf, hks⟩ := h
  have hf0 := mono_le hf (Nat.zero_le kids.length)
  refine ⟨_, f, rfl, ⟨A, c, rfl, h2, h3, fun h => ?_⟩, hlo, hf, fun i t ht => ?_⟩
  · obtain ⟨g, h5, h6, h7, h8⟩ := h4 h
    exact ⟨g, h5, h6.keep (hk g (by omega) h8), h7, h8⟩
  · have hi1 := (List.getElem?_eq_some_iff.1 ht).1
    obtain ⟨g, rfl, h6, h7, h8⟩ := h4 (by omega)
    have h9 := mono_le hf (show i + 1 ≤ kids.length by omega)
    have h10 := mono_le hf (Nat.zero_le i)
    exact (hks i t ht).between (fun q hq1 hq2 => hk q (by omega) (by omega)) (hk g (by omega) h8)
/-- Constructors, one in the other, around a value without kids. -/
def vD (k n : Int) (nm : Str) : Nat → Vl
  | 0 => .mk k n nm []
  | j + 1 => .mk 4 0 [67] [vD k n nm j]
theorem deep_vD (k n : Int) (nm : Str) : ∀ j, (vD k n nm j).deep = j + 1
  | 0 => by simp [vD, Vl.deep, Vl.deepL]
  | j + 1 => by
    have h := deep_vD k n nm j
    simp only [vD, Vl.deep, Vl.deepL, h]
    omega
theorem ok_vD (al : Int → Int → Str → Nat → Bool) (hal : al 4 0 [67] 1 = true) (k n : Int) (nm : Str) : ∀ j, okV al (vD k n nm j) = al k n nm 0
  | 0 => by simp [vD, okV, okVL]
  | j + 1 => by
    have h := ok_vD al hal k n nm j
    simp [vD, okV, okVL, h, hal]
theorem len_vD (k n : Int) (nm : Str) : ∀ j, lenV (vD k n nm j) = (wordV k n nm).length + 3 * j
  | 0 => by simp [vD, lenV, lenL]
  | j + 1 => by
    have h := len_vD k n nm j
    simp only [vD, lenV, lenL, h]
    simp [wordV]
    omega
theorem fit_vD (al : Int → Int → Str → Nat → Bool) (hal : al 4 0 [67] 1 = true) (k n : Int) (nm : Str) (j : Nat) : fitV al (vD k n nm j) = (decide (j < 1000) && al k n nm 0) := by
  unfold fitV
  rw [deep_vD, ok_vD al hal]
  exact congrArg (· && _) (decide_eq_decide.2 (by omega))
theorem word_len {k n : Int} {nm : Str} (hn : i64r n) (hl : nm.length ≤ 2000000) : (wordV k n nm).length ≤ 2000030 := by
  have h := itoa_len hn
  unfold wordV
  repeat' split
  all_goals (try simp only [List.length_append, List.length_cons, List.length_nil])
  all_goals omega
/-- One more around it. -/
theorem VV.wrap {w : World} {lo hi g : Nat} {t : Vl} {l : List Value} (h : VV w lo hi t l) (hl : Lies w g 24 l.toArray) (h1 : lo ≤ hi) (h2 : hi ≤ g) : VV w lo (g + 1) (.mk 4 0 [67] [t]) (vC 4 0 [67] (.slice (some ⟨g, 0, none⟩) 1 1)) := by
  refine ⟨_, fun i => if i = 0 then lo else g, rfl, ⟨_, 1, rfl, Nat.le_refl _, by unfold maxLen; omega, fun _ => ⟨g, rfl, ⟨_, _, hl⟩, by simp, by omega⟩⟩, by simp, fun i => ?_, fun i u hi => ?_⟩
  · show (if i = 0 then lo else g) ≤ (if i + 1 = 0 then lo else g)
    split <;> simp <;> omega
  · match i, hi with
    | 0, hi =>
      obtain rfl : t = u := by simpa using hi
      refine (VV.at_ h rfl (a := ⟨g, 0, none⟩) ⟨_, _, hl⟩ (fun j u hj => ?_)).wider (by simp) (by simp; omega)
      show w.cell? ⟨g, 0 + j, none⟩ = some u
      rw [Nat.zero_add, hl.cell]
      simpa using hj
    | i + 1, hi => simp at hi
theorem heap_set4 (w : World) (g : Nat) (a b c d : Value) (q : Nat) (h : q ≠ g) : ((((w.setCell ⟨g, 0, none⟩ a).setCell ⟨g, 1, none⟩ b).setCell ⟨g, 2, none⟩ c).setCell ⟨g, 3, none⟩ d).heap[q]? = w.heap[q]? := by
  rw [Below.heap_setCell _ _ _ _ h, Below.heap_setCell _ _ _ _ h, Below.heap_setCell _ _ _ _ h, Below.heap_setCell _ _ _ _ h]
/-- What Text answers. -/
def txR (S : ByteArray) (b : Bool) : Value := if b then .tuple #[.string S, .int .i64 0] else .tuple #[.string ⟨#[]⟩, .int .i64 1]
def DRel (w : World) (k n : Int) (nm : Str) (N : Nat) (i : Value) (wr : World) : Prop :=
  ∃ (j : Nat) (k' n' : Int) (nm' : Str) (A : Option Addr) (m c hi : Nat), j ≤ N ∧ i = .int .i64 (j : Int) ∧ Lies wr w.heap.size 24 (vC k' n' nm' (.slice A m c)).toArray ∧ VV wr (w.heap.size + 1) hi (vD k n nm j) (vC k' n' nm' (.slice A m c)) ∧ hi ≤ wr.heap.size ∧ w.heap.size + 1 ≤ hi ∧ Below w.heap.size w wr
set_option maxRecDepth 100000 in
set_option maxHeartbeats 8000000 in
theorem valueDeep_any (n0 : Int) (k n : Int) (nm : Str) (A0 : Option Addr) (m0 c0 : Nat) (hn : i64r n) (hnl : nm.length ≤ 2000000) (w : World) (ht : Tab w) :
    Calls Tryd.prog 7 #[.int .i64 n0, .agg #[.int .i64 k, .int .i64 n, .string (ba nm), .slice A0 m0 c0]] w (Yes w) := by
  obtain ⟨m, hm, hb⟩ := and_mask n0 65535 (by decide)
  have htn : bits .and .i64 n0 65535 = ((m : Nat) : Int) := by
    rw [show (65535 : Int) = ((65535 : Nat) : Int) from rfl, hb]
  obtain ⟨N, hN⟩ : ∃ N, N = m % 1200 := ⟨_, rfl⟩
  have hN2 : N < 1200 := by omega
  have hmod : (m : Int) % 1200 = (N : Int) := by omega
  clear hb
  have HN := Lib.hid hN
  clear hN
  obtain ⟨w0, hw0⟩ : ∃ w0, w0 = w.alloc (.cells #[.int .i64 k, .int .i64 n, .string (ba nm), .slice A0 m0 c0] 24) := ⟨_, rfl⟩
  have hb0 : Below w.heap.size w w0 := by rw [hw0]; exact below_new w _
  have l0 : Lies w0 w.heap.size 24 #[.int .i64 k, .int .i64 n, .string (ba nm), .slice A0 m0 c0] := by rw [hw0]; exact Lies.new w _ _
  have HW0 := Lib.hid hw0
  have HB0 := Lib.hid hb0
  have HL0 := Lib.hid l0
  have HT0 := Lib.hid (ht.later hb0)
  have HTW := Lib.hid ht.lt
  have HTB := Lib.hid ht
  have HNN := Lib.hid hn
  have HNL := Lib.hid hnl
  clear hw0 hb0 l0 ht hn hnl
  go_enter Tryd.func7, Tryd.ntmps7
  go_wp2_with fail
  rw [← HW0.out]
  refine (shown_any _ HT0.out).mono ?_
  rintro e w1 ⟨rfl, hb1⟩
  have l1 := HL0.out.later hb1
  have z0 : w1.cell? ⟨w.heap.size, 0, none⟩ = some (.int .i64 k) := l1.cell 0
  have z1 : w1.cell? ⟨w.heap.size, 1, none⟩ = some (.int .i64 n) := l1.cell 1
  have z2 : w1.cell? ⟨w.heap.size, 2, none⟩ = some (.string (ba nm)) := l1.cell 2
  have z3 : w1.cell? ⟨w.heap.size, 3, none⟩ = some (.slice A0 m0 c0) := l1.cell 3
  have f3 := l1.free 3
  have HL1 := Lib.hid l1
  have HT1 := Lib.hid (HT0.out.later hb1)
  have HB1 := Lib.hid (HB0.out.trans (hb1.mono HB0.out.size))
  clear l1 hb1
  obtain ⟨w2, hw2⟩ : ∃ w2, w2 = w1.setCell ⟨w.heap.size, 3, none⟩ (.slice none 0 0) := ⟨_, rfl⟩
  have l2 : Lies w2 w.heap.size 24 (vC k n nm (.slice none 0 0)).toArray := by rw [hw2]; exact HL1.out.set 3 (.slice none 0 0)
  have hb2 : Below w.heap.size w w2 := by rw [hw2]; exact HB1.out.setCell (p := ⟨w.heap.size, 3, none⟩) (Nat.le_refl _) _
  have hT2 : Tab w2 := HT1.out.below (B := w.heap.size) (by rw [hw2]; exact (Below.refl _ w1).setCell (p := ⟨w.heap.size, 3, none⟩) (Nat.le_refl _) _) HTW.out
  have hlt2 := l2.lt
  have hvv : VV w2 (w.heap.size + 1) (w.heap.size + 1) (vD k n nm 0) (vC k n nm (.slice none 0 0)) := ⟨_, fun _ => w.heap.size + 1, rfl, ⟨none, 0, rfl, Nat.le_refl _, by unfold maxLen; omega, fun h => absurd h (by simp)⟩, Nat.le_refl _, fun _ => Nat.le_refl _, fun i t hi => by simp at hi⟩
  have hri : ∀ V, Below w2.heap.size w2 V → Calls Tryd.prog 14 #[.agg #[.int .i64 k, .int .i64 n, .string (ba nm), .slice none 0 0]] V fun e w' => e = .returned (.bool (alR k n nm 0)) ∧ Below V.heap.size V w' := fun V hV => by
    have h := right_any V _ _ _ _ (hvv.later hV)
    rw [fit_vD alR rfl, show decide (0 < 1000) = true from rfl, Bool.true_and] at h
    exact h
  have hfi : ∀ V, Below w2.heap.size w2 V → Calls Tryd.prog 16 #[.agg #[.int .i64 k, .int .i64 n, .string (ba nm), .slice none 0 0]] V fun e w' => e = .returned (.bool (alF k n nm 0)) ∧ Below V.heap.size V w' := fun V hV => by
    have h := first_any V _ _ _ _ (hvv.later hV)
    rw [fit_vD alF (by decide), show decide (0 < 1000) = true from rfl, Bool.true_and] at h
    exact h
  have y0 : w2.cell? ⟨w.heap.size, 0, none⟩ = some (.int .i64 k) := l2.cell 0
  have y1 : w2.cell? ⟨w.heap.size, 1, none⟩ = some (.int .i64 n) := l2.cell 1
  have y2 : w2.cell? ⟨w.heap.size, 2, none⟩ = some (.string (ba nm)) := l2.cell 2
  have y3 : w2.cell? ⟨w.heap.size, 3, none⟩ = some (.slice none 0 0) := l2.cell 3
  have HW2 := Lib.hid hw2
  have HL2 := Lib.hid l2
  have HB2 := Lib.hid hb2
  have HT2 := Lib.hid hT2
  have HVV := Lib.hid hvv
  have HRI := Lib.hid hri
  have HFI := Lib.hid hfi
  clear hw2 l2 hb2 hT2 hvv hri hfi
  obtain ⟨r, hr⟩ : ∃ r, r = alR k n nm 0 := ⟨_, rfl⟩
  obtain ⟨f, hf⟩ : ∃ f, f = alF k n nm 0 := ⟨_, rfl⟩
  rw [← hr] at HRI
  rw [← hf] at HFI
  have HR := Lib.hid hr
  have HF := Lib.hid hf
  clear hr hf
  go_wp2_with fail
  rw [← HW2.out]
  refine (HRI.out _ (Below.refl _ _)).mono ?_
  rintro e w3 ⟨rfl, hb3⟩
  have l3 := HL2.out.later hb3
  have x0 : w3.cell? ⟨w.heap.size, 0, none⟩ = some (.int .i64 k) := l3.cell 0
  have x1 : w3.cell? ⟨w.heap.size, 1, none⟩ = some (.int .i64 n) := l3.cell 1
  have x2 : w3.cell? ⟨w.heap.size, 2, none⟩ = some (.string (ba nm)) := l3.cell 2
  have x3 : w3.cell? ⟨w.heap.size, 3, none⟩ = some (.slice none 0 0) := l3.cell 3
  have HB3 := Lib.hid hb3
  clear l3 hb3
  go_wp2_with fail
  refine (HFI.out _ HB3.out).mono ?_
  rintro e w4 ⟨rfl, hb4⟩
  have hb24 := HB3.out.trans (hb4.mono HB3.out.size)
  have HB4 := Lib.hid (HB2.out.trans (hb24.mono HB2.out.size))
  have HL4 := Lib.hid (HL2.out.later hb24)
  have HV4 := Lib.hid (HVV.out.later hb24)
  clear hb4 hb24
  go_wp2_with fail
  go_loopw [8] (fun i wr => DRel w k n nm N i wr) (fun i _ => N - (intOf i).toNat)
  case atStart => exact ⟨0, k, n, nm, none, 0, 0, w.heap.size + 1, Nat.zero_le _, rfl, HL4.out, HV4.out, HL4.out.lt, Nat.le_refl _, HB4.out⟩
  case round =>
    obtain ⟨j, k', n', nm', A, m', c, hi, hj, rfl, hl, hv, hh1, hh2, hB⟩ := hrel
    have q0 : wr.cell? ⟨w.heap.size, 0, none⟩ = some (.int .i64 k') := hl.cell 0
    have q1 : wr.cell? ⟨w.heap.size, 1, none⟩ = some (.int .i64 n') := hl.cell 1
    have q2 : wr.cell? ⟨w.heap.size, 2, none⟩ = some (.string (ba nm')) := hl.cell 2
    have q3 : wr.cell? ⟨w.heap.size, 3, none⟩ = some (.slice A m' c) := hl.cell 3
    have g0 := hl.free 0
    have g1 := hl.free 1
    have g2 := hl.free 2
    have g3 := hl.free 3
    have hlr := hl.lt
    have HL := Lib.hid hl
    have HV := Lib.hid hv
    have HBR := Lib.hid hB
    clear hl hv hB x0 x1 x2 x3 y0 y1 y2 y3 z0 z1 z2 z3 f3
    by_cases hlt : j < N
    · go_wp2
      go_roundw
      case rel =>
        have hs5 : ∀ x y : Value, ((((wr.setCell ⟨w.heap.size, 0, none⟩ (.int .i64 4)).setCell ⟨w.heap.size, 1, none⟩ (.int .i64 0)).setCell ⟨w.heap.size, 2, none⟩ x).setCell ⟨w.heap.size, 3, none⟩ y).heap.size = wr.heap.size := fun x y => by simp
        refine ⟨j + 1, 4, 0, [67], some ⟨wr.heap.size, 0, none⟩, 1, 1, wr.heap.size + 1, by omega, by go_num, ((((HL.out.set 0 _).set 1 _).set 2 _).set 3 _).alloc _, VV.wrap (HV.out.between fun q hq1 hq2 => ?_) (Lies.new' _ _ _ (hs5 _ _)) hh2 hh1, by simp, by omega, ?_⟩
        · rw [Below.heap_alloc _ _ _ (by rw [hs5]; omega)]
          exact heap_set4 _ _ _ _ _ _ _ (by omega)
        · exact ((((HBR.out.setCell (p := ⟨w.heap.size, 0, none⟩) (Nat.le_refl _) _).setCell (p := ⟨w.heap.size, 1, none⟩) (Nat.le_refl _) _).setCell (p := ⟨w.heap.size, 2, none⟩) (Nat.le_refl _) _).setCell (p := ⟨w.heap.size, 3, none⟩) (Nat.le_refl _) _).alloc (by rw [hs5]; omega) _
      case measure => simp [intOf]; omega
    · obtain rfl : j = N := by omega
      have hTW : Tab wr := HTB.out.below HBR.out HTW.out
      have hRt : ∀ V, Below wr.heap.size wr V → Calls Tryd.prog 14 #[.agg #[.int .i64 k', .int .i64 n', .string (ba nm'), .slice A m' c]] V fun e w' => e = .returned (.bool (decide (j < 1000) && r)) ∧ Below V.heap.size V w' := fun V hV => by
        have h := right_any V _ _ _ _ (HV.out.later hV)
        rw [fit_vD alR rfl, ← HR.out] at h
        exact h
      have hFt : ∀ V, Below wr.heap.size wr V → Calls Tryd.prog 16 #[.agg #[.int .i64 k', .int .i64 n', .string (ba nm'), .slice A m' c]] V fun e w' => e = .returned (.bool (decide (j < 1000) && f)) ∧ Below V.heap.size V w' := fun V hV => by
        have h := first_any V _ _ _ _ (HV.out.later hV)
        rw [fit_vD alF (by decide), ← HF.out] at h
        exact h
      obtain ⟨S, hS⟩ : ∃ S, S = ba (txtV (vD k n nm j)) := ⟨_, rfl⟩
      have hlen : lenV (vD k n nm j) ≤ 100000000 := by
        have := word_len (k := k) (nm := nm) HNN.out HNL.out
        rw [len_vD]
        omega
      have hnum : okV alN (vD k n nm j) = true := by
        rw [ok_vD alN (by decide)]
        have := HNN.out
        unfold i64r at this
        simp [alN, this]
      have hTx : Calls Tryd.prog 12 #[.agg #[.int .i64 k', .int .i64 n', .string (ba nm'), .slice A m' c]] wr fun e w' => e = .returned (txR S (decide (j < 1000) && r)) ∧ Below wr.heap.size wr w' := by
        have h := text_any wr _ _ _ _ HV.out hh1 hTW hnum hlen
        unfold TextEnd at h
        rw [fit_vD alR rfl, ← HR.out, ← hS] at h
        exact h
      have HS := Lib.hid hS
      have HN1 := Lib.hid hh1
      clear hTW hS hlen hnum HR HF HRI HFI hh1 hh2
      by_cases hbN : j < 1000
      · have hbi : (j : Int) < 1000 := by omega
        have hbd : decide ((j : Int) < 1000) = true := decide_eq_true hbi
        rw [decide_eq_true hbN] at hRt hFt hTx
        cases r <;> cases f <;>
        · simp only [Bool.true_and, txR, if_true, Bool.false_eq_true, if_false] at hRt hFt hTx
          have HRt := Lib.hid hRt
          have HFt := Lib.hid hFt
          have HTx := Lib.hid hTx
          clear hRt hFt hTx
          go_wp2_with fail
          refine HTx.out.mono ?_
          rintro e w5 ⟨rfl, hb5⟩
          have l5 := HL.out.later hb5
          have p0 : w5.cell? ⟨w.heap.size, 0, none⟩ = some (.int .i64 k') := l5.cell 0
          have p1 : w5.cell? ⟨w.heap.size, 1, none⟩ = some (.int .i64 n') := l5.cell 1
          have p2 : w5.cell? ⟨w.heap.size, 2, none⟩ = some (.string (ba nm')) := l5.cell 2
          have p3 : w5.cell? ⟨w.heap.size, 3, none⟩ = some (.slice A m' c) := l5.cell 3
          have HB5 := Lib.hid hb5
          clear l5 hb5
          go_wp2_with fail
          refine (HRt.out _ HB5.out).mono ?_
          rintro e w6 ⟨rfl, hb6⟩
          have hb06 := HB5.out.trans (hb6.mono HB5.out.size)
          have l6 := HL.out.later hb06
          have s0 : w6.cell? ⟨w.heap.size, 0, none⟩ = some (.int .i64 k') := l6.cell 0
          have s1 : w6.cell? ⟨w.heap.size, 1, none⟩ = some (.int .i64 n') := l6.cell 1
          have s2 : w6.cell? ⟨w.heap.size, 2, none⟩ = some (.string (ba nm')) := l6.cell 2
          have s3 : w6.cell? ⟨w.heap.size, 3, none⟩ = some (.slice A m' c) := l6.cell 3
          have HB6 := Lib.hid hb06
          clear l6 hb6 hb06
          go_wp2_with fail
          refine (HFt.out _ HB6.out).mono ?_
          rintro e w7 ⟨rfl, hb7⟩
          have HB7 := Lib.hid (HBR.out.trans ((HB6.out.trans (hb7.mono HB6.out.size)).mono HBR.out.size))
          clear hb7
          go_wp2
          go_ret
          exact ⟨rfl, HB7.out⟩
      · have hbi : ¬ (j : Int) < 1000 := by omega
        have hbd : decide ((j : Int) < 1000) = false := decide_eq_false hbi
        rw [decide_eq_false hbN] at hRt hFt hTx
        cases r <;> cases f <;>
        · simp only [Bool.false_and, txR, Bool.false_eq_true, if_false] at hRt hFt hTx
          have HRt := Lib.hid hRt
          have HFt := Lib.hid hFt
          have HTx := Lib.hid hTx
          clear hRt hFt hTx
          go_wp2_with fail
          refine HTx.out.mono ?_
          rintro e w5 ⟨rfl, hb5⟩
          have l5 := HL.out.later hb5
          have p0 : w5.cell? ⟨w.heap.size, 0, none⟩ = some (.int .i64 k') := l5.cell 0
          have p1 : w5.cell? ⟨w.heap.size, 1, none⟩ = some (.int .i64 n') := l5.cell 1
          have p2 : w5.cell? ⟨w.heap.size, 2, none⟩ = some (.string (ba nm')) := l5.cell 2
          have p3 : w5.cell? ⟨w.heap.size, 3, none⟩ = some (.slice A m' c) := l5.cell 3
          have HB5 := Lib.hid hb5
          clear l5 hb5
          go_wp2_with fail
          refine (HRt.out _ HB5.out).mono ?_
          rintro e w6 ⟨rfl, hb6⟩
          have hb06 := HB5.out.trans (hb6.mono HB5.out.size)
          have l6 := HL.out.later hb06
          have s0 : w6.cell? ⟨w.heap.size, 0, none⟩ = some (.int .i64 k') := l6.cell 0
          have s1 : w6.cell? ⟨w.heap.size, 1, none⟩ = some (.int .i64 n') := l6.cell 1
          have s2 : w6.cell? ⟨w.heap.size, 2, none⟩ = some (.string (ba nm')) := l6.cell 2
          have s3 : w6.cell? ⟨w.heap.size, 3, none⟩ = some (.slice A m' c) := l6.cell 3
          have HB6 := Lib.hid hb06
          clear l6 hb6 hb06
          go_wp2_with fail
          refine (HFt.out _ HB6.out).mono ?_
          rintro e w7 ⟨rfl, hb7⟩
          have HB7 := Lib.hid (HBR.out.trans ((HB6.out.trans (hb7.mono HB6.out.size)).mono HBR.out.size))
          clear hb7
          go_wp2
          go_ret
          exact ⟨rfl, HB7.out⟩
end Go.Proofs.YtkdjmobplknmgaaDoor
