/- What must be in any case (values). -/
import Derived.Test.YtkdjmobplknmgaaDoorVtT
import Derived.Test.YtkdjmobplknmgaaDoorVsT
import Derived.Test.YtkdjmobplknmgaaDoorVoC
namespace Go.Proofs.YtkdjmobplknmgaaDoor
open Go Go.RowKit

def sC : Str := [67, 111, 110, 115]
def sN : Str := [78, 105, 108]
def vS : Vl := .mk 4 0 sC [.mk 1 1 [] [], .mk 4 0 sN []]
theorem txt_vS : txtV vS = [67, 111, 110, 115, 40, 49, 44, 32, 78, 105, 108, 41] := by
  have h1 : Lib.itoa 1 = [49] := by
    show Lib.decDigits 1 = [49]
    rw [Lib.decDigits_one (by omega)]
    rfl
  simp [vS, txtV, restL, wordV, h1, sC, sN]
theorem op_72 : opR [47] (-7) 2 = (1, -3, true) := by
  have h : (-7 : Int).tdiv 2 = -3 := by decide
  have h2 : wrap64 (-3) = -3 := by unfold wrap64; omega
  simp [opR, h, h2]
theorem leafVA {w : World} {b o : Nat} {k n : Int} {nm : Str} (h : AtCells w ⟨b, o, none⟩) (hr : ReadsAt w ⟨b, o, none⟩ (vC k n nm (.slice none 0 0))) : VA w 0 0 ⟨b, o, none⟩ (.mk k n nm []) :=
  .mk 0 0 _ k n nm [] _ (fun _ => 0) rfl h hr ⟨none, 0, rfl, Nat.le_refl _, by unfold maxLen; omega, fun h => absurd h (by simp)⟩ (Nat.le_refl _) (fun _ => Nat.le_refl _) (fun i t ht => by simp at ht)
set_option maxRecDepth 100000 in
set_option maxHeartbeats 8000000 in
theorem shown_any (w : World) (ht : Tab w) : Calls Tryd.prog 11 #[] w (Yes w) := by
  obtain ⟨W, hW⟩ : ∃ W, W = ((w.alloc (.cells #[.int .i64 4, .int .i64 0, .string ⟨#[78, 105, 108]⟩, .slice none 0 0] 24)).alloc (.cells #[.int .i64 1, .int .i64 1, .string ⟨#[]⟩, .slice none 0 0, .int .i64 4, .int .i64 0, .string ⟨#[78, 105, 108]⟩, .slice none 0 0] 24)).alloc (.cells #[.int .i64 4, .int .i64 0, .string ⟨#[67, 111, 110, 115]⟩, .slice (some ⟨w.heap.size + 1, 0, none⟩) 2 2] 24) := ⟨_, rfl⟩
  have hbW : Below w.heap.size w W := by rw [hW]; exact (((Below.refl _ w).alloc (Nat.le_refl _) _).alloc (by simp) _).alloc (by simp; omega) _
  have lk : Lies W (w.heap.size + 1) 24 #[.int .i64 1, .int .i64 1, .string ⟨#[]⟩, .slice none 0 0, .int .i64 4, .int .i64 0, .string ⟨#[78, 105, 108]⟩, .slice none 0 0] := by rw [hW]; exact (Lies.new' _ _ _ (by simp)).alloc _
  have lv : Lies W (w.heap.size + 1 + 1) 24 #[.int .i64 4, .int .i64 0, .string ⟨#[67, 111, 110, 115]⟩, .slice (some ⟨w.heap.size + 1, 0, none⟩) 2 2] := by rw [hW]; exact Lies.new' _ _ _ (by simp)
  have hvv : VV W 0 (w.heap.size + 1 + 1) vS (vC 4 0 sC (.slice (some ⟨w.heap.size + 1, 0, none⟩) 2 2)) := by
    refine ⟨_, fun _ => 0, rfl, ⟨_, 2, rfl, Nat.le_refl _, by unfold maxLen; omega, fun _ => ⟨_, rfl, ⟨_, _, lk⟩, Nat.zero_le _, by omega⟩⟩, Nat.le_refl _, fun _ => Nat.le_refl _, fun i t hi => ?_⟩
    match i, hi with
    | 0, hi =>
      obtain rfl : Vl.mk 1 1 [] [] = t := by simpa using hi
      refine leafVA ⟨_, _, lk⟩ fun j u hj => ?_
      show W.cell? ⟨w.heap.size + 1, 0 + 0 * 4 + j, none⟩ = _
      rw [lk.cell]
      match j, hj with
      | 0, hj => simpa [vC] using hj
      | 1, hj => simpa [vC] using hj
      | 2, hj => simpa [vC, ba] using hj
      | 3, hj => simpa [vC] using hj
      | j + 4, hj => simp [vC] at hj
    | 1, hi =>
      obtain rfl : Vl.mk 4 0 sN [] = t := by simpa using hi
      refine leafVA ⟨_, _, lk⟩ fun j u hj => ?_
      show W.cell? ⟨w.heap.size + 1, 0 + 1 * 4 + j, none⟩ = _
      rw [lk.cell]
      match j, hj with
      | 0, hj => simpa [vC] using hj
      | 1, hj => simpa [vC] using hj
      | 2, hj => simpa [vC, ba, sN] using hj
      | 3, hj => simpa [vC] using hj
      | j + 4, hj => simp [vC] at hj
    | i + 2, hi => simp at hi
  have hfR : fitV alR vS = true := by decide
  have hfF : fitV alF vS = true := by decide
  have hT : ∀ V, Below W.heap.size W V → Calls Tryd.prog 12 #[.agg #[.int .i64 4, .int .i64 0, .string ⟨#[67, 111, 110, 115]⟩, .slice (some ⟨w.heap.size + 1, 0, none⟩) 2 2]] V fun e w' => e = .returned (.tuple #[.string ⟨#[67, 111, 110, 115, 40, 49, 44, 32, 78, 105, 108, 41]⟩, .int .i64 0]) ∧ Below V.heap.size V w' := fun V hV => by
    have h := text_any V 0 (w.heap.size + 1 + 1) vS _ (hvv.later hV) (by have := hV.size; have := lv.lt; omega) ((ht.later hbW).later hV) (by decide) (by
      rw [← len_txt, txt_vS]
      simp)
    unfold TextEnd at h
    rw [hfR, txt_vS] at h
    exact h
  have hR : ∀ V, Below W.heap.size W V → Calls Tryd.prog 14 #[.agg #[.int .i64 4, .int .i64 0, .string ⟨#[67, 111, 110, 115]⟩, .slice (some ⟨w.heap.size + 1, 0, none⟩) 2 2]] V fun e w' => e = .returned (.bool true) ∧ Below V.heap.size V w' := fun V hV => by
    have h := right_any V 0 (w.heap.size + 1 + 1) vS _ (hvv.later hV)
    rw [hfR] at h
    exact h
  have hF : ∀ V, Below W.heap.size W V → Calls Tryd.prog 16 #[.agg #[.int .i64 4, .int .i64 0, .string ⟨#[67, 111, 110, 115]⟩, .slice (some ⟨w.heap.size + 1, 0, none⟩) 2 2]] V fun e w' => e = .returned (.bool true) ∧ Below V.heap.size V w' := fun V hV => by
    have h := first_any V 0 (w.heap.size + 1 + 1) vS _ (hvv.later hV)
    rw [hfF] at h
    exact h
  have hS : ∀ V : World, Calls Tryd.prog 18 #[.agg #[.int .i64 4, .int .i64 0, .string ⟨#[67, 111, 110, 115]⟩, .slice (some ⟨w.heap.size + 1, 0, none⟩) 2 2], .agg #[.int .i64 4, .int .i64 0, .string ⟨#[67, 111, 110, 115]⟩, .slice (some ⟨w.heap.size + 1, 0, none⟩) 2 2]] V fun e w' => e = .returned (.bool true) ∧ Below V.heap.size V w' := fun V => same_self V 4 0 sC _ 2 2 (by omega) (Nat.le_refl _) (by unfold maxLen; omega)
  have hO1 : ∀ V : World, Calls Tryd.prog 20 #[.string ⟨#[47]⟩, .int .i64 (-7), .int .i64 2] V fun e w' => e = .returned (.tuple #[.agg #[.int .i64 1, .int .i64 (-3), .string ⟨#[]⟩, .slice none 0 0], .bool true]) ∧ Below V.heap.size V w' := fun V => by
    have h := op_any [47] (-7) 2 V
    rw [op_72] at h
    exact h
  have hO2 : ∀ V : World, Calls Tryd.prog 20 #[.string ⟨#[47]⟩, .int .i64 1, .int .i64 0] V fun e w' => e = .returned (.tuple #[.agg #[.int .i64 0, .int .i64 0, .string ⟨#[]⟩, .slice none 0 0], .bool false]) ∧ Below V.heap.size V w' := fun V => op_any [47] 1 0 V
  have HW := Lib.hid hW
  have HB := Lib.hid hbW
  have HLV := Lib.hid lv
  have HT := Lib.hid hT
  have HR := Lib.hid hR
  have HF := Lib.hid hF
  have HS := Lib.hid hS
  have HO1 := Lib.hid hO1
  have HO2 := Lib.hid hO2
  clear hW hbW lk lv hvv hfR hfF hT hR hF hS hO1 hO2 ht
  go_enter Tryd.func11, Tryd.ntmps11
  go_wp2_with fail
  rw [← HW.out]
  refine (HT.out _ (Below.refl _ _)).mono ?_
  rintro e w1 ⟨rfl, hb1⟩
  have HB1 := Lib.hid hb1
  clear hb1
  go_wp2_with fail
  refine (HO1.out _).mono ?_
  rintro e w2 ⟨rfl, hb2⟩
  obtain ⟨w3, hw3⟩ : ∃ w3, w3 = w2.alloc (.cells #[.int .i64 1, .int .i64 (-3), .string ⟨#[]⟩, .slice none 0 0] 24) := ⟨_, rfl⟩
  have hb12 := HB1.out.trans (hb2.mono HB1.out.size)
  have HB3 := Lib.hid (hb12.trans (show Below W.heap.size w2 w3 by rw [hw3]; exact (below_new w2 _).mono hb12.size))
  have HL3 := Lib.hid (show Lies w3 w2.heap.size 24 #[.int .i64 1, .int .i64 (-3), .string ⟨#[]⟩, .slice none 0 0] by rw [hw3]; exact Lies.new _ _ _)
  have HW3 := Lib.hid hw3
  clear hb2 hb12 hw3
  go_wp2_with fail
  rw [← HW3.out]
  refine (HO2.out _).mono ?_
  rintro e w4 ⟨rfl, hb4⟩
  obtain ⟨w5, hw5⟩ : ∃ w5, w5 = w4.alloc (.cells #[.int .i64 0, .int .i64 0, .string ⟨#[]⟩, .slice none 0 0] 24) := ⟨_, rfl⟩
  have hb34 := HB3.out.trans (hb4.mono HB3.out.size)
  have hb5 := hb34.trans (show Below W.heap.size w4 w5 by rw [hw5]; exact (below_new w4 _).mono hb34.size)
  have hl5 := HL3.out.later (hb4.trans (show Below w3.heap.size w4 w5 by rw [hw5]; exact (below_new w4 _).mono hb4.size))
  have hlv := HLV.out.later hb5
  have z0 : w5.cell? ⟨w.heap.size + 1 + 1, 0, none⟩ = some (.int .i64 4) := hlv.cell 0
  have z1 : w5.cell? ⟨w.heap.size + 1 + 1, 1, none⟩ = some (.int .i64 0) := hlv.cell 1
  have z2 : w5.cell? ⟨w.heap.size + 1 + 1, 2, none⟩ = some (.string ⟨#[67, 111, 110, 115]⟩) := hlv.cell 2
  have z3 : w5.cell? ⟨w.heap.size + 1 + 1, 3, none⟩ = some (.slice (some ⟨w.heap.size + 1, 0, none⟩) 2 2) := hlv.cell 3
  have u0 := z0
  have u1 := z1
  have u2 := z2
  have u3 := z3
  rw [hw5] at u0 u1 u2 u3
  have HB5 := Lib.hid hb5
  have HL5 := Lib.hid hl5
  have HW5 := Lib.hid hw5
  have HLV5 := Lib.hid hlv
  clear hb4 hw5 hb34 hb5 hl5 hlv
  go_wp2_with fail
  rw [← HW5.out]
  refine (HF.out _ HB5.out).mono ?_
  rintro e w6 ⟨rfl, hb6⟩
  have hb06 := HB5.out.trans (hb6.mono HB5.out.size)
  have hlv := HLV5.out.later hb6
  have hl6 := HL5.out.later hb6
  have y0 : w6.cell? ⟨w.heap.size + 1 + 1, 0, none⟩ = some (.int .i64 4) := hlv.cell 0
  have y1 : w6.cell? ⟨w.heap.size + 1 + 1, 1, none⟩ = some (.int .i64 0) := hlv.cell 1
  have y2 : w6.cell? ⟨w.heap.size + 1 + 1, 2, none⟩ = some (.string ⟨#[67, 111, 110, 115]⟩) := hlv.cell 2
  have y3 : w6.cell? ⟨w.heap.size + 1 + 1, 3, none⟩ = some (.slice (some ⟨w.heap.size + 1, 0, none⟩) 2 2) := hlv.cell 3
  have HB6 := Lib.hid hb06
  have HLV6 := Lib.hid hlv
  have HL6 := Lib.hid hl6
  clear hb06 hlv hl6 hb6
  go_wp2_with fail
  refine (HR.out _ HB6.out).mono ?_
  rintro e w7 ⟨rfl, hb7⟩
  have hb07 := HB6.out.trans (hb7.mono HB6.out.size)
  have hlv := HLV6.out.later hb7
  have hl7 := HL6.out.later hb7
  have x0 : w7.cell? ⟨w.heap.size + 1 + 1, 0, none⟩ = some (.int .i64 4) := hlv.cell 0
  have x1 : w7.cell? ⟨w.heap.size + 1 + 1, 1, none⟩ = some (.int .i64 0) := hlv.cell 1
  have x2 : w7.cell? ⟨w.heap.size + 1 + 1, 2, none⟩ = some (.string ⟨#[67, 111, 110, 115]⟩) := hlv.cell 2
  have x3 : w7.cell? ⟨w.heap.size + 1 + 1, 3, none⟩ = some (.slice (some ⟨w.heap.size + 1, 0, none⟩) 2 2) := hlv.cell 3
  have HB7 := Lib.hid hb07
  have HL7 := Lib.hid hl7
  clear hb07 hlv hl7 hb7
  go_wp2_with fail
  refine (HS.out _).mono ?_
  rintro e w8 ⟨rfl, hb8⟩
  have hl8 := HL7.out.later hb8
  have t1 : w8.cell? ⟨w2.heap.size, 1, none⟩ = some (.int .i64 (-3)) := hl8.cell 1
  have HB8 := Lib.hid (HB.out.trans ((HB7.out.trans (hb8.mono HB7.out.size)).mono HB.out.size))
  clear hl8 hb8
  go_wp2
  go_ret
  exact ⟨rfl, HB8.out⟩
end Go.Proofs.YtkdjmobplknmgaaDoor
