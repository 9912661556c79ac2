/- What the listed package-level variables give the walks: the signs, and an error value. -/
import Derived.Test.YtfkakmafedhgdaaGreatDoorRows
import Derived.Test.YtfkakmafedhgdaaGreatDoorMg03
import Derived.ProofKit
import Derived.LaidMore
import Derived.OpenShut
import Derived.Stop.Joined
import Derived.Stop.LaidErr
namespace Go.Proofs.YtfkakmafedhgdaaGreatDoor
open Go.ChangeShapes Go.WideShapes Go.ChangeAt Go.WideMaps Go.WideElems Go.RowKit

theorem Tryz.own : ownKnob Tryz.prog.godebug = none := by kernel_rfl
theorem Tryz.laidOut : laidOutB Tryz.prog = true := by kernel_rfl
def laid6 : List (String × DataW Unit) := [("math/bits.deBruijn32tab", Rows.laid_math_bits_deBruijn32tab), ("math/bits.deBruijn64tab", Rows.laid_math_bits_deBruijn64tab), ("internal/strconv.uint64pow10", Rows.laid_internal_strconv_uint64pow10), ("strconv.ErrRange", Rows.laid_strconv_ErrRange), ("strconv.ErrSyntax", Rows.laid_strconv_ErrSyntax), ("brocade/lex.signs", Rows.laid_brocade_lex_signs)]
theorem gRange : Tryz.prog.globalNamed "strconv.ErrRange" = some 2 := by kernel_rfl
theorem gSigns : Tryz.prog.globalNamed "brocade/lex.signs" = some 0 := by kernel_rfl
theorem tRange : (Tryz.prog.globals[2]?).map (·.type) = some 206 := by kernel_rfl
theorem tSigns : (Tryz.prog.globals[0]?).map (·.type) = some 182 := by kernel_rfl
set_option maxRecDepth 100000 in
/-- The door's own heap meets the condition. -/
theorem door_met (os : Os) (args : Array Value) : laidMetH Tryz.prog laid6 ((World.doorLaid Tryz.prog 400 os).forCall (fun _ _ => 0) ⟨#[], args, []⟩).memory :=
  laidMetH_of_parts3 (fuel := 8) (laidMet_of_run' 8 (by kernel_rfl) (by kernel_rfl)) (by kernel_rfl) (by kernel_rfl)

theorem star87 : "*" ++ "errors.errorString" = "*errors.errorString" := by decide
theorem row87 (u : TypeId) (h : Tryz.prog.typeName? 3 u = some "*errors.errorString") : u = 249 :=
  typeName_ptr_named (nm := "errors.errorString") (by rw [star87]; kernel_rfl) (by kernel_rfl) (by decide) u (by rw [star87]; exact h)
theorem cells89 : Tryz.prog.cellsOf 251 = 1 := by kernel_rfl
theorem cells9 : Tryz.prog.cellsOf 9 = 1 := by kernel_rfl
theorem lits_signs {H : Type} : (Rows.laid_brocade_lex_signs : DataW H) = .agg (sgnL.map fun l => .lit (.string l)) := rfl
theorem good_of_laid {W : World} (h : laidMetH Tryz.prog laid6 W) : Good W := by
  rw [MakeChecks.laidMetH_plain _ _ _ (by kernel_rfl)] at h
  have h3 := h.tail.tail.tail
  have h5 := h3.tail.tail
  constructor
  · obtain ⟨ps, ⟨g0, t0, cs0, f0, p0, q0, hg0, ht0, hv0, hd0, _, _⟩, _, _⟩ := h5
    obtain rfl := Option.some.inj (gSigns.symm.trans hg0)
    obtain rfl := Option.some.inj (tSigns.symm.trans ht0)
    obtain ⟨xs, m1, rfl, hx1, hlen, hn3, hel⟩ := DataW.trod_array Tryz.underlying182 hd0
    have c9 : Tryz.prog.cellsOf 9 = 1 := by kernel_rfl
    have c62 : Tryz.prog.cellsOf 182 = 16 := by kernel_rfl
    rw [c62] at hlen
    rw [lits_signs] at hx1
    simp only [Prod.mk.injEq, DataW.agg.injEq] at hx1
    have hcs : cs0 = sgnD := by
      apply Array.toList_inj.1
      apply List.ext_getElem?
      intro i
      rcases Nat.lt_or_ge i 16 with hi | hi
      · have he := hel i hi
        rw [c9, Nat.mul_one] at he
        have hxi : i < xs.length := by omega
        rw [List.getElem?_eq_getElem hxi] at he
        obtain ⟨s, e1, e2, _⟩ := DataW.trod_string Tryz.underlying9 he
        have hci : i < cs0.toList.length := by rw [hlen]; exact hi
        rw [List.drop_eq_getElem_cons hci] at e1
        simp only [List.take_succ_cons, List.take_zero, List.cons.injEq, and_true] at e1
        have hs : s.data.toList = sgn i := by
          have h2 := congrArg (fun l : List (DataW Unit) => l[i]?) hx1.1
          simp only [List.getElem?_map, List.getElem?_eq_getElem hxi, Option.map_some, e2] at h2
          have hl : i < sgnL.length := hi
          rw [List.getElem?_eq_getElem hl] at h2
          simp only [Option.map_some, Option.some.injEq, DataW.lit.injEq, Lit.string.injEq] at h2
          unfold sgn
          rw [List.getD_eq_getElem?_getD, List.getElem?_eq_getElem hl, Option.getD_some]
          exact h2.symm
        have hsb : s = ba (sgn i) := by
          rw [← hs]; simp [ba]
        rw [List.getElem?_eq_getElem hci, e1, hsb]
        have hall : ∀ j, j < 16 → sgnD.toList[j]? = some (.string (ba (sgn j))) := by
          intro j hj
          rcases (show j = 0 ∨ j = 1 ∨ j = 2 ∨ j = 3 ∨ j = 4 ∨ j = 5 ∨ j = 6 ∨ j = 7 ∨ j = 8 ∨ j = 9 ∨ j = 10 ∨ j = 11 ∨ j = 12 ∨ j = 13 ∨ j = 14 ∨ j = 15 by omega) with rfl | rfl | rfl | rfl | rfl | rfl | rfl | rfl | rfl | rfl | rfl | rfl | rfl | rfl | rfl | rfl <;> rfl
        exact (hall i hi).symm
      · rw [List.getElem?_eq_none (by rw [hlen]; exact hi), List.getElem?_eq_none (by exact hi)]
    subst hcs
    unfold World.var? at hv0
    rw [gSigns] at hv0
    simp only [Option.bind_some] at hv0
    rcases hh : W.heap[0]? with _ | o
    · rw [hh] at hv0; cases hv0
    · rw [hh] at hv0
      match o, hv0 with
      | .cells cs t fr, hv0 =>
        simp only [Option.some.injEq] at hv0
        subst hv0
        exact ⟨t, fr, rfl⟩
  · obtain ⟨a0, s0, hv0, _, _, _⟩ := laid_sentinel h3 gRange tRange Tryz.underlying206 row87 Tryz.underlying249 Tryz.underlying251 rfl rfl Tryz.underlying9 cells89 cells9
    exact ⟨249, .pointer (some a0), by simpa using World.var?_cell gRange hv0 0⟩
end Go.Proofs.YtfkakmafedhgdaaGreatDoor
