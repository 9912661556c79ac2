/- The machine of package source: Run. -/
import Derived.Test.YtmodmojocclmaaaGreatDoorMg19
import Derived.Test.YtmodmojocclmaaaGreatDoorMg06
import Derived.Deep.LoopGhost
import Derived.BigQuiet
namespace Go.Proofs.YtmodmojocclmaaaGreatDoor.K
open Go Go.RowKit
namespace So

theorem step_any {w0 : World} {mb : Nat} {H : Mem} {s : St} {w : World} (h : MS w0 mb H s w) (ho : s.out = 0) (B : Bd s) (hst : s.steps ≤ 1000000) (hne : s.at_ = none → s.above ≠ [] ∨ s.hs ≠ []) :
  Calls Tryz.prog 17 #[pt mb] w (StepEnd w0 mb H (step s)) := by
 cases ha : s.at_ with
 | none => exact step_val h ho B hst ha (hne ha)
 | some p =>
  obtain ⟨t, en⟩ := p
  exact step_term h ho B hst ha
structure Runs (s : St) (n : Nat) : Prop where
 bd : ∀ j, j ≤ n → Bd (run j s)
 ne : ∀ j, j ≤ n → (run j s).out = 0 → (run j s).at_ = none → (run j s).above ≠ [] ∨ (run j s).hs ≠ []
theorem memOf_alloc (w : World) (o : Obj) : MLe (memOf w) (memOf (w.alloc o)) := fun b _ hb => (Below.heap_alloc w o b (Array.getElem?_eq_some_iff.1 hb).1).trans hb
theorem MS.reads {w0 : World} {mb : Nat} {H : Mem} {s : St} {w : World} (h : MS w0 mb H s w) : w.cell? ⟨mb, 12, none⟩ = some (.int .i64 (s.steps : Int)) := by
 obtain ⟨tv, ev, v0, v1, v2, v3, fv, hv, cv, iv, lv, h⟩ := h
 exact h.lies.cell 12
theorem MS.kept0 {w0 : World} {mb : Nat} {H : Mem} {s : St} {w : World} (h : MS w0 mb H s w) : Below w0.heap.size w0 w := by
 have hlt := h.lt
 obtain ⟨tv, ev, v0, v1, v2, v3, fv, hv, cv, iv, lv, h⟩ := h
 exact h.core.below (by have := h.core.base; omega)
def BeEnd (w : World) (mb : Nat) (s0 : St) (e : Ending) (w2 : World) : Prop := e = .returned (pt mb) ∧ ∃ W1, Below w.heap.size w W1 ∧ W1.heap.size = mb ∧ Lies W1 (w.heap.size + 1) 42 #[.int .i64 0, .int .i64 0, .int .i64 0, .string ⟨#[]⟩, .slice none 0 0, .slice none 0 0, .int .i64 0, .int .i64 0] ∧ MS W1 mb (memOf W1) s0 w2
theorem run_add (s : St) : ∀ a b, run (a + b) s = run b (run a s)
 | 0, b => by rw [Nat.zero_add]; rfl
 | a + 1, b => by
  by_cases h : s.out = 0
  ·rw [show a + 1 + b = (a + b) + 1 by omega, run_one h, run_one h, run_add (step s) a b]
  ·rw [run_over h, run_over h, run_over h]
theorem run_stay {s : St} {j n : Nat} (h : (run j s).out ≠ 0) (hj : j ≤ n) : run j s = run n s := by
 obtain ⟨d, rfl⟩ := Nat.exists_eq_add_of_le hj
 rw [run_add, run_over h]
def RunRel (W1 : World) (mb : Nat) (s0 : St) (n : Nat) (k : Nat) (wr : World) : Prop := ∃ (j : Nat) (H' : Mem), j + k = n ∧ MS W1 mb H' (run j s0) wr ∧ (run j s0).steps = j
set_option maxRecDepth 100000 in
set_option maxHeartbeats 4000000 in
theorem run_any (w : World) (pC : Array Value) (iv : Value) (n : Nat) (hn : n ≤ 100000) {t : Tm} {input : List Int} (ht : TmA (memOf (w.alloc (.cells pC 47))) w.heap.size 2 t) (hi : InV (memOf w) iv input) (hR : Runs (start t input) n) (hv : (run n (start t input)).out ≠ 1) :
  Calls Tryz.prog 9 #[.agg pC, iv, .int .i64 (n : Int)] w (ToldEnd (run n (start t input)) 0 0 w) := by
 have hbe0 := begin_any ((w.alloc (.cells pC 47)).alloc (.cells #[.int .i64 0, .int .i64 0, .int .i64 0, .string ⟨#[]⟩, .slice none 0 0, .slice none 0 0, .int .i64 0, .int .i64 0] 42)) (ht.le (memOf_alloc _ _)) (hi.le ((memOf_alloc _ _).trans (memOf_alloc _ _)))
 obtain ⟨mb, hmb⟩ : ∃ mb, mb = w.heap.size + 1 + 1 := ⟨_, rfl⟩
 obtain ⟨s0, hs0⟩ : ∃ s0, s0 = start t input := ⟨_, rfl⟩
 have hst0 : s0.steps = 0 := by rw [hs0]; rfl
 rw [← hs0] at hbe0 hR hv ⊢
 have hbe := hbe0.mono (R' := BeEnd w mb s0) (fun e w' h => by
  have hz : ((w.alloc (.cells pC 47)).alloc (.cells #[.int .i64 0, .int .i64 0, .int .i64 0, .string ⟨#[]⟩, .slice none 0 0, .slice none 0 0, .int .i64 0, .int .i64 0] 42)).heap.size = mb := by rw [hmb]; simp
  rw [hz] at h
  refine ⟨h.1, _, ((Below.refl _ _).alloc (Nat.le_refl _) _).alloc (by simp) _, hz, ?_, h.2⟩
  have := Lies.new (w.alloc (.cells pC 47)) 42 #[.int .i64 0, .int .i64 0, .int .i64 0, .string ⟨#[]⟩, .slice none 0 0, .slice none 0 0, .int .i64 0, .int .i64 0]
  simpa using this)
 have HBE := Lib.hid hbe
 have HR := Lib.hid hR
 have HV := Lib.hid hv
 have HS0 := Lib.hid hst0
 have hmw : w.heap.size + 1 < mb := by omega
 clear hbe hbe0 ht hi hR hv hst0 hs0 hmb
 unfold ptO at *
 go_enter Tryz.func9, Tryz.ntmps9
 go_wp2_with fail
 refine HBE.out.mono ?_
 rintro e w2 ⟨rfl, W1, hb1, hz1, lz1, m2⟩
 have HB1 := Lib.hid hb1
 have HZ1 := Lib.hid hz1
 have LZ1 := Lib.hid lz1
 have M2 := Lib.hid m2
 clear hb1 hz1 lz1 m2
 unfold pt
 dsimp only
 go_wp2_with fail
 go_loopg [11] n (fun k _ wr => RunRel W1 mb s0 n k wr)
 case atStart => exact ⟨0, _, by omega, M2.out, HS0.out⟩
 case round =>
  obtain ⟨j, H', hj, hms, hsj⟩ := hrel
  have c12 := hms.reads
  rw [hsj] at c12
  have HB1w := Lib.hid hms.kept0
  by_cases hlt : j < n
  ·have hji : (j : Int) < (n : Int) := by omega
   by_cases ho : (run j s0).out = 0
   ·have HST := Lib.hid (step_any hms ho (HR.out.bd j (by omega)) (by omega) (HR.out.ne j (by omega) ho))
    have hrm := run_more (s := s0) j ho
    have HRM := Lib.hid hrm
    have HSJ := Lib.hid hsj
    have HJ := Lib.hid hj
    clear hms hrm hsj hj ho
    unfold pt at *
    go_wp2_with fail
    refine HST.out.mono ?_
    rintro e w5 ⟨rfl, H5, k5, m5⟩
    rw [← HRM.out.1] at m5
    have M5 := Lib.hid m5
    clear k5 m5
    go_wp2
    go_roundg (n - (j + 1))
    case measure => have := HJ.out; omega
    case rel => exact ⟨j + 1, H5, by have := HJ.out; omega, M5.out, by rw [HRM.out.1, step_steps, HSJ.out]⟩
   ·have HST := Lib.hid (step_over hms ho)
    have hrun := run_stay ho (show j ≤ n by omega)
    have HTO := Lib.hid (told_any hms (Bd.trace (HR.out.bd j (by omega))) (by rw [hrun]; exact HV.out))
    have HRUN := Lib.hid hrun
    clear hms hrun ho hsj
    unfold pt at *
    go_wp2_with fail
    refine HST.out.mono ?_
    rintro e w5 ⟨rfl, rfl⟩
    go_wp2_with fail
    refine HTO.out.mono ?_
    rintro e w6 ⟨tr, rfl, ho6, hb6⟩
    obtain ⟨TA, tn, tc, rfl⟩ := own_slice ho6
    rw [HRUN.out] at ho6 ⊢
    have hwz : mb ≤ w5.heap.size := by have := HB1w.out.size; have := HZ1.out; omega
    have l6 : Lies w6 (w.heap.size + 1) 42 #[.int .i64 0, .int .i64 0, .int .i64 0, .string ⟨#[]⟩, .slice none 0 0, .slice none 0 0, .int .i64 0, .int .i64 0] := (hb6.block _ (by omega)).trans ((HB1w.out.block _ (by have := HZ1.out; omega)).trans LZ1.out)
    have hrow : ((runL (run n s0).out 0 0 (.slice TA tn tc) (run n s0).steps (run n s0).konts).all fun x => x.oneCell') = true := by simp [runL, Value.oneCell']
    have hszr : (Tryz.prog.info? 42).map (·.size) = some (runL (run n s0).out 0 0 (.slice TA tn tc) (run n s0).steps (run n s0).konts).size := szRun
    have B6 : Below w.heap.size w w6 := (HB1.out.trans (HB1w.out.mono (by have := HZ1.out; omega))).trans (hb6.mono (by omega))
    have HB7 := Lib.hid (below_setRow' B6 (show w.heap.size ≤ w.heap.size + 1 by omega) (runL (run n s0).out 0 0 (.slice TA tn tc) (run n s0).steps (run n s0).konts))
    have HL7 := Lib.hid (lies_setRow' l6 (runL (run n s0).out 0 0 (.slice TA tn tc) (run n s0).steps (run n s0).konts))
    have HO7 := Lib.hid (own_mono (own_same ho6 (w' := w6.setRow (w.heap.size + 1) (runL (run n s0).out 0 0 (.slice TA tn tc) (run n s0).steps (run n s0).konts)) (fun g h1 _ => heap_setRow' _ _ _ g (by omega))) (show w.heap.size ≤ w5.heap.size by omega))
    have HL6 := Lib.hid l6
    have HRW := Lib.hid hrow
    have HSZ := Lib.hid hszr
    clear l6 hrow hszr B6 ho6 hb6 hwz
    dsimp only
    go_wp2_with (refine wpList_store_rowTo rfl 42 (.tmp 6) (.tmp 22) rfl rfl (w.heap.size + 1) (runL (run n s0).out 0 0 (.slice TA tn tc) (run n s0).steps (run n s0).konts) rfl rfl 42 #[.int .i64 0, .int .i64 0, .int .i64 0, .string ⟨#[]⟩, .slice none 0 0, .slice none 0 0, .int .i64 0, .int .i64 0] ?_ HSZ.out rfl HRW.out ?_; exact HL6.out)
    refine bodyPost_ret (v := .agg (runL (run n s0).out 0 0 (.slice TA tn tc) (run n s0).steps (run n s0).konts)) (results_cell_row rfl _ _ (w.heap.size + 1) 42 _ (0, 0) _ rfl HL7.out Tryz.underlying42 rfl szRun) rfl ?_
    exact ⟨_, rfl, HO7.out, HB7.out⟩
  ·have hjn : j = n := by omega
   have hrun : run j s0 = run n s0 := by rw [hjn]
   have hni : ¬ (j : Int) < (n : Int) := by omega
   have hnd : decide ((j : Int) < (n : Int)) = false := by simp; omega
   have HTO := Lib.hid (told_any hms (Bd.trace (HR.out.bd j (by omega))) (by rw [hrun]; exact HV.out))
   have HRUN := Lib.hid hrun
   clear hms hrun hjn hsj hni
   unfold pt at *
   go_wp2_with fail
   refine HTO.out.mono ?_
   rintro e w6 ⟨tr, rfl, ho6, hb6⟩
   obtain ⟨TA, tn, tc, rfl⟩ := own_slice ho6
   rw [HRUN.out] at ho6 ⊢
   have hwz : mb ≤ wr.heap.size := by have := HB1w.out.size; have := HZ1.out; omega
   have l6 : Lies w6 (w.heap.size + 1) 42 #[.int .i64 0, .int .i64 0, .int .i64 0, .string ⟨#[]⟩, .slice none 0 0, .slice none 0 0, .int .i64 0, .int .i64 0] := (hb6.block _ (by omega)).trans ((HB1w.out.block _ (by have := HZ1.out; omega)).trans LZ1.out)
   have hrow : ((runL (run n s0).out 0 0 (.slice TA tn tc) (run n s0).steps (run n s0).konts).all fun x => x.oneCell') = true := by simp [runL, Value.oneCell']
   have hszr : (Tryz.prog.info? 42).map (·.size) = some (runL (run n s0).out 0 0 (.slice TA tn tc) (run n s0).steps (run n s0).konts).size := szRun
   have B6 : Below w.heap.size w w6 := (HB1.out.trans (HB1w.out.mono (by have := HZ1.out; omega))).trans (hb6.mono (by omega))
   have HB7 := Lib.hid (below_setRow' B6 (show w.heap.size ≤ w.heap.size + 1 by omega) (runL (run n s0).out 0 0 (.slice TA tn tc) (run n s0).steps (run n s0).konts))
   have HL7 := Lib.hid (lies_setRow' l6 (runL (run n s0).out 0 0 (.slice TA tn tc) (run n s0).steps (run n s0).konts))
   have HO7 := Lib.hid (own_mono (own_same ho6 (w' := w6.setRow (w.heap.size + 1) (runL (run n s0).out 0 0 (.slice TA tn tc) (run n s0).steps (run n s0).konts)) (fun g h1 _ => heap_setRow' _ _ _ g (by omega))) (show w.heap.size ≤ wr.heap.size by omega))
   have HL6 := Lib.hid l6
   have HRW := Lib.hid hrow
   have HSZ := Lib.hid hszr
   clear l6 hrow hszr B6 ho6 hb6 hwz
   dsimp only
   go_wp2_with (refine wpList_store_rowTo rfl 42 (.tmp 6) (.tmp 22) rfl rfl (w.heap.size + 1) (runL (run n s0).out 0 0 (.slice TA tn tc) (run n s0).steps (run n s0).konts) rfl rfl 42 #[.int .i64 0, .int .i64 0, .int .i64 0, .string ⟨#[]⟩, .slice none 0 0, .slice none 0 0, .int .i64 0, .int .i64 0] ?_ HSZ.out rfl HRW.out ?_; exact HL6.out)
   refine bodyPost_ret (v := .agg (runL (run n s0).out 0 0 (.slice TA tn tc) (run n s0).steps (run n s0).konts)) (results_cell_row rfl _ _ (w.heap.size + 1) 42 _ (0, 0) _ rfl HL7.out Tryz.underlying42 rfl szRun) rfl ?_
   exact ⟨_, rfl, HO7.out, HB7.out⟩
end So
end Go.Proofs.YtmodmojocclmaaaGreatDoor.K

/- The machine of package source: Run, where it ends with a value without kids. -/
namespace Go.Proofs.YtmodmojocclmaaaGreatDoor.K
open Go Go.RowKit
namespace So

set_option maxRecDepth 100000 in
set_option maxHeartbeats 4000000 in
theorem run_val (w : World) (pC : Array Value) (iv : Value) (n : Nat) (hn : n ≤ 100000) {t : Tm} {input : List Int} (ht : TmA (memOf (w.alloc (.cells pC 47))) w.heap.size 2 t) (hi : InV (memOf w) iv input) (hR : Runs (start t input) n) {k' n' : Int} (hv : (run n (start t input)).out = 1 ∧ (run n (start t input)).at_ = none ∧ (run n (start t input)).val = .lit k' n') :
  Calls Tryz.prog 9 #[.agg pC, iv, .int .i64 (n : Int)] w (ToldEnd (run n (start t input)) k' n' w) := by
 have hbe0 := begin_any ((w.alloc (.cells pC 47)).alloc (.cells #[.int .i64 0, .int .i64 0, .int .i64 0, .string ⟨#[]⟩, .slice none 0 0, .slice none 0 0, .int .i64 0, .int .i64 0] 42)) (ht.le (memOf_alloc _ _)) (hi.le ((memOf_alloc _ _).trans (memOf_alloc _ _)))
 obtain ⟨mb, hmb⟩ : ∃ mb, mb = w.heap.size + 1 + 1 := ⟨_, rfl⟩
 obtain ⟨s0, hs0⟩ : ∃ s0, s0 = start t input := ⟨_, rfl⟩
 have hst0 : s0.steps = 0 := by rw [hs0]; rfl
 rw [← hs0] at hbe0 hR hv ⊢
 have hbe := hbe0.mono (R' := BeEnd w mb s0) (fun e w' h => by
  have hz : ((w.alloc (.cells pC 47)).alloc (.cells #[.int .i64 0, .int .i64 0, .int .i64 0, .string ⟨#[]⟩, .slice none 0 0, .slice none 0 0, .int .i64 0, .int .i64 0] 42)).heap.size = mb := by rw [hmb]; simp
  rw [hz] at h
  refine ⟨h.1, _, ((Below.refl _ _).alloc (Nat.le_refl _) _).alloc (by simp) _, hz, ?_, h.2⟩
  have := Lies.new (w.alloc (.cells pC 47)) 42 #[.int .i64 0, .int .i64 0, .int .i64 0, .string ⟨#[]⟩, .slice none 0 0, .slice none 0 0, .int .i64 0, .int .i64 0]
  simpa using this)
 have HBE := Lib.hid hbe
 have HR := Lib.hid hR
 have HV := Lib.hid hv
 have HS0 := Lib.hid hst0
 have hmw : w.heap.size + 1 < mb := by omega
 clear hbe hbe0 ht hi hR hv hst0 hs0 hmb
 unfold ptO at *
 go_enter Tryz.func9, Tryz.ntmps9
 go_wp2_with fail
 refine HBE.out.mono ?_
 rintro e w2 ⟨rfl, W1, hb1, hz1, lz1, m2⟩
 have HB1 := Lib.hid hb1
 have HZ1 := Lib.hid hz1
 have LZ1 := Lib.hid lz1
 have M2 := Lib.hid m2
 clear hb1 hz1 lz1 m2
 unfold pt
 dsimp only
 go_wp2_with fail
 go_loopg [11] n (fun k _ wr => RunRel W1 mb s0 n k wr)
 case atStart => exact ⟨0, _, by omega, M2.out, HS0.out⟩
 case round =>
  obtain ⟨j, H', hj, hms, hsj⟩ := hrel
  have c12 := hms.reads
  rw [hsj] at c12
  have HB1w := Lib.hid hms.kept0
  by_cases hlt : j < n
  ·have hji : (j : Int) < (n : Int) := by omega
   by_cases ho : (run j s0).out = 0
   ·have HST := Lib.hid (step_any hms ho (HR.out.bd j (by omega)) (by omega) (HR.out.ne j (by omega) ho))
    have hrm := run_more (s := s0) j ho
    have HRM := Lib.hid hrm
    have HSJ := Lib.hid hsj
    have HJ := Lib.hid hj
    clear hms hrm hsj hj ho
    unfold pt at *
    go_wp2_with fail
    refine HST.out.mono ?_
    rintro e w5 ⟨rfl, H5, k5, m5⟩
    rw [← HRM.out.1] at m5
    have M5 := Lib.hid m5
    clear k5 m5
    go_wp2
    go_roundg (n - (j + 1))
    case measure => have := HJ.out; omega
    case rel => exact ⟨j + 1, H5, by have := HJ.out; omega, M5.out, by rw [HRM.out.1, step_steps, HSJ.out]⟩
   ·have HST := Lib.hid (step_over hms ho)
    have hrun := run_stay ho (show j ≤ n by omega)
    have HTO := Lib.hid (told_val (k := k') (n := n') hms (Bd.trace (HR.out.bd j (by omega))) (by rw [hrun]; exact HV.out.1) (by rw [hrun]; exact HV.out.2.1) (by rw [hrun]; exact HV.out.2.2))
    have HRUN := Lib.hid hrun
    clear hms hrun ho hsj
    unfold pt at *
    go_wp2_with fail
    refine HST.out.mono ?_
    rintro e w5 ⟨rfl, rfl⟩
    go_wp2_with fail
    refine HTO.out.mono ?_
    rintro e w6 ⟨tr, rfl, ho6, hb6⟩
    obtain ⟨TA, tn, tc, rfl⟩ := own_slice ho6
    rw [HRUN.out] at ho6 ⊢
    have hwz : mb ≤ w5.heap.size := by have := HB1w.out.size; have := HZ1.out; omega
    have l6 : Lies w6 (w.heap.size + 1) 42 #[.int .i64 0, .int .i64 0, .int .i64 0, .string ⟨#[]⟩, .slice none 0 0, .slice none 0 0, .int .i64 0, .int .i64 0] := (hb6.block _ (by omega)).trans ((HB1w.out.block _ (by have := HZ1.out; omega)).trans LZ1.out)
    have hrow : ((runL (run n s0).out k' n' (.slice TA tn tc) (run n s0).steps (run n s0).konts).all fun x => x.oneCell') = true := by simp [runL, Value.oneCell']
    have hszr : (Tryz.prog.info? 42).map (·.size) = some (runL (run n s0).out k' n' (.slice TA tn tc) (run n s0).steps (run n s0).konts).size := szRun
    have B6 : Below w.heap.size w w6 := (HB1.out.trans (HB1w.out.mono (by have := HZ1.out; omega))).trans (hb6.mono (by omega))
    have HB7 := Lib.hid (below_setRow' B6 (show w.heap.size ≤ w.heap.size + 1 by omega) (runL (run n s0).out k' n' (.slice TA tn tc) (run n s0).steps (run n s0).konts))
    have HL7 := Lib.hid (lies_setRow' l6 (runL (run n s0).out k' n' (.slice TA tn tc) (run n s0).steps (run n s0).konts))
    have HO7 := Lib.hid (own_mono (own_same ho6 (w' := w6.setRow (w.heap.size + 1) (runL (run n s0).out k' n' (.slice TA tn tc) (run n s0).steps (run n s0).konts)) (fun g h1 _ => heap_setRow' _ _ _ g (by omega))) (show w.heap.size ≤ w5.heap.size by omega))
    have HL6 := Lib.hid l6
    have HRW := Lib.hid hrow
    have HSZ := Lib.hid hszr
    clear l6 hrow hszr B6 ho6 hb6 hwz
    dsimp only
    go_wp2_with (refine wpList_store_rowTo rfl 42 (.tmp 6) (.tmp 22) rfl rfl (w.heap.size + 1) (runL (run n s0).out k' n' (.slice TA tn tc) (run n s0).steps (run n s0).konts) rfl rfl 42 #[.int .i64 0, .int .i64 0, .int .i64 0, .string ⟨#[]⟩, .slice none 0 0, .slice none 0 0, .int .i64 0, .int .i64 0] ?_ HSZ.out rfl HRW.out ?_; exact HL6.out)
    refine bodyPost_ret (v := .agg (runL (run n s0).out k' n' (.slice TA tn tc) (run n s0).steps (run n s0).konts)) (results_cell_row rfl _ _ (w.heap.size + 1) 42 _ (0, 0) _ rfl HL7.out Tryz.underlying42 rfl szRun) rfl ?_
    exact ⟨_, rfl, HO7.out, HB7.out⟩
  ·have hjn : j = n := by omega
   have hrun : run j s0 = run n s0 := by rw [hjn]
   have hni : ¬ (j : Int) < (n : Int) := by omega
   have hnd : decide ((j : Int) < (n : Int)) = false := by simp; omega
   have HTO := Lib.hid (told_val (k := k') (n := n') hms (Bd.trace (HR.out.bd j (by omega))) (by rw [hrun]; exact HV.out.1) (by rw [hrun]; exact HV.out.2.1) (by rw [hrun]; exact HV.out.2.2))
   have HRUN := Lib.hid hrun
   clear hms hrun hjn hsj hni
   unfold pt at *
   go_wp2_with fail
   refine HTO.out.mono ?_
   rintro e w6 ⟨tr, rfl, ho6, hb6⟩
   obtain ⟨TA, tn, tc, rfl⟩ := own_slice ho6
   rw [HRUN.out] at ho6 ⊢
   have hwz : mb ≤ wr.heap.size := by have := HB1w.out.size; have := HZ1.out; omega
   have l6 : Lies w6 (w.heap.size + 1) 42 #[.int .i64 0, .int .i64 0, .int .i64 0, .string ⟨#[]⟩, .slice none 0 0, .slice none 0 0, .int .i64 0, .int .i64 0] := (hb6.block _ (by omega)).trans ((HB1w.out.block _ (by have := HZ1.out; omega)).trans LZ1.out)
   have hrow : ((runL (run n s0).out k' n' (.slice TA tn tc) (run n s0).steps (run n s0).konts).all fun x => x.oneCell') = true := by simp [runL, Value.oneCell']
   have hszr : (Tryz.prog.info? 42).map (·.size) = some (runL (run n s0).out k' n' (.slice TA tn tc) (run n s0).steps (run n s0).konts).size := szRun
   have B6 : Below w.heap.size w w6 := (HB1.out.trans (HB1w.out.mono (by have := HZ1.out; omega))).trans (hb6.mono (by omega))
   have HB7 := Lib.hid (below_setRow' B6 (show w.heap.size ≤ w.heap.size + 1 by omega) (runL (run n s0).out k' n' (.slice TA tn tc) (run n s0).steps (run n s0).konts))
   have HL7 := Lib.hid (lies_setRow' l6 (runL (run n s0).out k' n' (.slice TA tn tc) (run n s0).steps (run n s0).konts))
   have HO7 := Lib.hid (own_mono (own_same ho6 (w' := w6.setRow (w.heap.size + 1) (runL (run n s0).out k' n' (.slice TA tn tc) (run n s0).steps (run n s0).konts)) (fun g h1 _ => heap_setRow' _ _ _ g (by omega))) (show w.heap.size ≤ wr.heap.size by omega))
   have HL6 := Lib.hid l6
   have HRW := Lib.hid hrow
   have HSZ := Lib.hid hszr
   clear l6 hrow hszr B6 ho6 hb6 hwz
   dsimp only
   go_wp2_with (refine wpList_store_rowTo rfl 42 (.tmp 6) (.tmp 22) rfl rfl (w.heap.size + 1) (runL (run n s0).out k' n' (.slice TA tn tc) (run n s0).steps (run n s0).konts) rfl rfl 42 #[.int .i64 0, .int .i64 0, .int .i64 0, .string ⟨#[]⟩, .slice none 0 0, .slice none 0 0, .int .i64 0, .int .i64 0] ?_ HSZ.out rfl HRW.out ?_; exact HL6.out)
   refine bodyPost_ret (v := .agg (runL (run n s0).out k' n' (.slice TA tn tc) (run n s0).steps (run n s0).konts)) (results_cell_row rfl _ _ (w.heap.size + 1) 42 _ (0, 0) _ rfl HL7.out Tryz.underlying42 rfl szRun) rfl ?_
   exact ⟨_, rfl, HO7.out, HB7.out⟩
end So
end Go.Proofs.YtmodmojocclmaaaGreatDoor.K

/- Whether two lists of numbers are the same. -/
namespace Go.Proofs.YtmodmojocclmaaaGreatDoor.K
open Go Go.RowKit
namespace So

def IntsS (w : World) (u : Value) (xs : List Int) : Prop := ∃ A c, u = .slice A xs.length c ∧ xs.length ≤ c ∧ (0 < xs.length → ∃ g o, A = some ⟨g, o, none⟩ ∧ ∀ (j : Nat) x, xs[j]? = some x → w.cell? ⟨g, o + j, none⟩ = some (.int .i64 x))
theorem IntsS.later {w w' : World} {u : Value} {xs : List Int} (h : IntsS w u xs) (hb : Below w.heap.size w w') : IntsS w' u xs := by
 obtain ⟨A, c, h1, h2, h3⟩ := h
 refine ⟨A, c, h1, h2, fun h0 => ?_⟩
 obtain ⟨g, o, h4, h5⟩ := h3 h0
 exact ⟨g, o, h4, fun j x hx => (World.cell?_of_block (w := w) (hb.block _ (World.block_lt_of_cell? w _ (h5 j x hx)))).trans (h5 j x hx)⟩
set_option maxRecDepth 100000 in
set_option maxHeartbeats 4000000 in
theorem same_trace (w : World) (u v : Value) (xs ys : List Int) (hu : IntsS w u xs) (hv : IntsS w v ys) (hx : xs.length ≤ 2000000) (hy : ys.length ≤ 2000000) :
  Calls Tryz.prog 12 #[u, v] w fun e w' => e = .returned (.bool (decide (xs = ys))) ∧ Below w.heap.size w w' := by
 have HU := Lib.hid hu
 have HV := Lib.hid hv
 obtain ⟨A, c, rfl, hc, hA⟩ := hu
 obtain ⟨B, d, rfl, hd, hB⟩ := hv
 by_cases hl : xs.length = ys.length
 ·obtain ⟨n, hn⟩ : ∃ n, n = xs.length := ⟨_, rfl⟩
  rw [← hl, ← hn] at hd hB HV hy ⊢
  rw [← hn] at hc hA HU hx
  have hne : ((n : Int) == (n : Int)) = true := by simp
  have hne2 : ((n : Int) != (n : Int)) = false := by simp
  have HN := Lib.hid hn
  have HL := Lib.hid hl
  have HA := Lib.hid hA
  have HB := Lib.hid hB
  clear hn hl hA hB
  go_enter Tryz.func12, Tryz.ntmps12
  go_wp2_with fail
  go_loopw [5] (fun x wr => ∃ q : Nat, q ≤ n ∧ x = .int .i64 (q : Int) ∧ (∀ j : Nat, j < q → xs[j]? = ys[j]?) ∧ Below w.heap.size w wr) (fun x _ => n - (intOf x).toNat)
  case atStart => exact ⟨0, Nat.zero_le _, rfl, fun j h => absurd h (by omega), Below.refl _ _⟩
  case round =>
   obtain ⟨q, hq, rfl, hall, hb⟩ := hrel
   have HALL := Lib.hid hall
   have HBW := Lib.hid hb
   clear hall hb
   by_cases hlt : q < n
   ·obtain ⟨g, o, rfl, hcg⟩ := HA.out (by omega)
    obtain ⟨g2, o2, rfl, hcg2⟩ := HB.out (by omega)
    obtain ⟨x, hxq⟩ : ∃ x, xs[q]? = some x := ⟨_, List.getElem?_eq_getElem (by rw [← HN.out]; exact hlt)⟩
    obtain ⟨y, hyq⟩ : ∃ y, ys[q]? = some y := ⟨_, List.getElem?_eq_getElem (by rw [← HL.out, ← HN.out]; exact hlt)⟩
    have a0 : wr.cell? ⟨g, o + q, none⟩ = some (.int .i64 x) := (World.cell?_of_block (w := w) (HBW.out.block _ (World.block_lt_of_cell? w _ (hcg q x hxq)))).trans (hcg q x hxq)
    have b0 : wr.cell? ⟨g2, o2 + q, none⟩ = some (.int .i64 y) := (World.cell?_of_block (w := w) (HBW.out.block _ (World.block_lt_of_cell? w _ (hcg2 q y hyq)))).trans (hcg2 q y hyq)
    have hqi : (q : Int) < (n : Int) := by omega
    have hqc : q < c := by omega
    have hqd : q < d := by omega
    have HX := Lib.hid hxq
    have HY := Lib.hid hyq
    clear hcg hcg2 hxq hyq
    by_cases he : x = y
    ·have hxy : (x == y) = true := by rw [he]; simp
     have HE := Lib.hid he
     clear he
     go_wp2_with fail
     go_quiet (fail)
     go_wp2
     go_roundw
     case rel => exact ⟨q + 1, by omega, by go_num, fun j hj => by rcases Nat.lt_succ_iff_lt_or_eq.1 hj with h | rfl; exact HALL.out j h; rw [HX.out, HY.out, HE.out], HBW.out.trans ⟨rfl, rfl, rfl, Nat.le_refl _, fun _ _ => rfl⟩⟩
     case measure => (simp [intOf] <;> omega)
    ·have hxy : (x == y) = false := by rw [beq_eq_false_iff_ne]; exact he
     have hnxy : decide (xs = ys) = false := by
      rw [decide_eq_false_iff_not]
      intro h
      have := HX.out
      rw [h, HY.out] at this
      exact he (Option.some.inj this).symm
     have HE := Lib.hid hnxy
     clear he hnxy
     go_wp2_with fail
     go_quiet (fail)
     go_wp2
     go_ret
     exact ⟨by rw [HE.out]; rfl, HBW.out.trans ⟨rfl, rfl, rfl, Nat.le_refl _, fun _ _ => rfl⟩⟩
   ·obtain rfl : q = n := by omega
    have heq : decide (xs = ys) = true := by
     rw [decide_eq_true_eq]
     apply List.ext_getElem?
     intro i
     by_cases hi : i < q
     ·exact HALL.out i hi
     ·rw [List.getElem?_eq_none (by rw [← HN.out]; omega), List.getElem?_eq_none (by rw [← HL.out, ← HN.out]; omega)]
    have HE := Lib.hid heq
    clear heq
    go_wp2
    go_ret
    exact ⟨by rw [HE.out]; rfl, HBW.out⟩
 ·have hne : ((xs.length : Int) == (ys.length : Int)) = false := by rw [beq_eq_false_iff_ne]; omega
  have hnxy : decide (xs = ys) = false := by
   rw [decide_eq_false_iff_not]
   intro h
   exact hl (by rw [h])
  have HE := Lib.hid hnxy
  have hne2 : ((xs.length : Int) != (ys.length : Int)) = true := by rw [bne_iff_ne]; omega
  clear hnxy hA hB
  go_enter Tryz.func12, Tryz.ntmps12
  go_wp2
  go_ret
  exact ⟨by rw [HE.out]; rfl, Below.refl _ _⟩
end So
end Go.Proofs.YtmodmojocclmaaaGreatDoor.K

/- The terms that the laws of package source make. -/
namespace Go.Proofs.YtmodmojocclmaaaGreatDoor.K
open Go Go.RowKit
namespace So

def TmEnd (k : Int) (nm : Str) (n : Int) (kv : Value) (w : World) (e : Ending) (w' : World) : Prop := ∃ av rest, e = .returned (.agg (tmL k av nm [] n kv (.slice none 0 0) rest).toArray) ∧ rest.length = 14 ∧ (∀ u ∈ av :: rest, u.oneCell' = true) ∧ Below w.heap.size w w'
theorem szTerm : (Tryz.prog.info? 33).map (·.size) = some 21 := by kernel_rfl
set_option maxRecDepth 100000 in
set_option maxHeartbeats 4000000 in
theorem number_term (w : World) (n : Int) : Calls Tryz.prog 14 #[.int .i64 n] w (TmEnd 2 [] n (.slice none 0 0) w) := by
 go_enter Tryz.func14, Tryz.ntmps14
 go_wp2_with (refine wpList_store_rowTo rfl 33 (.tmp 2) (.tmp 4) rfl rfl w.heap.size _ rfl rfl 33 _ (Lies.new w _ _) (by rw [szTerm]; rfl) rfl (by simp [Value.oneCell']) ?_)
 refine bodyPost_ret (v := .agg (tmL 2 (.int .i64 0) [] [] n (.slice none 0 0) (.slice none 0 0) [.int .i64 0, .string ⟨#[]⟩, .int .i64 0, .slice none 0 0, .slice none 0 0, .int .i64 0, .slice none 0 0, .int .i64 0, .int .i64 0, .string ⟨#[]⟩, .int .i64 0, .slice none 0 0, .slice none 0 0, .int .i64 0]).toArray) (results_cell_row rfl _ _ w.heap.size 33 _ (0, 0) _ rfl (lies_setRow' (Lies.new w _ _) _) Tryz.underlying33 rfl szTerm) rfl ?_
 exact ⟨.int .i64 0, _, rfl, rfl, (by intro u hu; simp at hu; rcases hu with rfl | rfl | rfl | rfl | rfl | rfl | rfl | rfl | rfl | rfl | rfl | rfl | rfl | rfl | rfl <;> rfl), below_setRow' (below_new w _) (Nat.le_refl _) _⟩
set_option maxRecDepth 100000 in
set_option maxHeartbeats 4000000 in
theorem variable_term (w : World) (nm : Str) : Calls Tryz.prog 13 #[.string (ba nm)] w (TmEnd 1 nm 0 (.slice none 0 0) w) := by
 go_enter Tryz.func13, Tryz.ntmps13
 go_wp2_with (refine wpList_store_rowTo rfl 33 (.tmp 2) (.tmp 4) rfl rfl w.heap.size _ rfl rfl 33 _ (Lies.new w _ _) (by rw [szTerm]; rfl) rfl (by simp [Value.oneCell']) ?_)
 refine bodyPost_ret (v := .agg (tmL 1 (.int .i64 0) nm [] 0 (.slice none 0 0) (.slice none 0 0) [.int .i64 0, .string ⟨#[]⟩, .int .i64 0, .slice none 0 0, .slice none 0 0, .int .i64 0, .slice none 0 0, .int .i64 0, .int .i64 0, .string ⟨#[]⟩, .int .i64 0, .slice none 0 0, .slice none 0 0, .int .i64 0]).toArray) (results_cell_row rfl _ _ w.heap.size 33 _ (0, 0) _ rfl (lies_setRow' (Lies.new w _ _) _) Tryz.underlying33 rfl szTerm) rfl ?_
 exact ⟨.int .i64 0, _, rfl, rfl, (by intro u hu; simp at hu; rcases hu with rfl | rfl | rfl | rfl | rfl | rfl | rfl | rfl | rfl | rfl | rfl | rfl | rfl | rfl | rfl <;> rfl), below_setRow' (below_new w _) (Nat.le_refl _) _⟩
set_option maxRecDepth 100000 in
set_option maxHeartbeats 4000000 in
theorem op_term (w : World) (nm : Str) (A : Option Addr) (m c : Nat) : Calls Tryz.prog 11 #[.string (ba nm), .slice A m c] w (TmEnd 10 nm 0 (.slice A m c) w) := by
 go_enter Tryz.func11, Tryz.ntmps11
 go_wp2_with (refine wpList_store_rowTo rfl 33 (.tmp 4) (.tmp 7) rfl rfl w.heap.size _ rfl rfl 33 _ (Lies.new w _ _) (by rw [szTerm]; rfl) rfl (by simp [Value.oneCell']) ?_)
 refine bodyPost_ret (v := .agg (tmL 10 (.int .i64 0) nm [] 0 (.slice A m c) (.slice none 0 0) [.int .i64 0, .string ⟨#[]⟩, .int .i64 0, .slice none 0 0, .slice none 0 0, .int .i64 0, .slice none 0 0, .int .i64 0, .int .i64 0, .string ⟨#[]⟩, .int .i64 0, .slice none 0 0, .slice none 0 0, .int .i64 0]).toArray) (results_cell_row rfl _ _ w.heap.size 33 _ (0, 0) _ rfl (lies_setRow' (Lies.new w _ _) _) Tryz.underlying33 rfl szTerm) rfl ?_
 exact ⟨.int .i64 0, _, rfl, rfl, (by intro u hu; simp at hu; rcases hu with rfl | rfl | rfl | rfl | rfl | rfl | rfl | rfl | rfl | rfl | rfl | rfl | rfl | rfl | rfl <;> rfl), below_setRow' (below_new w _) (Nat.le_refl _) _⟩
end So
end Go.Proofs.YtmodmojocclmaaaGreatDoor.K

/- The machine of package source, in plain words: runs. -/
namespace Go.Proofs.YtmodmojocclmaaaGreatDoor.K
namespace So

def okB (s : St) : Bool := decide (s.trace.length ≤ 1000000) && (decide (s.cells.length ≤ 1000000) && (decide (s.hs.length ≤ 1000000) && (decide (s.konts ≤ 1000000) && (decide (s.out ≠ 0) || (s.at_.isSome || (!s.above.isEmpty || !s.hs.isEmpty))))))
theorem okB_bd {s : St} (h : okB s = true) : Bd s ∧ (s.out = 0 → s.at_ = none → s.above ≠ [] ∨ s.hs ≠ []) := by
 unfold okB at h
 simp only [Bool.and_eq_true, decide_eq_true_eq, Bool.or_eq_true, Bool.not_eq_true', List.isEmpty_eq_false_iff] at h
 obtain ⟨h1, h2, h3, h4, h5⟩ := h
 refine ⟨⟨h1, h2, h3, h4⟩, fun ho ha => ?_⟩
 rcases h5 with h5 | h5 | h5
 ·exact absurd ho h5
 ·rw [ha] at h5; cases h5
 ·exact h5
theorem okB_mk {s : St} (h1 : s.trace.length ≤ 1000000) (h2 : s.cells.length ≤ 1000000) (h3 : s.hs.length ≤ 1000000) (h4 : s.konts ≤ 1000000) (h5 : (decide (s.out ≠ 0) || (s.at_.isSome || (!s.above.isEmpty || !s.hs.isEmpty))) = true) : okB s = true := by
 unfold okB
 rw [decide_eq_true h1, decide_eq_true h2, decide_eq_true h3, decide_eq_true h4, h5]
 rfl
theorem Runs.zero {s : St} (h : okB s = true) : Runs s 0 := by
 have := okB_bd h
 exact ⟨fun j hj => by obtain rfl : j = 0 := (by omega); exact this.1, fun j hj => by obtain rfl : j = 0 := (by omega); exact this.2⟩
theorem Runs.over {s : St} (h : okB s = true) (ho : s.out ≠ 0) (n : Nat) : Runs s n := by
 have := okB_bd h
 exact ⟨fun j _ => by rw [run_over ho]; exact this.1, fun j _ => by rw [run_over ho]; exact this.2⟩
theorem Runs.one {s : St} {n : Nat} (h : okB s = true) (ho : s.out = 0) (hr : Runs (step s) n) : Runs s (n + 1) := by
 have := okB_bd h
 refine ⟨fun j hj => ?_, fun j hj => ?_⟩
 ·cases j with
  | zero => exact this.1
  | succ j => rw [run_one ho]; exact hr.bd j (by omega)
 ·cases j with
  | zero => exact this.2
  | succ j => rw [run_one ho]; exact hr.ne j (by omega)
def Res (s : St) (n : Nat) (f : St) : Prop := Runs s n ∧ run n s = f
theorem Res.over {s : St} (h : okB s = true) (ho : s.out ≠ 0) (n : Nat) : Res s n s := ⟨Runs.over h ho n, run_over ho n⟩
theorem Res.one {s s' f : St} {n : Nat} (h : okB s = true) (ho : s.out = 0) (he : step s = s') (hr : Res s' n f) : Res s (n + 1) f := by
 subst he
 exact ⟨Runs.one h ho hr.1, by rw [run_one ho]; exact hr.2⟩
def okRun : Nat → St → Bool
 | 0, s => okB s
 | n + 1, s => okB s && (if s.out = 0 then okRun n (step s) else true)
theorem okRun_runs : ∀ {n : Nat} {s : St}, okRun n s = true → Runs s n
 | 0, _, h => Runs.zero h
 | n + 1, s, h => by
  unfold okRun at h
  rw [Bool.and_eq_true] at h
  by_cases ho : s.out = 0
  ·rw [if_pos ho] at h
   exact Runs.one h.1 ho (okRun_runs h.2)
  ·exact Runs.over h.1 ho _

def unT : Tm := .mk 4 [] [] 0 [] []
def numT (n : Int) : Tm := .mk 2 [] [] n [] []
def varT (nm : Str) : Tm := .mk 1 nm [] 0 [] []
def opT (nm : Str) (kids : List Tm) : Tm := .mk 10 nm [] 0 kids []
def letT (nm : Str) (a b : Tm) : Tm := .mk 7 nm [] 0 [a, b] []

theorem step_var {c : Str} {env : Env} {u v : Val} {fr : Frame} {ab : List Frame} {hs : List (Hd × List Frame)} {ce : List Val} {inp tr : List Int} {st ko : Nat} (h : find c env = some u) :
  step ⟨some (varT c, env), v, fr :: ab, hs, ce, inp, tr, 0, st, ko⟩ = ⟨none, u, fr :: ab, hs, ce, inp, tr, 0, st + 1, ko⟩ := by
 show fin (match find c env with | some v' => St.has ⟨some (varT c, env), v, fr :: ab, hs, ce, inp, tr, 0, st + 1, ko⟩ v' | none => St.ends ⟨some (varT c, env), v, fr :: ab, hs, ce, inp, tr, 0, st + 1, ko⟩ 4) = _
 rw [h]
 rfl
def prT : Tm := opT [112, 114, 105, 110, 116] [opT [114, 101, 97, 100] []]
def rT : Nat → Tm
 | 0 => unT
 | n + 1 => letT [95] prT (rT n)
end So
end Go.Proofs.YtmodmojocclmaaaGreatDoor.K

/- The machine of package source, in plain words: cells. -/
namespace Go.Proofs.YtmodmojocclmaaaGreatDoor.K
namespace So

def showT (c : Str) : Tm := opT [112, 114, 105, 110, 116] [opT [33] [varT c]]
def setT (c : Str) (p : Int) : Tm := opT [58, 61] [varT c, numT p]
def refT (p : Int) : Tm := opT [114, 101, 102] [numT p]
theorem ok_plain {a : Option (Tm × Env)} {v : Val} {ab : List Frame} {ce : List Val} {tr : List Int} {st : Nat} (h1 : tr.length ≤ 1000000) (h2 : ce.length ≤ 1000000) (h : (a.isSome || (!ab.isEmpty || false)) = true) : okB ⟨a, v, ab, [], ce, [], tr, 0, st, 0⟩ = true :=
 okB_mk h1 h2 (Nat.zero_le _) (Nat.zero_le _) (by show (false || (a.isSome || (!ab.isEmpty || false))) = true; rw [h]; rfl)
theorem show_run {c : Str} {env : Env} {k : Nat} {x : Int} {v : Val} {ce : List Val} {tr : List Int} {st n : Nat} {t : Tm} {f : St} (hf : find c env = some (.lit 5 (k : Int))) (hx : ce.getD k unitV = .lit 1 x) (h1 : tr.length ≤ 1000000) (h2 : ce.length ≤ 1000000)
  (h : Res ⟨some (t, ([95], unitV) :: env), unitV, [], [], ce, [], tr ++ [x], 0, st + 1 + 1 + 1 + 1 + 1 + 1 + 1, 0⟩ n f) (h3 : tr.length + 1 ≤ 1000000) : Res ⟨some (letT [95] (showT c) t, env), v, [], [], ce, [], tr, 0, st, 0⟩ (n + 7) f := by
 refine Res.one (s' := ⟨some (showT c, env), v, [.name [95] t env], [], ce, [], tr, 0, st + 1, 0⟩) (ok_plain h1 h2 rfl) rfl rfl ?_
 refine Res.one (s' := ⟨some (opT [33] [varT c], env), v, [.gath (showT c) env [], .name [95] t env], [], ce, [], tr, 0, st + 1 + 1, 0⟩) (ok_plain h1 h2 rfl) rfl rfl ?_
 refine Res.one (s' := ⟨some (varT c, env), v, [.gath (opT [33] [varT c]) env [], .gath (showT c) env [], .name [95] t env], [], ce, [], tr, 0, st + 1 + 1 + 1, 0⟩) (ok_plain h1 h2 rfl) rfl rfl ?_
 refine Res.one (ok_plain h1 h2 rfl) rfl (step_var hf) ?_
 refine Res.one (s' := ⟨none, .lit 1 x, [.gath (showT c) env [], .name [95] t env], [], ce, [], tr, 0, st + 1 + 1 + 1 + 1 + 1, 0⟩) (ok_plain h1 h2 rfl) rfl ?_ ?_
 ·rw [← hx]; rfl
 refine Res.one (s' := ⟨none, unitV, [.name [95] t env], [], ce, [], tr ++ [x], 0, st + 1 + 1 + 1 + 1 + 1 + 1, 0⟩) (ok_plain h1 h2 rfl) rfl rfl ?_
 exact Res.one (ok_plain (by rw [List.length_append]; exact h3) h2 rfl) rfl rfl h
theorem set_run {c : Str} {env : Env} {k : Nat} {p : Int} {v : Val} {ce : List Val} {tr : List Int} {st n : Nat} {t : Tm} {f : St} (hf : find c env = some (.lit 5 (k : Int))) (h1 : tr.length ≤ 1000000) (h2 : ce.length ≤ 1000000)
  (h : Res ⟨some (t, ([95], unitV) :: env), unitV, [], [], ce.set k (.lit 1 p), [], tr, 0, st + 1 + 1 + 1 + 1 + 1 + 1 + 1, 0⟩ n f) : Res ⟨some (letT [95] (setT c p) t, env), v, [], [], ce, [], tr, 0, st, 0⟩ (n + 7) f := by
 refine Res.one (s' := ⟨some (setT c p, env), v, [.name [95] t env], [], ce, [], tr, 0, st + 1, 0⟩) (ok_plain h1 h2 rfl) rfl rfl ?_
 refine Res.one (s' := ⟨some (varT c, env), v, [.gath (setT c p) env [], .name [95] t env], [], ce, [], tr, 0, st + 1 + 1, 0⟩) (ok_plain h1 h2 rfl) rfl rfl ?_
 refine Res.one (ok_plain h1 h2 rfl) rfl (step_var hf) ?_
 refine Res.one (s' := ⟨some (numT p, env), .lit 5 (k : Int), [.gath (setT c p) env [.lit 5 (k : Int)], .name [95] t env], [], ce, [], tr, 0, st + 1 + 1 + 1 + 1, 0⟩) (ok_plain h1 h2 rfl) rfl rfl ?_
 refine Res.one (s' := ⟨none, .lit 1 p, [.gath (setT c p) env [.lit 5 (k : Int)], .name [95] t env], [], ce, [], tr, 0, st + 1 + 1 + 1 + 1 + 1, 0⟩) (ok_plain h1 h2 rfl) rfl rfl ?_
 refine Res.one (s' := ⟨none, unitV, [.name [95] t env], [], ce.set k (.lit 1 p), [], tr, 0, st + 1 + 1 + 1 + 1 + 1 + 1, 0⟩) (ok_plain h1 h2 rfl) rfl rfl ?_
 exact Res.one (ok_plain h1 (by rw [List.length_set]; exact h2) rfl) rfl rfl h
theorem ref_run {c : Str} {env : Env} {p : Int} {v : Val} {ce : List Val} {tr : List Int} {st n : Nat} {t : Tm} {f : St} (h1 : tr.length ≤ 1000000) (h2 : ce.length + 1 ≤ 1000000)
  (h : Res ⟨some (t, (c, .lit 5 (ce.length : Int)) :: env), .lit 5 (ce.length : Int), [], [], ce ++ [.lit 1 p], [], tr, 0, st + 1 + 1 + 1 + 1 + 1, 0⟩ n f) : Res ⟨some (letT c (refT p) t, env), v, [], [], ce, [], tr, 0, st, 0⟩ (n + 5) f := by
 have h2' : ce.length ≤ 1000000 := by omega
 refine Res.one (s' := ⟨some (refT p, env), v, [.name c t env], [], ce, [], tr, 0, st + 1, 0⟩) (ok_plain h1 h2' rfl) rfl rfl ?_
 refine Res.one (s' := ⟨some (numT p, env), v, [.gath (refT p) env [], .name c t env], [], ce, [], tr, 0, st + 1 + 1, 0⟩) (ok_plain h1 h2' rfl) rfl rfl ?_
 refine Res.one (s' := ⟨none, .lit 1 p, [.gath (refT p) env [], .name c t env], [], ce, [], tr, 0, st + 1 + 1 + 1, 0⟩) (ok_plain h1 h2' rfl) rfl rfl ?_
 refine Res.one (s' := ⟨none, .lit 5 (ce.length : Int), [.name c t env], [], ce ++ [.lit 1 p], [], tr, 0, st + 1 + 1 + 1 + 1, 0⟩) (ok_plain h1 h2' rfl) rfl rfl ?_
 exact Res.one (ok_plain h1 (by rw [List.length_append]; exact h2) rfl) rfl rfl h
def nmK : Nat → Str | 0 => [97] | 1 => [98] | _ => [99]
def endT : Tm := letT [95] (showT [97]) (letT [95] (showT [98]) (letT [95] (showT [99]) unT))
def putsT : List (Nat × Int) → Tm
 | [] => endT
 | x :: r => letT [95] (setT (nmK x.1) x.2) (letT [95] (showT (nmK x.1)) (putsT r))
def cellsT (a b c : Int) (l : List (Nat × Int)) : Tm := letT [97] (refT a) (letT [98] (refT b) (letT [99] (refT c) (putsT l)))
def setAll : List Int → List (Nat × Int) → List Int
 | cs, [] => cs
 | cs, x :: r => setAll (cs.set x.1 x.2) r
def EnvOk (e : Env) : Prop := ∀ k : Nat, k < 3 → find (nmK k) e = some (.lit 5 (k : Int))
theorem EnvOk.more {e : Env} (h : EnvOk e) (v : Val) : EnvOk (([95], v) :: e) := fun k hk => by
 rcases (show k = 0 ∨ k = 1 ∨ k = 2 by omega) with rfl | rfl | rfl
 ·exact h 0 hk
 ·exact h 1 hk
 ·exact h 2 hk
theorem lits_get {cs : List Int} {k : Nat} {x : Int} (h : cs[k]? = some x) : (cs.map (Val.lit 1 ·)).getD k unitV = .lit 1 x := by
 rw [List.getD_eq_getElem?_getD, List.getElem?_map, h]; rfl
theorem puts_run : ∀ (l : List (Nat × Int)) (env : Env) (v : Val) (cs tr : List Int) (st n : Nat), EnvOk env → cs.length = 3 → (∀ x ∈ l, x.1 < 3) → tr.length + l.length + 3 ≤ 1000000 → 14 * l.length + 22 ≤ n →
  ∃ f, Res ⟨some (putsT l, env), v, [], [], cs.map (Val.lit 1 ·), [], tr, 0, st, 0⟩ n f ∧ f.out = 1 ∧ f.at_ = none ∧ f.val = .lit 3 0 ∧ f.trace = tr ++ (l.map fun x => x.2) ++ setAll cs l := by
 intro l
 induction l with
 | nil =>
  intro env v cs tr st n he hc hk hl hn
  obtain ⟨x, y, z, rfl⟩ : ∃ x y z, cs = [x, y, z] := by
   match cs, hc with
   | [x, y, z], _ => exact ⟨x, y, z, rfl⟩
  obtain ⟨m, rfl⟩ : ∃ m, n = m + 1 + 7 + 7 + 7 := ⟨n - 22, by omega⟩
  simp only [List.length_nil] at hl
  have e1 := he.more unitV
  have e2 := e1.more unitV
  refine ⟨⟨none, .lit 3 0, [], [], [x, y, z].map (Val.lit 1 ·), [], tr ++ [x] ++ [y] ++ [z], 1, st + 1 + 1 + 1 + 1 + 1 + 1 + 1 + 1 + 1 + 1 + 1 + 1 + 1 + 1 + 1 + 1 + 1 + 1 + 1 + 1 + 1 + 1, 0⟩, ?_, rfl, rfl, rfl, ?_⟩
  ·refine show_run (k := 0) (he 0 (by omega)) (lits_get (x := x) rfl) (by omega) (by show 3 ≤ 1000000; omega) ?_ (by omega)
   refine show_run (k := 1) (e1 1 (by omega)) (lits_get (x := y) rfl) (by simp; omega) (by show 3 ≤ 1000000; omega) ?_ (by simp; omega)
   refine show_run (k := 2) (e2 2 (by omega)) (lits_get (x := z) rfl) (by simp; omega) (by show 3 ≤ 1000000; omega) ?_ (by simp; omega)
   refine Res.one (ok_plain (by simp; omega) (by show 3 ≤ 1000000; omega) rfl) rfl rfl ?_
   exact Res.over (okB_mk (by show (tr ++ [x] ++ [y] ++ [z]).length ≤ _; simp; omega) (by show 3 ≤ 1000000; omega) (Nat.zero_le _) (Nat.zero_le _) rfl) (by show (1 : Int) ≠ 0; decide) m
  ·show tr ++ [x] ++ [y] ++ [z] = tr ++ List.map (fun x : Nat × Int => x.2) [] ++ setAll [x, y, z] []
   simp [setAll]
 | cons x r ih =>
  intro env v cs tr st n he hc hk hl hn
  obtain ⟨k, p⟩ := x
  have hk0 : k < 3 := hk (k, p) (List.mem_cons_self ..)
  obtain ⟨m, rfl⟩ : ∃ m, n = m + 7 + 7 := ⟨n - 14, by simp only [List.length_cons] at hn; omega⟩
  simp only [List.length_cons] at hl hn
  have hc' : (cs.set k p).length = 3 := by rw [List.length_set]; exact hc
  have e1 := he.more unitV
  obtain ⟨f, h1, h2, h3, h4, h5⟩ := ih (([95], unitV) :: ([95], unitV) :: env) unitV (cs.set k p) (tr ++ [p]) (st + 1 + 1 + 1 + 1 + 1 + 1 + 1 + 1 + 1 + 1 + 1 + 1 + 1 + 1) m (e1.more unitV) hc' (fun x hx => hk x (List.mem_cons_of_mem _ hx)) (by simp; omega) (by omega)
  refine ⟨f, ?_, h2, h3, h4, ?_⟩
  ·refine set_run (k := k) (he k hk0) (by omega) (by rw [List.length_map]; omega) ?_
   have hm : (cs.map (Val.lit 1 ·)).set k (.lit 1 p) = (cs.set k p).map (Val.lit 1 ·) := by rw [List.map_set]
   rw [hm]
   refine show_run (k := k) (e1 k hk0) (lits_get (x := p) ?_) (by omega) (by rw [List.length_map]; omega) h1 (by omega)
   rw [List.getElem?_set_self (by omega)]
  ·rw [h5]
   show _ = tr ++ p :: (r.map fun x => x.2) ++ setAll (cs.set k p) r
   simp
theorem cells_run (a b c : Int) (l : List (Nat × Int)) (n : Nat) (hk : ∀ x ∈ l, x.1 < 3) (hl : l.length ≤ 20) (hn : 1000 ≤ n) :
  ∃ f, Res (start (cellsT a b c l) []) n f ∧ f.out = 1 ∧ f.at_ = none ∧ f.val = .lit 3 0 ∧ f.trace = (l.map fun x => x.2) ++ setAll [a, b, c] l := by
 obtain ⟨m, rfl⟩ : ∃ m, n = m + 5 + 5 + 5 := ⟨n - 15, by omega⟩
 obtain ⟨f, h1, h2, h3, h4, h5⟩ := puts_run l [([99], .lit 5 2), ([98], .lit 5 1), ([97], .lit 5 0)] (.lit 5 2) [a, b, c] [] (0 + 1 + 1 + 1 + 1 + 1 + 1 + 1 + 1 + 1 + 1 + 1 + 1 + 1 + 1 + 1) m
  (fun k hk => by rcases (show k = 0 ∨ k = 1 ∨ k = 2 by omega) with rfl | rfl | rfl <;> rfl) rfl hk (by simp; omega) (by omega)
 refine ⟨f, ?_, h2, h3, h4, by rw [h5]; rfl⟩
 show Res ⟨some (cellsT a b c l, []), unitV, [], [], [], [], [], 0, 0, 0⟩ _ f
 refine ref_run (Nat.zero_le _) (by show 1 ≤ 1000000; omega) ?_
 refine ref_run (Nat.zero_le _) (by show 2 ≤ 1000000; omega) ?_
 refine ref_run (Nat.zero_le _) (by show 3 ≤ 1000000; omega) ?_
 exact h1
end So
end Go.Proofs.YtmodmojocclmaaaGreatDoor.K
