/- The machine of package source: Run. -/
import Derived.Test.YtmodmojocclmaaaGreatDoorMg19
import Derived.Test.YtmodmojocclmaaaGreatDoorMg06
import Derived.Deep.LoopGhost
import Derived.BigQuiet
namespace Go.Proofs.YtmodmojocclmaaaGreatDoor.K
open Go Go.RowKit
namespace So

theorem step_any {w0 : World} {mb : Nat} {H : Mem} {s : St} {w : World} (h : MS w0 mb H s w) (ho : s.out = 0) (B : Bd s) (hst : s.steps ≤ 1000000) (hne : s.at_ = none → s.above ≠ [] ∨ s.hs ≠ []) :
  Calls Tryz.prog 17 #[pt mb] w (StepEnd w0 mb H (step s)) := by
 cases ha : s.at_ with
 | none => exact step_val h ho B hst ha (hne ha)
 | some p =>
  obtain ⟨t, en⟩ := p
  exact step_term h ho B hst ha
structure Runs (s : St) (n : Nat) : Prop where
 bd : ∀ j, j ≤ n → Bd (run j s)
 ne : ∀ j, j ≤ n → (run j s).out = 0 → (run j s).at_ = none → (run j s).above ≠ [] ∨ (run j s).hs ≠ []
theorem memOf_alloc (w : World) (o : Obj) : MLe (memOf w) (memOf (w.alloc o)) := fun b _ hb => (Below.heap_alloc w o b (Array.getElem?_eq_some_iff.1 hb).1).trans hb
theorem MS.reads {w0 : World} {mb : Nat} {H : Mem} {s : St} {w : World} (h : MS w0 mb H s w) : w.cell? ⟨mb, 12, none⟩ = some (.int .i64 (s.steps : Int)) := by
 obtain ⟨tv, ev, v0, v1, v2, v3, fv, hv, cv, iv, lv, h⟩ := h
 exact h.lies.cell 12
theorem MS.kept0 {w0 : World} {mb : Nat} {H : Mem} {s : St} {w : World} (h : MS w0 mb H s w) : Below w0.heap.size w0 w := by
 have hlt := h.lt
 obtain ⟨tv, ev, v0, v1, v2, v3, fv, hv, cv, iv, lv, h⟩ := h
 exact h.core.below (by have := h.core.base; omega)
def BeEnd (w : World) (mb : Nat) (s0 : St) (e : Ending) (w2 : World) : Prop := e = .returned (pt mb) ∧ ∃ W1, Below w.heap.size w W1 ∧ W1.heap.size = mb ∧ Lies W1 (w.heap.size + 1) 42 #[.int .i64 0, .int .i64 0, .int .i64 0, .string ⟨#[]⟩, .slice none 0 0, .slice none 0 0, .int .i64 0, .int .i64 0] ∧ MS W1 mb (memOf W1) s0 w2
theorem run_add (s : St) : ∀ a b, run (a + b) s = run b (run a s)
 | 0, b => by rw [Nat.zero_add]; rfl
 | a + 1, b => by
  by_cases h : s.out = 0
  ·rw [show a + 1 + b = (a + b) + 1 by omega, run_one h, run_one h, run_add (step s) a b]
  ·rw [run_over h, run_over h, run_over h]
theorem run_stay {s : St} {j n : Nat} (h : (run j s).out ≠ 0) (hj : j ≤ n) : run j s = run n s := by
 obtain ⟨d, rfl⟩ := Nat.exists_eq_add_of_le hj
 rw [run_add, run_over h]
def RunRel (W1 : World) (mb : Nat) (s0 : St) (n : Nat) (k : Nat) (wr : World) : Prop := ∃ (j : Nat) (H' : Mem), j + k = n ∧ MS W1 mb H' (run j s0) wr ∧ (run j s0).steps = j
set_option maxRecDepth 100000 in
set_option maxHeartbeats 4000000 in
theorem run_any (w : World) (pC : Array Value) (iv : Value) (n : Nat) (hn : n ≤ 100000) {t : Tm} {input : List Int} (ht : TmA (memOf (w.alloc (.cells pC 47))) w.heap.size 2 t) (hi : InV (memOf w) iv input) (hR : Runs (start t input) n) (hv : (run n (start t input)).out ≠ 1) :
  Calls Tryz.prog 9 #[.agg pC, iv, .int .i64 (n : Int)] w (ToldEnd (run n (start t input)) 0 0 w) := by
 have hbe0 := begin_any ((w.alloc (.cells pC 47)).alloc (.cells #[.int .i64 0, .int .i64 0, .int .i64 0, .string ⟨#[]⟩, .slice none 0 0, .slice none 0 0, .int .i64 0, .int .i64 0] 42)) (ht.le (memOf_alloc _ _)) (hi.le ((memOf_alloc _ _).trans (memOf_alloc _ _)))
 obtain ⟨mb, hmb⟩ : ∃ mb, mb = w.heap.size + 1 + 1 := ⟨_, rfl⟩
 obtain ⟨s0, hs0⟩ : ∃ s0, s0 = start t input := ⟨_, rfl⟩
 have hst0 : s0.steps = 0 := by rw [hs0]; rfl
 rw [← hs0] at hbe0 hR hv ⊢
 have hbe := hbe0.mono (R' := BeEnd w mb s0) (fun e w' h => by
  have hz : ((w.alloc (.cells pC 47)).alloc (.cells #[.int .i64 0, .int .i64 0, .int .i64 0, .string ⟨#[]⟩, .slice none 0 0, .slice none 0 0, .int .i64 0, .int .i64 0] 42)).heap.size = mb := by rw [hmb]; simp
  rw [hz] at h
  refine ⟨h.1, _, ((Below.refl _ _).alloc (Nat.le_refl _) _).alloc (by simp) _, hz, ?_, h.2⟩
  have := Lies.new (w.alloc (.cells pC 47)) 42 #[.int .i64 0, .int .i64 0, .int .i64 0, .string ⟨#[]⟩, .slice none 0 0, .slice none 0 0, .int .i64 0, .int .i64 0]
  simpa using this)
 have HBE := Lib.hid hbe
 have HR := Lib.hid hR
 have HV := Lib.hid hv
 have HS0 := Lib.hid hst0
 have hmw : w.heap.size + 1 < mb := by omega
 clear hbe hbe0 ht hi hR hv hst0 hs0 hmb
 unfold ptO at *
 go_enter Tryz.func9, Tryz.ntmps9
 go_wp2_with fail
 refine HBE.out.mono ?_
 rintro e w2 ⟨rfl, W1, hb1, hz1, lz1, m2⟩
 have HB1 := Lib.hid hb1
 have HZ1 := Lib.hid hz1
 have LZ1 := Lib.hid lz1
 have M2 := Lib.hid m2
 clear hb1 hz1 lz1 m2
 unfold pt
 dsimp only
 go_wp2_with fail
 go_loopg [11] n (fun k _ wr => RunRel W1 mb s0 n k wr)
 case atStart => exact ⟨0, _, by omega, M2.out, HS0.out⟩
 case round =>
  obtain ⟨j, H', hj, hms, hsj⟩ := hrel
  have c12 := hms.reads
  rw [hsj] at c12
  have HB1w := Lib.hid hms.kept0
  by_cases hlt : j < n
  ·have hji : (j : Int) < (n : Int) := by omega
   by_cases ho : (run j s0).out = 0
   ·have HST := Lib.hid (step_any hms ho (HR.out.bd j (by omega)) (by omega) (HR.out.ne j (by omega) ho))
    have hrm := run_more (s := s0) j ho
    have HRM := Lib.hid hrm
    have HSJ := Lib.hid hsj
    have HJ := Lib.hid hj
    clear hms hrm hsj hj ho
    unfold pt at *
    go_wp2_with fail
    refine HST.out.mono ?_
    rintro e w5 ⟨rfl, H5, k5, m5⟩
    rw [← HRM.out.1] at m5
    have M5 := Lib.hid m5
    clear k5 m5
    go_wp2
    go_roundg (n - (j + 1))
    case measure => have := HJ.out; omega
    case rel => exact ⟨j + 1, H5, by have := HJ.out; omega, M5.out, by rw [HRM.out.1, step_steps, HSJ.out]⟩
   ·have HST := Lib.hid (step_over hms ho)
    have hrun := run_stay ho (show j ≤ n by omega)
    have HTO := Lib.hid (told_any hms (Bd.trace (HR.out.bd j (by omega))) (by rw [hrun]; exact HV.out))
    have HRUN := Lib.hid hrun
    clear hms hrun ho hsj
    unfold pt at *
    go_wp2_with fail
    refine HST.out.mono ?_
    rintro e w5 ⟨rfl, rfl⟩
    go_wp2_with fail
    refine HTO.out.mono ?_
    rintro e w6 ⟨tr, rfl, ho6, hb6⟩
    obtain ⟨TA, tn, tc, rfl⟩ := own_slice ho6
    rw [HRUN.out] at ho6 ⊢
    have hwz : mb ≤ w5.heap.size := by have := HB1w.out.size; have := HZ1.out; omega
    have l6 : Lies w6 (w.heap.size + 1) 42 #[.int .i64 0, .int .i64 0, .int .i64 0, .string ⟨#[]⟩, .slice none 0 0, .slice none 0 0, .int .i64 0, .int .i64 0] := (hb6.block _ (by omega)).trans ((HB1w.out.block _ (by have := HZ1.out; omega)).trans LZ1.out)
    have hrow : ((runL (run n s0).out 0 0 (.slice TA tn tc) (run n s0).steps (run n s0).konts).all fun x => x.oneCell') = true := by simp [runL, Value.oneCell']
    have hszr : (Tryz.prog.info? 42).map (·.size) = some (runL (run n s0).out 0 0 (.slice TA tn tc) (run n s0).steps (run n s0).konts).size := szRun
    have B6 : Below w.heap.size w w6 := (HB1.out.trans (HB1w.out.mono (by have := HZ1.out; omega))).trans (hb6.mono (by omega))
    have HB7 := Lib.hid (below_setRow' B6 (show w.heap.size ≤ w.heap.size + 1 by omega) (runL (run n s0).out 0 0 (.slice TA tn tc) (run n s0).steps (run n s0).konts))
    have HL7 := Lib.hid (lies_setRow' l6 (runL (run n s0).out 0 0 (.slice TA tn tc) (run n s0).steps (run n s0).konts))
    have HO7 := Lib.hid (own_mono (own_same ho6 (w' := w6.setRow (w.heap.size + 1) (runL (run n s0).out 0 0 (.slice TA tn tc) (run n s0).steps (run n s0).konts)) (fun g h1 _ => heap_setRow' _ _ _ g (by omega))) (show w.heap.size ≤ w5.heap.size by omega))
    have HL6 := Lib.hid l6
    have HRW := Lib.hid hrow
    have HSZ := Lib.hid hszr
    clear l6 hrow hszr B6 ho6 hb6 hwz
    dsimp only
    go_wp2_with (refine wpList_store_rowTo rfl 42 (.tmp 6) (.tmp 22) rfl rfl (w.heap.size + 1) (runL (run n s0).out 0 0 (.slice TA tn tc) (run n s0).steps (run n s0).konts) rfl rfl 42 #[.int .i64 0, .int .i64 0, .int .i64 0, .string ⟨#[]⟩, .slice none 0 0, .slice none 0 0, .int .i64 0, .int .i64 0] ?_ HSZ.out rfl HRW.out ?_; exact HL6.out)
    refine bodyPost_ret (v := .agg (runL (run n s0).out 0 0 (.slice TA tn tc) (run n s0).steps (run n s0).konts)) (results_cell_row rfl _ _ (w.heap.size + 1) 42 _ (0, 0) _ rfl HL7.out Tryz.underlying42 rfl szRun) rfl ?_
    exact ⟨_, rfl, HO7.out, HB7.out⟩
  ·have hjn : j = n := by omega
   have hrun : run j s0 = run n s0 := by rw [hjn]
   have hni : ¬ (j : Int) < (n : Int) := by omega
   have hnd : decide ((j : Int) < (n : Int)) = false := by simp; omega
   have HTO := Lib.hid (told_any hms (Bd.trace (HR.out.bd j (by omega))) (by rw [hrun]; exact HV.out))
   have HRUN := Lib.hid hrun
   clear hms hrun hjn hsj hni
   unfold pt at *
   go_wp2_with fail
   refine HTO.out.mono ?_
   rintro e w6 ⟨tr, rfl, ho6, hb6⟩
   obtain ⟨TA, tn, tc, rfl⟩ := own_slice ho6
   rw [HRUN.out] at ho6 ⊢
   have hwz : mb ≤ wr.heap.size := by have := HB1w.out.size; have := HZ1.out; omega
   have l6 : Lies w6 (w.heap.size + 1) 42 #[.int .i64 0, .int .i64 0, .int .i64 0, .string ⟨#[]⟩, .slice none 0 0, .slice none 0 0, .int .i64 0, .int .i64 0] := (hb6.block _ (by omega)).trans ((HB1w.out.block _ (by have := HZ1.out; omega)).trans LZ1.out)
   have hrow : ((runL (run n s0).out 0 0 (.slice TA tn tc) (run n s0).steps (run n s0).konts).all fun x => x.oneCell') = true := by simp [runL, Value.oneCell']
   have hszr : (Tryz.prog.info? 42).map (·.size) = some (runL (run n s0).out 0 0 (.slice TA tn tc) (run n s0).steps (run n s0).konts).size := szRun
   have B6 : Below w.heap.size w w6 := (HB1.out.trans (HB1w.out.mono (by have := HZ1.out; omega))).trans (hb6.mono (by omega))
   have HB7 := Lib.hid (below_setRow' B6 (show w.heap.size ≤ w.heap.size + 1 by omega) (runL (run n s0).out 0 0 (.slice TA tn tc) (run n s0).steps (run n s0).konts))
   have HL7 := Lib.hid (lies_setRow' l6 (runL (run n s0).out 0 0 (.slice TA tn tc) (run n s0).steps (run n s0).konts))
   have HO7 := Lib.hid (own_mono (own_same ho6 (w' := w6.setRow (w.heap.size + 1) (runL (run n s0).out 0 0 (.slice TA tn tc) (run n s0).steps (run n s0).konts)) (fun g h1 _ => heap_setRow' _ _ _ g (by omega))) (show w.heap.size ≤ wr.heap.size by omega))
   have HL6 := Lib.hid l6
   have HRW := Lib.hid hrow
   have HSZ := Lib.hid hszr
   clear l6 hrow hszr B6 ho6 hb6 hwz
   dsimp only
   go_wp2_with (refine wpList_store_rowTo rfl 42 (.tmp 6) (.tmp 22) rfl rfl (w.heap.size + 1) (runL (run n s0).out 0 0 (.slice TA tn tc) (run n s0).steps (run n s0).konts) rfl rfl 42 #[.int .i64 0, .int .i64 0, .int .i64 0, .string ⟨#[]⟩, .slice none 0 0, .slice none 0 0, .int .i64 0, .int .i64 0] ?_ HSZ.out rfl HRW.out ?_; exact HL6.out)
   refine bodyPost_ret (v := .agg (runL (run n s0).out 0 0 (.slice TA tn tc) (run n s0).steps (run n s0).konts)) (results_cell_row rfl _ _ (w.heap.size + 1) 42 _ (0, 0) _ rfl HL7.out Tryz.underlying42 rfl szRun) rfl ?_
   exact ⟨_, rfl, HO7.out, HB7.out⟩
end So
end Go.Proofs.YtmodmojocclmaaaGreatDoor.K

/- The machine of package source: Run, where it ends with a value without kids. -/
namespace Go.Proofs.YtmodmojocclmaaaGreatDoor.K
open Go Go.RowKit
namespace So

set_option maxRecDepth 100000 in
set_option maxHeartbeats 4000000 in
theorem run_val (w : World) (pC : Array Value) (iv : Value) (n : Nat) (hn : n ≤ 100000) {t : Tm} {input : List Int} (ht : TmA (memOf (w.alloc (.cells pC 47))) w.heap.size 2 t) (hi : InV (memOf w) iv input) (hR : Runs (start t input) n) {k' n' : Int} (hv : (run n (start t input)).out = 1 ∧ (run n (start t input)).at_ = none ∧ (run n (start t input)).val = .lit k' n') :
  Calls Tryz.prog 9 #[.agg pC, iv, .int .i64 (n : Int)] w (ToldEnd (run n (start t input)) k' n' w) := by
 have hbe0 := begin_any ((w.alloc (.cells pC 47)).alloc (.cells #[.int .i64 0, .int .i64 0, .int .i64 0, .string ⟨#[]⟩, .slice none 0 0, .slice none 0 0, .int .i64 0, .int .i64 0] 42)) (ht.le (memOf_alloc _ _)) (hi.le ((memOf_alloc _ _).trans (memOf_alloc _ _)))
 obtain ⟨mb, hmb⟩ : ∃ mb, mb = w.heap.size + 1 + 1 := ⟨_, rfl⟩
 obtain ⟨s0, hs0⟩ : ∃ s0, s0 = start t input := ⟨_, rfl⟩
 have hst0 : s0.steps = 0 := by rw [hs0]; rfl
 rw [← hs0] at hbe0 hR hv ⊢
 have hbe := hbe0.mono (R' := BeEnd w mb s0) (fun e w' h => by
  have hz : ((w.alloc (.cells pC 47)).alloc (.cells #[.int .i64 0, .int .i64 0, .int .i64 0, .string ⟨#[]⟩, .slice none 0 0, .slice none 0 0, .int .i64 0, .int .i64 0] 42)).heap.size = mb := by rw [hmb]; simp
  rw [hz] at h
  refine ⟨h.1, _, ((Below.refl _ _).alloc (Nat.le_refl _) _).alloc (by simp) _, hz, ?_, h.2⟩
  have := Lies.new (w.alloc (.cells pC 47)) 42 #[.int .i64 0, .int .i64 0, .int .i64 0, .string ⟨#[]⟩, .slice none 0 0, .slice none 0 0, .int .i64 0, .int .i64 0]
  simpa using this)
 have HBE := Lib.hid hbe
 have HR := Lib.hid hR
 have HV := Lib.hid hv
 have HS0 := Lib.hid hst0
 have hmw : w.heap.size + 1 < mb := by omega
 clear hbe hbe0 ht hi hR hv hst0 hs0 hmb
 unfold ptO at *
 go_enter Tryz.func9, Tryz.ntmps9
 go_wp2_with fail
 refine HBE.out.mono ?_
 rintro e w2 ⟨rfl, W1, hb1, hz1, lz1, m2⟩
 have HB1 := Lib.hid hb1
 have HZ1 := Lib.hid hz1
 have LZ1 := Lib.hid lz1
 have M2 := Lib.hid m2
 clear hb1 hz1 lz1 m2
 unfold pt
 dsimp only
 go_wp2_with fail
 go_loopg [11] n (fun k _ wr => RunRel W1 mb s0 n k wr)
 case atStart => exact ⟨0, _, by omega, M2.out, HS0.out⟩
 case round =>
  obtain ⟨j, H', hj, hms, hsj⟩ := hrel
  have c12 := hms.reads
  rw [hsj] at c12
  have HB1w := Lib.hid hms.kept0
  by_cases hlt : j < n
  ·have hji : (j : Int) < (n : Int) := by omega
   by_cases ho : (run j s0).out = 0
   ·have HST := Lib.hid (step_any hms ho (HR.out.bd j (by omega)) (by omega) (HR.out.ne j (by omega) ho))
    have hrm := run_more (s := s0) j ho
    have HRM := Lib.hid hrm
    have HSJ := Lib.hid hsj
    have HJ := Lib.hid hj
    clear hms hrm hsj hj ho
    unfold pt at *
    go_wp2_with fail
    refine HST.out.mono ?_
    rintro e w5 ⟨rfl, H5, k5, m5⟩
    rw [← HRM.out.1] at m5
    have M5 := Lib.hid m5
    clear k5 m5
    go_wp2
    go_roundg (n - (j + 1))
    case measure => have := HJ.out; omega
    case rel => exact ⟨j + 1, H5, by have := HJ.out; omega, M5.out, by rw [HRM.out.1, step_steps, HSJ.out]⟩
   ·have HST := Lib.hid (step_over hms ho)
    have hrun := run_stay ho (show j ≤ n by omega)
    have HTO := Lib.hid (told_val (k := k') (n := n') hms (Bd.trace (HR.out.bd j (by omega))) (by rw [hrun]; exact HV.out.1) (by rw [hrun]; exact HV.out.2.1) (by rw [hrun]; exact HV.out.2.2))
    have HRUN := Lib.hid hrun
    clear hms hrun ho hsj
    unfold pt at *
    go_wp2_with fail
    refine HST.out.mono ?_
    rintro e w5 ⟨rfl, rfl⟩
    go_wp2_with fail
    refine HTO.out.mono ?_
    rintro e w6 ⟨tr, rfl, ho6, hb6⟩
    obtain ⟨TA, tn, tc, rfl⟩ := own_slice ho6
    rw [HRUN.out] at ho6 ⊢
    have hwz : mb ≤ w5.heap.size := by have := HB1w.out.size; have := HZ1.out; omega
    have l6 : Lies w6 (w.heap.size + 1) 42 #[.int .i64 0, .int .i64 0, .int .i64 0, .string ⟨#[]⟩, .slice none 0 0, .slice none 0 0, .int .i64 0, .int .i64 0] := (hb6.block _ (by omega)).trans ((HB1w.out.block _ (by have := HZ1.out; omega)).trans LZ1.out)
    have hrow : ((runL (run n s0).out k' n' (.slice TA tn tc) (run n s0).steps (run n s0).konts).all fun x => x.oneCell') = true := by simp [runL, Value.oneCell']
    have hszr : (Tryz.prog.info? 42).map (·.size) = some (runL (run n s0).out k' n' (.slice TA tn tc) (run n s0).steps (run n s0).konts).size := szRun
    have B6 : Below w.heap.size w w6 := (HB1.out.trans (HB1w.out.mono (by have := HZ1.out; omega))).trans (hb6.mono (by omega))
    have HB7 := Lib.hid (below_setRow' B6 (show w.heap.size ≤ w.heap.size + 1 by omega) (runL (run n s0).out k' n' (.slice TA tn tc) (run n s0).steps (run n s0).konts))
    have HL7 := Lib.hid (lies_setRow' l6 (runL (run n s0).out k' n' (.slice TA tn tc) (run n s0).steps (run n s0).konts))
    have HO7 := Lib.hid (own_mono (own_same ho6 (w' := w6.setRow (w.heap.size + 1) (runL (run n s0).out k' n' (.slice TA tn tc) (run n s0).steps (run n s0).konts)) (fun g h1 _ => heap_setRow' _ _ _ g (by omega))) (show w.heap.size ≤ w5.heap.size by omega))
    have HL6 := Lib.hid l6
    have HRW := Lib.hid hrow
    have HSZ := Lib.hid hszr
    clear l6 hrow hszr B6 ho6 hb6 hwz
    dsimp only
    go_wp2_with (refine wpList_store_rowTo rfl 42 (.tmp 6) (.tmp 22) rfl rfl (w.heap.size + 1) (runL (run n s0).out k' n' (.slice TA tn tc) (run n s0).steps (run n s0).konts) rfl rfl 42 #[.int .i64 0, .int .i64 0, .int .i64 0, .string ⟨#[]⟩, .slice none 0 0, .slice none 0 0, .int .i64 0, .int .i64 0] ?_ HSZ.out rfl HRW.out ?_; exact HL6.out)
    refine bodyPost_ret (v := .agg (runL (run n s0).out k' n' (.slice TA tn tc) (run n s0).steps (run n s0).konts)) (results_cell_row rfl _ _ (w.heap.size + 1) 42 _ (0, 0) _ rfl HL7.out Tryz.underlying42 rfl szRun) rfl ?_
    exact ⟨_, rfl, HO7.out, HB7.out⟩
  ·have hjn : j = n := by omega
   have hrun : run j s0 = run n s0 := by rw [hjn]
   have hni : ¬ (j : Int) < (n : Int) := by omega
   have hnd : decide ((j : Int) < (n : Int)) = false := by simp; omega
   have HTO := Lib.hid (told_val (k := k') (n := n') hms (Bd.trace (HR.out.bd j (by omega))) (by rw [hrun]; exact HV.out.1) (by rw [hrun]; exact HV.out.2.1) (by rw [hrun]; exact HV.out.2.2))
   have HRUN := Lib.hid hrun
   clear hms hrun hjn hsj hni
   unfold pt at *
   go_wp2_with fail
   refine HTO.out.mono ?_
   rintro e w6 ⟨tr, rfl, ho6, hb6⟩
   obtain ⟨TA, tn, tc, rfl⟩ := own_slice ho6
   rw [HRUN.out] at ho6 ⊢
   have hwz : mb ≤ wr.heap.size := by have := HB1w.out.size; have := HZ1.out; omega
   have l6 : Lies w6 (w.heap.size + 1) 42 #[.int .i64 0, .int .i64 0, .int .i64 0, .string ⟨#[]⟩, .slice none 0 0, .slice none 0 0, .int .i64 0, .int .i64 0] := (hb6.block _ (by omega)).trans ((HB1w.out.block _ (by have := HZ1.out; omega)).trans LZ1.out)
   have hrow : ((runL (run n s0).out k' n' (.slice TA tn tc) (run n s0).steps (run n s0).konts).all fun x => x.oneCell') = true := by simp [runL, Value.oneCell']
   have hszr : (Tryz.prog.info? 42).map (·.size) = some (runL (run n s0).out k' n' (.slice TA tn tc) (run n s0).steps (run n s0).konts).size := szRun
   have B6 : Below w.heap.size w w6 := (HB1.out.trans (HB1w.out.mono (by have := HZ1.out; omega))).trans (hb6.mono (by omega))
   have HB7 := Lib.hid (below_setRow' B6 (show w.heap.size ≤ w.heap.size + 1 by omega) (runL (run n s0).out k' n' (.slice TA tn tc) (run n s0).steps (run n s0).konts))
   have HL7 := Lib.hid (lies_setRow' l6 (runL (run n s0).out k' n' (.slice TA tn tc) (run n s0).steps (run n s0).konts))
   have HO7 := Lib.hid (own_mono (own_same ho6 (w' := w6.setRow (w.heap.size + 1) (runL (run n s0).out k' n' (.slice TA tn tc) (run n s0).steps (run n s0).konts)) (fun g h1 _ => heap_setRow' _ _ _ g (by omega))) (show w.heap.size ≤ wr.heap.size by omega))
   have HL6 := Lib.hid l6
   have HRW := Lib.hid hrow
   have HSZ := Lib.hid hszr
   clear l6 hrow hszr B6 ho6 hb6 hwz
   dsimp only
   go_wp2_with (refine wpList_store_rowTo rfl 42 (.tmp 6) (.tmp 22) rfl rfl (w.heap.size + 1) (runL (run n s0).out k' n' (.slice TA tn tc) (run n s0).steps (run n s0).konts) rfl rfl 42 #[.int .i64 0, .int .i64 0, .int .i64 0, .string ⟨#[]⟩, .slice none 0 0, .slice none 0 0, .int .i64 0, .int .i64 0] ?_ HSZ.out rfl HRW.out ?_; exact HL6.out)
   refine bodyPost_ret (v := .agg (runL (run n s0).out k' n' (.slice TA tn tc) (run n s0).steps (run n s0).konts)) (results_cell_row rfl _ _ (w.heap.size + 1) 42 _ (0, 0) _ rfl HL7.out Tryz.underlying42 rfl szRun) rfl ?_
   exact ⟨_, rfl, HO7.out, HB7.out⟩
end So
end Go.Proofs.YtmodmojocclmaaaGreatDoor.K

/- Whether two lists of numbers are the same. -/
namespace Go.Proofs.YtmodmojocclmaaaGreatDoor.K
open Go Go.RowKit
namespace So

def IntsS (w : World) (u : Value) (xs : List Int) : Prop := ∃ A c, u = .slice A xs.length c ∧ xs.length ≤ c ∧ (0 < xs.length → ∃ g o, A = some ⟨g, o, none⟩ ∧ ∀ (j : Nat) x, xs[j]? = some x → w.cell? ⟨g, o + j, none⟩ = some (.int .i64 x))
theorem IntsS.later {w w' : World} {u : Value} {xs : List Int} (h : IntsS w u xs) (hb : Below w.heap.size w w') : IntsS w' u xs := by
 obtain ⟨A, c, h1, h2, h3⟩ := h
 refine ⟨A, c, h1, h2, fun h0 => ?_⟩
 obtain ⟨g, o, h4, h5⟩ := h3 h0
 exact ⟨g, o, h4, fun j x hx => (World.cell?_of_block (w := w) (hb.block _ (World.block_lt_of_cell? w _ (h5 j x hx)))).trans (h5 j x hx)⟩
end So
end Go.Proofs.YtmodmojocclmaaaGreatDoor.K

/- The terms that the laws of package source make. -/
namespace Go.Proofs.YtmodmojocclmaaaGreatDoor.K
open Go Go.RowKit
namespace So

def TmEnd (k : Int) (nm : Str) (n : Int) (kv : Value) (w : World) (e : Ending) (w' : World) : Prop := ∃ av rest, e = .returned (.agg (tmL k av nm [] n kv (.slice none 0 0) rest).toArray) ∧ rest.length = 14 ∧ (∀ u ∈ av :: rest, u.oneCell' = true) ∧ Below w.heap.size w w'
theorem szTerm : (Tryz.prog.info? 33).map (·.size) = some 21 := by kernel_rfl
set_option maxRecDepth 100000 in
set_option maxHeartbeats 4000000 in
theorem number_term (w : World) (n : Int) : Calls Tryz.prog 14 #[.int .i64 n] w (TmEnd 2 [] n (.slice none 0 0) w) := by
 go_enter Tryz.func14, Tryz.ntmps14
 go_wp2_with (refine wpList_store_rowTo rfl 33 (.tmp 2) (.tmp 4) rfl rfl w.heap.size _ rfl rfl 33 _ (Lies.new w _ _) (by rw [szTerm]; rfl) rfl (by simp [Value.oneCell']) ?_)
 refine bodyPost_ret (v := .agg (tmL 2 (.int .i64 0) [] [] n (.slice none 0 0) (.slice none 0 0) [.int .i64 0, .string ⟨#[]⟩, .int .i64 0, .slice none 0 0, .slice none 0 0, .int .i64 0, .slice none 0 0, .int .i64 0, .int .i64 0, .string ⟨#[]⟩, .int .i64 0, .slice none 0 0, .slice none 0 0, .int .i64 0]).toArray) (results_cell_row rfl _ _ w.heap.size 33 _ (0, 0) _ rfl (lies_setRow' (Lies.new w _ _) _) Tryz.underlying33 rfl szTerm) rfl ?_
 exact ⟨.int .i64 0, _, rfl, rfl, (by intro u hu; simp at hu; rcases hu with rfl | rfl | rfl | rfl | rfl | rfl | rfl | rfl | rfl | rfl | rfl | rfl | rfl | rfl | rfl <;> rfl), below_setRow' (below_new w _) (Nat.le_refl _) _⟩
set_option maxRecDepth 100000 in
set_option maxHeartbeats 4000000 in
theorem variable_term (w : World) (nm : Str) : Calls Tryz.prog 13 #[.string (ba nm)] w (TmEnd 1 nm 0 (.slice none 0 0) w) := by
 go_enter Tryz.func13, Tryz.ntmps13
 go_wp2_with (refine wpList_store_rowTo rfl 33 (.tmp 2) (.tmp 4) rfl rfl w.heap.size _ rfl rfl 33 _ (Lies.new w _ _) (by rw [szTerm]; rfl) rfl (by simp [Value.oneCell']) ?_)
 refine bodyPost_ret (v := .agg (tmL 1 (.int .i64 0) nm [] 0 (.slice none 0 0) (.slice none 0 0) [.int .i64 0, .string ⟨#[]⟩, .int .i64 0, .slice none 0 0, .slice none 0 0, .int .i64 0, .slice none 0 0, .int .i64 0, .int .i64 0, .string ⟨#[]⟩, .int .i64 0, .slice none 0 0, .slice none 0 0, .int .i64 0]).toArray) (results_cell_row rfl _ _ w.heap.size 33 _ (0, 0) _ rfl (lies_setRow' (Lies.new w _ _) _) Tryz.underlying33 rfl szTerm) rfl ?_
 exact ⟨.int .i64 0, _, rfl, rfl, (by intro u hu; simp at hu; rcases hu with rfl | rfl | rfl | rfl | rfl | rfl | rfl | rfl | rfl | rfl | rfl | rfl | rfl | rfl | rfl <;> rfl), below_setRow' (below_new w _) (Nat.le_refl _) _⟩
end So
end Go.Proofs.YtmodmojocclmaaaGreatDoor.K

/- The machine of package source, in plain words: runs. -/
namespace Go.Proofs.YtmodmojocclmaaaGreatDoor.K
namespace So

def okB (s : St) : Bool := decide (s.trace.length ≤ 1000000) && (decide (s.cells.length ≤ 1000000) && (decide (s.hs.length ≤ 1000000) && (decide (s.konts ≤ 1000000) && (decide (s.out ≠ 0) || (s.at_.isSome || (!s.above.isEmpty || !s.hs.isEmpty))))))
theorem okB_bd {s : St} (h : okB s = true) : Bd s ∧ (s.out = 0 → s.at_ = none → s.above ≠ [] ∨ s.hs ≠ []) := by
 unfold okB at h
 simp only [Bool.and_eq_true, decide_eq_true_eq, Bool.or_eq_true, Bool.not_eq_true', List.isEmpty_eq_false_iff] at h
 obtain ⟨h1, h2, h3, h4, h5⟩ := h
 refine ⟨⟨h1, h2, h3, h4⟩, fun ho ha => ?_⟩
 rcases h5 with h5 | h5 | h5
 ·exact absurd ho h5
 ·rw [ha] at h5; cases h5
 ·exact h5
theorem okB_mk {s : St} (h1 : s.trace.length ≤ 1000000) (h2 : s.cells.length ≤ 1000000) (h3 : s.hs.length ≤ 1000000) (h4 : s.konts ≤ 1000000) (h5 : (decide (s.out ≠ 0) || (s.at_.isSome || (!s.above.isEmpty || !s.hs.isEmpty))) = true) : okB s = true := by
 unfold okB
 rw [decide_eq_true h1, decide_eq_true h2, decide_eq_true h3, decide_eq_true h4, h5]
 rfl
theorem Runs.zero {s : St} (h : okB s = true) : Runs s 0 := by
 have := okB_bd h
 exact ⟨fun j hj => by obtain rfl : j = 0 := (by omega); exact this.1, fun j hj => by obtain rfl : j = 0 := (by omega); exact this.2⟩
theorem Runs.over {s : St} (h : okB s = true) (ho : s.out ≠ 0) (n : Nat) : Runs s n := by
 have := okB_bd h
 exact ⟨fun j _ => by rw [run_over ho]; exact this.1, fun j _ => by rw [run_over ho]; exact this.2⟩
theorem Runs.one {s : St} {n : Nat} (h : okB s = true) (ho : s.out = 0) (hr : Runs (step s) n) : Runs s (n + 1) := by
 have := okB_bd h
 refine ⟨fun j hj => ?_, fun j hj => ?_⟩
 ·cases j with
  | zero => exact this.1
  | succ j => rw [run_one ho]; exact hr.bd j (by omega)
 ·cases j with
  | zero => exact this.2
  | succ j => rw [run_one ho]; exact hr.ne j (by omega)
def Res (s : St) (n : Nat) (f : St) : Prop := Runs s n ∧ run n s = f
theorem Res.over {s : St} (h : okB s = true) (ho : s.out ≠ 0) (n : Nat) : Res s n s := ⟨Runs.over h ho n, run_over ho n⟩
theorem Res.one {s s' f : St} {n : Nat} (h : okB s = true) (ho : s.out = 0) (he : step s = s') (hr : Res s' n f) : Res s (n + 1) f := by
 subst he
 exact ⟨Runs.one h ho hr.1, by rw [run_one ho]; exact hr.2⟩
def okRun : Nat → St → Bool
 | 0, s => okB s
 | n + 1, s => okB s && (if s.out = 0 then okRun n (step s) else true)
theorem okRun_runs : ∀ {n : Nat} {s : St}, okRun n s = true → Runs s n
 | 0, _, h => Runs.zero h
 | n + 1, s, h => by
  unfold okRun at h
  rw [Bool.and_eq_true] at h
  by_cases ho : s.out = 0
  ·rw [if_pos ho] at h
   exact Runs.one h.1 ho (okRun_runs h.2)
  ·exact Runs.over h.1 ho _

def unT : Tm := .mk 4 [] [] 0 [] []
def numT (n : Int) : Tm := .mk 2 [] [] n [] []
def varT (nm : Str) : Tm := .mk 1 nm [] 0 [] []
def opT (nm : Str) (kids : List Tm) : Tm := .mk 10 nm [] 0 kids []
def letT (nm : Str) (a b : Tm) : Tm := .mk 7 nm [] 0 [a, b] []

theorem step_var {c : Str} {env : Env} {u v : Val} {fr : Frame} {ab : List Frame} {hs : List (Hd × List Frame)} {ce : List Val} {inp tr : List Int} {st ko : Nat} (h : find c env = some u) :
  step ⟨some (varT c, env), v, fr :: ab, hs, ce, inp, tr, 0, st, ko⟩ = ⟨none, u, fr :: ab, hs, ce, inp, tr, 0, st + 1, ko⟩ := by
 show fin (match find c env with | some v' => St.has ⟨some (varT c, env), v, fr :: ab, hs, ce, inp, tr, 0, st + 1, ko⟩ v' | none => St.ends ⟨some (varT c, env), v, fr :: ab, hs, ce, inp, tr, 0, st + 1, ko⟩ 4) = _
 rw [h]
 rfl
def prT : Tm := opT [112, 114, 105, 110, 116] [opT [114, 101, 97, 100] []]
def rT : Nat → Tm
 | 0 => unT
 | n + 1 => letT [95] prT (rT n)
end So
end Go.Proofs.YtmodmojocclmaaaGreatDoor.K

/- The machine of package source, in plain words: cells. -/
namespace Go.Proofs.YtmodmojocclmaaaGreatDoor.K
namespace So

def showT (c : Str) : Tm := opT [112, 114, 105, 110, 116] [opT [33] [varT c]]
def setT (c : Str) (p : Int) : Tm := opT [58, 61] [varT c, numT p]
def refT (p : Int) : Tm := opT [114, 101, 102] [numT p]
theorem ok_plain {a : Option (Tm × Env)} {v : Val} {ab : List Frame} {ce : List Val} {tr : List Int} {st : Nat} (h1 : tr.length ≤ 1000000) (h2 : ce.length ≤ 1000000) (h : (a.isSome || (!ab.isEmpty || false)) = true) : okB ⟨a, v, ab, [], ce, [], tr, 0, st, 0⟩ = true :=
 okB_mk h1 h2 (Nat.zero_le _) (Nat.zero_le _) (by show (false || (a.isSome || (!ab.isEmpty || false))) = true; rw [h]; rfl)
def nmK : Nat → Str | 0 => [97] | 1 => [98] | _ => [99]
def endT : Tm := letT [95] (showT [97]) (letT [95] (showT [98]) (letT [95] (showT [99]) unT))
def putsT : List (Nat × Int) → Tm
 | [] => endT
 | x :: r => letT [95] (setT (nmK x.1) x.2) (letT [95] (showT (nmK x.1)) (putsT r))
def cellsT (a b c : Int) (l : List (Nat × Int)) : Tm := letT [97] (refT a) (letT [98] (refT b) (letT [99] (refT c) (putsT l)))
def setAll : List Int → List (Nat × Int) → List Int
 | cs, [] => cs
 | cs, x :: r => setAll (cs.set x.1 x.2) r
def EnvOk (e : Env) : Prop := ∀ k : Nat, k < 3 → find (nmK k) e = some (.lit 5 (k : Int))
theorem EnvOk.more {e : Env} (h : EnvOk e) (v : Val) : EnvOk (([95], v) :: e) := fun k hk => by
 rcases (show k = 0 ∨ k = 1 ∨ k = 2 by omega) with rfl | rfl | rfl
 ·exact h 0 hk
 ·exact h 1 hk
 ·exact h 2 hk
end So
end Go.Proofs.YtmodmojocclmaaaGreatDoor.K

/- SourceLarge, in plain words: its run, and what is told of pairs of pairs. -/
namespace Go.Proofs.YtmodmojocclmaaaGreatDoor.K
namespace So

def pairT : Tm := .mk 11 [80] [] 0 [varT [120], varT [120]] []
def chainT : Nat → Tm
 | 0 => varT [120]
 | n + 1 => letT [120] pairT (chainT n)
def largeT (v : Int) (n : Nat) : Tm := letT [120] (numT v) (chainT n)
def valP (v : Int) : Nat → Val
 | 0 => .lit 1 v
 | n + 1 => .con [80] [valP v n, valP v n]
theorem pair_run {env : Env} {V u : Val} {st n : Nat} {t : Tm} {f : St} (hf : find [120] env = some V)
  (h : Res ⟨some (t, ([120], .con [80] [V, V]) :: env), .con [80] [V, V], [], [], [], [], [], 0, st + 1 + 1 + 1 + 1 + 1 + 1 + 1, 0⟩ n f) : Res ⟨some (letT [120] pairT t, env), u, [], [], [], [], [], 0, st, 0⟩ (n + 7) f := by
 have h0 : ([] : List Int).length ≤ 1000000 := Nat.zero_le _
 have h1 : ([] : List Val).length ≤ 1000000 := Nat.zero_le _
 refine Res.one (s' := ⟨some (pairT, env), u, [.name [120] t env], [], [], [], [], 0, st + 1, 0⟩) (ok_plain h0 h1 rfl) rfl rfl ?_
 refine Res.one (s' := ⟨some (varT [120], env), u, [.gath pairT env [], .name [120] t env], [], [], [], [], 0, st + 1 + 1, 0⟩) (ok_plain h0 h1 rfl) rfl rfl ?_
 refine Res.one (ok_plain h0 h1 rfl) rfl (step_var hf) ?_
 refine Res.one (s' := ⟨some (varT [120], env), V, [.gath pairT env [V], .name [120] t env], [], [], [], [], 0, st + 1 + 1 + 1 + 1, 0⟩) (ok_plain h0 h1 rfl) rfl rfl ?_
 refine Res.one (ok_plain h0 h1 rfl) rfl (step_var hf) ?_
 refine Res.one (s' := ⟨none, .con [80] [V, V], [.name [120] t env], [], [], [], [], 0, st + 1 + 1 + 1 + 1 + 1 + 1, 0⟩) (ok_plain h0 h1 rfl) rfl rfl ?_
 exact Res.one (ok_plain h0 h1 rfl) rfl rfl h
theorem chain_run (v : Int) : ∀ (k j : Nat) (env : Env) (u : Val) (st n : Nat), find [120] env = some (valP v j) → 7 * k + 1 ≤ n →
  ∃ f, Res ⟨some (chainT k, env), u, [], [], [], [], [], 0, st, 0⟩ n f ∧ f.out = 1 ∧ f.at_ = none ∧ f.val = valP v (j + k) := by
 intro k
 induction k with
 | zero =>
  intro j env u st n hf hn
  obtain ⟨m, rfl⟩ : ∃ m, n = m + 1 := ⟨n - 1, by omega⟩
  have hs : step ⟨some (varT [120], env), u, [], [], [], [], [], 0, st, 0⟩ = ⟨none, valP v j, [], [], [], [], [], 1, st + 1, 0⟩ := by
   have e : enter (varT [120]) env ⟨some (varT [120], env), u, [], [], [], [], [], 0, st + 1, 0⟩ = ⟨none, valP v j, [], [], [], [], [], 0, st + 1, 0⟩ := by
    show (match find [120] env with | some v => St.has _ v | none => St.ends _ 4) = _
    rw [hf]
    rfl
   show fin (enter (varT [120]) env ⟨some (varT [120], env), u, [], [], [], [], [], 0, st + 1, 0⟩) = _
   rw [e]
   rfl
  refine ⟨⟨none, valP v j, [], [], [], [], [], 1, st + 1, 0⟩, Res.one (ok_plain (Nat.zero_le _) (Nat.zero_le _) rfl) rfl hs ?_, rfl, rfl, rfl⟩
  exact Res.over (okB_mk (Nat.zero_le _) (Nat.zero_le _) (Nat.zero_le _) (Nat.zero_le _) rfl) (by show (1 : Int) ≠ 0; decide) m
 | succ k ih =>
  intro j env u st n hf hn
  obtain ⟨m, rfl⟩ : ∃ m, n = m + 7 := ⟨n - 7, by omega⟩
  obtain ⟨f, h1, h2, h3, h4⟩ := ih (j + 1) (([120], valP v (j + 1)) :: env) (valP v (j + 1)) (st + 1 + 1 + 1 + 1 + 1 + 1 + 1) m rfl (by omega)
  exact ⟨f, pair_run hf h1, h2, h3, by rw [h4]; congr 1; omega⟩
theorem large_run (v : Int) (k n : Nat) (hn : 7 * k + 4 ≤ n) : ∃ f, Res (start (largeT v k) []) n f ∧ f.out = 1 ∧ f.at_ = none ∧ f.val = valP v k := by
 obtain ⟨m, rfl⟩ : ∃ m, n = m + 1 + 1 + 1 := ⟨n - 3, by omega⟩
 obtain ⟨f, h1, h2, h3, h4⟩ := chain_run v k 0 [([120], .lit 1 v)] (.lit 1 v) (0 + 1 + 1 + 1) m rfl (by omega)
 have h0 : ([] : List Int).length ≤ 1000000 := Nat.zero_le _
 have h5 : ([] : List Val).length ≤ 1000000 := Nat.zero_le _
 refine ⟨f, ?_, h2, h3, by rw [h4, Nat.zero_add]⟩
 refine Res.one (s' := ⟨some (numT v, []), unitV, [.name [120] (chainT k) []], [], [], [], [], 0, 0 + 1, 0⟩) (ok_plain h0 h5 rfl) rfl rfl ?_
 refine Res.one (s' := ⟨none, .lit 1 v, [.name [120] (chainT k) []], [], [], [], [], 0, 0 + 1 + 1, 0⟩) (ok_plain h0 h5 rfl) rfl rfl ?_
 exact Res.one (ok_plain h0 h5 rfl) rfl rfl h1
def szP : Nat → Int
 | 0 => 1
 | n + 1 => 2 * szP n + 1
theorem szP_pos : ∀ n, 1 ≤ szP n
 | 0 => by decide
 | n + 1 => by have := szP_pos n; show 1 ≤ 2 * szP n + 1; omega
theorem szP_le : ∀ {m n : Nat}, m ≤ n → szP m ≤ szP n
 | 0, n, _ => szP_pos n
 | m + 1, 0, h => absurd h (by omega)
 | m + 1, n + 1, h => by have := szP_le (Nat.le_of_succ_le_succ h); show 2 * szP m + 1 ≤ 2 * szP n + 1; omega
theorem pcs_con (most : Int) (nm : Str) (l : List Val) : pcs most (.con nm l) = pcsL most 1 l := by rw [pcs]
theorem pcsL_nil (most c : Int) : pcsL most c [] = c := by rw [pcsL]
theorem pcsL_cons (most c : Int) (a : Val) (r : List Val) : pcsL most c (a :: r) = if most < c then c else pcsL most (c + pcs (most - c) a) r := by rw [pcsL]
theorem pcs_zero (v most : Int) : pcs most (valP v 0) = 1 := by
 unfold valP
 rw [pcs]
 exact fun _ _ h => by cases h
theorem pcs_valP (v : Int) : ∀ (n : Nat) (most : Int), (szP n ≤ most → pcs most (valP v n) = szP n) ∧ (most < szP n → most < pcs most (valP v n))
 | 0, most => by
  have e : pcs most (valP v 0) = 1 := pcs_zero v most
  rw [e]
  exact ⟨fun _ => rfl, fun h => h⟩
 | n + 1, most => by
  have e : pcs most (valP v (n + 1)) = if most < 1 then 1 else if most < 1 + pcs (most - 1) (valP v n) then 1 + pcs (most - 1) (valP v n) else 1 + pcs (most - 1) (valP v n) + pcs (most - (1 + pcs (most - 1) (valP v n))) (valP v n) := by
   show pcs most (.con [80] [valP v n, valP v n]) = _
   rw [pcs_con, pcsL_cons, pcsL_cons, pcsL_nil]
  have ih1 := pcs_valP v n (most - 1)
  have hp := szP_pos n
  have es : szP (n + 1) = 2 * szP n + 1 := rfl
  rw [e, es]
  by_cases h1 : most < 1
  ·rw [if_pos h1]
   exact ⟨fun h => by omega, fun _ => h1⟩
  ·rw [if_neg h1]
   by_cases h2 : szP n ≤ most - 1
   ·rw [ih1.1 h2]
    have ih2 := pcs_valP v n (most - (1 + szP n))
    rw [if_neg (by omega)]
    by_cases h3 : szP n ≤ most - (1 + szP n)
    ·rw [ih2.1 h3]
     exact ⟨fun _ => by omega, fun h => by omega⟩
    ·have := ih2.2 (by omega)
     exact ⟨fun h => by omega, fun _ => by omega⟩
   ·have h4 := ih1.2 (by omega)
    rw [if_pos (by omega)]
    exact ⟨fun h => by omega, fun _ => by omega⟩
theorem told_small (v : Int) {n : Nat} (h : n < 13) : told (valP v n) = whole (valP v n) := by
 have h1 : szP n ≤ szP 12 := szP_le (by omega)
 have h2 : szP 12 = 8191 := by decide
 unfold told
 rw [if_neg (by rw [(pcs_valP v n 10000).1 (by omega)]; omega)]
theorem told_big (v : Int) {n : Nat} (h : 13 ≤ n) : told (valP v n) = alone (valP v n) := by
 have h1 : szP 13 ≤ szP n := szP_le h
 have h2 : szP 13 = 16383 := by decide
 unfold told
 rw [if_pos ((pcs_valP v n 10000).2 (by omega))]
end So
end Go.Proofs.YtmodmojocclmaaaGreatDoor.K
