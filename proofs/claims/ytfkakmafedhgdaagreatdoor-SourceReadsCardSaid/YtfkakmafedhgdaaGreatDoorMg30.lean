/- The machine of package source: its begin. -/
import Derived.Test.YtfkakmafedhgdaaGreatDoorSoAk
import Derived.Test.YtfkakmafedhgdaaGreatDoorMg05
import Derived.Test.YtfkakmafedhgdaaGreatDoorMg06
import Derived.Deep.LoopGhost
import Derived.BigQuiet
import Derived.Laws.Rows
import Derived.Laws.Tables
import Derived.Deep.WholeRow
import Derived.Great.BuildSlice
namespace Go.Proofs.YtfkakmafedhgdaaGreatDoor.K
open Go Go.RowKit
namespace So

/-- The whole memory. -/
def memOf (w : World) : Mem := fun b => w.heap[b]?
theorem start_ms {w : World} {t : Tm} {input : List Int} {tb to : Nat} {A : Option Addr} {n c : Nat} (ht : TmA (memOf w) tb to t) (hi : InV (memOf w) (.slice A n c) input) :
    MS w w.heap.size (memOf w) (start t input) (w.alloc (.cells (mC (ptO tb to) (.pointer none) (.int .i64 0) (.int .i64 0) (.pointer none) .nilIface (.pointer none) (.pointer none) (.slice none 0 0) (.slice A n c) (.slice none 0 0) 0 0 0) 75)) := by
  refine ⟨ptO tb to, .pointer none, .int .i64 0, .int .i64 0, .pointer none, .nilIface, .pointer none, .pointer none, .slice none 0 0, .slice A n c, .slice none 0 0, ?_⟩
  refine ⟨⟨rfl, rfl, rfl, Nat.le_refl _, fun b o hb => ?_, fun b o hb => ?_, fun b _ => rfl, ?_, ?_, ?_, fun b hb => by simp [Value.ownBlock] at hb⟩, Lies.new w _ _, ⟨⟨tb, to, rfl, ht⟩, .nil, rfl, ?_⟩, .nil, .nil, hi⟩
  · have hl : b < w.heap.size := (Array.getElem?_eq_some_iff.1 hb).1
    exact (Below.heap_alloc w _ b hl).trans hb
  · have hl : b < w.heap.size := (Array.getElem?_eq_some_iff.1 hb).1
    simp; omega
  · show w.heap[w.heap.size]? = none
    simp
  · exact ⟨⟨[], rfl, World.ownsRow_nil _ _ _ _, fun i x u h1 _ => by cases h1⟩, fun b hb => by simp [Value.ownBlock] at hb⟩
  · exact ⟨World.ownsRow_nil _ _ _ _, fun b hb => by simp [Value.ownBlock] at hb⟩
  · intro u hu
    simp at hu
    rcases hu with rfl | rfl | rfl | rfl <;> rfl
set_option maxRecDepth 100000 in
set_option maxHeartbeats 4000000 in
theorem begin_any (w : World) {t : Tm} {input : List Int} {tb to : Nat} {iv : Value} (ht : TmA (memOf w) tb to t) (hi : InV (memOf w) iv input) :
    Calls Tryz.prog 16 #[ptO tb to, iv] w fun e w' => e = .returned (pt w.heap.size) ∧ MS w w.heap.size (memOf w) (start t input) w' := by
  obtain ⟨A, c, rfl, _⟩ := hi.1
  have hm := start_ms ht hi
  have HM := Lib.hid hm
  clear hm ht hi
  unfold ptO pt mC at *
  go_enter Tryz.func16, Tryz.ntmps16
  go_wp2
  go_ret
  exact ⟨rfl, HM.out⟩
end So
end Go.Proofs.YtfkakmafedhgdaaGreatDoor.K

/- The machine of package source: Run. -/
namespace Go.Proofs.YtfkakmafedhgdaaGreatDoor.K
open Go Go.RowKit
namespace So

/-- A step, whatever the machine is at. -/
theorem step_any {w0 : World} {mb : Nat} {H : Mem} {s : St} {w : World} (h : MS w0 mb H s w) (ho : s.out = 0) (B : Bd s) (hst : s.steps ≤ 1000000) (hne : s.at_ = none → s.above ≠ [] ∨ s.hs ≠ []) :
    Calls Tryz.prog 17 #[pt mb] w (StepEnd w0 mb H (step s)) := by
  cases ha : s.at_ with
  | none => exact step_val h ho B hst ha (hne ha)
  | some p =>
    obtain ⟨t, en⟩ := p
    exact step_term h ho B hst ha
/-- What is asked of a run. -/
structure Runs (s : St) (n : Nat) : Prop where
  bd : ∀ j, j ≤ n → Bd (run j s)
  ne : ∀ j, j ≤ n → (run j s).out = 0 → (run j s).at_ = none → (run j s).above ≠ [] ∨ (run j s).hs ≠ []
theorem memOf_alloc (w : World) (o : Obj) : MLe (memOf w) (memOf (w.alloc o)) := fun b _ hb => (Below.heap_alloc w o b (Array.getElem?_eq_some_iff.1 hb).1).trans hb
/-- The machine's cells that Run reads. -/
theorem MS.reads {w0 : World} {mb : Nat} {H : Mem} {s : St} {w : World} (h : MS w0 mb H s w) : w.cell? ⟨mb, 12, none⟩ = some (.int .i64 (s.steps : Int)) := by
  obtain ⟨tv, ev, v0, v1, v2, v3, fv, hv, cv, iv, lv, h⟩ := h
  exact h.lies.cell 12
theorem MS.kept0 {w0 : World} {mb : Nat} {H : Mem} {s : St} {w : World} (h : MS w0 mb H s w) : Below w0.heap.size w0 w := by
  have hlt := h.lt
  obtain ⟨tv, ev, v0, v1, v2, v3, fv, hv, cv, iv, lv, h⟩ := h
  exact h.core.below (by have := h.core.base; omega)
/-- What begin leaves, for Run. -/
def BeEnd (w : World) (mb : Nat) (s0 : St) (e : Ending) (w2 : World) : Prop := e = .returned (pt mb) ∧ ∃ W1, Below w.heap.size w W1 ∧ W1.heap.size = mb ∧ Lies W1 (w.heap.size + 1) 42 #[.int .i64 0, .int .i64 0, .int .i64 0, .string ⟨#[]⟩, .slice none 0 0, .slice none 0 0, .int .i64 0, .int .i64 0] ∧ MS W1 mb (memOf W1) s0 w2
theorem run_add (s : St) : ∀ a b, run (a + b) s = run b (run a s)
  | 0, b => by rw [Nat.zero_add]; rfl
  | a + 1, b => by
    by_cases h : s.out = 0
    · rw [show a + 1 + b = (a + b) + 1 by omega, run_one h, run_one h, run_add (step s) a b]
    · rw [run_over h, run_over h, run_over h]
theorem run_stay {s : St} {j n : Nat} (h : (run j s).out ≠ 0) (hj : j ≤ n) : run j s = run n s := by
  obtain ⟨d, rfl⟩ := Nat.exists_eq_add_of_le hj
  rw [run_add, run_over h]
def RunRel (W1 : World) (mb : Nat) (s0 : St) (n : Nat) (k : Nat) (wr : World) : Prop := ∃ (j : Nat) (H' : Mem), j + k = n ∧ MS W1 mb H' (run j s0) wr ∧ (run j s0).steps = j
set_option maxRecDepth 100000 in
set_option maxHeartbeats 4000000 in
theorem run_any (w : World) (pC : Array Value) (iv : Value) (n : Nat) (hn : n ≤ 100000) {t : Tm} {input : List Int} (ht : TmA (memOf (w.alloc (.cells pC 47))) w.heap.size 2 t) (hi : InV (memOf w) iv input) (hR : Runs (start t input) n) (hv : (run n (start t input)).out ≠ 1) :
    Calls Tryz.prog 9 #[.agg pC, iv, .int .i64 (n : Int)] w (ToldEnd (run n (start t input)) 0 0 w) := by
  have hbe0 := begin_any ((w.alloc (.cells pC 47)).alloc (.cells #[.int .i64 0, .int .i64 0, .int .i64 0, .string ⟨#[]⟩, .slice none 0 0, .slice none 0 0, .int .i64 0, .int .i64 0] 42)) (ht.le (memOf_alloc _ _)) (hi.le ((memOf_alloc _ _).trans (memOf_alloc _ _)))
  obtain ⟨mb, hmb⟩ : ∃ mb, mb = w.heap.size + 1 + 1 := ⟨_, rfl⟩
  obtain ⟨s0, hs0⟩ : ∃ s0, s0 = start t input := ⟨_, rfl⟩
  have hst0 : s0.steps = 0 := by rw [hs0]; rfl
  rw [← hs0] at hbe0 hR hv ⊢
  have hbe := hbe0.mono (R' := BeEnd w mb s0) (fun e w' h => by
    have hz : ((w.alloc (.cells pC 47)).alloc (.cells #[.int .i64 0, .int .i64 0, .int .i64 0, .string ⟨#[]⟩, .slice none 0 0, .slice none 0 0, .int .i64 0, .int .i64 0] 42)).heap.size = mb := by rw [hmb]; simp
    rw [hz] at h
    refine ⟨h.1, _, ((Below.refl _ _).alloc (Nat.le_refl _) _).alloc (by simp) _, hz, ?_, h.2⟩
    have := Lies.new (w.alloc (.cells pC 47)) 42 #[.int .i64 0, .int .i64 0, .int .i64 0, .string ⟨#[]⟩, .slice none 0 0, .slice none 0 0, .int .i64 0, .int .i64 0]
    simpa using this)
  have HBE := Lib.hid hbe
  have HR := Lib.hid hR
  have HV := Lib.hid hv
  have HS0 := Lib.hid hst0
  have hmw : w.heap.size + 1 < mb := by omega
  clear hbe hbe0 ht hi hR hv hst0 hs0 hmb
  unfold ptO at *
  go_enter Tryz.func9, Tryz.ntmps9
  go_wp2_with fail
  refine HBE.out.mono ?_
  rintro e w2 ⟨rfl, W1, hb1, hz1, lz1, m2⟩
  have HB1 := Lib.hid hb1
  have HZ1 := Lib.hid hz1
  have LZ1 := Lib.hid lz1
  have M2 := Lib.hid m2
  clear hb1 hz1 lz1 m2
  unfold pt
  dsimp only
  go_wp2_with fail
  go_loopg [11] n (fun k _ wr => RunRel W1 mb s0 n k wr)
  case atStart => exact ⟨0, _, by omega, M2.out, HS0.out⟩
  case round =>
    obtain ⟨j, H', hj, hms, hsj⟩ := hrel
    have c12 := hms.reads
    rw [hsj] at c12
    have HB1w := Lib.hid hms.kept0
    by_cases hlt : j < n
    · have hji : (j : Int) < (n : Int) := by omega
      by_cases ho : (run j s0).out = 0
      · have HST := Lib.hid (step_any hms ho (HR.out.bd j (by omega)) (by omega) (HR.out.ne j (by omega) ho))
        have hrm := run_more (s := s0) j ho
        have HRM := Lib.hid hrm
        have HSJ := Lib.hid hsj
        have HJ := Lib.hid hj
        clear hms hrm hsj hj ho
        unfold pt at *
        go_wp2_with fail
        refine HST.out.mono ?_
        rintro e w5 ⟨rfl, H5, k5, m5⟩
        rw [← HRM.out.1] at m5
        have M5 := Lib.hid m5
        clear k5 m5
        go_wp2
        go_roundg (n - (j + 1))
        case measure => have := HJ.out; omega
        case rel => exact ⟨j + 1, H5, by have := HJ.out; omega, M5.out, by rw [HRM.out.1, step_steps, HSJ.out]⟩
      · have HST := Lib.hid (step_over hms ho)
        have hrun := run_stay ho (show j ≤ n by omega)
        have HTO := Lib.hid (told_any hms (Bd.trace (HR.out.bd j (by omega))) (by rw [hrun]; exact HV.out))
        have HRUN := Lib.hid hrun
        clear hms hrun ho hsj
        unfold pt at *
        go_wp2_with fail
        refine HST.out.mono ?_
        rintro e w5 ⟨rfl, rfl⟩
        go_wp2_with fail
        refine HTO.out.mono ?_
        rintro e w6 ⟨tr, rfl, ho6, hb6⟩
        obtain ⟨TA, tn, tc, rfl⟩ := own_slice ho6
        rw [HRUN.out] at ho6 ⊢
        have hwz : mb ≤ w5.heap.size := by have := HB1w.out.size; have := HZ1.out; omega
        have l6 : Lies w6 (w.heap.size + 1) 42 #[.int .i64 0, .int .i64 0, .int .i64 0, .string ⟨#[]⟩, .slice none 0 0, .slice none 0 0, .int .i64 0, .int .i64 0] := (hb6.block _ (by omega)).trans ((HB1w.out.block _ (by have := HZ1.out; omega)).trans LZ1.out)
        have hrow : ((runL (run n s0).out 0 0 (.slice TA tn tc) (run n s0).steps (run n s0).konts).all fun x => x.oneCell') = true := by simp [runL, Value.oneCell']
        have hszr : (Tryz.prog.info? 42).map (·.size) = some (runL (run n s0).out 0 0 (.slice TA tn tc) (run n s0).steps (run n s0).konts).size := szRun
        have B6 : Below w.heap.size w w6 := (HB1.out.trans (HB1w.out.mono (by have := HZ1.out; omega))).trans (hb6.mono (by omega))
        have HB7 := Lib.hid (below_setRow' B6 (show w.heap.size ≤ w.heap.size + 1 by omega) (runL (run n s0).out 0 0 (.slice TA tn tc) (run n s0).steps (run n s0).konts))
        have HL7 := Lib.hid (lies_setRow' l6 (runL (run n s0).out 0 0 (.slice TA tn tc) (run n s0).steps (run n s0).konts))
        have HO7 := Lib.hid (own_mono (own_same ho6 (w' := w6.setRow (w.heap.size + 1) (runL (run n s0).out 0 0 (.slice TA tn tc) (run n s0).steps (run n s0).konts)) (fun g h1 _ => heap_setRow' _ _ _ g (by omega))) (show w.heap.size ≤ w5.heap.size by omega))
        have HL6 := Lib.hid l6
        have HRW := Lib.hid hrow
        have HSZ := Lib.hid hszr
        clear l6 hrow hszr B6 ho6 hb6 hwz
        dsimp only
        go_wp2_with (refine wpList_store_rowTo rfl 42 (.tmp 6) (.tmp 22) rfl rfl (w.heap.size + 1) (runL (run n s0).out 0 0 (.slice TA tn tc) (run n s0).steps (run n s0).konts) rfl rfl 42 #[.int .i64 0, .int .i64 0, .int .i64 0, .string ⟨#[]⟩, .slice none 0 0, .slice none 0 0, .int .i64 0, .int .i64 0] ?_ HSZ.out rfl HRW.out ?_; exact HL6.out)
        refine bodyPost_ret (v := .agg (runL (run n s0).out 0 0 (.slice TA tn tc) (run n s0).steps (run n s0).konts)) (results_cell_row rfl _ _ (w.heap.size + 1) 42 _ (0, 0) _ rfl HL7.out Tryz.underlying42 rfl szRun) rfl ?_
        exact ⟨_, rfl, HO7.out, HB7.out⟩
    · have hjn : j = n := by omega
      have hrun : run j s0 = run n s0 := by rw [hjn]
      have hni : ¬ (j : Int) < (n : Int) := by omega
      have hnd : decide ((j : Int) < (n : Int)) = false := by simp; omega
      have HTO := Lib.hid (told_any hms (Bd.trace (HR.out.bd j (by omega))) (by rw [hrun]; exact HV.out))
      have HRUN := Lib.hid hrun
      clear hms hrun hjn hsj hni
      unfold pt at *
      go_wp2_with fail
      refine HTO.out.mono ?_
      rintro e w6 ⟨tr, rfl, ho6, hb6⟩
      obtain ⟨TA, tn, tc, rfl⟩ := own_slice ho6
      rw [HRUN.out] at ho6 ⊢
      have hwz : mb ≤ wr.heap.size := by have := HB1w.out.size; have := HZ1.out; omega
      have l6 : Lies w6 (w.heap.size + 1) 42 #[.int .i64 0, .int .i64 0, .int .i64 0, .string ⟨#[]⟩, .slice none 0 0, .slice none 0 0, .int .i64 0, .int .i64 0] := (hb6.block _ (by omega)).trans ((HB1w.out.block _ (by have := HZ1.out; omega)).trans LZ1.out)
      have hrow : ((runL (run n s0).out 0 0 (.slice TA tn tc) (run n s0).steps (run n s0).konts).all fun x => x.oneCell') = true := by simp [runL, Value.oneCell']
      have hszr : (Tryz.prog.info? 42).map (·.size) = some (runL (run n s0).out 0 0 (.slice TA tn tc) (run n s0).steps (run n s0).konts).size := szRun
      have B6 : Below w.heap.size w w6 := (HB1.out.trans (HB1w.out.mono (by have := HZ1.out; omega))).trans (hb6.mono (by omega))
      have HB7 := Lib.hid (below_setRow' B6 (show w.heap.size ≤ w.heap.size + 1 by omega) (runL (run n s0).out 0 0 (.slice TA tn tc) (run n s0).steps (run n s0).konts))
      have HL7 := Lib.hid (lies_setRow' l6 (runL (run n s0).out 0 0 (.slice TA tn tc) (run n s0).steps (run n s0).konts))
      have HO7 := Lib.hid (own_mono (own_same ho6 (w' := w6.setRow (w.heap.size + 1) (runL (run n s0).out 0 0 (.slice TA tn tc) (run n s0).steps (run n s0).konts)) (fun g h1 _ => heap_setRow' _ _ _ g (by omega))) (show w.heap.size ≤ wr.heap.size by omega))
      have HL6 := Lib.hid l6
      have HRW := Lib.hid hrow
      have HSZ := Lib.hid hszr
      clear l6 hrow hszr B6 ho6 hb6 hwz
      dsimp only
      go_wp2_with (refine wpList_store_rowTo rfl 42 (.tmp 6) (.tmp 22) rfl rfl (w.heap.size + 1) (runL (run n s0).out 0 0 (.slice TA tn tc) (run n s0).steps (run n s0).konts) rfl rfl 42 #[.int .i64 0, .int .i64 0, .int .i64 0, .string ⟨#[]⟩, .slice none 0 0, .slice none 0 0, .int .i64 0, .int .i64 0] ?_ HSZ.out rfl HRW.out ?_; exact HL6.out)
      refine bodyPost_ret (v := .agg (runL (run n s0).out 0 0 (.slice TA tn tc) (run n s0).steps (run n s0).konts)) (results_cell_row rfl _ _ (w.heap.size + 1) 42 _ (0, 0) _ rfl HL7.out Tryz.underlying42 rfl szRun) rfl ?_
      exact ⟨_, rfl, HO7.out, HB7.out⟩
end So
end Go.Proofs.YtfkakmafedhgdaaGreatDoor.K

/- The machine of package source: Run, where it ends with a value without kids. -/
namespace Go.Proofs.YtfkakmafedhgdaaGreatDoor.K
open Go Go.RowKit
namespace So

set_option maxRecDepth 100000 in
set_option maxHeartbeats 4000000 in
theorem run_val (w : World) (pC : Array Value) (iv : Value) (n : Nat) (hn : n ≤ 100000) {t : Tm} {input : List Int} (ht : TmA (memOf (w.alloc (.cells pC 47))) w.heap.size 2 t) (hi : InV (memOf w) iv input) (hR : Runs (start t input) n) {k' n' : Int} (hv : (run n (start t input)).out = 1 ∧ (run n (start t input)).at_ = none ∧ (run n (start t input)).val = .lit k' n') :
    Calls Tryz.prog 9 #[.agg pC, iv, .int .i64 (n : Int)] w (ToldEnd (run n (start t input)) k' n' w) := by
  have hbe0 := begin_any ((w.alloc (.cells pC 47)).alloc (.cells #[.int .i64 0, .int .i64 0, .int .i64 0, .string ⟨#[]⟩, .slice none 0 0, .slice none 0 0, .int .i64 0, .int .i64 0] 42)) (ht.le (memOf_alloc _ _)) (hi.le ((memOf_alloc _ _).trans (memOf_alloc _ _)))
  obtain ⟨mb, hmb⟩ : ∃ mb, mb = w.heap.size + 1 + 1 := ⟨_, rfl⟩
  obtain ⟨s0, hs0⟩ : ∃ s0, s0 = start t input := ⟨_, rfl⟩
  have hst0 : s0.steps = 0 := by rw [hs0]; rfl
  rw [← hs0] at hbe0 hR hv ⊢
  have hbe := hbe0.mono (R' := BeEnd w mb s0) (fun e w' h => by
    have hz : ((w.alloc (.cells pC 47)).alloc (.cells #[.int .i64 0, .int .i64 0, .int .i64 0, .string ⟨#[]⟩, .slice none 0 0, .slice none 0 0, .int .i64 0, .int .i64 0] 42)).heap.size = mb := by rw [hmb]; simp
    rw [hz] at h
    refine ⟨h.1, _, ((Below.refl _ _).alloc (Nat.le_refl _) _).alloc (by simp) _, hz, ?_, h.2⟩
    have := Lies.new (w.alloc (.cells pC 47)) 42 #[.int .i64 0, .int .i64 0, .int .i64 0, .string ⟨#[]⟩, .slice none 0 0, .slice none 0 0, .int .i64 0, .int .i64 0]
    simpa using this)
  have HBE := Lib.hid hbe
  have HR := Lib.hid hR
  have HV := Lib.hid hv
  have HS0 := Lib.hid hst0
  have hmw : w.heap.size + 1 < mb := by omega
  clear hbe hbe0 ht hi hR hv hst0 hs0 hmb
  unfold ptO at *
  go_enter Tryz.func9, Tryz.ntmps9
  go_wp2_with fail
  refine HBE.out.mono ?_
  rintro e w2 ⟨rfl, W1, hb1, hz1, lz1, m2⟩
  have HB1 := Lib.hid hb1
  have HZ1 := Lib.hid hz1
  have LZ1 := Lib.hid lz1
  have M2 := Lib.hid m2
  clear hb1 hz1 lz1 m2
  unfold pt
  dsimp only
  go_wp2_with fail
  go_loopg [11] n (fun k _ wr => RunRel W1 mb s0 n k wr)
  case atStart => exact ⟨0, _, by omega, M2.out, HS0.out⟩
  case round =>
    obtain ⟨j, H', hj, hms, hsj⟩ := hrel
    have c12 := hms.reads
    rw [hsj] at c12
    have HB1w := Lib.hid hms.kept0
    by_cases hlt : j < n
    · have hji : (j : Int) < (n : Int) := by omega
      by_cases ho : (run j s0).out = 0
      · have HST := Lib.hid (step_any hms ho (HR.out.bd j (by omega)) (by omega) (HR.out.ne j (by omega) ho))
        have hrm := run_more (s := s0) j ho
        have HRM := Lib.hid hrm
        have HSJ := Lib.hid hsj
        have HJ := Lib.hid hj
        clear hms hrm hsj hj ho
        unfold pt at *
        go_wp2_with fail
        refine HST.out.mono ?_
        rintro e w5 ⟨rfl, H5, k5, m5⟩
        rw [← HRM.out.1] at m5
        have M5 := Lib.hid m5
        clear k5 m5
        go_wp2
        go_roundg (n - (j + 1))
        case measure => have := HJ.out; omega
        case rel => exact ⟨j + 1, H5, by have := HJ.out; omega, M5.out, by rw [HRM.out.1, step_steps, HSJ.out]⟩
      · have HST := Lib.hid (step_over hms ho)
        have hrun := run_stay ho (show j ≤ n by omega)
        have HTO := Lib.hid (told_val (k := k') (n := n') hms (Bd.trace (HR.out.bd j (by omega))) (by rw [hrun]; exact HV.out.1) (by rw [hrun]; exact HV.out.2.1) (by rw [hrun]; exact HV.out.2.2))
        have HRUN := Lib.hid hrun
        clear hms hrun ho hsj
        unfold pt at *
        go_wp2_with fail
        refine HST.out.mono ?_
        rintro e w5 ⟨rfl, rfl⟩
        go_wp2_with fail
        refine HTO.out.mono ?_
        rintro e w6 ⟨tr, rfl, ho6, hb6⟩
        obtain ⟨TA, tn, tc, rfl⟩ := own_slice ho6
        rw [HRUN.out] at ho6 ⊢
        have hwz : mb ≤ w5.heap.size := by have := HB1w.out.size; have := HZ1.out; omega
        have l6 : Lies w6 (w.heap.size + 1) 42 #[.int .i64 0, .int .i64 0, .int .i64 0, .string ⟨#[]⟩, .slice none 0 0, .slice none 0 0, .int .i64 0, .int .i64 0] := (hb6.block _ (by omega)).trans ((HB1w.out.block _ (by have := HZ1.out; omega)).trans LZ1.out)
        have hrow : ((runL (run n s0).out k' n' (.slice TA tn tc) (run n s0).steps (run n s0).konts).all fun x => x.oneCell') = true := by simp [runL, Value.oneCell']
        have hszr : (Tryz.prog.info? 42).map (·.size) = some (runL (run n s0).out k' n' (.slice TA tn tc) (run n s0).steps (run n s0).konts).size := szRun
        have B6 : Below w.heap.size w w6 := (HB1.out.trans (HB1w.out.mono (by have := HZ1.out; omega))).trans (hb6.mono (by omega))
        have HB7 := Lib.hid (below_setRow' B6 (show w.heap.size ≤ w.heap.size + 1 by omega) (runL (run n s0).out k' n' (.slice TA tn tc) (run n s0).steps (run n s0).konts))
        have HL7 := Lib.hid (lies_setRow' l6 (runL (run n s0).out k' n' (.slice TA tn tc) (run n s0).steps (run n s0).konts))
        have HO7 := Lib.hid (own_mono (own_same ho6 (w' := w6.setRow (w.heap.size + 1) (runL (run n s0).out k' n' (.slice TA tn tc) (run n s0).steps (run n s0).konts)) (fun g h1 _ => heap_setRow' _ _ _ g (by omega))) (show w.heap.size ≤ w5.heap.size by omega))
        have HL6 := Lib.hid l6
        have HRW := Lib.hid hrow
        have HSZ := Lib.hid hszr
        clear l6 hrow hszr B6 ho6 hb6 hwz
        dsimp only
        go_wp2_with (refine wpList_store_rowTo rfl 42 (.tmp 6) (.tmp 22) rfl rfl (w.heap.size + 1) (runL (run n s0).out k' n' (.slice TA tn tc) (run n s0).steps (run n s0).konts) rfl rfl 42 #[.int .i64 0, .int .i64 0, .int .i64 0, .string ⟨#[]⟩, .slice none 0 0, .slice none 0 0, .int .i64 0, .int .i64 0] ?_ HSZ.out rfl HRW.out ?_; exact HL6.out)
        refine bodyPost_ret (v := .agg (runL (run n s0).out k' n' (.slice TA tn tc) (run n s0).steps (run n s0).konts)) (results_cell_row rfl _ _ (w.heap.size + 1) 42 _ (0, 0) _ rfl HL7.out Tryz.underlying42 rfl szRun) rfl ?_
        exact ⟨_, rfl, HO7.out, HB7.out⟩
    · have hjn : j = n := by omega
      have hrun : run j s0 = run n s0 := by rw [hjn]
      have hni : ¬ (j : Int) < (n : Int) := by omega
      have hnd : decide ((j : Int) < (n : Int)) = false := by simp; omega
      have HTO := Lib.hid (told_val (k := k') (n := n') hms (Bd.trace (HR.out.bd j (by omega))) (by rw [hrun]; exact HV.out.1) (by rw [hrun]; exact HV.out.2.1) (by rw [hrun]; exact HV.out.2.2))
      have HRUN := Lib.hid hrun
      clear hms hrun hjn hsj hni
      unfold pt at *
      go_wp2_with fail
      refine HTO.out.mono ?_
      rintro e w6 ⟨tr, rfl, ho6, hb6⟩
      obtain ⟨TA, tn, tc, rfl⟩ := own_slice ho6
      rw [HRUN.out] at ho6 ⊢
      have hwz : mb ≤ wr.heap.size := by have := HB1w.out.size; have := HZ1.out; omega
      have l6 : Lies w6 (w.heap.size + 1) 42 #[.int .i64 0, .int .i64 0, .int .i64 0, .string ⟨#[]⟩, .slice none 0 0, .slice none 0 0, .int .i64 0, .int .i64 0] := (hb6.block _ (by omega)).trans ((HB1w.out.block _ (by have := HZ1.out; omega)).trans LZ1.out)
      have hrow : ((runL (run n s0).out k' n' (.slice TA tn tc) (run n s0).steps (run n s0).konts).all fun x => x.oneCell') = true := by simp [runL, Value.oneCell']
      have hszr : (Tryz.prog.info? 42).map (·.size) = some (runL (run n s0).out k' n' (.slice TA tn tc) (run n s0).steps (run n s0).konts).size := szRun
      have B6 : Below w.heap.size w w6 := (HB1.out.trans (HB1w.out.mono (by have := HZ1.out; omega))).trans (hb6.mono (by omega))
      have HB7 := Lib.hid (below_setRow' B6 (show w.heap.size ≤ w.heap.size + 1 by omega) (runL (run n s0).out k' n' (.slice TA tn tc) (run n s0).steps (run n s0).konts))
      have HL7 := Lib.hid (lies_setRow' l6 (runL (run n s0).out k' n' (.slice TA tn tc) (run n s0).steps (run n s0).konts))
      have HO7 := Lib.hid (own_mono (own_same ho6 (w' := w6.setRow (w.heap.size + 1) (runL (run n s0).out k' n' (.slice TA tn tc) (run n s0).steps (run n s0).konts)) (fun g h1 _ => heap_setRow' _ _ _ g (by omega))) (show w.heap.size ≤ wr.heap.size by omega))
      have HL6 := Lib.hid l6
      have HRW := Lib.hid hrow
      have HSZ := Lib.hid hszr
      clear l6 hrow hszr B6 ho6 hb6 hwz
      dsimp only
      go_wp2_with (refine wpList_store_rowTo rfl 42 (.tmp 6) (.tmp 22) rfl rfl (w.heap.size + 1) (runL (run n s0).out k' n' (.slice TA tn tc) (run n s0).steps (run n s0).konts) rfl rfl 42 #[.int .i64 0, .int .i64 0, .int .i64 0, .string ⟨#[]⟩, .slice none 0 0, .slice none 0 0, .int .i64 0, .int .i64 0] ?_ HSZ.out rfl HRW.out ?_; exact HL6.out)
      refine bodyPost_ret (v := .agg (runL (run n s0).out k' n' (.slice TA tn tc) (run n s0).steps (run n s0).konts)) (results_cell_row rfl _ _ (w.heap.size + 1) 42 _ (0, 0) _ rfl HL7.out Tryz.underlying42 rfl szRun) rfl ?_
      exact ⟨_, rfl, HO7.out, HB7.out⟩
end So
end Go.Proofs.YtfkakmafedhgdaaGreatDoor.K

/- Whether two lists of numbers are the same. -/
namespace Go.Proofs.YtfkakmafedhgdaaGreatDoor.K
open Go Go.RowKit
namespace So

/-- Numbers that lie there. -/
def IntsS (w : World) (u : Value) (xs : List Int) : Prop := ∃ A c, u = .slice A xs.length c ∧ xs.length ≤ c ∧ (0 < xs.length → ∃ g o, A = some ⟨g, o, none⟩ ∧ ∀ (j : Nat) x, xs[j]? = some x → w.cell? ⟨g, o + j, none⟩ = some (.int .i64 x))
theorem IntsS.later {w w' : World} {u : Value} {xs : List Int} (h : IntsS w u xs) (hb : Below w.heap.size w w') : IntsS w' u xs := by
  obtain ⟨A, c, h1, h2, h3⟩ := h
  refine ⟨A, c, h1, h2, fun h0 => ?_⟩
  obtain ⟨g, o, h4, h5⟩ := h3 h0
  exact ⟨g, o, h4, fun j x hx => (World.cell?_of_block (w := w) (hb.block _ (World.block_lt_of_cell? w _ (h5 j x hx)))).trans (h5 j x hx)⟩
set_option maxRecDepth 100000 in
set_option maxHeartbeats 4000000 in
theorem same_trace (w : World) (u v : Value) (xs ys : List Int) (hu : IntsS w u xs) (hv : IntsS w v ys) (hx : xs.length ≤ 2000000) (hy : ys.length ≤ 2000000) :
    Calls Tryz.prog 12 #[u, v] w fun e w' => e = .returned (.bool (decide (xs = ys))) ∧ Below w.heap.size w w' := by
  have HU := Lib.hid hu
  have HV := Lib.hid hv
  obtain ⟨A, c, rfl, hc, hA⟩ := hu
  obtain ⟨B, d, rfl, hd, hB⟩ := hv
  by_cases hl : xs.length = ys.length
  · obtain ⟨n, hn⟩ : ∃ n, n = xs.length := ⟨_, rfl⟩
    rw [← hl, ← hn] at hd hB HV hy ⊢
    rw [← hn] at hc hA HU hx
    have hne : ((n : Int) == (n : Int)) = true := by simp
    have hne2 : ((n : Int) != (n : Int)) = false := by simp
    have HN := Lib.hid hn
    have HL := Lib.hid hl
    have HA := Lib.hid hA
    have HB := Lib.hid hB
    clear hn hl hA hB
    go_enter Tryz.func12, Tryz.ntmps12
    go_wp2_with fail
    go_loopw [5] (fun x wr => ∃ q : Nat, q ≤ n ∧ x = .int .i64 (q : Int) ∧ (∀ j : Nat, j < q → xs[j]? = ys[j]?) ∧ Below w.heap.size w wr) (fun x _ => n - (intOf x).toNat)
    case atStart => exact ⟨0, Nat.zero_le _, rfl, fun j h => absurd h (by omega), Below.refl _ _⟩
    case round =>
      obtain ⟨q, hq, rfl, hall, hb⟩ := hrel
      have HALL := Lib.hid hall
      have HBW := Lib.hid hb
      clear hall hb
      by_cases hlt : q < n
      · obtain ⟨g, o, rfl, hcg⟩ := HA.out (by omega)
        obtain ⟨g2, o2, rfl, hcg2⟩ := HB.out (by omega)
        obtain ⟨x, hxq⟩ : ∃ x, xs[q]? = some x := ⟨_, List.getElem?_eq_getElem (by rw [← HN.out]; exact hlt)⟩
        obtain ⟨y, hyq⟩ : ∃ y, ys[q]? = some y := ⟨_, List.getElem?_eq_getElem (by rw [← HL.out, ← HN.out]; exact hlt)⟩
        have a0 : wr.cell? ⟨g, o + q, none⟩ = some (.int .i64 x) := (World.cell?_of_block (w := w) (HBW.out.block _ (World.block_lt_of_cell? w _ (hcg q x hxq)))).trans (hcg q x hxq)
        have b0 : wr.cell? ⟨g2, o2 + q, none⟩ = some (.int .i64 y) := (World.cell?_of_block (w := w) (HBW.out.block _ (World.block_lt_of_cell? w _ (hcg2 q y hyq)))).trans (hcg2 q y hyq)
        have hqi : (q : Int) < (n : Int) := by omega
        have hqc : q < c := by omega
        have hqd : q < d := by omega
        have HX := Lib.hid hxq
        have HY := Lib.hid hyq
        clear hcg hcg2 hxq hyq
        by_cases he : x = y
        · have hxy : (x == y) = true := by rw [he]; simp
          have HE := Lib.hid he
          clear he
          go_wp2_with fail
          go_quiet (fail)
          go_wp2
          go_roundw
          case rel => exact ⟨q + 1, by omega, by go_num, fun j hj => by rcases Nat.lt_succ_iff_lt_or_eq.1 hj with h | rfl; exact HALL.out j h; rw [HX.out, HY.out, HE.out], HBW.out.trans ⟨rfl, rfl, rfl, Nat.le_refl _, fun _ _ => rfl⟩⟩
          case measure => (simp [intOf] <;> omega)
        · have hxy : (x == y) = false := by rw [beq_eq_false_iff_ne]; exact he
          have hnxy : decide (xs = ys) = false := by
            rw [decide_eq_false_iff_not]
            intro h
            have := HX.out
            rw [h, HY.out] at this
            exact he (Option.some.inj this).symm
          have HE := Lib.hid hnxy
          clear he hnxy
          go_wp2_with fail
          go_quiet (fail)
          go_wp2
          go_ret
          exact ⟨by rw [HE.out]; rfl, HBW.out.trans ⟨rfl, rfl, rfl, Nat.le_refl _, fun _ _ => rfl⟩⟩
      · obtain rfl : q = n := by omega
        have heq : decide (xs = ys) = true := by
          rw [decide_eq_true_eq]
          apply List.ext_getElem?
          intro i
          by_cases hi : i < q
          · exact HALL.out i hi
          · rw [List.getElem?_eq_none (by rw [← HN.out]; omega), List.getElem?_eq_none (by rw [← HL.out, ← HN.out]; omega)]
        have HE := Lib.hid heq
        clear heq
        go_wp2
        go_ret
        exact ⟨by rw [HE.out]; rfl, HBW.out⟩
  · have hne : ((xs.length : Int) == (ys.length : Int)) = false := by rw [beq_eq_false_iff_ne]; omega
    have hnxy : decide (xs = ys) = false := by
      rw [decide_eq_false_iff_not]
      intro h
      exact hl (by rw [h])
    have HE := Lib.hid hnxy
    have hne2 : ((xs.length : Int) != (ys.length : Int)) = true := by rw [bne_iff_ne]; omega
    clear hnxy hA hB
    go_enter Tryz.func12, Tryz.ntmps12
    go_wp2
    go_ret
    exact ⟨by rw [HE.out]; rfl, Below.refl _ _⟩
end So
end Go.Proofs.YtfkakmafedhgdaaGreatDoor.K

/- The terms that the laws of package source make. -/
namespace Go.Proofs.YtfkakmafedhgdaaGreatDoor.K
open Go Go.RowKit
namespace So

/-- A term's cells are answered. -/
def TmEnd (k : Int) (nm : Str) (n : Int) (kv : Value) (w : World) (e : Ending) (w' : World) : Prop := ∃ av rest, e = .returned (.agg (tmL k av nm [] n kv (.slice none 0 0) rest).toArray) ∧ rest.length = 14 ∧ (∀ u ∈ av :: rest, u.oneCell' = true) ∧ Below w.heap.size w w'
theorem szTerm : (Tryz.prog.info? 33).map (·.size) = some 21 := by kernel_rfl
set_option maxRecDepth 100000 in
set_option maxHeartbeats 4000000 in
theorem number_term (w : World) (n : Int) : Calls Tryz.prog 14 #[.int .i64 n] w (TmEnd 2 [] n (.slice none 0 0) w) := by
  go_enter Tryz.func14, Tryz.ntmps14
  go_wp2_with (refine wpList_store_rowTo rfl 33 (.tmp 2) (.tmp 4) rfl rfl w.heap.size _ rfl rfl 33 _ (Lies.new w _ _) (by rw [szTerm]; rfl) rfl (by simp [Value.oneCell']) ?_)
  refine bodyPost_ret (v := .agg (tmL 2 (.int .i64 0) [] [] n (.slice none 0 0) (.slice none 0 0) [.int .i64 0, .string ⟨#[]⟩, .int .i64 0, .slice none 0 0, .slice none 0 0, .int .i64 0, .slice none 0 0, .int .i64 0, .int .i64 0, .string ⟨#[]⟩, .int .i64 0, .slice none 0 0, .slice none 0 0, .int .i64 0]).toArray) (results_cell_row rfl _ _ w.heap.size 33 _ (0, 0) _ rfl (lies_setRow' (Lies.new w _ _) _) Tryz.underlying33 rfl szTerm) rfl ?_
  exact ⟨.int .i64 0, _, rfl, rfl, (by intro u hu; simp at hu; rcases hu with rfl | rfl | rfl | rfl | rfl | rfl | rfl | rfl | rfl | rfl | rfl | rfl | rfl | rfl | rfl <;> rfl), below_setRow' (below_new w _) (Nat.le_refl _) _⟩
set_option maxRecDepth 100000 in
set_option maxHeartbeats 4000000 in
theorem variable_term (w : World) (nm : Str) : Calls Tryz.prog 13 #[.string (ba nm)] w (TmEnd 1 nm 0 (.slice none 0 0) w) := by
  go_enter Tryz.func13, Tryz.ntmps13
  go_wp2_with (refine wpList_store_rowTo rfl 33 (.tmp 2) (.tmp 4) rfl rfl w.heap.size _ rfl rfl 33 _ (Lies.new w _ _) (by rw [szTerm]; rfl) rfl (by simp [Value.oneCell']) ?_)
  refine bodyPost_ret (v := .agg (tmL 1 (.int .i64 0) nm [] 0 (.slice none 0 0) (.slice none 0 0) [.int .i64 0, .string ⟨#[]⟩, .int .i64 0, .slice none 0 0, .slice none 0 0, .int .i64 0, .slice none 0 0, .int .i64 0, .int .i64 0, .string ⟨#[]⟩, .int .i64 0, .slice none 0 0, .slice none 0 0, .int .i64 0]).toArray) (results_cell_row rfl _ _ w.heap.size 33 _ (0, 0) _ rfl (lies_setRow' (Lies.new w _ _) _) Tryz.underlying33 rfl szTerm) rfl ?_
  exact ⟨.int .i64 0, _, rfl, rfl, (by intro u hu; simp at hu; rcases hu with rfl | rfl | rfl | rfl | rfl | rfl | rfl | rfl | rfl | rfl | rfl | rfl | rfl | rfl | rfl <;> rfl), below_setRow' (below_new w _) (Nat.le_refl _) _⟩
set_option maxRecDepth 100000 in
set_option maxHeartbeats 4000000 in
theorem op_term (w : World) (nm : Str) (A : Option Addr) (m c : Nat) : Calls Tryz.prog 11 #[.string (ba nm), .slice A m c] w (TmEnd 10 nm 0 (.slice A m c) w) := by
  go_enter Tryz.func11, Tryz.ntmps11
  go_wp2_with (refine wpList_store_rowTo rfl 33 (.tmp 4) (.tmp 7) rfl rfl w.heap.size _ rfl rfl 33 _ (Lies.new w _ _) (by rw [szTerm]; rfl) rfl (by simp [Value.oneCell']) ?_)
  refine bodyPost_ret (v := .agg (tmL 10 (.int .i64 0) nm [] 0 (.slice A m c) (.slice none 0 0) [.int .i64 0, .string ⟨#[]⟩, .int .i64 0, .slice none 0 0, .slice none 0 0, .int .i64 0, .slice none 0 0, .int .i64 0, .int .i64 0, .string ⟨#[]⟩, .int .i64 0, .slice none 0 0, .slice none 0 0, .int .i64 0]).toArray) (results_cell_row rfl _ _ w.heap.size 33 _ (0, 0) _ rfl (lies_setRow' (Lies.new w _ _) _) Tryz.underlying33 rfl szTerm) rfl ?_
  exact ⟨.int .i64 0, _, rfl, rfl, (by intro u hu; simp at hu; rcases hu with rfl | rfl | rfl | rfl | rfl | rfl | rfl | rfl | rfl | rfl | rfl | rfl | rfl | rfl | rfl <;> rfl), below_setRow' (below_new w _) (Nat.le_refl _) _⟩
end So
end Go.Proofs.YtfkakmafedhgdaaGreatDoor.K

/- The machine of package source, in plain words: runs. -/
namespace Go.Proofs.YtfkakmafedhgdaaGreatDoor.K
namespace So

def okB (s : St) : Bool := decide (s.trace.length ≤ 1000000) && (decide (s.cells.length ≤ 1000000) && (decide (s.hs.length ≤ 1000000) && (decide (s.konts ≤ 1000000) && (decide (s.out ≠ 0) || (s.at_.isSome || (!s.above.isEmpty || !s.hs.isEmpty))))))
theorem okB_bd {s : St} (h : okB s = true) : Bd s ∧ (s.out = 0 → s.at_ = none → s.above ≠ [] ∨ s.hs ≠ []) := by
  unfold okB at h
  simp only [Bool.and_eq_true, decide_eq_true_eq, Bool.or_eq_true, Bool.not_eq_true', List.isEmpty_eq_false_iff] at h
  obtain ⟨h1, h2, h3, h4, h5⟩ := h
  refine ⟨⟨h1, h2, h3, h4⟩, fun ho ha => ?_⟩
  rcases h5 with h5 | h5 | h5
  · exact absurd ho h5
  · rw [ha] at h5; cases h5
  · exact h5
theorem okB_mk {s : St} (h1 : s.trace.length ≤ 1000000) (h2 : s.cells.length ≤ 1000000) (h3 : s.hs.length ≤ 1000000) (h4 : s.konts ≤ 1000000) (h5 : (decide (s.out ≠ 0) || (s.at_.isSome || (!s.above.isEmpty || !s.hs.isEmpty))) = true) : okB s = true := by
  unfold okB
  rw [decide_eq_true h1, decide_eq_true h2, decide_eq_true h3, decide_eq_true h4, h5]
  rfl
theorem Runs.zero {s : St} (h : okB s = true) : Runs s 0 := by
  have := okB_bd h
  exact ⟨fun j hj => by obtain rfl : j = 0 := (by omega); exact this.1, fun j hj => by obtain rfl : j = 0 := (by omega); exact this.2⟩
theorem Runs.over {s : St} (h : okB s = true) (ho : s.out ≠ 0) (n : Nat) : Runs s n := by
  have := okB_bd h
  exact ⟨fun j _ => by rw [run_over ho]; exact this.1, fun j _ => by rw [run_over ho]; exact this.2⟩
theorem Runs.one {s : St} {n : Nat} (h : okB s = true) (ho : s.out = 0) (hr : Runs (step s) n) : Runs s (n + 1) := by
  have := okB_bd h
  refine ⟨fun j hj => ?_, fun j hj => ?_⟩
  · cases j with
    | zero => exact this.1
    | succ j => rw [run_one ho]; exact hr.bd j (by omega)
  · cases j with
    | zero => exact this.2
    | succ j => rw [run_one ho]; exact hr.ne j (by omega)
/-- A run, and where it ends. -/
def Res (s : St) (n : Nat) (f : St) : Prop := Runs s n ∧ run n s = f
theorem Res.over {s : St} (h : okB s = true) (ho : s.out ≠ 0) (n : Nat) : Res s n s := ⟨Runs.over h ho n, run_over ho n⟩
theorem Res.one {s s' f : St} {n : Nat} (h : okB s = true) (ho : s.out = 0) (he : step s = s') (hr : Res s' n f) : Res s (n + 1) f := by
  subst he
  exact ⟨Runs.one h ho hr.1, by rw [run_one ho]; exact hr.2⟩
def okRun : Nat → St → Bool
  | 0, s => okB s
  | n + 1, s => okB s && (if s.out = 0 then okRun n (step s) else true)
theorem okRun_runs : ∀ {n : Nat} {s : St}, okRun n s = true → Runs s n
  | 0, _, h => Runs.zero h
  | n + 1, s, h => by
    unfold okRun at h
    rw [Bool.and_eq_true] at h
    by_cases ho : s.out = 0
    · rw [if_pos ho] at h
      exact Runs.one h.1 ho (okRun_runs h.2)
    · exact Runs.over h.1 ho _

def unT : Tm := .mk 4 [] [] 0 [] []
def numT (n : Int) : Tm := .mk 2 [] [] n [] []
def varT (nm : Str) : Tm := .mk 1 nm [] 0 [] []
def opT (nm : Str) (kids : List Tm) : Tm := .mk 10 nm [] 0 kids []
def letT (nm : Str) (a b : Tm) : Tm := .mk 7 nm [] 0 [a, b] []

theorem step_var {c : Str} {env : Env} {u v : Val} {fr : Frame} {ab : List Frame} {hs : List (Hd × List Frame)} {ce : List Val} {inp tr : List Int} {st ko : Nat} (h : find c env = some u) :
    step ⟨some (varT c, env), v, fr :: ab, hs, ce, inp, tr, 0, st, ko⟩ = ⟨none, u, fr :: ab, hs, ce, inp, tr, 0, st + 1, ko⟩ := by
  show fin (match find c env with | some v' => St.has ⟨some (varT c, env), v, fr :: ab, hs, ce, inp, tr, 0, st + 1, ko⟩ v' | none => St.ends ⟨some (varT c, env), v, fr :: ab, hs, ce, inp, tr, 0, st + 1, ko⟩ 4) = _
  rw [h]
  rfl
/-- What reads and prints so many times. -/
def prT : Tm := opT [112, 114, 105, 110, 116] [opT [114, 101, 97, 100] []]
def rT : Nat → Tm
  | 0 => unT
  | n + 1 => letT [95] prT (rT n)
theorem reads_run : ∀ (j : Nat) (env : Env) (v : Val) (inp tr : List Int) (st n : Nat), tr.length + inp.length ≤ 1000000 → 5 * j + 1 ≤ n →
    ∃ f, Res ⟨some (rT j, env), v, [], [], [], inp, tr, 0, st, 0⟩ n f ∧ (j ≤ inp.length → f.out = 1 ∧ f.at_ = none ∧ f.val = .lit 3 0) ∧ (inp.length < j → f.out = 3) ∧ f.trace = tr ++ inp.take j := by
  intro j
  induction j with
  | zero =>
    intro env v inp tr st n hl hn
    obtain ⟨m, rfl⟩ : ∃ m, n = m + 1 := ⟨n - 1, by omega⟩
    refine ⟨⟨none, .lit 3 0, [], [], [], inp, tr, 1, st + 1, 0⟩, Res.one (okB_mk (by show tr.length ≤ _; omega) (Nat.zero_le _) (Nat.zero_le _) (Nat.zero_le _) rfl) rfl rfl (Res.over (okB_mk (by show tr.length ≤ _; omega) (Nat.zero_le _) (Nat.zero_le _) (Nat.zero_le _) rfl) (by show (1 : Int) ≠ 0; decide) m), fun _ => ⟨rfl, rfl, rfl⟩, fun h => absurd h (by omega), ?_⟩
    show tr = tr ++ inp.take 0
    simp
  | succ j ih =>
    intro env v inp tr st n hl hn
    obtain ⟨m, rfl⟩ : ∃ m, n = m + 1 + 1 + 1 + 1 + 1 := ⟨n - 5, by omega⟩
    have hk : ∀ (a : Option (Tm × Env)) (v : Val) (ab : List Frame) (inp : List Int) (o : Int) (st : Nat), (decide (o ≠ 0) || (a.isSome || (!ab.isEmpty || false))) = true → okB ⟨a, v, ab, [], [], inp, tr, o, st, 0⟩ = true := fun a v ab inp o st h => okB_mk (by show tr.length ≤ _; omega) (Nat.zero_le _) (Nat.zero_le _) (Nat.zero_le _) h
    cases inp with
    | nil =>
      refine ⟨⟨some (opT [114, 101, 97, 100] [], env), v, [.gath prT env [], .name [95] (rT j) env], [], [], [], tr, 3, st + 1 + 1 + 1, 0⟩, ?_, fun h => absurd h (by simp), fun _ => rfl, by simp⟩
      refine Res.one (s' := ⟨some (prT, env), v, [.name [95] (rT j) env], [], [], [], tr, 0, st + 1, 0⟩) (hk _ _ _ _ _ _ rfl) rfl rfl ?_
      refine Res.one (s' := ⟨some (opT [114, 101, 97, 100] [], env), v, [.gath prT env [], .name [95] (rT j) env], [], [], [], tr, 0, st + 1 + 1, 0⟩) (hk _ _ _ _ _ _ rfl) rfl rfl ?_
      refine Res.one (hk _ _ _ _ _ _ rfl) rfl rfl ?_
      exact Res.over (hk _ _ _ _ _ _ rfl) (by show (3 : Int) ≠ 0; decide) _
    | cons x r =>
      have hl' : (tr ++ [x]).length + r.length ≤ 1000000 := by simp only [List.length_append, List.length_cons, List.length_nil] at hl ⊢; omega
      obtain ⟨f, h1, h2, h3, h4⟩ := ih (([95], unitV) :: env) unitV r (tr ++ [x]) (st + 1 + 1 + 1 + 1 + 1) m hl' (by omega)
      refine ⟨f, ?_, fun h => h2 (by simp at h; omega), fun h => h3 (by simp at h; omega), by rw [h4]; simp⟩
      refine Res.one (s' := ⟨some (prT, env), v, [.name [95] (rT j) env], [], [], x :: r, tr, 0, st + 1, 0⟩) (hk _ _ _ _ _ _ rfl) rfl rfl ?_
      refine Res.one (s' := ⟨some (opT [114, 101, 97, 100] [], env), v, [.gath prT env [], .name [95] (rT j) env], [], [], x :: r, tr, 0, st + 1 + 1, 0⟩) (hk _ _ _ _ _ _ rfl) rfl rfl ?_
      refine Res.one (s' := ⟨none, .lit 1 x, [.gath prT env [], .name [95] (rT j) env], [], [], r, tr, 0, st + 1 + 1 + 1, 0⟩) (hk _ _ _ _ _ _ rfl) rfl rfl ?_
      refine Res.one (s' := ⟨none, unitV, [.name [95] (rT j) env], [], [], r, tr ++ [x], 0, st + 1 + 1 + 1 + 1, 0⟩) (hk _ _ _ _ _ _ rfl) rfl rfl ?_
      exact Res.one (okB_mk (by show (tr ++ [x]).length ≤ _; omega) (Nat.zero_le _) (Nat.zero_le _) (Nat.zero_le _) rfl) rfl rfl h1
end So
end Go.Proofs.YtfkakmafedhgdaaGreatDoor.K

/- Terms in memory. -/
namespace Go.Proofs.YtfkakmafedhgdaaGreatDoor
open Go.RowKit Pz

def zC : Array Value := #[.int .i64 0, .int .i64 0, .string ⟨#[]⟩, .string ⟨#[]⟩, .int .i64 0, .slice none 0 0, .slice none 0 0, .int .i64 0, .string ⟨#[]⟩, .int .i64 0, .slice none 0 0, .slice none 0 0, .int .i64 0, .slice none 0 0, .int .i64 0, .int .i64 0, .string ⟨#[]⟩, .int .i64 0, .slice none 0 0, .slice none 0 0, .int .i64 0]
/-- The cells of a term, its two lists as they lie. -/
def tmC (k pos : Nat) (nm pm : Str) (n : Nat) (kv av : Value) : List Value :=
  [.int .i64 (k : Int), .int .i64 (pos : Int), .string (ba nm), .string (ba pm), .int .i64 (n : Int), kv, av, .int .i64 0, .string ⟨#[]⟩, .int .i64 0, .slice none 0 0, .slice none 0 0, .int .i64 0, .slice none 0 0, .int .i64 0, .int .i64 0, .string ⟨#[]⟩, .int .i64 0, .slice none 0 0, .slice none 0 0, .int .i64 0]
def tmV (k pos : Nat) (nm pm : Str) (n : Nat) (kv av : Value) : Value :=
  .agg #[.int .i64 (k : Int), .int .i64 (pos : Int), .string (ba nm), .string (ba pm), .int .i64 (n : Int), kv, av, .int .i64 0, .string ⟨#[]⟩, .int .i64 0, .slice none 0 0, .slice none 0 0, .int .i64 0, .slice none 0 0, .int .i64 0, .int .i64 0, .string ⟨#[]⟩, .int .i64 0, .slice none 0 0, .slice none 0 0, .int .i64 0]

/-- The call's own row (World.ownsRow), in a block of which P holds. -/
def OwnP (w : World) (P : Nat → Prop) (e : TypeId) (size : Nat) (v : Value) (n : Nat) (xs : List Value) : Prop :=
  xs.length = n * size ∧ ((v = .slice none 0 0 ∧ n = 0) ∨
    ∃ g cap cur, v = .slice (some ⟨g, 0, none⟩) n cap ∧ P g ∧ w.heap[g]? = some (.cells cur e (0, 0)) ∧ n ≤ cap ∧ cap ≤ maxLen ∧ cur.size = cap * size ∧ cur.toList.take (n * size) = xs)
theorem OwnP.of {w : World} {B : Nat} {e : TypeId} {size n : Nat} {v : Value} {xs : List Value} (h : w.ownsRow B e size v n xs) : OwnP w (fun g => B ≤ g) e size v n xs := h
theorem OwnP.same {w w' : World} {P : Nat → Prop} {e : TypeId} {size n : Nat} {v : Value} {xs : List Value} (h : OwnP w P e size v n xs) (hs : ∀ g, P g → g < w.heap.size → w'.heap[g]? = w.heap[g]?) : OwnP w' P e size v n xs := by
  refine ⟨h.1, ?_⟩
  rcases h.2 with h0 | ⟨g, cap, cur, h1, h2, h3, h4⟩
  · exact .inl h0
  · exact .inr ⟨g, cap, cur, h1, h2, (hs g h2 (lt_of_block h3)).trans h3, h4⟩
theorem OwnP.mono {w : World} {P Q : Nat → Prop} {e : TypeId} {size n : Nat} {v : Value} {xs : List Value} (h : OwnP w P e size v n xs) (hs : ∀ g, P g → g < w.heap.size → Q g) : OwnP w Q e size v n xs := by
  refine ⟨h.1, ?_⟩
  rcases h.2 with h0 | ⟨g, cap, cur, h1, h2, h3, h4⟩
  · exact .inl h0
  · exact .inr ⟨g, cap, cur, h1, hs g h2 (lt_of_block h3), h3, h4⟩
theorem OwnP.one {w : World} {P : Nat → Prop} {e : TypeId} {size n : Nat} {v : Value} {xs : List Value} (h : OwnP w P e size v n xs) : v.oneCell' = true := by
  rcases h.2 with ⟨h1, _⟩ | ⟨g, cap, cur, h1, _⟩ <;> (rw [h1]; rfl)
theorem OwnP.nil (w : World) (P : Nat → Prop) (e : TypeId) (size : Nat) : OwnP w P e size (.slice none 0 0) 0 [] := ⟨by simp, .inl ⟨rfl, rfl⟩⟩
/-- A list of rows of so many cells. -/
def Rw (w : World) (P : Nat → Prop) (e : TypeId) (sz : Nat) (v : Value) (xs : List (List Value)) : Prop :=
  (∀ x ∈ xs, x.length = sz) ∧ OwnP w P e sz v xs.length xs.flatten
theorem Rw.nil (w : World) (P : Nat → Prop) (e : TypeId) (sz : Nat) : Rw w P e sz (.slice none 0 0) [] := ⟨by simp, OwnP.nil _ _ _ _⟩

/-- A term lies in memory, in blocks of which P holds. -/
inductive HT (w : World) (P : Nat → Prop) : Tm → List Value → Prop
  | mk (k pos : Nat) (nm pm : Str) (n : Nat) (kids : List Tm) (arms : List Arm) (kv av : Value) (kc : List (List Value)) (vv : List Value) (bc : List (List Value))
      (hk : Rw w P 33 21 kv kc) (hkl : kc.length = kids.length) (hks : ∀ (i : Nat) t c, kids[i]? = some t → kc[i]? = some c → HT w P t c)
      (hvl : vv.length = arms.length) (hbl : bc.length = arms.length)
      (ha : Rw w P 35 23 av (List.zipWith (fun (a : Arm) (x : Value × List Value) => .string (ba a.1) :: x.1 :: x.2) arms (vv.zip bc)))
      (hav : ∀ (i : Nat) a v, arms[i]? = some a → vv[i]? = some v → OwnP w P 9 1 v a.2.1.length (a.2.1.map fun t => .string (ba t)))
      (has : ∀ (i : Nat) a c, arms[i]? = some a → bc[i]? = some c → HT w P a.2.2 c) :
      HT w P (.mk k pos nm pm n kids arms) (tmC k pos nm pm n kv av)

theorem HT.same {w w' : World} {P : Nat → Prop} {t : Tm} {cs : List Value} (h : HT w P t cs) (hs : ∀ g, P g → g < w.heap.size → w'.heap[g]? = w.heap[g]?) : HT w' P t cs := by
  induction h with
  | mk k pos nm pm n kids arms kv av kc vv bc hk hkl _ hvl hbl ha hav _ ih1 ih2 =>
    exact .mk k pos nm pm n kids arms kv av kc vv bc ⟨hk.1, hk.2.same hs⟩ hkl ih1 hvl hbl ⟨ha.1, ha.2.same hs⟩ (fun i a v h1 h2 => (hav i a v h1 h2).same hs) ih2
theorem HT.mono {w : World} {P Q : Nat → Prop} {t : Tm} {cs : List Value} (h : HT w P t cs) (hs : ∀ g, P g → g < w.heap.size → Q g) : HT w Q t cs := by
  induction h with
  | mk k pos nm pm n kids arms kv av kc vv bc hk hkl _ hvl hbl ha hav _ ih1 ih2 =>
    exact .mk k pos nm pm n kids arms kv av kc vv bc ⟨hk.1, hk.2.mono hs⟩ hkl ih1 hvl hbl ⟨ha.1, ha.2.mono hs⟩ (fun i a v h1 h2 => (hav i a v h1 h2).mono hs) ih2
/-- All its blocks are there. -/
theorem HT.lt {w : World} {P : Nat → Prop} {t : Tm} {cs : List Value} (h : HT w P t cs) : HT w (fun g => P g ∧ g < w.heap.size) t cs := h.mono fun _ h1 h2 => ⟨h1, h2⟩
theorem HT.later {w w' : World} {P : Nat → Prop} {t : Tm} {cs : List Value} (h : HT w P t cs) (hb : Below w.heap.size w w') : HT w' P t cs := h.same fun g _ hg => hb.block g hg
theorem HT.kp {w w' : World} {P : Nat → Prop} {t : Tm} {cs : List Value} (h : HT w P t cs) {pb : Nat} (hk : Kp pb w w') (hP : ∀ g, P g → g ≠ pb) : HT w' P t cs := h.same fun g h1 hg => hk.block g hg (fun e => hP g h1 (by injection e))

theorem HT.len {w : World} {P : Nat → Prop} {t : Tm} {l : List Value} (h : HT w P t l) : l.length = 21 := by
  cases h; rfl
theorem HT.one {w : World} {P : Nat → Prop} {t : Tm} {l : List Value} (h : HT w P t l) : l.toArray.all (·.oneCell') = true := by
  cases h with
  | mk k pos nm pm n kids arms kv av kc vv bc hk _ _ _ _ ha _ _ =>
    have h1 := hk.2.one
    have h2 := ha.2.one
    simp [tmC, Value.oneCell'] at h1 h2 ⊢
    exact ⟨h1, h2⟩
theorem HT.at_ {w : World} {P : Nat → Prop} {t : Tm} {l : List Value} (h : HT w P t l) : l[1]? = some (.int .i64 (t.pos : Int)) := by
  cases h; rfl
/-- What a function that reads a term answers: it lies in blocks of which P holds. -/
def TermEnd (pb sz : Nat) (P : Nat → Prop) (w : World) (r : Tm × St) (e : Ending) (w' : World) : Prop :=
  ∃ l : List Value, e = .returned (.agg l.toArray) ∧ HT w' P r.1 l ∧ Goes pb sz w r.2 w'

/-- A term without kids and arms. -/
theorem HT.leaf (w : World) (P : Nat → Prop) (k pos : Nat) (nm pm : Str) (n : Nat) : HT w P (.mk k pos nm pm n [] []) (tmC k pos nm pm n (.slice none 0 0) (.slice none 0 0)) :=
  .mk k pos nm pm n [] [] _ _ [] [] [] (Rw.nil _ _ _ _) rfl (by simp) rfl rfl (Rw.nil _ _ _ _) (by simp) (by simp)
/-- A term with kids, without arms. -/
theorem HT.kids {w : World} {P : Nat → Prop} (k pos : Nat) (nm pm : Str) (n : Nat) {kids : List Tm} {kv : Value} {kc : List (List Value)} (hk : Rw w P 33 21 kv kc) (hkl : kc.length = kids.length)
    (hks : ∀ (i : Nat) t c, kids[i]? = some t → kc[i]? = some c → HT w P t c) : HT w P (.mk k pos nm pm n kids []) (tmC k pos nm pm n kv (.slice none 0 0)) :=
  .mk k pos nm pm n kids [] _ _ kc [] [] hk hkl hks rfl rfl (Rw.nil _ _ _ _) (by simp) (by simp)
/-- A literal of rows. -/
theorem Rw.lit (w : World) (P : Nat → Prop) (e : TypeId) (sz : Nat) (ls : List (List Value)) (hl : ∀ l ∈ ls, l.length = sz) {N n : Nat} (hN : w.heap.size = N) (hP : P N) (hn : n = ls.length) (hm : n ≤ maxLen) :
    Rw (w.alloc (.cells ls.flatten.toArray e)) P e sz (.slice (some ⟨N, 0, none⟩) n n) ls := by
  subst hN hn
  have hlen : ls.flatten.length = ls.length * sz := by
    clear hm hP
    induction ls with
    | nil => simp
    | cons l r ih => rw [List.flatten_cons, List.length_append, ih (fun x hx => hl x (by simp [hx])), hl l (by simp), List.length_cons, Nat.succ_mul]; omega
  refine ⟨hl, hlen, .inr ⟨_, _, _, rfl, hP, heap_alloc_new w _, Nat.le_refl _, hm, by simpa using hlen, ?_⟩⟩
  rw [← hlen]
  exact List.take_of_length_le (Nat.le_refl _)

theorem sz39 : (Tryz.prog.info? 33).map (·.size) = some 21 := by kernel_rfl
theorem set_new {w : World} {c c' : Array Value} {t : TypeId} {N : Nat} (hN : w.heap.size = N) : (w.alloc (.cells c t)).setRow N c' = w.alloc (.cells c' t) := by
  subst hN; exact World.setRow_alloc_new w c c' t
theorem Lies.setRow {w : World} {g : Nat} {t : TypeId} {cs : Array Value} (h : Lies w g t cs) (cs' : Array Value) : Lies (w.setRow g cs') g t cs' := by
  unfold Lies at h ⊢
  simp only [World.setRow, Array.getElem?_modify, if_true, h]
  rfl
theorem heap_setRow (w : World) (g : Nat) (cs : Array Value) (k : Nat) (h : k ≠ g) : (w.setRow g cs).heap[k]? = w.heap[k]? := by
  simp only [World.setRow, Array.getElem?_modify]
  rw [if_neg (by omega)]
theorem size_setRow (w : World) (g : Nat) (cs : Array Value) : (w.setRow g cs).heap.size = w.heap.size := by simp [World.setRow]
theorem Lies.farRow {w : World} {g g' : Nat} {t : TypeId} {cs : Array Value} (h : Lies w g t cs) (cs' : Array Value) (hne : g ≠ g') : Lies (w.setRow g' cs') g t cs := (heap_setRow w g' cs' g hne).trans h
/-- A whole row written into a block of the call's own. -/
theorem below_setRow {B : Nat} {a w : World} (h : Below B a w) {g : Nat} (hg : B ≤ g) (cs : Array Value) : Below B a (w.setRow g cs) :=
  h.trans ⟨rfl, rfl, rfl, by rw [size_setRow]; exact Nat.le_refl _, fun k hk => heap_setRow _ _ _ _ (by omega)⟩
theorem Kp.setRow {pb : Nat} {a w : World} (h : Kp pb a w) {g : Nat} (hg : a.heap.size ≤ g) (cs : Array Value) : Kp pb a (w.setRow g cs) :=
  ⟨h.os, h.tape, h.output, by rw [size_setRow]; exact h.size, fun i hi hne => (heap_setRow _ _ _ _ (by omega)).trans (h.block i hi hne)⟩
theorem PA.setRow {w : World} {pb sz : Nat} {s : St} (h : PA w pb sz s) {g : Nat} (hg : pb < g) (cs : Array Value) : PA (w.setRow g cs) pb sz s := by
  obtain ⟨v, hl, ht⟩ := h
  exact ⟨v, hl.farRow cs (by omega), ht.keep fun k hk => heap_setRow _ _ _ _ (by omega)⟩
theorem HT.setRow {w : World} {P : Nat → Prop} {t : Tm} {l : List Value} (h : HT w P t l) {g : Nat} (hP : ∀ k, P k → k ≠ g) (cs : Array Value) : HT (w.setRow g cs) P t l := h.same fun k h1 _ => heap_setRow _ _ _ _ (hP k h1)
theorem info39 : ∃ ie, Tryz.prog.info? 33 = some ie ∧ ie.zero = some (.agg zC) ∧ ie.size = 21 := by
  have h : (Tryz.prog.info? 33).map (fun i => (i.zero, i.size)) = some (some (.agg zC), 21) := by kernel_rfl
  cases hq : Tryz.prog.info? 33 with
  | none => rw [hq] at h; cases h
  | some ie =>
    rw [hq] at h
    simp only [Option.map_some, Option.some.injEq, Prod.mk.injEq] at h
    exact ⟨ie, rfl, h.1, h.2⟩

/-- A slice literal of terms. -/
theorem fill_terms (ls : List (List Value)) (hl : ∀ l ∈ ls, l.length = 21) (cells : Array Value) (hc : cells.size = ls.length * 21) :
    Instr.fill (fun i => some (i * 21, 21)) cells (((ls.map fun l => Value.agg l.toArray).zipIdx 0).map fun x => (x.2, x.1)) = some ls.flatten.toArray := by
  obtain ⟨r, hr, hsz, hk⟩ := Great.fill_dense (s := 21) (by omega) (ls.map fun l => Value.agg l.toArray) 0 cells (by
    intro v hv
    simp only [List.mem_map] at hv
    obtain ⟨l, hl', rfl⟩ := hv
    show l.toArray.size = 21
    simp [hl l hl']) (by simp [hc])
  rw [hr]
  congr 1
  apply Array.ext_getElem?
  intro i
  rw [hk i]
  have hflat : ∀ (ls : List (List Value)), (∀ l ∈ ls, l.length = 21) → ∀ i, ls.flatten[i]? = (ls[i / 21]?).bind fun l => l[i % 21]? := by
    intro ls
    induction ls with
    | nil => intro _ i; simp
    | cons l r ih =>
      intro hl i
      have h1 : l.length = 21 := hl l (by simp)
      rw [List.flatten_cons, List.getElem?_append]
      by_cases hi : i < 21
      · rw [if_pos (by omega), show i / 21 = 0 by omega, show i % 21 = i by omega]; rfl
      · rw [if_neg (by omega), ih (fun x hx => hl x (by simp [hx])), h1, show i / 21 = (i - 21) / 21 + 1 by omega, show (i - 21) % 21 = i % 21 by omega]; rfl
  simp only [List.getElem?_toArray, hflat ls hl i]
  by_cases hi : i < ls.length * 21
  · rw [if_pos (by simp; omega)]
    rw [show i / 21 - 0 = i / 21 by omega, List.getElem?_map]
    cases ls[i / 21]? with
    | none => rfl
    | some l => show l.toArray[i % 21]? = l[i % 21]?; simp
  · rw [if_neg (by simp; omega)]
    rw [List.getElem?_eq_none (show ls.length ≤ i / 21 by omega)]
    simp [hc]; omega
end Go.Proofs.YtfkakmafedhgdaaGreatDoor
