/- The machine of package source: its begin. -/
import Derived.Test.YtfkakmafedhgdaaGreatDoorSoAk
import Derived.Test.YtfkakmafedhgdaaGreatDoorMg05
import Derived.Deep.LoopGhost
import Derived.BigQuiet
namespace Go.Proofs.YtfkakmafedhgdaaGreatDoor.K
open Go Go.RowKit
namespace So

/-- The whole memory. -/
def memOf (w : World) : Mem := fun b => w.heap[b]?
theorem start_ms {w : World} {t : Tm} {input : List Int} {tb to : Nat} {A : Option Addr} {n c : Nat} (ht : TmA (memOf w) tb to t) (hi : InV (memOf w) (.slice A n c) input) :
    MS w w.heap.size (memOf w) (start t input) (w.alloc (.cells (mC (ptO tb to) (.pointer none) (.int .i64 0) (.int .i64 0) (.pointer none) .nilIface (.pointer none) (.pointer none) (.slice none 0 0) (.slice A n c) (.slice none 0 0) 0 0 0) 75)) := by
  refine ⟨ptO tb to, .pointer none, .int .i64 0, .int .i64 0, .pointer none, .nilIface, .pointer none, .pointer none, .slice none 0 0, .slice A n c, .slice none 0 0, ?_⟩
  refine ⟨⟨rfl, rfl, rfl, Nat.le_refl _, fun b o hb => ?_, fun b o hb => ?_, fun b _ => rfl, ?_, ?_, ?_, fun b hb => by simp [Value.ownBlock] at hb⟩, Lies.new w _ _, ⟨⟨tb, to, rfl, ht⟩, .nil, rfl, ?_⟩, .nil, .nil, hi⟩
  · have hl : b < w.heap.size := (Array.getElem?_eq_some_iff.1 hb).1
    exact (Below.heap_alloc w _ b hl).trans hb
  · have hl : b < w.heap.size := (Array.getElem?_eq_some_iff.1 hb).1
    simp; omega
  · show w.heap[w.heap.size]? = none
    simp
  · exact ⟨⟨[], rfl, World.ownsRow_nil _ _ _ _, fun i x u h1 _ => by cases h1⟩, fun b hb => by simp [Value.ownBlock] at hb⟩
  · exact ⟨World.ownsRow_nil _ _ _ _, fun b hb => by simp [Value.ownBlock] at hb⟩
  · intro u hu
    simp at hu
    rcases hu with rfl | rfl | rfl | rfl <;> rfl
set_option maxRecDepth 100000 in
set_option maxHeartbeats 4000000 in
theorem begin_any (w : World) {t : Tm} {input : List Int} {tb to : Nat} {iv : Value} (ht : TmA (memOf w) tb to t) (hi : InV (memOf w) iv input) :
    Calls Tryz.prog 16 #[ptO tb to, iv] w fun e w' => e = .returned (pt w.heap.size) ∧ MS w w.heap.size (memOf w) (start t input) w' := by
  obtain ⟨A, c, rfl, _⟩ := hi.1
  have hm := start_ms ht hi
  have HM := Lib.hid hm
  clear hm ht hi
  unfold ptO pt mC at *
  go_enter Tryz.func16, Tryz.ntmps16
  go_wp2
  go_ret
  exact ⟨rfl, HM.out⟩
end So
end Go.Proofs.YtfkakmafedhgdaaGreatDoor.K

/- The machine of package source: Run. -/
namespace Go.Proofs.YtfkakmafedhgdaaGreatDoor.K
open Go Go.RowKit
namespace So

/-- A step, whatever the machine is at. -/
theorem step_any {w0 : World} {mb : Nat} {H : Mem} {s : St} {w : World} (h : MS w0 mb H s w) (ho : s.out = 0) (B : Bd s) (hst : s.steps ≤ 1000000) (hne : s.at_ = none → s.above ≠ [] ∨ s.hs ≠ []) :
    Calls Tryz.prog 17 #[pt mb] w (StepEnd w0 mb H (step s)) := by
  cases ha : s.at_ with
  | none => exact step_val h ho B hst ha (hne ha)
  | some p =>
    obtain ⟨t, en⟩ := p
    exact step_term h ho B hst ha
/-- What is asked of a run. -/
structure Runs (s : St) (n : Nat) : Prop where
  bd : ∀ j, j ≤ n → Bd (run j s)
  ne : ∀ j, j ≤ n → (run j s).out = 0 → (run j s).at_ = none → (run j s).above ≠ [] ∨ (run j s).hs ≠ []
theorem memOf_alloc (w : World) (o : Obj) : MLe (memOf w) (memOf (w.alloc o)) := fun b _ hb => (Below.heap_alloc w o b (Array.getElem?_eq_some_iff.1 hb).1).trans hb
/-- The machine's cells that Run reads. -/
theorem MS.reads {w0 : World} {mb : Nat} {H : Mem} {s : St} {w : World} (h : MS w0 mb H s w) : w.cell? ⟨mb, 12, none⟩ = some (.int .i64 (s.steps : Int)) := by
  obtain ⟨tv, ev, v0, v1, v2, v3, fv, hv, cv, iv, lv, h⟩ := h
  exact h.lies.cell 12
theorem MS.kept0 {w0 : World} {mb : Nat} {H : Mem} {s : St} {w : World} (h : MS w0 mb H s w) : Below w0.heap.size w0 w := by
  have hlt := h.lt
  obtain ⟨tv, ev, v0, v1, v2, v3, fv, hv, cv, iv, lv, h⟩ := h
  exact h.core.below (by have := h.core.base; omega)
/-- What begin leaves, for Run. -/
def BeEnd (w : World) (mb : Nat) (s0 : St) (e : Ending) (w2 : World) : Prop := e = .returned (pt mb) ∧ ∃ W1, Below w.heap.size w W1 ∧ W1.heap.size = mb ∧ Lies W1 (w.heap.size + 1) 42 #[.int .i64 0, .int .i64 0, .int .i64 0, .string ⟨#[]⟩, .slice none 0 0, .slice none 0 0, .int .i64 0, .int .i64 0] ∧ MS W1 mb (memOf W1) s0 w2
theorem run_add (s : St) : ∀ a b, run (a + b) s = run b (run a s)
  | 0, b => by rw [Nat.zero_add]; rfl
  | a + 1, b => by
    by_cases h : s.out = 0
    · rw [show a + 1 + b = (a + b) + 1 by omega, run_one h, run_one h, run_add (step s) a b]
    · rw [run_over h, run_over h, run_over h]
theorem run_stay {s : St} {j n : Nat} (h : (run j s).out ≠ 0) (hj : j ≤ n) : run j s = run n s := by
  obtain ⟨d, rfl⟩ := Nat.exists_eq_add_of_le hj
  rw [run_add, run_over h]
def RunRel (W1 : World) (mb : Nat) (s0 : St) (n : Nat) (k : Nat) (wr : World) : Prop := ∃ (j : Nat) (H' : Mem), j + k = n ∧ MS W1 mb H' (run j s0) wr ∧ (run j s0).steps = j
set_option maxRecDepth 100000 in
set_option maxHeartbeats 4000000 in
theorem run_any (w : World) (pC : Array Value) (iv : Value) (n : Nat) (hn : n ≤ 100000) {t : Tm} {input : List Int} (ht : TmA (memOf (w.alloc (.cells pC 47))) w.heap.size 2 t) (hi : InV (memOf w) iv input) (hR : Runs (start t input) n) (hv : (run n (start t input)).out ≠ 1) :
    Calls Tryz.prog 9 #[.agg pC, iv, .int .i64 (n : Int)] w (ToldEnd (run n (start t input)) 0 0 w) := by
  have hbe0 := begin_any ((w.alloc (.cells pC 47)).alloc (.cells #[.int .i64 0, .int .i64 0, .int .i64 0, .string ⟨#[]⟩, .slice none 0 0, .slice none 0 0, .int .i64 0, .int .i64 0] 42)) (ht.le (memOf_alloc _ _)) (hi.le ((memOf_alloc _ _).trans (memOf_alloc _ _)))
  obtain ⟨mb, hmb⟩ : ∃ mb, mb = w.heap.size + 1 + 1 := ⟨_, rfl⟩
  obtain ⟨s0, hs0⟩ : ∃ s0, s0 = start t input := ⟨_, rfl⟩
  have hst0 : s0.steps = 0 := by rw [hs0]; rfl
  rw [← hs0] at hbe0 hR hv ⊢
  have hbe := hbe0.mono (R' := BeEnd w mb s0) (fun e w' h => by
    have hz : ((w.alloc (.cells pC 47)).alloc (.cells #[.int .i64 0, .int .i64 0, .int .i64 0, .string ⟨#[]⟩, .slice none 0 0, .slice none 0 0, .int .i64 0, .int .i64 0] 42)).heap.size = mb := by rw [hmb]; simp
    rw [hz] at h
    refine ⟨h.1, _, ((Below.refl _ _).alloc (Nat.le_refl _) _).alloc (by simp) _, hz, ?_, h.2⟩
    have := Lies.new (w.alloc (.cells pC 47)) 42 #[.int .i64 0, .int .i64 0, .int .i64 0, .string ⟨#[]⟩, .slice none 0 0, .slice none 0 0, .int .i64 0, .int .i64 0]
    simpa using this)
  have HBE := Lib.hid hbe
  have HR := Lib.hid hR
  have HV := Lib.hid hv
  have HS0 := Lib.hid hst0
  have hmw : w.heap.size + 1 < mb := by omega
  clear hbe hbe0 ht hi hR hv hst0 hs0 hmb
  unfold ptO at *
  go_enter Tryz.func9, Tryz.ntmps9
  go_wp2_with fail
  refine HBE.out.mono ?_
  rintro e w2 ⟨rfl, W1, hb1, hz1, lz1, m2⟩
  have HB1 := Lib.hid hb1
  have HZ1 := Lib.hid hz1
  have LZ1 := Lib.hid lz1
  have M2 := Lib.hid m2
  clear hb1 hz1 lz1 m2
  unfold pt
  dsimp only
  go_wp2_with fail
  go_loopg [11] n (fun k _ wr => RunRel W1 mb s0 n k wr)
  case atStart => exact ⟨0, _, by omega, M2.out, HS0.out⟩
  case round =>
    obtain ⟨j, H', hj, hms, hsj⟩ := hrel
    have c12 := hms.reads
    rw [hsj] at c12
    have HB1w := Lib.hid hms.kept0
    by_cases hlt : j < n
    · have hji : (j : Int) < (n : Int) := by omega
      by_cases ho : (run j s0).out = 0
      · have HST := Lib.hid (step_any hms ho (HR.out.bd j (by omega)) (by omega) (HR.out.ne j (by omega) ho))
        have hrm := run_more (s := s0) j ho
        have HRM := Lib.hid hrm
        have HSJ := Lib.hid hsj
        have HJ := Lib.hid hj
        clear hms hrm hsj hj ho
        unfold pt at *
        go_wp2_with fail
        refine HST.out.mono ?_
        rintro e w5 ⟨rfl, H5, k5, m5⟩
        rw [← HRM.out.1] at m5
        have M5 := Lib.hid m5
        clear k5 m5
        go_wp2
        go_roundg (n - (j + 1))
        case measure => have := HJ.out; omega
        case rel => exact ⟨j + 1, H5, by have := HJ.out; omega, M5.out, by rw [HRM.out.1, step_steps, HSJ.out]⟩
      · have HST := Lib.hid (step_over hms ho)
        have hrun := run_stay ho (show j ≤ n by omega)
        have HTO := Lib.hid (told_any hms (Bd.trace (HR.out.bd j (by omega))) (by rw [hrun]; exact HV.out))
        have HRUN := Lib.hid hrun
        clear hms hrun ho hsj
        unfold pt at *
        go_wp2_with fail
        refine HST.out.mono ?_
        rintro e w5 ⟨rfl, rfl⟩
        go_wp2_with fail
        refine HTO.out.mono ?_
        rintro e w6 ⟨tr, rfl, ho6, hb6⟩
        obtain ⟨TA, tn, tc, rfl⟩ := own_slice ho6
        rw [HRUN.out] at ho6 ⊢
        have hwz : mb ≤ w5.heap.size := by have := HB1w.out.size; have := HZ1.out; omega
        have l6 : Lies w6 (w.heap.size + 1) 42 #[.int .i64 0, .int .i64 0, .int .i64 0, .string ⟨#[]⟩, .slice none 0 0, .slice none 0 0, .int .i64 0, .int .i64 0] := (hb6.block _ (by omega)).trans ((HB1w.out.block _ (by have := HZ1.out; omega)).trans LZ1.out)
        have hrow : ((runL (run n s0).out 0 0 (.slice TA tn tc) (run n s0).steps (run n s0).konts).all fun x => x.oneCell') = true := by simp [runL, Value.oneCell']
        have hszr : (Tryz.prog.info? 42).map (·.size) = some (runL (run n s0).out 0 0 (.slice TA tn tc) (run n s0).steps (run n s0).konts).size := szRun
        have B6 : Below w.heap.size w w6 := (HB1.out.trans (HB1w.out.mono (by have := HZ1.out; omega))).trans (hb6.mono (by omega))
        have HB7 := Lib.hid (below_setRow' B6 (show w.heap.size ≤ w.heap.size + 1 by omega) (runL (run n s0).out 0 0 (.slice TA tn tc) (run n s0).steps (run n s0).konts))
        have HL7 := Lib.hid (lies_setRow' l6 (runL (run n s0).out 0 0 (.slice TA tn tc) (run n s0).steps (run n s0).konts))
        have HO7 := Lib.hid (own_mono (own_same ho6 (w' := w6.setRow (w.heap.size + 1) (runL (run n s0).out 0 0 (.slice TA tn tc) (run n s0).steps (run n s0).konts)) (fun g h1 _ => heap_setRow' _ _ _ g (by omega))) (show w.heap.size ≤ w5.heap.size by omega))
        have HL6 := Lib.hid l6
        have HRW := Lib.hid hrow
        have HSZ := Lib.hid hszr
        clear l6 hrow hszr B6 ho6 hb6 hwz
        dsimp only
        go_wp2_with (refine wpList_store_rowTo rfl 42 (.tmp 6) (.tmp 22) rfl rfl (w.heap.size + 1) (runL (run n s0).out 0 0 (.slice TA tn tc) (run n s0).steps (run n s0).konts) rfl rfl 42 #[.int .i64 0, .int .i64 0, .int .i64 0, .string ⟨#[]⟩, .slice none 0 0, .slice none 0 0, .int .i64 0, .int .i64 0] ?_ HSZ.out rfl HRW.out ?_; exact HL6.out)
        refine bodyPost_ret (v := .agg (runL (run n s0).out 0 0 (.slice TA tn tc) (run n s0).steps (run n s0).konts)) (results_cell_row rfl _ _ (w.heap.size + 1) 42 _ (0, 0) _ rfl HL7.out Tryz.underlying42 rfl szRun) rfl ?_
        exact ⟨_, rfl, HO7.out, HB7.out⟩
    · have hjn : j = n := by omega
      have hrun : run j s0 = run n s0 := by rw [hjn]
      have hni : ¬ (j : Int) < (n : Int) := by omega
      have hnd : decide ((j : Int) < (n : Int)) = false := by simp; omega
      have HTO := Lib.hid (told_any hms (Bd.trace (HR.out.bd j (by omega))) (by rw [hrun]; exact HV.out))
      have HRUN := Lib.hid hrun
      clear hms hrun hjn hsj hni
      unfold pt at *
      go_wp2_with fail
      refine HTO.out.mono ?_
      rintro e w6 ⟨tr, rfl, ho6, hb6⟩
      obtain ⟨TA, tn, tc, rfl⟩ := own_slice ho6
      rw [HRUN.out] at ho6 ⊢
      have hwz : mb ≤ wr.heap.size := by have := HB1w.out.size; have := HZ1.out; omega
      have l6 : Lies w6 (w.heap.size + 1) 42 #[.int .i64 0, .int .i64 0, .int .i64 0, .string ⟨#[]⟩, .slice none 0 0, .slice none 0 0, .int .i64 0, .int .i64 0] := (hb6.block _ (by omega)).trans ((HB1w.out.block _ (by have := HZ1.out; omega)).trans LZ1.out)
      have hrow : ((runL (run n s0).out 0 0 (.slice TA tn tc) (run n s0).steps (run n s0).konts).all fun x => x.oneCell') = true := by simp [runL, Value.oneCell']
      have hszr : (Tryz.prog.info? 42).map (·.size) = some (runL (run n s0).out 0 0 (.slice TA tn tc) (run n s0).steps (run n s0).konts).size := szRun
      have B6 : Below w.heap.size w w6 := (HB1.out.trans (HB1w.out.mono (by have := HZ1.out; omega))).trans (hb6.mono (by omega))
      have HB7 := Lib.hid (below_setRow' B6 (show w.heap.size ≤ w.heap.size + 1 by omega) (runL (run n s0).out 0 0 (.slice TA tn tc) (run n s0).steps (run n s0).konts))
      have HL7 := Lib.hid (lies_setRow' l6 (runL (run n s0).out 0 0 (.slice TA tn tc) (run n s0).steps (run n s0).konts))
      have HO7 := Lib.hid (own_mono (own_same ho6 (w' := w6.setRow (w.heap.size + 1) (runL (run n s0).out 0 0 (.slice TA tn tc) (run n s0).steps (run n s0).konts)) (fun g h1 _ => heap_setRow' _ _ _ g (by omega))) (show w.heap.size ≤ wr.heap.size by omega))
      have HL6 := Lib.hid l6
      have HRW := Lib.hid hrow
      have HSZ := Lib.hid hszr
      clear l6 hrow hszr B6 ho6 hb6 hwz
      dsimp only
      go_wp2_with (refine wpList_store_rowTo rfl 42 (.tmp 6) (.tmp 22) rfl rfl (w.heap.size + 1) (runL (run n s0).out 0 0 (.slice TA tn tc) (run n s0).steps (run n s0).konts) rfl rfl 42 #[.int .i64 0, .int .i64 0, .int .i64 0, .string ⟨#[]⟩, .slice none 0 0, .slice none 0 0, .int .i64 0, .int .i64 0] ?_ HSZ.out rfl HRW.out ?_; exact HL6.out)
      refine bodyPost_ret (v := .agg (runL (run n s0).out 0 0 (.slice TA tn tc) (run n s0).steps (run n s0).konts)) (results_cell_row rfl _ _ (w.heap.size + 1) 42 _ (0, 0) _ rfl HL7.out Tryz.underlying42 rfl szRun) rfl ?_
      exact ⟨_, rfl, HO7.out, HB7.out⟩
end So
end Go.Proofs.YtfkakmafedhgdaaGreatDoor.K

/- The machine of package source: Run, where it ends with a value without kids. -/
namespace Go.Proofs.YtfkakmafedhgdaaGreatDoor.K
open Go Go.RowKit
namespace So

set_option maxRecDepth 100000 in
set_option maxHeartbeats 4000000 in
theorem run_val (w : World) (pC : Array Value) (iv : Value) (n : Nat) (hn : n ≤ 100000) {t : Tm} {input : List Int} (ht : TmA (memOf (w.alloc (.cells pC 47))) w.heap.size 2 t) (hi : InV (memOf w) iv input) (hR : Runs (start t input) n) {k' n' : Int} (hv : (run n (start t input)).out = 1 ∧ (run n (start t input)).at_ = none ∧ (run n (start t input)).val = .lit k' n') :
    Calls Tryz.prog 9 #[.agg pC, iv, .int .i64 (n : Int)] w (ToldEnd (run n (start t input)) k' n' w) := by
  have hbe0 := begin_any ((w.alloc (.cells pC 47)).alloc (.cells #[.int .i64 0, .int .i64 0, .int .i64 0, .string ⟨#[]⟩, .slice none 0 0, .slice none 0 0, .int .i64 0, .int .i64 0] 42)) (ht.le (memOf_alloc _ _)) (hi.le ((memOf_alloc _ _).trans (memOf_alloc _ _)))
  obtain ⟨mb, hmb⟩ : ∃ mb, mb = w.heap.size + 1 + 1 := ⟨_, rfl⟩
  obtain ⟨s0, hs0⟩ : ∃ s0, s0 = start t input := ⟨_, rfl⟩
  have hst0 : s0.steps = 0 := by rw [hs0]; rfl
  rw [← hs0] at hbe0 hR hv ⊢
  have hbe := hbe0.mono (R' := BeEnd w mb s0) (fun e w' h => by
    have hz : ((w.alloc (.cells pC 47)).alloc (.cells #[.int .i64 0, .int .i64 0, .int .i64 0, .string ⟨#[]⟩, .slice none 0 0, .slice none 0 0, .int .i64 0, .int .i64 0] 42)).heap.size = mb := by rw [hmb]; simp
    rw [hz] at h
    refine ⟨h.1, _, ((Below.refl _ _).alloc (Nat.le_refl _) _).alloc (by simp) _, hz, ?_, h.2⟩
    have := Lies.new (w.alloc (.cells pC 47)) 42 #[.int .i64 0, .int .i64 0, .int .i64 0, .string ⟨#[]⟩, .slice none 0 0, .slice none 0 0, .int .i64 0, .int .i64 0]
    simpa using this)
  have HBE := Lib.hid hbe
  have HR := Lib.hid hR
  have HV := Lib.hid hv
  have HS0 := Lib.hid hst0
  have hmw : w.heap.size + 1 < mb := by omega
  clear hbe hbe0 ht hi hR hv hst0 hs0 hmb
  unfold ptO at *
  go_enter Tryz.func9, Tryz.ntmps9
  go_wp2_with fail
  refine HBE.out.mono ?_
  rintro e w2 ⟨rfl, W1, hb1, hz1, lz1, m2⟩
  have HB1 := Lib.hid hb1
  have HZ1 := Lib.hid hz1
  have LZ1 := Lib.hid lz1
  have M2 := Lib.hid m2
  clear hb1 hz1 lz1 m2
  unfold pt
  dsimp only
  go_wp2_with fail
  go_loopg [11] n (fun k _ wr => RunRel W1 mb s0 n k wr)
  case atStart => exact ⟨0, _, by omega, M2.out, HS0.out⟩
  case round =>
    obtain ⟨j, H', hj, hms, hsj⟩ := hrel
    have c12 := hms.reads
    rw [hsj] at c12
    have HB1w := Lib.hid hms.kept0
    by_cases hlt : j < n
    · have hji : (j : Int) < (n : Int) := by omega
      by_cases ho : (run j s0).out = 0
      · have HST := Lib.hid (step_any hms ho (HR.out.bd j (by omega)) (by omega) (HR.out.ne j (by omega) ho))
        have hrm := run_more (s := s0) j ho
        have HRM := Lib.hid hrm
        have HSJ := Lib.hid hsj
        have HJ := Lib.hid hj
        clear hms hrm hsj hj ho
        unfold pt at *
        go_wp2_with fail
        refine HST.out.mono ?_
        rintro e w5 ⟨rfl, H5, k5, m5⟩
        rw [← HRM.out.1] at m5
        have M5 := Lib.hid m5
        clear k5 m5
        go_wp2
        go_roundg (n - (j + 1))
        case measure => have := HJ.out; omega
        case rel => exact ⟨j + 1, H5, by have := HJ.out; omega, M5.out, by rw [HRM.out.1, step_steps, HSJ.out]⟩
      · have HST := Lib.hid (step_over hms ho)
        have hrun := run_stay ho (show j ≤ n by omega)
        have HTO := Lib.hid (told_val (k := k') (n := n') hms (Bd.trace (HR.out.bd j (by omega))) (by rw [hrun]; exact HV.out.1) (by rw [hrun]; exact HV.out.2.1) (by rw [hrun]; exact HV.out.2.2))
        have HRUN := Lib.hid hrun
        clear hms hrun ho hsj
        unfold pt at *
        go_wp2_with fail
        refine HST.out.mono ?_
        rintro e w5 ⟨rfl, rfl⟩
        go_wp2_with fail
        refine HTO.out.mono ?_
        rintro e w6 ⟨tr, rfl, ho6, hb6⟩
        obtain ⟨TA, tn, tc, rfl⟩ := own_slice ho6
        rw [HRUN.out] at ho6 ⊢
        have hwz : mb ≤ w5.heap.size := by have := HB1w.out.size; have := HZ1.out; omega
        have l6 : Lies w6 (w.heap.size + 1) 42 #[.int .i64 0, .int .i64 0, .int .i64 0, .string ⟨#[]⟩, .slice none 0 0, .slice none 0 0, .int .i64 0, .int .i64 0] := (hb6.block _ (by omega)).trans ((HB1w.out.block _ (by have := HZ1.out; omega)).trans LZ1.out)
        have hrow : ((runL (run n s0).out k' n' (.slice TA tn tc) (run n s0).steps (run n s0).konts).all fun x => x.oneCell') = true := by simp [runL, Value.oneCell']
        have hszr : (Tryz.prog.info? 42).map (·.size) = some (runL (run n s0).out k' n' (.slice TA tn tc) (run n s0).steps (run n s0).konts).size := szRun
        have B6 : Below w.heap.size w w6 := (HB1.out.trans (HB1w.out.mono (by have := HZ1.out; omega))).trans (hb6.mono (by omega))
        have HB7 := Lib.hid (below_setRow' B6 (show w.heap.size ≤ w.heap.size + 1 by omega) (runL (run n s0).out k' n' (.slice TA tn tc) (run n s0).steps (run n s0).konts))
        have HL7 := Lib.hid (lies_setRow' l6 (runL (run n s0).out k' n' (.slice TA tn tc) (run n s0).steps (run n s0).konts))
        have HO7 := Lib.hid (own_mono (own_same ho6 (w' := w6.setRow (w.heap.size + 1) (runL (run n s0).out k' n' (.slice TA tn tc) (run n s0).steps (run n s0).konts)) (fun g h1 _ => heap_setRow' _ _ _ g (by omega))) (show w.heap.size ≤ w5.heap.size by omega))
        have HL6 := Lib.hid l6
        have HRW := Lib.hid hrow
        have HSZ := Lib.hid hszr
        clear l6 hrow hszr B6 ho6 hb6 hwz
        dsimp only
        go_wp2_with (refine wpList_store_rowTo rfl 42 (.tmp 6) (.tmp 22) rfl rfl (w.heap.size + 1) (runL (run n s0).out k' n' (.slice TA tn tc) (run n s0).steps (run n s0).konts) rfl rfl 42 #[.int .i64 0, .int .i64 0, .int .i64 0, .string ⟨#[]⟩, .slice none 0 0, .slice none 0 0, .int .i64 0, .int .i64 0] ?_ HSZ.out rfl HRW.out ?_; exact HL6.out)
        refine bodyPost_ret (v := .agg (runL (run n s0).out k' n' (.slice TA tn tc) (run n s0).steps (run n s0).konts)) (results_cell_row rfl _ _ (w.heap.size + 1) 42 _ (0, 0) _ rfl HL7.out Tryz.underlying42 rfl szRun) rfl ?_
        exact ⟨_, rfl, HO7.out, HB7.out⟩
    · have hjn : j = n := by omega
      have hrun : run j s0 = run n s0 := by rw [hjn]
      have hni : ¬ (j : Int) < (n : Int) := by omega
      have hnd : decide ((j : Int) < (n : Int)) = false := by simp; omega
      have HTO := Lib.hid (told_val (k := k') (n := n') hms (Bd.trace (HR.out.bd j (by omega))) (by rw [hrun]; exact HV.out.1) (by rw [hrun]; exact HV.out.2.1) (by rw [hrun]; exact HV.out.2.2))
      have HRUN := Lib.hid hrun
      clear hms hrun hjn hsj hni
      unfold pt at *
      go_wp2_with fail
      refine HTO.out.mono ?_
      rintro e w6 ⟨tr, rfl, ho6, hb6⟩
      obtain ⟨TA, tn, tc, rfl⟩ := own_slice ho6
      rw [HRUN.out] at ho6 ⊢
      have hwz : mb ≤ wr.heap.size := by have := HB1w.out.size; have := HZ1.out; omega
      have l6 : Lies w6 (w.heap.size + 1) 42 #[.int .i64 0, .int .i64 0, .int .i64 0, .string ⟨#[]⟩, .slice none 0 0, .slice none 0 0, .int .i64 0, .int .i64 0] := (hb6.block _ (by omega)).trans ((HB1w.out.block _ (by have := HZ1.out; omega)).trans LZ1.out)
      have hrow : ((runL (run n s0).out k' n' (.slice TA tn tc) (run n s0).steps (run n s0).konts).all fun x => x.oneCell') = true := by simp [runL, Value.oneCell']
      have hszr : (Tryz.prog.info? 42).map (·.size) = some (runL (run n s0).out k' n' (.slice TA tn tc) (run n s0).steps (run n s0).konts).size := szRun
      have B6 : Below w.heap.size w w6 := (HB1.out.trans (HB1w.out.mono (by have := HZ1.out; omega))).trans (hb6.mono (by omega))
      have HB7 := Lib.hid (below_setRow' B6 (show w.heap.size ≤ w.heap.size + 1 by omega) (runL (run n s0).out k' n' (.slice TA tn tc) (run n s0).steps (run n s0).konts))
      have HL7 := Lib.hid (lies_setRow' l6 (runL (run n s0).out k' n' (.slice TA tn tc) (run n s0).steps (run n s0).konts))
      have HO7 := Lib.hid (own_mono (own_same ho6 (w' := w6.setRow (w.heap.size + 1) (runL (run n s0).out k' n' (.slice TA tn tc) (run n s0).steps (run n s0).konts)) (fun g h1 _ => heap_setRow' _ _ _ g (by omega))) (show w.heap.size ≤ wr.heap.size by omega))
      have HL6 := Lib.hid l6
      have HRW := Lib.hid hrow
      have HSZ := Lib.hid hszr
      clear l6 hrow hszr B6 ho6 hb6 hwz
      dsimp only
      go_wp2_with (refine wpList_store_rowTo rfl 42 (.tmp 6) (.tmp 22) rfl rfl (w.heap.size + 1) (runL (run n s0).out k' n' (.slice TA tn tc) (run n s0).steps (run n s0).konts) rfl rfl 42 #[.int .i64 0, .int .i64 0, .int .i64 0, .string ⟨#[]⟩, .slice none 0 0, .slice none 0 0, .int .i64 0, .int .i64 0] ?_ HSZ.out rfl HRW.out ?_; exact HL6.out)
      refine bodyPost_ret (v := .agg (runL (run n s0).out k' n' (.slice TA tn tc) (run n s0).steps (run n s0).konts)) (results_cell_row rfl _ _ (w.heap.size + 1) 42 _ (0, 0) _ rfl HL7.out Tryz.underlying42 rfl szRun) rfl ?_
      exact ⟨_, rfl, HO7.out, HB7.out⟩
end So
end Go.Proofs.YtfkakmafedhgdaaGreatDoor.K

/- Whether two lists of numbers are the same. -/
namespace Go.Proofs.YtfkakmafedhgdaaGreatDoor.K
open Go Go.RowKit
namespace So

/-- Numbers that lie there. -/
def IntsS (w : World) (u : Value) (xs : List Int) : Prop := ∃ A c, u = .slice A xs.length c ∧ xs.length ≤ c ∧ (0 < xs.length → ∃ g o, A = some ⟨g, o, none⟩ ∧ ∀ (j : Nat) x, xs[j]? = some x → w.cell? ⟨g, o + j, none⟩ = some (.int .i64 x))
theorem IntsS.later {w w' : World} {u : Value} {xs : List Int} (h : IntsS w u xs) (hb : Below w.heap.size w w') : IntsS w' u xs := by
  obtain ⟨A, c, h1, h2, h3⟩ := h
  refine ⟨A, c, h1, h2, fun h0 => ?_⟩
  obtain ⟨g, o, h4, h5⟩ := h3 h0
  exact ⟨g, o, h4, fun j x hx => (World.cell?_of_block (w := w) (hb.block _ (World.block_lt_of_cell? w _ (h5 j x hx)))).trans (h5 j x hx)⟩
end So
end Go.Proofs.YtfkakmafedhgdaaGreatDoor.K

/- The terms that the laws of package source make. -/
namespace Go.Proofs.YtfkakmafedhgdaaGreatDoor.K
open Go Go.RowKit
namespace So

/-- A term's cells are answered. -/
def TmEnd (k : Int) (nm : Str) (n : Int) (kv : Value) (w : World) (e : Ending) (w' : World) : Prop := ∃ av rest, e = .returned (.agg (tmL k av nm [] n kv (.slice none 0 0) rest).toArray) ∧ rest.length = 14 ∧ (∀ u ∈ av :: rest, u.oneCell' = true) ∧ Below w.heap.size w w'
theorem szTerm : (Tryz.prog.info? 33).map (·.size) = some 21 := by kernel_rfl
set_option maxRecDepth 100000 in
set_option maxHeartbeats 4000000 in
theorem number_term (w : World) (n : Int) : Calls Tryz.prog 14 #[.int .i64 n] w (TmEnd 2 [] n (.slice none 0 0) w) := by
  go_enter Tryz.func14, Tryz.ntmps14
  go_wp2_with (refine wpList_store_rowTo rfl 33 (.tmp 2) (.tmp 4) rfl rfl w.heap.size _ rfl rfl 33 _ (Lies.new w _ _) (by rw [szTerm]; rfl) rfl (by simp [Value.oneCell']) ?_)
  refine bodyPost_ret (v := .agg (tmL 2 (.int .i64 0) [] [] n (.slice none 0 0) (.slice none 0 0) [.int .i64 0, .string ⟨#[]⟩, .int .i64 0, .slice none 0 0, .slice none 0 0, .int .i64 0, .slice none 0 0, .int .i64 0, .int .i64 0, .string ⟨#[]⟩, .int .i64 0, .slice none 0 0, .slice none 0 0, .int .i64 0]).toArray) (results_cell_row rfl _ _ w.heap.size 33 _ (0, 0) _ rfl (lies_setRow' (Lies.new w _ _) _) Tryz.underlying33 rfl szTerm) rfl ?_
  exact ⟨.int .i64 0, _, rfl, rfl, (by intro u hu; simp at hu; rcases hu with rfl | rfl | rfl | rfl | rfl | rfl | rfl | rfl | rfl | rfl | rfl | rfl | rfl | rfl | rfl <;> rfl), below_setRow' (below_new w _) (Nat.le_refl _) _⟩
set_option maxRecDepth 100000 in
set_option maxHeartbeats 4000000 in
theorem variable_term (w : World) (nm : Str) : Calls Tryz.prog 13 #[.string (ba nm)] w (TmEnd 1 nm 0 (.slice none 0 0) w) := by
  go_enter Tryz.func13, Tryz.ntmps13
  go_wp2_with (refine wpList_store_rowTo rfl 33 (.tmp 2) (.tmp 4) rfl rfl w.heap.size _ rfl rfl 33 _ (Lies.new w _ _) (by rw [szTerm]; rfl) rfl (by simp [Value.oneCell']) ?_)
  refine bodyPost_ret (v := .agg (tmL 1 (.int .i64 0) nm [] 0 (.slice none 0 0) (.slice none 0 0) [.int .i64 0, .string ⟨#[]⟩, .int .i64 0, .slice none 0 0, .slice none 0 0, .int .i64 0, .slice none 0 0, .int .i64 0, .int .i64 0, .string ⟨#[]⟩, .int .i64 0, .slice none 0 0, .slice none 0 0, .int .i64 0]).toArray) (results_cell_row rfl _ _ w.heap.size 33 _ (0, 0) _ rfl (lies_setRow' (Lies.new w _ _) _) Tryz.underlying33 rfl szTerm) rfl ?_
  exact ⟨.int .i64 0, _, rfl, rfl, (by intro u hu; simp at hu; rcases hu with rfl | rfl | rfl | rfl | rfl | rfl | rfl | rfl | rfl | rfl | rfl | rfl | rfl | rfl | rfl <;> rfl), below_setRow' (below_new w _) (Nat.le_refl _) _⟩
set_option maxRecDepth 100000 in
set_option maxHeartbeats 4000000 in
theorem op_term (w : World) (nm : Str) (A : Option Addr) (m c : Nat) : Calls Tryz.prog 11 #[.string (ba nm), .slice A m c] w (TmEnd 10 nm 0 (.slice A m c) w) := by
  go_enter Tryz.func11, Tryz.ntmps11
  go_wp2_with (refine wpList_store_rowTo rfl 33 (.tmp 4) (.tmp 7) rfl rfl w.heap.size _ rfl rfl 33 _ (Lies.new w _ _) (by rw [szTerm]; rfl) rfl (by simp [Value.oneCell']) ?_)
  refine bodyPost_ret (v := .agg (tmL 10 (.int .i64 0) nm [] 0 (.slice A m c) (.slice none 0 0) [.int .i64 0, .string ⟨#[]⟩, .int .i64 0, .slice none 0 0, .slice none 0 0, .int .i64 0, .slice none 0 0, .int .i64 0, .int .i64 0, .string ⟨#[]⟩, .int .i64 0, .slice none 0 0, .slice none 0 0, .int .i64 0]).toArray) (results_cell_row rfl _ _ w.heap.size 33 _ (0, 0) _ rfl (lies_setRow' (Lies.new w _ _) _) Tryz.underlying33 rfl szTerm) rfl ?_
  exact ⟨.int .i64 0, _, rfl, rfl, (by intro u hu; simp at hu; rcases hu with rfl | rfl | rfl | rfl | rfl | rfl | rfl | rfl | rfl | rfl | rfl | rfl | rfl | rfl | rfl <;> rfl), below_setRow' (below_new w _) (Nat.le_refl _) _⟩
end So
end Go.Proofs.YtfkakmafedhgdaaGreatDoor.K

/- The machine of package source, in plain words: runs. -/
namespace Go.Proofs.YtfkakmafedhgdaaGreatDoor.K
namespace So

def okB (s : St) : Bool := decide (s.trace.length ≤ 1000000) && (decide (s.cells.length ≤ 1000000) && (decide (s.hs.length ≤ 1000000) && (decide (s.konts ≤ 1000000) && (decide (s.out ≠ 0) || (s.at_.isSome || (!s.above.isEmpty || !s.hs.isEmpty))))))
theorem okB_bd {s : St} (h : okB s = true) : Bd s ∧ (s.out = 0 → s.at_ = none → s.above ≠ [] ∨ s.hs ≠ []) := by
  unfold okB at h
  simp only [Bool.and_eq_true, decide_eq_true_eq, Bool.or_eq_true, Bool.not_eq_true', List.isEmpty_eq_false_iff] at h
  obtain ⟨h1, h2, h3, h4, h5⟩ := h
  refine ⟨⟨h1, h2, h3, h4⟩, fun ho ha => ?_⟩
  rcases h5 with h5 | h5 | h5
  · exact absurd ho h5
  · rw [ha] at h5; cases h5
  · exact h5
theorem okB_mk {s : St} (h1 : s.trace.length ≤ 1000000) (h2 : s.cells.length ≤ 1000000) (h3 : s.hs.length ≤ 1000000) (h4 : s.konts ≤ 1000000) (h5 : (decide (s.out ≠ 0) || (s.at_.isSome || (!s.above.isEmpty || !s.hs.isEmpty))) = true) : okB s = true := by
  unfold okB
  rw [decide_eq_true h1, decide_eq_true h2, decide_eq_true h3, decide_eq_true h4, h5]
  rfl
theorem Runs.zero {s : St} (h : okB s = true) : Runs s 0 := by
  have := okB_bd h
  exact ⟨fun j hj => by obtain rfl : j = 0 := (by omega); exact this.1, fun j hj => by obtain rfl : j = 0 := (by omega); exact this.2⟩
theorem Runs.over {s : St} (h : okB s = true) (ho : s.out ≠ 0) (n : Nat) : Runs s n := by
  have := okB_bd h
  exact ⟨fun j _ => by rw [run_over ho]; exact this.1, fun j _ => by rw [run_over ho]; exact this.2⟩
theorem Runs.one {s : St} {n : Nat} (h : okB s = true) (ho : s.out = 0) (hr : Runs (step s) n) : Runs s (n + 1) := by
  have := okB_bd h
  refine ⟨fun j hj => ?_, fun j hj => ?_⟩
  · cases j with
    | zero => exact this.1
    | succ j => rw [run_one ho]; exact hr.bd j (by omega)
  · cases j with
    | zero => exact this.2
    | succ j => rw [run_one ho]; exact hr.ne j (by omega)
/-- A run, and where it ends. -/
def Res (s : St) (n : Nat) (f : St) : Prop := Runs s n ∧ run n s = f
theorem Res.over {s : St} (h : okB s = true) (ho : s.out ≠ 0) (n : Nat) : Res s n s := ⟨Runs.over h ho n, run_over ho n⟩
theorem Res.one {s s' f : St} {n : Nat} (h : okB s = true) (ho : s.out = 0) (he : step s = s') (hr : Res s' n f) : Res s (n + 1) f := by
  subst he
  exact ⟨Runs.one h ho hr.1, by rw [run_one ho]; exact hr.2⟩
def okRun : Nat → St → Bool
  | 0, s => okB s
  | n + 1, s => okB s && (if s.out = 0 then okRun n (step s) else true)
theorem okRun_runs : ∀ {n : Nat} {s : St}, okRun n s = true → Runs s n
  | 0, _, h => Runs.zero h
  | n + 1, s, h => by
    unfold okRun at h
    rw [Bool.and_eq_true] at h
    by_cases ho : s.out = 0
    · rw [if_pos ho] at h
      exact Runs.one h.1 ho (okRun_runs h.2)
    · exact Runs.over h.1 ho _

def unT : Tm := .mk 4 [] [] 0 [] []
def numT (n : Int) : Tm := .mk 2 [] [] n [] []
def varT (nm : Str) : Tm := .mk 1 nm [] 0 [] []
def opT (nm : Str) (kids : List Tm) : Tm := .mk 10 nm [] 0 kids []
def letT (nm : Str) (a b : Tm) : Tm := .mk 7 nm [] 0 [a, b] []

theorem step_var {c : Str} {env : Env} {u v : Val} {fr : Frame} {ab : List Frame} {hs : List (Hd × List Frame)} {ce : List Val} {inp tr : List Int} {st ko : Nat} (h : find c env = some u) :
    step ⟨some (varT c, env), v, fr :: ab, hs, ce, inp, tr, 0, st, ko⟩ = ⟨none, u, fr :: ab, hs, ce, inp, tr, 0, st + 1, ko⟩ := by
  show fin (match find c env with | some v' => St.has ⟨some (varT c, env), v, fr :: ab, hs, ce, inp, tr, 0, st + 1, ko⟩ v' | none => St.ends ⟨some (varT c, env), v, fr :: ab, hs, ce, inp, tr, 0, st + 1, ko⟩ 4) = _
  rw [h]
  rfl
/-- What reads and prints so many times. -/
def prT : Tm := opT [112, 114, 105, 110, 116] [opT [114, 101, 97, 100] []]
def rT : Nat → Tm
  | 0 => unT
  | n + 1 => letT [95] prT (rT n)
end So
end Go.Proofs.YtfkakmafedhgdaaGreatDoor.K

/- The machine of package source, in plain words: the runs of SourceAnswers. -/
namespace Go.Proofs.YtfkakmafedhgdaaGreatDoor.K
namespace So

def askT (n : Int) : Tm := .mk 13 [103, 101, 116] [] 0 [numT n] []
def plusT (m : Int) : Tm := opT [43] [varT [120], numT m]
def appT (f a : Tm) : Tm := .mk 6 [] [] 0 [f, a] []
def bodyA (stops : Bool) (m : Int) : Tm := match stops with | true => plusT m | false => appT (varT [107]) (plusT m)
def armsA (stops : Bool) (m : Int) : List Arm := [([114, 101, 116, 117, 114, 110], [[120]], varT [120]), ([103, 101, 116], [[120], [107]], bodyA stops m)]
/-- The sum, of the last to the first. -/
def sumR : List Int → Tm
  | [] => numT 0
  | x :: r => opT [43] [sumR r, askT x]
def handT (t : Tm) (arms : List Arm) : Tm := .mk 14 [69] [] 0 [t] arms
def addV (a b : Int) : Int := (opR [43] a b).2.1
def sumV (m : Int) : List Int → Int
  | [] => 0
  | x :: r => addV (sumV m r) (addV x m)
theorem ok_h {a : Option (Tm × Env)} {v : Val} {ab : List Frame} {hs : List (Hd × List Frame)} {st ko : Nat} (h1 : hs.length ≤ 1000) (h2 : ko ≤ 1000) (h : (a.isSome || (!ab.isEmpty || !hs.isEmpty)) = true) : okB ⟨a, v, ab, hs, [], [], [], 0, st, ko⟩ = true :=
  okB_mk (Nat.zero_le _) (Nat.zero_le _) (by show hs.length ≤ _; omega) (by show ko ≤ _; omega) (by show (false || (a.isSome || (!ab.isEmpty || !hs.isEmpty))) = true; rw [h]; rfl)
end So
end Go.Proofs.YtfkakmafedhgdaaGreatDoor.K

/- The machine of package source, in plain words: the runs of SourceNests. -/
namespace Go.Proofs.YtfkakmafedhgdaaGreatDoor.K
namespace So

def askU : Tm := .mk 13 [103, 101, 116] [] 0 [unT] []
/-- What a handler answers: its number, and what the next one further out answers, if it asks. -/
def ansT (x : Int × Bool) : Tm := match x.2 with | true => opT [43] [numT x.1, askU] | false => numT x.1
def armsN (x : Int × Bool) : List Arm := [([114, 101, 116, 117, 114, 110], [[120]], varT [120]), ([103, 101, 116], [[117], [107]], appT (varT [107]) (ansT x))]
/-- The term: the first handler is the innermost one. -/
def nestT : Tm → List (Int × Bool) → Tm
  | t, [] => t
  | t, x :: r => nestT (handT t (armsN x)) r
def hsOf (L : List (Int × Bool)) : List (Hd × List Frame) := L.map fun x => ((armsN x, []), [])
def valN : List (Int × Bool) → Int
  | [] => 0
  | x :: r => match x.2 with | true => addV x.1 (valN r) | false => x.1
/-- Who asks has another one further out. -/
def wfN : List (Int × Bool) → Prop
  | [] => False
  | x :: r => match x.2 with | true => wfN r | false => True
def cntN : List (Int × Bool) → Nat
  | [] => 0
  | x :: r => match x.2 with | true => cntN r + 11 | false => 8
def askN : List (Int × Bool) → Nat
  | [] => 0
  | x :: r => match x.2 with | true => askN r + 1 | false => 1
theorem askN_le : ∀ L : List (Int × Bool), askN L ≤ L.length
  | [] => Nat.le_refl _
  | (_, true) :: r => Nat.succ_le_succ (askN_le r)
  | (_, false) :: _ => Nat.succ_le_succ (Nat.zero_le _)
theorem cntN_le : ∀ L : List (Int × Bool), cntN L ≤ 11 * L.length
  | [] => Nat.le_refl _
  | (a, true) :: r => by have := cntN_le r; show cntN r + 11 ≤ 11 * (r.length + 1); omega
  | (a, false) :: r => by show 8 ≤ 11 * (r.length + 1); omega
theorem enter_run : ∀ (L : List (Int × Bool)) (t : Tm) (v : Val) (K : List (Hd × List Frame)) (st n : Nat) (f : St), K.length + L.length ≤ 100 →
    Res ⟨some (t, []), v, [], hsOf L ++ K, [], [], [], 0, st + L.length, 0⟩ n f → Res ⟨some (nestT t L, []), v, [], K, [], [], [], 0, st, 0⟩ (n + L.length) f := by
  intro L
  induction L with
  | nil => intro t v K st n f hl h; exact h
  | cons x r ih =>
    intro t v K st n f hl h
    simp only [List.length_cons] at hl h ⊢
    rw [show n + (r.length + 1) = (n + 1) + r.length by omega]
    refine ih (handT t (armsN x)) v K st (n + 1) f (by omega) ?_
    refine Res.one (s' := ⟨some (t, []), v, [], ((armsN x, []), []) :: (hsOf r ++ K), [], [], [], 0, st + r.length + 1, 0⟩) (ok_h (by rw [List.length_append]; show (hsOf r).length + _ ≤ _; unfold hsOf; rw [List.length_map]; omega) (Nat.zero_le _) rfl) rfl rfl ?_
    exact h
theorem hs_len (L : List (Int × Bool)) : (hsOf L).length = L.length := by unfold hsOf; rw [List.length_map]
theorem ask_run : ∀ (L : List (Int × Bool)) (F : List Frame) (env : Env) (v : Val) (st ko n : Nat) (f : St), wfN L → L.length ≤ 100 → ko + askN L ≤ 1000 →
    Res ⟨none, .lit 1 (valN L), F, hsOf L, [], [], [], 0, st + cntN L, ko + askN L⟩ n f → Res ⟨some (askU, env), v, F, hsOf L, [], [], [], 0, st, ko⟩ (n + cntN L) f := by
  intro L
  induction L with
  | nil => intro F env v st ko n f hw; exact hw.elim
  | cons x r ih =>
    intro F env v st ko n f hw hl hk h
    have hsl : (hsOf (x :: r)).length ≤ 1000 := by rw [hs_len]; omega
    have hrl : (hsOf r).length ≤ 1000 := by rw [hs_len]; simp at hl; omega
    obtain ⟨E, hE⟩ : ∃ E : Env, E = [([107], .res [(F, armsN x, [])]), ([117], unitV)] := ⟨_, rfl⟩
    have hk' : find [107] E = some (.res [(F, armsN x, [])]) := by rw [hE]; rfl
    obtain ⟨a, b⟩ := x
    cases b with
    | false =>
      have hk2 : ko + 1 ≤ 1000 := hk
      show Res _ (n + 8) f
      refine Res.one (n := n + 7) (s' := ⟨some (unT, env), v, .ask [103, 101, 116] :: F, hsOf ((a, false) :: r), [], [], [], 0, st + 1, ko⟩) (ok_h hsl (by omega) rfl) rfl rfl ?_
      refine Res.one (n := n + 6) (s' := ⟨none, unitV, .ask [103, 101, 116] :: F, hsOf ((a, false) :: r), [], [], [], 0, st + 1 + 1, ko⟩) (ok_h hsl (by omega) rfl) rfl rfl ?_
      refine Res.one (n := n + 5) (s' := ⟨some (appT (varT [107]) (numT a), E), unitV, [], hsOf r, [], [], [], 0, st + 1 + 1 + 1, ko + 1⟩) (ok_h hsl (by omega) rfl) rfl (by rw [hE]; rfl) ?_
      refine Res.one (n := n + 4) (s' := ⟨some (varT [107], E), unitV, [.arg (numT a) E], hsOf r, [], [], [], 0, st + 1 + 1 + 1 + 1, ko + 1⟩) (ok_h hrl (by omega) rfl) rfl rfl ?_
      refine Res.one (n := n + 3) (ok_h hrl (by omega) rfl) rfl (step_var hk') ?_
      refine Res.one (n := n + 2) (s' := ⟨some (numT a, E), .res [(F, armsN (a, false), [])], [.fn (.res [(F, armsN (a, false), [])])], hsOf r, [], [], [], 0, st + 1 + 1 + 1 + 1 + 1 + 1, ko + 1⟩) (ok_h hrl (by omega) rfl) rfl rfl ?_
      refine Res.one (n := n + 1) (s' := ⟨none, .lit 1 a, [.fn (.res [(F, armsN (a, false), [])])], hsOf r, [], [], [], 0, st + 1 + 1 + 1 + 1 + 1 + 1 + 1, ko + 1⟩) (ok_h hrl (by omega) rfl) rfl rfl ?_
      exact Res.one (s' := ⟨none, .lit 1 a, F, hsOf ((a, false) :: r), [], [], [], 0, st + 8, ko + 1⟩) (ok_h hrl (by omega) rfl) rfl (by cases F <;> rfl) h
    | true =>
      have hk2 : ko + (askN r + 1) ≤ 1000 := hk
      have hw2 : wfN r := hw
      have hrl2 : r.length ≤ 100 := by simp at hl; omega
      show Res _ (n + (cntN r + 11)) f
      rw [show n + (cntN r + 11) = ((n + 2) + cntN r) + 9 by omega]
      refine Res.one (n := (n + 2) + cntN r + 8) (s' := ⟨some (unT, env), v, .ask [103, 101, 116] :: F, hsOf ((a, true) :: r), [], [], [], 0, st + 1, ko⟩) (ok_h hsl (by omega) rfl) rfl rfl ?_
      refine Res.one (n := (n + 2) + cntN r + 7) (s' := ⟨none, unitV, .ask [103, 101, 116] :: F, hsOf ((a, true) :: r), [], [], [], 0, st + 1 + 1, ko⟩) (ok_h hsl (by omega) rfl) rfl rfl ?_
      refine Res.one (n := (n + 2) + cntN r + 6) (s' := ⟨some (appT (varT [107]) (ansT (a, true)), E), unitV, [], hsOf r, [], [], [], 0, st + 1 + 1 + 1, ko + 1⟩) (ok_h hsl (by omega) rfl) rfl (by rw [hE]; rfl) ?_
      refine Res.one (n := (n + 2) + cntN r + 5) (s' := ⟨some (varT [107], E), unitV, [.arg (ansT (a, true)) E], hsOf r, [], [], [], 0, st + 1 + 1 + 1 + 1, ko + 1⟩) (ok_h hrl (by omega) rfl) rfl rfl ?_
      refine Res.one (n := (n + 2) + cntN r + 4) (ok_h hrl (by omega) rfl) rfl (step_var hk') ?_
      refine Res.one (n := (n + 2) + cntN r + 3) (s' := ⟨some (ansT (a, true), E), .res [(F, armsN (a, true), [])], [.fn (.res [(F, armsN (a, true), [])])], hsOf r, [], [], [], 0, st + 1 + 1 + 1 + 1 + 1 + 1, ko + 1⟩) (ok_h hrl (by omega) rfl) rfl rfl ?_
      refine Res.one (n := (n + 2) + cntN r + 2) (s' := ⟨some (numT a, E), .res [(F, armsN (a, true), [])], [.gath (ansT (a, true)) E [], .fn (.res [(F, armsN (a, true), [])])], hsOf r, [], [], [], 0, st + 1 + 1 + 1 + 1 + 1 + 1 + 1, ko + 1⟩) (ok_h hrl (by omega) rfl) rfl rfl ?_
      refine Res.one (n := (n + 2) + cntN r + 1) (s' := ⟨none, .lit 1 a, [.gath (ansT (a, true)) E [], .fn (.res [(F, armsN (a, true), [])])], hsOf r, [], [], [], 0, st + 1 + 1 + 1 + 1 + 1 + 1 + 1 + 1, ko + 1⟩) (ok_h hrl (by omega) rfl) rfl rfl ?_
      refine Res.one (n := (n + 2) + cntN r) (s' := ⟨some (askU, E), .lit 1 a, [.gath (ansT (a, true)) E [.lit 1 a], .fn (.res [(F, armsN (a, true), [])])], hsOf r, [], [], [], 0, st + 1 + 1 + 1 + 1 + 1 + 1 + 1 + 1 + 1, ko + 1⟩) (ok_h hrl (by omega) rfl) rfl rfl ?_
      refine ih _ _ _ _ _ _ _ hw2 hrl2 (by omega) ?_
      obtain ⟨s1, hs1⟩ : ∃ s, s = st + 1 + 1 + 1 + 1 + 1 + 1 + 1 + 1 + 1 + cntN r := ⟨_, rfl⟩
      rw [← hs1]
      have h2 : Res ⟨none, .lit 1 (addV a (valN r)), F, hsOf ((a, true) :: r), [], [], [], 0, s1 + 1 + 1, ko + 1 + askN r⟩ n f := by
        rw [show s1 + 1 + 1 = st + cntN ((a, true) :: r) by show _ = st + (cntN r + 11); omega, show ko + 1 + askN r = ko + askN ((a, true) :: r) by show _ = ko + (askN r + 1); omega]
        exact h
      refine Res.one (n := n + 1) (s' := ⟨none, .lit 1 (addV a (valN r)), [.fn (.res [(F, armsN (a, true), [])])], hsOf r, [], [], [], 0, s1 + 1, ko + 1 + askN r⟩) (ok_h hrl (by omega) rfl) rfl rfl ?_
      exact Res.one (ok_h hrl (by omega) rfl) rfl (by cases F <;> rfl) h2
theorem ret_run : ∀ (L : List (Int × Bool)) (V : Int) (st ko n : Nat), L ≠ [] → L.length ≤ 100 → ko ≤ 1000 →
    Res ⟨none, .lit 1 V, [], hsOf L, [], [], [], 0, st, ko⟩ (n + 2 * L.length) ⟨none, .lit 1 V, [], [], [], [], [], 1, st + 2 * L.length, ko⟩ := by
  intro L
  induction L with
  | nil => intro V st ko n h; exact absurd rfl h
  | cons x r ih =>
    intro V st ko n _ hl hk
    have hsl : (hsOf (x :: r)).length ≤ 1000 := by rw [hs_len]; omega
    have hrl : (hsOf r).length ≤ 1000 := by rw [hs_len]; simp at hl; omega
    rw [show n + 2 * (x :: r).length = (n + 2 * r.length) + 1 + 1 by simp; omega]
    refine Res.one (s' := ⟨some (varT [120], [([120], .lit 1 V)]), .lit 1 V, [], hsOf r, [], [], [], 0, st + 1, ko⟩) (ok_h hsl hk rfl) rfl rfl ?_
    cases r with
    | nil =>
      refine Res.one (s' := ⟨none, .lit 1 V, [], [], [], [], [], 1, st + 1 + 1, ko⟩) (ok_h hrl hk rfl) rfl rfl ?_
      exact Res.over (okB_mk (Nat.zero_le _) (Nat.zero_le _) (Nat.zero_le _) (by show ko ≤ _; omega) rfl) (by show (1 : Int) ≠ 0; decide) _
    | cons y r =>
      refine Res.one (s' := ⟨none, .lit 1 V, [], hsOf (y :: r), [], [], [], 0, st + 1 + 1, ko⟩) (ok_h hrl hk rfl) rfl rfl ?_
      have := ih V (st + 1 + 1) ko n (by simp) (by simp at hl ⊢; omega) hk
      rw [show st + 1 + 1 + 2 * (y :: r).length = st + 2 * (x :: y :: r).length by simp; omega] at this
      exact this
theorem nests_run (L : List (Int × Bool)) (n : Nat) (hw : wfN L) (hl : L.length ≤ 10) (hn : 500 ≤ n) :
    ∃ f, Res (start (nestT askU L) []) n f ∧ f.out = 1 ∧ f.at_ = none ∧ f.val = .lit 1 (valN L) := by
  have hne : L ≠ [] := by intro h; rw [h] at hw; exact hw
  have h1 := askN_le L
  have h2 := cntN_le L
  obtain ⟨k, rfl⟩ : ∃ k, n = ((k + 2 * L.length) + cntN L) + L.length := ⟨n - (3 * L.length + cntN L), by omega⟩
  refine ⟨⟨none, .lit 1 (valN L), [], [], [], [], [], 1, 0 + L.length + cntN L + 2 * L.length, 0 + askN L⟩, ?_, rfl, rfl, rfl⟩
  show Res ⟨some (nestT askU L, []), unitV, [], [], [], [], [], 0, 0, 0⟩ _ _
  refine enter_run L askU unitV [] 0 _ _ (by simp; omega) ?_
  rw [List.append_nil]
  refine ask_run L [] [] unitV _ _ _ _ hw (by omega) (by omega) ?_
  exact ret_run L (valN L) _ _ k hne (by omega) (by omega)
end So
end Go.Proofs.YtfkakmafedhgdaaGreatDoor.K

/- SourceNests, in plain words: what the law makes of its numbers and truths, and what it wants. -/
namespace Go.Proofs.YtfkakmafedhgdaaGreatDoor.K
open Go Go.RowKit
namespace So

/-- Whether handler i of n asks the next one. -/
def moreB (bs : List Bool) (n i : Nat) : Bool := bs.getD i false && decide (i + 1 < n)
def prs (xs : List Int) (bs : List Bool) (n q : Nat) : List (Int × Bool) := (List.range q).map fun i => (xs.getD i 0, moreB bs n i)
theorem prs_succ (xs : List Int) (bs : List Bool) (n q : Nat) : prs xs bs n (q + 1) = prs xs bs n q ++ [(xs.getD q 0, moreB bs n q)] := by
  unfold prs
  rw [List.range_succ, List.map_append]
  rfl
theorem prs_len (xs : List Int) (bs : List Bool) (n q : Nat) : (prs xs bs n q).length = q := by unfold prs; simp
theorem nest_snoc : ∀ (L : List (Int × Bool)) (t : Tm) (x : Int × Bool), nestT t (L ++ [x]) = handT (nestT t L) (armsN x)
  | [], _, _ => rfl
  | y :: r, t, x => nest_snoc r (handT t (armsN y)) x
/-- What is wanted, and whether it is open, behind some of them. -/
def wantL : List (Int × Bool) → Int × Bool → Int × Bool
  | [], s => s
  | x :: r, (a, o) => wantL r (match o with | true => wrap64 (a + x.1) | false => a, o && x.2)
theorem want_snoc : ∀ (L : List (Int × Bool)) (s : Int × Bool) (x : Int × Bool), wantL (L ++ [x]) s = (match (wantL L s).2 with | true => wrap64 ((wantL L s).1 + x.1) | false => (wantL L s).1, (wantL L s).2 && x.2)
  | [], (_, _), _ => rfl
  | y :: r, (a, o), x => want_snoc r (match o with | true => wrap64 (a + y.1) | false => a, o && y.2) x
theorem want_shut : ∀ (L : List (Int × Bool)) (a : Int), (wantL L (a, false)).1 = a
  | [], _ => rfl
  | _ :: r, a => want_shut r a
def i64P (x : Int) : Prop := -9223372036854775808 ≤ x ∧ x ≤ 9223372036854775807
theorem wrap_in (x : Int) : i64P (wrap64 x) := by unfold i64P wrap64; omega
theorem wrap_same {x : Int} (h : i64P x) : wrap64 x = x := by unfold i64P at h; unfold wrap64; omega
theorem valN_in : ∀ (L : List (Int × Bool)), wfN L → (∀ x ∈ L, i64P x.1) → i64P (valN L)
  | [], h, _ => h.elim
  | (a, true) :: r, _, _ => wrap_in (a + valN r)
  | (a, false) :: _, _, hi => hi (a, false) (List.mem_cons_self ..)
theorem want_val : ∀ (L : List (Int × Bool)) (a : Int), wfN L → (wantL L (a, true)).1 = wrap64 (a + valN L)
  | [], _, h => h.elim
  | (x, true) :: r, a, h => by
    have hw : wfN r := h
    show (wantL r (wrap64 (a + x), true)).1 = wrap64 (a + wrap64 (x + valN r))
    rw [want_val r _ hw]
    unfold wrap64
    omega
  | (x, false) :: r, a, _ => want_shut r (wrap64 (a + x))
theorem want_all {L : List (Int × Bool)} (hw : wfN L) (hi : ∀ x ∈ L, i64P x.1) : (wantL L (0, true)).1 = valN L := by
  rw [want_val L 0 hw, Int.zero_add, wrap_same (valN_in L hw hi)]
/-- The last one does not ask. -/
theorem wf_of : ∀ (L : List (Int × Bool)) (x : Int), wfN (L ++ [(x, false)])
  | [], _ => trivial
  | (_, true) :: r, x => wf_of r x
  | (_, false) :: _, _ => trivial
theorem prs_wf (xs : List Int) (bs : List Bool) (n : Nat) (hn : 0 < n) : wfN (prs xs bs n n) := by
  obtain ⟨m, rfl⟩ : ∃ m, n = m + 1 := ⟨n - 1, by omega⟩
  rw [prs_succ, show moreB bs (m + 1) m = false by unfold moreB; simp]
  exact wf_of _ _
theorem prs_in (xs : List Int) (bs : List Bool) (n q : Nat) (h : ∀ x ∈ xs, i64P x) : ∀ y ∈ prs xs bs n q, i64P y.1 := by
  intro y hy
  unfold prs at hy
  rw [List.mem_map] at hy
  obtain ⟨i, _, rfl⟩ := hy
  show i64P (xs.getD i 0)
  rw [List.getD_eq_getElem?_getD]
  cases hq : xs[i]? with
  | none => exact ⟨by decide, by decide⟩
  | some x => exact h x (List.mem_of_getElem? hq)
theorem law_nests (xs : List Int) (bs : List Bool) (n : Nat) (hn : 0 < n) (h10 : n ≤ 10) (h : ∀ x ∈ xs, i64P x) :
    ∃ f, Res (start (nestT askU (prs xs bs n n)) []) 1500 f ∧ f.out = 1 ∧ f.at_ = none ∧ f.val = .lit 1 (wantL (prs xs bs n n) (0, true)).1 := by
  obtain ⟨f, h1, h2, h3, h4⟩ := nests_run (prs xs bs n n) 1500 (prs_wf xs bs n hn) (by rw [prs_len]; exact h10) (by omega)
  exact ⟨f, h1, h2, h3, by rw [h4, want_all (prs_wf xs bs n hn) (prs_in xs bs n n h)]⟩
end So
end Go.Proofs.YtfkakmafedhgdaaGreatDoor.K
