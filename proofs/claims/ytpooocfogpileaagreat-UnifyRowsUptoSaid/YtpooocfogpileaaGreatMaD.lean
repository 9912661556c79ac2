/- The variables of a ref of a variable. -/
import Derived.Test.YtpooocfogpileaaGreatMaB
import Derived.Test.YtpooocfogpileaaGreatMaC
import Derived.StillTailTactics
import Derived.BigQuiet
import Derived.Outline
namespace Go.Proofs.YtpooocfogpileaaGreat
open Go.RowKit

def gU (bs b1 b2 : Nat) (v1 : Value) : Array Value := #[.map (some bs), .map (some b1), v1, .map (some b2), .slice none 0 0]
theorem Fr.mono {S S' : Nat → Prop} {w w' : World} (h : Fr S w w') (hs : ∀ g, S g → S' g) : Fr S' w w' := ⟨h.os, h.tape, h.output, h.size, fun i hi hn => h.block i hi (fun e => hn (hs i e))⟩
theorem Fr.trans {S : Nat → Prop} {a b c : World} (h : Fr S a b) (g : Fr S b c) : Fr S a c := ⟨g.os.trans h.os, g.tape.trans h.tape, g.output.trans h.output, Nat.le_trans h.size g.size, fun i hi hn => (g.block i (Nat.lt_of_lt_of_le hi h.size) hn).trans (h.block i hi hn)⟩
theorem Bt.fr {b : Nat} {w w' : World} (h : Bt b w w') {S : Nat → Prop} (hs : S b) : Fr S w w' := ⟨h.os, h.tape, h.output, h.size, fun i hi hn => h.block i hi (fun e => hn (by rw [e]; exact hs))⟩
set_option maxRecDepth 100000 in
set_option maxHeartbeats 8000000 in
theorem gatherV_any (W : World) (bs b1 b2 bg B : Nat) (M : List Addr) (ga oa : Nat) (nm : Str) (n : Int) (A : Option Addr) (q : Nat) (lv : Value) (rv : Int)
    (hl : Lies W bg 121 (gU bs b1 b2 (.slice none 0 0))) (hs : Sn W bs M) (hm : IMap W b1 (setL [])) (hat : AtCells W ⟨ga, oa, none⟩) (hr : ReadsAt W ⟨ga, oa, none⟩ (tyC 7 nm n (.slice A 0 q) lv rv)) (hnm : (⟨ga, oa, none⟩ : Addr) ∉ M)
    (n1 : bs ≠ bg) (n2 : b1 ≠ bg) (n3 : bs ≠ b1) (n4 : ga ≠ bg) (n5 : ga ≠ bs) (n6 : ga ≠ b1) (_hB1 : bs < B) (hB2 : b1 < B) (hB3 : bg < B) (hB4 : ga < B) (hB : B ≤ W.heap.size) :
    Calls Tryz.prog 70 #[.pointer (some ⟨bg, 0, none⟩), .pointer (some ⟨ga, oa, none⟩)] W fun e W' => e = .returned (.tuple #[]) ∧ ∃ A5 k5 c5, Lies W' bg 121 (gU bs b1 b2 (.slice A5 k5 c5)) ∧
      W'.ownsRow B 3 1 (.slice A5 k5 c5) 1 [.int .i64 n] ∧ Fr (fun g => g = bs ∨ g = b1 ∨ g = bg ∨ B ≤ g) W W' := by
  have hf := first_any W bs M ⟨ga, oa, none⟩ hs hat
  rw [show decide ((⟨ga, oa, none⟩ : Addr) ∉ M) = true from decide_eq_true hnm] at hf
  have HF := Lib.hid hf
  have c0 : W.cell? ⟨bg, 0, none⟩ = some (.map (some bs)) := hl.cell 0
  have HL := Lib.hid hl
  have HM := Lib.hid hm
  have HR := Lib.hid hr
  have HLT := Lib.hid (show ga < W.heap.size from hat.lt)
  have HB := Lib.hid hB
  clear hf hl hs hm hr hnm hat hB
  go_enter Tryz.func70, Tryz.ntmps70
  go_wp2_with fail
  refine HF.out.mono ?_
  rintro e W1 ⟨rfl, _, hbt⟩
  obtain ⟨r0, _, r2, r3, _, _⟩ := reads6 (HR.out.keep (hbt.block _ HLT.out (by omega)))
  have hl1 : Lies W1 bg 121 (gU bs b1 b2 (.slice none 0 0)) := (hbt.block _ HL.out.lt (by omega)).trans HL.out
  have hm1 : IMap W1 b1 (setL []) := HM.out.keep (hbt.block _ HM.out.lt (by omega))
  have HL1 := Lib.hid hl1
  have HM1 := Lib.hid hm1
  have HBT := Lib.hid hbt
  have HR3 := Lib.hid r3
  have hsz := hbt.size
  clear hl1 hm1 hbt HF r3
  go_wp2_with fail
  go_still_tail 7, (by kernel_rfl)
  change wpList _ _ _ _ _ W1.drew
  obtain ⟨Wd, hWd⟩ : ∃ X, X = W1.drew := ⟨_, rfl⟩
  have hbd : Below W1.heap.size W1 Wd := by rw [hWd]; exact (Below.refl _ _).drew
  rw [← hWd]
  clear hWd
  have hld := HL1.out.later hbd
  have hmd := HM1.out.keep (hbd.block _ HM1.out.lt)
  have hc := numAdd_any Wd bg 1 b1 B _ [] none 0 0 n hld rfl rfl hmd (World.ownsRow_nil _ _ _ _) hB2 hB3 n2 (by simp) (by have := hbd.size; have := HB.out; omega)
  have HC := Lib.hid hc
  have HBD := Lib.hid hbd
  clear hc hld hmd hbd
  go_wp2_with fail
  refine HC.out.mono ?_
  rintro e W3 ⟨rfl, A5, k5, c5, hl5, _, hown5, hfr⟩
  have r3' : W3.cell? ⟨ga, oa + 3, none⟩ = some (.slice A 0 q) := (World.cell?_of_block (a := ⟨ga, oa + 3, none⟩) (hfr.block ga (by have := HLT.out; have := HBD.out.size; omega) (by omega))).trans ((HBD.out.cell (p := ⟨ga, oa + 3, none⟩) (by show ga < _; have := HLT.out; omega)).trans HR3.out)
  have HFR := Lib.hid (show Fr (fun g => g = bs ∨ g = b1 ∨ g = bg ∨ B ≤ g) W W3 from ((HBT.out.fr (.inl rfl)).trans ⟨HBD.out.os, HBD.out.tape, HBD.out.output, HBD.out.size, fun i hi _ => HBD.out.block i hi⟩).trans (hfr.mono fun g hg => by rcases hg with h | h | h; exact .inr (.inl h); exact .inr (.inr (.inl h)); exact .inr (.inr (.inr h))))
  have HL5 := Lib.hid hl5
  have HO5 := Lib.hid hown5
  clear hl5 hown5 hfr HC
  go_wp2_with fail
  refine wp_loop_rounds 1 ?_
  rw [rounds_succ]
  go_wp2
  go_end0
  refine ⟨rfl, A5, k5, c5, HL5.out, ?_, HFR.out⟩
  have h0 := HO5.out
  unfold addN at h0
  simpa using h0
end Go.Proofs.YtpooocfogpileaaGreat

/- Vars of a ref of a variable; whether a number stands in a list of it alone. -/
namespace Go.Proofs.YtpooocfogpileaaGreat
open Go.RowKit

set_option maxRecDepth 100000 in
set_option maxHeartbeats 8000000 in
theorem gatherR_any (W : World) (bs b1 b2 bg B : Nat) (ga gk ok : Nat) (nm nmk : Str) (v n : Int) (Ak : Option Addr) (c q : Nat) (lv lk : Value) (rk : Int)
    (hl : Lies W bg 121 (gU bs b1 b2 (.slice none 0 0))) (hs : Sn W bs []) (hm : IMap W b1 (setL [])) (hat : AtCells W ⟨ga, 0, none⟩) (hr : ReadsAt W ⟨ga, 0, none⟩ (tyC 6 nm v (.slice (some ⟨gk, ok, none⟩) 1 c) lv 0)) (hc : 1 ≤ c)
    (hatk : AtCells W ⟨gk, ok, none⟩) (hrk : ReadsAt W ⟨gk, ok, none⟩ (tyC 7 nmk n (.slice Ak 0 q) lk rk)) (hne : gk ≠ ga)
    (n1 : bs ≠ bg) (n2 : b1 ≠ bg) (n3 : bs ≠ b1) (n4 : ga ≠ bg) (n5 : ga ≠ bs) (n6 : ga ≠ b1) (m4 : gk ≠ bg) (m5 : gk ≠ bs) (m6 : gk ≠ b1) (hB1 : bs < B) (hB2 : b1 < B) (hB3 : bg < B) (hB4 : ga < B) (hB5 : gk < B) (hB : B ≤ W.heap.size) :
    Calls Tryz.prog 70 #[.pointer (some ⟨bg, 0, none⟩), .pointer (some ⟨ga, 0, none⟩)] W fun e W' => e = .returned (.tuple #[]) ∧ ∃ A5 k5 c5, Lies W' bg 121 (gU bs b1 b2 (.slice A5 k5 c5)) ∧
      W'.ownsRow B 3 1 (.slice A5 k5 c5) 1 [.int .i64 n] ∧ Fr (fun g => g = bs ∨ g = b1 ∨ g = bg ∨ B ≤ g) W W' := by
  have hf := first_any W bs [] ⟨ga, 0, none⟩ hs hat
  rw [show decide ((⟨ga, 0, none⟩ : Addr) ∉ ([] : List Addr)) = true from rfl] at hf
  have HF := Lib.hid hf
  have c0 : W.cell? ⟨bg, 0, none⟩ = some (.map (some bs)) := hl.cell 0
  have HL := Lib.hid hl
  have HM := Lib.hid hm
  have HR := Lib.hid hr
  have HRK := Lib.hid hrk
  have HAK := Lib.hid hatk
  have HLT := Lib.hid (show ga < W.heap.size from hat.lt)
  have HB := Lib.hid hB
  clear hf hl hs hm hr hrk hatk hat hB
  go_enter Tryz.func70, Tryz.ntmps70
  go_wp2_with fail
  refine HF.out.mono ?_
  rintro e W1 ⟨rfl, hS1, hbt⟩
  obtain ⟨r0, _, _, r3, _, r5⟩ := reads6 (HR.out.keep (hbt.block _ HLT.out (by omega)))
  rw [Nat.zero_add] at r3 r5
  have hl1 : Lies W1 bg 121 (gU bs b1 b2 (.slice none 0 0)) := (hbt.block _ HL.out.lt (by omega)).trans HL.out
  have hm1 : IMap W1 b1 (setL []) := HM.out.keep (hbt.block _ HM.out.lt (by omega))
  have hk1 := hbt.block gk HAK.out.lt (by omega)
  have hcall := gatherV_any W1 bs b1 b2 bg B _ gk ok nmk n Ak q lk rk hl1 hS1 hm1 (HAK.out.keep hk1) (HRK.out.keep hk1) (by unfold addU; simp) n1 n2 n3 m4 m5 m6 hB1 hB2 hB3 hB5 (by have := hbt.size; have := HB.out; omega)
  have HC := Lib.hid hcall
  have HBT := Lib.hid hbt
  have HL1 := Lib.hid (show ga < W1.heap.size from by have := HLT.out; have := hbt.size; omega)
  have HR5 := Lib.hid r5
  have hc0 : 0 < c := by omega
  clear hl1 hm1 hk1 hcall hS1 hbt HF r5
  go_wp2_with fail
  refine wp_loop_rounds 2 ?_
  rw [rounds_succ]
  go_wp2_with fail
  refine HC.out.mono ?_
  rintro e W2 ⟨rfl, A5, k5, c5, hl2, ho2, hfr⟩
  have s5 : W2.cell? ⟨ga, 5, none⟩ = some (.int .i64 0) := (World.cell?_of_block (a := ⟨ga, 5, none⟩) (hfr.block ga HL1.out (by omega))).trans HR5.out
  have HL2 := Lib.hid hl2
  have HO2 := Lib.hid ho2
  have HFR := Lib.hid ((HBT.out.fr (S := fun g => g = bs ∨ g = b1 ∨ g = bg ∨ B ≤ g) (.inl rfl)).trans hfr)
  clear hl2 ho2 hfr HC
  go_wp2_with fail
  try rw [rounds_succ]
  go_wp2
  go_end0
  exact ⟨rfl, A5, k5, c5, HL2.out, HO2.out, HFR.out⟩

set_option maxRecDepth 100000 in
set_option maxHeartbeats 8000000 in
theorem varsRef_any (w : World) (gk ok : Nat) (nm nmk : Str) (v n : Int) (Ak : Option Addr) (c q : Nat) (A2 : Option Addr) (n2 c2 : Nat) (lk : Value) (rk : Int) (hc : 1 ≤ c)
    (hatk : AtCells w ⟨gk, ok, none⟩) (hrk : ReadsAt w ⟨gk, ok, none⟩ (tyC 7 nmk n (.slice Ak 0 q) lk rk)) :
    Calls Tryz.prog 54 #[.agg (tyC 6 nm v (.slice (some ⟨gk, ok, none⟩) 1 c) (.slice A2 n2 c2) 0).toArray] w fun e w' => ∃ A k c, e = .returned (.tuple #[.slice A k c, .slice none 0 0]) ∧ w'.ownsRow w.heap.size 3 1 (.slice A k c) 1 [.int .i64 n] ∧ Below w.heap.size w w' := by
  have hlt := hatk.lt
  obtain ⟨w0, hw0⟩ : ∃ w0, w0 = w.alloc (.cells (tyC 6 nm v (.slice (some ⟨gk, ok, none⟩) 1 c) (.slice A2 n2 c2) 0).toArray 44) := ⟨_, rfl⟩
  have hb0 : Below w.heap.size w w0 := by rw [hw0]; exact below_new w _
  have hs0 : w0.heap.size = w.heap.size + 1 := by rw [hw0]; simp
  have ht0 : Lies w0 w.heap.size 44 (tyC 6 nm v (.slice (some ⟨gk, ok, none⟩) 1 c) (.slice A2 n2 c2) 0).toArray := by rw [hw0]; exact Lies.new w _ _
  unfold tyC at hw0 ⊢
  have HW := Lib.hid hw0
  have HS0 := Lib.hid hs0
  have HT0 := Lib.hid ht0
  have HAK := Lib.hid hatk
  have HRK := Lib.hid hrk
  have HB0 := Lib.hid hb0
  have hmm := @run_makeMap Tryz.prog
  clear hw0 hs0 ht0 hb0 hatk hrk
  go_enter Tryz.func54, Tryz.ntmps54
  go_wp2_with fail
  rw [← HW.out]
  obtain ⟨m1, hm1⟩ : ∃ m1, m1 = w0.alloc (.map #[] 0) := ⟨_, rfl⟩
  rw [← hm1]
  obtain ⟨m2, hm2⟩ : ∃ m2, m2 = m1.alloc (.map #[] 0) := ⟨_, rfl⟩
  rw [← hm2]
  obtain ⟨m3, hm3⟩ : ∃ m3, m3 = m2.alloc (.map #[] 0) := ⟨_, rfl⟩
  rw [← hm3]
  have z0 := HS0.out
  have z1 : m1.heap.size = w.heap.size + 2 := by rw [hm1, World.size_alloc, z0]
  have z2 : m2.heap.size = w.heap.size + 3 := by rw [hm2, World.size_alloc, z1]
  have z3 : m3.heap.size = w.heap.size + 4 := by rw [hm3, World.size_alloc, z2]
  have b1 : Below w0.heap.size w0 m1 := by rw [hm1]; exact below_new _ _
  have b2 : Below m1.heap.size m1 m2 := by rw [hm2]; exact below_new _ _
  have b3 : Below m2.heap.size m2 m3 := by rw [hm3]; exact below_new _ _
  obtain ⟨W, hW⟩ : ∃ W, W = m3.alloc (.cells (gU (w.heap.size + 1) (w.heap.size + 2) (w.heap.size + 3) (.slice none 0 0)) 121) := ⟨_, rfl⟩
  have b4 : Below m3.heap.size m3 W := by rw [hW]; exact below_new _ _
  have bW : Below w0.heap.size w0 W := ((b1.trans (b2.mono b1.size)).trans (b3.mono (by omega))).trans (b4.mono (by omega))
  have s1 : Sn W (w.heap.size + 1) [] := by
    have h := Sn.made w0
    rw [← hm1, z0] at h
    exact ((h.keep b2.block).keep b3.block).keep b4.block
  have i2 : IMap W (w.heap.size + 2) (setL []) := by
    have h := IMap.made m1
    rw [← hm2, z1] at h
    exact (h.keep (b3.block _ (by omega))).keep (b4.block _ (by omega))
  have lg : Lies W (w.heap.size + 4) 121 (gU (w.heap.size + 1) (w.heap.size + 2) (w.heap.size + 3) (.slice none 0 0)) := by rw [hW]; exact Lies.new' m3 _ _ z3
  have lt0 := HT0.out.later bW
  have hsW : W.heap.size = w.heap.size + 5 := by rw [hW, World.size_alloc, z3]
  have hkW : W.heap[gk]? = w.heap[gk]? := (bW.block gk (by omega)).trans (HB0.out.block gk hlt)
  have hcall := gatherR_any W (w.heap.size + 1) (w.heap.size + 2) (w.heap.size + 3) (w.heap.size + 4) (w.heap.size + 5) w.heap.size gk ok nm nmk v n Ak c q (.slice A2 n2 c2) lk rk lg s1 i2 ⟨_, _, lt0⟩
    (fun i u hu => by
      rw [show (⟨w.heap.size, 0 + i, none⟩ : Addr) = ⟨w.heap.size, i, none⟩ by rw [Nat.zero_add], lt0.cell]
      simpa using hu) hc (HAK.out.keep hkW) (HRK.out.keep hkW) (by omega) (by omega) (by omega) (by omega) (by omega) (by omega) (by omega) (by omega) (by omega) (by omega) (by omega) (by omega) (by omega) (by omega) (by omega) (by omega)
  unfold gU at hW
  rw [← hW]
  have HBW := Lib.hid (HB0.out.trans (bW.mono HB0.out.size))
  have HWS := Lib.hid hsW
  refine hcall.mono ?_
  rintro e W1 ⟨rfl, A5, k5, c5, hl5, ho5, hfr⟩
  have d2 : W1.cell? ⟨w.heap.size + 1 + 1 + 1 + 1, 2, none⟩ = some (.slice A5 k5 c5) := hl5.cell 2
  have d4 : W1.cell? ⟨w.heap.size + 1 + 1 + 1 + 1, 4, none⟩ = some (.slice none 0 0) := hl5.cell 4
  have HO := Lib.hid ho5
  have HB1 := Lib.hid (show Below w.heap.size w W1 from HBW.out.trans ⟨hfr.os, hfr.tape, hfr.output, by have := hfr.size; have := HWS.out; omega, fun i hi => hfr.block i (by have := HWS.out; omega) (by omega)⟩)
  clear hcall hl5 ho5 hfr hm1 hm2 hm3 hW b1 b2 b3 b4 bW s1 i2 lg lt0 hsW hkW z0 z1 z2 z3
  go_wp2
  go_quiet (fail)
  go_wp2
  go_ret2
  exact ⟨A5, k5, c5, rfl, own_mono (own_later HO.out (below_drewN _ _)) (by omega), HB1.out.trans ((below_drewN _ _).mono HB1.out.size)⟩

set_option maxRecDepth 100000 in
set_option maxHeartbeats 8000000 in
theorem indexI_any (w : World) (B : Nat) (v : Value) (n : Int) (h : w.ownsRow B 3 1 v 1 [.int .i64 n]) :
    Calls Tryz.prog 71 #[v, .int .i64 n] w fun e w' => e = .returned (.int .i64 0) ∧ w' = w := by
  rcases own_cells h with ⟨_, h0⟩ | ⟨g, cap, rfl, h1, _, _, h2⟩
  · cases h0
  have c0 := h2 0 _ rfl
  have hcap : 0 < cap := by omega
  clear h h2 h1
  go_enter Tryz.func71, Tryz.ntmps71
  go_wp2
  refine wp_loop_rounds 1 ?_
  rw [rounds_succ]
  go_wp2
  go_ret
  exact ⟨rfl, rfl⟩
set_option maxRecDepth 100000 in
set_option maxHeartbeats 8000000 in
theorem containsI_any (w : World) (B : Nat) (v : Value) (n : Int) (h : w.ownsRow B 3 1 v 1 [.int .i64 n]) :
    Calls Tryz.prog 55 #[v, .int .i64 n] w fun e w' => e = .returned (.bool true) ∧ w' = w := by
  obtain ⟨A, k, c, rfl⟩ := own_slice h
  have HX := Lib.hid (indexI_any w B _ n h)
  clear h
  go_enter Tryz.func55, Tryz.ntmps55
  go_wp2_with fail
  refine HX.out.mono ?_
  rintro e w1 ⟨rfl, rfl⟩
  go_wp2
  go_ret
  exact ⟨rfl, rfl⟩
end Go.Proofs.YtpooocfogpileaaGreat
