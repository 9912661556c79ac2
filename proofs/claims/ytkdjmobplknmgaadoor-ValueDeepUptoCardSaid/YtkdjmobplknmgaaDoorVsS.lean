/- Same of a value and itself. -/
import Derived.Test.YtkdjmobplknmgaaDoorVaE
import Derived.Deep.RegionHeld3
import Derived.Laws.Rows
namespace Go.Proofs.YtkdjmobplknmgaaDoor
open Go Go.MapKept Go.ChangeMaps Go.RowKit

set_option maxRecDepth 100000 in
set_option maxHeartbeats 4000000 in
theorem sameAlone_any (w : World) (b o b2 o2 : Nat) (k n : Int) (nm : Str) (A A2 : Option Addr) (m c c2 : Nat) (hr : ReadsAt w ⟨b, o, none⟩ (vC k n nm (.slice A m c))) (hr2 : ReadsAt w ⟨b2, o2, none⟩ (vC k n nm (.slice A2 m c2))) :
    Calls Tryd.prog 36 #[.pointer (some ⟨b, o, none⟩), .pointer (some ⟨b2, o2, none⟩)] w fun e w' => e = .returned (.bool true) ∧ ∃ n, w' = w.drewN n := by
  obtain ⟨c0, c1, c2, c3⟩ := reads4 hr
  obtain ⟨d0, d1, d2, d3⟩ := reads4 hr2
  clear hr hr2
  go_enter Tryd.func36, Tryd.ntmps36
  go_wp2
  go_quiet (fail)
  go_wp2
  go_ret
  exact ⟨rfl, _, rfl⟩
def keyL' (a : Option Addr) (n : Int) : Value := .agg #[.pointer a, .int .i64 n]
theorem zero_list (w : World) : (zeroValue 66).run Tryd.prog w = .ok (keyL' none 0) w := by
  unfold keyL'
  go_simp
/-- A map without entries. -/
def EMap (w : World) (b : Nat) : Prop := w.heap[b]? = some (.map #[] 0)
theorem look_empty {w : World} {b : Nat} (h : EMap w b) (a : Addr) (n : Int) : (Instr.lookup 59 (.map (some b)) (.agg #[.pointer (some a), .int .i64 n]) true).run Tryd.prog w = .ok (.tuple #[.agg #[.pointer none, .int .i64 0], .bool false]) w := by
  have hc : (Instr.checkKey true 10000 66 (.agg #[.pointer (some a), .int .i64 n])).run Tryd.prog w = .ok () w := checkKey_list w true a n
  have hz : (zeroValue 66).run Tryd.prog w = .ok (.agg #[.pointer none, .int .i64 0]) w := zero_list w
  simp [Instr.lookup, run_underlying Tryd.underlying59, MapKept.run_getObj_map h, Result.andThen, hc, hz, Instr.findKey, run_underlying Tryd.underlying66, Instr.findNow]
theorem wpList_look_empty (w : World) {ops : Array Oper} {rest : List Oper} {o : Oper} {a : Act} {Q : Exit → Act → World → Prop}
    (hg : o.guard = none) (m x : Operand) (hop : o.op = Op.lookup 59 m x true) {b : Nat} (hm : a.eval m = .map (some b)) (h : EMap w b) (d : Addr) (n : Int) (hx : a.eval x = .agg #[.pointer (some d), .int .i64 n])
    (hK : wpList Tryd.prog ops Q rest (a.put o.dst (.tuple #[.agg #[.pointer none, .int .i64 0], .bool false])) w) :
    wpList Tryd.prog ops Q (o :: rest) a w := by
  refine wpList_plain hg fun K' hK' => ?_
  have hrun := look_empty h d n
  unfold Oper.wp
  simp [execOp, hop, hm, hx, hrun, Result.andThen]
  exact hK' _ _ hK
theorem equal_self (w : World) (a : Addr) : (Op.equalIn 9999 45 (.pointer (some a)) (.pointer (some a))).run Tryd.prog w = .ok true w := by
  obtain ⟨inf, hinf, hsz⟩ := size_val
  have h : ∀ d, (Op.equalIn (d + 1) 45 (.pointer (some a)) (.pointer (some a))).run Tryd.prog w = .ok true w := fun d => by
    simp [Op.equalIn, run_underlying Tryd.underlying45, typeInfo, sizeOf, run_sameAddr_same, hinf]
  exact h 9998
theorem size_list : (Tryd.prog.info? 66).map (·.size) = some 2 := by kernel_rfl
set_option maxRecDepth 100000 in
set_option maxHeartbeats 4000000 in
theorem end_any (w : World) (b g : Nat) (n : Int) (hm : EMap w b) :
    Calls Tryd.prog 49 #[.map (some b), .agg #[.pointer (some ⟨g, 0, none⟩), .int .i64 n]] w fun e w' => e = .returned (.agg #[.pointer (some ⟨g, 0, none⟩), .int .i64 n]) ∧ Below w.heap.size w w' := by
  obtain ⟨w1, hw1⟩ : ∃ w1, w1 = (w.alloc (.cells #[.pointer (some ⟨g, 0, none⟩), .int .i64 n] 66)).alloc (.cells #[.pointer none, .int .i64 0] 66) := ⟨_, rfl⟩
  have hb1 : Below w.heap.size w w1 := by rw [hw1]; exact ((Below.refl _ w).alloc (Nat.le_refl _) _).alloc (by simp) _
  have l1 : Lies w1 w.heap.size 66 #[.pointer (some ⟨g, 0, none⟩), .int .i64 n] := by rw [hw1]; exact (Lies.new w _ _).alloc _
  have l2 : Lies w1 (w.heap.size + 1) 66 #[.pointer none, .int .i64 0] := by rw [hw1]; exact Lies.new' _ _ _ (by simp)
  have hm1 : EMap w1 b := (hb1.block b (lt_of_block hm)).trans hm
  have c0 : w1.cell? ⟨w.heap.size, 0, none⟩ = some (.pointer (some ⟨g, 0, none⟩)) := l1.cell 0
  have c1 : w1.cell? ⟨w.heap.size, 1, none⟩ = some (.int .i64 n) := l1.cell 1
  have HW := Lib.hid hw1
  have HB := Lib.hid hb1
  have HL2 := Lib.hid l2
  have HM := Lib.hid hm1
  have HLT := Lib.hid l2.lt
  clear hw1 hb1 l1 l2 hm hm1
  go_enter Tryd.func49, Tryd.ntmps49
  go_wp2_with fail
  rw [← HW.out]
  go_loopw [6] (fun _ wr => wr = w1) (fun _ _ => 0)
  case atStart => rfl
  case round =>
    obtain rfl := hrel
    have hs1 := HLT.out
    have hs0 : w.heap.size < wr.heap.size := by omega
    have y0 := HL2.out.cell 0
    have y1 := HL2.out.cell 1
    have g0 := HL2.out.free 0
    have g1 := HL2.out.free 1
    go_wp2_with (at_lookup; refine wpList_look_empty _ rfl (.tmp 10) (.tmp 11) rfl rfl HM.out ⟨g, 0, none⟩ n rfl ?_)
    refine bodyPost_ret (results_cell_row rfl _ _ (w.heap.size + 1) 66 _ (0, 0) _ rfl (((HL2.out.set 0 (.pointer (some ⟨g, 0, none⟩))).set 1 (.int .i64 n)).alloc (.cells #[.pointer none, .int .i64 0] 66)) Tryd.underlying66 rfl size_list) rfl ⟨rfl, ?_⟩
    have h1 := (HB.out.setCell (p := ⟨w.heap.size + 1, 0, none⟩) (by show w.heap.size ≤ w.heap.size + 1; omega) (.pointer (some ⟨g, 0, none⟩))).setCell (p := ⟨w.heap.size + 1, 1, none⟩) (by show w.heap.size ≤ w.heap.size + 1; omega) (.int .i64 n)
    exact h1.trans ((below_new _ _).mono h1.size)
set_option maxRecDepth 100000 in
set_option maxHeartbeats 4000000 in
theorem join_any (w : World) (b g : Nat) (n : Int) (hm : EMap w b) :
    Calls Tryd.prog 37 #[.map (some b), .agg #[.pointer (some ⟨g, 0, none⟩), .int .i64 n], .agg #[.pointer (some ⟨g, 0, none⟩), .int .i64 n]] w fun e w' => e = .returned (.bool false) ∧ Below w.heap.size w w' := by
  obtain ⟨w1, hw1⟩ : ∃ w1, w1 = (w.alloc (.cells #[.pointer (some ⟨g, 0, none⟩), .int .i64 n] 66)).alloc (.cells #[.pointer (some ⟨g, 0, none⟩), .int .i64 n] 66) := ⟨_, rfl⟩
  have hb1 : Below w.heap.size w w1 := by rw [hw1]; exact ((Below.refl _ w).alloc (Nat.le_refl _) _).alloc (by simp) _
  have l1 : Lies w1 w.heap.size 66 #[.pointer (some ⟨g, 0, none⟩), .int .i64 n] := by rw [hw1]; exact (Lies.new w _ _).alloc _
  have l2 : Lies w1 (w.heap.size + 1) 66 #[.pointer (some ⟨g, 0, none⟩), .int .i64 n] := by rw [hw1]; exact Lies.new' _ _ _ (by simp)
  have hm1 : EMap w1 b := (hb1.block b (lt_of_block hm)).trans hm
  have hdr : Below w1.heap.size w1 w1.drew := (Below.refl _ _).drew
  have hS : ∀ V, Below w1.heap.size w1 V → (V.cell? ⟨w.heap.size, 0, none⟩ = some (.pointer (some ⟨g, 0, none⟩)) ∧ V.cell? ⟨w.heap.size, 1, none⟩ = some (.int .i64 n)) ∧ (V.cell? ⟨w.heap.size + 1, 0, none⟩ = some (.pointer (some ⟨g, 0, none⟩)) ∧ V.cell? ⟨w.heap.size + 1, 1, none⟩ = some (.int .i64 n)) := fun V hV => ⟨⟨(l1.later hV).cell 0, (l1.later hV).cell 1⟩, ⟨(l2.later hV).cell 0, (l2.later hV).cell 1⟩⟩
  have hE : ∀ V, Below w1.heap.size w1 V → Calls Tryd.prog 49 #[.map (some b), .agg #[.pointer (some ⟨g, 0, none⟩), .int .i64 n]] V fun e w' => e = .returned (.agg #[.pointer (some ⟨g, 0, none⟩), .int .i64 n]) ∧ Below V.heap.size V w' := fun V hV => end_any V b g n ((hV.block b (lt_of_block hm1)).trans hm1)
  have HW := Lib.hid hw1
  have HB := Lib.hid hb1
  have HL1 := Lib.hid l1
  have HL2 := Lib.hid l2
  have HS := Lib.hid hS
  have HE := Lib.hid hE
  have HDR := Lib.hid hdr
  clear hw1 hb1 l1 l2 hm hm1 hS hE hdr
  go_enter Tryd.func37, Tryd.ntmps37
  go_wp2_with fail
  rw [← HW.out]
  refine wp_region_held_drew (S := fun V => (V.cell? ⟨w.heap.size, 0, none⟩ = some (.pointer (some ⟨g, 0, none⟩)) ∧ V.cell? ⟨w.heap.size, 1, none⟩ = some (.int .i64 n)) ∧ (V.cell? ⟨w.heap.size + 1, 0, none⟩ = some (.pointer (some ⟨g, 0, none⟩)) ∧ V.cell? ⟨w.heap.size + 1, 1, none⟩ = some (.int .i64 n))) (by kernel_rfl) ?_ (fun hHeld => ?_)
  · exact HS.out _ HDR.out
  refine wpAnyH_take (i := 0) (oi := ⟨some 7, _, _, _, _, _⟩) (v := ?_) rfl (by kernel_rfl) (by kernel_rfl) (by kernel_rfl) (fun _ _ _ h => h) (Or.inl ⟨by kernel_rfl, ?_⟩) (by assumption) ?_
  rotate_left
  · (intro w' hSw; (try dsimp only at hSw); go_split_ands; go_simp; first | done | with_reducible rfl)
  try simp only [Act.put, List.setIfInBounds_toArray, List.set_cons_zero, List.set_cons_succ]
  refine wpAnyH_take (i := 1) (oi := ⟨some 8, _, _, _, _, _⟩) (v := ?_) rfl (by kernel_rfl) (by kernel_rfl) (by kernel_rfl) (fun _ _ _ h => h) (Or.inl ⟨by kernel_rfl, ?_⟩) (by assumption) ?_
  rotate_left
  · (intro w' hSw; (try dsimp only at hSw); go_split_ands; go_simp; first | done | with_reducible rfl)
  try simp only [Act.put, List.setIfInBounds_toArray, List.set_cons_zero, List.set_cons_succ]
  refine wpAnyH_take (i := 3) (oi := ⟨some 10, _, _, _, _, _⟩) (v := ?_) rfl (by kernel_rfl) (by kernel_rfl) (by kernel_rfl) (fun _ _ _ h => h) (Or.inl ⟨by kernel_rfl, ?_⟩) (by assumption) ?_
  rotate_left
  · (intro w' hSw; (try dsimp only at hSw); go_split_ands; go_simp; first | done | with_reducible rfl)
  try simp only [Act.put, List.setIfInBounds_toArray, List.set_cons_zero, List.set_cons_succ]
  refine wpAnyH_take (i := 4) (oi := ⟨some 11, _, _, _, _, _⟩) (v := ?_) rfl (by kernel_rfl) (by kernel_rfl) (by kernel_rfl) (fun _ _ _ h => h) (Or.inl ⟨by kernel_rfl, ?_⟩) (by assumption) ?_
  rotate_left
  · (intro w' hSw; (try dsimp only at hSw); go_split_ands; go_simp; first | done | with_reducible rfl)
  try simp only [Act.put, List.setIfInBounds_toArray, List.set_cons_zero, List.set_cons_succ]
  refine wpAnyH_ready (rs := [2]) (by kernel_rfl) (by simp) ?_
  refine AllReadyH.cons (o := ⟨some 9, _, _, _, _, _⟩) rfl (fun K hK => ?_) AllReadyH.nil
  go_simp
  go_at_call 49
  refine (HE.out _ HDR.out).mono ?_
  rintro e w2 ⟨rfl, hb2⟩
  have hq2 := HDR.out.trans hb2
  go_simp
  refine hK.out _ _ ?_ (fun hHeld => ?_)
  · exact HS.out _ hq2
  clear hK K
  try simp only [Act.put, List.setIfInBounds_toArray, List.set_cons_zero, List.set_cons_succ]
  refine wpAnyH_ready (rs := [5]) (by kernel_rfl) (by simp) ?_
  refine AllReadyH.cons (o := ⟨some 12, _, _, _, _, _⟩) rfl (fun K hK => ?_) AllReadyH.nil
  go_simp
  go_at_call 49
  refine (HE.out _ hq2).mono ?_
  rintro e w3 ⟨rfl, hb3⟩
  have hq3 : Below w1.heap.size w1 w3 := hq2.trans (hb3.mono hq2.size)
  go_simp
  refine hK.out _ _ ?_ (fun hHeld => ?_)
  · exact HS.out _ hq3
  clear hK K
  have l13 := HL1.out.later hq3
  have l23 := HL2.out.later hq3
  have c0 := l13.cell 0
  have c1 := l13.cell 1
  have d0 := l23.cell 0
  have d1 := l23.cell 1
  have e0 := l13.free 0
  have e1 := l13.free 1
  have f0 := l23.free 0
  have f1 := l23.free 1
  try simp only [Act.put, List.setIfInBounds_toArray, List.set_cons_zero, List.set_cons_succ]
  refine wpAnyH_ready (rs := [6]) (by kernel_rfl) (by simp) ?_
  refine AllReadyH.cons (o := ⟨none, _, _, _, _, _⟩) rfl (fun K hK => ?_) AllReadyH.nil
  go_simp
  have l14 : Lies ((w3.setCell ⟨w.heap.size, 0, none⟩ (.pointer (some ⟨g, 0, none⟩))).setCell ⟨w.heap.size, 1, none⟩ (.int .i64 n)) w.heap.size 66 #[.pointer (some ⟨g, 0, none⟩), .int .i64 n] := (l13.set 0 _).set 1 _
  have l24 : Lies ((w3.setCell ⟨w.heap.size, 0, none⟩ (.pointer (some ⟨g, 0, none⟩))).setCell ⟨w.heap.size, 1, none⟩ (.int .i64 n)) (w.heap.size + 1) 66 #[.pointer (some ⟨g, 0, none⟩), .int .i64 n] := (l23.far (p := ⟨w.heap.size, 0, none⟩) (by show w.heap.size + 1 ≠ w.heap.size; omega) _).far (p := ⟨w.heap.size, 1, none⟩) (by show w.heap.size + 1 ≠ w.heap.size; omega) _
  have hb4 : Below w.heap.size w ((w3.setCell ⟨w.heap.size, 0, none⟩ (.pointer (some ⟨g, 0, none⟩))).setCell ⟨w.heap.size, 1, none⟩ (.int .i64 n)) := ((HB.out.trans (hq3.mono HB.out.size)).setCell (p := ⟨w.heap.size, 0, none⟩) (Nat.le_refl _) _).setCell (p := ⟨w.heap.size, 1, none⟩) (Nat.le_refl _) _
  refine hK.out _ _ ?_ (fun hHeld => ?_)
  · exact ⟨⟨l14.cell 0, l14.cell 1⟩, ⟨l24.cell 0, l24.cell 1⟩⟩
  clear hK K c0 c1 d0 d1 e0 e1 f0 f1 l13 l23
  obtain ⟨w4, hw4⟩ : ∃ w4, w4 = ((w3.setCell ⟨w.heap.size, 0, none⟩ (.pointer (some ⟨g, 0, none⟩))).setCell ⟨w.heap.size, 1, none⟩ (.int .i64 n)) := ⟨_, rfl⟩
  rw [← hw4] at hb4 l14 l24 ⊢
  clear hw4
  have c0 := l14.cell 0
  have c1 := l14.cell 1
  have d0 := l24.cell 0
  have d1 := l24.cell 1
  have e0 := l14.free 0
  have e1 := l14.free 1
  have f0 := l24.free 0
  have f1 := l24.free 1
  try simp only [Act.put, List.setIfInBounds_toArray, List.set_cons_zero, List.set_cons_succ]
  refine wpAnyH_ready (rs := [7]) (by kernel_rfl) (by simp) ?_
  refine AllReadyH.cons (o := ⟨none, _, _, _, _, _⟩) rfl (fun K hK => ?_) AllReadyH.nil
  go_simp
  have l15 : Lies ((w4.setCell ⟨w.heap.size + 1, 0, none⟩ (.pointer (some ⟨g, 0, none⟩))).setCell ⟨w.heap.size + 1, 1, none⟩ (.int .i64 n)) w.heap.size 66 #[.pointer (some ⟨g, 0, none⟩), .int .i64 n] := (l14.far (p := ⟨w.heap.size + 1, 0, none⟩) (by show w.heap.size ≠ w.heap.size + 1; omega) _).far (p := ⟨w.heap.size + 1, 1, none⟩) (by show w.heap.size ≠ w.heap.size + 1; omega) _
  have l25 : Lies ((w4.setCell ⟨w.heap.size + 1, 0, none⟩ (.pointer (some ⟨g, 0, none⟩))).setCell ⟨w.heap.size + 1, 1, none⟩ (.int .i64 n)) (w.heap.size + 1) 66 #[.pointer (some ⟨g, 0, none⟩), .int .i64 n] := (l24.set 0 _).set 1 _
  have hb5 : Below w.heap.size w ((w4.setCell ⟨w.heap.size + 1, 0, none⟩ (.pointer (some ⟨g, 0, none⟩))).setCell ⟨w.heap.size + 1, 1, none⟩ (.int .i64 n)) := (hb4.setCell (p := ⟨w.heap.size + 1, 0, none⟩) (by show w.heap.size ≤ w.heap.size + 1; omega) _).setCell (p := ⟨w.heap.size + 1, 1, none⟩) (by show w.heap.size ≤ w.heap.size + 1; omega) _
  refine hK.out _ _ ?_ (fun hHeld => ?_)
  · exact ⟨⟨l15.cell 0, l15.cell 1⟩, ⟨l25.cell 0, l25.cell 1⟩⟩
  clear hK K c0 c1 d0 d1 e0 e1 f0 f1 l14 l24
  obtain ⟨w5, hw5⟩ : ∃ w5, w5 = ((w4.setCell ⟨w.heap.size + 1, 0, none⟩ (.pointer (some ⟨g, 0, none⟩))).setCell ⟨w.heap.size + 1, 1, none⟩ (.int .i64 n)) := ⟨_, rfl⟩
  rw [← hw5] at hb5 l15 l25 ⊢
  clear hw5
  have c0 := l15.cell 0
  have c1 := l15.cell 1
  have d0 := l25.cell 0
  have d1 := l25.cell 1
  have hq := equal_self w5 ⟨g, 0, none⟩
  try simp only [Act.put, List.setIfInBounds_toArray, List.set_cons_zero, List.set_cons_succ]
  refine wpAnyH_done (by kernel_rfl) ?_ _
  have HB5 := Lib.hid hb5
  clear l15 l25 hb5
  go_wp2
  go_ret
  exact ⟨rfl, HB5.out⟩
end Go.Proofs.YtkdjmobplknmgaaDoor
