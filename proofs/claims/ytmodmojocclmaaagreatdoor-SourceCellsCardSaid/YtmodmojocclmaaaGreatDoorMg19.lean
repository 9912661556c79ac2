/- The machine of package source: what is told of a run. -/
import Derived.Test.YtmodmojocclmaaaGreatDoorMg06
import Derived.Test.YtmodmojocclmaaaGreatDoorSoAi
import Derived.Laws.Rows
import Derived.Laws.Tables
import Derived.Deep.WholeRow
import Derived.Great.BuildSlice
namespace Go.Proofs.YtmodmojocclmaaaGreatDoor.K
open Go Go.RowKit
namespace So

theorem lies_setRow' {w : World} {g : Nat} {t : TypeId} {cs : Array Value} (h : Lies w g t cs) (cs' : Array Value) : Lies (w.setRow g cs') g t cs' := by
 unfold Lies at h ⊢
 simp only [World.setRow, Array.getElem?_modify, if_true, h]
 rfl
theorem heap_setRow' (w : World) (g : Nat) (cs : Array Value) (k : Nat) (h : k ≠ g) : (w.setRow g cs).heap[k]? = w.heap[k]? := by
 simp only [World.setRow, Array.getElem?_modify]
 rw [if_neg (by omega)]
theorem size_setRow' (w : World) (g : Nat) (cs : Array Value) : (w.setRow g cs).heap.size = w.heap.size := by simp [World.setRow]
theorem below_setRow' {B : Nat} {a w : World} (h : Below B a w) {g : Nat} (hg : B ≤ g) (cs : Array Value) : Below B a (w.setRow g cs) :=
 h.trans ⟨rfl, rfl, rfl, by rw [size_setRow']; exact Nat.le_refl _, fun k hk => heap_setRow' _ _ _ _ (by omega)⟩
def runL (out k n : Int) (tv : Value) (st ko : Nat) : Array Value := #[.int .i64 out, .int .i64 k, .int .i64 n, .string ⟨#[]⟩, .slice none 0 0, tv, .int .i64 (st : Int), .int .i64 (ko : Int)]
theorem szRun : (Tryz.prog.info? 42).map (·.size) = some 8 := by kernel_rfl
def ToldEnd (s : St) (k n : Int) (w : World) (e : Ending) (w' : World) : Prop := ∃ tv, e = .returned (.agg (runL s.out k n tv s.steps s.konts)) ∧ w'.ownsRow w.heap.size 3 1 tv s.trace.length (s.trace.map (Value.int .i64 ·)) ∧ Below w.heap.size w w'
set_option maxRecDepth 100000 in
set_option maxHeartbeats 4000000 in
theorem told_any {w0 : World} {mb : Nat} {H : Mem} {s : St} {w : World} (h : MS w0 mb H s w) (hn : s.trace.length ≤ 1000000) (hv : s.out ≠ 1) : Calls Tryz.prog 18 #[pt mb] w (ToldEnd s 0 0 w) := by
 obtain ⟨tv, ev, v0, v1, v2, v3, fv, hvv, cv, iv, lv, h⟩ := h
 have hmw := h.lies.lt
 obtain ⟨W, hW⟩ : ∃ W, W = w.alloc (.cells #[.int .i64 0, .int .i64 0, .int .i64 0, .string ⟨#[]⟩, .slice none 0 0, .slice none 0 0, .int .i64 0, .int .i64 0] 42) := ⟨_, rfl⟩
 have hB0 : Below w.heap.size w W := by rw [hW]; exact below_new w _
 have hzW : W.heap.size = w.heap.size + 1 := by rw [hW]; simp
 have l2 : Lies W w.heap.size 42 #[.int .i64 0, .int .i64 0, .int .i64 0, .string ⟨#[]⟩, .slice none 0 0, .slice none 0 0, .int .i64 0, .int .i64 0] := by rw [hW]; exact Lies.new w _ _
 have hm : ∀ V, Below w.heap.size w V → Lies V mb 75 (mC tv ev v0 v1 v2 v3 fv hvv cv iv lv s.out s.steps s.konts) := fun V hV => (hV.block mb hmw).trans h.lies
 have hs : ∀ V, Below w.heap.size w V → V.cell? ⟨mb, 10, none⟩ = some lv ∧ V.cell? ⟨mb, 12, none⟩ = some (.int .i64 (s.steps : Int)) ∧ V.cell? ⟨mb, 13, none⟩ = some (.int .i64 (s.konts : Int)) := fun V hV => ⟨(hm V hV).cell 10, (hm V hV).cell 12, (hm V hV).cell 13⟩
 have hcl : ∀ V, Below w.heap.size w V → Calls Tryz.prog 23 #[lv] V fun e w' => ∃ v', e = .returned v' ∧ w'.ownsRow V.heap.size 3 1 v' s.trace.length (s.trace.map (Value.int .i64 ·)) ∧ Below V.heap.size V w' := fun V hV => by
  have ho := own_later h.core.ts.1 hV
  have := clone_any V (mb + 1) lv (s.trace.map (Value.int .i64 ·)) (by simpa using ho) (fun q hq => by simp at hq; obtain ⟨a, _, rfl⟩ := hq; rfl) (by simp; omega)
  simpa using this
 have HM := Lib.hid hm
 have HS := Lib.hid hs
 have HCL := Lib.hid hcl
 have HB0 := Lib.hid hB0
 have HZW := Lib.hid hzW
 have L2 := Lib.hid l2
 have HW := Lib.hid hW
 have HNE := Lib.hid hv
 obtain ⟨AX, nX, cX, rfl⟩ := own_slice h.core.ts.1
 clear h hm hs hcl hB0 hzW l2 hW hv
 unfold pt at *
 go_enter Tryz.func18, Tryz.ntmps18
 go_wp2_with fail
 rw [← HW.out]
 refine wp_region_held_drew (S := fun VV => VV.cell? ⟨mb, 10, none⟩ = some (.slice AX nX cX) ∧ VV.cell? ⟨mb, 12, none⟩ = some (.int .i64 (s.steps : Int)) ∧ VV.cell? ⟨mb, 13, none⟩ = some (.int .i64 (s.konts : Int))) (by kernel_rfl) ?_ (fun hHeld => ?_)
 ·exact HS.out _ HB0.out.drew
 refine tkH 0 4 rfl ?_
 try simp only [Act.put, s1, s2, s3]
 refine tkH 1 5 rfl ?_
 try simp only [Act.put, s1, s2, s3]
 refine tkH 2 6 rfl ?_
 try simp only [Act.put, s1, s2, s3]
 refine tkH 3 7 rfl ?_
 try simp only [Act.put, s1, s2, s3]
 refine tkH 5 9 rfl ?_
 try simp only [Act.put, s1, s2, s3]
 refine tkH 6 10 rfl ?_
 try simp only [Act.put, s1, s2, s3]
 refine tkH 7 11 rfl ?_
 try simp only [Act.put, s1, s2, s3]
 refine tkH 8 12 rfl ?_
 try simp only [Act.put, s1, s2, s3]
 refine tkH 9 13 rfl ?_
 try simp only [Act.put, s1, s2, s3]
 refine tkH 10 14 rfl ?_
 try simp only [Act.put, s1, s2, s3]
 refine tkH 11 15 rfl ?_
 try simp only [Act.put, s1, s2, s3]
 refine tkH 12 16 rfl ?_
 try simp only [Act.put, s1, s2, s3]
 refine wpAnyH_ready (rs := [4, 14]) (by kernel_rfl) (by simp) ?_
 refine AllReadyH.cons (o := ⟨some 8, _, _, _, _, _⟩) rfl (fun K hK => ?_) (AllReadyH.cons (o := ⟨some 3, _, _, _, _, _⟩) rfl (fun K hK => ?_) AllReadyH.nil)
 ·go_simp
  refine (HCL.out _ HB0.out.drew).mono ?_
  rintro e w3 ⟨tr, rfl, ho3, hb3⟩
  obtain ⟨TA, tn, tc, rfl⟩ := own_slice ho3
  have HO3 := Lib.hid ho3
  have HB3 := Lib.hid hb3
  clear ho3 hb3
  (try dsimp only)
  refine hK.out _ _ ?_ (fun hHeld => ?_)
  ·exact HS.out _ (HB0.out.drew.trans (HB3.out.mono (by have := HZW.out; simp; omega)))
  clear hK K
  try simp only [Act.put, s1, s2, s3]
  refine tkH 13 17 rfl ?_
  try simp only [Act.put, s1, s2, s3]
  refine rd1 14 (some 3) rfl fun K hK => ?_
  go_simp
  refine hK.out _ _ ?_ (fun hHeld => ?_)
  ·exact HS.out _ ((HB0.out.drew.trans (HB3.out.mono (by have := HZW.out; simp; omega))).alloc (by have := HB3.out.size; have := HZW.out; simp at *; omega) _)
  clear hK K
  try simp only [Act.put, s1, s2, s3]
  refine rd1 15 none rfl fun K hK => ?_
  go_simp
  refine hK.out _ _ ?_ (fun hHeld => ?_)
  ·exact HS.out _ ((HB0.out.drew.trans (HB3.out.mono (by have := HZW.out; simp; omega))).alloc (by have := HB3.out.size; have := HZW.out; simp at *; omega) _)
  clear hK K
  try simp only [Act.put, s1, s2, s3]
  refine wpAnyH_done (by kernel_rfl) ?_ _
  obtain ⟨w5, hw5⟩ : ∃ w5, w5 = w3.alloc (.cells #[.int .i64 0, .int .i64 0, .int .i64 0, .string ⟨#[]⟩, .slice none 0 0, .slice TA tn tc, .int .i64 (s.steps : Int), .int .i64 (s.konts : Int)] 42) := ⟨_, rfl⟩
  rw [← hw5]
  obtain ⟨tb, htb⟩ : ∃ tb, tb = w3.heap.size := ⟨_, rfl⟩
  rw [← htb]
  have hz3 : W.heap.size ≤ w3.heap.size := HB3.out.size
  have hzW := HZW.out
  have B3 : Below w.heap.size w w3 := HB0.out.drew.trans (HB3.out.mono (by show w.heap.size ≤ W.heap.size; omega))
  have B5 : Below w.heap.size w w5 := by rw [hw5]; exact B3.alloc (by omega) _
  have L5 : Lies w5 tb 42 #[.int .i64 0, .int .i64 0, .int .i64 0, .string ⟨#[]⟩, .slice none 0 0, .slice TA tn tc, .int .i64 (s.steps : Int), .int .i64 (s.konts : Int)] := by rw [hw5, htb]; exact Lies.new w3 _ _
  have l3 : Lies w3 w.heap.size 42 #[.int .i64 0, .int .i64 0, .int .i64 0, .string ⟨#[]⟩, .slice none 0 0, .slice none 0 0, .int .i64 0, .int .i64 0] := (HB3.out.block _ (by show w.heap.size < W.heap.size; omega)).trans L2.out
  have l5 : Lies w5 w.heap.size 42 #[.int .i64 0, .int .i64 0, .int .i64 0, .string ⟨#[]⟩, .slice none 0 0, .slice none 0 0, .int .i64 0, .int .i64 0] := by rw [hw5]; exact l3.alloc _
  have hfin : ∀ V : World, (∀ g, g ≠ tb → g ≠ w.heap.size → V.heap[g]? = w5.heap[g]?) → V.ownsRow w.heap.size 3 1 (.slice TA tn tc) s.trace.length (s.trace.map (Value.int .i64 ·)) := fun V hV => own_mono (own_same HO3.out (fun g (h1 : W.heap.size ≤ g) h2 => (hV g (by omega) (by omega)).trans (by rw [hw5]; exact Below.heap_alloc w3 _ g h2))) (by show w.heap.size ≤ W.heap.size; omega)
  have htl : w.heap.size < tb := by omega
  clear hw5 l3 B3 htb hzW hz3
  
  have m5 := HM.out w5 B5
  have x0 : w5.cell? ⟨tb, 0, none⟩ = some (.int .i64 0) := L5.cell 0
  have g0 := L5.free 0
  have y11 : w5.cell? ⟨mb, 11, none⟩ = some (.int .i64 s.out) := m5.cell 11
  have m6 := HM.out (w5.setCell ⟨tb, 0, none⟩ (.int .i64 s.out)) (B5.setCell (p := ⟨tb, 0, none⟩) (by show w.heap.size ≤ tb; omega) _)
  have y12 : (w5.setCell ⟨tb, 0, none⟩ (.int .i64 s.out)).cell? ⟨mb, 11, none⟩ = some (.int .i64 s.out) := m6.cell 11
  have L6 : Lies (w5.setCell ⟨tb, 0, none⟩ (.int .i64 s.out)) tb 42 #[.int .i64 s.out, .int .i64 0, .int .i64 0, .string ⟨#[]⟩, .slice none 0 0, .slice TA tn tc, .int .i64 (s.steps : Int), .int .i64 (s.konts : Int)] := L5.set 0 _
  have l6 : Lies (w5.setCell ⟨tb, 0, none⟩ (.int .i64 s.out)) w.heap.size 42 #[.int .i64 0, .int .i64 0, .int .i64 0, .string ⟨#[]⟩, .slice none 0 0, .slice none 0 0, .int .i64 0, .int .i64 0] := l5.far (p := ⟨tb, 0, none⟩) (by show w.heap.size ≠ tb; omega) _
  have hd : (s.out == 1) = false := by rw [beq_eq_false_iff_ne]; exact HNE.out
  have hrow : ((runL s.out 0 0 (.slice TA tn tc) s.steps s.konts).all fun x => x.oneCell') = true := by simp [runL, Value.oneCell']
  have hszr : (Tryz.prog.info? 42).map (·.size) = some (runL s.out 0 0 (.slice TA tn tc) s.steps s.konts).size := szRun
  have hf1 : (w5.setCell ⟨tb, 0, none⟩ (.int .i64 s.out)).heap[w.heap.size]? = w5.heap[w.heap.size]? := Below.heap_setCell w5 ⟨tb, 0, none⟩ _ w.heap.size (by show w.heap.size ≠ tb; omega)
  have HF7 := Lib.hid (hfin ((w5.setCell ⟨tb, 0, none⟩ (.int .i64 s.out)).setRow w.heap.size (runL s.out 0 0 (.slice TA tn tc) s.steps s.konts)) (fun g h1 h2 => (heap_setRow' _ _ _ g h2).trans (Below.heap_setCell w5 ⟨tb, 0, none⟩ _ g h1)))
  have HB7 := Lib.hid (below_setRow' (B5.setCell (p := ⟨tb, 0, none⟩) (by show w.heap.size ≤ tb; omega) (.int .i64 s.out)) (Nat.le_refl w.heap.size) (runL s.out 0 0 (.slice TA tn tc) s.steps s.konts))
  have HL7 := Lib.hid (lies_setRow' l6 (runL s.out 0 0 (.slice TA tn tc) s.steps s.konts))
  have L6r : Lies (w5.setCell ⟨tb, 0, none⟩ (.int .i64 s.out)) tb 42 (runL s.out 0 0 (.slice TA tn tc) s.steps s.konts) := L6
  have HL6 := Lib.hid L6r
  have Hl6 := Lib.hid l6
  have HRW := Lib.hid hrow
  have HSZ := Lib.hid hszr
  clear L5 m5 m6 L6 L6r l6 l5 B5 hfin hrow hszr hf1
  go_wp2_with (first | (refine wpList_load_row rfl 42 (.tmp 3) rfl tb rfl 42 (runL s.out 0 0 (.slice TA tn tc) s.steps s.konts) (0, 0) _ HL6.out Tryz.underlying42 rfl HSZ.out ?_) | (refine wpList_store_rowTo rfl 42 (.tmp 2) (.tmp 36) rfl rfl w.heap.size (runL s.out 0 0 (.slice TA tn tc) s.steps s.konts) rfl rfl 42 _ Hl6.out HSZ.out rfl HRW.out ?_))
  
  refine bodyPost_ret (v := .agg (runL s.out 0 0 (.slice TA tn tc) s.steps s.konts)) (results_cell_row rfl _ _ w.heap.size 42 _ (0, 0) _ rfl HL7.out Tryz.underlying42 rfl szRun) rfl ?_
  exact ⟨_, rfl, HF7.out, HB7.out⟩
 ·go_simp
  refine hK.out _ _ ?_ (fun hHeld => ?_)
  ·exact HS.out _ (HB0.out.drew.alloc (by have := HZW.out; simp; omega) _)
  clear hK K
  try simp only [Act.put, s1, s2, s3]
  refine rd1 4 (some 8) rfl fun K hK => ?_
  go_simp
  refine (HCL.out _ (HB0.out.drew.alloc (by have := HZW.out; simp; omega) _)).mono ?_
  rintro e w3 ⟨tr, rfl, ho3, hb3⟩
  obtain ⟨TA, tn, tc, rfl⟩ := own_slice ho3
  have HO3 := Lib.hid ho3
  have HB3 := Lib.hid hb3
  clear ho3 hb3
  have lz : Lies w3 W.heap.size 42 #[.int .i64 0, .int .i64 0, .int .i64 0, .string ⟨#[]⟩, .slice none 0 0, .slice none 0 0, .int .i64 0, .int .i64 0] := (HB3.out.block _ (by simp)).trans (Lies.new W.drew _ _)
  have z0 : w3.cell? ⟨W.heap.size, 0, none⟩ = some (.int .i64 0) := lz.cell 0
  have f0 := lz.free 0
  have z1 : w3.cell? ⟨W.heap.size, 1, none⟩ = some (.int .i64 0) := lz.cell 1
  have f1 := lz.free 1
  have z2 : w3.cell? ⟨W.heap.size, 2, none⟩ = some (.int .i64 0) := lz.cell 2
  have f2 := lz.free 2
  have z3 : w3.cell? ⟨W.heap.size, 3, none⟩ = some (.string ⟨#[]⟩) := lz.cell 3
  have f3 := lz.free 3
  have z4 : w3.cell? ⟨W.heap.size, 4, none⟩ = some (.slice none 0 0) := lz.cell 4
  have f4 := lz.free 4
  have z5 : w3.cell? ⟨W.heap.size, 5, none⟩ = some (.slice none 0 0) := lz.cell 5
  have f5 := lz.free 5
  have z6 : w3.cell? ⟨W.heap.size, 6, none⟩ = some (.int .i64 0) := lz.cell 6
  have f6 := lz.free 6
  have z7 : w3.cell? ⟨W.heap.size, 7, none⟩ = some (.int .i64 0) := lz.cell 7
  have f7 := lz.free 7
  have LZ := Lib.hid lz
  clear lz
  (try dsimp only)
  refine hK.out _ _ ?_ (fun hHeld => ?_)
  ·exact HS.out _ ((HB0.out.drew.alloc (by have := HZW.out; simp; omega) _).trans (HB3.out.mono (by have := HZW.out; simp; omega)))
  clear hK K
  try simp only [Act.put, s1, s2, s3]
  refine tkH 13 17 rfl ?_
  try simp only [Act.put, s1, s2, s3]
  refine rd1 15 none rfl fun K hK => ?_
  go_simp
  refine hK.out _ _ ?_ (fun hHeld => ?_)
  ·exact HS.out _ ((((((((((HB0.out.drew.alloc (by have := HZW.out; simp; omega) _).trans (HB3.out.mono (by have := HZW.out; simp; omega))).setCell (p := ⟨W.heap.size, 0, none⟩) (by show w.heap.size ≤ W.heap.size; have := HZW.out; omega) _).setCell (p := ⟨W.heap.size, 1, none⟩) (by show w.heap.size ≤ W.heap.size; have := HZW.out; omega) _).setCell (p := ⟨W.heap.size, 2, none⟩) (by show w.heap.size ≤ W.heap.size; have := HZW.out; omega) _).setCell (p := ⟨W.heap.size, 3, none⟩) (by show w.heap.size ≤ W.heap.size; have := HZW.out; omega) _).setCell (p := ⟨W.heap.size, 4, none⟩) (by show w.heap.size ≤ W.heap.size; have := HZW.out; omega) _).setCell (p := ⟨W.heap.size, 5, none⟩) (by show w.heap.size ≤ W.heap.size; have := HZW.out; omega) _).setCell (p := ⟨W.heap.size, 6, none⟩) (by show w.heap.size ≤ W.heap.size; have := HZW.out; omega) _).setCell (p := ⟨W.heap.size, 7, none⟩) (by show w.heap.size ≤ W.heap.size; have := HZW.out; omega) _)
  clear hK K
  try simp only [Act.put, s1, s2, s3]
  refine wpAnyH_done (by kernel_rfl) ?_ _
  obtain ⟨w5, hw5⟩ : ∃ w5, w5 = ((((((((w3.setCell ⟨W.heap.size, 0, none⟩ (.int .i64 0)).setCell ⟨W.heap.size, 1, none⟩ (.int .i64 0)).setCell ⟨W.heap.size, 2, none⟩ (.int .i64 0)).setCell ⟨W.heap.size, 3, none⟩ (.string ⟨#[]⟩)).setCell ⟨W.heap.size, 4, none⟩ (.slice none 0 0)).setCell ⟨W.heap.size, 5, none⟩ (.slice TA tn tc)).setCell ⟨W.heap.size, 6, none⟩ (.int .i64 (s.steps : Int))).setCell ⟨W.heap.size, 7, none⟩ (.int .i64 (s.konts : Int))) := ⟨_, rfl⟩
  rw [← hw5]
  obtain ⟨tb, htb⟩ : ∃ tb, tb = W.heap.size := ⟨_, rfl⟩
  rw [← htb] at hw5 ⊢
  have hz3 : W.heap.size + 1 ≤ w3.heap.size := by have := HB3.out.size; simpa using this
  have hzW := HZW.out
  have B3 : Below w.heap.size w w3 := ((HB0.out.drew.alloc (by have := HZW.out; simp; omega) _).trans (HB3.out.mono (by have := HZW.out; simp; omega)))
  have B5 : Below w.heap.size w w5 := by rw [hw5]; exact ((((((((B3.setCell (p := ⟨tb, 0, none⟩) (by show w.heap.size ≤ tb; omega) (.int .i64 0)).setCell (p := ⟨tb, 1, none⟩) (by show w.heap.size ≤ tb; omega) (.int .i64 0)).setCell (p := ⟨tb, 2, none⟩) (by show w.heap.size ≤ tb; omega) (.int .i64 0)).setCell (p := ⟨tb, 3, none⟩) (by show w.heap.size ≤ tb; omega) (.string ⟨#[]⟩)).setCell (p := ⟨tb, 4, none⟩) (by show w.heap.size ≤ tb; omega) (.slice none 0 0)).setCell (p := ⟨tb, 5, none⟩) (by show w.heap.size ≤ tb; omega) (.slice TA tn tc)).setCell (p := ⟨tb, 6, none⟩) (by show w.heap.size ≤ tb; omega) (.int .i64 (s.steps : Int))).setCell (p := ⟨tb, 7, none⟩) (by show w.heap.size ≤ tb; omega) (.int .i64 (s.konts : Int)))
  have lz := LZ.out
  rw [← htb] at lz
  have L5 : Lies w5 tb 42 #[.int .i64 0, .int .i64 0, .int .i64 0, .string ⟨#[]⟩, .slice none 0 0, .slice TA tn tc, .int .i64 (s.steps : Int), .int .i64 (s.konts : Int)] := by rw [hw5]; exact ((((((((lz.set 0 _).set 1 _).set 2 _).set 3 _).set 4 _).set 5 _).set 6 _).set 7 _)
  have l3 : Lies w3 w.heap.size 42 #[.int .i64 0, .int .i64 0, .int .i64 0, .string ⟨#[]⟩, .slice none 0 0, .slice none 0 0, .int .i64 0, .int .i64 0] := (HB3.out.block _ (by simp; omega)).trans (L2.out.alloc _)
  have h35 : ∀ g, g ≠ tb → w5.heap[g]? = w3.heap[g]? := fun g h1 => by rw [hw5]; exact ((Below.heap_setCell (((((((w3.setCell ⟨tb, 0, none⟩ (.int .i64 0)).setCell ⟨tb, 1, none⟩ (.int .i64 0)).setCell ⟨tb, 2, none⟩ (.int .i64 0)).setCell ⟨tb, 3, none⟩ (.string ⟨#[]⟩)).setCell ⟨tb, 4, none⟩ (.slice none 0 0)).setCell ⟨tb, 5, none⟩ (.slice TA tn tc)).setCell ⟨tb, 6, none⟩ (.int .i64 (s.steps : Int))) ⟨tb, 7, none⟩ _ g h1).trans ((Below.heap_setCell ((((((w3.setCell ⟨tb, 0, none⟩ (.int .i64 0)).setCell ⟨tb, 1, none⟩ (.int .i64 0)).setCell ⟨tb, 2, none⟩ (.int .i64 0)).setCell ⟨tb, 3, none⟩ (.string ⟨#[]⟩)).setCell ⟨tb, 4, none⟩ (.slice none 0 0)).setCell ⟨tb, 5, none⟩ (.slice TA tn tc)) ⟨tb, 6, none⟩ _ g h1).trans ((Below.heap_setCell (((((w3.setCell ⟨tb, 0, none⟩ (.int .i64 0)).setCell ⟨tb, 1, none⟩ (.int .i64 0)).setCell ⟨tb, 2, none⟩ (.int .i64 0)).setCell ⟨tb, 3, none⟩ (.string ⟨#[]⟩)).setCell ⟨tb, 4, none⟩ (.slice none 0 0)) ⟨tb, 5, none⟩ _ g h1).trans ((Below.heap_setCell ((((w3.setCell ⟨tb, 0, none⟩ (.int .i64 0)).setCell ⟨tb, 1, none⟩ (.int .i64 0)).setCell ⟨tb, 2, none⟩ (.int .i64 0)).setCell ⟨tb, 3, none⟩ (.string ⟨#[]⟩)) ⟨tb, 4, none⟩ _ g h1).trans ((Below.heap_setCell (((w3.setCell ⟨tb, 0, none⟩ (.int .i64 0)).setCell ⟨tb, 1, none⟩ (.int .i64 0)).setCell ⟨tb, 2, none⟩ (.int .i64 0)) ⟨tb, 3, none⟩ _ g h1).trans ((Below.heap_setCell ((w3.setCell ⟨tb, 0, none⟩ (.int .i64 0)).setCell ⟨tb, 1, none⟩ (.int .i64 0)) ⟨tb, 2, none⟩ _ g h1).trans ((Below.heap_setCell (w3.setCell ⟨tb, 0, none⟩ (.int .i64 0)) ⟨tb, 1, none⟩ _ g h1).trans (Below.heap_setCell w3 ⟨tb, 0, none⟩ _ g h1))))))))
  have l5 : Lies w5 w.heap.size 42 #[.int .i64 0, .int .i64 0, .int .i64 0, .string ⟨#[]⟩, .slice none 0 0, .slice none 0 0, .int .i64 0, .int .i64 0] := (h35 _ (by omega)).trans l3
  have ho3 := HO3.out
  have hzz : (W.drew.alloc (.cells #[.int .i64 0, .int .i64 0, .int .i64 0, .string ⟨#[]⟩, .slice none 0 0, .slice none 0 0, .int .i64 0, .int .i64 0] 42)).heap.size = W.heap.size + 1 := by simp
  rw [hzz] at ho3
  have hfin : ∀ V : World, (∀ g, g ≠ tb → g ≠ w.heap.size → V.heap[g]? = w5.heap[g]?) → V.ownsRow w.heap.size 3 1 (.slice TA tn tc) s.trace.length (s.trace.map (Value.int .i64 ·)) := fun V hV => own_mono (own_same ho3 (fun g h1 h2 => (hV g (by omega) (by omega)).trans (h35 g (by omega)))) (by omega)
  have htl : w.heap.size < tb := by omega
  clear hw5 l3 B3 lz h35 ho3 hzz htb hzW hz3
  
  have m5 := HM.out w5 B5
  have x0 : w5.cell? ⟨tb, 0, none⟩ = some (.int .i64 0) := L5.cell 0
  have g0 := L5.free 0
  have y11 : w5.cell? ⟨mb, 11, none⟩ = some (.int .i64 s.out) := m5.cell 11
  have m6 := HM.out (w5.setCell ⟨tb, 0, none⟩ (.int .i64 s.out)) (B5.setCell (p := ⟨tb, 0, none⟩) (by show w.heap.size ≤ tb; omega) _)
  have y12 : (w5.setCell ⟨tb, 0, none⟩ (.int .i64 s.out)).cell? ⟨mb, 11, none⟩ = some (.int .i64 s.out) := m6.cell 11
  have L6 : Lies (w5.setCell ⟨tb, 0, none⟩ (.int .i64 s.out)) tb 42 #[.int .i64 s.out, .int .i64 0, .int .i64 0, .string ⟨#[]⟩, .slice none 0 0, .slice TA tn tc, .int .i64 (s.steps : Int), .int .i64 (s.konts : Int)] := L5.set 0 _
  have l6 : Lies (w5.setCell ⟨tb, 0, none⟩ (.int .i64 s.out)) w.heap.size 42 #[.int .i64 0, .int .i64 0, .int .i64 0, .string ⟨#[]⟩, .slice none 0 0, .slice none 0 0, .int .i64 0, .int .i64 0] := l5.far (p := ⟨tb, 0, none⟩) (by show w.heap.size ≠ tb; omega) _
  have hd : (s.out == 1) = false := by rw [beq_eq_false_iff_ne]; exact HNE.out
  have hrow : ((runL s.out 0 0 (.slice TA tn tc) s.steps s.konts).all fun x => x.oneCell') = true := by simp [runL, Value.oneCell']
  have hszr : (Tryz.prog.info? 42).map (·.size) = some (runL s.out 0 0 (.slice TA tn tc) s.steps s.konts).size := szRun
  have hf1 : (w5.setCell ⟨tb, 0, none⟩ (.int .i64 s.out)).heap[w.heap.size]? = w5.heap[w.heap.size]? := Below.heap_setCell w5 ⟨tb, 0, none⟩ _ w.heap.size (by show w.heap.size ≠ tb; omega)
  have HF7 := Lib.hid (hfin ((w5.setCell ⟨tb, 0, none⟩ (.int .i64 s.out)).setRow w.heap.size (runL s.out 0 0 (.slice TA tn tc) s.steps s.konts)) (fun g h1 h2 => (heap_setRow' _ _ _ g h2).trans (Below.heap_setCell w5 ⟨tb, 0, none⟩ _ g h1)))
  have HB7 := Lib.hid (below_setRow' (B5.setCell (p := ⟨tb, 0, none⟩) (by show w.heap.size ≤ tb; omega) (.int .i64 s.out)) (Nat.le_refl w.heap.size) (runL s.out 0 0 (.slice TA tn tc) s.steps s.konts))
  have HL7 := Lib.hid (lies_setRow' l6 (runL s.out 0 0 (.slice TA tn tc) s.steps s.konts))
  have L6r : Lies (w5.setCell ⟨tb, 0, none⟩ (.int .i64 s.out)) tb 42 (runL s.out 0 0 (.slice TA tn tc) s.steps s.konts) := L6
  have HL6 := Lib.hid L6r
  have Hl6 := Lib.hid l6
  have HRW := Lib.hid hrow
  have HSZ := Lib.hid hszr
  clear L5 m5 m6 L6 L6r l6 l5 B5 hfin hrow hszr hf1
  go_wp2_with (first | (refine wpList_load_row rfl 42 (.tmp 3) rfl tb rfl 42 (runL s.out 0 0 (.slice TA tn tc) s.steps s.konts) (0, 0) _ HL6.out Tryz.underlying42 rfl HSZ.out ?_) | (refine wpList_store_rowTo rfl 42 (.tmp 2) (.tmp 36) rfl rfl w.heap.size (runL s.out 0 0 (.slice TA tn tc) s.steps s.konts) rfl rfl 42 _ Hl6.out HSZ.out rfl HRW.out ?_))
  
  refine bodyPost_ret (v := .agg (runL s.out 0 0 (.slice TA tn tc) s.steps s.konts)) (results_cell_row rfl _ _ w.heap.size 42 _ (0, 0) _ rfl HL7.out Tryz.underlying42 rfl szRun) rfl ?_
  exact ⟨_, rfl, HF7.out, HB7.out⟩
end So
end Go.Proofs.YtmodmojocclmaaaGreatDoor.K

/- The machine of package source: what is told of a run that ended with a value. -/
namespace Go.Proofs.YtmodmojocclmaaaGreatDoor.K
open Go Go.RowKit
namespace So

set_option maxRecDepth 100000 in
set_option maxHeartbeats 4000000 in
theorem told_val {w0 : World} {mb : Nat} {H : Mem} {s : St} {w : World} (h : MS w0 mb H s w) (hn : s.trace.length ≤ 1000000) {k n : Int} (ho : s.out = 1) (ha : s.at_ = none) (hval : s.val = .lit k n) : Calls Tryz.prog 18 #[pt mb] w (ToldEnd s k n w) := by
 obtain ⟨tv, ev, v0, v1, v2, v3, fv, hvv, cv, iv, lv, h⟩ := h
 have hmw := h.lies.lt
 have hat := h.at_
 rw [ha, hval] at hat
 obtain ⟨_, hvv2⟩ := hat
 obtain ⟨rfl, rfl, rfl, rfl⟩ : v0 = .int .i64 k ∧ v1 = .int .i64 n ∧ v2 = .pointer none ∧ v3 = .nilIface := by
  cases hvv2
  exact ⟨rfl, rfl, rfl, rfl⟩
 obtain ⟨W, hW⟩ : ∃ W, W = w.alloc (.cells #[.int .i64 0, .int .i64 0, .int .i64 0, .string ⟨#[]⟩, .slice none 0 0, .slice none 0 0, .int .i64 0, .int .i64 0] 42) := ⟨_, rfl⟩
 have hB0 : Below w.heap.size w W := by rw [hW]; exact below_new w _
 have hzW : W.heap.size = w.heap.size + 1 := by rw [hW]; simp
 have l2 : Lies W w.heap.size 42 #[.int .i64 0, .int .i64 0, .int .i64 0, .string ⟨#[]⟩, .slice none 0 0, .slice none 0 0, .int .i64 0, .int .i64 0] := by rw [hW]; exact Lies.new w _ _
 have hm : ∀ V, Below w.heap.size w V → Lies V mb 75 (mC tv ev (.int .i64 k) (.int .i64 n) (.pointer none) .nilIface fv hvv cv iv lv s.out s.steps s.konts) := fun V hV => (hV.block mb hmw).trans h.lies
 have hs : ∀ V, Below w.heap.size w V → V.cell? ⟨mb, 10, none⟩ = some lv ∧ V.cell? ⟨mb, 12, none⟩ = some (.int .i64 (s.steps : Int)) ∧ V.cell? ⟨mb, 13, none⟩ = some (.int .i64 (s.konts : Int)) := fun V hV => ⟨(hm V hV).cell 10, (hm V hV).cell 12, (hm V hV).cell 13⟩
 have hcl : ∀ V, Below w.heap.size w V → Calls Tryz.prog 23 #[lv] V fun e w' => ∃ v', e = .returned v' ∧ w'.ownsRow V.heap.size 3 1 v' s.trace.length (s.trace.map (Value.int .i64 ·)) ∧ Below V.heap.size V w' := fun V hV => by
  have ho := own_later h.core.ts.1 hV
  have := clone_any V (mb + 1) lv (s.trace.map (Value.int .i64 ·)) (by simpa using ho) (fun q hq => by simp at hq; obtain ⟨a, _, rfl⟩ := hq; rfl) (by simp; omega)
  simpa using this
 have HM := Lib.hid hm
 have HS := Lib.hid hs
 have HCL := Lib.hid hcl
 have HB0 := Lib.hid hB0
 have HZW := Lib.hid hzW
 have L2 := Lib.hid l2
 have HW := Lib.hid hW
 have HNE := Lib.hid ho
 obtain ⟨AX, nX, cX, rfl⟩ := own_slice h.core.ts.1
 clear h hm hs hcl hB0 hzW l2 hW ho ha hval hvv2
 unfold pt at *
 go_enter Tryz.func18, Tryz.ntmps18
 go_wp2_with fail
 rw [← HW.out]
 refine wp_region_held_drew (S := fun VV => VV.cell? ⟨mb, 10, none⟩ = some (.slice AX nX cX) ∧ VV.cell? ⟨mb, 12, none⟩ = some (.int .i64 (s.steps : Int)) ∧ VV.cell? ⟨mb, 13, none⟩ = some (.int .i64 (s.konts : Int))) (by kernel_rfl) ?_ (fun hHeld => ?_)
 ·exact HS.out _ HB0.out.drew
 refine tkH 0 4 rfl ?_
 try simp only [Act.put, s1, s2, s3]
 refine tkH 1 5 rfl ?_
 try simp only [Act.put, s1, s2, s3]
 refine tkH 2 6 rfl ?_
 try simp only [Act.put, s1, s2, s3]
 refine tkH 3 7 rfl ?_
 try simp only [Act.put, s1, s2, s3]
 refine tkH 5 9 rfl ?_
 try simp only [Act.put, s1, s2, s3]
 refine tkH 6 10 rfl ?_
 try simp only [Act.put, s1, s2, s3]
 refine tkH 7 11 rfl ?_
 try simp only [Act.put, s1, s2, s3]
 refine tkH 8 12 rfl ?_
 try simp only [Act.put, s1, s2, s3]
 refine tkH 9 13 rfl ?_
 try simp only [Act.put, s1, s2, s3]
 refine tkH 10 14 rfl ?_
 try simp only [Act.put, s1, s2, s3]
 refine tkH 11 15 rfl ?_
 try simp only [Act.put, s1, s2, s3]
 refine tkH 12 16 rfl ?_
 try simp only [Act.put, s1, s2, s3]
 refine wpAnyH_ready (rs := [4, 14]) (by kernel_rfl) (by simp) ?_
 refine AllReadyH.cons (o := ⟨some 8, _, _, _, _, _⟩) rfl (fun K hK => ?_) (AllReadyH.cons (o := ⟨some 3, _, _, _, _, _⟩) rfl (fun K hK => ?_) AllReadyH.nil)
 ·go_simp
  refine (HCL.out _ HB0.out.drew).mono ?_
  rintro e w3 ⟨tr, rfl, ho3, hb3⟩
  obtain ⟨TA, tn, tc, rfl⟩ := own_slice ho3
  have HO3 := Lib.hid ho3
  have HB3 := Lib.hid hb3
  clear ho3 hb3
  (try dsimp only)
  refine hK.out _ _ ?_ (fun hHeld => ?_)
  ·exact HS.out _ (HB0.out.drew.trans (HB3.out.mono (by have := HZW.out; simp; omega)))
  clear hK K
  try simp only [Act.put, s1, s2, s3]
  refine tkH 13 17 rfl ?_
  try simp only [Act.put, s1, s2, s3]
  refine rd1 14 (some 3) rfl fun K hK => ?_
  go_simp
  refine hK.out _ _ ?_ (fun hHeld => ?_)
  ·exact HS.out _ ((HB0.out.drew.trans (HB3.out.mono (by have := HZW.out; simp; omega))).alloc (by have := HB3.out.size; have := HZW.out; simp at *; omega) _)
  clear hK K
  try simp only [Act.put, s1, s2, s3]
  refine rd1 15 none rfl fun K hK => ?_
  go_simp
  refine hK.out _ _ ?_ (fun hHeld => ?_)
  ·exact HS.out _ ((HB0.out.drew.trans (HB3.out.mono (by have := HZW.out; simp; omega))).alloc (by have := HB3.out.size; have := HZW.out; simp at *; omega) _)
  clear hK K
  try simp only [Act.put, s1, s2, s3]
  refine wpAnyH_done (by kernel_rfl) ?_ _
  obtain ⟨w5, hw5⟩ : ∃ w5, w5 = w3.alloc (.cells #[.int .i64 0, .int .i64 0, .int .i64 0, .string ⟨#[]⟩, .slice none 0 0, .slice TA tn tc, .int .i64 (s.steps : Int), .int .i64 (s.konts : Int)] 42) := ⟨_, rfl⟩
  rw [← hw5]
  obtain ⟨tb, htb⟩ : ∃ tb, tb = w3.heap.size := ⟨_, rfl⟩
  rw [← htb]
  have hz3 : W.heap.size ≤ w3.heap.size := HB3.out.size
  have hzW := HZW.out
  have B3 : Below w.heap.size w w3 := HB0.out.drew.trans (HB3.out.mono (by show w.heap.size ≤ W.heap.size; omega))
  have B5 : Below w.heap.size w w5 := by rw [hw5]; exact B3.alloc (by omega) _
  have L5 : Lies w5 tb 42 #[.int .i64 0, .int .i64 0, .int .i64 0, .string ⟨#[]⟩, .slice none 0 0, .slice TA tn tc, .int .i64 (s.steps : Int), .int .i64 (s.konts : Int)] := by rw [hw5, htb]; exact Lies.new w3 _ _
  have l3 : Lies w3 w.heap.size 42 #[.int .i64 0, .int .i64 0, .int .i64 0, .string ⟨#[]⟩, .slice none 0 0, .slice none 0 0, .int .i64 0, .int .i64 0] := (HB3.out.block _ (by show w.heap.size < W.heap.size; omega)).trans L2.out
  have l5 : Lies w5 w.heap.size 42 #[.int .i64 0, .int .i64 0, .int .i64 0, .string ⟨#[]⟩, .slice none 0 0, .slice none 0 0, .int .i64 0, .int .i64 0] := by rw [hw5]; exact l3.alloc _
  have hfin : ∀ V w8 : World, Below (w5.setCell ⟨tb, 0, none⟩ (.int .i64 s.out)).heap.size (w5.setCell ⟨tb, 0, none⟩ (.int .i64 s.out)) w8 → (∀ g, g ≠ tb → g ≠ w.heap.size → V.heap[g]? = w8.heap[g]?) → V.ownsRow w.heap.size 3 1 (.slice TA tn tc) s.trace.length (s.trace.map (Value.int .i64 ·)) := fun V w8 hb8 hV => own_mono (own_same HO3.out (fun g (h1 : W.heap.size ≤ g) h2 => (hV g (by omega) (by omega)).trans ((hb8.block g (by rw [hw5]; simp; omega)).trans ((Below.heap_setCell w5 ⟨tb, 0, none⟩ _ g (by show g ≠ tb; omega)).trans (by rw [hw5]; exact Below.heap_alloc w3 _ g h2))))) (by show w.heap.size ≤ W.heap.size; omega)
  have htl : w.heap.size < tb := by omega
  clear hw5 l3 B3 htb hzW hz3
  
  have m5 := HM.out w5 B5
  have x0 : w5.cell? ⟨tb, 0, none⟩ = some (.int .i64 0) := L5.cell 0
  have g0 := L5.free 0
  have y11 : w5.cell? ⟨mb, 11, none⟩ = some (.int .i64 s.out) := m5.cell 11
  have m6 := HM.out (w5.setCell ⟨tb, 0, none⟩ (.int .i64 s.out)) (B5.setCell (p := ⟨tb, 0, none⟩) (by show w.heap.size ≤ tb; omega) _)
  have y12 : (w5.setCell ⟨tb, 0, none⟩ (.int .i64 s.out)).cell? ⟨mb, 11, none⟩ = some (.int .i64 s.out) := m6.cell 11
  have L6 : Lies (w5.setCell ⟨tb, 0, none⟩ (.int .i64 s.out)) tb 42 #[.int .i64 s.out, .int .i64 0, .int .i64 0, .string ⟨#[]⟩, .slice none 0 0, .slice TA tn tc, .int .i64 (s.steps : Int), .int .i64 (s.konts : Int)] := L5.set 0 _
  have l6 : Lies (w5.setCell ⟨tb, 0, none⟩ (.int .i64 s.out)) w.heap.size 42 #[.int .i64 0, .int .i64 0, .int .i64 0, .string ⟨#[]⟩, .slice none 0 0, .slice none 0 0, .int .i64 0, .int .i64 0] := l5.far (p := ⟨tb, 0, none⟩) (by show w.heap.size ≠ tb; omega) _
  have hd : (s.out == 1) = true := by rw [HNE.out]; rfl
  have p2 : (w5.setCell ⟨tb, 0, none⟩ (.int .i64 s.out)).cell? ⟨mb, 2, none⟩ = some (.int .i64 k) := m6.cell 2
  have p3 : (w5.setCell ⟨tb, 0, none⟩ (.int .i64 s.out)).cell? ⟨mb, 3, none⟩ = some (.int .i64 n) := m6.cell 3
  have p4 : (w5.setCell ⟨tb, 0, none⟩ (.int .i64 s.out)).cell? ⟨mb, 4, none⟩ = some (.pointer none) := m6.cell 4
  have p5 : (w5.setCell ⟨tb, 0, none⟩ (.int .i64 s.out)).cell? ⟨mb, 5, none⟩ = some .nilIface := m6.cell 5
  have htol := told_lit (w5.setCell ⟨tb, 0, none⟩ (.int .i64 s.out)) k n
  unfold litL vtL at htol
  have HTOL := Lib.hid htol
  have B6 := B5.setCell (p := ⟨tb, 0, none⟩) (by show w.heap.size ≤ tb; omega) (.int .i64 s.out)
  have HL6 := Lib.hid L6
  have Hl6 := Lib.hid l6
  have HB6 := Lib.hid B6
  have HFIN := Lib.hid hfin
  have htb5 : tb < (w5.setCell ⟨tb, 0, none⟩ (.int .i64 s.out)).heap.size := L6.lt
  clear L5 m5 m6 L6 l6 l5 B5 hfin htol B6
  go_wp2_with fail
  refine HTOL.out.mono ?_
  rintro e w8 ⟨rfl, hb8⟩
  have L8 : Lies w8 tb 42 #[.int .i64 s.out, .int .i64 0, .int .i64 0, .string ⟨#[]⟩, .slice none 0 0, .slice TA tn tc, .int .i64 (s.steps : Int), .int .i64 (s.konts : Int)] := (hb8.block _ htb5).trans HL6.out
  have l8 : Lies w8 w.heap.size 42 #[.int .i64 0, .int .i64 0, .int .i64 0, .string ⟨#[]⟩, .slice none 0 0, .slice none 0 0, .int .i64 0, .int .i64 0] := (hb8.block _ (by omega)).trans Hl6.out
  have B8 : Below w.heap.size w w8 := HB6.out.trans (hb8.mono (by omega))
  have t1 : w8.cell? ⟨tb, 1, none⟩ = some (.int .i64 0) := L8.cell 1
  have t2 : w8.cell? ⟨tb, 2, none⟩ = some (.int .i64 0) := L8.cell 2
  have t3 : w8.cell? ⟨tb, 3, none⟩ = some (.string ⟨#[]⟩) := L8.cell 3
  have t4 : w8.cell? ⟨tb, 4, none⟩ = some (.slice none 0 0) := L8.cell 4
  have s1 := L8.free 1
  have s2 := L8.free 2
  have s3 := L8.free 3
  have s4 := L8.free 4
  have L9 : Lies ((((w8.setCell ⟨tb, 1, none⟩ (.int .i64 k)).setCell ⟨tb, 2, none⟩ (.int .i64 n)).setCell ⟨tb, 3, none⟩ (.string ⟨#[]⟩)).setCell ⟨tb, 4, none⟩ (.slice none 0 0)) tb 42 (runL s.out k n (.slice TA tn tc) s.steps s.konts) := (((L8.set 1 _).set 2 _).set 3 _).set 4 _
  have h98 : ∀ g, g ≠ tb → ((((w8.setCell ⟨tb, 1, none⟩ (.int .i64 k)).setCell ⟨tb, 2, none⟩ (.int .i64 n)).setCell ⟨tb, 3, none⟩ (.string ⟨#[]⟩)).setCell ⟨tb, 4, none⟩ (.slice none 0 0)).heap[g]? = w8.heap[g]? := fun g h1 => (Below.heap_setCell _ ⟨tb, 4, none⟩ _ g h1).trans ((Below.heap_setCell _ ⟨tb, 3, none⟩ _ g h1).trans ((Below.heap_setCell _ ⟨tb, 2, none⟩ _ g h1).trans (Below.heap_setCell _ ⟨tb, 1, none⟩ _ g h1)))
  have l9 : Lies ((((w8.setCell ⟨tb, 1, none⟩ (.int .i64 k)).setCell ⟨tb, 2, none⟩ (.int .i64 n)).setCell ⟨tb, 3, none⟩ (.string ⟨#[]⟩)).setCell ⟨tb, 4, none⟩ (.slice none 0 0)) w.heap.size 42 #[.int .i64 0, .int .i64 0, .int .i64 0, .string ⟨#[]⟩, .slice none 0 0, .slice none 0 0, .int .i64 0, .int .i64 0] := (h98 _ (by omega)).trans l8
  have B9 := (((B8.setCell (p := ⟨tb, 1, none⟩) (by show w.heap.size ≤ tb; omega) (.int .i64 k)).setCell (p := ⟨tb, 2, none⟩) (by show w.heap.size ≤ tb; omega) (.int .i64 n)).setCell (p := ⟨tb, 3, none⟩) (by show w.heap.size ≤ tb; omega) (.string ⟨#[]⟩)).setCell (p := ⟨tb, 4, none⟩) (by show w.heap.size ≤ tb; omega) (.slice none 0 0)
  have hrow : ((runL s.out k n (.slice TA tn tc) s.steps s.konts).all fun x => x.oneCell') = true := by simp [runL, Value.oneCell']
  have hszr : (Tryz.prog.info? 42).map (·.size) = some (runL s.out k n (.slice TA tn tc) s.steps s.konts).size := szRun
  have HF7 := Lib.hid (HFIN.out (((((w8.setCell ⟨tb, 1, none⟩ (.int .i64 k)).setCell ⟨tb, 2, none⟩ (.int .i64 n)).setCell ⟨tb, 3, none⟩ (.string ⟨#[]⟩)).setCell ⟨tb, 4, none⟩ (.slice none 0 0)).setRow w.heap.size (runL s.out k n (.slice TA tn tc) s.steps s.konts)) w8 hb8 (fun g h1 h2 => (heap_setRow' _ _ _ g h2).trans (h98 g h1)))
  have HB7 := Lib.hid (below_setRow' B9 (Nat.le_refl w.heap.size) (runL s.out k n (.slice TA tn tc) s.steps s.konts))
  have HL7 := Lib.hid (lies_setRow' l9 (runL s.out k n (.slice TA tn tc) s.steps s.konts))
  have HL9 := Lib.hid L9
  have Hl9 := Lib.hid l9
  have HRW := Lib.hid hrow
  have HSZ := Lib.hid hszr
  clear hb8 L8 l8 B8 L9 h98 l9 B9 hrow hszr
  dsimp only
  go_wp2_with (first | (refine wpList_load_row rfl 42 (.tmp 3) rfl tb rfl 42 (runL s.out k n (.slice TA tn tc) s.steps s.konts) (0, 0) _ ?_ Tryz.underlying42 rfl HSZ.out ?_; exact HL9.out) | (refine wpList_store_rowTo rfl 42 (.tmp 2) (.tmp 36) rfl rfl w.heap.size (runL s.out k n (.slice TA tn tc) s.steps s.konts) rfl rfl 42 #[.int .i64 0, .int .i64 0, .int .i64 0, .string ⟨#[]⟩, .slice none 0 0, .slice none 0 0, .int .i64 0, .int .i64 0] ?_ HSZ.out rfl HRW.out ?_; exact Hl9.out))
  refine bodyPost_ret (v := .agg (runL s.out k n (.slice TA tn tc) s.steps s.konts)) (results_cell_row rfl _ _ w.heap.size 42 _ (0, 0) _ rfl HL7.out Tryz.underlying42 rfl szRun) rfl ?_
  exact ⟨_, rfl, HF7.out, HB7.out⟩
 ·go_simp
  refine hK.out _ _ ?_ (fun hHeld => ?_)
  ·exact HS.out _ (HB0.out.drew.alloc (by have := HZW.out; simp; omega) _)
  clear hK K
  try simp only [Act.put, s1, s2, s3]
  refine rd1 4 (some 8) rfl fun K hK => ?_
  go_simp
  refine (HCL.out _ (HB0.out.drew.alloc (by have := HZW.out; simp; omega) _)).mono ?_
  rintro e w3 ⟨tr, rfl, ho3, hb3⟩
  obtain ⟨TA, tn, tc, rfl⟩ := own_slice ho3
  have HO3 := Lib.hid ho3
  have HB3 := Lib.hid hb3
  clear ho3 hb3
  have lz : Lies w3 W.heap.size 42 #[.int .i64 0, .int .i64 0, .int .i64 0, .string ⟨#[]⟩, .slice none 0 0, .slice none 0 0, .int .i64 0, .int .i64 0] := (HB3.out.block _ (by simp)).trans (Lies.new W.drew _ _)
  have z0 : w3.cell? ⟨W.heap.size, 0, none⟩ = some (.int .i64 0) := lz.cell 0
  have f0 := lz.free 0
  have z1 : w3.cell? ⟨W.heap.size, 1, none⟩ = some (.int .i64 0) := lz.cell 1
  have f1 := lz.free 1
  have z2 : w3.cell? ⟨W.heap.size, 2, none⟩ = some (.int .i64 0) := lz.cell 2
  have f2 := lz.free 2
  have z3 : w3.cell? ⟨W.heap.size, 3, none⟩ = some (.string ⟨#[]⟩) := lz.cell 3
  have f3 := lz.free 3
  have z4 : w3.cell? ⟨W.heap.size, 4, none⟩ = some (.slice none 0 0) := lz.cell 4
  have f4 := lz.free 4
  have z5 : w3.cell? ⟨W.heap.size, 5, none⟩ = some (.slice none 0 0) := lz.cell 5
  have f5 := lz.free 5
  have z6 : w3.cell? ⟨W.heap.size, 6, none⟩ = some (.int .i64 0) := lz.cell 6
  have f6 := lz.free 6
  have z7 : w3.cell? ⟨W.heap.size, 7, none⟩ = some (.int .i64 0) := lz.cell 7
  have f7 := lz.free 7
  have LZ := Lib.hid lz
  clear lz
  (try dsimp only)
  refine hK.out _ _ ?_ (fun hHeld => ?_)
  ·exact HS.out _ ((HB0.out.drew.alloc (by have := HZW.out; simp; omega) _).trans (HB3.out.mono (by have := HZW.out; simp; omega)))
  clear hK K
  try simp only [Act.put, s1, s2, s3]
  refine tkH 13 17 rfl ?_
  try simp only [Act.put, s1, s2, s3]
  refine rd1 15 none rfl fun K hK => ?_
  go_simp
  refine hK.out _ _ ?_ (fun hHeld => ?_)
  ·exact HS.out _ ((((((((((HB0.out.drew.alloc (by have := HZW.out; simp; omega) _).trans (HB3.out.mono (by have := HZW.out; simp; omega))).setCell (p := ⟨W.heap.size, 0, none⟩) (by show w.heap.size ≤ W.heap.size; have := HZW.out; omega) _).setCell (p := ⟨W.heap.size, 1, none⟩) (by show w.heap.size ≤ W.heap.size; have := HZW.out; omega) _).setCell (p := ⟨W.heap.size, 2, none⟩) (by show w.heap.size ≤ W.heap.size; have := HZW.out; omega) _).setCell (p := ⟨W.heap.size, 3, none⟩) (by show w.heap.size ≤ W.heap.size; have := HZW.out; omega) _).setCell (p := ⟨W.heap.size, 4, none⟩) (by show w.heap.size ≤ W.heap.size; have := HZW.out; omega) _).setCell (p := ⟨W.heap.size, 5, none⟩) (by show w.heap.size ≤ W.heap.size; have := HZW.out; omega) _).setCell (p := ⟨W.heap.size, 6, none⟩) (by show w.heap.size ≤ W.heap.size; have := HZW.out; omega) _).setCell (p := ⟨W.heap.size, 7, none⟩) (by show w.heap.size ≤ W.heap.size; have := HZW.out; omega) _)
  clear hK K
  try simp only [Act.put, s1, s2, s3]
  refine wpAnyH_done (by kernel_rfl) ?_ _
  obtain ⟨w5, hw5⟩ : ∃ w5, w5 = ((((((((w3.setCell ⟨W.heap.size, 0, none⟩ (.int .i64 0)).setCell ⟨W.heap.size, 1, none⟩ (.int .i64 0)).setCell ⟨W.heap.size, 2, none⟩ (.int .i64 0)).setCell ⟨W.heap.size, 3, none⟩ (.string ⟨#[]⟩)).setCell ⟨W.heap.size, 4, none⟩ (.slice none 0 0)).setCell ⟨W.heap.size, 5, none⟩ (.slice TA tn tc)).setCell ⟨W.heap.size, 6, none⟩ (.int .i64 (s.steps : Int))).setCell ⟨W.heap.size, 7, none⟩ (.int .i64 (s.konts : Int))) := ⟨_, rfl⟩
  rw [← hw5]
  obtain ⟨tb, htb⟩ : ∃ tb, tb = W.heap.size := ⟨_, rfl⟩
  rw [← htb] at hw5 ⊢
  have hz3 : W.heap.size + 1 ≤ w3.heap.size := by have := HB3.out.size; simpa using this
  have hzW := HZW.out
  have B3 : Below w.heap.size w w3 := ((HB0.out.drew.alloc (by have := HZW.out; simp; omega) _).trans (HB3.out.mono (by have := HZW.out; simp; omega)))
  have B5 : Below w.heap.size w w5 := by rw [hw5]; exact ((((((((B3.setCell (p := ⟨tb, 0, none⟩) (by show w.heap.size ≤ tb; omega) (.int .i64 0)).setCell (p := ⟨tb, 1, none⟩) (by show w.heap.size ≤ tb; omega) (.int .i64 0)).setCell (p := ⟨tb, 2, none⟩) (by show w.heap.size ≤ tb; omega) (.int .i64 0)).setCell (p := ⟨tb, 3, none⟩) (by show w.heap.size ≤ tb; omega) (.string ⟨#[]⟩)).setCell (p := ⟨tb, 4, none⟩) (by show w.heap.size ≤ tb; omega) (.slice none 0 0)).setCell (p := ⟨tb, 5, none⟩) (by show w.heap.size ≤ tb; omega) (.slice TA tn tc)).setCell (p := ⟨tb, 6, none⟩) (by show w.heap.size ≤ tb; omega) (.int .i64 (s.steps : Int))).setCell (p := ⟨tb, 7, none⟩) (by show w.heap.size ≤ tb; omega) (.int .i64 (s.konts : Int)))
  have lz := LZ.out
  rw [← htb] at lz
  have L5 : Lies w5 tb 42 #[.int .i64 0, .int .i64 0, .int .i64 0, .string ⟨#[]⟩, .slice none 0 0, .slice TA tn tc, .int .i64 (s.steps : Int), .int .i64 (s.konts : Int)] := by rw [hw5]; exact ((((((((lz.set 0 _).set 1 _).set 2 _).set 3 _).set 4 _).set 5 _).set 6 _).set 7 _)
  have l3 : Lies w3 w.heap.size 42 #[.int .i64 0, .int .i64 0, .int .i64 0, .string ⟨#[]⟩, .slice none 0 0, .slice none 0 0, .int .i64 0, .int .i64 0] := (HB3.out.block _ (by simp; omega)).trans (L2.out.alloc _)
  have h35 : ∀ g, g ≠ tb → w5.heap[g]? = w3.heap[g]? := fun g h1 => by rw [hw5]; exact ((Below.heap_setCell (((((((w3.setCell ⟨tb, 0, none⟩ (.int .i64 0)).setCell ⟨tb, 1, none⟩ (.int .i64 0)).setCell ⟨tb, 2, none⟩ (.int .i64 0)).setCell ⟨tb, 3, none⟩ (.string ⟨#[]⟩)).setCell ⟨tb, 4, none⟩ (.slice none 0 0)).setCell ⟨tb, 5, none⟩ (.slice TA tn tc)).setCell ⟨tb, 6, none⟩ (.int .i64 (s.steps : Int))) ⟨tb, 7, none⟩ _ g h1).trans ((Below.heap_setCell ((((((w3.setCell ⟨tb, 0, none⟩ (.int .i64 0)).setCell ⟨tb, 1, none⟩ (.int .i64 0)).setCell ⟨tb, 2, none⟩ (.int .i64 0)).setCell ⟨tb, 3, none⟩ (.string ⟨#[]⟩)).setCell ⟨tb, 4, none⟩ (.slice none 0 0)).setCell ⟨tb, 5, none⟩ (.slice TA tn tc)) ⟨tb, 6, none⟩ _ g h1).trans ((Below.heap_setCell (((((w3.setCell ⟨tb, 0, none⟩ (.int .i64 0)).setCell ⟨tb, 1, none⟩ (.int .i64 0)).setCell ⟨tb, 2, none⟩ (.int .i64 0)).setCell ⟨tb, 3, none⟩ (.string ⟨#[]⟩)).setCell ⟨tb, 4, none⟩ (.slice none 0 0)) ⟨tb, 5, none⟩ _ g h1).trans ((Below.heap_setCell ((((w3.setCell ⟨tb, 0, none⟩ (.int .i64 0)).setCell ⟨tb, 1, none⟩ (.int .i64 0)).setCell ⟨tb, 2, none⟩ (.int .i64 0)).setCell ⟨tb, 3, none⟩ (.string ⟨#[]⟩)) ⟨tb, 4, none⟩ _ g h1).trans ((Below.heap_setCell (((w3.setCell ⟨tb, 0, none⟩ (.int .i64 0)).setCell ⟨tb, 1, none⟩ (.int .i64 0)).setCell ⟨tb, 2, none⟩ (.int .i64 0)) ⟨tb, 3, none⟩ _ g h1).trans ((Below.heap_setCell ((w3.setCell ⟨tb, 0, none⟩ (.int .i64 0)).setCell ⟨tb, 1, none⟩ (.int .i64 0)) ⟨tb, 2, none⟩ _ g h1).trans ((Below.heap_setCell (w3.setCell ⟨tb, 0, none⟩ (.int .i64 0)) ⟨tb, 1, none⟩ _ g h1).trans (Below.heap_setCell w3 ⟨tb, 0, none⟩ _ g h1))))))))
  have l5 : Lies w5 w.heap.size 42 #[.int .i64 0, .int .i64 0, .int .i64 0, .string ⟨#[]⟩, .slice none 0 0, .slice none 0 0, .int .i64 0, .int .i64 0] := (h35 _ (by omega)).trans l3
  have ho3 := HO3.out
  have hzz : (W.drew.alloc (.cells #[.int .i64 0, .int .i64 0, .int .i64 0, .string ⟨#[]⟩, .slice none 0 0, .slice none 0 0, .int .i64 0, .int .i64 0] 42)).heap.size = W.heap.size + 1 := by simp
  rw [hzz] at ho3
  have hfin : ∀ V w8 : World, Below (w5.setCell ⟨tb, 0, none⟩ (.int .i64 s.out)).heap.size (w5.setCell ⟨tb, 0, none⟩ (.int .i64 s.out)) w8 → (∀ g, g ≠ tb → g ≠ w.heap.size → V.heap[g]? = w8.heap[g]?) → V.ownsRow w.heap.size 3 1 (.slice TA tn tc) s.trace.length (s.trace.map (Value.int .i64 ·)) := fun V w8 hb8 hV => own_mono (own_same ho3 (fun g h1 h2 => (hV g (by omega) (by omega)).trans ((hb8.block g (by rw [hw5]; simp; omega)).trans ((Below.heap_setCell w5 ⟨tb, 0, none⟩ _ g (by show g ≠ tb; omega)).trans (h35 g (by omega)))))) (by omega)
  have htl : w.heap.size < tb := by omega
  clear hw5 l3 B3 lz h35 ho3 hzz htb hzW hz3
  
  have m5 := HM.out w5 B5
  have x0 : w5.cell? ⟨tb, 0, none⟩ = some (.int .i64 0) := L5.cell 0
  have g0 := L5.free 0
  have y11 : w5.cell? ⟨mb, 11, none⟩ = some (.int .i64 s.out) := m5.cell 11
  have m6 := HM.out (w5.setCell ⟨tb, 0, none⟩ (.int .i64 s.out)) (B5.setCell (p := ⟨tb, 0, none⟩) (by show w.heap.size ≤ tb; omega) _)
  have y12 : (w5.setCell ⟨tb, 0, none⟩ (.int .i64 s.out)).cell? ⟨mb, 11, none⟩ = some (.int .i64 s.out) := m6.cell 11
  have L6 : Lies (w5.setCell ⟨tb, 0, none⟩ (.int .i64 s.out)) tb 42 #[.int .i64 s.out, .int .i64 0, .int .i64 0, .string ⟨#[]⟩, .slice none 0 0, .slice TA tn tc, .int .i64 (s.steps : Int), .int .i64 (s.konts : Int)] := L5.set 0 _
  have l6 : Lies (w5.setCell ⟨tb, 0, none⟩ (.int .i64 s.out)) w.heap.size 42 #[.int .i64 0, .int .i64 0, .int .i64 0, .string ⟨#[]⟩, .slice none 0 0, .slice none 0 0, .int .i64 0, .int .i64 0] := l5.far (p := ⟨tb, 0, none⟩) (by show w.heap.size ≠ tb; omega) _
  have hd : (s.out == 1) = true := by rw [HNE.out]; rfl
  have p2 : (w5.setCell ⟨tb, 0, none⟩ (.int .i64 s.out)).cell? ⟨mb, 2, none⟩ = some (.int .i64 k) := m6.cell 2
  have p3 : (w5.setCell ⟨tb, 0, none⟩ (.int .i64 s.out)).cell? ⟨mb, 3, none⟩ = some (.int .i64 n) := m6.cell 3
  have p4 : (w5.setCell ⟨tb, 0, none⟩ (.int .i64 s.out)).cell? ⟨mb, 4, none⟩ = some (.pointer none) := m6.cell 4
  have p5 : (w5.setCell ⟨tb, 0, none⟩ (.int .i64 s.out)).cell? ⟨mb, 5, none⟩ = some .nilIface := m6.cell 5
  have htol := told_lit (w5.setCell ⟨tb, 0, none⟩ (.int .i64 s.out)) k n
  unfold litL vtL at htol
  have HTOL := Lib.hid htol
  have B6 := B5.setCell (p := ⟨tb, 0, none⟩) (by show w.heap.size ≤ tb; omega) (.int .i64 s.out)
  have HL6 := Lib.hid L6
  have Hl6 := Lib.hid l6
  have HB6 := Lib.hid B6
  have HFIN := Lib.hid hfin
  have htb5 : tb < (w5.setCell ⟨tb, 0, none⟩ (.int .i64 s.out)).heap.size := L6.lt
  clear L5 m5 m6 L6 l6 l5 B5 hfin htol B6
  go_wp2_with fail
  refine HTOL.out.mono ?_
  rintro e w8 ⟨rfl, hb8⟩
  have L8 : Lies w8 tb 42 #[.int .i64 s.out, .int .i64 0, .int .i64 0, .string ⟨#[]⟩, .slice none 0 0, .slice TA tn tc, .int .i64 (s.steps : Int), .int .i64 (s.konts : Int)] := (hb8.block _ htb5).trans HL6.out
  have l8 : Lies w8 w.heap.size 42 #[.int .i64 0, .int .i64 0, .int .i64 0, .string ⟨#[]⟩, .slice none 0 0, .slice none 0 0, .int .i64 0, .int .i64 0] := (hb8.block _ (by omega)).trans Hl6.out
  have B8 : Below w.heap.size w w8 := HB6.out.trans (hb8.mono (by omega))
  have t1 : w8.cell? ⟨tb, 1, none⟩ = some (.int .i64 0) := L8.cell 1
  have t2 : w8.cell? ⟨tb, 2, none⟩ = some (.int .i64 0) := L8.cell 2
  have t3 : w8.cell? ⟨tb, 3, none⟩ = some (.string ⟨#[]⟩) := L8.cell 3
  have t4 : w8.cell? ⟨tb, 4, none⟩ = some (.slice none 0 0) := L8.cell 4
  have s1 := L8.free 1
  have s2 := L8.free 2
  have s3 := L8.free 3
  have s4 := L8.free 4
  have L9 : Lies ((((w8.setCell ⟨tb, 1, none⟩ (.int .i64 k)).setCell ⟨tb, 2, none⟩ (.int .i64 n)).setCell ⟨tb, 3, none⟩ (.string ⟨#[]⟩)).setCell ⟨tb, 4, none⟩ (.slice none 0 0)) tb 42 (runL s.out k n (.slice TA tn tc) s.steps s.konts) := (((L8.set 1 _).set 2 _).set 3 _).set 4 _
  have h98 : ∀ g, g ≠ tb → ((((w8.setCell ⟨tb, 1, none⟩ (.int .i64 k)).setCell ⟨tb, 2, none⟩ (.int .i64 n)).setCell ⟨tb, 3, none⟩ (.string ⟨#[]⟩)).setCell ⟨tb, 4, none⟩ (.slice none 0 0)).heap[g]? = w8.heap[g]? := fun g h1 => (Below.heap_setCell _ ⟨tb, 4, none⟩ _ g h1).trans ((Below.heap_setCell _ ⟨tb, 3, none⟩ _ g h1).trans ((Below.heap_setCell _ ⟨tb, 2, none⟩ _ g h1).trans (Below.heap_setCell _ ⟨tb, 1, none⟩ _ g h1)))
  have l9 : Lies ((((w8.setCell ⟨tb, 1, none⟩ (.int .i64 k)).setCell ⟨tb, 2, none⟩ (.int .i64 n)).setCell ⟨tb, 3, none⟩ (.string ⟨#[]⟩)).setCell ⟨tb, 4, none⟩ (.slice none 0 0)) w.heap.size 42 #[.int .i64 0, .int .i64 0, .int .i64 0, .string ⟨#[]⟩, .slice none 0 0, .slice none 0 0, .int .i64 0, .int .i64 0] := (h98 _ (by omega)).trans l8
  have B9 := (((B8.setCell (p := ⟨tb, 1, none⟩) (by show w.heap.size ≤ tb; omega) (.int .i64 k)).setCell (p := ⟨tb, 2, none⟩) (by show w.heap.size ≤ tb; omega) (.int .i64 n)).setCell (p := ⟨tb, 3, none⟩) (by show w.heap.size ≤ tb; omega) (.string ⟨#[]⟩)).setCell (p := ⟨tb, 4, none⟩) (by show w.heap.size ≤ tb; omega) (.slice none 0 0)
  have hrow : ((runL s.out k n (.slice TA tn tc) s.steps s.konts).all fun x => x.oneCell') = true := by simp [runL, Value.oneCell']
  have hszr : (Tryz.prog.info? 42).map (·.size) = some (runL s.out k n (.slice TA tn tc) s.steps s.konts).size := szRun
  have HF7 := Lib.hid (HFIN.out (((((w8.setCell ⟨tb, 1, none⟩ (.int .i64 k)).setCell ⟨tb, 2, none⟩ (.int .i64 n)).setCell ⟨tb, 3, none⟩ (.string ⟨#[]⟩)).setCell ⟨tb, 4, none⟩ (.slice none 0 0)).setRow w.heap.size (runL s.out k n (.slice TA tn tc) s.steps s.konts)) w8 hb8 (fun g h1 h2 => (heap_setRow' _ _ _ g h2).trans (h98 g h1)))
  have HB7 := Lib.hid (below_setRow' B9 (Nat.le_refl w.heap.size) (runL s.out k n (.slice TA tn tc) s.steps s.konts))
  have HL7 := Lib.hid (lies_setRow' l9 (runL s.out k n (.slice TA tn tc) s.steps s.konts))
  have HL9 := Lib.hid L9
  have Hl9 := Lib.hid l9
  have HRW := Lib.hid hrow
  have HSZ := Lib.hid hszr
  clear hb8 L8 l8 B8 L9 h98 l9 B9 hrow hszr
  dsimp only
  go_wp2_with (first | (refine wpList_load_row rfl 42 (.tmp 3) rfl tb rfl 42 (runL s.out k n (.slice TA tn tc) s.steps s.konts) (0, 0) _ ?_ Tryz.underlying42 rfl HSZ.out ?_; exact HL9.out) | (refine wpList_store_rowTo rfl 42 (.tmp 2) (.tmp 36) rfl rfl w.heap.size (runL s.out k n (.slice TA tn tc) s.steps s.konts) rfl rfl 42 #[.int .i64 0, .int .i64 0, .int .i64 0, .string ⟨#[]⟩, .slice none 0 0, .slice none 0 0, .int .i64 0, .int .i64 0] ?_ HSZ.out rfl HRW.out ?_; exact Hl9.out))
  refine bodyPost_ret (v := .agg (runL s.out k n (.slice TA tn tc) s.steps s.konts)) (results_cell_row rfl _ _ w.heap.size 42 _ (0, 0) _ rfl HL7.out Tryz.underlying42 rfl szRun) rfl ?_
  exact ⟨_, rfl, HF7.out, HB7.out⟩
end So
end Go.Proofs.YtmodmojocclmaaaGreatDoor.K

/- The machine of package source: its begin. -/
namespace Go.Proofs.YtmodmojocclmaaaGreatDoor.K
open Go Go.RowKit
namespace So

def memOf (w : World) : Mem := fun b => w.heap[b]?
theorem start_ms {w : World} {t : Tm} {input : List Int} {tb to : Nat} {A : Option Addr} {n c : Nat} (ht : TmA (memOf w) tb to t) (hi : InV (memOf w) (.slice A n c) input) :
  MS w w.heap.size (memOf w) (start t input) (w.alloc (.cells (mC (ptO tb to) (.pointer none) (.int .i64 0) (.int .i64 0) (.pointer none) .nilIface (.pointer none) (.pointer none) (.slice none 0 0) (.slice A n c) (.slice none 0 0) 0 0 0) 75)) := by
 refine ⟨ptO tb to, .pointer none, .int .i64 0, .int .i64 0, .pointer none, .nilIface, .pointer none, .pointer none, .slice none 0 0, .slice A n c, .slice none 0 0, ?_⟩
 refine ⟨⟨rfl, rfl, rfl, Nat.le_refl _, fun b o hb => ?_, fun b o hb => ?_, fun b _ => rfl, ?_, ?_, ?_, fun b hb => by simp [Value.ownBlock] at hb⟩, Lies.new w _ _, ⟨⟨tb, to, rfl, ht⟩, .nil, rfl, ?_⟩, .nil, .nil, hi⟩
 ·have hl : b < w.heap.size := (Array.getElem?_eq_some_iff.1 hb).1
  exact (Below.heap_alloc w _ b hl).trans hb
 ·have hl : b < w.heap.size := (Array.getElem?_eq_some_iff.1 hb).1
  simp; omega
 ·show w.heap[w.heap.size]? = none
  simp
 ·exact ⟨⟨[], rfl, World.ownsRow_nil _ _ _ _, fun i x u h1 _ => by cases h1⟩, fun b hb => by simp [Value.ownBlock] at hb⟩
 ·exact ⟨World.ownsRow_nil _ _ _ _, fun b hb => by simp [Value.ownBlock] at hb⟩
 ·intro u hu
  simp at hu
  rcases hu with rfl | rfl | rfl | rfl <;> rfl
set_option maxRecDepth 100000 in
set_option maxHeartbeats 4000000 in
theorem begin_any (w : World) {t : Tm} {input : List Int} {tb to : Nat} {iv : Value} (ht : TmA (memOf w) tb to t) (hi : InV (memOf w) iv input) :
  Calls Tryz.prog 16 #[ptO tb to, iv] w fun e w' => e = .returned (pt w.heap.size) ∧ MS w w.heap.size (memOf w) (start t input) w' := by
 obtain ⟨A, c, rfl, _⟩ := hi.1
 have hm := start_ms ht hi
 have HM := Lib.hid hm
 clear hm ht hi
 unfold ptO pt mC at *
 go_enter Tryz.func16, Tryz.ntmps16
 go_wp2
 go_ret
 exact ⟨rfl, HM.out⟩
end So
end Go.Proofs.YtmodmojocclmaaaGreatDoor.K
