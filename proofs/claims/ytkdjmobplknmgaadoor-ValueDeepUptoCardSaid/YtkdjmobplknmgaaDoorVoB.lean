/- Maps of the call's own whose keys are strings; the table of operators; Op. -/
import Derived.Test.YtkdjmobplknmgaaDoorVoA
namespace Go.Proofs.YtkdjmobplknmgaaDoor
open Go Go.MapKept Go.ChangeMaps Go.RowKit

theorem ba_beq (k m : Str) : (ba k == ba m) = decide (k = m) := by
  have h : (ba k == ba m) = ((ba k).data == (ba m).data) := rfl
  rw [h]
  by_cases e : k = m
  · simp [e]
  · simp [ba, e]
/-- The map in block b has just these entries, in the order in which they came. -/
def SMap (w : World) (b : Nat) (L : List (Str × Value)) : Prop :=
  ∃ es clock, w.heap[b]? = some (.map es clock) ∧ es.toList.map (fun e => (e.key, e.val)) = L.map (fun p => (Value.string (ba p.1), p.2))
theorem SMap.lt {w : World} {b : Nat} {L : List (Str × Value)} (h : SMap w b L) : b < w.heap.size := by
  obtain ⟨es, clock, hb, _⟩ := h
  exact (Array.getElem?_eq_some_iff.1 hb).1
theorem SMap.keep {w w' : World} {b : Nat} {L : List (Str × Value)} (h : SMap w b L) (hk : w'.heap[b]? = w.heap[b]?) : SMap w' b L := by
  obtain ⟨es, clock, hb, he⟩ := h
  exact ⟨es, clock, hk.trans hb, he⟩
theorem SMap.made (w : World) : SMap (w.alloc (.map #[] 0)) w.heap.size [] := ⟨#[], 0, (MapKept.heap_alloc w _).1, rfl⟩
def look (k : Str) : List (Str × Value) → Option Value
  | [] => none
  | p :: L => if k = p.1 then some p.2 else look k L
theorem findNow_str (k : Str) : ∀ (es : List MapEntry) (L : List (Str × Value)) (i : Nat), es.map (fun e => (e.key, e.val)) = L.map (fun p => (Value.string (ba p.1), p.2)) →
    ∃ r, Instr.findNow .string (.string (ba k)) es i = some r ∧ ((∃ v j, look k L = some v ∧ r = some (j, v)) ∨ (look k L = none ∧ r = none))
  | [], [], i, _ => ⟨none, rfl, .inr ⟨rfl, rfl⟩⟩
  | [], _ :: _, i, h => by simp at h
  | _ :: _, [], i, h => by simp at h
  | e :: es, p :: L, i, h => by
    simp only [List.map_cons, List.cons.injEq, Prod.mk.injEq] at h
    obtain ⟨⟨h1, h2⟩, h3⟩ := h
    by_cases hx : k = p.1
    · refine ⟨some (i, p.2), ?_, .inl ⟨p.2, i, by simp [look, hx], rfl⟩⟩
      simp [Instr.findNow, Instr.sameNow, h1, h2, hx, ba_beq]
    · obtain ⟨r, hr, hc⟩ := findNow_str k es L (i + 1) h3
      refine ⟨r, ?_, ?_⟩
      · rw [Instr.findNow, h1, show Instr.sameNow .string (.string (ba k)) (.string (ba p.1)) = some false by simp [Instr.sameNow, ba_beq, hx]]
        exact hr
      · simpa [look, hx] using hc
section
variable {P : Program} {w : World} {kt mt et : TypeId}
theorem run_findKey_str (hk : P.underlying kt = some .string) (k : Str) (es : List MapEntry) (L : List (Str × Value)) (h : es.map (fun e => (e.key, e.val)) = L.map (fun p => (Value.string (ba p.1), p.2))) :
    ∃ r, (Instr.findKey kt (.string (ba k)) es).run P w = .ok r w ∧ ((∃ v j, look k L = some v ∧ r = some (j, v)) ∨ (look k L = none ∧ r = none)) := by
  obtain ⟨r, hr, hc⟩ := findNow_str k es L 0 h
  exact ⟨r, by simp [Instr.findKey, run_underlying hk, Result.andThen, hr], hc⟩
theorem SMap.lookup {b : Nat} {L : List (Str × Value)} {z : Value} (h : SMap w b L) (hm : P.underlying mt = some (.map kt et)) (hk : P.underlying kt = some .string) (hz : (zeroValue et).run P w = .ok z w) (k : Str) :
    (Instr.lookup mt (.map (some b)) (.string (ba k)) true).run P w = .ok (.tuple #[(look k L).getD z, .bool (look k L).isSome]) w := by
  obtain ⟨es, clock, hb, he⟩ := h
  obtain ⟨r, hr, hc⟩ := run_findKey_str (w := w) hk k es.toList L he
  have hck : (Instr.checkKey es.isEmpty (9999 + 1) kt (.string (ba k))).run P w = .ok () w := MapKept.run_checkKey hk (by first | trivial | exact .int _ _ | constructor) _ _
  rcases hc with ⟨v, j, hv, rfl⟩ | ⟨hv, rfl⟩
  · simp [Instr.lookup, run_underlying hm, MapKept.run_getObj_map hb, Result.andThen, hck, hr, hv]
  · simp [Instr.lookup, run_underlying hm, MapKept.run_getObj_map hb, Result.andThen, hck, hr, hv, hz]
theorem SMap.update {b : Nat} {L : List (Str × Value)} (h : SMap w b L) (hm : P.underlying mt = some (.map kt et)) (hk : P.underlying kt = some .string) (k : Str) (v : Value) (hn : look k L = none) :
    ∃ w', (Instr.mapUpdate mt (.map (some b)) (.string (ba k)) v).run P w = .ok () w' ∧ SMap w' b (L ++ [(k, v)]) ∧ w.grownBy w' (some b) := by
  obtain ⟨es, clock, hb, he⟩ := h
  obtain ⟨r, hr, hc⟩ := run_findKey_str (w := w) hk k es.toList L he
  have hck : (Instr.checkKey es.isEmpty (9999 + 1) kt (.string (ba k))).run P w = .ok () w := MapKept.run_checkKey hk (by first | trivial | exact .int _ _ | constructor) _ _
  have hck' : ∀ e : Bool, (Instr.checkKey e (9999 + 1) kt (.string (ba k))).run P w = .ok () w := fun e => MapKept.run_checkKey hk (by first | trivial | exact .int _ _ | constructor) _ _
  rcases hc with ⟨u, j, hv, rfl⟩ | ⟨hv, rfl⟩
  · rw [hn] at hv; cases hv
  · refine ⟨setBlock w b (.map (es.push ⟨.string (ba k), v, clock⟩) (clock + 1)), ?_, ⟨_, _, heap_setBlock_same hb _, ?_⟩, ⟨rfl, rfl, rfl, by simp [setBlock], fun i _ hi => heap_setBlock_other hb _ (fun e => hi (by rw [e]))⟩⟩
    · simp [Instr.mapUpdate, run_underlying hm, MapKept.run_getObj_map hb, hck', hr, MapKept.run_setObj_map _ hb, Result.andThen, setBlock]
    · simp [he]
end
theorem wpList_lookup_smap {P : Program} (w : World) {ops : Array Oper} {rest : List Oper} {o : Oper} {a : Act} {Q : Exit → Act → World → Prop}
    (hg : o.guard = none) (m x : Operand) (t : TypeId) (hop : o.op = Op.lookup t m x true) {kt et : TypeId} {z : Value} {b : Nat} {L : List (Str × Value)}
    (hm : a.eval m = .map (some b)) (h : SMap w b L) (hmt : P.underlying t = some (.map kt et)) (hk : P.underlying kt = some .string)
    (hz : (zeroValue et).run P w = .ok z w) (k : Str) (hx : a.eval x = .string (ba k))
    (hK : wpList P ops Q rest (a.put o.dst (.tuple #[(look k L).getD z, .bool (look k L).isSome])) w) :
    wpList P ops Q (o :: rest) a w := by
  refine wpList_plain hg fun K' hK' => ?_
  have hrun := h.lookup hmt hk hz k
  unfold Oper.wp
  simp [execOp, hop, hm, hx, hrun, Result.andThen]
  exact hK' _ _ hK
theorem wpList_update_smap {P : Program} (w : World) {ops : Array Oper} {rest : List Oper} {o : Oper} {a : Act} {Q : Exit → Act → World → Prop}
    (hg : o.guard = none) (m x v : Operand) (t : TypeId) (hop : o.op = Op.mapUpdate t m x v ∨ o.op = Op.insert t m x v) {kt et : TypeId} {b : Nat} {L : List (Str × Value)}
    (hm : a.eval m = .map (some b)) (h : SMap w b L) (hmt : P.underlying t = some (.map kt et)) (hk : P.underlying kt = some .string)
    (k : Str) (hx : a.eval x = .string (ba k)) (hn : look k L = none)
    (hK : ∀ w', SMap w' b (L ++ [(k, a.eval v)]) → w.grownBy w' (some b) → wpList P ops Q rest (a.put o.dst undef) w') :
    wpList P ops Q (o :: rest) a w := by
  refine wpList_plain hg fun K' hK' => ?_
  obtain ⟨w', hrun, r1, r2⟩ := h.update hmt hk k (a.eval v) hn
  unfold Oper.wp
  rcases hop with hop | hop <;>
  · simp [execOp, hop, hm, hx, hrun, Result.andThen]
    exact hK' _ _ (hK w' r1 r2)
def fnV (F : Nat) : Value := .func (.func F) #[] #[]
def opsL : List (Str × Value) := [([43], fnV 50), ([45], fnV 52), ([42], fnV 53), ([47], fnV 54), ([60], fnV 55), ([61], fnV 57)]
theorem bel_grown {B : Nat} {w w1 w2 : World} (h : Below B w w1) {r : Nat} (hg : w1.grownBy w2 (some r)) (hr : B ≤ r) (hB : B ≤ w1.heap.size) : Below B w w2 :=
  h.trans ⟨hg.os, hg.tape, hg.output, hg.size, fun k hk => hg.block k (by omega) (fun e => by injection e; omega)⟩
set_option maxRecDepth 100000 in
set_option maxHeartbeats 2000000 in
theorem operators_any (w : World) : Calls Tryd.prog 39 #[] w fun e w' => e = .returned (.map (some w.heap.size)) ∧ SMap w' w.heap.size opsL ∧ Below w.heap.size w w' := by
  have h0 := SMap.made w
  have hmm := @run_makeMap Tryd.prog
  have hbb := below_new w (.map #[] 0)
  have hss : w.heap.size + 1 ≤ (w.alloc (.map #[] 0)).heap.size := by simp
  go_enter Tryd.func39, Tryd.ntmps39
  go_wp2_with (refine wpList_update_smap _ rfl (.tmp 1) _ _ 71 (.inr rfl) rfl (by assumption) Tryd.underlying71 Tryd.underlying9 _ rfl rfl ?_; clear h0; intro w1 h0 g1; have hbb := bel_grown hbb g1 (Nat.le_refl _) (by omega); have hss := Nat.le_trans hss g1.size; clear g1)
  go_ret
  exact ⟨rfl, h0, hbb⟩
theorem zero_oper (w : World) : (zeroValue 69).run Tryd.prog w = .ok .nilFunc w := by go_simp
/-- What runs behind a name of the table. -/
structure Oper2 (F : Nat) (a b k n : Int) (ok : Bool) : Prop where
  ent : ∀ (args : Array Value) (w : World), (callFunc F args).run Tryd.prog w = .ok (.enter F args) w
  run : ∀ w : World, Calls Tryd.prog F #[.int .i64 a, .int .i64 b] w (OpEnd w k n ok)
set_option maxRecDepth 100000 in
set_option maxHeartbeats 2000000 in
theorem op_yes (nm : Str) (F : Nat) (a b k n : Int) (ok : Bool) (hl : look nm opsL = some (fnV F)) (hF : Oper2 F a b k n ok) (w : World) :
    Calls Tryd.prog 20 #[.string (ba nm), .int .i64 a, .int .i64 b] w (OpEnd w k n ok) := by
  have hent := hF.ent
  have hzo := fun w => zero_oper w
  have hlk : (look nm opsL).getD .nilFunc = .func (.func F) #[] #[] := by rw [hl]; rfl
  have hls : (look nm opsL).isSome = true := by rw [hl]; rfl
  obtain ⟨w1, hw1⟩ : ∃ w1, w1 = w.alloc (.cells #[.int .i64 0, .int .i64 0, .string ⟨#[]⟩, .slice none 0 0] 24) := ⟨_, rfl⟩
  have HB1 := Lib.hid (show Below w.heap.size w w1 by rw [hw1]; exact below_new w _)
  have HL1 := Lib.hid (show Lies w1 w.heap.size 24 #[.int .i64 0, .int .i64 0, .string ⟨#[]⟩, .slice none 0 0] by rw [hw1]; exact Lies.new w _ _)
  have HW := Lib.hid hw1
  have HLK := Lib.hid hlk
  have HLS := Lib.hid hls
  have HR := Lib.hid hF.run
  have HL := Lib.hid hl
  clear hw1 hlk hls hl
  go_enter Tryd.func20, Tryd.ntmps20
  go_wp2_with fail
  rw [← HW.out]
  refine (operators_any w1).mono ?_
  rintro e w2 ⟨rfl, hm, hb2⟩
  have l2 := HL1.out.later hb2
  have HM := Lib.hid hm
  have HB2 := Lib.hid (HB1.out.trans (hb2.mono HB1.out.size))
  have HL2 := Lib.hid l2
  clear hm hb2 l2
  go_wp2_with (at_lookup; refine wpList_lookup_smap _ rfl (.tmp 11) (.tmp 12) 71 rfl rfl HM.out Tryd.underlying71 Tryd.underlying9 (hzo _) nm rfl ?_; rw [HLK.out, HLS.out])
  refine (HR.out w2).mono ?_
  rintro e w3 ⟨rfl, hb3⟩
  have l3 := HL2.out.later hb3
  have z0 := l3.cell 0
  have z1 := l3.cell 1
  have z2 := l3.cell 2
  have z3 := l3.cell 3
  have f0 := l3.free 0
  have f1 := l3.free 1
  have f2 := l3.free 2
  have f3 := l3.free 3
  have HST := Lib.hid ((((l3.set 0 (.int .i64 k)).set 1 (.int .i64 n)).set 2 (.string ⟨#[]⟩)).set 3 (.slice none 0 0))
  have HB3 := Lib.hid (HB2.out.trans (hb3.mono HB2.out.size))
  clear l3 hb3
  unfold numV
  go_wp2
  exact bodyPost_ret (results_row_tmp rfl _ _ w.heap.size 24 _ (0, 0) _ rfl HST.out Tryd.underlying24 rfl info_val) rfl ⟨rfl, (((HB3.out.setCell (p := ⟨w.heap.size, 0, none⟩) (Nat.le_refl _) _).setCell (p := ⟨w.heap.size, 1, none⟩) (Nat.le_refl _) _).setCell (p := ⟨w.heap.size, 2, none⟩) (Nat.le_refl _) _).setCell (p := ⟨w.heap.size, 3, none⟩) (Nat.le_refl _) _⟩
set_option maxRecDepth 100000 in
set_option maxHeartbeats 2000000 in
theorem op_no (nm : Str) (a b : Int) (hl : look nm opsL = none) (w : World) :
    Calls Tryd.prog 20 #[.string (ba nm), .int .i64 a, .int .i64 b] w (OpEnd w 0 0 false) := by
  have hzo := fun w => zero_oper w
  have hlk : (look nm opsL).getD .nilFunc = .nilFunc := by rw [hl]; rfl
  have hls : (look nm opsL).isSome = false := by rw [hl]; rfl
  obtain ⟨w1, hw1⟩ : ∃ w1, w1 = w.alloc (.cells #[.int .i64 0, .int .i64 0, .string ⟨#[]⟩, .slice none 0 0] 24) := ⟨_, rfl⟩
  have HB1 := Lib.hid (show Below w.heap.size w w1 by rw [hw1]; exact below_new w _)
  have HL1 := Lib.hid (show Lies w1 w.heap.size 24 #[.int .i64 0, .int .i64 0, .string ⟨#[]⟩, .slice none 0 0] by rw [hw1]; exact Lies.new w _ _)
  have HW := Lib.hid hw1
  have HLK := Lib.hid hlk
  have HLS := Lib.hid hls
  clear hw1 hlk hls hl
  go_enter Tryd.func20, Tryd.ntmps20
  go_wp2_with fail
  rw [← HW.out]
  refine (operators_any w1).mono ?_
  rintro e w2 ⟨rfl, hm, hb2⟩
  have l2 := HL1.out.later hb2
  have z0 := l2.cell 0
  have z1 := l2.cell 1
  have z2 := l2.cell 2
  have z3 := l2.cell 3
  have f0 := l2.free 0
  have f1 := l2.free 1
  have f2 := l2.free 2
  have f3 := l2.free 3
  have HM := Lib.hid hm
  have HB2 := Lib.hid (HB1.out.trans (hb2.mono HB1.out.size))
  have HST := Lib.hid ((((l2.set 0 (.int .i64 0)).set 1 (.int .i64 0)).set 2 (.string ⟨#[]⟩)).set 3 (.slice none 0 0))
  clear hm hb2 l2
  go_wp2_with (at_lookup; refine wpList_lookup_smap _ rfl (.tmp 11) (.tmp 12) 71 rfl rfl HM.out Tryd.underlying71 Tryd.underlying9 (hzo _) nm rfl ?_; rw [HLK.out, HLS.out])
  exact bodyPost_ret (results_row_tmp rfl _ _ w.heap.size 24 _ (0, 0) _ rfl HST.out Tryd.underlying24 rfl info_val) rfl ⟨rfl, (((HB2.out.setCell (p := ⟨w.heap.size, 0, none⟩) (Nat.le_refl _) _).setCell (p := ⟨w.heap.size, 1, none⟩) (Nat.le_refl _) _).setCell (p := ⟨w.heap.size, 2, none⟩) (Nat.le_refl _) _).setCell (p := ⟨w.heap.size, 3, none⟩) (Nat.le_refl _) _⟩
/-- What an operator makes of two numbers. -/
def opR (nm : Str) (a b : Int) : Int × Int × Bool :=
  if nm = [43] then (1, wrap64 (a + b), true) else if nm = [45] then (1, wrap64 (a - b), true) else if nm = [42] then (1, wrap64 (a * b), true)
  else if nm = [47] then (if b = 0 then (0, 0, false) else (1, wrap64 (a.tdiv b), true)) else if nm = [60] then (2, truN (decide (a < b)), true) else if nm = [61] then (2, truN (a == b), true) else (0, 0, false)
theorem op_any (nm : Str) (a b : Int) (w : World) : Calls Tryd.prog 20 #[.string (ba nm), .int .i64 a, .int .i64 b] w (OpEnd w (opR nm a b).1 (opR nm a b).2.1 (opR nm a b).2.2) := by
  unfold opR
  by_cases h1 : nm = [43]
  · subst h1
    exact op_yes _ _ a b _ _ _ rfl ⟨fun args w => by go_simp, fun w => oper1_any a b w⟩ w
  rw [if_neg h1]
  by_cases h2 : nm = [45]
  · subst h2
    exact op_yes _ _ a b _ _ _ rfl ⟨fun args w => by go_simp, fun w => oper2_any a b w⟩ w
  rw [if_neg h2]
  by_cases h3 : nm = [42]
  · subst h3
    exact op_yes _ _ a b _ _ _ rfl ⟨fun args w => by go_simp, fun w => oper3_any a b w⟩ w
  rw [if_neg h3]
  by_cases h4 : nm = [47]
  · subst h4
    by_cases hb : b = 0
    · subst hb
      exact op_yes _ _ a 0 _ _ _ rfl ⟨fun args w => by go_simp, fun w => oper4_zero a w⟩ w
    · rw [if_pos rfl, if_neg hb]
      exact op_yes _ _ a b _ _ _ rfl ⟨fun args w => by go_simp, fun w => oper4_any a b w hb⟩ w
  rw [if_neg h4]
  by_cases h5 : nm = [60]
  · subst h5
    exact op_yes _ _ a b _ _ _ rfl ⟨fun args w => by go_simp, fun w => oper5_any a b w⟩ w
  rw [if_neg h5]
  by_cases h6 : nm = [61]
  · subst h6
    exact op_yes _ _ a b _ _ _ rfl ⟨fun args w => by go_simp, fun w => oper6_any a b w⟩ w
  rw [if_neg h6]
  exact op_no nm a b (by simp [look, opsL, h1, h2, h3, h4, h5, h6]) w
end Go.Proofs.YtkdjmobplknmgaaDoor
