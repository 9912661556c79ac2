/- Values: how they lie in memory; places as keys of a map of the call's own: what is not met is not found. -/
import Derived.Test.YtkdjmobplknmgaaDoorTyA
import Derived.Laws.StructEq
import Derived.Outline
namespace Go.Proofs.YtkdjmobplknmgaaDoor
open Go Go.MapKept Go.ChangeMaps Go.RowKit

/-- Nothing but a block has turned. -/
structure Bt (b : Nat) (w w' : World) : Prop where
  os : w'.os = w.os
  tape : w'.tape = w.tape
  output : w'.output = w.output
  size : w.heap.size ≤ w'.heap.size
  block : ∀ i, i < w.heap.size → i ≠ b → w'.heap[i]? = w.heap[i]?
theorem Bt.refl (b : Nat) (w : World) : Bt b w w := ⟨rfl, rfl, rfl, Nat.le_refl _, fun _ _ _ => rfl⟩
theorem Bt.trans {b : Nat} {A B C : World} (h : Bt b A B) (k : Bt b B C) : Bt b A C :=
  ⟨k.os.trans h.os, k.tape.trans h.tape, k.output.trans h.output, Nat.le_trans h.size k.size, fun i h1 h2 => (k.block i (Nat.lt_of_lt_of_le h1 h.size) h2).trans (h.block i h1 h2)⟩
theorem Bt.of_below {b : Nat} {w w' : World} (h : Below w.heap.size w w') : Bt b w w' := ⟨h.os, h.tape, h.output, h.size, fun i hi _ => h.block i hi⟩
theorem Bt.of_grown {b : Nat} {w w' : World} (h : w.grownBy w' (some b)) : Bt b w w' := ⟨h.os, h.tape, h.output, h.size, fun i hi hn => h.block i hi (fun e => hn (by injection e))⟩
theorem Bt.below {b B : Nat} {w w' : World} (h : Bt b w w') (hb : B ≤ b) (hB : B ≤ w.heap.size) : Below B w w' := ⟨h.os, h.tape, h.output, h.size, fun i hi => h.block i (by omega) (by omega)⟩
theorem Bt.atc {b : Nat} {w w' : World} (h : Bt b w w') (hm : ∃ es c, w.heap[b]? = some (.map es c)) {a : Addr} (ha : AtCells w a) : AtCells w' a := by
  refine ha.keep (h.block _ ha.lt fun e => ?_)
  obtain ⟨c, t, hc⟩ := ha
  obtain ⟨es, k, hm⟩ := hm
  rw [e, hm] at hc
  cases hc
theorem Lies.bt {b : Nat} {w w' : World} (h : Bt b w w') {g : Nat} {t : TypeId} {cs : Array Value} (hl : Lies w g t cs) (hg : g ≠ b) : Lies w' g t cs := (h.block g hl.lt hg).trans hl

/-- The cells of a value. -/
def vC (k n : Int) (nm : Str) (kv : Value) : List Value := [.int .i64 k, .int .i64 n, .string (ba nm), kv]
theorem reads4 {w : World} {b o : Nat} {k n : Int} {nm : Str} {kv : Value} (h : ReadsAt w ⟨b, o, none⟩ (vC k n nm kv)) :
    w.cell? ⟨b, o, none⟩ = some (.int .i64 k) ∧ w.cell? ⟨b, o + 1, none⟩ = some (.int .i64 n) ∧ w.cell? ⟨b, o + 2, none⟩ = some (.string (ba nm)) ∧ w.cell? ⟨b, o + 3, none⟩ = some kv :=
  ⟨h 0 _ rfl, h 1 _ rfl, h 2 _ rfl, h 3 _ rfl⟩

/-- A key: a place, and how many stand there. -/
def keyL (a : Addr) (n : Int) : Value := .agg #[.pointer (some a), .int .i64 n]
theorem info_val : (Tryd.prog.info? 24).map (fun i => i.size) = some 4 := by kernel_rfl
theorem size_val : ∃ inf, Tryd.prog.info? 24 = some inf ∧ inf.size ≠ 0 := by
  have h := info_val
  cases hq : Tryd.prog.info? 24 with
  | none => rw [hq] at h; cases h
  | some ie =>
    rw [hq] at h
    simp only [Option.map_some, Option.some.injEq] at h
    exact ⟨ie, rfl, by omega⟩
theorem stood_list : Tryd.prog.stoodInHeld 66 = false := by kernel_rfl
theorem fields_list : Tryd.prog.underlying 66 = some (.struct (Tryd.prog.fieldsOf 66)) := by simp [Program.fieldsOf, Tryd.underlying66]
theorem isAgg_ptrV (w : World) : (isAgg 45).run Tryd.prog w = .ok false w := by kernel_rfl
theorem isAgg_int (w : World) : (isAgg 3).run Tryd.prog w = .ok false w := by kernel_rfl
theorem part_ptrV (w : World) (cs : Array Value) (i : Nat) (v : Value) (h : cs[i]? = some v) : (part 45 cs i).run Tryd.prog w = .ok v w := by
  simp [part, Result.andThen, h]
theorem part_int (w : World) (cs : Array Value) (i : Nat) (v : Value) (h : cs[i]? = some v) : (part 3 cs i).run Tryd.prog w = .ok v w := by
  simp [part, Result.andThen, h]
theorem equal_int (w : World) (n m : Int) (d : Nat) : (Op.equalIn (d + 1) 3 (.int .i64 n) (.int .i64 m)).run Tryd.prog w = .ok (n == m) w := by
  simp [Op.equalIn, run_underlying Tryd.underlying3]
theorem equal_ptrV {w : World} {a x : Addr} (ha : AtCells w a) (hx : AtCells w x) (d : Nat) : (Op.equalIn (d + 1) 45 (.pointer (some a)) (.pointer (some x))).run Tryd.prog w = .ok (decide (a = x)) w := by
  obtain ⟨inf, hinf, hsz⟩ := size_val
  by_cases h : a = x
  · subst h
    simp [Op.equalIn, run_underlying Tryd.underlying45, typeInfo, sizeOf, run_sameAddr_same, hinf]
  · obtain ⟨ca, ta, ha⟩ := ha
    obtain ⟨cb, tb, hx⟩ := hx
    simp [Op.equalIn, run_underlying Tryd.underlying45, typeInfo, sizeOf, hinf, hsz, run_sameAddr_other w h ha hx, h]
theorem equal_keyL {w : World} {a x : Addr} (n m : Int) (ha : AtCells w a) (hx : AtCells w x) : (Op.equal 66 (keyL a n) (keyL x m)).run Tryd.prog w = .ok (decide (a = x) && (n == m)) w := by
  have he : (Op.equalIn 9999 45 (.pointer (some a)) (.pointer (some x))).run Tryd.prog w = .ok (decide (a = x)) w := equal_ptrV ha hx 9998
  have hn : (Op.equalIn 9999 3 (.int .i64 n) (.int .i64 m)).run Tryd.prog w = .ok (n == m) w := equal_int w n m 9998
  have p0 := part_ptrV w #[.pointer (some a), .int .i64 n] 0 (.pointer (some a)) rfl
  have p1 := part_ptrV w #[.pointer (some x), .int .i64 m] 0 (.pointer (some x)) rfl
  have q0 := part_int w #[.pointer (some a), .int .i64 n] 1 (.int .i64 n) rfl
  have q1 := part_int w #[.pointer (some x), .int .i64 m] 1 (.int .i64 m) rfl
  show (Op.equalIn (9999 + 1) 66 (.agg _) (.agg _)).run Tryd.prog w = _
  rw [run_equalIn_struct w 9999 _ _ _ fields_list stood_list]
  simp only [Program.fieldsOf, Tryd.underlying66, Op.eqFields]
  rw [if_pos (by decide)]
  simp only [Sem.run_bind, p0, p1, Result.andThen_ok, he]
  by_cases h : a = x
  · subst h
    simp [q0, q1, Result.andThen, hn]
    by_cases hnm : n = m <;> simp [hnm]
  · simp [h]
theorem checkKey_list (w : World) (em : Bool) (a : Addr) (n : Int) : (Instr.checkKey em 10000 66 (keyL a n)).run Tryd.prog w = .ok () w := by
  have h1 : ∀ v, (Instr.checkKey em 9999 45 v).run Tryd.prog w = .ok () w := fun v => run_checkKey_ptr Tryd.underlying45 em 9998 v
  have h2 : ∀ k, (Instr.checkKey em 9999 3 (.int .i64 k)).run Tryd.prog w = .ok () w := fun k => run_checkKey Tryd.underlying3 (by simp [IsKey]) em 9998
  show (Instr.checkKey em (9999 + 1) 66 (keyL a n)).run Tryd.prog w = .ok () w
  unfold Instr.checkKey keyL
  simp only [Sem.run_bind, run_underlying Tryd.underlying66, Result.andThen_ok]
  rw [← Array.forIn_toList]
  simp only [List.forIn_cons, List.forIn_nil, Sem.run_bind, Sem.run_ite]
  simp [part_ptrV, part_int, h1, h2]
/-- The map in block b has keys whose places stand in L. -/
def KeyL (w : World) (b : Nat) (L : List Addr) : Prop :=
  (∃ es clock, w.heap[b]? = some (.map es clock) ∧ ∀ e ∈ es.toList, ∃ x n v, e.key = keyL x n ∧ e.val = .int .i64 v ∧ x ∈ L) ∧ ∀ x ∈ L, AtCells w x
theorem KeyL.made (w : World) : KeyL (w.alloc (.map #[] 0)) w.heap.size [] := ⟨⟨#[], 0, (MapKept.heap_alloc w _).1, fun e h => by simp at h⟩, fun x h => by cases h⟩
theorem KeyL.lt {w : World} {b : Nat} {L : List Addr} (h : KeyL w b L) : b < w.heap.size := by
  obtain ⟨⟨es, clock, hb, _⟩, _⟩ := h
  exact (Array.getElem?_eq_some_iff.1 hb).1
theorem KeyL.keep {w w' : World} {b : Nat} {L : List Addr} (h : KeyL w b L) (hb : w'.heap[b]? = w.heap[b]?) (hk : ∀ x ∈ L, w'.heap[x.block]? = w.heap[x.block]?) : KeyL w' b L := by
  obtain ⟨⟨es, clock, h1, h2⟩, h3⟩ := h
  exact ⟨⟨es, clock, hb.trans h1, h2⟩, fun x hx => (h3 x hx).keep (hk x hx)⟩
theorem KeyL.later {w w' : World} {b : Nat} {L : List Addr} (h : KeyL w b L) (hb : Below w.heap.size w w') : KeyL w' b L := h.keep (hb.block _ h.lt) fun x hx => hb.block _ (h.2 x hx).lt
theorem KeyL.isMap {w : World} {b : Nat} {L : List Addr} (h : KeyL w b L) : ∃ es c, w.heap[b]? = some (.map es c) := by
  obtain ⟨⟨es, clock, hb, _⟩, _⟩ := h
  exact ⟨_, _, hb⟩
theorem findAsking_keyL {w : World} (a : Addr) (n : Int) (L : List Addr) (ha : AtCells w a) (hL : ∀ x ∈ L, AtCells w x) : ∀ (es : List MapEntry) (i : Nat), (∀ e ∈ es, ∃ x n v, e.key = keyL x n ∧ e.val = .int .i64 v ∧ x ∈ L) →
    ∃ r, (Instr.findAsking 66 (keyL a n) es i).run Tryd.prog w = .ok r w ∧ (r = none ∨ (a ∈ L ∧ ∃ j v, r = some (j, v) ∧ i ≤ j ∧ (∃ e, es[j - i]? = some e ∧ e.key = keyL a n)))
  | [], i, _ => ⟨none, by simp [Instr.findAsking], .inl rfl⟩
  | e :: es, i, h => by
    obtain ⟨x, m, v, hk, hv, hx⟩ := h e (by simp)
    have he := equal_keyL n m ha (hL x hx)
    by_cases hc : a = x ∧ n = m
    · obtain ⟨rfl, rfl⟩ := hc
      refine ⟨some (i, e.val), ?_, .inr ⟨hx, i, e.val, rfl, Nat.le_refl _, e, by simp, hk⟩⟩
      simp [Instr.findAsking, hk, he, Result.andThen]
    · obtain ⟨r, hr, hc2⟩ := findAsking_keyL a n L ha hL es (i + 1) (fun e he => h e (by simp [he]))
      have hf : (decide (a = x) && (n == m)) = false := by
        rw [Bool.eq_false_iff]
        intro h
        rw [Bool.and_eq_true, decide_eq_true_eq, beq_iff_eq] at h
        exact hc h
      rw [hf] at he
      refine ⟨r, by simp [Instr.findAsking, hk, he, Result.andThen, hr], hc2.imp id ?_⟩
      rintro ⟨h1, j, v, h2, h3, e2, h4, h5⟩
      refine ⟨h1, j, v, h2, by omega, e2, ?_, h5⟩
      rw [show j - i = (j - (i + 1)) + 1 by omega, List.getElem?_cons_succ]
      exact h4
theorem findKey_keyL {w : World} (a : Addr) (n : Int) (L : List Addr) (ha : AtCells w a) (hL : ∀ x ∈ L, AtCells w x) (es : List MapEntry) (h : ∀ e ∈ es, ∃ x n v, e.key = keyL x n ∧ e.val = .int .i64 v ∧ x ∈ L) :
    ∃ r, (Instr.findKey 66 (keyL a n) es).run Tryd.prog w = .ok r w ∧ (r = none ∨ (a ∈ L ∧ ∃ j v, r = some (j, v) ∧ (∃ e, es[j]? = some e ∧ e.key = keyL a n))) := by
  obtain ⟨r, hr, hc⟩ := findAsking_keyL a n L ha hL es 0 h
  refine ⟨r, ?_, hc.imp id fun ⟨h1, j, v, h2, _, h3⟩ => ⟨h1, j, v, h2, h3⟩⟩
  cases es with
  | nil =>
    rcases hc with rfl | ⟨_, j, v, _, _, e, he, _⟩
    · simp [Instr.findKey, run_underlying Tryd.underlying66, Result.andThen, Instr.findNow]
    · simp at he
  | cons e es => simp [Instr.findKey, run_underlying Tryd.underlying66, Result.andThen, Instr.findNow, Instr.sameNow, hr]
theorem zero_i (w : World) : (zeroValue 3).run Tryd.prog w = .ok (.int .i64 0) w := by go_simp
theorem KeyL.lookup {w : World} {b : Nat} {L : List Addr} (h : KeyL w b L) {mt : TypeId} (hm : Tryd.prog.underlying mt = some (.map 66 3)) (a : Addr) (n : Int) (ha : AtCells w a) (hn : a ∉ L) :
    (Instr.lookup mt (.map (some b)) (keyL a n) true).run Tryd.prog w = .ok (.tuple #[.int .i64 0, .bool false]) w := by
  obtain ⟨⟨es, clock, hb, he⟩, hL⟩ := h
  obtain ⟨r, hr, hc⟩ := findKey_keyL a n L ha hL es.toList he
  rcases hc with rfl | ⟨h1, _⟩
  · simp [Instr.lookup, run_underlying hm, MapKept.run_getObj_map hb, Result.andThen, checkKey_list, hr, zero_i w]
  · exact absurd h1 hn
theorem stays_keyL {w : World} (a : Addr) (n : Int) : (Instr.keyThatStays (keyL a n) (keyL a n)).run Tryd.prog w = .ok (keyL a n) w := by
  have h : Instr.sameBits 10000 (keyL a n) (keyL a n) = true := by
    simp [keyL, Instr.sameBits]
  simp [Instr.keyThatStays, h]
theorem KeyL.update {w : World} {b : Nat} {L : List Addr} (h : KeyL w b L) {mt : TypeId} (hm : Tryd.prog.underlying mt = some (.map 66 3)) (a : Addr) (n v : Int) (ha : AtCells w a) :
    ∃ w', (Instr.mapUpdate mt (.map (some b)) (keyL a n) (.int .i64 v)).run Tryd.prog w = .ok () w' ∧ KeyL w' b (a :: L) ∧ w.grownBy w' (some b) ∧ w'.heap.size = w.heap.size := by
  obtain ⟨⟨es, clock, hb, he⟩, hL⟩ := h
  obtain ⟨r, hr, hc⟩ := findKey_keyL a n L ha hL es.toList he
  have hat : ∀ o, ∀ x, AtCells w x → AtCells (setBlock w b o) x := fun o x hx => by
    refine hx.keep (heap_setBlock_other hb _ fun e => ?_)
    obtain ⟨c, t, h3⟩ := hx
    rw [e, hb] at h3
    cases h3
  have hat2 : ∀ o, ∀ x ∈ a :: L, AtCells (setBlock w b o) x := fun o x hx => by
    rcases List.mem_cons.1 hx with rfl | hx
    · exact hat o _ ha
    · exact hat o x (hL x hx)
  rcases hc with rfl | ⟨h1, j, u, rfl, e0, hj, hk⟩
  · refine ⟨setBlock w b (.map (es.push ⟨keyL a n, .int .i64 v, clock⟩) (clock + 1)), ?_, ⟨⟨_, _, heap_setBlock_same hb _, fun e h => ?_⟩, hat2 _⟩, ⟨rfl, rfl, rfl, by simp [setBlock], fun i _ hi => heap_setBlock_other hb _ (fun e => hi (by rw [e]))⟩, by simp [setBlock]⟩
    · simp [Instr.mapUpdate, run_underlying hm, MapKept.run_getObj_map hb, checkKey_list, hr, MapKept.run_setObj_map _ hb, Result.andThen, setBlock]
    · rw [Array.toList_push, List.mem_append] at h
      rcases h with h | h
      · obtain ⟨x, m, v', h1, h2, h3⟩ := he e h
        exact ⟨x, m, v', h1, h2, List.mem_cons_of_mem _ h3⟩
      · rw [List.mem_singleton.1 h]
        exact ⟨a, n, v, rfl, rfl, by simp⟩
  · refine ⟨setBlock w b (.map (es.modify j fun e => { e with key := keyL a n, val := .int .i64 v }) clock), ?_, ⟨⟨_, _, heap_setBlock_same hb _, fun e h => ?_⟩, hat2 _⟩, ⟨rfl, rfl, rfl, by simp [setBlock], fun i _ hi => heap_setBlock_other hb _ (fun e => hi (by rw [e]))⟩, by simp [setBlock]⟩
    · have hj' : es[j]? = some e0 := by simpa using hj
      simp [Instr.mapUpdate, run_underlying hm, MapKept.run_getObj_map hb, checkKey_list, hr, MapKept.run_setObj_map _ hb, Result.andThen, setBlock, hj', hk, stays_keyL]
    · obtain ⟨i, hi⟩ := List.getElem?_of_mem h
      rw [Array.getElem?_toList, Array.getElem?_modify] at hi
      split at hi
      · obtain ⟨e1, h1', rfl⟩ := Option.map_eq_some_iff.1 hi
        exact ⟨a, n, v, rfl, rfl, by simp⟩
      · obtain ⟨x, m, v', h1, h2, h3⟩ := he e (by simpa using (Array.mem_of_getElem? hi))
        exact ⟨x, m, v', h1, h2, List.mem_cons_of_mem _ h3⟩
theorem wpList_put_keyL (w : World) {ops : Array Oper} {rest : List Oper} {o : Oper} {a : Act} {Q : Exit → Act → World → Prop}
    (hg : o.guard = none) (mt : TypeId) (m x v : Operand) (hop : o.op = Op.mapUpdate mt m x v) (hmt : Tryd.prog.underlying mt = some (.map 66 3)) {b : Nat} {L : List Addr}
    (hm : a.eval m = .map (some b)) (h : KeyL w b L) (d : Addr) (n u : Int) (hx : a.eval x = keyL d n) (hv : a.eval v = .int .i64 u) (hd : AtCells w d)
    (hK : ∀ w', KeyL w' b (d :: L) → w.grownBy w' (some b) → w'.heap.size = w.heap.size → wpList Tryd.prog ops Q rest (a.put o.dst undef) w') :
    wpList Tryd.prog ops Q (o :: rest) a w := by
  refine wpList_plain hg fun K' hK' => ?_
  obtain ⟨w', hrun, r1, r2, r3⟩ := h.update hmt d n u hd
  unfold Oper.wp
  simp [execOp, hop, hm, hx, hv, hrun, Result.andThen]
  exact hK' _ _ (hK w' r1 r2 r3)
theorem wpList_look_keyL (w : World) {ops : Array Oper} {rest : List Oper} {o : Oper} {a : Act} {Q : Exit → Act → World → Prop}
    (hg : o.guard = none) (mt : TypeId) (m x : Operand) (hop : o.op = Op.lookup mt m x true) (hmt : Tryd.prog.underlying mt = some (.map 66 3)) {b : Nat} {L : List Addr}
    (hm : a.eval m = .map (some b)) (h : KeyL w b L) (d : Addr) (n : Int) (hx : a.eval x = keyL d n) (hd : AtCells w d) (hn : d ∉ L)
    (hK : wpList Tryd.prog ops Q rest (a.put o.dst (.tuple #[.int .i64 0, .bool false])) w) :
    wpList Tryd.prog ops Q (o :: rest) a w := by
  refine wpList_plain hg fun K' hK' => ?_
  have hrun := h.lookup hmt d n hd hn
  unfold Oper.wp
  simp [execOp, hop, hm, hx, hrun, Result.andThen]
  exact hK' _ _ hK
end Go.Proofs.YtkdjmobplknmgaaDoor
