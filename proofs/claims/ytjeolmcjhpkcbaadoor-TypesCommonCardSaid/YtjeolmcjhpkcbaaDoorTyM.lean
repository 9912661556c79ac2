/- Maps of the call's own whose keys are ints. -/
import Derived.Test.YtjeolmcjhpkcbaaDoorTyB
namespace Go.Proofs.YtjeolmcjhpkcbaaDoor
open Go Go.MapKept Go.ChangeMaps Go.RowKit

/-- The map in block b has just these entries, in the order in which they came. -/
def IMap (w : World) (b : Nat) (L : List (Int × Value)) : Prop :=
  ∃ es clock, w.heap[b]? = some (.map es clock) ∧ es.toList.map (fun e => (e.key, e.val)) = L.map (fun p => (Value.int .i64 p.1, p.2))
theorem IMap.lt {w : World} {b : Nat} {L : List (Int × Value)} (h : IMap w b L) : b < w.heap.size := by
  obtain ⟨es, clock, hb, _⟩ := h
  exact (Array.getElem?_eq_some_iff.1 hb).1
theorem IMap.keep {w w' : World} {b : Nat} {L : List (Int × Value)} (h : IMap w b L) (hk : w'.heap[b]? = w.heap[b]?) : IMap w' b L := by
  obtain ⟨es, clock, hb, he⟩ := h
  exact ⟨es, clock, hk.trans hb, he⟩
theorem IMap.made (w : World) : IMap (w.alloc (.map #[] 0)) w.heap.size [] := ⟨#[], 0, (MapKept.heap_alloc w _).1, rfl⟩
def look (k : Int) : List (Int × Value) → Option Value
  | [] => none
  | p :: L => if k = p.1 then some p.2 else look k L
theorem findNow_int (k : Int) : ∀ (es : List MapEntry) (L : List (Int × Value)) (i : Nat), es.map (fun e => (e.key, e.val)) = L.map (fun p => (Value.int .i64 p.1, p.2)) →
    ∃ r, Instr.findNow (.int .i64) (.int .i64 k) es i = some r ∧ ((∃ v j, look k L = some v ∧ r = some (j, v)) ∨ (look k L = none ∧ r = none))
  | [], [], i, _ => ⟨none, rfl, .inr ⟨rfl, rfl⟩⟩
  | [], _ :: _, i, h => by simp at h
  | _ :: _, [], i, h => by simp at h
  | e :: es, p :: L, i, h => by
    simp only [List.map_cons, List.cons.injEq, Prod.mk.injEq] at h
    obtain ⟨⟨h1, h2⟩, h3⟩ := h
    by_cases hx : k = p.1
    · refine ⟨some (i, p.2), ?_, .inl ⟨p.2, i, by simp [look, hx], rfl⟩⟩
      simp [Instr.findNow, Instr.sameNow, h1, h2, hx]
    · obtain ⟨r, hr, hc⟩ := findNow_int k es L (i + 1) h3
      refine ⟨r, ?_, ?_⟩
      · rw [Instr.findNow, h1, show Instr.sameNow (.int .i64) (.int .i64 k) (.int .i64 p.1) = some false by simp [Instr.sameNow, hx]]
        exact hr
      · simpa [look, hx] using hc
section
variable {P : Program} {w : World} {kt mt et : TypeId}
theorem run_findKey_int (hk : P.underlying kt = some (.int .i64)) (k : Int) (es : List MapEntry) (L : List (Int × Value)) (h : es.map (fun e => (e.key, e.val)) = L.map (fun p => (Value.int .i64 p.1, p.2))) :
    ∃ r, (Instr.findKey kt (.int .i64 k) es).run P w = .ok r w ∧ ((∃ v j, look k L = some v ∧ r = some (j, v)) ∨ (look k L = none ∧ r = none)) := by
  obtain ⟨r, hr, hc⟩ := findNow_int k es L 0 h
  exact ⟨r, by simp [Instr.findKey, run_underlying hk, Result.andThen, hr], hc⟩
theorem IMap.lookup {b : Nat} {L : List (Int × Value)} {z : Value} (h : IMap w b L) (hm : P.underlying mt = some (.map kt et)) (hk : P.underlying kt = some (.int .i64)) (hz : (zeroValue et).run P w = .ok z w) (k : Int) :
    (Instr.lookup mt (.map (some b)) (.int .i64 k) true).run P w = .ok (.tuple #[(look k L).getD z, .bool (look k L).isSome]) w := by
  obtain ⟨es, clock, hb, he⟩ := h
  obtain ⟨r, hr, hc⟩ := run_findKey_int (w := w) hk k es.toList L he
  have hck : (Instr.checkKey es.isEmpty (9999 + 1) kt (.int .i64 k)).run P w = .ok () w := MapKept.run_checkKey hk (by first | trivial | exact .int _ _ | constructor) _ _
  rcases hc with ⟨v, j, hv, rfl⟩ | ⟨hv, rfl⟩
  · simp [Instr.lookup, run_underlying hm, MapKept.run_getObj_map hb, Result.andThen, hck, hr, hv]
  · simp [Instr.lookup, run_underlying hm, MapKept.run_getObj_map hb, Result.andThen, hck, hr, hv, hz]
theorem IMap.update {b : Nat} {L : List (Int × Value)} (h : IMap w b L) (hm : P.underlying mt = some (.map kt et)) (hk : P.underlying kt = some (.int .i64)) (k : Int) (v : Value) (hn : look k L = none) :
    ∃ w', (Instr.mapUpdate mt (.map (some b)) (.int .i64 k) v).run P w = .ok () w' ∧ IMap w' b (L ++ [(k, v)]) ∧ w.grownBy w' (some b) := by
  obtain ⟨es, clock, hb, he⟩ := h
  obtain ⟨r, hr, hc⟩ := run_findKey_int (w := w) hk k es.toList L he
  have hck : (Instr.checkKey es.isEmpty (9999 + 1) kt (.int .i64 k)).run P w = .ok () w := MapKept.run_checkKey hk (by first | trivial | exact .int _ _ | constructor) _ _
  have hck' : ∀ e : Bool, (Instr.checkKey e (9999 + 1) kt (.int .i64 k)).run P w = .ok () w := fun e => MapKept.run_checkKey hk (by first | trivial | exact .int _ _ | constructor) _ _
  rcases hc with ⟨u, j, hv, rfl⟩ | ⟨hv, rfl⟩
  · rw [hn] at hv; cases hv
  · refine ⟨setBlock w b (.map (es.push ⟨.int .i64 k, v, clock⟩) (clock + 1)), ?_, ⟨_, _, heap_setBlock_same hb _, ?_⟩, ⟨rfl, rfl, rfl, by simp [setBlock], fun i _ hi => heap_setBlock_other hb _ (fun e => hi (by rw [e]))⟩⟩
    · simp [Instr.mapUpdate, run_underlying hm, MapKept.run_getObj_map hb, hck', hr, MapKept.run_setObj_map _ hb, Result.andThen, setBlock]
    · simp [he]
end
theorem wpList_lookup_imap {P : Program} (w : World) {ops : Array Oper} {rest : List Oper} {o : Oper} {a : Act} {Q : Exit → Act → World → Prop}
    (hg : o.guard = none) (m x : Operand) (t : TypeId) (hop : o.op = Op.lookup t m x true) {kt et : TypeId} {z : Value} {b : Nat} {L : List (Int × Value)}
    (hm : a.eval m = .map (some b)) (h : IMap w b L) (hmt : P.underlying t = some (.map kt et)) (hk : P.underlying kt = some (.int .i64))
    (hz : (zeroValue et).run P w = .ok z w) (k : Int) (hx : a.eval x = .int .i64 k)
    (hK : wpList P ops Q rest (a.put o.dst (.tuple #[(look k L).getD z, .bool (look k L).isSome])) w) :
    wpList P ops Q (o :: rest) a w := by
  refine wpList_plain hg fun K' hK' => ?_
  have hrun := h.lookup hmt hk hz k
  unfold Oper.wp
  simp [execOp, hop, hm, hx, hrun, Result.andThen]
  exact hK' _ _ hK
theorem wpList_update_imap {P : Program} (w : World) {ops : Array Oper} {rest : List Oper} {o : Oper} {a : Act} {Q : Exit → Act → World → Prop}
    (hg : o.guard = none) (m x v : Operand) (t : TypeId) (hop : o.op = Op.mapUpdate t m x v ∨ o.op = Op.insert t m x v) {kt et : TypeId} {b : Nat} {L : List (Int × Value)}
    (hm : a.eval m = .map (some b)) (h : IMap w b L) (hmt : P.underlying t = some (.map kt et)) (hk : P.underlying kt = some (.int .i64))
    (k : Int) (hx : a.eval x = .int .i64 k) (hn : look k L = none)
    (hK : ∀ w', IMap w' b (L ++ [(k, a.eval v)]) → w.grownBy w' (some b) → wpList P ops Q rest (a.put o.dst undef) w') :
    wpList P ops Q (o :: rest) a w := by
  refine wpList_plain hg fun K' hK' => ?_
  obtain ⟨w', hrun, r1, r2⟩ := h.update hmt hk k (a.eval v) hn
  unfold Oper.wp
  rcases hop with hop | hop <;>
  · simp [execOp, hop, hm, hx, hrun, Result.andThen]
    exact hK' _ _ (hK w' r1 r2)
end Go.Proofs.YtjeolmcjhpkcbaaDoor
