/- A map of the call's own whose keys are pointers at cells: a set of addresses. -/
import Derived.Maps.Own
import Derived.Maps.OwnOps
import Derived.LaidEql
namespace Go.Proofs.YtkdjmobplknmgaaDoor
open Go Go.MapKept Go.ChangeMaps

/-- The map in block b has just the keys L, and z at each. -/
def PtrSet (w : World) (z : Value) (b : Nat) (L : List Addr) : Prop :=
  ∃ es clock, w.heap[b]? = some (.map es clock) ∧ es.toList.map (fun e => (e.key, e.val)) = L.map (fun a => (Value.pointer (some a), z))
/-- An address in a block of cells that nothing else reads. -/
def AtCells (w : World) (a : Addr) : Prop := ∃ c t, w.heap[a.block]? = some (.cells c t (0, 0))

theorem PtrSet.made (w : World) (z : Value) : PtrSet (w.alloc (.map #[] 0)) z w.heap.size [] := ⟨#[], 0, (MapKept.heap_alloc w _).1, rfl⟩
theorem PtrSet.lt {w : World} {z : Value} {b : Nat} {L : List Addr} (h : PtrSet w z b L) : b < w.heap.size := by
  obtain ⟨es, clock, hb, _⟩ := h
  exact (Array.getElem?_eq_some_iff.1 hb).1
theorem PtrSet.keep {w w' : World} {z : Value} {b : Nat} {L : List Addr} (h : PtrSet w z b L) (hk : w'.heap[b]? = w.heap[b]?) : PtrSet w' z b L := by
  obtain ⟨es, clock, hb, he⟩ := h
  exact ⟨es, clock, hk.trans hb, he⟩
theorem AtCells.keep {w w' : World} {a : Addr} (h : AtCells w a) (hk : w'.heap[a.block]? = w.heap[a.block]?) : AtCells w' a := by
  obtain ⟨c, t, h⟩ := h
  exact ⟨c, t, hk.trans h⟩

section
variable {P : Program} {w : World} {kt te mt et : TypeId} {inf : TypeInfo} {z : Value}

theorem run_equal_ptr_same (hk : P.underlying kt = some (.pointer te)) (hte : P.info? te = some inf) (_hsz : inf.size ≠ 0) (a : Addr) : (Op.equal kt (.pointer (some a)) (.pointer (some a))).run P w = .ok true w := by
  have h : ∀ d, (Op.equalIn (d + 1) kt (.pointer (some a)) (.pointer (some a))).run P w = .ok true w := fun d => by
    simp [Op.equalIn, run_underlying hk, typeInfo, sizeOf, run_sameAddr_same, hte]
  exact h 9999
theorem run_equal_ptr_other (hk : P.underlying kt = some (.pointer te)) (hte : P.info? te = some inf) (hsz : inf.size ≠ 0) {a b : Addr} (hne : a ≠ b) (ha : AtCells w a) (hb : AtCells w b) : (Op.equal kt (.pointer (some a)) (.pointer (some b))).run P w = .ok false w := by
  obtain ⟨ca, ta, ha⟩ := ha
  obtain ⟨cb, tb, hb⟩ := hb
  have h : ∀ d, (Op.equalIn (d + 1) kt (.pointer (some a)) (.pointer (some b))).run P w = .ok false w := fun d => by
    simp [Op.equalIn, run_underlying hk, typeInfo, sizeOf, hte, hsz, run_sameAddr_other w hne ha hb]
  exact h 9999
theorem run_findAsking_ptr (hk : P.underlying kt = some (.pointer te)) (hte : P.info? te = some inf) (hsz : inf.size ≠ 0) (a : Addr) (ha : AtCells w a) : ∀ (es : List MapEntry) (L : List Addr) (i : Nat),
    es.map (fun e => (e.key, e.val)) = L.map (fun a => (Value.pointer (some a), z)) → (∀ x ∈ L, AtCells w x) →
    ∃ r, (Instr.findAsking kt (.pointer (some a)) es i).run P w = .ok r w ∧ ((a ∈ L ∧ ∃ j, r = some (j, z)) ∨ (a ∉ L ∧ r = none))
  | [], L, i, h, _ => by
    have hL : L = [] := by simpa using h.symm
    subst hL
    exact ⟨none, by simp [Instr.findAsking], .inr ⟨by simp, rfl⟩⟩
  | e :: es, [], i, h, _ => by simp at h
  | e :: es, x :: L, i, h, hL => by
    simp only [List.map_cons, List.cons.injEq, Prod.mk.injEq] at h
    obtain ⟨⟨h1, h2⟩, h3⟩ := h
    by_cases hx : a = x
    · subst hx
      refine ⟨some (i, z), ?_, .inl ⟨by simp, _, rfl⟩⟩
      simp [Instr.findAsking, h1, h2, run_equal_ptr_same hk hte hsz, Result.andThen]
    · obtain ⟨r, hr, hc⟩ := run_findAsking_ptr hk hte hsz a ha es L (i + 1) h3 (fun y hy => hL y (by simp [hy]))
      refine ⟨r, ?_, ?_⟩
      · simp [Instr.findAsking, h1, run_equal_ptr_other hk hte hsz hx ha (hL x (by simp)), Result.andThen, hr]
      · rcases hc with ⟨hc, hj⟩ | ⟨hc, hj⟩
        · exact .inl ⟨by simp [hc], hj⟩
        · exact .inr ⟨by simp [hc, hx], hj⟩
theorem run_findKey_ptr (hk : P.underlying kt = some (.pointer te)) (hte : P.info? te = some inf) (hsz : inf.size ≠ 0) (a : Addr) (ha : AtCells w a) (es : List MapEntry) (L : List Addr)
    (h : es.map (fun e => (e.key, e.val)) = L.map (fun a => (Value.pointer (some a), z))) (hL : ∀ x ∈ L, AtCells w x) :
    ∃ r, (Instr.findKey kt (.pointer (some a)) es).run P w = .ok r w ∧ ((a ∈ L ∧ ∃ j, r = some (j, z)) ∨ (a ∉ L ∧ r = none)) := by
  cases es with
  | nil =>
    have hL : L = [] := by simpa using h.symm
    subst hL
    exact ⟨none, by simp [Instr.findKey, run_underlying hk, Result.andThen, Instr.findNow], .inr ⟨by simp, rfl⟩⟩
  | cons e es =>
    obtain ⟨r, hr, hc⟩ := run_findAsking_ptr (z := z) hk hte hsz a ha (e :: es) L 0 h hL
    exact ⟨r, by simp [Instr.findKey, run_underlying hk, Result.andThen, Instr.findNow, Instr.sameNow, hr], hc⟩
theorem run_checkKey_ptr (hk : P.underlying kt = some (.pointer te)) (em : Bool) (n : Nat) (v : Value) : (Instr.checkKey em (n + 1) kt v).run P w = .ok () w := by
  unfold Instr.checkKey
  simp only [Sem.run_bind, run_underlying hk, Result.andThen]
  cases v <;> rfl

theorem PtrSet.lookup {b : Nat} {L : List Addr} (h : PtrSet w z b L) (hm : P.underlying mt = some (.map kt et)) (hk : P.underlying kt = some (.pointer te)) (hte : P.info? te = some inf) (hsz : inf.size ≠ 0)
    (hz : (zeroValue et).run P w = .ok z w) (a : Addr) (ha : AtCells w a) (hL : ∀ x ∈ L, AtCells w x) : (Instr.lookup mt (.map (some b)) (.pointer (some a)) true).run P w = .ok (.tuple #[z, .bool (decide (a ∈ L))]) w := by
  obtain ⟨es, clock, hb, he⟩ := h
  obtain ⟨r, hr, hc⟩ := run_findKey_ptr (z := z) hk hte hsz a ha es.toList L he hL
  rcases hc with ⟨hc, j, rfl⟩ | ⟨hc, rfl⟩
  · simp [Instr.lookup, run_underlying hm, MapKept.run_getObj_map hb, Result.andThen, run_checkKey_ptr hk _ 9999, hr, hc]
  · simp [Instr.lookup, run_underlying hm, MapKept.run_getObj_map hb, Result.andThen, run_checkKey_ptr hk _ 9999, hr, hc, hz]
theorem PtrSet.update {b : Nat} {L : List Addr} (h : PtrSet w z b L) (hm : P.underlying mt = some (.map kt et)) (hk : P.underlying kt = some (.pointer te)) (hte : P.info? te = some inf) (hsz : inf.size ≠ 0)
    (a : Addr) (ha : AtCells w a) (hL : ∀ x ∈ L, AtCells w x) (hn : a ∉ L) : ∃ w', (Instr.mapUpdate mt (.map (some b)) (.pointer (some a)) z).run P w = .ok () w' ∧ PtrSet w' z b (L ++ [a]) ∧ w.grownBy w' (some b) := by
  obtain ⟨es, clock, hb, he⟩ := h
  obtain ⟨r, hr, hc⟩ := run_findKey_ptr (z := z) hk hte hsz a ha es.toList L he hL
  rcases hc with ⟨hc, j, rfl⟩ | ⟨hc, rfl⟩
  · exact absurd hc hn
  · refine ⟨setBlock w b (.map (es.push ⟨.pointer (some a), z, clock⟩) (clock + 1)), ?_, ⟨_, _, heap_setBlock_same hb _, ?_⟩, ⟨rfl, rfl, rfl, by simp [setBlock], fun i _ hi => heap_setBlock_other hb _ (fun e => hi (by rw [e]))⟩⟩
    · simp [Instr.mapUpdate, run_underlying hm, MapKept.run_getObj_map hb, run_checkKey_ptr hk _ 9999, hr, MapKept.run_setObj_map _ hb, Result.andThen, setBlock]
    · simp [he]
end
theorem wpList_lookup_ptr {P : Program} (w : World) {ops : Array Oper} {rest : List Oper} {o : Oper} {a : Act} {Q : Exit → Act → World → Prop}
    (hg : o.guard = none) (m x : Operand) (t : TypeId) (hop : o.op = Op.lookup t m x true) {kt te et : TypeId} {inf : TypeInfo} {z : Value} {b : Nat} {L : List Addr}
    (hm : a.eval m = .map (some b)) (h : PtrSet w z b L) (hmt : P.underlying t = some (.map kt et)) (hk : P.underlying kt = some (.pointer te)) (hte : P.info? te = some inf) (hsz : inf.size ≠ 0)
    (hz : (zeroValue et).run P w = .ok z w) (d : Addr) (hx : a.eval x = .pointer (some d)) (hd : AtCells w d) (hL : ∀ x ∈ L, AtCells w x)
    (hK : wpList P ops Q rest (a.put o.dst (.tuple #[z, .bool (decide (d ∈ L))])) w) :
    wpList P ops Q (o :: rest) a w := by
  refine wpList_plain hg fun K' hK' => ?_
  have hrun := h.lookup hmt hk hte hsz hz d hd hL
  unfold Oper.wp
  simp [execOp, hop, hm, hx, hrun, Result.andThen]
  exact hK' _ _ hK
theorem wpList_update_ptr {P : Program} (w : World) {ops : Array Oper} {rest : List Oper} {o : Oper} {a : Act} {Q : Exit → Act → World → Prop}
    (hg : o.guard = none) (m x v : Operand) (t : TypeId) (hop : o.op = Op.mapUpdate t m x v) {kt te et : TypeId} {inf : TypeInfo} {z : Value} {b : Nat} {L : List Addr}
    (hm : a.eval m = .map (some b)) (h : PtrSet w z b L) (hmt : P.underlying t = some (.map kt et)) (hk : P.underlying kt = some (.pointer te)) (hte : P.info? te = some inf) (hsz : inf.size ≠ 0)
    (d : Addr) (hx : a.eval x = .pointer (some d)) (hv : a.eval v = z) (hd : AtCells w d) (hL : ∀ x ∈ L, AtCells w x) (hn : d ∉ L)
    (hK : ∀ w', PtrSet w' z b (L ++ [d]) → w.grownBy w' (some b) → wpList P ops Q rest (a.put o.dst undef) w') :
    wpList P ops Q (o :: rest) a w := by
  refine wpList_plain hg fun K' hK' => ?_
  obtain ⟨w', hrun, r1, r2⟩ := h.update hmt hk hte hsz d hd hL hn
  unfold Oper.wp
  simp [execOp, hop, hm, hx, hv, hrun, Result.andThen]
  exact hK' _ _ (hK w' r1 r2)
end Go.Proofs.YtkdjmobplknmgaaDoor
