/- A map of the call's own whose keys are pointers at cells: a set of addresses. -/
import Derived.Maps.Own
import Derived.Maps.OwnOps
import Derived.LaidEql
import Derived.Test.YtnkfkaahjplnmaaGreatDoorGfTerms
import Derived.RangeFuncNested
import Derived.RangeFuncBound
import Derived.RangeFuncCalls
import Derived.RangeFuncLeaves
import Derived.RangeFuncFrom
import Derived.RangeFuncBox
import Derived.Shelf.RegionOpen
import Derived.WalkKit
import Derived.OwnWalkIn
import Derived.TacticsInMore
import Derived.LoopNIn
import Derived.LoopIn
import Derived.Outline
import Derived.Test.YtnkfkaahjplnmaaGreatDoorGkDecls
import Derived.Test.YtnkfkaahjplnmaaGreatDoorGaPure
import Derived.Test.YtnkfkaahjplnmaaGreatDoorGcLexB
namespace Go.Proofs.YtnkfkaahjplnmaaGreatDoor
open Go Go.MapKept Go.ChangeMaps

/-- The map in block b has just the keys L, and z at each. -/
def PtrSet (w : World) (z : Value) (b : Nat) (L : List Addr) : Prop :=
  ∃ es clock, w.heap[b]? = some (.map es clock) ∧ es.toList.map (fun e => (e.key, e.val)) = L.map (fun a => (Value.pointer (some a), z))
/-- An address in a block of cells that nothing else reads. -/
def AtCells (w : World) (a : Addr) : Prop := ∃ c t, w.heap[a.block]? = some (.cells c t (0, 0))

theorem PtrSet.made (w : World) (z : Value) : PtrSet (w.alloc (.map #[] 0)) z w.heap.size [] := ⟨#[], 0, (MapKept.heap_alloc w _).1, rfl⟩
theorem PtrSet.lt {w : World} {z : Value} {b : Nat} {L : List Addr} (h : PtrSet w z b L) : b < w.heap.size := by
  obtain ⟨es, clock, hb, _⟩ := h
  exact (Array.getElem?_eq_some_iff.1 hb).1
theorem PtrSet.keep {w w' : World} {z : Value} {b : Nat} {L : List Addr} (h : PtrSet w z b L) (hk : w'.heap[b]? = w.heap[b]?) : PtrSet w' z b L := by
  obtain ⟨es, clock, hb, he⟩ := h
  exact ⟨es, clock, hk.trans hb, he⟩
theorem AtCells.keep {w w' : World} {a : Addr} (h : AtCells w a) (hk : w'.heap[a.block]? = w.heap[a.block]?) : AtCells w' a := by
  obtain ⟨c, t, h⟩ := h
  exact ⟨c, t, hk.trans h⟩

section
variable {P : Program} {w : World} {kt te mt et : TypeId} {inf : TypeInfo} {z : Value}

theorem run_equal_ptr_same (hk : P.underlying kt = some (.pointer te)) (hte : P.info? te = some inf) (_hsz : inf.size ≠ 0) (a : Addr) : (Op.equal kt (.pointer (some a)) (.pointer (some a))).run P w = .ok true w := by
  have h : ∀ d, (Op.equalIn (d + 1) kt (.pointer (some a)) (.pointer (some a))).run P w = .ok true w := fun d => by
    simp [Op.equalIn, run_underlying hk, typeInfo, sizeOf, run_sameAddr_same, hte]
  exact h 9999
theorem run_equal_ptr_other (hk : P.underlying kt = some (.pointer te)) (hte : P.info? te = some inf) (hsz : inf.size ≠ 0) {a b : Addr} (hne : a ≠ b) (ha : AtCells w a) (hb : AtCells w b) : (Op.equal kt (.pointer (some a)) (.pointer (some b))).run P w = .ok false w := by
  obtain ⟨ca, ta, ha⟩ := ha
  obtain ⟨cb, tb, hb⟩ := hb
  have h : ∀ d, (Op.equalIn (d + 1) kt (.pointer (some a)) (.pointer (some b))).run P w = .ok false w := fun d => by
    simp [Op.equalIn, run_underlying hk, typeInfo, sizeOf, hte, hsz, run_sameAddr_other w hne ha hb]
  exact h 9999
theorem run_findAsking_ptr (hk : P.underlying kt = some (.pointer te)) (hte : P.info? te = some inf) (hsz : inf.size ≠ 0) (a : Addr) (ha : AtCells w a) : ∀ (es : List MapEntry) (L : List Addr) (i : Nat),
    es.map (fun e => (e.key, e.val)) = L.map (fun a => (Value.pointer (some a), z)) → (∀ x ∈ L, AtCells w x) →
    ∃ r, (Instr.findAsking kt (.pointer (some a)) es i).run P w = .ok r w ∧ ((a ∈ L ∧ ∃ j, r = some (j, z)) ∨ (a ∉ L ∧ r = none))
  | [], L, i, h, _ => by
    have hL : L = [] := by simpa using h.symm
    subst hL
    exact ⟨none, by simp [Instr.findAsking], .inr ⟨by simp, rfl⟩⟩
  | e :: es, [], i, h, _ => by simp at h
  | e :: es, x :: L, i, h, hL => by
    simp only [List.map_cons, List.cons.injEq, Prod.mk.injEq] at h
    obtain ⟨⟨h1, h2⟩, h3⟩ := h
    by_cases hx : a = x
    · subst hx
      refine ⟨some (i, z), ?_, .inl ⟨by simp, _, rfl⟩⟩
      simp [Instr.findAsking, h1, h2, run_equal_ptr_same hk hte hsz, Result.andThen]
    · obtain ⟨r, hr, hc⟩ := run_findAsking_ptr hk hte hsz a ha es L (i + 1) h3 (fun y hy => hL y (by simp [hy]))
      refine ⟨r, ?_, ?_⟩
      · simp [Instr.findAsking, h1, run_equal_ptr_other hk hte hsz hx ha (hL x (by simp)), Result.andThen, hr]
      · rcases hc with ⟨hc, hj⟩ | ⟨hc, hj⟩
        · exact .inl ⟨by simp [hc], hj⟩
        · exact .inr ⟨by simp [hc, hx], hj⟩
theorem run_findKey_ptr (hk : P.underlying kt = some (.pointer te)) (hte : P.info? te = some inf) (hsz : inf.size ≠ 0) (a : Addr) (ha : AtCells w a) (es : List MapEntry) (L : List Addr)
    (h : es.map (fun e => (e.key, e.val)) = L.map (fun a => (Value.pointer (some a), z))) (hL : ∀ x ∈ L, AtCells w x) :
    ∃ r, (Instr.findKey kt (.pointer (some a)) es).run P w = .ok r w ∧ ((a ∈ L ∧ ∃ j, r = some (j, z)) ∨ (a ∉ L ∧ r = none)) := by
  cases es with
  | nil =>
    have hL : L = [] := by simpa using h.symm
    subst hL
    exact ⟨none, by simp [Instr.findKey, run_underlying hk, Result.andThen, Instr.findNow], .inr ⟨by simp, rfl⟩⟩
  | cons e es =>
    obtain ⟨r, hr, hc⟩ := run_findAsking_ptr (z := z) hk hte hsz a ha (e :: es) L 0 h hL
    exact ⟨r, by simp [Instr.findKey, run_underlying hk, Result.andThen, Instr.findNow, Instr.sameNow, hr], hc⟩
theorem run_checkKey_ptr (hk : P.underlying kt = some (.pointer te)) (em : Bool) (n : Nat) (v : Value) : (Instr.checkKey em (n + 1) kt v).run P w = .ok () w := by
  unfold Instr.checkKey
  simp only [Sem.run_bind, run_underlying hk, Result.andThen]
  cases v <;> rfl

theorem PtrSet.lookup {b : Nat} {L : List Addr} (h : PtrSet w z b L) (hm : P.underlying mt = some (.map kt et)) (hk : P.underlying kt = some (.pointer te)) (hte : P.info? te = some inf) (hsz : inf.size ≠ 0)
    (hz : (zeroValue et).run P w = .ok z w) (a : Addr) (ha : AtCells w a) (hL : ∀ x ∈ L, AtCells w x) : (Instr.lookup mt (.map (some b)) (.pointer (some a)) true).run P w = .ok (.tuple #[z, .bool (decide (a ∈ L))]) w := by
  obtain ⟨es, clock, hb, he⟩ := h
  obtain ⟨r, hr, hc⟩ := run_findKey_ptr (z := z) hk hte hsz a ha es.toList L he hL
  rcases hc with ⟨hc, j, rfl⟩ | ⟨hc, rfl⟩
  · simp [Instr.lookup, run_underlying hm, MapKept.run_getObj_map hb, Result.andThen, run_checkKey_ptr hk _ 9999, hr, hc]
  · simp [Instr.lookup, run_underlying hm, MapKept.run_getObj_map hb, Result.andThen, run_checkKey_ptr hk _ 9999, hr, hc, hz]
theorem PtrSet.update {b : Nat} {L : List Addr} (h : PtrSet w z b L) (hm : P.underlying mt = some (.map kt et)) (hk : P.underlying kt = some (.pointer te)) (hte : P.info? te = some inf) (hsz : inf.size ≠ 0)
    (a : Addr) (ha : AtCells w a) (hL : ∀ x ∈ L, AtCells w x) (hn : a ∉ L) : ∃ w', (Instr.mapUpdate mt (.map (some b)) (.pointer (some a)) z).run P w = .ok () w' ∧ PtrSet w' z b (L ++ [a]) ∧ w.grownBy w' (some b) := by
  obtain ⟨es, clock, hb, he⟩ := h
  obtain ⟨r, hr, hc⟩ := run_findKey_ptr (z := z) hk hte hsz a ha es.toList L he hL
  rcases hc with ⟨hc, j, rfl⟩ | ⟨hc, rfl⟩
  · exact absurd hc hn
  · refine ⟨setBlock w b (.map (es.push ⟨.pointer (some a), z, clock⟩) (clock + 1)), ?_, ⟨_, _, heap_setBlock_same hb _, ?_⟩, ⟨rfl, rfl, rfl, by simp [setBlock], fun i _ hi => heap_setBlock_other hb _ (fun e => hi (by rw [e]))⟩⟩
    · simp [Instr.mapUpdate, run_underlying hm, MapKept.run_getObj_map hb, run_checkKey_ptr hk _ 9999, hr, MapKept.run_setObj_map _ hb, Result.andThen, setBlock]
    · simp [he]
end
theorem wpList_lookup_ptr {P : Program} (w : World) {ops : Array Oper} {rest : List Oper} {o : Oper} {a : Act} {Q : Exit → Act → World → Prop}
    (hg : o.guard = none) (m x : Operand) (t : TypeId) (hop : o.op = Op.lookup t m x true) {kt te et : TypeId} {inf : TypeInfo} {z : Value} {b : Nat} {L : List Addr}
    (hm : a.eval m = .map (some b)) (h : PtrSet w z b L) (hmt : P.underlying t = some (.map kt et)) (hk : P.underlying kt = some (.pointer te)) (hte : P.info? te = some inf) (hsz : inf.size ≠ 0)
    (hz : (zeroValue et).run P w = .ok z w) (d : Addr) (hx : a.eval x = .pointer (some d)) (hd : AtCells w d) (hL : ∀ x ∈ L, AtCells w x)
    (hK : wpList P ops Q rest (a.put o.dst (.tuple #[z, .bool (decide (d ∈ L))])) w) :
    wpList P ops Q (o :: rest) a w := by
  refine wpList_plain hg fun K' hK' => ?_
  have hrun := h.lookup hmt hk hte hsz hz d hd hL
  unfold Oper.wp
  simp [execOp, hop, hm, hx, hrun, Result.andThen]
  exact hK' _ _ hK
theorem wpList_update_ptr {P : Program} (w : World) {ops : Array Oper} {rest : List Oper} {o : Oper} {a : Act} {Q : Exit → Act → World → Prop}
    (hg : o.guard = none) (m x v : Operand) (t : TypeId) (hop : o.op = Op.mapUpdate t m x v) {kt te et : TypeId} {inf : TypeInfo} {z : Value} {b : Nat} {L : List Addr}
    (hm : a.eval m = .map (some b)) (h : PtrSet w z b L) (hmt : P.underlying t = some (.map kt et)) (hk : P.underlying kt = some (.pointer te)) (hte : P.info? te = some inf) (hsz : inf.size ≠ 0)
    (d : Addr) (hx : a.eval x = .pointer (some d)) (hv : a.eval v = z) (hd : AtCells w d) (hL : ∀ x ∈ L, AtCells w x) (hn : d ∉ L)
    (hK : ∀ w', PtrSet w' z b (L ++ [d]) → w.grownBy w' (some b) → wpList P ops Q rest (a.put o.dst undef) w') :
    wpList P ops Q (o :: rest) a w := by
  refine wpList_plain hg fun K' hK' => ?_
  obtain ⟨w', hrun, r1, r2⟩ := h.update hmt hk hte hsz d hd hL hn
  unfold Oper.wp
  simp [execOp, hop, hm, hx, hv, hrun, Result.andThen]
  exact hK' _ _ (hK w' r1 r2)
end Go.Proofs.YtnkfkaahjplnmaaGreatDoor

/- What a range over a function leaves alone; laws on rows within a round. -/
namespace Go.Proofs.YtnkfkaahjplnmaaGreatDoor
open Go.RowKit Pz

/-- Whatever lay ahead of n lies as it lay, but for block b. -/
structure Ku (n b : Nat) (w w' : World) : Prop where
  os : w'.os = w.os
  tape : w'.tape = w.tape
  output : w'.output = w.output
  size : w.heap.size ≤ w'.heap.size
  block : ∀ i, i < n → i ≠ b → w'.heap[i]? = w.heap[i]?
theorem Ku.refl (n b : Nat) (w : World) : Ku n b w w := ⟨rfl, rfl, rfl, Nat.le_refl _, fun _ _ _ => rfl⟩
theorem Ku.trans {n b : Nat} {A B C : World} (h : Ku n b A B) (k : Ku n b B C) : Ku n b A C :=
  ⟨k.os.trans h.os, k.tape.trans h.tape, k.output.trans h.output, Nat.le_trans h.size k.size, fun i h1 h2 => (k.block i h1 h2).trans (h.block i h1 h2)⟩
theorem Ku.alloc {n b : Nat} {A w : World} (h : Ku n b A w) (hn : n ≤ w.heap.size) (o : Obj) : Ku n b A (w.alloc o) :=
  h.trans ⟨rfl, rfl, rfl, by simp, fun i hi _ => Below.heap_alloc w o i (by omega)⟩
theorem Ku.setRow {n b : Nat} {A w : World} (h : Ku n b A w) {g : Nat} (hg : g = b ∨ n ≤ g) (cs : Array Value) : Ku n b A (w.setRow g cs) :=
  h.trans ⟨rfl, rfl, rfl, by rw [size_setRow]; exact Nat.le_refl _, fun i hi hb => heap_setRow _ _ _ _ (by omega)⟩
theorem Ku.putObj {n b : Nat} {A w : World} (h : Ku n b A w) {l : Nat} (hl : n ≤ l) (o : Obj) : Ku n b A (w.putObj l o) :=
  h.trans ⟨rfl, rfl, rfl, by simp, fun i hi hb => World.putObj_heap_other (by omega)⟩
theorem Ku.grown {n b : Nat} {A w w' : World} (h : Ku n b A w) {row : Option Nat} (hg : w.grownBy w' row) (hs : n ≤ w.heap.size) (hr : ∀ r, row = some r → n ≤ r) : Ku n b A w' :=
  h.trans ⟨hg.os, hg.tape, hg.output, hg.size, fun i hi hb => hg.block i (by omega) (fun e => by have := hr i e.symm; omega)⟩
theorem ku_b {n b : Nat} {w : World} (hn : n ≤ w.heap.size) (W : World) (l : Nat) (o o' : Obj) (hl : w.heap.size ≤ l) (_ : W.heap[l]? = some o) (_ : o.isCells = false) (_ : o.isWalk = false) : Ku n b W (W.putObj l o') :=
  (Ku.refl n b W).putObj (by omega) _
theorem Ku.own {β : Type} {n b B : Nat} {w0 : World} (hn : n ≤ w0.heap.size) (hB : n ≤ B) : OwnFrom B (fun (_ : β) W => Ku n b w0 W) :=
  fun _ X Y row hs hg hr => hs.grown hg (Nat.le_trans hn hs.size) (fun r e => by have := (hr r e).1; omega)
theorem Kp.ku {pb n b : Nat} {a w w' : World} (h : Kp pb a w) (k : Ku n b w w') (hn : a.heap.size ≤ n) (hb : a.heap.size ≤ b) : Kp pb a w' :=
  ⟨k.os.trans h.os, k.tape.trans h.tape, k.output.trans h.output, Nat.le_trans h.size k.size, fun i hi hne => (k.block i (by omega) (by omega)).trans (h.block i hi hne)⟩
theorem PA.ku {w w' : World} {pb sz n b : Nat} {s : St} (h : PA w pb sz s) (k : Ku n b w w') (hn : pb < n) (hb : pb < b) : PA w' pb sz s := by
  obtain ⟨v, hl, ht⟩ := h
  exact ⟨v, (k.block pb hn (by omega)).trans hl, ht.keep fun g hg => k.block g (by omega) (by omega)⟩

theorem OwnP.sameC {w w' : World} {P : Nat → Prop} {e : TypeId} {size n : Nat} {v : Value} {xs : List Value} (h : OwnP w P e size v n xs) (hs : ∀ g c t f, P g → w.heap[g]? = some (.cells c t f) → w'.heap[g]? = w.heap[g]?) : OwnP w' P e size v n xs := by
  refine ⟨h.1, ?_⟩
  rcases h.2 with h0 | ⟨g, cap, cur, h1, h2, h3, h4⟩
  · exact .inl h0
  · exact .inr ⟨g, cap, cur, h1, h2, (hs g _ _ _ h2 h3).trans h3, h4⟩
theorem HT.sameC {w w' : World} {P : Nat → Prop} {t : Tm} {cs : List Value} (h : HT w P t cs) (hs : ∀ g c t f, P g → w.heap[g]? = some (.cells c t f) → w'.heap[g]? = w.heap[g]?) : HT w' P t cs := by
  induction h with
  | mk k pos nm pm n kids arms kv av kc vv bc hk hkl _ hvl hbl ha hav _ ih1 ih2 =>
    exact .mk k pos nm pm n kids arms kv av kc vv bc ⟨hk.1, hk.2.sameC hs⟩ hkl ih1 hvl hbl ⟨ha.1, ha.2.sameC hs⟩ (fun i a v h1 h2 => (hav i a v h1 h2).sameC hs) ih2
/-- Cells abide the turn of a block that is none. -/
theorem cells_kept {w w' : World} {row : Option Nat} (hg : w.grownBy w' row) (hr : ∀ r, row = some r → ∃ o : Obj, w.heap[r]? = some o ∧ o.isCells = false) {g : Nat} {c : Array Value} {t : TypeId} {f : Nat × Nat} (h : w.heap[g]? = some (.cells c t f)) : w'.heap[g]? = w.heap[g]? :=
  hg.block g (lt_of_block h) (fun e => by
    obtain ⟨o, ho, hc⟩ := hr g e.symm
    rw [h] at ho
    cases ho
    cases hc)
theorem HT.kept {w w' : World} {P : Nat → Prop} {t : Tm} {cs : List Value} (h : HT w P t cs) {row : Option Nat} (hg : w.grownBy w' row) (hr : ∀ r, row = some r → ∃ o : Obj, w.heap[r]? = some o ∧ o.isCells = false) : HT w' P t cs :=
  h.sameC fun _ _ _ _ _ hc => cells_kept hg hr hc
theorem Lies.kept {w w' : World} {g : Nat} {t : TypeId} {cs : Array Value} (h : Lies w g t cs) {row : Option Nat} (hg : w.grownBy w' row) (hr : ∀ r, row = some r → ∃ o : Obj, w.heap[r]? = some o ∧ o.isCells = false) : Lies w' g t cs :=
  (cells_kept hg hr h).trans h

section
variable {F : Fence} {n : Nat} {P : Program} {ops : Array Oper} {rest : List Oper} {o : Oper} {a : Act} {w : World} {Q : Exit → Act → World → Prop}
theorem wpListIn_ran (hg : o.guard = none) (hnd : ∀ c, o.op ≠ .defer c) (hab : o.about P w a.eval = none) {v : Value} {w' : World} (hrun : (execOp a.eval o).run P w = .ok (.value v) w') (h : wpListIn F n P ops Q rest (a.put o.dst v) w') : wpListIn F n P ops Q (o :: rest) a w := by
  refine wpListIn_plain hg fun K hK => ?_
  unfold Oper.wpIn
  refine ⟨fun f hf => (by rw [hab] at hf; cases hf), ?_⟩
  rw [Oper.semAt_plain F _ _ hnd, hrun]
  exact hK _ _ h
theorem wpListIn_ranU (hg : o.guard = none) (hnd : ∀ c, o.op ≠ .defer c) (hab : o.about P w a.eval = none) {w' : World} (hrun : (execOp a.eval o).run P w = .ok .skip w') (h : wpListIn F n P ops Q rest (a.put o.dst undef) w') : wpListIn F n P ops Q (o :: rest) a w := by
  refine wpListIn_plain hg fun K hK => ?_
  unfold Oper.wpIn
  refine ⟨fun f hf => (by rw [hab] at hf; cases hf), ?_⟩
  rw [Oper.semAt_plain F _ _ hnd, hrun]
  exact hK _ _ h
theorem wpListIn_row_load (hgd : o.guard = none) (ty : TypeId) (x : Operand) (ho : o.op = .load ty x)
    (g : Nat) (hx : a.eval x = .pointer (some ⟨g, 0, none⟩)) (t : TypeId) (cs : Array Value) (fr : Nat × Nat) (d : TypeDesc) (hg : w.heap[g]? = some (.cells cs t fr))
    (hu : P.underlying ty = some d) (hd : (match d with | .struct _ | .array _ _ => true | _ => false) = true) (hi : (P.info? ty).map (·.size) = some cs.size)
    (h : wpListIn F n P ops Q rest (a.put o.dst (.agg cs)) w) : wpListIn F n P ops Q (o :: rest) a w :=
  wpListIn_ran hgd (by rw [ho]; intro c hc; cases hc) (by simp [Oper.about, ho]) (v := .agg cs) (by simp [execOp, ho, hx, Instr.loadAt, Instr.sureAddr, Result.andThen, run_loadVar_row w g t ty cs fr d hg hu hd hi]) h
theorem wpListIn_row_store (hgd : o.guard = none) (ty : TypeId) (x y : Operand) (ho : o.op = .store ty x y)
    (hd : o.dst = none) (g : Nat) (cells : Array Value) (hx : a.eval x = .pointer (some ⟨g, 0, none⟩)) (hy : a.eval y = .agg cells)
    (t : TypeId) (old : Array Value) (hg : w.heap[g]? = some (.cells old t (0, 0))) (hi : (P.info? ty).map (·.size) = some cells.size)
    (hold : old.size = cells.size) (h1 : cells.all (·.oneCell') = true)
    (h : wpListIn F n P ops Q rest a (w.setRow g cells)) : wpListIn F n P ops Q (o :: rest) a w := by
  refine wpListIn_plain hgd fun K hK => ?_
  unfold Oper.wpIn
  refine ⟨fun f hf => (by simp [Oper.about, ho] at hf), ?_⟩
  rw [Oper.semAt_plain F _ _ (by rw [ho]; intro c hc; cases hc)]
  have hr := run_storeVar_row (P := P) w g t ty old cells hg hi hold h1
  simp [execOp, ho, hx, hy, Instr.storeAt, Instr.sureAddr, Result.andThen, hr]
  have := hK _ _ h
  show K (a.put o.dst undef) _
  rw [hd]
  exact this
theorem wpListIn_slice_build (hg : o.guard = none) (t e : TypeId) (len : Nat) (parts : Array (Nat × Operand)) (ho : o.op = .buildSlice t len parts)
    (cells : Array Value) (ie : TypeInfo) (z : Value)
    (hu : P.underlying t = some (.slice e)) (hie : P.info? e = some ie) (hz : ie.zero = some z) (hsmall : ¬ len * ie.size > 2 ^ 24) (hpos : ¬ len * ie.size = 0)
    (hf : Instr.fill (fun i => some (i * ie.size, ie.size)) ((Array.range (len * ie.size)).map (z.cells[· % z.cells.size]!)) (parts.map fun (i, x) => (i, a.eval x)).toList = some cells)
    (h : wpListIn F n P ops Q rest (a.put o.dst (.slice (some ⟨w.heap.size, 0, none⟩) len len)) (w.alloc (.cells cells e))) : wpListIn F n P ops Q (o :: rest) a w := by
  refine wpListIn_ran hg (by rw [ho]; intro c hc; cases hc) (by simp [Oper.about, ho]) (v := .slice (some ⟨w.heap.size, 0, none⟩) len len) (w' := w.alloc (.cells cells e)) ?_ h
  unfold execOp
  simp only [ho, Sem.run_bind, run_buildSlice w t e len _ cells ie z hu hie hz hsmall hpos hf, Result.andThen_ok]
  rfl
end
end Go.Proofs.YtnkfkaahjplnmaaGreatDoor

/- The library's iterator from a slice's end: its contract at words. -/
namespace Go.Proofs.YtnkfkaahjplnmaaGreatDoor
open Go.RowKit Pz Go.Shelf
attribute [local go_sem] Oper.semAt_some

def encW (x : Nat × Lx.Tk) : Array Value := #[.int .i64 (x.1 : Int), tkV x.2]
def nth (zs : List Lx.Tk) (i : Nat) : Lx.Tk := zs[i]?.getD ⟨0, [], 0, 0⟩
/-- What has come when m rounds are over. -/
def downs (zs : List Lx.Tk) (m : Nat) : List (Nat × Lx.Tk) := (List.range m).map fun j => (zs.length - 1 - j, nth zs (zs.length - 1 - j))
theorem downs_succ (zs : List Lx.Tk) (m : Nat) : downs zs (m + 1) = downs zs m ++ [(zs.length - 1 - m, nth zs (zs.length - 1 - m))] := by simp [downs, List.range_succ]
theorem downs_length (zs : List Lx.Tk) (m : Nat) : (downs zs m).length = m := by simp [downs]
theorem downs_all (zs : List Lx.Tk) : (downs zs zs.length).map Prod.snd = zs.reverse := by
  apply List.ext_getElem
  · simp [downs]
  · intro i h1 h2
    have hi : i < zs.length := by simpa using h2
    simp only [downs, List.map_map, List.getElem_map, List.getElem_range, Function.comp, nth, List.getElem_reverse]
    rw [List.getElem?_eq_getElem (by omega), Option.getD_some]

set_option maxRecDepth 100000 in
set_option maxHeartbeats 2000000 in
theorem back_any (A : Option Addr) (n c : Nat) (w : World) : Calls Tryz.prog 107 #[.slice A n c] w fun e w' => e = .returned (.func (.func 114) #[] #[.pointer (some ⟨w.heap.size, 0, none⟩)]) ∧ w' = w.alloc (.cells #[.slice A n c] 24) := by
  go_enter Tryz.func107, Tryz.ntmps107
  go_wp2
  go_ret
  exact ⟨rfl, rfl⟩

set_option maxRecDepth 100000 in
set_option maxHeartbeats 2000000 in
theorem back1_in (n : Nat) (l Bs n1 b g len cap : Nat) (zs : List Lx.Tk) (hz : zs.length = len) (hcap : len ≤ cap) (hm : len ≤ 140737488351232) (hBs : Bs < n1) (hBb : Bs ≠ b) (hg : g < n1) (hgb : g ≠ b) (J Jx : List (Nat × Lx.Tk) → World → Prop)
    (hY : ∀ pre x W, J pre W → pre.length < len → YieldAt Fence.wide (n - 1) Tryz.prog l (encW x) W fun e W' =>
      (e = .returned (.bool true) ∧ J (pre ++ [x]) W' ∧ Ku n1 b W W') ∨ (e = .returned (.bool false) ∧ Jx (pre ++ [x]) W'))
    (W : World) (hs : W.cell? ⟨Bs, 0, none⟩ = some (.slice (some ⟨g, 0, none⟩) len cap))
    (hc : ∀ (i : Nat) x, zs[i]? = some x → W.cell? ⟨g, i * 4, none⟩ = some (.int .i64 (x.k : Int)) ∧ W.cell? ⟨g, i * 4 + 1, none⟩ = some (.string (ba x.t)) ∧ W.cell? ⟨g, i * 4 + 2, none⟩ = some (.int .i64 (x.n : Int)) ∧ W.cell? ⟨g, i * 4 + 3, none⟩ = some (.int .i64 (x.pos : Int)))
    (h0 : J [] W) :
    CallsIn Fence.wide n Tryz.prog 114 #[.func (.yield l) #[] #[], .pointer (some ⟨Bs, 0, none⟩)] W fun e W' => (∃ v, e = .returned v) ∧
      ((∃ ys, ys = downs zs len ∧ J ys W') ∨ (∃ pre, (∃ k, k ≤ len ∧ pre = downs zs k) ∧ Jx pre W')) := by
  have HC := Lib.hid hc
  have HY := Lib.hid hY
  have HS := Lib.hid hs
  clear hc hY
  refine callsIn_of_wp Tryz.func114 rfl trivial ?_ rfl
  simp only [Tryz.ntmps114, List.size_toArray, List.length_cons, List.length_nil, Nat.reduceAdd, Nat.reduceSub, Array.replicate_succ, Array.replicate_zero, List.push_toArray, List.append_toArray, List.nil_append, List.cons_append]
  gi_wp2
  clear hs
  gi_loopw [3] (fun i wr => ∃ k : Nat, k ≤ len ∧ i = .int .i64 ((len : Int) - 1 - k) ∧ J (downs zs k) wr ∧ Ku n1 b W wr)
    (fun i _ => (intOf i + 1).toNat)
  case atStart => exact ⟨0, Nat.zero_le _, by simp, h0, Ku.refl _ _ _⟩
  case round =>
    obtain ⟨k, hk, rfl, hJs, hnx⟩ := hrel
    have hs' : wr.cell? ⟨Bs, 0, none⟩ = some (.slice (some ⟨g, 0, none⟩) len cap) := (World.cell?_of_block (w := W) (hnx.block Bs hBs hBb)).trans HS.out
    by_cases hlt : k < len
    · have hx : zs[len - 1 - k]? = some (nth zs (len - 1 - k)) := by
        unfold nth
        rw [List.getElem?_eq_getElem (by omega), Option.getD_some]
      obtain ⟨a0, a1, a2, a3⟩ := HC.out _ _ hx
      have e : ∀ j, wr.cell? ⟨g, j, none⟩ = W.cell? ⟨g, j, none⟩ := fun j => World.cell?_of_block (w := W) (hnx.block g hg hgb)
      rw [← e] at a0 a1 a2 a3
      clear e hx
      obtain ⟨i, hi⟩ : ∃ i, i = len - 1 - k := ⟨_, rfl⟩
      obtain ⟨x, hx⟩ : ∃ x, x = nth zs (len - 1 - k) := ⟨_, rfl⟩
      rw [← hx, ← hi] at a0 a1 a2 a3
      have hYx := HY.out _ (i, x) wr hJs (by rw [downs_length]; exact hlt)
      obtain ⟨fn, tmps, assign, body, hy, hR⟩ := hYx
      simp only [encW, tkV] at hy
      have hidx : (len : Int) - 1 - (k : Int) = (i : Int) := by omega
      have hil : i < len := by omega
      have hic : i < cap := by omega
      have HI := Lib.hid hi
      have HX := Lib.hid hx
      clear hi hx
      rw [hidx]
      gi_wp2
      refine ⟨fun h => absurd h (by decide), hR.mono ?_⟩
      rintro e W3 (⟨rfl, hJ3, hk3⟩ | ⟨rfl, hJx3⟩)
      · gi_wp2
        go_roundw
        case rel =>
          refine ⟨k + 1, by omega, by congr 1; omega, ?_, hnx.trans hk3⟩
          rw [downs_succ, show zs.length = len from hz, ← HX.out, ← HI.out]
          exact hJ3
        case measure => (simp [intOf] <;> omega)
      · gi_wp2
        refine bodyPost_ret (results_none rfl _ _ _) rfl ?_
        refine ⟨⟨_, rfl⟩, .inr ⟨_, ⟨k + 1, by omega, rfl⟩, ?_⟩⟩
        rw [downs_succ, show zs.length = len from hz, ← HX.out, ← HI.out]
        exact hJx3
    · obtain rfl : k = len := by omega
      gi_wp2
      go_end0
      exact ⟨⟨_, rfl⟩, .inl ⟨_, rfl, hJs⟩⟩

set_option maxRecDepth 100000 in
set_option maxHeartbeats 1000000 in
/-- .. of no words. -/
theorem back1_nil (n : Nat) (l Bs : Nat) (A : Option Addr) (c : Nat) (J : List (Nat × Lx.Tk) → World → Prop) (W : World) (hs : W.cell? ⟨Bs, 0, none⟩ = some (.slice A 0 c)) (h0 : J [] W) :
    CallsIn Fence.wide n Tryz.prog 114 #[.func (.yield l) #[] #[], .pointer (some ⟨Bs, 0, none⟩)] W fun e W' => (∃ v, e = .returned v) ∧ J [] W' := by
  refine callsIn_of_wp Tryz.func114 rfl trivial ?_ rfl
  simp only [Tryz.ntmps114, List.size_toArray, List.length_cons, List.length_nil, Nat.reduceAdd, Nat.reduceSub, Array.replicate_succ, Array.replicate_zero, List.push_toArray, List.append_toArray, List.nil_append, List.cons_append]
  gi_wp2
  gi_loopw [3] (fun i wr => i = .int .i64 (-1) ∧ J [] wr) (fun _ _ => 0)
  case atStart => exact ⟨rfl, h0⟩
  case round =>
    obtain ⟨rfl, hJs⟩ := hrel
    gi_wp2
    go_end0
    exact ⟨⟨_, rfl⟩, hJs⟩

theorem back_stops (n : Nat) (Bs n1 b : Nat) (v : Value) (zs : List Lx.Tk) (w : World) (hm : zs.length ≤ 140737488351232) (hBs : Bs < n1) (hBb : Bs ≠ b) (hn1 : n1 ≤ w.heap.size)
    (hs : w.cell? ⟨Bs, 0, none⟩ = some v) (hv : (∃ A c, v = .slice A 0 c ∧ zs = []) ∨ ∃ g cap, v = .slice (some ⟨g, 0, none⟩) zs.length cap ∧ zs.length ≤ cap ∧ g < n1 ∧ g ≠ b ∧
      ∀ (i : Nat) x, zs[i]? = some x → w.cell? ⟨g, i * 4, none⟩ = some (.int .i64 (x.k : Int)) ∧ w.cell? ⟨g, i * 4 + 1, none⟩ = some (.string (ba x.t)) ∧ w.cell? ⟨g, i * 4 + 2, none⟩ = some (.int .i64 (x.n : Int)) ∧ w.cell? ⟨g, i * 4 + 3, none⟩ = some (.int .i64 (x.pos : Int))) :
    SeqStopsK Fence.wide n Tryz.prog 114 #[.pointer (some ⟨Bs, 0, none⟩)] encW (Ku n1 b) (fun ys => ys = downs zs zs.length) (fun pre => ∃ k, k ≤ zs.length ∧ pre = downs zs k) zs.length w := fun l J Jx W hW _ _ hY h0 => by
  have hcell : ∀ g j, g < n1 → W.cell? ⟨g, j, none⟩ = w.cell? ⟨g, j, none⟩ := fun g j hg => World.cell?_of_block (w := w) (hW.block g (by omega))
  rcases hv with ⟨A, c, rfl, rfl⟩ | ⟨g, cap, rfl, hcap, hg, hgb, hc⟩
  · exact (back1_nil n l Bs A c J W ((hcell _ _ hBs).trans hs) h0).mono fun e W' ⟨he, hj⟩ => ⟨he, .inl ⟨_, rfl, hj⟩⟩
  · refine back1_in n l Bs n1 b g zs.length cap zs rfl hcap hm hBs hBb hg hgb J Jx hY W ((hcell _ _ hBs).trans hs) (fun i x hx => ?_) h0
    rw [hcell _ _ hg, hcell _ _ hg, hcell _ _ hg, hcell _ _ hg]
    exact hc i x hx
end Go.Proofs.YtnkfkaahjplnmaaGreatDoor

/- The contract of what reads a unary term. -/
namespace Go.Proofs.YtnkfkaahjplnmaaGreatDoor
open Go.RowKit Pz Go.Shelf
attribute [local go_sem] Oper.semAt_some

theorem ahead_no {s : St} (h : pre s = false) (n : Nat) : Pz.ahead n s = ([], s) := by
  cases n with
  | zero => rfl
  | succ n => unfold Pz.ahead; rw [h]; rfl
theorem ahead_yes {s : St} (h : pre s = true) (n : Nat) : Pz.ahead (n + 1) s = (hd s :: (Pz.ahead n (take s)).1, (Pz.ahead n (take s)).2) := by rw [Pz.ahead, if_pos h]
structure AhRel (pb sz n N : Nat) (w : World) (res : List Lx.Tk × St) (g : Nat) (v : Value) (wr : World) (zs : List Lx.Tk) (s : St) : Prop where
  goes : Goes pb sz w s wr
  out : Lies wr N 39 zC
  own : wr.ownsRow (N + 1) 47 4 v zs.length (wordsC zs)
  lg : s.ws.length ≤ g
  ln : zs.length + s.ws.length ≤ n
  res : res = (zs ++ (Pz.ahead g s).1, (Pz.ahead g s).2)
def AhAny (pb sz n N : Nat) (w : World) (res : List Lx.Tk × St) (g : Nat) (v : Value) (wr : World) : Prop := ∃ zs s, AhRel pb sz n N w res g v wr zs s
theorem pre_T {s : St} (h : isT [tPrint, tRef, tBang] s = true) : pre s = true := by unfold pre; rw [h]; rfl
theorem pre_F {s : St} (h : isT [tPrint, tRef, tBang] s = false) : pre s = isOf [6] s := by unfold pre; rw [h]; rfl

theorem enter_back (args : Array Value) (w : World) : (callFunc 114 args).run Tryz.prog w = .ok (.enter 114 args) w := by go_simp
/-- Between two rounds: the term so far. -/
def UnI (N b n1 : Nat) (W0 : World) (t0 : Tm) (pre : List (Nat × Lx.Tk)) (W : World) : Prop :=
  (∃ l, Lies W b 39 l.toArray ∧ HT W (fun g => N < g ∧ g ≠ b) (pre.foldl (fun t x => wrap x.2 t) t0) l) ∧ Ku n1 b W0 W
theorem unI_own {N b n1 B : Nat} {W0 : World} {t0 : Tm} (hn : n1 ≤ W0.heap.size) (hB : n1 ≤ B) : OwnFrom B (UnI N b n1 W0 t0) := by
  intro pre X Y row ⟨⟨l, h1, h2⟩, h3⟩ hg hr
  have hr' : ∀ r, row = some r → ∃ o : Obj, X.heap[r]? = some o ∧ o.isCells = false := fun r e => (hr r e).2
  exact ⟨⟨l, Lies.kept h1 hg hr', h2.kept hg hr'⟩, Ku.own (β := Unit) hn hB () X Y row h3 hg hr⟩

theorem un_step {N b : Nat} {W : World} {T : Tm} {l' : List Value} {x : Lx.Tk} {kk : Nat} (hk : (if x.k = 6 then 13 else 10) = kk) (hT : HT W (fun g => N < g ∧ g ≠ b) T l') (hN : N < W.heap.size) (hb : b < W.heap.size) :
    HT ((W.alloc (.cells l'.toArray 39)).setRow b (tmC kk x.pos x.t [] 0 (.slice (some ⟨W.heap.size, 0, none⟩) 1 1) (.slice none 0 0)).toArray) (fun g => N < g ∧ g ≠ b) (wrap x T) (tmC kk x.pos x.t [] 0 (.slice (some ⟨W.heap.size, 0, none⟩) 1 1) (.slice none 0 0)) := by
  have hlen := hT.len
  have h1 := Rw.lit W (fun g => N < g ∧ g ≠ b) 39 21 [l'] (by simpa using hlen) rfl ⟨hN, by omega⟩ (n := 1) rfl (by unfold maxLen; omega)
  have e1 : [l'].flatten = l' := by simp
  rw [e1] at h1
  unfold wrap
  rw [hk]
  refine HT.kids kk x.pos x.t [] 0 (kc := [l']) ⟨h1.1, h1.2.same (fun g hg _ => heap_setRow _ _ _ _ hg.2)⟩ rfl ?_
  intro i tt c h2 h3
  match i, h2, h3 with
  | 0, h2, h3 =>
    simp at h2 h3
    subst h2 h3
    exact HT.setRow (hT.later (below_new _ _)) (fun g hg => hg.2) _
  | i + 1, h2, _ => simp at h2
theorem un_keeps {B b : Nat} {W : World} (hb : b < B) (o : Obj) (cs : Array Value) : KeepsFrom B W ((W.alloc o).setRow b cs) :=
  ⟨by rw [size_setRow]; simp, fun k o' hk h0 _ => by
    rw [heap_setRow _ _ _ _ (by omega)]
    exact (Below.heap_alloc W o k (Array.getElem?_eq_some_iff.1 h0).1).trans h0⟩
/-- A round of unary's loop. -/
theorem un_round {N b n1 : Nat} {W0 W : World} {t0 : Tm} {pre : List (Nat × Lx.Tk)} {x : Nat × Lx.Tk} {l' : List Value} {kk : Nat} (hk : (if x.2.k = 6 then 13 else 10) = kk) (hn : n1 ≤ W0.heap.size) (hbn : b < n1) (hNn : N < n1)
    (hB : Lies W b 39 l'.toArray) (hT : HT W (fun g => N < g ∧ g ≠ b) (pre.foldl (fun t x => wrap x.2 t) t0) l') (hK : Ku n1 b W0 W) :
    KeepsFrom W0.heap.size W ((W.alloc (.cells l'.toArray 39)).setRow b (tmC kk x.2.pos x.2.t [] 0 (.slice (some ⟨W.heap.size, 0, none⟩) 1 1) (.slice none 0 0)).toArray) ∧
    Ku n1 b W ((W.alloc (.cells l'.toArray 39)).setRow b (tmC kk x.2.pos x.2.t [] 0 (.slice (some ⟨W.heap.size, 0, none⟩) 1 1) (.slice none 0 0)).toArray) ∧
    UnI N b n1 W0 t0 (pre ++ [x]) ((W.alloc (.cells l'.toArray 39)).setRow b (tmC kk x.2.pos x.2.t [] 0 (.slice (some ⟨W.heap.size, 0, none⟩) 1 1) (.slice none 0 0)).toArray) := by
  have hs := hK.size
  have hk2 := ((Ku.refl n1 b W).alloc (by omega) (.cells l'.toArray 39)).setRow (.inl rfl) (tmC kk x.2.pos x.2.t [] 0 (.slice (some ⟨W.heap.size, 0, none⟩) 1 1) (.slice none 0 0)).toArray
  refine ⟨un_keeps (by omega) _ _, hk2, ⟨_, (hB.alloc _).setRow _, ?_⟩, hK.trans hk2⟩
  rw [List.foldl_append]
  exact un_step hk hT (by omega) (by omega)

set_option maxRecDepth 100000 in
set_option maxHeartbeats 4000000 in
theorem unary_any (ex : St → Tm × St) (pb sz n : Nat) (hxn : Nice ex) (hx : ExOK ex pb sz n) (hnb : n ≤ 2000000) (w : World) (s : St) (hp : PA w pb sz s) (hn : s.ws.length ≤ n) :
    Calls Tryz.prog 101 #[.pointer (some ⟨pb, 0, none⟩)] w (TermEnd pb sz (fun g => w.heap.size ≤ g) w (unary sz ex s)) := by
  have hplt := hp.lt
  have l0 := Lies.new w 39 zC
  have hp1 := hp.alloc (.cells zC 39)
  have hk1 := (Kp.refl pb w).alloc (.cells zC 39)
  have hst : AhRel pb sz n w.heap.size w (Pz.ahead s.ws.length s) s.ws.length (.slice none 0 0) (w.alloc (.cells zC 39)) [] s :=
    ⟨⟨hp1, hk1⟩, l0, World.ownsRow_nil _ _ _ _, Nat.le_refl _, by simp; omega, by simp⟩
  obtain ⟨i0, hi, hz0, hz1, hz2⟩ := info_parts Tryz.info47
  obtain ⟨ie, hie, hiz, his⟩ := info39
  unfold unary
  dsimp only
  unfold zC at hst
  clear l0 hp1 hk1
  refine callsIn_wide (n := 9) |>.1 (callsIn_of_wp_marks Tryz.func101 rfl trivial ?_ rfl)
  refine wpIn_wide.2 ?_
  simp only [Tryz.ntmps101, List.size_toArray, List.length_cons, List.length_nil, Nat.reduceAdd, Nat.reduceSub, Array.replicate_succ, Array.replicate_zero, List.push_toArray, List.append_toArray, List.nil_append, List.cons_append]
  go_wp2_with fail
  go_loopg [3] s.ws.length (fun g v wr => AhAny pb sz n w.heap.size w (Pz.ahead s.ws.length s) g v wr)
  case atStart => exact ⟨_, _, hst⟩
  case round =>
    obtain ⟨zs, s', hR⟩ := hrel
    clear hst
    have hgo := hR.goes
    have HR := Lib.hid hR
    have hown := hR.own
    clear hR
    have hvs : ∃ A k c, u3 = .slice A k c := by rcases (OwnP.of hown).2 with ⟨h, _⟩ | ⟨g, cap, cur, h, _⟩ <;> exact ⟨_, _, _, h⟩
    obtain ⟨A3, k3, c3, rfl⟩ := hvs
    have hb1 := below_new wr (.cells #[.string (ba tPrint), .string (ba tRef), .string (ba tBang)] 9)
    have hS1 : Sl (wr.alloc (.cells #[.string (ba tPrint), .string (ba tRef), .string (ba tBang)] 9)) (.slice (some ⟨wr.heap.size, 0, none⟩) 3 3) [tPrint, tRef, tBang] := Sl.new [tPrint, tRef, tBang] rfl (by simp) 3 3 rfl rfl
    have hI := is_any _ [tPrint, tRef, tBang] _ pb sz s' (hgo.pa.below hb1) hS1
    have hgo1 := hgo.below hb1
    cases hT : isT [tPrint, tRef, tBang] s'
    · rw [hT] at hI
      have HI := Lib.hid hI
      clear hI hS1
      go_wp2_with fail
      refine HI.out.mono ?_
      rintro e w2 ⟨rfl, hb2⟩
      have hgo2 := hgo1.below hb2
      have hb3 := below_new w2 (.cells #[.int .i64 6] 3)
      have hS3 : Il (w2.alloc (.cells #[.int .i64 6] 3)) (.slice (some ⟨w2.heap.size, 0, none⟩) 1 1) [6] := Il.new [6] (by simp) (by simp) 1 1 rfl rfl
      have hO := isOf_any _ [6] _ pb sz s' (hgo2.pa.below hb3) hS3
      have hgo3 := hgo2.below hb3
      cases hO6 : isOf [6] s'
      · rw [hO6] at hO
        have HO := Lib.hid hO
        clear hO hS3
        go_wp2_with fail
        refine HO.out.mono ?_
        rintro e w3 ⟨rfl, rfl⟩
        go_wp2_with fail
        refine (app_any ex pb sz n hxn hx hnb _ s' hgo3.pa (by have := HR.out.ln; omega)).mono ?_
        rintro e w4 ⟨l, rfl, ht, hg4⟩
        have hG4 := hgo3.trans hg4
        have lz := Lies.new w4 39 zC
        unfold zC at lz
        have hlen := ht.len
        have HL := Lib.hid hlen
        have ht1 := ht.one
        clear hlen HO HI
        go_wp2_with (first | (refine wpList_store_rowTo rfl 39 (.tmp 4) (.tmp 28) rfl rfl _ _ rfl rfl 39 _ lz (by rw [sz39]; simp [HL.out]) (by simp [HL.out]) ht1 ?_; rw [set_new rfl]) | (go_at_call 107; refine (back_any _ _ _ _).mono ?_; rintro e w5 ⟨rfl, rfl⟩))
        obtain ⟨W0, hW0⟩ : ∃ W0, W0 = (w4.alloc (Obj.cells l.toArray 39)).alloc (Obj.cells #[Value.slice A3 k3 c3] 24) := ⟨_, rfl⟩
        have hb40 : Below w4.heap.size w4 W0 := by rw [hW0]; exact ((Below.refl _ _).alloc (Nat.le_refl _) _).alloc (by simp) _
        have hz0' : W0.heap.size = w4.heap.size + 2 := by rw [hW0]; simp
        have hs0 : W0.cell? ⟨w4.heap.size + 1, 0, none⟩ = some (.slice A3 k3 c3) := by
          rw [hW0]
          have := (Lies.new' (w4.alloc (Obj.cells l.toArray 39)) 24 #[Value.slice A3 k3 c3] (N := w4.heap.size + 1) (by simp)).cell 0
          exact this
        have hB4 : Lies W0 w4.heap.size 39 l.toArray := by rw [hW0]; exact (Lies.new w4 _ _).alloc _
        have hwr4 : Kp pb wr w4 := ((((Kp.refl pb wr).below hb1 (Nat.le_refl _)).below hb2 hb1.size).below hb3 (Nat.le_trans hb1.size hb2.size)).trans hg4.kp
        have hszr : w.heap.size < wr.heap.size := HR.out.out.lt
        have hsz4 : wr.heap.size ≤ w4.heap.size := hwr4.size
        have hsz2 : wr.heap.size ≤ w2.heap.size := Nat.le_trans hb1.size hb2.size
        have hres : (Pz.ahead s.ws.length s) = (zs, s') := by
          rw [HR.out.res, ahead_no (by rw [pre_F hT, hO6])]
          simp
        have hN4 : Lies W0 w.heap.size 39 zC := (hwr4.lies HR.out.out (by omega)).later hb40
        have hown4 := (OwnP.of hown).same (w' := W0) (fun g hg hlt => ((hb40.block g (by omega)).trans (hwr4.block g hlt (fun e => by
          have h1 : g = pb := by injection e
          have h2 : w.heap.size + 1 ≤ g := hg
          omega))))
        have hT0 : HT W0 (fun g => w.heap.size < g ∧ g ≠ w4.heap.size) (app sz ex s').1 l := by
          refine (ht.lt.later hb40).mono (fun g hg _ => ?_)
          have h1 := hg.1
          have h2 := hg.2
          simp at h1
          omega
        have hPA0 : PA W0 pb sz (app sz ex s').2 := hg4.pa.below hb40
        have hKp0 : Kp pb w W0 := hG4.kp.below hb40 (hG4.kp.size)
        have hI0 : UnI w.heap.size w4.heap.size (w4.heap.size + 2) W0 (app sz ex s').1 [] W0 := ⟨⟨l, hB4, hT0⟩, Ku.refl _ _ _⟩
        have hln := HR.out.ln
        have hv0 : (∃ A c, Value.slice A3 k3 c3 = .slice A 0 c ∧ zs = []) ∨ ∃ g cap, Value.slice A3 k3 c3 = .slice (some ⟨g, 0, none⟩) zs.length cap ∧ zs.length ≤ cap ∧ g < w4.heap.size + 2 ∧ g ≠ w4.heap.size ∧
            ∀ (i : Nat) x, zs[i]? = some x → W0.cell? ⟨g, i * 4, none⟩ = some (.int .i64 (x.k : Int)) ∧ W0.cell? ⟨g, i * 4 + 1, none⟩ = some (.string (ba x.t)) ∧ W0.cell? ⟨g, i * 4 + 2, none⟩ = some (.int .i64 (x.n : Int)) ∧ W0.cell? ⟨g, i * 4 + 3, none⟩ = some (.int .i64 (x.pos : Int)) := by
          rcases (OwnP.of hown).2 with ⟨h1, h2⟩ | ⟨g, cap, cur, h1, hP, hh, hle, hm, hsz, htk⟩
          · refine .inl ⟨none, 0, ?_, List.length_eq_zero_iff.1 h2⟩
            rw [h1]
          · have hgl : g < wr.heap.size := lt_of_block hh
            have hP' : w.heap.size + 1 ≤ g := hP
            refine .inr ⟨g, cap, h1, hle, by omega, by omega, fun i x hx => ?_⟩
            have hl0 : Lies W0 g 47 cur := ((hb40.block g (by omega)).trans (hwr4.block g hgl (fun e => by
              have h1 : g = pb := by injection e
              omega))).trans hh
            have hi4 : i < zs.length := (List.getElem?_eq_some_iff.1 hx).1
            have hc : ∀ j u, (wordsC zs)[j]? = some u → W0.cell? ⟨g, j, none⟩ = some u := by
              intro j u hj
              rw [hl0.cell, ← Array.getElem?_toList]
              rw [← htk] at hj
              have hj' := hj
              rw [List.getElem?_take] at hj
              split at hj
              · exact hj
              · cases hj
            obtain ⟨a1, a2, a3, a4⟩ := words_at zs i x hx
            exact ⟨hc _ _ a1, hc _ _ a2, hc _ _ a3, hc _ _ a4⟩
        rw [← hW0]
        refine wpIn_wide (n := 9) |>.1 ?_
        refine wpIn_rangeFunc_ownH (F := Fence.wide) (n := 9) rfl (by decide) (gf := 114) (lb := #[.pointer (some ⟨w4.heap.size + 1, 0, none⟩)]) rfl trivial enter_back
          (back_stops 8 (w4.heap.size + 1) (w4.heap.size + 2) w4.heap.size _ zs W0 (by omega) (by omega) (by omega) (by omega) hs0 hv0) Ku.trans (ku_b (by omega)) (Below.refl _ _) (fun _ => rfl)
          (UnI w.heap.size w4.heap.size (w4.heap.size + 2) W0 (app sz ex s').1) (fun _ _ _ => False) (unI_own (by omega) (by omega)) (fun _ _ _ _ _ h _ _ => h) hI0
          (fun x a' W => ∃ B6, w4.heap.size + 2 ≤ B6 ∧ Lies W B6 47 (tkC x.2).toArray ∧ a' = { tmps := #[Value.pointer (some { block := pb, off := 0 }), undef,
          Value.pointer (some { block := w.heap.size, off := 0 }), Value.slice A3 k3 c3,
          Value.pointer (some { block := w4.heap.size, off := 0 }), undef, .pointer (some ⟨B6, 0, none⟩), undef,
          Value.pointer (some { block := pb, off := 0 }), Value.pointer (some { block := pb, off := 0 }),
          Value.pointer (some { block := pb, off := 0 }), Value.slice (some { block := wr.heap.size, off := 0 }) 3 3,
          Value.bool false, Value.bool false, Value.pointer (some { block := pb, off := 0 }),
          Value.pointer (some { block := pb, off := 0 }), Value.pointer (some { block := pb, off := 0 }),
          Value.slice (some { block := w2.heap.size, off := 0 }) 1 1, Value.bool false, Value.bool false, u20, u21, u22,
          u23, u24, u25, u26, Value.pointer (some { block := pb, off := 0 }), Value.agg l.toArray, Value.slice A3 k3 c3,
          Value.func (Fn.func 114) #[] #[Value.pointer (some { block := w4.heap.size + 1, off := 0 })], .int .i64 (x.1 : Int), tkV x.2,
          undef, undef, undef, undef, undef, undef, undef, undef, undef, undef, undef, undef], defers := [] })
          (fun x a' _ X Y row ⟨B6, h1, h2, h3⟩ hg hr => ⟨B6, h1, Lies.kept h2 hg (fun r e => (hr r e).2), h3⟩) ?assign ?body ?done ?stop
        case stop => exact fun D c pre W _ _ h _ => h.elim
        case assign =>
          intro l2 pre x W K hi hK
          have hszW : w4.heap.size + 2 ≤ W.heap.size := by have := hi.2.size; omega
          dsimp only [encW, tkV]
          gi_wp2
          exact hK _ _ ((KeepsOthers.alloc _ _).from _) ((Ku.refl _ _ _).alloc hszW _) ((unI_own (by omega) (Nat.le_of_eq hz0'.symm)).alloc _ hi) ⟨W.heap.size, hszW, Lies.new _ _ _, rfl⟩
        case body =>
          rintro l2 pre x a' W hl2 ⟨r, hr⟩ ⟨⟨l', hB, hT'⟩, hK'⟩ ⟨B6, hB6, hw6, rfl⟩ hlt
          have hlen' := hT'.len
          have HL' := Lib.hid hlen'
          have ht1' := hT'.one
          have a0 := hw6.cell 0
          have a1 := hw6.cell 1
          have a3 := hw6.cell 3
          simp only [tkC] at a0 a1 a3
          have hrd := fun kk (hk : (if x.2.k = 6 then 13 else 10) = kk) => un_round hk (by omega) (by omega) (by omega) hB hT' hK'
          have HRD := Lib.hid hrd
          clear hrd
          by_cases hk6 : x.2.k = 6
          · have hk6' : (x.2.k : Int) = 6 := by omega
            rw [hk6'] at a0
            gi_wp2_with (first | (refine wpListIn_row_load rfl 39 (.tmp 4) rfl _ rfl 39 _ (0, 0) _ hB Tryz.underlying39 rfl (by rw [sz39]; simp [HL'.out]) ?_) | (refine wpListIn_slice_build rfl 30 39 1 _ rfl l'.toArray ie (.agg zC) Tryz.underlying30 hie hiz (by rw [his]; decide) (by rw [his]; decide) (by rw [his, Array.toList_map]; exact fill_row (sz := 21) (by decide) l' HL'.out ((Array.range (1 * 21)).map ((Value.agg zC).cells[· % (Value.agg zC).cells.size]!)) (by simp)) ?_) | (refine wpListIn_row_store rfl 39 (.tmp 4) (.tmp 43) rfl rfl _ _ rfl rfl 39 _ (hB.alloc _) sz39 (by simp [HL'.out]) (by kernel_rfl) ?_))
            exact HRD.out 13 (if_pos hk6)
          · have hk6' : ((x.2.k : Int) == 6) = false := by simp; omega
            gi_wp2_with (first | (refine wpListIn_row_load rfl 39 (.tmp 4) rfl _ rfl 39 _ (0, 0) _ hB Tryz.underlying39 rfl (by rw [sz39]; simp [HL'.out]) ?_) | (refine wpListIn_slice_build rfl 30 39 1 _ rfl l'.toArray ie (.agg zC) Tryz.underlying30 hie hiz (by rw [his]; decide) (by rw [his]; decide) (by rw [his, Array.toList_map]; exact fill_row (sz := 21) (by decide) l' HL'.out ((Array.range (1 * 21)).map ((Value.agg zC).cells[· % (Value.agg zC).cells.size]!)) (by simp)) ?_) | (refine wpListIn_row_store rfl 39 (.tmp 4) (.tmp 43) rfl rfl _ _ rfl rfl 39 _ (hB.alloc _) sz39 (by simp [HL'.out]) (by kernel_rfl) ?_))
            exact HRD.out 10 (if_neg hk6)
        case done =>
          rintro D ys W hD rfl ⟨⟨l', hB, hT'⟩, hK'⟩ hDD
          have hlen' := hT'.len
          have HL' := Lib.hid hlen'
          have ht1' := hT'.one
          have hN := (hK'.block w.heap.size (by omega) (by omega)).trans hN4
          unfold zC at hN
          go_wp2_with (first | (refine wpList_load_row rfl 39 (.tmp 4) rfl _ rfl 39 _ (0, 0) _ hB Tryz.underlying39 rfl (by rw [sz39]; simp [HL'.out]) ?_) | (refine wpList_store_rowTo rfl 39 (.tmp 2) (.tmp 44) rfl rfl _ _ rfl rfl 39 _ hN (by rw [sz39]; simp [HL'.out]) (by simp [HL'.out]) ht1' ?_))
          have hDD2 : (W.setRow w.heap.size l'.toArray).heap[D]? = some (.deferred (some [])) := (heap_setRow _ _ _ _ (by omega)).trans hDD
          refine ⟨by simp, .inl ⟨_, _, rfl, run_takeDeferred hDD2, ?_⟩⟩
          have hDne : w.heap.size ≠ D := by omega
          have hNf := (World.putObj_heap_other (o := (.deferred none)) (w := W.setRow w.heap.size l'.toArray) (r := D) hDne).trans (Lies.setRow hN l'.toArray)
          refine ⟨.agg l'.toArray, results_cell_row rfl _ _ w.heap.size 39 l'.toArray (0, 0) _ rfl hNf Tryz.underlying39 rfl (by rw [sz39]; simp [HL'.out]), ?_⟩
          have hfold : (downs zs zs.length).foldl (fun t x => wrap x.2 t) (app sz ex s').1 = zs.foldr wrap (app sz ex s').1 := by
            have h1 : (downs zs zs.length).foldl (fun t x => wrap x.2 t) (app sz ex s').1 = ((downs zs zs.length).map Prod.snd).foldl (fun t x => wrap x t) (app sz ex s').1 := by rw [List.foldl_map]
            rw [h1, downs_all, List.foldl_reverse]
          rw [hres]
          rw [hfold] at hT'
          refine ⟨l', rfl, ?_, ?_, ?_⟩
          · exact ((hT'.setRow (fun k hk => by have := hk.1; omega) _).kept (grownBy_putObj' _ D _) (fun r e => by cases e; exact ⟨_, hDD2, rfl⟩)).mono (fun g hg _ => Nat.le_of_lt hg.1)
          · exact ((hPA0.ku hK' (by omega) (by omega)).setRow hplt _).ku ((Ku.refl w.heap.size w.heap.size _).putObj (by omega) _) hplt hplt
          · exact ((hKp0.ku hK' (by omega) (by omega)).setRow (Nat.le_refl _) _).ku ((Ku.refl w.heap.size w.heap.size _).putObj (by omega) _) (Nat.le_refl _) (Nat.le_refl _)
      · have hpre : pre s' = true := by rw [pre_F hT, hO6]
        obtain ⟨x, r, hw⟩ := ws_cons (pre_pos hpre)
        have hln := HR.out.ln
        have hlg := HR.out.lg
        have htl := take_lt (pre_pos hpre)
        rw [hO6] at hO
        have HO := Lib.hid hO
        clear hO hS3
        go_wp2_with fail
        refine HO.out.mono ?_
        rintro e w3 ⟨rfl, rfl⟩
        go_wp2_with fail
        refine (take_any _ pb sz s' hgo3.pa x r hw).mono ?_
        rintro e w4 ⟨rfl, hg4⟩
        have hG4 := hgo3.trans hg4
        have hK4 : Kp pb wr w4 := ((((Kp.refl pb wr).below hb1 (Nat.le_refl _)).below hb2 hb1.size).below hb3 (Nat.le_trans hb1.size hb2.size)).trans hg4.kp
        have hszr : w.heap.size < wr.heap.size := HR.out.out.lt
        have hsz4 := hK4.size
        have hown4 : w4.ownsRow (w.heap.size + 1) 47 4 (.slice A3 k3 c3) zs.length (wordsC zs) := (OwnP.of hown).same (fun g hg hlt => hK4.block g hlt (fun e => by
          have h1 : g = pb := by injection e
          have h2 : w.heap.size + 1 ≤ g := hg
          omega))
        have hN4 := hK4.lies HR.out.out (by omega)
        clear hown
        unfold tkV
        go_wp2_with (first | (at_builtin; go_loud (refine wpList_append_own_at _ rfl (.tmp 20) (.tmp 25) 24 rfl (w.heap.size + 1) 47 i0 (.agg #[.int .i64 0, .string ⟨#[]⟩, .int .i64 0, .int .i64 0]) 4 40 Tryz.underlying24 hi hz0 hz1 hz2 rfl (by decide) _ zs.length (wordsC zs) rfl (own_later hown4 (below_new w4 (.cells (tkC x).toArray 47))) ⟨w4.heap.size, 0, none⟩ 1 1 (tkC x) rfl rfl (new_cells _ _ _ rfl) ?c2 (by unfold maxLen; omega) (by omega) (by simp; omega) ?_)))
        case c2 =>
          intro u hu
          simp only [tkC, List.mem_cons, List.not_mem_nil, or_false] at hu
          rcases hu with rfl | rfl | rfl | rfl <;> rfl
        intro v' w5 hown5 hgr _ hat
        go_wp2_with fail
        go_roundg (gk - 1)
        case measure => omega
        case rel =>
          have hrow : ∀ q, Value.ownBlock (.slice A3 k3 c3) = some q → w.heap.size + 1 ≤ q := fun q hq => (own_block hown4 q hq).1
          refine ⟨zs ++ [x], take s', ⟨(hG4.pa.alloc _).grown hgr (fun q hq => by have := hrow q hq; omega), (hG4.kp.alloc _).grown hgr (fun q hq => by have := hrow q hq; omega)⟩, ?_, ?_, by omega, by simp; omega, ?_⟩
          · exact (hN4.alloc _).grown hgr (fun e => by have := hrow _ e.symm; omega)
          · rw [wordsC_snoc, List.length_append]; exact hown5
          · have hr := HR.out.res
            obtain ⟨g', rfl⟩ : ∃ g', gk = g' + 1 := ⟨gk - 1, by omega⟩
            rw [ahead_yes hpre, hd_cons hw] at hr
            rw [hr]
            simp
    · have hpre : pre s' = true := pre_T hT
      obtain ⟨x, r, hw⟩ := ws_cons (pre_pos hpre)
      have hln := HR.out.ln
      have hlg := HR.out.lg
      have htl := take_lt (pre_pos hpre)
      rw [hT] at hI
      have HI := Lib.hid hI
      clear hI hS1
      go_wp2_with fail
      refine HI.out.mono ?_
      rintro e w2 ⟨rfl, hb2⟩
      have hgo2 := hgo1.below hb2
      go_wp2_with fail
      refine (take_any _ pb sz s' hgo2.pa x r hw).mono ?_
      rintro e w4 ⟨rfl, hg4⟩
      have hG4 := hgo2.trans hg4
      have hK4 : Kp pb wr w4 := (((Kp.refl pb wr).below hb1 (Nat.le_refl _)).below hb2 hb1.size).trans hg4.kp
      have hszr : w.heap.size < wr.heap.size := HR.out.out.lt
      have hsz4 := hK4.size
      have hown4 : w4.ownsRow (w.heap.size + 1) 47 4 (.slice A3 k3 c3) zs.length (wordsC zs) := (OwnP.of hown).same (fun g hg hlt => hK4.block g hlt (fun e => by
        have h1 : g = pb := by injection e
        have h2 : w.heap.size + 1 ≤ g := hg
        omega))
      have hN4 := hK4.lies HR.out.out (by omega)
      clear hown
      unfold tkV
      go_wp2_with (first | (at_builtin; go_loud (refine wpList_append_own_at _ rfl (.tmp 20) (.tmp 25) 24 rfl (w.heap.size + 1) 47 i0 (.agg #[.int .i64 0, .string ⟨#[]⟩, .int .i64 0, .int .i64 0]) 4 40 Tryz.underlying24 hi hz0 hz1 hz2 rfl (by decide) _ zs.length (wordsC zs) rfl (own_later hown4 (below_new w4 (.cells (tkC x).toArray 47))) ⟨w4.heap.size, 0, none⟩ 1 1 (tkC x) rfl rfl (new_cells _ _ _ rfl) ?c2 (by unfold maxLen; omega) (by omega) (by simp; omega) ?_)))
      case c2 =>
        intro u hu
        simp only [tkC, List.mem_cons, List.not_mem_nil, or_false] at hu
        rcases hu with rfl | rfl | rfl | rfl <;> rfl
      intro v' w5 hown5 hgr _ hat
      go_wp2_with fail
      go_roundg (gk - 1)
      case measure => omega
      case rel =>
        have hrow : ∀ q, Value.ownBlock (.slice A3 k3 c3) = some q → w.heap.size + 1 ≤ q := fun q hq => (own_block hown4 q hq).1
        refine ⟨zs ++ [x], take s', ⟨(hG4.pa.alloc _).grown hgr (fun q hq => by have := hrow q hq; omega), (hG4.kp.alloc _).grown hgr (fun q hq => by have := hrow q hq; omega)⟩, ?_, ?_, by omega, by simp; omega, ?_⟩
        · exact (hN4.alloc _).grown hgr (fun e => by have := hrow _ e.symm; omega)
        · rw [wordsC_snoc, List.length_append]; exact hown5
        · have hr := HR.out.res
          obtain ⟨g', rfl⟩ : ∃ g', gk = g' + 1 := ⟨gk - 1, by omega⟩
          rw [ahead_yes hpre, hd_cons hw] at hr
          rw [hr]
          simp
theorem enter_unary (args : Array Value) (w : World) : (callFunc 101 args).run Tryz.prog w = .ok (.enter 101 args) w := by go_simp
theorem unary_ok (pb sz : Nat) : UnaryOK pb sz := fun ex n hxn hx hnb => ⟨enter_unary, fun w s hp hn => unary_any ex pb sz n hxn hx hnb w s hp hn⟩
theorem exprs_ok (pb sz n : Nat) (hn : n ≤ 2000000) : ExOK (expr sz n) pb sz n := expr_ok (unary_ok pb sz) n hn
end Go.Proofs.YtnkfkaahjplnmaaGreatDoor
