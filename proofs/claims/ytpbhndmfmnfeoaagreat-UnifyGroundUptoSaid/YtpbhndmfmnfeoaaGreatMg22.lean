/- Maps from places to places; what leads from place to place. -/
import Derived.Test.YtpbhndmfmnfeoaaGreatMg20
import Derived.Test.YtpbhndmfmnfeoaaGreatMg05
import Derived.Test.YtpbhndmfmnfeoaaGreatProg
import Derived.Deep.QuietTactic
import Derived.BigQuiet
import Derived.Outline
import Derived.OwnWalk
import Derived.Shelf.Sort.Plain
import Derived.Shelf.Slices.Equal
import Derived.Shelf.Slices.Empties2
namespace Go.Proofs.YtpbhndmfmnfeoaaGreat.Si
open Go Go.MapKept Go.ChangeMaps Go.RowKit

/-- The map in block b leads from place to place. -/
def PMap (w : World) (b : Nat) (L : List (Addr × Addr)) : Prop :=
  ∃ es clock, w.heap[b]? = some (.map es clock) ∧ es.toList.map (fun e => (e.key, e.val)) = L.map (fun p => (Value.pointer (some p.1), Value.pointer (some p.2)))
theorem PMap.lt {w : World} {b : Nat} {L : List (Addr × Addr)} (h : PMap w b L) : b < w.heap.size := by
  obtain ⟨es, clock, hb, _⟩ := h
  exact (Array.getElem?_eq_some_iff.1 hb).1
theorem PMap.keep {w w' : World} {b : Nat} {L : List (Addr × Addr)} (h : PMap w b L) (hk : w'.heap[b]? = w.heap[b]?) : PMap w' b L := by
  obtain ⟨es, clock, hb, he⟩ := h
  exact ⟨es, clock, hk.trans hb, he⟩
theorem PMap.made (w : World) : PMap (w.alloc (.map #[] 0)) w.heap.size [] := ⟨#[], 0, (MapKept.heap_alloc w _).1, rfl⟩
def plook (a : Addr) : List (Addr × Addr) → Option Addr
  | [] => none
  | p :: L => if a = p.1 then some p.2 else plook a L
section
variable {P : Program} {w : World} {kt te mt et : TypeId} {inf : TypeInfo}
theorem run_findAsking_pm (hk : P.underlying kt = some (.pointer te)) (hte : P.info? te = some inf) (hsz : inf.size ≠ 0) (a : Addr) (ha : AtCells w a) : ∀ (es : List MapEntry) (L : List (Addr × Addr)) (i : Nat),
    es.map (fun e => (e.key, e.val)) = L.map (fun p => (Value.pointer (some p.1), Value.pointer (some p.2))) → (∀ p ∈ L, AtCells w p.1) →
    ∃ r, (Instr.findAsking kt (.pointer (some a)) es i).run P w = .ok r w ∧ ((∃ v j, plook a L = some v ∧ r = some (j, .pointer (some v))) ∨ (plook a L = none ∧ r = none))
  | [], L, i, h, _ => by
    have hL : L = [] := by simpa using h.symm
    subst hL
    exact ⟨none, by simp [Instr.findAsking], .inr ⟨rfl, rfl⟩⟩
  | e :: es, [], i, h, _ => by simp at h
  | e :: es, p :: L, i, h, hL => by
    simp only [List.map_cons, List.cons.injEq, Prod.mk.injEq] at h
    obtain ⟨⟨h1, h2⟩, h3⟩ := h
    by_cases hx : a = p.1
    · refine ⟨some (i, .pointer (some p.2)), ?_, .inl ⟨p.2, i, by simp [plook, hx], rfl⟩⟩
      rw [hx]
      simp [Instr.findAsking, h1, h2, run_equal_ptr_same hk hte hsz, Result.andThen]
    · obtain ⟨r, hr, hc⟩ := run_findAsking_pm hk hte hsz a ha es L (i + 1) h3 (fun y hy => hL y (by simp [hy]))
      refine ⟨r, ?_, ?_⟩
      · simp [Instr.findAsking, h1, run_equal_ptr_other hk hte hsz hx ha (hL p (by simp)), Result.andThen, hr]
      · simpa [plook, hx] using hc
theorem run_findKey_pm (hk : P.underlying kt = some (.pointer te)) (hte : P.info? te = some inf) (hsz : inf.size ≠ 0) (a : Addr) (ha : AtCells w a) (es : List MapEntry) (L : List (Addr × Addr))
    (h : es.map (fun e => (e.key, e.val)) = L.map (fun p => (Value.pointer (some p.1), Value.pointer (some p.2)))) (hL : ∀ p ∈ L, AtCells w p.1) :
    ∃ r, (Instr.findKey kt (.pointer (some a)) es).run P w = .ok r w ∧ ((∃ v j, plook a L = some v ∧ r = some (j, .pointer (some v))) ∨ (plook a L = none ∧ r = none)) := by
  cases es with
  | nil =>
    have hL : L = [] := by simpa using h.symm
    subst hL
    exact ⟨none, by simp [Instr.findKey, run_underlying hk, Result.andThen, Instr.findNow], .inr ⟨rfl, rfl⟩⟩
  | cons e es =>
    obtain ⟨r, hr, hc⟩ := run_findAsking_pm hk hte hsz a ha (e :: es) L 0 h hL
    exact ⟨r, by simp [Instr.findKey, run_underlying hk, Result.andThen, Instr.findNow, Instr.sameNow, hr], hc⟩
theorem PMap.lookup {b : Nat} {L : List (Addr × Addr)} (h : PMap w b L) (hm : P.underlying mt = some (.map kt et)) (hk : P.underlying kt = some (.pointer te)) (hte : P.info? te = some inf) (hsz : inf.size ≠ 0)
    (hz : (zeroValue et).run P w = .ok (.pointer none) w) (a : Addr) (ha : AtCells w a) (hL : ∀ p ∈ L, AtCells w p.1) : (Instr.lookup mt (.map (some b)) (.pointer (some a)) false).run P w = .ok (.pointer (plook a L)) w := by
  obtain ⟨es, clock, hb, he⟩ := h
  obtain ⟨r, hr, hc⟩ := run_findKey_pm hk hte hsz a ha es.toList L he hL
  rcases hc with ⟨v, j, hv, rfl⟩ | ⟨hv, rfl⟩
  · simp [Instr.lookup, run_underlying hm, MapKept.run_getObj_map hb, Result.andThen, run_checkKey_ptr hk _ 9999, hr, hv]
  · simp [Instr.lookup, run_underlying hm, MapKept.run_getObj_map hb, Result.andThen, run_checkKey_ptr hk _ 9999, hr, hv, hz]
theorem PMap.update {b : Nat} {L : List (Addr × Addr)} (h : PMap w b L) (hm : P.underlying mt = some (.map kt et)) (hk : P.underlying kt = some (.pointer te)) (hte : P.info? te = some inf) (hsz : inf.size ≠ 0)
    (a v : Addr) (ha : AtCells w a) (hL : ∀ p ∈ L, AtCells w p.1) (hn : plook a L = none) : ∃ w', (Instr.mapUpdate mt (.map (some b)) (.pointer (some a)) (.pointer (some v))).run P w = .ok () w' ∧ PMap w' b (L ++ [(a, v)]) ∧ w.grownBy w' (some b) := by
  obtain ⟨es, clock, hb, he⟩ := h
  obtain ⟨r, hr, hc⟩ := run_findKey_pm hk hte hsz a ha es.toList L he hL
  rcases hc with ⟨u, j, hv, rfl⟩ | ⟨hv, rfl⟩
  · rw [hn] at hv; cases hv
  · refine ⟨setBlock w b (.map (es.push ⟨.pointer (some a), .pointer (some v), clock⟩) (clock + 1)), ?_, ⟨_, _, heap_setBlock_same hb _, ?_⟩, ⟨rfl, rfl, rfl, by simp [setBlock], fun i _ hi => heap_setBlock_other hb _ (fun e => hi (by rw [e]))⟩⟩
    · simp [Instr.mapUpdate, run_underlying hm, MapKept.run_getObj_map hb, run_checkKey_ptr hk _ 9999, hr, MapKept.run_setObj_map _ hb, Result.andThen, setBlock]
    · simp [he]
end
theorem wpList_lookup_pm {P : Program} (w : World) {ops : Array Oper} {rest : List Oper} {o : Oper} {a : Act} {Q : Exit → Act → World → Prop}
    (hg : o.guard = none) (m x : Operand) (t : TypeId) (hop : o.op = Op.lookup t m x false) {v : Value}
    {b : Nat} (hm : a.eval m = .map (some b)) (d : Addr) (hx : a.eval x = .pointer (some d)) (hrun : (Instr.lookup t (.map (some b)) (.pointer (some d)) false).run P w = .ok v w)
    (hK : wpList P ops Q rest (a.put o.dst v) w) :
    wpList P ops Q (o :: rest) a w := by
  refine wpList_plain hg fun K' hK' => ?_
  unfold Oper.wp
  simp [execOp, hop, hm, hx, hrun, Result.andThen]
  exact hK' _ _ hK
theorem wpList_update_pm {P : Program} (w : World) {ops : Array Oper} {rest : List Oper} {o : Oper} {a : Act} {Q : Exit → Act → World → Prop}
    (hg : o.guard = none) (m x v : Operand) (t : TypeId) (hop : o.op = Op.mapUpdate t m x v) {kt te et : TypeId} {inf : TypeInfo} {b : Nat} {L : List (Addr × Addr)}
    (hm : a.eval m = .map (some b)) (h : PMap w b L) (hmt : P.underlying t = some (.map kt et)) (hk : P.underlying kt = some (.pointer te)) (hte : P.info? te = some inf) (hsz : inf.size ≠ 0)
    (d u : Addr) (hx : a.eval x = .pointer (some d)) (hv : a.eval v = .pointer (some u)) (hd : AtCells w d) (hL : ∀ p ∈ L, AtCells w p.1) (hn : plook d L = none)
    (hK : ∀ w', PMap w' b (L ++ [(d, u)]) → w.grownBy w' (some b) → wpList P ops Q rest (a.put o.dst undef) w') :
    wpList P ops Q (o :: rest) a w := by
  refine wpList_plain hg fun K' hK' => ?_
  obtain ⟨w', hrun, r1, r2⟩ := h.update hmt hk hte hsz d u hd hL hn
  unfold Oper.wp
  simp [execOp, hop, hm, hx, hv, hrun, Result.andThen]
  exact hK' _ _ (hK w' r1 r2)
theorem zero_ptr (w : World) : (zeroValue 94).run Tryz.prog w = .ok (.pointer none) w := by go_simp

/-- A place from which nothing leads is its own end. -/
theorem end_any (w : World) (b : Nat) (L : List (Addr × Addr)) (d : Addr) (hm : PMap w b L) (hd : AtCells w d) (hL : ∀ p ∈ L, AtCells w p.1) (hn : plook d L = none) :
    Calls Tryz.prog 68 #[.map (some b), .pointer (some d)] w fun e w' => e = .returned (.pointer (some d)) ∧ w' = w := by
  obtain ⟨inf, hinf, hsz⟩ := size_type
  have hl := hm.lookup (mt := 93) Tryz.underlying93 Tryz.underlying94 hinf hsz (zero_ptr w) d hd hL
  rw [hn] at hl
  go_enter Tryz.func68, Tryz.ntmps68
  go_wp2
  go_loop [1] (fun i => i = .pointer (some d)) (fun _ => 0)
  case atStart => rfl
  case round =>
    subst hrel
    go_wp2_with (at_lookup; refine wpList_lookup_pm _ rfl (.tmp 6) (.tmp 7) 93 rfl rfl d rfl hl ?_)
    go_ret
    exact ⟨rfl, rfl⟩
end Go.Proofs.YtpbhndmfmnfeoaaGreat.Si

/- A map of the call's own whose keys are pointers at cells that came in: it may answer what it likes. -/
namespace Go.Proofs.YtpbhndmfmnfeoaaGreat
open Go Go.MapKept Go.ChangeMaps Go.RowKit
variable {N : Nat}

/-- An address in a block of cells, no end mark at it. -/
def AtC (w : World) (N : Nat) (a : Addr) : Prop := (∃ c t fr, w.heap[a.block]? = some (.cells c t fr)) ∧ w.frozen? a = false ∧ a.block < N
theorem AtC.lt {w : World} {a : Addr} (h : AtC w N a) : a.block < w.heap.size := by
  obtain ⟨⟨c, t, fr, h⟩, _⟩ := h
  exact (Array.getElem?_eq_some_iff.1 h).1
theorem AtC.keep {w w' : World} {a : Addr} (h : AtC w N a) (hk : w'.heap[a.block]? = w.heap[a.block]?) : AtC w' N a := by
  obtain ⟨⟨c, t, fr, h⟩, h2, h3⟩ := h
  refine ⟨⟨c, t, fr, hk.trans h⟩, ?_, h3⟩
  unfold World.frozen? at h2 ⊢
  rw [hk]
  exact h2
/-- Two worlds that differ in what was drawn alone. -/
def Drawn (w w' : World) : Prop := ∃ n, w' = { w with drawn := w.drawn + n }
theorem Drawn.refl (w : World) : Drawn w w := ⟨0, rfl⟩
theorem Drawn.trans {a b c : World} (h : Drawn a b) (k : Drawn b c) : Drawn a c := by
  obtain ⟨n, rfl⟩ := h
  obtain ⟨m, rfl⟩ := k
  exact ⟨n + m, by simp [Nat.add_assoc]⟩
theorem Drawn.heap {w w' : World} (h : Drawn w w') : w'.heap = w.heap := by obtain ⟨n, rfl⟩ := h; rfl
theorem Drawn.below {w w' : World} (h : Drawn w w') : Below w.heap.size w w' := by obtain ⟨n, rfl⟩ := h; exact ⟨rfl, rfl, rfl, Nat.le_refl _, fun _ _ => rfl⟩
theorem Drawn.atc {w w' : World} (h : Drawn w w') {a : Addr} (ha : AtC w N a) : AtC w' N a := ha.keep (by rw [h.heap])
section
variable {P : Program} {w : World} {kt te mt et : TypeId} {inf : TypeInfo} {z : Value}
theorem run_mayBe {a b : Addr} (ha : AtC w N a) (hb : AtC w N b) : ∃ r, (mayBeOne a b).run P w = .ok r w := by
  obtain ⟨⟨ca, ta, fa, ha⟩, ha2, _⟩ := ha
  obtain ⟨⟨cb, tb, fb, hb⟩, hb2, _⟩ := hb
  exact ⟨_, by simp [mayBeOne, stringish, ha2, hb2, World.shape?, ha, hb]; rfl⟩
theorem run_sameAddr_any {a b : Addr} (ha : AtC w N a) (hb : AtC w N b) : ∃ r w', (sameAddr a b).run P w = .ok r w' ∧ Drawn w w' := by
  by_cases hbl : a.block = b.block
  · exact ⟨a == b, w, by simp [sameAddr, hbl], .refl w⟩
  · obtain ⟨r, hr⟩ := run_mayBe (P := P) ha hb
    obtain ⟨⟨ca, ta, fa, ha⟩, ha2, _⟩ := ha
    obtain ⟨⟨cb, tb, fb, hb⟩, hb2, _⟩ := hb
    cases r with
    | true =>
      by_cases hf : (Question.extern "sameAddr.stringBytes" 2).forced = true
      · exact ⟨_, _, by simp [sameAddr, hbl, ha2, noView, viewAt, World.shape?, ha, hb, hr, hf, Result.andThen]; rfl, .refl w⟩
      · exact ⟨_, _, by simp [sameAddr, hbl, ha2, noView, viewAt, World.shape?, ha, hb, hr, hf, Result.andThen]; rfl, ⟨1, rfl⟩⟩
    | false => exact ⟨false, w, by simp [sameAddr, hbl, ha2, noView, viewAt, World.shape?, ha, hb, hr, Result.andThen], .refl w⟩
theorem run_equal_any (hk : P.underlying kt = some (.pointer te)) (hte : P.info? te = some inf) (hsz : inf.size ≠ 0) {a b : Addr} (ha : AtC w N a) (hb : AtC w N b) : ∃ r w', (Op.equal kt (.pointer (some a)) (.pointer (some b))).run P w = .ok r w' ∧ Drawn w w' := by
  obtain ⟨r, w', hr, hd⟩ := run_sameAddr_any (P := P) ha hb
  have h : ∀ d, (Op.equalIn (d + 1) kt (.pointer (some a)) (.pointer (some b))).run P w = .ok r w' := fun d => by
    simp [Op.equalIn, run_underlying hk, typeInfo, sizeOf, hte, hsz, hr]
  exact ⟨r, w', h 9999, hd⟩
/-- An entry whose key is a pointer at cells. -/
def BagE (w : World) (N : Nat) (z : Value) (e : MapEntry) : Prop := e.val = z ∧ ∃ a, e.key = .pointer (some a) ∧ AtC w N a
theorem run_findAsking_any (hk : P.underlying kt = some (.pointer te)) (hte : P.info? te = some inf) (hsz : inf.size ≠ 0) (a : Addr) : ∀ (es : List MapEntry) (i : Nat) (w : World), AtC w N a → (∀ e ∈ es, BagE w N z e) →
    ∃ r w', (Instr.findAsking kt (.pointer (some a)) es i).run P w = .ok r w' ∧ Drawn w w' ∧ (r = none ∨ ∃ j, r = some (j, z))
  | [], i, w, _, _ => ⟨none, w, by simp [Instr.findAsking], .refl w, .inl rfl⟩
  | e :: es, i, w, ha, hes => by
    obtain ⟨hv, x, hkx, hx⟩ := hes e (by simp)
    obtain ⟨r, w1, hr, hd⟩ := run_equal_any hk hte hsz ha hx
    cases r with
    | true => exact ⟨some (i, z), w1, by simp [Instr.findAsking, hkx, hr, hv, Result.andThen], hd, .inr ⟨i, rfl⟩⟩
    | false =>
      obtain ⟨r2, w2, hr2, hd2, hc⟩ := run_findAsking_any hk hte hsz a es (i + 1) w1 (hd.atc ha) (fun e he => by
        obtain ⟨h1, x, h2, h3⟩ := hes e (by simp [he])
        exact ⟨h1, x, h2, hd.atc h3⟩)
      exact ⟨r2, w2, by simp [Instr.findAsking, hkx, hr, Result.andThen, hr2], hd.trans hd2, hc⟩
theorem run_findKey_any (hk : P.underlying kt = some (.pointer te)) (hte : P.info? te = some inf) (hsz : inf.size ≠ 0) (a : Addr) (ha : AtC w N a) (es : List MapEntry) (hes : ∀ e ∈ es, BagE w N z e) :
    ∃ r w', (Instr.findKey kt (.pointer (some a)) es).run P w = .ok r w' ∧ Drawn w w' ∧ (r = none ∨ ∃ j, r = some (j, z)) := by
  cases es with
  | nil => exact ⟨none, w, by simp [Instr.findKey, run_underlying hk, Result.andThen, Instr.findNow], .refl w, .inl rfl⟩
  | cons e es =>
    obtain ⟨r, w', hr, hd, hc⟩ := run_findAsking_any (z := z) hk hte hsz a (e :: es) 0 w ha hes
    obtain ⟨hv, x, hkx, hx⟩ := hes e (by simp)
    exact ⟨r, w', by simp [Instr.findKey, run_underlying hk, Result.andThen, Instr.findNow, Instr.sameNow, hkx, hr], hd, hc⟩
end
/-- The map in block b has pointers at cells as keys, and z at each. -/
def Bag (w : World) (N : Nat) (z : Value) (b m : Nat) : Prop := ∃ es clock, w.heap[b]? = some (.map es clock) ∧ es.size ≤ m ∧ ∀ e ∈ es.toList, BagE w N z e
theorem Bag.made (w : World) (z : Value) : Bag (w.alloc (.map #[] 0)) N z w.heap.size 0 := ⟨#[], 0, (MapKept.heap_alloc w _).1, by simp, fun e h => by simp at h⟩
theorem Bag.mono {w : World} {z : Value} {b m m' : Nat} (h : Bag w N z b m) (hm : m ≤ m') : Bag w N z b m' := by
  obtain ⟨es, clock, hb, hs, he⟩ := h
  exact ⟨es, clock, hb, by omega, he⟩
theorem Bag.lt {w : World} {z : Value} {b m : Nat} (h : Bag w N z b m) : b < w.heap.size := by
  obtain ⟨es, clock, hb, _⟩ := h
  exact (Array.getElem?_eq_some_iff.1 hb).1
theorem Bag.isMap {w : World} {z : Value} {b m : Nat} (h : Bag w N z b m) : ∃ es c, w.heap[b]? = some (.map es c) := by
  obtain ⟨es, clock, hb, _⟩ := h
  exact ⟨_, _, hb⟩
theorem Bag.keepB {w w' : World} {z : Value} {b m : Nat} (h : Bag w N z b m) (hb : w'.heap[b]? = w.heap[b]?) (hk : ∀ g, g < N → w'.heap[g]? = w.heap[g]?) : Bag w' N z b m := by
  obtain ⟨es, clock, hb', hs, he⟩ := h
  refine ⟨es, clock, hb.trans hb', hs, fun e h => ?_⟩
  obtain ⟨h1, x, h2, h3⟩ := he e h
  exact ⟨h1, x, h2, h3.keep (hk _ h3.2.2)⟩
theorem Bag.keep {w w' : World} {z : Value} {b m : Nat} (h : Bag w N z b m) (hk : ∀ g, g < w.heap.size → w'.heap[g]? = w.heap[g]?) : Bag w' N z b m := by
  have hl := h.lt
  obtain ⟨es, clock, hb, hs, he⟩ := h
  refine ⟨es, clock, (hk b hl).trans hb, hs, fun e h => ?_⟩
  obtain ⟨h1, x, h2, h3⟩ := he e h
  exact ⟨h1, x, h2, h3.keep (hk _ h3.lt)⟩
section
variable {P : Program} {w : World} {kt te mt et : TypeId} {inf : TypeInfo} {z : Value}
theorem Bag.lookup {b m : Nat} (h : Bag w N z b m) (hm : P.underlying mt = some (.map kt et)) (hk : P.underlying kt = some (.pointer te)) (hte : P.info? te = some inf) (hsz : inf.size ≠ 0)
    (hz : ∀ w, (zeroValue et).run P w = .ok z w) (a : Addr) (ha : AtC w N a) : ∃ f w', (Instr.lookup mt (.map (some b)) (.pointer (some a)) true).run P w = .ok (.tuple #[z, .bool f]) w' ∧ Drawn w w' := by
  obtain ⟨es, clock, hb, _, he⟩ := h
  obtain ⟨r, w', hr, hd, hc⟩ := run_findKey_any (z := z) hk hte hsz a ha es.toList he
  rcases hc with rfl | ⟨j, rfl⟩
  · exact ⟨false, w', by simp [Instr.lookup, run_underlying hm, MapKept.run_getObj_map hb, Result.andThen, run_checkKey_ptr hk _ 9999, hr, hz], hd⟩
  · exact ⟨true, w', by simp [Instr.lookup, run_underlying hm, MapKept.run_getObj_map hb, Result.andThen, run_checkKey_ptr hk _ 9999, hr], hd⟩
theorem run_keyStays (old new : Value) : ∃ k w', (Instr.keyThatStays old new).run P w = .ok k w' ∧ Drawn w w' ∧ (k = new ∨ k = old) := by
  by_cases h : Instr.sameBits 10000 old new = true
  · exact ⟨new, w, by simp [Instr.keyThatStays, h], .refl w, .inl rfl⟩
  · by_cases hf : (Question.extern "map.whichKeyStays" 2).forced = true
    · exact ⟨new, _, by simp [Instr.keyThatStays, h, hf, Result.andThen], .refl w, .inl rfl⟩
    · by_cases hc : (Question.extern "map.whichKeyStays" 2).cut (w.tape w.drawn (Question.extern "map.whichKeyStays" 2)) = 0
      · exact ⟨new, _, by simp [Instr.keyThatStays, h, hf, hc, Result.andThen], ⟨1, rfl⟩, .inl rfl⟩
      · exact ⟨old, _, by simp [Instr.keyThatStays, h, hf, hc, Result.andThen], ⟨1, rfl⟩, .inr rfl⟩
/-- Nothing but a block, and what was drawn, has turned. -/
theorem Bag.update {b m : Nat} (h : Bag w N z b m) (hm : P.underlying mt = some (.map kt et)) (hk : P.underlying kt = some (.pointer te)) (hte : P.info? te = some inf) (hsz : inf.size ≠ 0)
    (a : Addr) (ha : AtC w N a) : ∃ w', (Instr.mapUpdate mt (.map (some b)) (.pointer (some a)) z).run P w = .ok () w' ∧ Bag w' N z b (m + 1) ∧ w.grownBy w' (some b) ∧ w'.heap.size = w.heap.size := by
  have hbl := h.lt
  obtain ⟨es, clock, hb, hsz1, he⟩ := h
  obtain ⟨r, w1, hr, hd, hc⟩ := run_findKey_any (z := z) hk hte hsz a ha es.toList he
  have hb1 : w1.heap[b]? = some (.map es clock) := by rw [hd.heap]; exact hb
  have hat : ∀ (w2 : World) (o : Obj) (es' : Array MapEntry) (c' : Nat), o = .map es' c' → Drawn w w2 → ∀ x, AtC w N x → AtC (setBlock w2 b o) N x := fun w2 o es' c' ho hd2 x hx => by
    have h2 := hd2.atc hx
    refine h2.keep ?_
    have hne : x.block ≠ b := fun e => by
      obtain ⟨⟨c, t, fr, h3⟩, _⟩ := hx
      rw [e, hb] at h3
      cases h3
    exact heap_setBlock_other (w := w2) (by rw [hd2.heap]; exact hb) _ hne
  have hgr : ∀ (w2 : World) (o : Obj), Drawn w w2 → w.grownBy (setBlock w2 b o) (some b) ∧ (setBlock w2 b o).heap.size = w.heap.size := fun w2 o hd2 => by
    have hh := hd2.heap
    obtain ⟨n, rfl⟩ := hd2
    exact ⟨⟨rfl, rfl, rfl, by simp [setBlock], fun i _ hi => heap_setBlock_other (w := { w with drawn := w.drawn + n }) hb _ (fun e => hi (by rw [e]))⟩, by simp [setBlock]⟩
  rcases hc with rfl | ⟨j, rfl⟩
  · obtain ⟨g1, g2⟩ := hgr w1 (.map (es.push ⟨.pointer (some a), z, clock⟩) (clock + 1)) hd
    refine ⟨setBlock w1 b (.map (es.push ⟨.pointer (some a), z, clock⟩) (clock + 1)), ?_, ⟨_, _, heap_setBlock_same hb1 _, by simp; omega, fun e hx => ?_⟩, g1, g2⟩
    · simp [Instr.mapUpdate, run_underlying hm, MapKept.run_getObj_map hb, run_checkKey_ptr hk _ 9999, hr, MapKept.run_setObj_map _ hb1, Result.andThen, setBlock]
    · rw [Array.toList_push, List.mem_append] at hx
      rcases hx with hx | hx
      · obtain ⟨h1, x, h2, h3⟩ := he e hx
        exact ⟨h1, x, h2, hat w1 _ _ _ rfl hd x h3⟩
      · rw [List.mem_singleton.1 hx]
        exact ⟨rfl, a, rfl, hat w1 _ _ _ rfl hd a ha⟩
  · obtain ⟨k, w2, hk2, hd2, hkc⟩ := run_keyStays (P := P) (w := w1) (((es[j]?).map (·.key)).getD (.pointer (some a))) (.pointer (some a))
    have hd12 := hd.trans hd2
    have hb2 : w2.heap[b]? = some (.map es clock) := by rw [hd12.heap]; exact hb
    have hkx : ∃ x, k = .pointer (some x) ∧ AtC w N x := by
      rcases hkc with rfl | rfl
      · exact ⟨a, rfl, ha⟩
      · cases hj : es[j]? with
        | none => exact ⟨a, rfl, ha⟩
        | some e =>
          obtain ⟨_, x, h2, h3⟩ := he e (by rw [Array.mem_toList_iff]; exact Array.mem_of_getElem? hj)
          exact ⟨x, h2, h3⟩
    obtain ⟨g1, g2⟩ := hgr w2 (.map (es.modify j fun e => { e with key := k, val := z }) clock) hd12
    refine ⟨setBlock w2 b (.map (es.modify j fun e => { e with key := k, val := z }) clock), ?_, ⟨_, _, heap_setBlock_same hb2 _, by simp; omega, fun e hx => ?_⟩, g1, g2⟩
    · simp [Instr.mapUpdate, run_underlying hm, MapKept.run_getObj_map hb, run_checkKey_ptr hk _ 9999, hr, hk2, MapKept.run_setObj_map _ hb2, Result.andThen, setBlock]
    · obtain ⟨x0, hk0, hx0⟩ := hkx
      obtain ⟨i, hi⟩ := List.getElem?_of_mem hx
      rw [Array.getElem?_toList, Array.getElem?_modify] at hi
      split at hi
      · cases hji : es[i]? with
        | none => rw [hji] at hi; simp at hi
        | some e0 =>
          rw [hji] at hi
          simp at hi
          subst hi
          exact ⟨rfl, x0, hk0, hat w2 _ _ _ rfl hd12 x0 hx0⟩
      · obtain ⟨h1, x, h2, h3⟩ := he e (by rw [Array.mem_toList_iff]; exact Array.mem_of_getElem? hi)
        exact ⟨h1, x, h2, hat w2 _ _ _ rfl hd12 x h3⟩
end
/-- Whatever a look-up answers. -/
def LookK (P : Program) (ops : Array Oper) (rest : List Oper) (o : Oper) (a : Act) (Q : Exit → Act → World → Prop) (z : Value) (w : World) : Prop :=
  ∀ f w', Drawn w w' → wpList P ops Q rest (a.put o.dst (.tuple #[z, .bool f])) w'
theorem wpList_lookup_bag {P : Program} (w : World) {ops : Array Oper} {rest : List Oper} {o : Oper} {a : Act} {Q : Exit → Act → World → Prop}
    (hg : o.guard = none) (m x : Operand) (t : TypeId) (hop : o.op = Op.lookup t m x true) {kt te et : TypeId} {inf : TypeInfo} {z : Value} {b n : Nat}
    (hm : a.eval m = .map (some b)) (h : Bag w N z b n) (hmt : P.underlying t = some (.map kt et)) (hk : P.underlying kt = some (.pointer te)) (hte : P.info? te = some inf) (hsz : inf.size ≠ 0)
    (hz : ∀ w, (zeroValue et).run P w = .ok z w) (d : Addr) (hx : a.eval x = .pointer (some d)) (hd : AtC w N d)
    (hK : LookK P ops rest o a Q z w) :
    wpList P ops Q (o :: rest) a w := by
  refine wpList_plain hg fun K' hK' => ?_
  obtain ⟨f, w', hrun, hdr⟩ := h.lookup hmt hk hte hsz hz d hd
  unfold Oper.wp
  simp [execOp, hop, hm, hx, hrun, Result.andThen]
  exact hK' _ _ (hK f w' hdr)
theorem wpList_update_bag {P : Program} (w : World) {ops : Array Oper} {rest : List Oper} {o : Oper} {a : Act} {Q : Exit → Act → World → Prop}
    (hg : o.guard = none) (m x v : Operand) (t : TypeId) (hop : o.op = Op.mapUpdate t m x v) {kt te et : TypeId} {inf : TypeInfo} {z : Value} {b n : Nat}
    (hm : a.eval m = .map (some b)) (h : Bag w N z b n) (hmt : P.underlying t = some (.map kt et)) (hk : P.underlying kt = some (.pointer te)) (hte : P.info? te = some inf) (hsz : inf.size ≠ 0)
    (d : Addr) (hx : a.eval x = .pointer (some d)) (hv : a.eval v = z) (hd : AtC w N d)
    (hK : ∀ w', Bag w' N z b (n + 1) → w.grownBy w' (some b) → w'.heap.size = w.heap.size → wpList P ops Q rest (a.put o.dst undef) w') :
    wpList P ops Q (o :: rest) a w := by
  refine wpList_plain hg fun K' hK' => ?_
  obtain ⟨w', hrun, r1, r2, r3⟩ := h.update hmt hk hte hsz d hd
  unfold Oper.wp
  simp [execOp, hop, hm, hx, hv, hrun, Result.andThen]
  exact hK' _ _ (hK w' r1 r2 r3)

set_option maxRecDepth 100000 in
set_option maxHeartbeats 2000000 in
/-- first, at a place that came in: it answers what it likes. -/
theorem first_bag (w : World) (b m : Nat) (d : Addr) (hs : Bag w N (.agg #[]) b m) (hd : AtC w N d) :
    Calls Tryz.prog 87 #[.map (some b), .pointer (some d)] w fun e w' => ∃ f, e = .returned (.bool f) ∧ Bag w' N (.agg #[]) b (m + 1) ∧ Bt b w w' := by
  obtain ⟨inf, hinf, hsz⟩ := size_type
  have hzu := fun w => zero_unit w
  have HS := Lib.hid hs
  have HD := Lib.hid hd
  clear hs hd
  go_enter Tryz.func87, Tryz.ntmps87
  go_wp2_with (first | (at_lookup; refine wpList_lookup_bag _ rfl (.tmp 8) (.tmp 9) 116 rfl rfl HS.out Tryz.underlying116 Tryz.underlying94 hinf hsz hzu d rfl HD.out ?_))
  unfold LookK
  intro f w1 hdr
  have hb := below_new w1 (.cells #[] 167)
  have hb0 : Below w.heap.size w (w1.alloc (.cells #[] 167)) := by
    have := hdr.below
    exact this.trans (hb.mono this.size)
  have HB := Lib.hid hb0
  have HS1 := Lib.hid ((HS.out.keep hb0.block).mono (Nat.le_succ m))
  have HS2 := Lib.hid (HS.out.keep hb0.block)
  have HD1 := Lib.hid (HD.out.keep (hb0.block _ HD.out.lt))
  clear hb hb0 hdr
  cases f with
  | true =>
    go_wp2_with fail
    go_ret
    exact ⟨false, rfl, HS1.out, .of_below HB.out⟩
  | false =>
    go_wp2_with (first | (at_mapUpdate; go_loud (refine wpList_update_bag _ rfl (.tmp 14) (.tmp 15) (.tmp 16) 116 rfl rfl HS2.out Tryz.underlying116 Tryz.underlying94 hinf hsz d rfl rfl HD1.out ?_)))
    intro w2 hs2 hg2 hz2
    have HS3 := Lib.hid hs2
    have HG := Lib.hid ((Bt.of_below HB.out).trans (Bt.of_grown hg2))
    clear hs2 hg2 hz2
    go_wp2_with fail
    go_ret
    exact ⟨true, rfl, HS3.out, HG.out⟩
end Go.Proofs.YtpbhndmfmnfeoaaGreat

/- A type that came in: where it lies. -/
namespace Go.Proofs.YtpbhndmfmnfeoaaGreat
open Go.RowKit

/-- A type that came in, where it lies. -/
inductive TW (w : World) : Addr → Ty → Prop
  | mk (a : Addr) (k : Int) (nm : Str) (v : Int) (kids : List Ty) (ls : List Str) (rv : Int) (kv lv : Value) (h0 : a.spot = none) (hat : AtC w w.heap.size a) (hr : ReadsAt w a (tyC k nm v kv lv rv))
      (hk : SlR kv kids.length) (hi : oks k v rv) (hks : ∀ (i : Nat) t, kids[i]? = some t → TW w (kidAt kv i) t) : TW w a (.mk k nm v kids ls rv)
theorem AtC.later {w w' : World} {a : Addr} (h : AtC w w.heap.size a) (hb : Below w.heap.size w w') : AtC w' w'.heap.size a := by
  have h1 := h.keep (hb.block _ h.2.2)
  exact ⟨h1.1, h1.2.1, Nat.lt_of_lt_of_le h.2.2 hb.size⟩
theorem TW.later {w w' : World} {a : Addr} {t : Ty} (h : TW w a t) (hb : Below w.heap.size w w') : TW w' a t := by
  induction h with
  | mk a k nm v kids ls rv kv lv h0 hat hr hk hi _ ih => exact .mk a k nm v kids ls rv kv lv h0 (hat.later hb) (hr.keep (hb.block _ hat.2.2)) hk hi ih
/-- A type that came in, its cells. -/
def TWV (w : World) (t : Ty) (l : List Value) : Prop :=
  match t with
  | .mk k nm v kids _ rv => ∃ kv A n c, l = tyC k nm v kv (.slice A n c) rv ∧ SlR kv kids.length ∧ oks k v rv ∧ ∀ (i : Nat) t, kids[i]? = some t → TW w (kidAt kv i) t
theorem TWV.later {w w' : World} {t : Ty} {l : List Value} (h : TWV w t l) (hb : Below w.heap.size w w') : TWV w' t l := by
  obtain ⟨k, nm, v, kids, ls, rv⟩ := t
  obtain ⟨kv, A, n, c, h1, h2, h3, h4⟩ := h
  exact ⟨kv, A, n, c, h1, h2, h3, fun i t ht => (h4 i t ht).later hb⟩
theorem TWV.new {w : World} {t : Ty} {l : List Value} (h : TWV w t l) (e : TypeId) : TW (w.alloc (.cells l.toArray e)) ⟨w.heap.size, 0, none⟩ t := by
  obtain ⟨k, nm, v, kids, ls, rv⟩ := t
  obtain ⟨kv, A, n, c, rfl, hk, hi, hks⟩ := h
  have hb := below_new w (.cells (tyC k nm v kv (.slice A n c) rv).toArray e)
  have hl := Lies.new w e (tyC k nm v kv (.slice A n c) rv).toArray
  refine .mk _ k nm v kids ls rv kv (.slice A n c) rfl ⟨⟨_, _, _, hl⟩, hl.free 0, by simp⟩ (fun i u hu => ?_) hk hi fun i t ht => (hks i t ht).later hb
  have := hl.cell i
  rw [Nat.zero_add]
  rw [this]
  simpa using hu
end Go.Proofs.YtpbhndmfmnfeoaaGreat

/- The library's functions on strings as this translation bears them, laid from the shelf. -/
namespace Go.Proofs.YtpbhndmfmnfeoaaGreat
open Go.Shelf Go.Proofs
def Tryz.lays190_ren : Go.Shelf.Ren := ⟨fun | 190 => 64 | 125 => 76 | 258 => 75 | 128 => 101 | 129 => 102 | 302 => 92 | 303 => 93 | 304 => 94 | 305 => 95 | 306 => 96 | 307 => 97 | 308 => 98 | 309 => 99 | 310 => 100 | 333 => 111 | 329 => 112 | 330 => 113 | 334 => 114 | 335 => 115 | 336 => 116 | 344 => 121 | n => n, fun | 31 => 22 | 9 => 9 | 3 => 3 | 46 => 135 | 0 => 0 | 51 => 159 | 53 => 161 | 4 => 4 | 183 => 152 | 182 => 151 | 131 => 125 | 5 => 5 | 218 => 173 | 222 => 177 | 228 => 187 | 229 => 188 | n => n, fun | n => n⟩
theorem Tryz.lays190 : Go.Proofs.Lays.n190 Tryz.prog Tryz.lays190_ren := {
  mixed := by kernel_rfl
  f125 := Tryz.func76.trans (congrArg some (by kernel_rfl))
  f128 := Tryz.func101.trans (congrArg some (by kernel_rfl))
  f129 := Tryz.func102.trans (congrArg some (by kernel_rfl))
  f190 := Tryz.func64.trans (congrArg some (by kernel_rfl))
  f258 := Tryz.func75.trans (congrArg some (by kernel_rfl))
  f302 := Tryz.func92.trans (congrArg some (by kernel_rfl))
  f303 := Tryz.func93.trans (congrArg some (by kernel_rfl))
  f304 := Tryz.func94.trans (congrArg some (by kernel_rfl))
  f305 := Tryz.func95.trans (congrArg some (by kernel_rfl))
  f306 := Tryz.func96.trans (congrArg some (by kernel_rfl))
  f307 := Tryz.func97.trans (congrArg some (by kernel_rfl))
  f308 := Tryz.func98.trans (congrArg some (by kernel_rfl))
  f309 := Tryz.func99.trans (congrArg some (by kernel_rfl))
  f310 := Tryz.func100.trans (congrArg some (by kernel_rfl))
  f329 := Tryz.func112.trans (congrArg some (by kernel_rfl))
  f330 := Tryz.func113.trans (congrArg some (by kernel_rfl))
  f333 := Tryz.func111.trans (congrArg some (by kernel_rfl))
  f334 := Tryz.func114.trans (congrArg some (by kernel_rfl))
  f335 := Tryz.func115.trans (congrArg some (by kernel_rfl))
  f336 := Tryz.func116.trans (congrArg some (by kernel_rfl))
  f344 := Tryz.func121.trans (congrArg some (by kernel_rfl))
  t0 := Tryz.underlying0
  a0 := Tryz.isAgg0
  z0 := Tryz.sizeOf0
  v0 := Tryz.zeroValue0
  t3 := Tryz.underlying3
  a3 := Tryz.isAgg3
  z3 := Tryz.sizeOf3
  v3 := Tryz.zeroValue3
  t4 := Tryz.underlying4
  a4 := Tryz.isAgg4
  z4 := Tryz.sizeOf4
  v4 := Tryz.zeroValue4
  t5 := Tryz.underlying5
  a5 := Tryz.isAgg5
  z5 := Tryz.sizeOf5
  v5 := Tryz.zeroValue5
  t9 := Tryz.underlying9
  a9 := Tryz.isAgg9
  z9 := Tryz.sizeOf9
  v9 := Tryz.zeroValue9
  t31 := Tryz.underlying22
  a31 := Tryz.isAgg22
  z31 := Tryz.sizeOf22
  v31 := Tryz.zeroValue22
  t46 := Tryz.underlying135
  a46 := Tryz.isAgg135
  z46 := Tryz.sizeOf135
  v46 := Tryz.zeroValue135
  t51 := Tryz.underlying159
  a51 := Tryz.isAgg159
  z51 := Tryz.sizeOf159
  v51 := Tryz.zeroValue159
  t53 := Tryz.underlying161
  a53 := Tryz.isAgg161
  z53 := Tryz.sizeOf161
  v53 := Tryz.zeroValue161
  t131 := Tryz.underlying125
  a131 := Tryz.isAgg125
  z131 := Tryz.sizeOf125
  v131 := Tryz.zeroValue125
  t182 := Tryz.underlying151
  a182 := Tryz.isAgg151
  z182 := Tryz.sizeOf151
  v182 := Tryz.zeroValue151
  t183 := Tryz.underlying152
  a183 := Tryz.isAgg152
  z183 := Tryz.sizeOf152
  v183 := Tryz.zeroValue152
  t218 := Tryz.underlying173
  a218 := Tryz.isAgg173
  z218 := Tryz.sizeOf173
  v218 := Tryz.zeroValue173
  t222 := Tryz.underlying177
  a222 := Tryz.isAgg177
  z222 := Tryz.sizeOf177
  v222 := Tryz.zeroValue177
  t228 := Tryz.underlying187
  a228 := Tryz.isAgg187
  z228 := Tryz.sizeOf187
  v228 := Tryz.zeroValue187
  t229 := Tryz.underlying188
  a229 := Tryz.isAgg188
  z229 := Tryz.sizeOf188
  v229 := Tryz.zeroValue188 }
def Tryz.lays193_ren : Go.Shelf.Ren := ⟨fun | 193 => 86 | n => n, fun | 31 => 22 | 9 => 9 | 4 => 4 | 3 => 3 | 0 => 0 | n => n, fun | n => n⟩
theorem Tryz.lays193 : Go.Proofs.Lays.n193 Tryz.prog Tryz.lays193_ren := {
  mixed := by kernel_rfl
  f193 := Tryz.func86.trans (congrArg some (by kernel_rfl))
  t0 := Tryz.underlying0
  a0 := Tryz.isAgg0
  z0 := Tryz.sizeOf0
  v0 := Tryz.zeroValue0
  t3 := Tryz.underlying3
  a3 := Tryz.isAgg3
  z3 := Tryz.sizeOf3
  v3 := Tryz.zeroValue3
  t4 := Tryz.underlying4
  a4 := Tryz.isAgg4
  z4 := Tryz.sizeOf4
  v4 := Tryz.zeroValue4
  t9 := Tryz.underlying9
  a9 := Tryz.isAgg9
  z9 := Tryz.sizeOf9
  v9 := Tryz.zeroValue9
  t31 := Tryz.underlying22
  a31 := Tryz.isAgg22
  z31 := Tryz.sizeOf22
  v31 := Tryz.zeroValue22 }
end Go.Proofs.YtpbhndmfmnfeoaaGreat
