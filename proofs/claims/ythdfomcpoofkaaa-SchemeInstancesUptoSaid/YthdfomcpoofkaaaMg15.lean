/- A map of the call's own whose keys are pointers at cells that came in: it may answer what it likes. -/
import Derived.Test.YthdfomcpoofkaaaMg00
import Derived.Test.YthdfomcpoofkaaaMg06
import Derived.Test.YthdfomcpoofkaaaMg14
import Derived.Test.YthdfomcpoofkaaaMg05
import Derived.OwnWalk
import Derived.Outline
import Derived.StillTailTactics
namespace Go.Proofs.Ythdfomcpoofkaaa
open Go Go.MapKept Go.ChangeMaps Go.RowKit
variable {N : Nat}

/-- An address in a block of cells, no end mark at it. -/
def AtC (w : World) (N : Nat) (a : Addr) : Prop := (∃ c t fr, w.heap[a.block]? = some (.cells c t fr)) ∧ w.frozen? a = false ∧ a.block < N
theorem AtC.lt {w : World} {a : Addr} (h : AtC w N a) : a.block < w.heap.size := by
  obtain ⟨⟨c, t, fr, h⟩, _⟩ := h
  exact (Array.getElem?_eq_some_iff.1 h).1
theorem AtC.keep {w w' : World} {a : Addr} (h : AtC w N a) (hk : w'.heap[a.block]? = w.heap[a.block]?) : AtC w' N a := by
  obtain ⟨⟨c, t, fr, h⟩, h2, h3⟩ := h
  refine ⟨⟨c, t, fr, hk.trans h⟩, ?_, h3⟩
  unfold World.frozen? at h2 ⊢
  rw [hk]
  exact h2
/-- Two worlds that differ in what was drawn alone. -/
def Drawn (w w' : World) : Prop := ∃ n, w' = { w with drawn := w.drawn + n }
theorem Drawn.refl (w : World) : Drawn w w := ⟨0, rfl⟩
theorem Drawn.trans {a b c : World} (h : Drawn a b) (k : Drawn b c) : Drawn a c := by
  obtain ⟨n, rfl⟩ := h
  obtain ⟨m, rfl⟩ := k
  exact ⟨n + m, by simp [Nat.add_assoc]⟩
theorem Drawn.heap {w w' : World} (h : Drawn w w') : w'.heap = w.heap := by obtain ⟨n, rfl⟩ := h; rfl
theorem Drawn.below {w w' : World} (h : Drawn w w') : Below w.heap.size w w' := by obtain ⟨n, rfl⟩ := h; exact ⟨rfl, rfl, rfl, Nat.le_refl _, fun _ _ => rfl⟩
theorem Drawn.atc {w w' : World} (h : Drawn w w') {a : Addr} (ha : AtC w N a) : AtC w' N a := ha.keep (by rw [h.heap])
section
variable {P : Program} {w : World} {kt te mt et : TypeId} {inf : TypeInfo} {z : Value}
theorem run_mayBe {a b : Addr} (ha : AtC w N a) (hb : AtC w N b) : ∃ r, (mayBeOne a b).run P w = .ok r w := by
  obtain ⟨⟨ca, ta, fa, ha⟩, ha2, _⟩ := ha
  obtain ⟨⟨cb, tb, fb, hb⟩, hb2, _⟩ := hb
  exact ⟨_, by simp [mayBeOne, stringish, ha2, hb2, World.shape?, ha, hb]; rfl⟩
theorem run_sameAddr_any {a b : Addr} (ha : AtC w N a) (hb : AtC w N b) : ∃ r w', (sameAddr a b).run P w = .ok r w' ∧ Drawn w w' := by
  by_cases hbl : a.block = b.block
  · exact ⟨a == b, w, by simp [sameAddr, hbl], .refl w⟩
  · obtain ⟨r, hr⟩ := run_mayBe (P := P) ha hb
    obtain ⟨⟨ca, ta, fa, ha⟩, ha2, _⟩ := ha
    obtain ⟨⟨cb, tb, fb, hb⟩, hb2, _⟩ := hb
    cases r with
    | true =>
      by_cases hf : (Question.extern "sameAddr.stringBytes" 2).forced = true
      · exact ⟨_, _, by simp [sameAddr, hbl, ha2, noView, viewAt, World.shape?, ha, hb, hr, hf, Result.andThen]; rfl, .refl w⟩
      · exact ⟨_, _, by simp [sameAddr, hbl, ha2, noView, viewAt, World.shape?, ha, hb, hr, hf, Result.andThen]; rfl, ⟨1, rfl⟩⟩
    | false => exact ⟨false, w, by simp [sameAddr, hbl, ha2, noView, viewAt, World.shape?, ha, hb, hr, Result.andThen], .refl w⟩
theorem run_equal_any (hk : P.underlying kt = some (.pointer te)) (hte : P.info? te = some inf) (hsz : inf.size ≠ 0) {a b : Addr} (ha : AtC w N a) (hb : AtC w N b) : ∃ r w', (Op.equal kt (.pointer (some a)) (.pointer (some b))).run P w = .ok r w' ∧ Drawn w w' := by
  obtain ⟨r, w', hr, hd⟩ := run_sameAddr_any (P := P) ha hb
  have h : ∀ d, (Op.equalIn (d + 1) kt (.pointer (some a)) (.pointer (some b))).run P w = .ok r w' := fun d => by
    simp [Op.equalIn, run_underlying hk, typeInfo, sizeOf, hte, hsz, hr]
  exact ⟨r, w', h 9999, hd⟩
/-- An entry whose key is a pointer at cells. -/
def BagE (w : World) (N : Nat) (z : Value) (e : MapEntry) : Prop := e.val = z ∧ ∃ a, e.key = .pointer (some a) ∧ AtC w N a
theorem run_findAsking_any (hk : P.underlying kt = some (.pointer te)) (hte : P.info? te = some inf) (hsz : inf.size ≠ 0) (a : Addr) : ∀ (es : List MapEntry) (i : Nat) (w : World), AtC w N a → (∀ e ∈ es, BagE w N z e) →
    ∃ r w', (Instr.findAsking kt (.pointer (some a)) es i).run P w = .ok r w' ∧ Drawn w w' ∧ (r = none ∨ ∃ j, r = some (j, z))
  | [], i, w, _, _ => ⟨none, w, by simp [Instr.findAsking], .refl w, .inl rfl⟩
  | e :: es, i, w, ha, hes => by
    obtain ⟨hv, x, hkx, hx⟩ := hes e (by simp)
    obtain ⟨r, w1, hr, hd⟩ := run_equal_any hk hte hsz ha hx
    cases r with
    | true => exact ⟨some (i, z), w1, by simp [Instr.findAsking, hkx, hr, hv, Result.andThen], hd, .inr ⟨i, rfl⟩⟩
    | false =>
      obtain ⟨r2, w2, hr2, hd2, hc⟩ := run_findAsking_any hk hte hsz a es (i + 1) w1 (hd.atc ha) (fun e he => by
        obtain ⟨h1, x, h2, h3⟩ := hes e (by simp [he])
        exact ⟨h1, x, h2, hd.atc h3⟩)
      exact ⟨r2, w2, by simp [Instr.findAsking, hkx, hr, Result.andThen, hr2], hd.trans hd2, hc⟩
theorem run_findKey_any (hk : P.underlying kt = some (.pointer te)) (hte : P.info? te = some inf) (hsz : inf.size ≠ 0) (a : Addr) (ha : AtC w N a) (es : List MapEntry) (hes : ∀ e ∈ es, BagE w N z e) :
    ∃ r w', (Instr.findKey kt (.pointer (some a)) es).run P w = .ok r w' ∧ Drawn w w' ∧ (r = none ∨ ∃ j, r = some (j, z)) := by
  cases es with
  | nil => exact ⟨none, w, by simp [Instr.findKey, run_underlying hk, Result.andThen, Instr.findNow], .refl w, .inl rfl⟩
  | cons e es =>
    obtain ⟨r, w', hr, hd, hc⟩ := run_findAsking_any (z := z) hk hte hsz a (e :: es) 0 w ha hes
    obtain ⟨hv, x, hkx, hx⟩ := hes e (by simp)
    exact ⟨r, w', by simp [Instr.findKey, run_underlying hk, Result.andThen, Instr.findNow, Instr.sameNow, hkx, hr], hd, hc⟩
end
/-- The map in block b has pointers at cells as keys, and z at each. -/
def Bag (w : World) (N : Nat) (z : Value) (b m : Nat) : Prop := ∃ es clock, w.heap[b]? = some (.map es clock) ∧ es.size ≤ m ∧ ∀ e ∈ es.toList, BagE w N z e
theorem Bag.made (w : World) (z : Value) : Bag (w.alloc (.map #[] 0)) N z w.heap.size 0 := ⟨#[], 0, (MapKept.heap_alloc w _).1, by simp, fun e h => by simp at h⟩
theorem Bag.mono {w : World} {z : Value} {b m m' : Nat} (h : Bag w N z b m) (hm : m ≤ m') : Bag w N z b m' := by
  obtain ⟨es, clock, hb, hs, he⟩ := h
  exact ⟨es, clock, hb, by omega, he⟩
theorem Bag.lt {w : World} {z : Value} {b m : Nat} (h : Bag w N z b m) : b < w.heap.size := by
  obtain ⟨es, clock, hb, _⟩ := h
  exact (Array.getElem?_eq_some_iff.1 hb).1
theorem Bag.isMap {w : World} {z : Value} {b m : Nat} (h : Bag w N z b m) : ∃ es c, w.heap[b]? = some (.map es c) := by
  obtain ⟨es, clock, hb, _⟩ := h
  exact ⟨_, _, hb⟩
theorem Bag.keepB {w w' : World} {z : Value} {b m : Nat} (h : Bag w N z b m) (hb : w'.heap[b]? = w.heap[b]?) (hk : ∀ g, g < N → w'.heap[g]? = w.heap[g]?) : Bag w' N z b m := by
  obtain ⟨es, clock, hb', hs, he⟩ := h
  refine ⟨es, clock, hb.trans hb', hs, fun e h => ?_⟩
  obtain ⟨h1, x, h2, h3⟩ := he e h
  exact ⟨h1, x, h2, h3.keep (hk _ h3.2.2)⟩
theorem Bag.keep {w w' : World} {z : Value} {b m : Nat} (h : Bag w N z b m) (hk : ∀ g, g < w.heap.size → w'.heap[g]? = w.heap[g]?) : Bag w' N z b m := by
  have hl := h.lt
  obtain ⟨es, clock, hb, hs, he⟩ := h
  refine ⟨es, clock, (hk b hl).trans hb, hs, fun e h => ?_⟩
  obtain ⟨h1, x, h2, h3⟩ := he e h
  exact ⟨h1, x, h2, h3.keep (hk _ h3.lt)⟩
section
variable {P : Program} {w : World} {kt te mt et : TypeId} {inf : TypeInfo} {z : Value}
theorem Bag.lookup {b m : Nat} (h : Bag w N z b m) (hm : P.underlying mt = some (.map kt et)) (hk : P.underlying kt = some (.pointer te)) (hte : P.info? te = some inf) (hsz : inf.size ≠ 0)
    (hz : ∀ w, (zeroValue et).run P w = .ok z w) (a : Addr) (ha : AtC w N a) : ∃ f w', (Instr.lookup mt (.map (some b)) (.pointer (some a)) true).run P w = .ok (.tuple #[z, .bool f]) w' ∧ Drawn w w' := by
  obtain ⟨es, clock, hb, _, he⟩ := h
  obtain ⟨r, w', hr, hd, hc⟩ := run_findKey_any (z := z) hk hte hsz a ha es.toList he
  rcases hc with rfl | ⟨j, rfl⟩
  · exact ⟨false, w', by simp [Instr.lookup, run_underlying hm, MapKept.run_getObj_map hb, Result.andThen, run_checkKey_ptr hk _ 9999, hr, hz], hd⟩
  · exact ⟨true, w', by simp [Instr.lookup, run_underlying hm, MapKept.run_getObj_map hb, Result.andThen, run_checkKey_ptr hk _ 9999, hr], hd⟩
theorem run_keyStays (old new : Value) : ∃ k w', (Instr.keyThatStays old new).run P w = .ok k w' ∧ Drawn w w' ∧ (k = new ∨ k = old) := by
  by_cases h : Instr.sameBits 10000 old new = true
  · exact ⟨new, w, by simp [Instr.keyThatStays, h], .refl w, .inl rfl⟩
  · by_cases hf : (Question.extern "map.whichKeyStays" 2).forced = true
    · exact ⟨new, _, by simp [Instr.keyThatStays, h, hf, Result.andThen], .refl w, .inl rfl⟩
    · by_cases hc : (Question.extern "map.whichKeyStays" 2).cut (w.tape w.drawn (Question.extern "map.whichKeyStays" 2)) = 0
      · exact ⟨new, _, by simp [Instr.keyThatStays, h, hf, hc, Result.andThen], ⟨1, rfl⟩, .inl rfl⟩
      · exact ⟨old, _, by simp [Instr.keyThatStays, h, hf, hc, Result.andThen], ⟨1, rfl⟩, .inr rfl⟩
/-- Nothing but a block, and what was drawn, has turned. -/
theorem Bag.update {b m : Nat} (h : Bag w N z b m) (hm : P.underlying mt = some (.map kt et)) (hk : P.underlying kt = some (.pointer te)) (hte : P.info? te = some inf) (hsz : inf.size ≠ 0)
    (a : Addr) (ha : AtC w N a) : ∃ w', (Instr.mapUpdate mt (.map (some b)) (.pointer (some a)) z).run P w = .ok () w' ∧ Bag w' N z b (m + 1) ∧ w.grownBy w' (some b) ∧ w'.heap.size = w.heap.size := by
  have hbl := h.lt
  obtain ⟨es, clock, hb, hsz1, he⟩ := h
  obtain ⟨r, w1, hr, hd, hc⟩ := run_findKey_any (z := z) hk hte hsz a ha es.toList he
  have hb1 : w1.heap[b]? = some (.map es clock) := by rw [hd.heap]; exact hb
  have hat : ∀ (w2 : World) (o : Obj) (es' : Array MapEntry) (c' : Nat), o = .map es' c' → Drawn w w2 → ∀ x, AtC w N x → AtC (setBlock w2 b o) N x := fun w2 o es' c' ho hd2 x hx => by
    have h2 := hd2.atc hx
    refine h2.keep ?_
    have hne : x.block ≠ b := fun e => by
      obtain ⟨⟨c, t, fr, h3⟩, _⟩ := hx
      rw [e, hb] at h3
      cases h3
    exact heap_setBlock_other (w := w2) (by rw [hd2.heap]; exact hb) _ hne
  have hgr : ∀ (w2 : World) (o : Obj), Drawn w w2 → w.grownBy (setBlock w2 b o) (some b) ∧ (setBlock w2 b o).heap.size = w.heap.size := fun w2 o hd2 => by
    have hh := hd2.heap
    obtain ⟨n, rfl⟩ := hd2
    exact ⟨⟨rfl, rfl, rfl, by simp [setBlock], fun i _ hi => heap_setBlock_other (w := { w with drawn := w.drawn + n }) hb _ (fun e => hi (by rw [e]))⟩, by simp [setBlock]⟩
  rcases hc with rfl | ⟨j, rfl⟩
  · obtain ⟨g1, g2⟩ := hgr w1 (.map (es.push ⟨.pointer (some a), z, clock⟩) (clock + 1)) hd
    refine ⟨setBlock w1 b (.map (es.push ⟨.pointer (some a), z, clock⟩) (clock + 1)), ?_, ⟨_, _, heap_setBlock_same hb1 _, by simp; omega, fun e hx => ?_⟩, g1, g2⟩
    · simp [Instr.mapUpdate, run_underlying hm, MapKept.run_getObj_map hb, run_checkKey_ptr hk _ 9999, hr, MapKept.run_setObj_map _ hb1, Result.andThen, setBlock]
    · rw [Array.toList_push, List.mem_append] at hx
      rcases hx with hx | hx
      · obtain ⟨h1, x, h2, h3⟩ := he e hx
        exact ⟨h1, x, h2, hat w1 _ _ _ rfl hd x h3⟩
      · rw [List.mem_singleton.1 hx]
        exact ⟨rfl, a, rfl, hat w1 _ _ _ rfl hd a ha⟩
  · obtain ⟨k, w2, hk2, hd2, hkc⟩ := run_keyStays (P := P) (w := w1) (((es[j]?).map (·.key)).getD (.pointer (some a))) (.pointer (some a))
    have hd12 := hd.trans hd2
    have hb2 : w2.heap[b]? = some (.map es clock) := by rw [hd12.heap]; exact hb
    have hkx : ∃ x, k = .pointer (some x) ∧ AtC w N x := by
      rcases hkc with rfl | rfl
      · exact ⟨a, rfl, ha⟩
      · cases hj : es[j]? with
        | none => exact ⟨a, rfl, ha⟩
        | some e =>
          obtain ⟨_, x, h2, h3⟩ := he e (by rw [Array.mem_toList_iff]; exact Array.mem_of_getElem? hj)
          exact ⟨x, h2, h3⟩
    obtain ⟨g1, g2⟩ := hgr w2 (.map (es.modify j fun e => { e with key := k, val := z }) clock) hd12
    refine ⟨setBlock w2 b (.map (es.modify j fun e => { e with key := k, val := z }) clock), ?_, ⟨_, _, heap_setBlock_same hb2 _, by simp; omega, fun e hx => ?_⟩, g1, g2⟩
    · simp [Instr.mapUpdate, run_underlying hm, MapKept.run_getObj_map hb, run_checkKey_ptr hk _ 9999, hr, hk2, MapKept.run_setObj_map _ hb2, Result.andThen, setBlock]
    · obtain ⟨x0, hk0, hx0⟩ := hkx
      obtain ⟨i, hi⟩ := List.getElem?_of_mem hx
      rw [Array.getElem?_toList, Array.getElem?_modify] at hi
      split at hi
      · cases hji : es[i]? with
        | none => rw [hji] at hi; simp at hi
        | some e0 =>
          rw [hji] at hi
          simp at hi
          subst hi
          exact ⟨rfl, x0, hk0, hat w2 _ _ _ rfl hd12 x0 hx0⟩
      · obtain ⟨h1, x, h2, h3⟩ := he e (by rw [Array.mem_toList_iff]; exact Array.mem_of_getElem? hi)
        exact ⟨h1, x, h2, hat w2 _ _ _ rfl hd12 x h3⟩
end
/-- Whatever a look-up answers. -/
def LookK (P : Program) (ops : Array Oper) (rest : List Oper) (o : Oper) (a : Act) (Q : Exit → Act → World → Prop) (z : Value) (w : World) : Prop :=
  ∀ f w', Drawn w w' → wpList P ops Q rest (a.put o.dst (.tuple #[z, .bool f])) w'
theorem wpList_lookup_bag {P : Program} (w : World) {ops : Array Oper} {rest : List Oper} {o : Oper} {a : Act} {Q : Exit → Act → World → Prop}
    (hg : o.guard = none) (m x : Operand) (t : TypeId) (hop : o.op = Op.lookup t m x true) {kt te et : TypeId} {inf : TypeInfo} {z : Value} {b n : Nat}
    (hm : a.eval m = .map (some b)) (h : Bag w N z b n) (hmt : P.underlying t = some (.map kt et)) (hk : P.underlying kt = some (.pointer te)) (hte : P.info? te = some inf) (hsz : inf.size ≠ 0)
    (hz : ∀ w, (zeroValue et).run P w = .ok z w) (d : Addr) (hx : a.eval x = .pointer (some d)) (hd : AtC w N d)
    (hK : LookK P ops rest o a Q z w) :
    wpList P ops Q (o :: rest) a w := by
  refine wpList_plain hg fun K' hK' => ?_
  obtain ⟨f, w', hrun, hdr⟩ := h.lookup hmt hk hte hsz hz d hd
  unfold Oper.wp
  simp [execOp, hop, hm, hx, hrun, Result.andThen]
  exact hK' _ _ (hK f w' hdr)
theorem wpList_update_bag {P : Program} (w : World) {ops : Array Oper} {rest : List Oper} {o : Oper} {a : Act} {Q : Exit → Act → World → Prop}
    (hg : o.guard = none) (m x v : Operand) (t : TypeId) (hop : o.op = Op.mapUpdate t m x v) {kt te et : TypeId} {inf : TypeInfo} {z : Value} {b n : Nat}
    (hm : a.eval m = .map (some b)) (h : Bag w N z b n) (hmt : P.underlying t = some (.map kt et)) (hk : P.underlying kt = some (.pointer te)) (hte : P.info? te = some inf) (hsz : inf.size ≠ 0)
    (d : Addr) (hx : a.eval x = .pointer (some d)) (hv : a.eval v = z) (hd : AtC w N d)
    (hK : ∀ w', Bag w' N z b (n + 1) → w.grownBy w' (some b) → w'.heap.size = w.heap.size → wpList P ops Q rest (a.put o.dst undef) w') :
    wpList P ops Q (o :: rest) a w := by
  refine wpList_plain hg fun K' hK' => ?_
  obtain ⟨w', hrun, r1, r2, r3⟩ := h.update hmt hk hte hsz d hd
  unfold Oper.wp
  simp [execOp, hop, hm, hx, hv, hrun, Result.andThen]
  exact hK' _ _ (hK w' r1 r2 r3)

set_option maxRecDepth 100000 in
set_option maxHeartbeats 2000000 in
/-- first, at a place that came in: it answers what it likes. -/
theorem first_bag (w : World) (b m : Nat) (d : Addr) (hs : Bag w N (.agg #[]) b m) (hd : AtC w N d) :
    Calls Try.prog 75 #[.map (some b), .pointer (some d)] w fun e w' => ∃ f, e = .returned (.bool f) ∧ Bag w' N (.agg #[]) b (m + 1) ∧ Bt b w w' := by
  obtain ⟨inf, hinf, hsz⟩ := size_type
  have hzu := fun w => zero_unit w
  have HS := Lib.hid hs
  have HD := Lib.hid hd
  clear hs hd
  go_enter Try.func75, Try.ntmps75
  go_wp2_with (first | (at_lookup; refine wpList_lookup_bag _ rfl (.tmp 8) (.tmp 9) 119 rfl rfl HS.out Try.underlying119 Try.underlying125 hinf hsz hzu d rfl HD.out ?_))
  unfold LookK
  intro f w1 hdr
  have hb := below_new w1 (.cells #[] 117)
  have hb0 : Below w.heap.size w (w1.alloc (.cells #[] 117)) := by
    have := hdr.below
    exact this.trans (hb.mono this.size)
  have HB := Lib.hid hb0
  have HS1 := Lib.hid ((HS.out.keep hb0.block).mono (Nat.le_succ m))
  have HS2 := Lib.hid (HS.out.keep hb0.block)
  have HD1 := Lib.hid (HD.out.keep (hb0.block _ HD.out.lt))
  clear hb hb0 hdr
  cases f with
  | true =>
    go_wp2_with fail
    go_ret
    exact ⟨false, rfl, HS1.out, .of_below HB.out⟩
  | false =>
    go_wp2_with (first | (at_mapUpdate; go_loud (refine wpList_update_bag _ rfl (.tmp 14) (.tmp 15) (.tmp 16) 119 rfl rfl HS2.out Try.underlying119 Try.underlying125 hinf hsz d rfl rfl HD1.out ?_)))
    intro w2 hs2 hg2 hz2
    have HS3 := Lib.hid hs2
    have HG := Lib.hid ((Bt.of_below HB.out).trans (Bt.of_grown hg2))
    clear hs2 hg2 hz2
    go_wp2_with fail
    go_ret
    exact ⟨true, rfl, HS3.out, HG.out⟩
end Go.Proofs.Ythdfomcpoofkaaa

/- Package scheme: numbers go into a set; the set of a list. -/
namespace Go.Proofs.Ythdfomcpoofkaaa
open Go.RowKit

theorem IntR.bt {w w' : World} {b : Nat} {v : Value} {L : List Int} (h : IntR w v L) (hb : Bt b w w') (hm : ∃ es c, w.heap[b]? = some (.map es c)) : IntR w' v L := by
  obtain ⟨A, c, h1, h2, h3, h4⟩ := h
  refine ⟨A, c, h1, h2, h3, fun i n hi => ?_⟩
  obtain ⟨h0, g, o, h5, h6⟩ := h4 i n hi
  refine ⟨h0, g, o, h5, (World.cell?_of_block (w := w) (a := ⟨g, o + i, none⟩) (hb.block g (World.block_lt_of_cell? w _ h6) fun e => ?_)).trans h6⟩
  obtain ⟨es, c, hm⟩ := hm
  subst e
  unfold World.cell? at h6
  simp [hm] at h6
set_option maxRecDepth 100000 in
set_option maxHeartbeats 4000000 in
theorem setAdd_any (w : World) (b m : Nat) (L R : List Int) (v : Value) (h : MapI w 0 b m (inG L)) (hr : IntR w v R) (hm : m + R.length ≤ 100000000) :
    Calls Try.prog 46 #[.map (some b), v] w fun e w' => e = .returned (.tuple #[]) ∧ MapI w' 0 b (m + R.length) (inG (L ++ R)) ∧ Bt b w w' := by
  obtain ⟨A, cA, rfl, hcA, hmA, h4⟩ := hr
  obtain ⟨NA, hNA⟩ : ∃ N, N = R.length := ⟨_, rfl⟩
  have HNA := Lib.hid hNA
  have HV := Lib.hid h4
  have H0 := Lib.hid h
  have hisM := h.isMap
  have HIM := Lib.hid (show ∃ es c, w.heap[b]? = some (.map es c) by obtain ⟨es, c, h1, _⟩ := hisM; exact ⟨es, c, h1⟩)
  rw [← hNA] at hcA hm ⊢
  clear hNA h4 h hisM
  go_enter Try.func46, Try.ntmps46
  go_wp2_with fail
  go_loopw [8] (fun i wr => ∃ k : Nat, k ≤ NA ∧ i = .int .i64 k ∧ MapI wr 0 b (m + k) (inG (L ++ R.take k)) ∧ Bt b w wr) (fun i _ => NA - (intOf i).toNat)
  case atStart => exact ⟨0, Nat.zero_le _, rfl, by rw [List.take_zero, List.append_nil]; exact H0.out, Bt.refl b w⟩
  case round =>
    obtain ⟨k, hk, rfl, hM, hB⟩ := hrel
    have HB := Lib.hid hB
    by_cases hlt : k < NA
    · obtain ⟨x, hx⟩ : ∃ x, R[k]? = some x := ⟨_, List.getElem?_eq_getElem (by have := HNA.out; omega)⟩
      obtain ⟨hok, g, o, rfl, h6⟩ := HV.out k x hx
      have z6 : wr.cell? ⟨g, o + k, none⟩ = some (.int .i64 x) := by
        refine (World.cell?_of_block (w := w) (a := ⟨g, o + k, none⟩) (hB.block g (World.block_lt_of_cell? w _ h6) fun e => ?_)).trans h6
        obtain ⟨es, c, h1⟩ := HIM.out
        subst e
        unfold World.cell? at h6
        simp [h1] at h6
      have HST := Lib.hid (inG_take L R k x hx)
      have hlti : (k : Int) < (NA : Int) := by omega
      have hkc : k < cA := by omega
      have HOK := Lib.hid hok
      have HM := Lib.hid hM
      clear h6 hx hB hM hok
      go_wp2_with (first | (at_mapUpdate; refine wpList_mput rfl (.tmp 12) (.tmp 13) (.tmp 14) 89 (.inl rfl) HM.out Try.underlying89 (by unfold maxLen; omega) rfl HOK.out rfl #[] rfl fit0 ?_))
      intro w1 hM1 hg1 hz1
      rw [HST.out] at hM1
      have HM1 := Lib.hid hM1
      have HB1 := Lib.hid (HB.out.trans (Bt.of_grown hg1))
      clear hM1 hg1 hz1
      go_wp2_with fail
      go_roundw
      case rel => exact ⟨k + 1, by omega, by simp, HM1.out, HB1.out⟩
      case measure => simp [intOf]; omega
    · obtain rfl : k = NA := by omega
      rw [HNA.out, List.take_length, ← HNA.out] at hM
      have HM := Lib.hid hM
      clear hM hB
      go_wp2_with fail
      go_end0
      exact ⟨rfl, HM.out, HB.out⟩

set_option maxRecDepth 100000 in
set_option maxHeartbeats 4000000 in
theorem setOf_any (w : World) (R : List Int) (v : Value) (hr : IntR w v R) (hm : R.length ≤ 100000000) :
    Calls Try.prog 50 #[v] w fun e w' => ∃ b, w.heap.size ≤ b ∧ e = .returned (.map (some b)) ∧ MapI w' 0 b R.length (inG R) ∧ Below w.heap.size w w' := by
  have hbn := below_new w (.map #[] 0)
  have hc := setAdd_any (w.alloc (.map #[] 0)) w.heap.size 0 [] R v (by rw [inG_nil]; exact MapI.made w 0) (hr.later hbn) (by omega)
  have HC := Lib.hid hc
  have HBN := Lib.hid hbn
  have hmm := @run_makeMap Try.prog
  clear hc hbn
  go_enter Try.func50, Try.ntmps50
  go_wp2_with fail
  refine HC.out.mono ?_
  rintro e w1 ⟨rfl, hM, hB⟩
  have HB := Lib.hid (HBN.out.trans (hB.below (B := w.heap.size) (Nat.le_refl _) (by simp)))
  have HM := Lib.hid hM
  clear hM hB
  go_wp2_with fail
  go_ret
  refine ⟨_, Nat.le_refl _, rfl, ?_, HB.out⟩
  simpa using HM.out
end Go.Proofs.Ythdfomcpoofkaaa

/- Package scheme: a list without what is in a set; a list with each number once. -/
namespace Go.Proofs.Ythdfomcpoofkaaa
open Go.RowKit

theorem info_intS : (Try.prog.info? 3).map (fun i => (i.zero, i.size, i.bytes)) = some (some (.int .i64 0), 1, 8) := by kernel_rfl
/-- A list of numbers of the call's own. -/
abbrev OwnI (w : World) (B : Nat) (v : Value) (L : List Int) : Prop := w.ownsRow B 3 1 v L.length (L.map fun i => .int .i64 i)
/-- A list without what is in another one. -/
def lessL (R L : List Int) : List Int := R.filter fun n => decide (n ∉ L)
theorem lessL_step (R L : List Int) (k : Nat) (x : Int) (h : R[k]? = some x) : lessL (R.take (k + 1)) L = if x ∈ L then lessL (R.take k) L else lessL (R.take k) L ++ [x] := by
  unfold lessL
  rw [take_step R k x h, List.filter_append]
  by_cases hx : x ∈ L <;> simp [hx]
theorem lessL_len (R L : List Int) : (lessL R L).length ≤ R.length := List.length_filter_le _ _
/-- A list with each number once. -/
def onceL (R : List Int) : List Int := R.foldl (fun l n => if n ∈ l then l else l ++ [n]) []
theorem onceL_step (R : List Int) (k : Nat) (x : Int) (h : R[k]? = some x) : onceL (R.take (k + 1)) = if x ∈ onceL (R.take k) then onceL (R.take k) else onceL (R.take k) ++ [x] := by
  unfold onceL
  rw [take_step R k x h, List.foldl_append]
  rfl
theorem onceF_len : ∀ (R l : List Int), (R.foldl (fun l n => if n ∈ l then l else l ++ [n]) l).length ≤ l.length + R.length
  | [], l => by simp
  | x :: R, l => by
    have h1 := onceF_len R (if x ∈ l then l else l ++ [x])
    simp only [List.foldl_cons, List.length_cons]
    split at h1 <;> simp_all <;> omega
theorem onceL_len (R : List Int) : (onceL R).length ≤ R.length := by
  have := onceF_len R []
  simpa [onceL] using this

set_option maxRecDepth 100000 in
set_option maxHeartbeats 4000000 in
theorem without_any (w : World) (b m : Nat) (L R : List Int) (v : Value) (h : MapI w 0 b m (inG L)) (hr : IntR w v R) (hm : R.length ≤ 100000000) :
    Calls Try.prog 48 #[v, .map (some b)] w fun e w' => ∃ v', e = .returned v' ∧ OwnI w' w.heap.size v' (lessL R L) ∧ Below w.heap.size w w' := by
  obtain ⟨A, cA, rfl, hcA, hmA, h4⟩ := hr
  obtain ⟨i0, hi, hz0, hz1, hz2⟩ := info_parts info_intS
  obtain ⟨NA, hNA⟩ : ∃ N, N = R.length := ⟨_, rfl⟩
  have HNA := Lib.hid hNA
  have HV := Lib.hid h4
  have H0 := Lib.hid h
  have hM := hm
  rw [← hNA] at hcA hm ⊢
  clear hNA h4 h
  go_enter Try.func48, Try.ntmps48
  go_wp2_with fail
  go_loopw [10, 5] (fun i ov wr => ∃ (k : Nat) (A9 : Option Addr) (n9 c9 : Nat), k ≤ NA ∧ i = .int .i64 k ∧ ov = .slice A9 n9 c9 ∧ OwnI wr w.heap.size (.slice A9 n9 c9) (lessL (R.take k) L) ∧ Below w.heap.size w wr) (fun i _ _ => NA - (intOf i).toNat)
  case atStart => exact ⟨0, none, 0, 0, Nat.zero_le _, rfl, rfl, World.ownsRow_nil _ _ _ _, Below.refl _ w⟩
  case round =>
    obtain ⟨k, A9, n9, c9, hk, rfl, rfl, hO, hB⟩ := hrel
    have HB := Lib.hid hB
    have HO := Lib.hid hO
    by_cases hlt : k < NA
    · obtain ⟨x, hx⟩ : ∃ x, R[k]? = some x := ⟨_, List.getElem?_eq_getElem (by have := HNA.out; omega)⟩
      obtain ⟨hok, g, o, rfl, h6⟩ := HV.out k x hx
      have z6 := (hB.cell (p := ⟨g, o + k, none⟩) (World.block_lt_of_cell? w _ h6)).trans h6
      have hst := lessL_step R L k x hx
      have hln := lessL_len (R.take k) L
      have hln2 : (R.take k).length ≤ k := by rw [List.length_take]; omega
      have HLN := Lib.hid (show (lessL (R.take k) L).length ≤ 100000000 by omega)
      have HST := Lib.hid hst
      have hlti : (k : Int) < (NA : Int) := by omega
      have hkc : k < cA := by omega
      have hc := has_any wr b m L x (H0.out.keep (hB.block b H0.out.lt)) hok
      have HC := Lib.hid hc
      clear h6 hx hB hO hst hln hln2 hok hc
      go_wp2_with fail
      refine HC.out.mono ?_
      rintro e w1 ⟨rfl, hb1⟩
      have HB1 := Lib.hid (HB.out.trans (hb1.mono HB.out.size))
      have HO1 := Lib.hid (own_later HO.out hb1)
      have hs1 : w.heap.size ≤ w1.heap.size := Nat.le_trans HB.out.size hb1.size
      clear hb1
      by_cases hin : x ∈ L
      · have hd : decide (x ∈ L) = true := by simp [hin]
        have HS2 := Lib.hid (show lessL (R.take (k + 1)) L = lessL (R.take k) L by rw [HST.out, if_pos hin])
        rw [hd]
        clear hd
        go_wp2_with fail
        go_roundw
        case rel => exact ⟨k + 1, _, _, _, by omega, by simp, rfl, by rw [HS2.out]; exact HO1.out, HB1.out⟩
        case measure => simp [intOf]; omega
      · have hd : decide (x ∈ L) = false := by simp [hin]
        have HS2 := Lib.hid (show lessL (R.take (k + 1)) L = lessL (R.take k) L ++ [x] by rw [HST.out, if_neg hin])
        have hone : ∀ u ∈ [Value.int .i64 x], u.oneCell' = true := by simp [Value.oneCell']
        have HBN := Lib.hid (below_new w1 (.cells #[.int .i64 x] 3))
        rw [hd]
        clear hd
        go_wp2_with (first | (at_builtin; go_loud (refine wpList_append_own_at _ rfl (.tmp 18) (.tmp 20) 39 rfl w.heap.size 3 i0 (.int .i64 0) 1 8 Try.underlying39 hi hz0 hz1 hz2 rfl (by decide) _ (lessL (R.take k) L).length ((lessL (R.take k) L).map fun i => .int .i64 i) rfl (own_later HO1.out HBN.out) ⟨w1.heap.size, 0, none⟩ 1 1 [.int .i64 x] rfl rfl (new_cells w1 _ _ rfl) hone (by have := HLN.out; unfold maxLen; omega) (by have := HLN.out; omega) (by simp; omega) ?_)))
        intro v' w2 hown hgr hnil hat
        obtain ⟨A8, n8, c8, rfl⟩ := own_slice hown
        have hrow : ∀ k, Value.ownBlock (.slice A9 n9 c9) = some k → w.heap.size ≤ k := fun k hk => (own_block HO1.out k hk).1
        have HB2 := Lib.hid (Below.grown (HB1.out.trans (HBN.out.mono hs1)) hgr (by simp; omega) (fun j hj => by have := hrow j hj; omega))
        have HO2 := Lib.hid hown
        clear hown hgr hnil hat hrow
        go_wp2_with fail
        go_roundw
        case rel => exact ⟨k + 1, _, _, _, by omega, by simp, rfl, by rw [HS2.out]; unfold OwnI; rw [List.length_append, List.map_append]; exact HO2.out, HB2.out⟩
        case measure => simp [intOf]; omega
    · obtain rfl : k = NA := by omega
      rw [HNA.out, List.take_length] at hO
      clear HO
      have HO := Lib.hid hO
      clear hO hB
      go_wp2_with fail
      go_ret
      exact ⟨_, rfl, HO.out, HB.out⟩
end Go.Proofs.Ythdfomcpoofkaaa

/- What gathers the variables of a type that came in: some of those that stand there, each once. -/
namespace Go.Proofs.Ythdfomcpoofkaaa
open Go.RowKit

mutual
/-- A type variable that stands in a type. -/
def inK : Ty → Int → Prop
  | .mk k _ v kids _ _, n => (k = 7 ∧ n = v) ∨ inKL kids n
def inKL : List Ty → Int → Prop
  | [], _ => False
  | t :: r, n => inK t n ∨ inKL r n
end
mutual
/-- A row variable that stands in a type. -/
def inR : Ty → Int → Prop
  | .mk _ _ _ kids _ rv, n => (rv ≠ 0 ∧ n = rv ∧ kids ≠ []) ∨ inRL kids n
def inRL : List Ty → Int → Prop
  | [], _ => False
  | t :: r, n => inR t n ∨ inRL r n
end
theorem inKL_get : ∀ (l : List Ty) (i : Nat) t n, l[i]? = some t → inK t n → inKL l n
  | [], i, t, _, h, _ => by simp at h
  | u :: r, 0, t, n, h, h2 => by
    have : u = t := by simpa using h
    exact .inl (this ▸ h2)
  | u :: r, i + 1, t, n, h, h2 => .inr (inKL_get r i t n (by simpa using h) h2)
theorem inRL_get : ∀ (l : List Ty) (i : Nat) t n, l[i]? = some t → inR t n → inRL l n
  | [], i, t, _, h, _ => by simp at h
  | u :: r, 0, t, n, h, h2 => by
    have : u = t := by simpa using h
    exact .inl (this ▸ h2)
  | u :: r, i + 1, t, n, h, h2 => .inr (inRL_get r i t n (by simpa using h) h2)
/-- Some numbers more, each once. -/
structure Ext1 (P : Int → Prop) (s : Nat) (K K' : List Int) : Prop where
  mem : ∀ n ∈ K', n ∈ K ∨ P n
  sup : ∀ n ∈ K, n ∈ K'
  len : K'.length ≤ K.length + s
  nod : K.Nodup → K'.Nodup
  ok : (∀ n ∈ K, i64ok n) → ∀ n ∈ K', i64ok n
theorem Ext1.refl (P : Int → Prop) (K : List Int) : Ext1 P 0 K K := ⟨fun _ h => .inl h, fun _ h => h, Nat.le_refl _, id, id⟩
theorem Ext1.trans {P : Int → Prop} {s s' : Nat} {A B C : List Int} (h : Ext1 P s A B) (k : Ext1 P s' B C) : Ext1 P (s + s') A C :=
  ⟨fun n hn => (k.mem n hn).elim (fun h' => h.mem n h') .inr, fun n hn => k.sup n (h.sup n hn), by have := h.len; have := k.len; omega, fun hn => k.nod (h.nod hn), fun ho => k.ok (h.ok ho)⟩
theorem Ext1.mono {P P' : Int → Prop} {s s' : Nat} {A B : List Int} (h : Ext1 P s A B) (hp : ∀ n, P n → P' n) (hs : s ≤ s') : Ext1 P' s' A B :=
  ⟨fun n hn => (h.mem n hn).imp id (hp n), h.sup, by have := h.len; omega, h.nod, h.ok⟩
theorem Ext1.add {P : Int → Prop} (K : List Int) (n : Int) (hp : P n) (ho : i64ok n) : Ext1 P 1 K (addN K n) := by
  unfold addN
  split
  · exact (Ext1.refl P K).mono (fun _ h => h) (by omega)
  · rename_i hn
    refine ⟨fun m hm => ?_, fun m hm => by simp [hm], by simp, fun hk => ?_, fun hk m hm => ?_⟩
    · rcases List.mem_append.1 hm with h | h
      · exact .inl h
      · rw [List.mem_singleton.1 h]; exact .inr hp
    · rw [List.nodup_append]
      exact ⟨hk, by simp, fun a ha b hb e => by rw [List.mem_singleton.1 hb] at e; exact hn (e ▸ ha)⟩
    · rcases List.mem_append.1 hm with h | h
      · exact hk m h
      · rw [List.mem_singleton.1 h]; exact ho
/-- A type that came in, where it lies. -/
inductive TW (w : World) : Addr → Ty → Prop
  | mk (a : Addr) (k : Int) (nm : Str) (v : Int) (kids : List Ty) (ls : List Str) (rv : Int) (kv lv : Value) (h0 : a.spot = none) (hat : AtC w w.heap.size a) (hr : ReadsAt w a (tyC k nm v kv lv rv))
      (hk : SlR kv kids.length) (hi : oks k v rv) (hks : ∀ (i : Nat) t, kids[i]? = some t → TW w (kidAt kv i) t) : TW w a (.mk k nm v kids ls rv)
theorem own_blk {w w' : World} {B : Nat} {e : TypeId} {size n : Nat} {v : Value} {xs : List Value} (h : w.ownsRow B e size v n xs) (hs : ∀ q, v.ownBlock = some q → w'.heap[q]? = w.heap[q]?) : w'.ownsRow B e size v n xs := by
  refine ⟨h.1, ?_⟩
  rcases h.2 with h0 | ⟨g, cap, cur, h1, h2, h3, h4⟩
  · exact .inl h0
  · exact .inr ⟨g, cap, cur, h1, h2, (hs g (by rw [h1]; rfl)).trans h3, h4⟩
def gD (bs b1 : Nat) (v1 : Value) (b2 : Nat) (v2 : Value) : Array Value := #[.map (some bs), .map (some b1), v1, .map (some b2), v2]
/-- Where the gathering stands. -/
structure GW (w0 : World) (bs b1 b2 bg B : Nat) (K R : List Int) (W : World) : Prop where
  own : ∃ A1 k1 c1 A2 k2 c2, Lies W bg 123 (gD bs b1 (.slice A1 k1 c1) b2 (.slice A2 k2 c2)) ∧ OwnI W B (.slice A1 k1 c1) K ∧ OwnI W B (.slice A2 k2 c2) R ∧
    ∀ q, Value.ownBlock (.slice A1 k1 c1) = some q → Value.ownBlock (.slice A2 k2 c2) ≠ some q
  seen : ∃ m, Bag W w0.heap.size (.agg #[]) bs m
  mapK : IMap W b1 (setL K)
  mapR : IMap W b2 (setL R)
  below : Below w0.heap.size w0 W
  room : B ≤ W.heap.size
theorem GW.drew {w0 : World} {bs b1 b2 bg B : Nat} {K R : List Int} {W : World} (h : GW w0 bs b1 b2 bg B K R W) : GW w0 bs b1 b2 bg B K R W.drew := by
  obtain ⟨⟨A1, k1, c1, A2, k2, c2, h1, h2, h3, h4⟩, ⟨m, h5⟩, h6, h7, h8, h9⟩ := h
  exact ⟨⟨A1, k1, c1, A2, k2, c2, h1, h2, h3, h4⟩, ⟨m, h5.keep (fun _ _ => rfl)⟩, h6, h7, h8.trans ⟨rfl, rfl, rfl, Nat.le_refl _, fun _ _ => rfl⟩, h9⟩
/-- The blocks of the gathering. -/
structure GB (w0 : World) (bs b1 b2 bg B : Nat) : Prop where
  s : w0.heap.size ≤ bs ∧ bs < B
  k : w0.heap.size ≤ b1 ∧ b1 < B
  r : w0.heap.size ≤ b2 ∧ b2 < B
  g : w0.heap.size ≤ bg ∧ bg < B
  ne : bs ≠ b1 ∧ bs ≠ b2 ∧ bs ≠ bg ∧ b1 ≠ b2 ∧ b1 ≠ bg ∧ b2 ≠ bg

set_option maxRecDepth 100000 in
set_option maxHeartbeats 4000000 in
/-- A type variable goes in. -/
theorem addK_any {w0 : World} {bs b1 b2 bg B : Nat} (hb : GB w0 bs b1 b2 bg B) {K R : List Int} {W : World} (hG : GW w0 bs b1 b2 bg B K R W) (n : Int) (hK : K.length ≤ 100000000) :
    Calls Try.prog 76 #[.pointer (some ⟨bg, 1, none⟩), .int .i64 n] W fun e W' => e = .returned (.tuple #[]) ∧ GW w0 bs b1 b2 bg B (addN K n) R W' := by
  obtain ⟨⟨A1, k1, c1, A2, k2, c2, h1, h2, h3, h4⟩, ⟨m, h5⟩, h6, h7, h8, h9⟩ := hG
  obtain ⟨⟨s1, s2⟩, ⟨s3, s4⟩, ⟨s5, s6⟩, ⟨s7, s8⟩, n1, n2, n3, n4, n5, n6⟩ := hb
  have hc := numAdd2_any W bg 1 b1 B _ K A1 k1 c1 n h1 rfl rfl h6 h2 s4 s8 n5 hK h9
  refine hc.mono ?_
  rintro e W' ⟨rfl, A, k, c, hl, hm, hown, hnew, hfr⟩
  have hA1 : ∀ q, Value.ownBlock (.slice A1 k1 c1) = some q → B ≤ q := fun q hq => (own_block h2 q hq).1
  have hA2 : ∀ q, Value.ownBlock (.slice A2 k2 c2) = some q → B ≤ q ∧ q < W.heap.size := fun q hq => own_block h3 q hq
  have far : ∀ g, g < B → g ≠ b1 → g ≠ bg → W'.heap[g]? = W.heap[g]? := fun g hg e1 e2 => hfr.block g (by omega) (by
    rintro (h | h | h)
    · exact e1 h
    · exact e2 h
    · have := hA1 g h; omega)
  have keepo : OwnI W' B (.slice A2 k2 c2) R := own_blk h3 fun q hq => hfr.block q (hA2 q hq).2 (by
    rintro (h | h | h)
    · have := (hA2 q hq).1; omega
    · have := (hA2 q hq).1; omega
    · exact h4 q h hq)
  have hnq : ∀ q, Value.ownBlock (.slice A k c) = some q → Value.ownBlock (.slice A2 k2 c2) ≠ some q := fun q hq hq2 => by
    rcases hnew with h | ⟨q', h, hh⟩
    · rw [h] at hq
      exact h4 q hq hq2
    · rw [hh] at hq
      injection hq with hq
      have := (hA2 q hq2).2
      omega
  refine ⟨rfl, ⟨A, k, c, A2, k2, c2, hl, hown, keepo, hnq⟩, ⟨m, h5.keepB (far _ s2 (by omega) (by omega)) fun g hg => far g (by omega) (by omega) (by omega)⟩, hm, h7.keep (far _ s6 (by omega) (by omega)), ?_, Nat.le_trans h9 hfr.size⟩
  exact h8.trans ⟨hfr.os, hfr.tape, hfr.output, hfr.size, fun g hg => far g (by omega) (by omega) (by omega)⟩
set_option maxRecDepth 100000 in
set_option maxHeartbeats 4000000 in
/-- A row variable goes in. -/
theorem addR_any {w0 : World} {bs b1 b2 bg B : Nat} (hb : GB w0 bs b1 b2 bg B) {K R : List Int} {W : World} (hG : GW w0 bs b1 b2 bg B K R W) (n : Int) (hK : R.length ≤ 100000000) :
    Calls Try.prog 76 #[.pointer (some ⟨bg, 3, none⟩), .int .i64 n] W fun e W' => e = .returned (.tuple #[]) ∧ GW w0 bs b1 b2 bg B K (addN R n) W' := by
  obtain ⟨⟨A1, k1, c1, A2, k2, c2, h1, h2, h3, h4⟩, ⟨m, h5⟩, h6, h7, h8, h9⟩ := hG
  obtain ⟨⟨s1, s2⟩, ⟨s3, s4⟩, ⟨s5, s6⟩, ⟨s7, s8⟩, n1, n2, n3, n4, n5, n6⟩ := hb
  have hc := numAdd2_any W bg 3 b2 B _ R A2 k2 c2 n h1 rfl rfl h7 h3 s6 s8 n6 hK h9
  refine hc.mono ?_
  rintro e W' ⟨rfl, A, k, c, hl, hm, hown, hnew, hfr⟩
  have hA1 : ∀ q, Value.ownBlock (.slice A2 k2 c2) = some q → B ≤ q := fun q hq => (own_block h3 q hq).1
  have hA2 : ∀ q, Value.ownBlock (.slice A1 k1 c1) = some q → B ≤ q ∧ q < W.heap.size := fun q hq => own_block h2 q hq
  have far : ∀ g, g < B → g ≠ b2 → g ≠ bg → W'.heap[g]? = W.heap[g]? := fun g hg e1 e2 => hfr.block g (by omega) (by
    rintro (h | h | h)
    · exact e1 h
    · exact e2 h
    · have := hA1 g h; omega)
  have keepo : OwnI W' B (.slice A1 k1 c1) K := own_blk h2 fun q hq => hfr.block q (hA2 q hq).2 (by
    rintro (h | h | h)
    · have := (hA2 q hq).1; omega
    · have := (hA2 q hq).1; omega
    · exact h4 q hq h)
  have hnq : ∀ q, Value.ownBlock (.slice A k c) = some q → Value.ownBlock (.slice A1 k1 c1) ≠ some q := fun q hq hq2 => by
    rcases hnew with h | ⟨q', h, hh⟩
    · rw [h] at hq
      exact h4 q hq2 hq
    · rw [hh] at hq
      injection hq with hq
      have := (hA2 q hq2).2
      omega
  refine ⟨rfl, ⟨A1, k1, c1, A, k, c, hl, keepo, hown, fun q h1 h2 => hnq q h2 h1⟩, ⟨m, h5.keepB (far _ s2 (by omega) (by omega)) fun g hg => far g (by omega) (by omega) (by omega)⟩, h6.keep (far _ s4 (by omega) (by omega)), hm, ?_, Nat.le_trans h9 hfr.size⟩
  exact h8.trans ⟨hfr.os, hfr.tape, hfr.output, hfr.size, fun g hg => far g (by omega) (by omega) (by omega)⟩
end Go.Proofs.Ythdfomcpoofkaaa

/- What gathers the variables of a type that came in: the walk. -/
namespace Go.Proofs.Ythdfomcpoofkaaa
open Go.RowKit

theorem sizeL_appG : ∀ (a b : List Ty), Ty.sizeL (a ++ b) = Ty.sizeL a + Ty.sizeL b
  | [], b => by simp [Ty.sizeL]
  | t :: a, b => by simp only [List.cons_append, Ty.sizeL, sizeL_appG a b]; omega
theorem sizeL_stepG (l : List Ty) (j : Nat) (t : Ty) (h : l[j]? = some t) : Ty.sizeL (l.take (j + 1)) = Ty.sizeL (l.take j) + t.size := by
  rw [take_step l j t h, sizeL_appG]
  simp [Ty.sizeL]
theorem sizeL_leG (l : List Ty) (j : Nat) : Ty.sizeL (l.take j) ≤ Ty.sizeL l := by
  have h := congrArg Ty.sizeL (List.take_append_drop j l)
  rw [sizeL_appG] at h
  omega
theorem sizeL_lenG : ∀ l : List Ty, l.length ≤ Ty.sizeL l
  | [] => Nat.le_refl _
  | t :: l => by have := sizeL_lenG l; have := Ty.size_pos t; simp only [Ty.sizeL, List.length_cons]; omega
set_option maxRecDepth 100000 in
set_option maxHeartbeats 8000000 in
theorem gatherW_step (w0 : World) (bs b1 b2 bg B : Nat) (hb : GB w0 bs b1 b2 bg B) (N : Nat)
    (ih : ∀ (a : Addr) (t : Ty), TW w0 a t → t.size ≤ N → ∀ (W : World) (K R : List Int), GW w0 bs b1 b2 bg B K R W → K.length + 2 * t.size ≤ 100000000 → R.length + 2 * t.size ≤ 100000000 →
      Calls Try.prog 62 #[.pointer (some ⟨bg, 0, none⟩), .pointer (some a)] W fun e W' => e = .returned (.tuple #[]) ∧ ∃ K' R', GW w0 bs b1 b2 bg B K' R' W' ∧ Ext1 (inK t) (2 * t.size) K K' ∧ Ext1 (inR t) (2 * t.size) R R')
    (a : Addr) (T : Ty) (hta : TW w0 a T) (hsz : T.size ≤ N + 1) (W : World) (K R : List Int) (hG : GW w0 bs b1 b2 bg B K R W) (hlk : K.length + 2 * T.size ≤ 100000000) (hlr : R.length + 2 * T.size ≤ 100000000) :
      Calls Try.prog 62 #[.pointer (some ⟨bg, 0, none⟩), .pointer (some a)] W fun e W' => e = .returned (.tuple #[]) ∧ ∃ K' R', GW w0 bs b1 b2 bg B K' R' W' ∧ Ext1 (inK T) (2 * T.size) K K' ∧ Ext1 (inR T) (2 * T.size) R R' := by
  obtain ⟨k, nm, v, kids, ls, rv, kv, lv, h0, hat, hr, hk, hok, hks, hT⟩ : ∃ k nm v kids ls rv kv lv, a.spot = none ∧ AtC w0 w0.heap.size a ∧ ReadsAt w0 a (tyC k nm v kv lv rv) ∧ SlR kv kids.length ∧ oks k v rv ∧ (∀ (i : Nat) t, kids[i]? = some t → TW w0 (kidAt kv i) t) ∧ T = .mk k nm v kids ls rv := by
    cases hta with
    | mk _ k nm v kids ls rv kv lv h0 hat hr hk hi hks => exact ⟨k, nm, v, kids, ls, rv, kv, lv, h0, hat, hr, hk, hi, hks, rfl⟩
  obtain ⟨b, o, sp⟩ := a
  have hsp : sp = none := h0
  subst hsp
  obtain ⟨A, q, rfl, hq, hqg⟩ := hk.form
  have hTs : T.size = 1 + Ty.sizeL kids := by rw [hT, Ty.size]
  have hikx : ∀ (j : Nat) t, kids[j]? = some t → ∀ n, inK t n → inK T n := fun j t ht n hn => by rw [hT]; simp only [inK]; exact .inr (inKL_get kids j t n ht hn)
  have hirx : ∀ (j : Nat) t, kids[j]? = some t → ∀ n, inR t n → inR T n := fun j t ht n hn => by rw [hT]; simp only [inR]; exact .inr (inRL_get kids j t n ht hn)
  have hpk : k = 7 → inK T v := fun h => by rw [hT]; simp only [inK]; exact .inl ⟨h, trivial⟩
  have hkz : ∀ (j : Nat) t, kids[j]? = some t → t.size ≤ N := fun j t ht => by
    have h1 := sizeL_stepG kids j t ht
    have h2 := sizeL_leG kids (j + 1)
    omega
  obtain ⟨n, hn⟩ : ∃ n, n = kids.length := ⟨_, rfl⟩
  have hpr : rv ≠ 0 → 0 < n → inR T rv := fun h h2 => by rw [hT]; simp only [inR]; exact .inl ⟨h, trivial, fun e => by rw [hn, e] at h2; simp at h2⟩
  obtain ⟨sj, hsj⟩ : ∃ f : Nat → Nat, f = fun j => (if j = 0 then 1 else 2) + 2 * Ty.sizeL (kids.take j) := ⟨_, rfl⟩
  have hz : ∀ (j : Nat) t, kids[j]? = some t → sj j + 2 * t.size + (if j = 0 then 1 else 0) ≤ sj (j + 1) ∧ sj (j + 1) ≤ 2 * T.size := fun j t ht => by
    have h1 := sizeL_stepG kids j t ht
    have h2 := sizeL_leG kids (j + 1)
    rw [hsj]
    by_cases hj : j = 0
    · subst hj
      simp only [if_true, Nat.zero_add, if_neg Nat.one_ne_zero] at h1 h2 ⊢
      omega
    · simp only [if_neg hj, if_neg (Nat.succ_ne_zero j)]
      omega
  have hs0 : 1 ≤ sj 0 := by rw [hsj]; simp
  have hse : sj n ≤ 2 * T.size := by
    have h2 := sizeL_leG kids n
    rw [hsj]
    dsimp only
    split <;> omega
  obtain ⟨m, hbag⟩ := hG.seen
  have hB := hG.below
  obtain ⟨A2, k2, c2, A3, k3, c3, hl, _⟩ := hG.own
  have hf := first_bag W bs m ⟨b, o, none⟩ hbag (hat.keep (hB.block _ hat.2.2))
  have c0 : W.cell? ⟨bg, 0, none⟩ = some (.map (some bs)) := hl.cell 0
  rw [← hn] at hk hq hqg hr
  have HF := Lib.hid hf
  have HGW := Lib.hid hG
  have HGB := Lib.hid hb
  have HLT := Lib.hid (show b < w0.heap.size from hat.2.2)
  have HR0 := Lib.hid hr
  have HKS := Lib.hid hks
  have HQ := Lib.hid hqg
  have HN := Lib.hid hn
  have HKZ := Lib.hid hkz
  have HIKx := Lib.hid hikx
  have HIRx := Lib.hid hirx
  have HPK := Lib.hid hpk
  have HPR := Lib.hid hpr
  have HSJ := Lib.hid hz
  have HS0 := Lib.hid hs0
  have HSE := Lib.hid hse
  have HLK := Lib.hid hlk
  have HLR := Lib.hid hlr
  have HOK := Lib.hid hok
  have IH := Lib.hid ih
  have hnm : n ≤ 9223372036854775807 := by
    have h2 := sizeL_lenG kids
    omega
  clear hf hl hbag hG hb hat hr hks hqg hn hkz hikx hirx hpk hpr hz hs0 hse hlk hlr hok ih hk hsj hTs hT hta hsz hB
  go_enter Try.func62, Try.ntmps62
  go_wp2_with fail
  refine HF.out.mono ?_
  rintro e W1 ⟨f, rfl, hS1, hbt⟩
  have hG1 : GW w0 bs b1 b2 bg B K R W1 := by
    obtain ⟨⟨A1, k1, c1, A2, k2, c2, h1, h2, h3, h4⟩, ⟨m', h5⟩, h6, h7, h8, h9⟩ := HGW.out
    obtain ⟨⟨s1, s2⟩, ⟨s3, s4⟩, ⟨s5, s6⟩, ⟨s7, s8⟩, n1, n2, n3, n4, n5, n6⟩ := HGB.out
    refine ⟨⟨A1, k1, c1, A2, k2, c2, (hbt.block _ h1.lt (by omega)).trans h1, own_same h2 fun g hg hlt => hbt.block g hlt (by omega), own_same h3 fun g hg hlt => hbt.block g hlt (by omega), h4⟩, ⟨_, hS1⟩, h6.keep (hbt.block _ h6.lt (by omega)), h7.keep (hbt.block _ h7.lt (by omega)), h8.trans (hbt.below s1 h8.size), Nat.le_trans h9 hbt.size⟩
  have HG1 := Lib.hid hG1
  have hB1 := hG1.below
  obtain ⟨r0, _, r2, r3, _, r5⟩ := reads6 (HR0.out.keep (hB1.block _ HLT.out))
  clear hS1 hbt hG1 hB1 HF c0
  cases f with
  | false =>
    go_wp2_with fail
    refine bodyPost_ret (results_none rfl _ _ _) rfl ?_
    exact ⟨rfl, K, R, HG1.out, (Ext1.refl _ K).mono (fun _ h => h) (Nat.zero_le _), (Ext1.refl _ R).mono (fun _ h => h) (Nat.zero_le _)⟩
  | true =>
    by_cases hk7 : k = 7
    · subst hk7
      go_wp2_with fail
      go_still_tail 7, (by kernel_rfl)
      change wpList _ _ _ _ _ W1.drew
      have hca := addK_any HGB.out HG1.out.drew v (by have := HLK.out; omega)
      have HCA := Lib.hid hca
      clear hca
      go_wp2_with fail
      refine HCA.out.mono ?_
      rintro e W3 ⟨rfl, hG3⟩
      have r3' : W3.cell? ⟨b, o + 3, none⟩ = some (.slice A n q) := (hG3.below.cell (p := ⟨b, o + 3, none⟩) HLT.out).trans (HR0.out 3 _ rfl)
      have HGS := Lib.hid hG3
      have HE1 := Lib.hid (Ext1.add K v (HPK.out (by first | rfl | trivial)) HOK.out.2.1)
      clear hG3 r0 r2 r3 r5
      go_wp2_with fail
      go_loopw [30] (fun i wr => ∃ (j : Nat) (K' R' : List Int), j ≤ n ∧ i = .int .i64 j ∧ GW w0 bs b1 b2 bg B K' R' wr ∧ Ext1 (inK T) (sj j) K K' ∧ Ext1 (inR T) (sj j) R R') (fun i _ => n - (intOf i).toNat)
      case atStart => exact ⟨0, _, _, Nat.zero_le _, rfl, HGS.out, HE1.out.mono (fun _ h => h) HS0.out, (Ext1.refl _ R).mono (fun _ h => h) (Nat.zero_le _)⟩
      case round =>
        obtain ⟨j, K', R', hj, rfl, hGj, hEK, hER⟩ := hrel
        have hBw := hGj.below
        have r3j : wr.cell? ⟨b, o + 3, none⟩ = some (.slice A n q) := (hBw.cell (p := ⟨b, o + 3, none⟩) HLT.out).trans (HR0.out 3 _ rfl)
        have r5j : wr.cell? ⟨b, o + 5, none⟩ = some (.int .i64 rv) := (hBw.cell (p := ⟨b, o + 5, none⟩) HLT.out).trans (HR0.out 5 _ rfl)
        have HEK := Lib.hid hEK
        have HER := Lib.hid hER
        have HGJ := Lib.hid hGj
        clear hEK hER hGj
        by_cases hlt : j < n
        · obtain ⟨t, ht⟩ : ∃ t, kids[j]? = some t := ⟨_, List.getElem?_eq_getElem (by have := HN.out; omega)⟩
          obtain ⟨g5, o5, rfl⟩ := HQ.out (by omega)
          have hjq : j < q := by omega
          have hji : (j : Int) < (n : Int) := by omega
          have hz := HSJ.out j t ht
          have hcall := IH.out ⟨g5, o5 + j * 6, none⟩ t (HKS.out j t ht) (HKZ.out j t ht) wr K' R' HGJ.out (by have := HEK.out.len; have := HLK.out; omega) (by have := HER.out.len; have := HLR.out; omega)
          have HIK := Lib.hid (HIKx.out j t ht)
          have HIR := Lib.hid (HIRx.out j t ht)
          have HC := Lib.hid hcall
          have HZ := Lib.hid hz
          clear hcall ht hz hBw r5j
          go_wp2_with fail
          refine HC.out.mono ?_
          rintro e W5 ⟨rfl, K5, R5, hG5, hE5, hF5⟩
          have s5 : W5.cell? ⟨b, o + 5, none⟩ = some (.int .i64 rv) := (hG5.below.cell (p := ⟨b, o + 5, none⟩) HLT.out).trans (HR0.out 5 _ rfl)
          have HG5 := Lib.hid hG5
          have HE5 := Lib.hid (HEK.out.trans (hE5.mono HIK.out (Nat.le_refl _)))
          have HF5 := Lib.hid (HER.out.trans (hF5.mono HIR.out (Nat.le_refl _)))
          clear hG5 hE5 hF5
          by_cases hj0 : j = 0
          · subst hj0
            by_cases hrv : rv = 0
            · go_wp2_with fail
              go_roundw
              case rel => exact ⟨1, K5, R5, by omega, by simp, HG5.out, HE5.out.mono (fun _ h => h) (by have := HZ.out; simp at this ⊢; omega), HF5.out.mono (fun _ h => h) (by have := HZ.out; simp at this ⊢; omega)⟩
              case measure => (simp [intOf] <;> omega)
            · have hrvi : (rv == 0) = false := by simpa using hrv
              go_wp2_with fail
              go_still_tail 8, (by kernel_rfl)
              change wpList _ _ _ _ _ W5.drew
              have hca := addR_any HGB.out HG5.out.drew rv (by have := HF5.out.len; have := HLR.out; have := HZ.out; omega)
              have HCA := Lib.hid hca
              clear hca
              go_wp2_with fail
              refine HCA.out.mono ?_
              rintro e W6 ⟨rfl, hG6⟩
              have HG6 := Lib.hid hG6
              clear hG6
              go_wp2_with fail
              go_roundw
              case rel => exact ⟨1, K5, _, by omega, by simp, HG6.out, HE5.out.mono (fun _ h => h) (by have := HZ.out; simp at this ⊢; omega), (HF5.out.trans (Ext1.add R5 rv (HPR.out hrv (by omega)) HOK.out.2.2)).mono (fun _ h => h) (by have := HZ.out; simp at this ⊢; omega)⟩
              case measure => (simp [intOf] <;> omega)
          · have hj0i : ¬ (j : Int) = 0 := by omega
            go_wp2_with fail
            go_roundw
            case rel => exact ⟨j + 1, K5, R5, by omega, by simp, HG5.out, HE5.out.mono (fun _ h => h) (by have := HZ.out; simp only [hj0, if_false] at this; omega), HF5.out.mono (fun _ h => h) (by have := HZ.out; simp only [hj0, if_false] at this; omega)⟩
            case measure => (simp [intOf] <;> omega)
        · obtain rfl : j = n := by omega
          go_wp2_with fail
          go_end0
          exact ⟨rfl, K', R', HGJ.out, HEK.out.mono (fun _ h => h) HSE.out, HER.out.mono (fun _ h => h) HSE.out⟩
    · have hk7b : (k == 7) = false := by simpa using hk7
      have HGS := Lib.hid HG1.out
      have HE1 := Lib.hid ((Ext1.refl (inK T) K).mono (fun _ h => h) (Nat.zero_le 1))
      clear r2 r5
      go_wp2_with fail
      clear r0 r3
      go_loopw [30] (fun i wr => ∃ (j : Nat) (K' R' : List Int), j ≤ n ∧ i = .int .i64 j ∧ GW w0 bs b1 b2 bg B K' R' wr ∧ Ext1 (inK T) (sj j) K K' ∧ Ext1 (inR T) (sj j) R R') (fun i _ => n - (intOf i).toNat)
      case atStart => exact ⟨0, _, _, Nat.zero_le _, rfl, HGS.out, HE1.out.mono (fun _ h => h) HS0.out, (Ext1.refl _ R).mono (fun _ h => h) (Nat.zero_le _)⟩
      case round =>
        obtain ⟨j, K', R', hj, rfl, hGj, hEK, hER⟩ := hrel
        have hBw := hGj.below
        have r3j : wr.cell? ⟨b, o + 3, none⟩ = some (.slice A n q) := (hBw.cell (p := ⟨b, o + 3, none⟩) HLT.out).trans (HR0.out 3 _ rfl)
        have r5j : wr.cell? ⟨b, o + 5, none⟩ = some (.int .i64 rv) := (hBw.cell (p := ⟨b, o + 5, none⟩) HLT.out).trans (HR0.out 5 _ rfl)
        have HEK := Lib.hid hEK
        have HER := Lib.hid hER
        have HGJ := Lib.hid hGj
        clear hEK hER hGj
        by_cases hlt : j < n
        · obtain ⟨t, ht⟩ : ∃ t, kids[j]? = some t := ⟨_, List.getElem?_eq_getElem (by have := HN.out; omega)⟩
          obtain ⟨g5, o5, rfl⟩ := HQ.out (by omega)
          have hjq : j < q := by omega
          have hji : (j : Int) < (n : Int) := by omega
          have hz := HSJ.out j t ht
          have hcall := IH.out ⟨g5, o5 + j * 6, none⟩ t (HKS.out j t ht) (HKZ.out j t ht) wr K' R' HGJ.out (by have := HEK.out.len; have := HLK.out; omega) (by have := HER.out.len; have := HLR.out; omega)
          have HIK := Lib.hid (HIKx.out j t ht)
          have HIR := Lib.hid (HIRx.out j t ht)
          have HC := Lib.hid hcall
          have HZ := Lib.hid hz
          clear hcall ht hz hBw r5j
          go_wp2_with fail
          refine HC.out.mono ?_
          rintro e W5 ⟨rfl, K5, R5, hG5, hE5, hF5⟩
          have s5 : W5.cell? ⟨b, o + 5, none⟩ = some (.int .i64 rv) := (hG5.below.cell (p := ⟨b, o + 5, none⟩) HLT.out).trans (HR0.out 5 _ rfl)
          have HG5 := Lib.hid hG5
          have HE5 := Lib.hid (HEK.out.trans (hE5.mono HIK.out (Nat.le_refl _)))
          have HF5 := Lib.hid (HER.out.trans (hF5.mono HIR.out (Nat.le_refl _)))
          clear hG5 hE5 hF5
          by_cases hj0 : j = 0
          · subst hj0
            by_cases hrv : rv = 0
            · go_wp2_with fail
              go_roundw
              case rel => exact ⟨1, K5, R5, by omega, by simp, HG5.out, HE5.out.mono (fun _ h => h) (by have := HZ.out; simp at this ⊢; omega), HF5.out.mono (fun _ h => h) (by have := HZ.out; simp at this ⊢; omega)⟩
              case measure => (simp [intOf] <;> omega)
            · have hrvi : (rv == 0) = false := by simpa using hrv
              go_wp2_with fail
              go_still_tail 8, (by kernel_rfl)
              change wpList _ _ _ _ _ W5.drew
              have hca := addR_any HGB.out HG5.out.drew rv (by have := HF5.out.len; have := HLR.out; have := HZ.out; omega)
              have HCA := Lib.hid hca
              clear hca
              go_wp2_with fail
              refine HCA.out.mono ?_
              rintro e W6 ⟨rfl, hG6⟩
              have HG6 := Lib.hid hG6
              clear hG6
              go_wp2_with fail
              go_roundw
              case rel => exact ⟨1, K5, _, by omega, by simp, HG6.out, HE5.out.mono (fun _ h => h) (by have := HZ.out; simp at this ⊢; omega), (HF5.out.trans (Ext1.add R5 rv (HPR.out hrv (by omega)) HOK.out.2.2)).mono (fun _ h => h) (by have := HZ.out; simp at this ⊢; omega)⟩
              case measure => (simp [intOf] <;> omega)
          · have hj0i : ¬ (j : Int) = 0 := by omega
            go_wp2_with fail
            go_roundw
            case rel => exact ⟨j + 1, K5, R5, by omega, by simp, HG5.out, HE5.out.mono (fun _ h => h) (by have := HZ.out; simp only [hj0, if_false] at this; omega), HF5.out.mono (fun _ h => h) (by have := HZ.out; simp only [hj0, if_false] at this; omega)⟩
            case measure => (simp [intOf] <;> omega)
        · obtain rfl : j = n := by omega
          go_wp2_with fail
          go_end0
          exact ⟨rfl, K', R', HGJ.out, HEK.out.mono (fun _ h => h) HSE.out, HER.out.mono (fun _ h => h) HSE.out⟩
theorem gatherW_any (w0 : World) (bs b1 b2 bg B : Nat) (hb : GB w0 bs b1 b2 bg B) : ∀ (N : Nat) (a : Addr) (t : Ty), TW w0 a t → t.size ≤ N → ∀ (W : World) (K R : List Int), GW w0 bs b1 b2 bg B K R W → K.length + 2 * t.size ≤ 100000000 → R.length + 2 * t.size ≤ 100000000 →
      Calls Try.prog 62 #[.pointer (some ⟨bg, 0, none⟩), .pointer (some a)] W fun e W' => e = .returned (.tuple #[]) ∧ ∃ K' R', GW w0 bs b1 b2 bg B K' R' W' ∧ Ext1 (inK t) (2 * t.size) K K' ∧ Ext1 (inR t) (2 * t.size) R R'
  | 0, _, t, _, h => by have := Ty.size_pos t; omega
  | N + 1, a, t, h, hs => gatherW_step w0 bs b1 b2 bg B hb N (gatherW_any w0 bs b1 b2 bg B hb N) a t h hs
end Go.Proofs.Ythdfomcpoofkaaa
