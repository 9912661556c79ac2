/- A map of the call's own whose keys are pointers at cells that came in: it may answer what it likes. -/
import Derived.Test.YtclaabnjokkbjaaMg06
import Derived.Test.YtclaabnjokkbjaaMg01
import Derived.OwnWalk
import Derived.Outline
import Derived.StillTailTactics
namespace Go.Proofs.Ytclaabnjokkbjaa
open Go Go.MapKept Go.ChangeMaps Go.RowKit
variable {N : Nat}

/-- An address in a block of cells, no end mark at it. -/
def AtC (w : World) (N : Nat) (a : Addr) : Prop := (∃ c t fr, w.heap[a.block]? = some (.cells c t fr)) ∧ w.frozen? a = false ∧ a.block < N
theorem AtC.lt {w : World} {a : Addr} (h : AtC w N a) : a.block < w.heap.size := by
  obtain ⟨⟨c, t, fr, h⟩, _⟩ := h
  exact (Array.getElem?_eq_some_iff.1 h).1
theorem AtC.keep {w w' : World} {a : Addr} (h : AtC w N a) (hk : w'.heap[a.block]? = w.heap[a.block]?) : AtC w' N a := by
  obtain ⟨⟨c, t, fr, h⟩, h2, h3⟩ := h
  refine ⟨⟨c, t, fr, hk.trans h⟩, ?_, h3⟩
  unfold World.frozen? at h2 ⊢
  rw [hk]
  exact h2
/-- Two worlds that differ in what was drawn alone. -/
def Drawn (w w' : World) : Prop := ∃ n, w' = { w with drawn := w.drawn + n }
theorem Drawn.refl (w : World) : Drawn w w := ⟨0, rfl⟩
theorem Drawn.trans {a b c : World} (h : Drawn a b) (k : Drawn b c) : Drawn a c := by
  obtain ⟨n, rfl⟩ := h
  obtain ⟨m, rfl⟩ := k
  exact ⟨n + m, by simp [Nat.add_assoc]⟩
theorem Drawn.heap {w w' : World} (h : Drawn w w') : w'.heap = w.heap := by obtain ⟨n, rfl⟩ := h; rfl
theorem Drawn.below {w w' : World} (h : Drawn w w') : Below w.heap.size w w' := by obtain ⟨n, rfl⟩ := h; exact ⟨rfl, rfl, rfl, Nat.le_refl _, fun _ _ => rfl⟩
theorem Drawn.atc {w w' : World} (h : Drawn w w') {a : Addr} (ha : AtC w N a) : AtC w' N a := ha.keep (by rw [h.heap])
section
variable {P : Program} {w : World} {kt te mt et : TypeId} {inf : TypeInfo} {z : Value}
theorem run_mayBe {a b : Addr} (ha : AtC w N a) (hb : AtC w N b) : ∃ r, (mayBeOne a b).run P w = .ok r w := by
  obtain ⟨⟨ca, ta, fa, ha⟩, ha2, _⟩ := ha
  obtain ⟨⟨cb, tb, fb, hb⟩, hb2, _⟩ := hb
  exact ⟨_, by simp [mayBeOne, stringish, ha2, hb2, World.shape?, ha, hb]; rfl⟩
theorem run_sameAddr_any {a b : Addr} (ha : AtC w N a) (hb : AtC w N b) : ∃ r w', (sameAddr a b).run P w = .ok r w' ∧ Drawn w w' := by
  by_cases hbl : a.block = b.block
  · exact ⟨a == b, w, by simp [sameAddr, hbl], .refl w⟩
  · obtain ⟨r, hr⟩ := run_mayBe (P := P) ha hb
    obtain ⟨⟨ca, ta, fa, ha⟩, ha2, _⟩ := ha
    obtain ⟨⟨cb, tb, fb, hb⟩, hb2, _⟩ := hb
    cases r with
    | true =>
      by_cases hf : (Question.extern "sameAddr.stringBytes" 2).forced = true
      · exact ⟨_, _, by simp [sameAddr, hbl, ha2, noView, viewAt, World.shape?, ha, hb, hr, hf, Result.andThen]; rfl, .refl w⟩
      · exact ⟨_, _, by simp [sameAddr, hbl, ha2, noView, viewAt, World.shape?, ha, hb, hr, hf, Result.andThen]; rfl, ⟨1, rfl⟩⟩
    | false => exact ⟨false, w, by simp [sameAddr, hbl, ha2, noView, viewAt, World.shape?, ha, hb, hr, Result.andThen], .refl w⟩
theorem run_equal_any (hk : P.underlying kt = some (.pointer te)) (hte : P.info? te = some inf) (hsz : inf.size ≠ 0) {a b : Addr} (ha : AtC w N a) (hb : AtC w N b) : ∃ r w', (Op.equal kt (.pointer (some a)) (.pointer (some b))).run P w = .ok r w' ∧ Drawn w w' := by
  obtain ⟨r, w', hr, hd⟩ := run_sameAddr_any (P := P) ha hb
  have h : ∀ d, (Op.equalIn (d + 1) kt (.pointer (some a)) (.pointer (some b))).run P w = .ok r w' := fun d => by
    simp [Op.equalIn, run_underlying hk, typeInfo, sizeOf, hte, hsz, hr]
  exact ⟨r, w', h 9999, hd⟩
/-- An entry whose key is a pointer at cells. -/
def BagE (w : World) (N : Nat) (z : Value) (e : MapEntry) : Prop := e.val = z ∧ ∃ a, e.key = .pointer (some a) ∧ AtC w N a
theorem run_findAsking_any (hk : P.underlying kt = some (.pointer te)) (hte : P.info? te = some inf) (hsz : inf.size ≠ 0) (a : Addr) : ∀ (es : List MapEntry) (i : Nat) (w : World), AtC w N a → (∀ e ∈ es, BagE w N z e) →
    ∃ r w', (Instr.findAsking kt (.pointer (some a)) es i).run P w = .ok r w' ∧ Drawn w w' ∧ (r = none ∨ ∃ j, r = some (j, z))
  | [], i, w, _, _ => ⟨none, w, by simp [Instr.findAsking], .refl w, .inl rfl⟩
  | e :: es, i, w, ha, hes => by
    obtain ⟨hv, x, hkx, hx⟩ := hes e (by simp)
    obtain ⟨r, w1, hr, hd⟩ := run_equal_any hk hte hsz ha hx
    cases r with
    | true => exact ⟨some (i, z), w1, by simp [Instr.findAsking, hkx, hr, hv, Result.andThen], hd, .inr ⟨i, rfl⟩⟩
    | false =>
      obtain ⟨r2, w2, hr2, hd2, hc⟩ := run_findAsking_any hk hte hsz a es (i + 1) w1 (hd.atc ha) (fun e he => by
        obtain ⟨h1, x, h2, h3⟩ := hes e (by simp [he])
        exact ⟨h1, x, h2, hd.atc h3⟩)
      exact ⟨r2, w2, by simp [Instr.findAsking, hkx, hr, Result.andThen, hr2], hd.trans hd2, hc⟩
theorem run_findKey_any (hk : P.underlying kt = some (.pointer te)) (hte : P.info? te = some inf) (hsz : inf.size ≠ 0) (a : Addr) (ha : AtC w N a) (es : List MapEntry) (hes : ∀ e ∈ es, BagE w N z e) :
    ∃ r w', (Instr.findKey kt (.pointer (some a)) es).run P w = .ok r w' ∧ Drawn w w' ∧ (r = none ∨ ∃ j, r = some (j, z)) := by
  cases es with
  | nil => exact ⟨none, w, by simp [Instr.findKey, run_underlying hk, Result.andThen, Instr.findNow], .refl w, .inl rfl⟩
  | cons e es =>
    obtain ⟨r, w', hr, hd, hc⟩ := run_findAsking_any (z := z) hk hte hsz a (e :: es) 0 w ha hes
    obtain ⟨hv, x, hkx, hx⟩ := hes e (by simp)
    exact ⟨r, w', by simp [Instr.findKey, run_underlying hk, Result.andThen, Instr.findNow, Instr.sameNow, hkx, hr], hd, hc⟩
end
/-- The map in block b has pointers at cells as keys, and z at each. -/
def Bag (w : World) (N : Nat) (z : Value) (b m : Nat) : Prop := ∃ es clock, w.heap[b]? = some (.map es clock) ∧ es.size ≤ m ∧ ∀ e ∈ es.toList, BagE w N z e
theorem Bag.made (w : World) (z : Value) : Bag (w.alloc (.map #[] 0)) N z w.heap.size 0 := ⟨#[], 0, (MapKept.heap_alloc w _).1, by simp, fun e h => by simp at h⟩
theorem Bag.mono {w : World} {z : Value} {b m m' : Nat} (h : Bag w N z b m) (hm : m ≤ m') : Bag w N z b m' := by
  obtain ⟨es, clock, hb, hs, he⟩ := h
  exact ⟨es, clock, hb, by omega, he⟩
theorem Bag.lt {w : World} {z : Value} {b m : Nat} (h : Bag w N z b m) : b < w.heap.size := by
  obtain ⟨es, clock, hb, _⟩ := h
  exact (Array.getElem?_eq_some_iff.1 hb).1
theorem Bag.isMap {w : World} {z : Value} {b m : Nat} (h : Bag w N z b m) : ∃ es c, w.heap[b]? = some (.map es c) := by
  obtain ⟨es, clock, hb, _⟩ := h
  exact ⟨_, _, hb⟩
theorem Bag.keepB {w w' : World} {z : Value} {b m : Nat} (h : Bag w N z b m) (hb : w'.heap[b]? = w.heap[b]?) (hk : ∀ g, g < N → w'.heap[g]? = w.heap[g]?) : Bag w' N z b m := by
  obtain ⟨es, clock, hb', hs, he⟩ := h
  refine ⟨es, clock, hb.trans hb', hs, fun e h => ?_⟩
  obtain ⟨h1, x, h2, h3⟩ := he e h
  exact ⟨h1, x, h2, h3.keep (hk _ h3.2.2)⟩
theorem Bag.keep {w w' : World} {z : Value} {b m : Nat} (h : Bag w N z b m) (hk : ∀ g, g < w.heap.size → w'.heap[g]? = w.heap[g]?) : Bag w' N z b m := by
  have hl := h.lt
  obtain ⟨es, clock, hb, hs, he⟩ := h
  refine ⟨es, clock, (hk b hl).trans hb, hs, fun e h => ?_⟩
  obtain ⟨h1, x, h2, h3⟩ := he e h
  exact ⟨h1, x, h2, h3.keep (hk _ h3.lt)⟩
section
variable {P : Program} {w : World} {kt te mt et : TypeId} {inf : TypeInfo} {z : Value}
theorem Bag.lookup {b m : Nat} (h : Bag w N z b m) (hm : P.underlying mt = some (.map kt et)) (hk : P.underlying kt = some (.pointer te)) (hte : P.info? te = some inf) (hsz : inf.size ≠ 0)
    (hz : ∀ w, (zeroValue et).run P w = .ok z w) (a : Addr) (ha : AtC w N a) : ∃ f w', (Instr.lookup mt (.map (some b)) (.pointer (some a)) true).run P w = .ok (.tuple #[z, .bool f]) w' ∧ Drawn w w' := by
  obtain ⟨es, clock, hb, _, he⟩ := h
  obtain ⟨r, w', hr, hd, hc⟩ := run_findKey_any (z := z) hk hte hsz a ha es.toList he
  rcases hc with rfl | ⟨j, rfl⟩
  · exact ⟨false, w', by simp [Instr.lookup, run_underlying hm, MapKept.run_getObj_map hb, Result.andThen, run_checkKey_ptr hk _ 9999, hr, hz], hd⟩
  · exact ⟨true, w', by simp [Instr.lookup, run_underlying hm, MapKept.run_getObj_map hb, Result.andThen, run_checkKey_ptr hk _ 9999, hr], hd⟩
theorem run_keyStays (old new : Value) : ∃ k w', (Instr.keyThatStays old new).run P w = .ok k w' ∧ Drawn w w' ∧ (k = new ∨ k = old) := by
  by_cases h : Instr.sameBits 10000 old new = true
  · exact ⟨new, w, by simp [Instr.keyThatStays, h], .refl w, .inl rfl⟩
  · by_cases hf : (Question.extern "map.whichKeyStays" 2).forced = true
    · exact ⟨new, _, by simp [Instr.keyThatStays, h, hf, Result.andThen], .refl w, .inl rfl⟩
    · by_cases hc : (Question.extern "map.whichKeyStays" 2).cut (w.tape w.drawn (Question.extern "map.whichKeyStays" 2)) = 0
      · exact ⟨new, _, by simp [Instr.keyThatStays, h, hf, hc, Result.andThen], ⟨1, rfl⟩, .inl rfl⟩
      · exact ⟨old, _, by simp [Instr.keyThatStays, h, hf, hc, Result.andThen], ⟨1, rfl⟩, .inr rfl⟩
/-- Nothing but a block, and what was drawn, has turned. -/
theorem Bag.update {b m : Nat} (h : Bag w N z b m) (hm : P.underlying mt = some (.map kt et)) (hk : P.underlying kt = some (.pointer te)) (hte : P.info? te = some inf) (hsz : inf.size ≠ 0)
    (a : Addr) (ha : AtC w N a) : ∃ w', (Instr.mapUpdate mt (.map (some b)) (.pointer (some a)) z).run P w = .ok () w' ∧ Bag w' N z b (m + 1) ∧ w.grownBy w' (some b) ∧ w'.heap.size = w.heap.size := by
  have hbl := h.lt
  obtain ⟨es, clock, hb, hsz1, he⟩ := h
  obtain ⟨r, w1, hr, hd, hc⟩ := run_findKey_any (z := z) hk hte hsz a ha es.toList he
  have hb1 : w1.heap[b]? = some (.map es clock) := by rw [hd.heap]; exact hb
  have hat : ∀ (w2 : World) (o : Obj) (es' : Array MapEntry) (c' : Nat), o = .map es' c' → Drawn w w2 → ∀ x, AtC w N x → AtC (setBlock w2 b o) N x := fun w2 o es' c' ho hd2 x hx => by
    have h2 := hd2.atc hx
    refine h2.keep ?_
    have hne : x.block ≠ b := fun e => by
      obtain ⟨⟨c, t, fr, h3⟩, _⟩ := hx
      rw [e, hb] at h3
      cases h3
    exact heap_setBlock_other (w := w2) (by rw [hd2.heap]; exact hb) _ hne
  have hgr : ∀ (w2 : World) (o : Obj), Drawn w w2 → w.grownBy (setBlock w2 b o) (some b) ∧ (setBlock w2 b o).heap.size = w.heap.size := fun w2 o hd2 => by
    have hh := hd2.heap
    obtain ⟨n, rfl⟩ := hd2
    exact ⟨⟨rfl, rfl, rfl, by simp [setBlock], fun i _ hi => heap_setBlock_other (w := { w with drawn := w.drawn + n }) hb _ (fun e => hi (by rw [e]))⟩, by simp [setBlock]⟩
  rcases hc with rfl | ⟨j, rfl⟩
  · obtain ⟨g1, g2⟩ := hgr w1 (.map (es.push ⟨.pointer (some a), z, clock⟩) (clock + 1)) hd
    refine ⟨setBlock w1 b (.map (es.push ⟨.pointer (some a), z, clock⟩) (clock + 1)), ?_, ⟨_, _, heap_setBlock_same hb1 _, by simp; omega, fun e hx => ?_⟩, g1, g2⟩
    · simp [Instr.mapUpdate, run_underlying hm, MapKept.run_getObj_map hb, run_checkKey_ptr hk _ 9999, hr, MapKept.run_setObj_map _ hb1, Result.andThen, setBlock]
    · rw [Array.toList_push, List.mem_append] at hx
      rcases hx with hx | hx
      · obtain ⟨h1, x, h2, h3⟩ := he e hx
        exact ⟨h1, x, h2, hat w1 _ _ _ rfl hd x h3⟩
      · rw [List.mem_singleton.1 hx]
        exact ⟨rfl, a, rfl, hat w1 _ _ _ rfl hd a ha⟩
  · obtain ⟨k, w2, hk2, hd2, hkc⟩ := run_keyStays (P := P) (w := w1) (((es[j]?).map (·.key)).getD (.pointer (some a))) (.pointer (some a))
    have hd12 := hd.trans hd2
    have hb2 : w2.heap[b]? = some (.map es clock) := by rw [hd12.heap]; exact hb
    have hkx : ∃ x, k = .pointer (some x) ∧ AtC w N x := by
      rcases hkc with rfl | rfl
      · exact ⟨a, rfl, ha⟩
      · cases hj : es[j]? with
        | none => exact ⟨a, rfl, ha⟩
        | some e =>
          obtain ⟨_, x, h2, h3⟩ := he e (by rw [Array.mem_toList_iff]; exact Array.mem_of_getElem? hj)
          exact ⟨x, h2, h3⟩
    obtain ⟨g1, g2⟩ := hgr w2 (.map (es.modify j fun e => { e with key := k, val := z }) clock) hd12
    refine ⟨setBlock w2 b (.map (es.modify j fun e => { e with key := k, val := z }) clock), ?_, ⟨_, _, heap_setBlock_same hb2 _, by simp; omega, fun e hx => ?_⟩, g1, g2⟩
    · simp [Instr.mapUpdate, run_underlying hm, MapKept.run_getObj_map hb, run_checkKey_ptr hk _ 9999, hr, hk2, MapKept.run_setObj_map _ hb2, Result.andThen, setBlock]
    · obtain ⟨x0, hk0, hx0⟩ := hkx
      obtain ⟨i, hi⟩ := List.getElem?_of_mem hx
      rw [Array.getElem?_toList, Array.getElem?_modify] at hi
      split at hi
      · cases hji : es[i]? with
        | none => rw [hji] at hi; simp at hi
        | some e0 =>
          rw [hji] at hi
          simp at hi
          subst hi
          exact ⟨rfl, x0, hk0, hat w2 _ _ _ rfl hd12 x0 hx0⟩
      · obtain ⟨h1, x, h2, h3⟩ := he e (by rw [Array.mem_toList_iff]; exact Array.mem_of_getElem? hi)
        exact ⟨h1, x, h2, hat w2 _ _ _ rfl hd12 x h3⟩
end
/-- Whatever a look-up answers. -/
def LookK (P : Program) (ops : Array Oper) (rest : List Oper) (o : Oper) (a : Act) (Q : Exit → Act → World → Prop) (z : Value) (w : World) : Prop :=
  ∀ f w', Drawn w w' → wpList P ops Q rest (a.put o.dst (.tuple #[z, .bool f])) w'
theorem wpList_lookup_bag {P : Program} (w : World) {ops : Array Oper} {rest : List Oper} {o : Oper} {a : Act} {Q : Exit → Act → World → Prop}
    (hg : o.guard = none) (m x : Operand) (t : TypeId) (hop : o.op = Op.lookup t m x true) {kt te et : TypeId} {inf : TypeInfo} {z : Value} {b n : Nat}
    (hm : a.eval m = .map (some b)) (h : Bag w N z b n) (hmt : P.underlying t = some (.map kt et)) (hk : P.underlying kt = some (.pointer te)) (hte : P.info? te = some inf) (hsz : inf.size ≠ 0)
    (hz : ∀ w, (zeroValue et).run P w = .ok z w) (d : Addr) (hx : a.eval x = .pointer (some d)) (hd : AtC w N d)
    (hK : LookK P ops rest o a Q z w) :
    wpList P ops Q (o :: rest) a w := by
  refine wpList_plain hg fun K' hK' => ?_
  obtain ⟨f, w', hrun, hdr⟩ := h.lookup hmt hk hte hsz hz d hd
  unfold Oper.wp
  simp [execOp, hop, hm, hx, hrun, Result.andThen]
  exact hK' _ _ (hK f w' hdr)
theorem wpList_update_bag {P : Program} (w : World) {ops : Array Oper} {rest : List Oper} {o : Oper} {a : Act} {Q : Exit → Act → World → Prop}
    (hg : o.guard = none) (m x v : Operand) (t : TypeId) (hop : o.op = Op.mapUpdate t m x v) {kt te et : TypeId} {inf : TypeInfo} {z : Value} {b n : Nat}
    (hm : a.eval m = .map (some b)) (h : Bag w N z b n) (hmt : P.underlying t = some (.map kt et)) (hk : P.underlying kt = some (.pointer te)) (hte : P.info? te = some inf) (hsz : inf.size ≠ 0)
    (d : Addr) (hx : a.eval x = .pointer (some d)) (hv : a.eval v = z) (hd : AtC w N d)
    (hK : ∀ w', Bag w' N z b (n + 1) → w.grownBy w' (some b) → w'.heap.size = w.heap.size → wpList P ops Q rest (a.put o.dst undef) w') :
    wpList P ops Q (o :: rest) a w := by
  refine wpList_plain hg fun K' hK' => ?_
  obtain ⟨w', hrun, r1, r2, r3⟩ := h.update hmt hk hte hsz d hd
  unfold Oper.wp
  simp [execOp, hop, hm, hx, hv, hrun, Result.andThen]
  exact hK' _ _ (hK w' r1 r2 r3)

set_option maxRecDepth 100000 in
set_option maxHeartbeats 2000000 in
/-- first, at a place that came in: it answers what it likes. -/
theorem first_bag (w : World) (b m : Nat) (d : Addr) (hs : Bag w N (.agg #[]) b m) (hd : AtC w N d) :
    Calls Try.prog 75 #[.map (some b), .pointer (some d)] w fun e w' => ∃ f, e = .returned (.bool f) ∧ Bag w' N (.agg #[]) b (m + 1) ∧ Bt b w w' := by
  obtain ⟨inf, hinf, hsz⟩ := size_type
  have hzu := fun w => zero_unit w
  have HS := Lib.hid hs
  have HD := Lib.hid hd
  clear hs hd
  go_enter Try.func75, Try.ntmps75
  go_wp2_with (first | (at_lookup; refine wpList_lookup_bag _ rfl (.tmp 8) (.tmp 9) 119 rfl rfl HS.out Try.underlying119 Try.underlying125 hinf hsz hzu d rfl HD.out ?_))
  unfold LookK
  intro f w1 hdr
  have hb := below_new w1 (.cells #[] 117)
  have hb0 : Below w.heap.size w (w1.alloc (.cells #[] 117)) := by
    have := hdr.below
    exact this.trans (hb.mono this.size)
  have HB := Lib.hid hb0
  have HS1 := Lib.hid ((HS.out.keep hb0.block).mono (Nat.le_succ m))
  have HS2 := Lib.hid (HS.out.keep hb0.block)
  have HD1 := Lib.hid (HD.out.keep (hb0.block _ HD.out.lt))
  clear hb hb0 hdr
  cases f with
  | true =>
    go_wp2_with fail
    go_ret
    exact ⟨false, rfl, HS1.out, .of_below HB.out⟩
  | false =>
    go_wp2_with (first | (at_mapUpdate; go_loud (refine wpList_update_bag _ rfl (.tmp 14) (.tmp 15) (.tmp 16) 119 rfl rfl HS2.out Try.underlying119 Try.underlying125 hinf hsz d rfl rfl HD1.out ?_)))
    intro w2 hs2 hg2 hz2
    have HS3 := Lib.hid hs2
    have HG := Lib.hid ((Bt.of_below HB.out).trans (Bt.of_grown hg2))
    clear hs2 hg2 hz2
    go_wp2_with fail
    go_ret
    exact ⟨true, rfl, HS3.out, HG.out⟩
end Go.Proofs.Ytclaabnjokkbjaa

/- Package scheme: sets of numbers. -/
namespace Go.Proofs.Ytclaabnjokkbjaa
open Go.RowKit

/-- A list of numbers as it lies. -/
def IntR (w : World) (v : Value) (L : List Int) : Prop :=
  ∃ A c, v = .slice A L.length c ∧ L.length ≤ c ∧ c ≤ maxLen ∧ ∀ (i : Nat) n, L[i]? = some n → i64ok n ∧ ∃ g o, A = some ⟨g, o, none⟩ ∧ w.cell? ⟨g, o + i, none⟩ = some (.int .i64 n)
theorem IntR.nil (w : World) : IntR w (.slice none 0 0) [] := ⟨none, 0, rfl, Nat.le_refl _, by unfold maxLen; omega, fun i n h => by cases h⟩
theorem IntR.later {w w' : World} {v : Value} {L : List Int} (h : IntR w v L) (hb : Below w.heap.size w w') : IntR w' v L := by
  obtain ⟨A, c, h1, h2, h3, h4⟩ := h
  refine ⟨A, c, h1, h2, h3, fun i n hi => ?_⟩
  obtain ⟨h0, g, o, h5, h6⟩ := h4 i n hi
  exact ⟨h0, g, o, h5, (World.cell?_of_block (w := w) (a := ⟨g, o + i, none⟩) (hb.block g (World.block_lt_of_cell? w _ h6))).trans h6⟩
theorem IntR.of_own {w : World} {B : Nat} {v : Value} {L : List Int} (h : w.ownsRow B 3 1 v L.length (L.map fun i => .int .i64 i)) (hL : ∀ n ∈ L, i64ok n) : IntR w v L := by
  rcases own_cells h with ⟨rfl, h0⟩ | ⟨g, cap, rfl, h1, h2, _, h3⟩
  · obtain rfl : L = [] := List.length_eq_zero_iff.1 h0
    exact IntR.nil w
  · refine ⟨_, cap, rfl, h1, h2, fun i n hi => ⟨hL n (List.mem_of_getElem? hi), g, 0, rfl, ?_⟩⟩
    have := h3 i (.int .i64 n) (by rw [List.getElem?_map, hi]; rfl)
    rwa [Nat.zero_add]
/-- A list of numbers as a set. -/
def inG (L : List Int) : GMap := fun n => if n ∈ L then some #[] else none
theorem inG_some (L : List Int) (n : Int) : (inG L n).isSome = decide (n ∈ L) := by
  unfold inG
  by_cases h : n ∈ L <;> simp [h]
theorem inG_nil : inG [] = noG := by funext n; simp [inG, noG]
theorem inG_put (L : List Int) (n : Int) : setG (inG L) n #[] = inG (L ++ [n]) := by
  funext k
  unfold setG inG
  by_cases h : k = n
  · subst h; simp
  · simp [h]
theorem inG_take (L R : List Int) (k : Nat) (n : Int) (h : R[k]? = some n) : setG (inG (L ++ R.take k)) n #[] = inG (L ++ R.take (k + 1)) := by
  rw [inG_put, take_step R k n h, List.append_assoc]
theorem fit0 : Fit1 0 #[] := ⟨rfl, by simp⟩

set_option maxRecDepth 100000 in
set_option maxHeartbeats 2000000 in
theorem has_any (w : World) (b m : Nat) (L : List Int) (n : Int) (h : MapI w 0 b m (inG L)) (hn : i64ok n) :
    Calls Try.prog 63 #[.map (some b), .int .i64 n] w fun e w' => e = .returned (.bool (decide (n ∈ L))) ∧ Below w.heap.size w w' := by
  have hzu := zero_unit w
  have hlk := h.look Try.underlying89 hzu hn
  rw [inG_some] at hlk
  have hv : lookV (.agg #[]) (inG L n) = .agg #[] := by unfold inG; split <;> rfl
  rw [hv] at hlk
  clear hv
  go_enter Try.func63, Try.ntmps63
  go_wp2_with fail
  go_ret
  exact ⟨rfl, below_new w _⟩
end Go.Proofs.Ytclaabnjokkbjaa

/- Package scheme: numbers go into a set; the set of a list. -/
namespace Go.Proofs.Ytclaabnjokkbjaa
open Go.RowKit

theorem IntR.bt {w w' : World} {b : Nat} {v : Value} {L : List Int} (h : IntR w v L) (hb : Bt b w w') (hm : ∃ es c, w.heap[b]? = some (.map es c)) : IntR w' v L := by
  obtain ⟨A, c, h1, h2, h3, h4⟩ := h
  refine ⟨A, c, h1, h2, h3, fun i n hi => ?_⟩
  obtain ⟨h0, g, o, h5, h6⟩ := h4 i n hi
  refine ⟨h0, g, o, h5, (World.cell?_of_block (w := w) (a := ⟨g, o + i, none⟩) (hb.block g (World.block_lt_of_cell? w _ h6) fun e => ?_)).trans h6⟩
  obtain ⟨es, c, hm⟩ := hm
  subst e
  unfold World.cell? at h6
  simp [hm] at h6
set_option maxRecDepth 100000 in
set_option maxHeartbeats 4000000 in
theorem setAdd_any (w : World) (b m : Nat) (L R : List Int) (v : Value) (h : MapI w 0 b m (inG L)) (hr : IntR w v R) (hm : m + R.length ≤ 100000000) :
    Calls Try.prog 46 #[.map (some b), v] w fun e w' => e = .returned (.tuple #[]) ∧ MapI w' 0 b (m + R.length) (inG (L ++ R)) ∧ Bt b w w' := by
  obtain ⟨A, cA, rfl, hcA, hmA, h4⟩ := hr
  obtain ⟨NA, hNA⟩ : ∃ N, N = R.length := ⟨_, rfl⟩
  have HNA := Lib.hid hNA
  have HV := Lib.hid h4
  have H0 := Lib.hid h
  have hisM := h.isMap
  have HIM := Lib.hid (show ∃ es c, w.heap[b]? = some (.map es c) by obtain ⟨es, c, h1, _⟩ := hisM; exact ⟨es, c, h1⟩)
  rw [← hNA] at hcA hm ⊢
  clear hNA h4 h hisM
  go_enter Try.func46, Try.ntmps46
  go_wp2_with fail
  go_loopw [8] (fun i wr => ∃ k : Nat, k ≤ NA ∧ i = .int .i64 k ∧ MapI wr 0 b (m + k) (inG (L ++ R.take k)) ∧ Bt b w wr) (fun i _ => NA - (intOf i).toNat)
  case atStart => exact ⟨0, Nat.zero_le _, rfl, by rw [List.take_zero, List.append_nil]; exact H0.out, Bt.refl b w⟩
  case round =>
    obtain ⟨k, hk, rfl, hM, hB⟩ := hrel
    have HB := Lib.hid hB
    by_cases hlt : k < NA
    · obtain ⟨x, hx⟩ : ∃ x, R[k]? = some x := ⟨_, List.getElem?_eq_getElem (by have := HNA.out; omega)⟩
      obtain ⟨hok, g, o, rfl, h6⟩ := HV.out k x hx
      have z6 : wr.cell? ⟨g, o + k, none⟩ = some (.int .i64 x) := by
        refine (World.cell?_of_block (w := w) (a := ⟨g, o + k, none⟩) (hB.block g (World.block_lt_of_cell? w _ h6) fun e => ?_)).trans h6
        obtain ⟨es, c, h1⟩ := HIM.out
        subst e
        unfold World.cell? at h6
        simp [h1] at h6
      have HST := Lib.hid (inG_take L R k x hx)
      have hlti : (k : Int) < (NA : Int) := by omega
      have hkc : k < cA := by omega
      have HOK := Lib.hid hok
      have HM := Lib.hid hM
      clear h6 hx hB hM hok
      go_wp2_with (first | (at_mapUpdate; refine wpList_mput rfl (.tmp 12) (.tmp 13) (.tmp 14) 89 (.inl rfl) HM.out Try.underlying89 (by unfold maxLen; omega) rfl HOK.out rfl #[] rfl fit0 ?_))
      intro w1 hM1 hg1 hz1
      rw [HST.out] at hM1
      have HM1 := Lib.hid hM1
      have HB1 := Lib.hid (HB.out.trans (Bt.of_grown hg1))
      clear hM1 hg1 hz1
      go_wp2_with fail
      go_roundw
      case rel => exact ⟨k + 1, by omega, by simp, HM1.out, HB1.out⟩
      case measure => simp [intOf]; omega
    · obtain rfl : k = NA := by omega
      rw [HNA.out, List.take_length, ← HNA.out] at hM
      have HM := Lib.hid hM
      clear hM hB
      go_wp2_with fail
      go_end0
      exact ⟨rfl, HM.out, HB.out⟩

set_option maxRecDepth 100000 in
set_option maxHeartbeats 4000000 in
theorem setOf_any (w : World) (R : List Int) (v : Value) (hr : IntR w v R) (hm : R.length ≤ 100000000) :
    Calls Try.prog 50 #[v] w fun e w' => ∃ b, w.heap.size ≤ b ∧ e = .returned (.map (some b)) ∧ MapI w' 0 b R.length (inG R) ∧ Below w.heap.size w w' := by
  have hbn := below_new w (.map #[] 0)
  have hc := setAdd_any (w.alloc (.map #[] 0)) w.heap.size 0 [] R v (by rw [inG_nil]; exact MapI.made w 0) (hr.later hbn) (by omega)
  have HC := Lib.hid hc
  have HBN := Lib.hid hbn
  have hmm := @run_makeMap Try.prog
  clear hc hbn
  go_enter Try.func50, Try.ntmps50
  go_wp2_with fail
  refine HC.out.mono ?_
  rintro e w1 ⟨rfl, hM, hB⟩
  have HB := Lib.hid (HBN.out.trans (hB.below (B := w.heap.size) (Nat.le_refl _) (by simp)))
  have HM := Lib.hid hM
  clear hM hB
  go_wp2_with fail
  go_ret
  refine ⟨_, Nat.le_refl _, rfl, ?_, HB.out⟩
  simpa using HM.out
end Go.Proofs.Ytclaabnjokkbjaa
