/- Maps of the call's own whose keys are ints. -/
import Derived.Test.YtclaabnjokkbjaaMg06
import Derived.OwnWalk
import Derived.StillTailTactics
import Derived.Outline
namespace Go.Proofs.Ytclaabnjokkbjaa
open Go Go.MapKept Go.ChangeMaps Go.RowKit

/-- The map in block b has just these entries, in the order in which they came. -/
def IMap (w : World) (b : Nat) (L : List (Int × Value)) : Prop :=
  ∃ es clock, w.heap[b]? = some (.map es clock) ∧ es.toList.map (fun e => (e.key, e.val)) = L.map (fun p => (Value.int .i64 p.1, p.2))
theorem IMap.lt {w : World} {b : Nat} {L : List (Int × Value)} (h : IMap w b L) : b < w.heap.size := by
  obtain ⟨es, clock, hb, _⟩ := h
  exact (Array.getElem?_eq_some_iff.1 hb).1
theorem IMap.keep {w w' : World} {b : Nat} {L : List (Int × Value)} (h : IMap w b L) (hk : w'.heap[b]? = w.heap[b]?) : IMap w' b L := by
  obtain ⟨es, clock, hb, he⟩ := h
  exact ⟨es, clock, hk.trans hb, he⟩
theorem IMap.made (w : World) : IMap (w.alloc (.map #[] 0)) w.heap.size [] := ⟨#[], 0, (MapKept.heap_alloc w _).1, rfl⟩
def look (k : Int) : List (Int × Value) → Option Value
  | [] => none
  | p :: L => if k = p.1 then some p.2 else look k L
theorem findNow_int (k : Int) : ∀ (es : List MapEntry) (L : List (Int × Value)) (i : Nat), es.map (fun e => (e.key, e.val)) = L.map (fun p => (Value.int .i64 p.1, p.2)) →
    ∃ r, Instr.findNow (.int .i64) (.int .i64 k) es i = some r ∧ ((∃ v j, look k L = some v ∧ r = some (j, v)) ∨ (look k L = none ∧ r = none))
  | [], [], i, _ => ⟨none, rfl, .inr ⟨rfl, rfl⟩⟩
  | [], _ :: _, i, h => by simp at h
  | _ :: _, [], i, h => by simp at h
  | e :: es, p :: L, i, h => by
    simp only [List.map_cons, List.cons.injEq, Prod.mk.injEq] at h
    obtain ⟨⟨h1, h2⟩, h3⟩ := h
    by_cases hx : k = p.1
    · refine ⟨some (i, p.2), ?_, .inl ⟨p.2, i, by simp [look, hx], rfl⟩⟩
      simp [Instr.findNow, Instr.sameNow, h1, h2, hx]
    · obtain ⟨r, hr, hc⟩ := findNow_int k es L (i + 1) h3
      refine ⟨r, ?_, ?_⟩
      · rw [Instr.findNow, h1, show Instr.sameNow (.int .i64) (.int .i64 k) (.int .i64 p.1) = some false by simp [Instr.sameNow, hx]]
        exact hr
      · simpa [look, hx] using hc
section
variable {P : Program} {w : World} {kt mt et : TypeId}
theorem run_findKey_int (hk : P.underlying kt = some (.int .i64)) (k : Int) (es : List MapEntry) (L : List (Int × Value)) (h : es.map (fun e => (e.key, e.val)) = L.map (fun p => (Value.int .i64 p.1, p.2))) :
    ∃ r, (Instr.findKey kt (.int .i64 k) es).run P w = .ok r w ∧ ((∃ v j, look k L = some v ∧ r = some (j, v)) ∨ (look k L = none ∧ r = none)) := by
  obtain ⟨r, hr, hc⟩ := findNow_int k es L 0 h
  exact ⟨r, by simp [Instr.findKey, run_underlying hk, Result.andThen, hr], hc⟩
theorem IMap.lookup {b : Nat} {L : List (Int × Value)} {z : Value} (h : IMap w b L) (hm : P.underlying mt = some (.map kt et)) (hk : P.underlying kt = some (.int .i64)) (hz : (zeroValue et).run P w = .ok z w) (k : Int) :
    (Instr.lookup mt (.map (some b)) (.int .i64 k) true).run P w = .ok (.tuple #[(look k L).getD z, .bool (look k L).isSome]) w := by
  obtain ⟨es, clock, hb, he⟩ := h
  obtain ⟨r, hr, hc⟩ := run_findKey_int (w := w) hk k es.toList L he
  have hck : (Instr.checkKey es.isEmpty (9999 + 1) kt (.int .i64 k)).run P w = .ok () w := MapKept.run_checkKey hk (by first | trivial | exact .int _ _ | constructor) _ _
  rcases hc with ⟨v, j, hv, rfl⟩ | ⟨hv, rfl⟩
  · simp [Instr.lookup, run_underlying hm, MapKept.run_getObj_map hb, Result.andThen, hck, hr, hv]
  · simp [Instr.lookup, run_underlying hm, MapKept.run_getObj_map hb, Result.andThen, hck, hr, hv, hz]
theorem IMap.update {b : Nat} {L : List (Int × Value)} (h : IMap w b L) (hm : P.underlying mt = some (.map kt et)) (hk : P.underlying kt = some (.int .i64)) (k : Int) (v : Value) (hn : look k L = none) :
    ∃ w', (Instr.mapUpdate mt (.map (some b)) (.int .i64 k) v).run P w = .ok () w' ∧ IMap w' b (L ++ [(k, v)]) ∧ w.grownBy w' (some b) := by
  obtain ⟨es, clock, hb, he⟩ := h
  obtain ⟨r, hr, hc⟩ := run_findKey_int (w := w) hk k es.toList L he
  have hck : (Instr.checkKey es.isEmpty (9999 + 1) kt (.int .i64 k)).run P w = .ok () w := MapKept.run_checkKey hk (by first | trivial | exact .int _ _ | constructor) _ _
  have hck' : ∀ e : Bool, (Instr.checkKey e (9999 + 1) kt (.int .i64 k)).run P w = .ok () w := fun e => MapKept.run_checkKey hk (by first | trivial | exact .int _ _ | constructor) _ _
  rcases hc with ⟨u, j, hv, rfl⟩ | ⟨hv, rfl⟩
  · rw [hn] at hv; cases hv
  · refine ⟨setBlock w b (.map (es.push ⟨.int .i64 k, v, clock⟩) (clock + 1)), ?_, ⟨_, _, heap_setBlock_same hb _, ?_⟩, ⟨rfl, rfl, rfl, by simp [setBlock], fun i _ hi => heap_setBlock_other hb _ (fun e => hi (by rw [e]))⟩⟩
    · simp [Instr.mapUpdate, run_underlying hm, MapKept.run_getObj_map hb, hck', hr, MapKept.run_setObj_map _ hb, Result.andThen, setBlock]
    · simp [he]
end
theorem wpList_lookup_imap {P : Program} (w : World) {ops : Array Oper} {rest : List Oper} {o : Oper} {a : Act} {Q : Exit → Act → World → Prop}
    (hg : o.guard = none) (m x : Operand) (t : TypeId) (hop : o.op = Op.lookup t m x true) {kt et : TypeId} {z : Value} {b : Nat} {L : List (Int × Value)}
    (hm : a.eval m = .map (some b)) (h : IMap w b L) (hmt : P.underlying t = some (.map kt et)) (hk : P.underlying kt = some (.int .i64))
    (hz : (zeroValue et).run P w = .ok z w) (k : Int) (hx : a.eval x = .int .i64 k)
    (hK : wpList P ops Q rest (a.put o.dst (.tuple #[(look k L).getD z, .bool (look k L).isSome])) w) :
    wpList P ops Q (o :: rest) a w := by
  refine wpList_plain hg fun K' hK' => ?_
  have hrun := h.lookup hmt hk hz k
  unfold Oper.wp
  simp [execOp, hop, hm, hx, hrun, Result.andThen]
  exact hK' _ _ hK
theorem wpList_update_imap {P : Program} (w : World) {ops : Array Oper} {rest : List Oper} {o : Oper} {a : Act} {Q : Exit → Act → World → Prop}
    (hg : o.guard = none) (m x v : Operand) (t : TypeId) (hop : o.op = Op.mapUpdate t m x v ∨ o.op = Op.insert t m x v) {kt et : TypeId} {b : Nat} {L : List (Int × Value)}
    (hm : a.eval m = .map (some b)) (h : IMap w b L) (hmt : P.underlying t = some (.map kt et)) (hk : P.underlying kt = some (.int .i64))
    (k : Int) (hx : a.eval x = .int .i64 k) (hn : look k L = none)
    (hK : ∀ w', IMap w' b (L ++ [(k, a.eval v)]) → w.grownBy w' (some b) → wpList P ops Q rest (a.put o.dst undef) w') :
    wpList P ops Q (o :: rest) a w := by
  refine wpList_plain hg fun K' hK' => ?_
  obtain ⟨w', hrun, r1, r2⟩ := h.update hmt hk k (a.eval v) hn
  unfold Oper.wp
  rcases hop with hop | hop <;>
  · simp [execOp, hop, hm, hx, hrun, Result.andThen]
    exact hK' _ _ (hK w' r1 r2)
end Go.Proofs.Ytclaabnjokkbjaa

/- A number goes into a list of numbers, each once; what other lists lie beside is kept. (As TyF, in a seat without Depth.) -/
namespace Go.Proofs.Ytclaabnjokkbjaa
open Go.RowKit

def addN (L : List Int) (n : Int) : List Int := if n ∈ L then L else L ++ [n]
def setL (L : List Int) : List (Int × Value) := L.map fun n => (n, .agg #[])
theorem look_set (n : Int) : ∀ L, look n (setL L) = if n ∈ L then some (.agg #[]) else none
  | [] => rfl
  | m :: L => by
    have ih := look_set n L
    unfold setL at ih ⊢
    simp only [List.map_cons, look]
    by_cases h : n = m
    · simp [h]
    · rw [if_neg h, ih]
      simp [h]
theorem info_intF : (Try.prog.info? 3).map (fun i => (i.zero, i.size, i.bytes)) = some (some (.int .i64 0), 1, 8) := by kernel_rfl
/-- All but some blocks lie as they lay. -/
structure Fr (S : Nat → Prop) (w w' : World) : Prop where
  os : w'.os = w.os
  tape : w'.tape = w.tape
  output : w'.output = w.output
  size : w.heap.size ≤ w'.heap.size
  block : ∀ i, i < w.heap.size → ¬ S i → w'.heap[i]? = w.heap[i]?
set_option maxRecDepth 100000 in
set_option maxHeartbeats 4000000 in
theorem numAdd2_any (W : World) (bg o b B : Nat) (cs : Array Value) (L : List Int) (A0 : Option Addr) (m0 c0 : Nat) (n : Int) (hl : Lies W bg 123 cs) (ho : cs[o]? = some (.map (some b))) (ho1 : cs[o + 1]? = some (.slice A0 m0 c0)) (hm : IMap W b (setL L))
    (hown : W.ownsRow B 3 1 (.slice A0 m0 c0) L.length (L.map fun i => .int .i64 i)) (hb : b < B) (hbg : bg < B) (hne : b ≠ bg) (hL : L.length ≤ 100000000) (hB : B ≤ W.heap.size) :
    Calls Try.prog 76 #[.pointer (some ⟨bg, o, none⟩), .int .i64 n] W fun e W' => e = .returned (.tuple #[]) ∧ ∃ A k c, Lies W' bg 123 (cs.setIfInBounds (o + 1) (.slice A k c)) ∧ IMap W' b (setL (addN L n)) ∧
      W'.ownsRow B 3 1 (.slice A k c) (addN L n).length ((addN L n).map fun i => .int .i64 i) ∧ (Value.ownBlock (.slice A k c) = Value.ownBlock (.slice A0 m0 c0) ∨ ∃ q, W.heap.size ≤ q ∧ Value.ownBlock (.slice A k c) = some q) ∧ Fr (fun g => g = b ∨ g = bg ∨ Value.ownBlock (.slice A0 m0 c0) = some g) W W' := by
  obtain ⟨i0, hi, hz0, hz1, hz2⟩ := info_parts info_intF
  have hzu := zero_unit W
  have d0 := hl.cell o
  have d1 := hl.cell (o + 1)
  rw [ho] at d0
  rw [ho1] at d1
  have hbn := below_new W (.cells #[] 117)
  have hblt := hm.lt
  have hglt := hl.lt
  by_cases hmem : n ∈ L
  · have hlk := look_set n L
    rw [if_pos hmem] at hlk
    go_enter Try.func76, Try.ntmps76
    go_wp2_with (at_lookup; refine wpList_lookup_imap _ rfl (.tmp 10) (.tmp 11) 88 rfl rfl hm Try.underlying88 Try.underlying3 hzu n rfl ?_; rw [hlk])
    go_end0
    have hadd : addN L n = L := if_pos hmem
    rw [hadd]
    have hset : cs.setIfInBounds (o + 1) (.slice A0 m0 c0) = cs := by
      apply Array.ext_getElem?
      intro j
      rw [Array.getElem?_setIfInBounds]
      split
      · rename_i h; subst h
        split
        · rw [ho1]
        · rename_i h2; rw [Array.getElem?_eq_none (by omega)]
      · rfl
    exact ⟨rfl, A0, m0, c0, by rw [hset]; exact hl.later hbn, hm.keep (hbn.block _ hblt), own_later hown hbn, .inl rfl, hbn.os, hbn.tape, hbn.output, hbn.size, fun i h _ => hbn.block i h⟩
  · have hlk := look_set n L
    rw [if_neg hmem] at hlk
    have hm1 := hm.keep (hbn.block _ hblt)
    have hl1 := hl.later hbn
    have hown1 := own_later hown hbn
    have x0 := hl1.cell o
    have x1 := hl1.cell (o + 1)
    rw [ho] at x0
    rw [ho1] at x1
    have hone : ∀ u ∈ [Value.int .i64 n], u.oneCell' = true := by simp [Value.oneCell']
    have hadd : addN L n = L ++ [n] := if_neg hmem
    go_enter Try.func76, Try.ntmps76
    go_wp2_with (first
      | (at_lookup; refine wpList_lookup_imap _ rfl (.tmp 10) (.tmp 11) 88 rfl rfl hm Try.underlying88 Try.underlying3 hzu n rfl ?_; rw [hlk])
      | (at_mapUpdate; go_loud (refine wpList_update_imap _ rfl (.tmp 20) (.tmp 21) (.tmp 22) 88 (.inl rfl) rfl hm1 Try.underlying88 Try.underlying3 n rfl hlk ?_); intro w1 hm2 hg1; have l2 := hl1.grown hg1 (fun e => by injection e with e; omega); have y0 := l2.cell o; have y1 := l2.cell (o + 1); rw [ho] at y0; rw [ho1] at y1; have z1 := l2.free (o + 1); have own1 := own_same hown1 (w' := w1) (fun g hg hlt => hg1.block g hlt (fun e => by injection e with e; omega)); have hsz1 := hg1.size)
      | (at_builtin; go_loud (refine wpList_append_own_at _ rfl (.tmp 27) (.tmp 29) 39 rfl B 3 i0 (.int .i64 0) 1 8 Try.underlying39 hi hz0 hz1 hz2 rfl (by decide) _ L.length (L.map fun i => .int .i64 i) rfl (own_later own1 (below_new w1 (.cells #[.int .i64 n] 3))) ⟨w1.heap.size, 0, none⟩ 1 1 [.int .i64 n] rfl rfl (new_cells _ _ _ rfl) hone (by unfold maxLen; omega) (by omega) (by have := hbn.size; simp; omega) ?_)))
    intro v' w2 hown2 hgr _ hat
    obtain ⟨A9, k9, c9, rfl⟩ := own_slice hown2
    have hrow : ∀ q, Value.ownBlock (.slice A0 m0 c0) = some q → B ≤ q := fun q hq => (own_block hown q hq).1
    have l3 := (l2.alloc (.cells #[.int .i64 n] 3)).grown hgr (fun e => by have := hrow _ e.symm; omega)
    have e3 := l3.cell (o + 1)
    rw [ho1] at e3
    have g3 := l3.free (o + 1)
    go_wp2_with fail
    go_end0
    have hs0 := hbn.size
    have hblk : ∀ g, g < W.heap.size → ¬ (g = b ∨ g = bg ∨ Value.ownBlock (.slice A0 m0 c0) = some g) → (w2.setCell ⟨bg, o + 1, none⟩ (.slice A9 k9 c9)).heap[g]? = W.heap[g]? := by
      intro g hlt hng
      rw [Below.heap_setCell _ _ _ _ (by show g ≠ bg; omega), hgr.block g (by simp; omega) (fun e => hng (.inr (.inr e.symm))), Below.heap_alloc w1 _ g (by omega), hg1.block g (by omega) (fun e => by injection e with e; omega), hbn.block g hlt]
    refine ⟨rfl, A9, k9, c9, l3.set (o + 1) _, ?_, ?_, hat.imp id (fun h => ⟨_, by have hss := hg1.size; simp only [World.size_alloc] at hss ⊢; omega, h⟩), ?_⟩
    · rw [hadd]
      refine IMap.keep (w := w1) ?_ ?_
      · unfold setL at hm2 ⊢
        rw [List.map_append]
        exact hm2
      · rw [Below.heap_setCell _ _ _ _ (by show b ≠ bg; omega), hgr.block b (by simp; omega) (fun e => by have := hrow _ e.symm; omega), Below.heap_alloc w1 _ b (by omega)]
    · rw [hadd, List.length_append, List.map_append]
      exact own_same hown2 fun g hg _ => Below.heap_setCell _ _ _ _ (by show g ≠ bg; omega)
    · refine ⟨?_, ?_, ?_, ?_, hblk⟩
      · exact hgr.os.trans (hg1.os.trans hbn.os)
      · exact hgr.tape.trans (hg1.tape.trans hbn.tape)
      · exact hgr.output.trans (hg1.output.trans hbn.output)
      · have := hgr.size
        simp [World.setCell] at *
        omega
end Go.Proofs.Ytclaabnjokkbjaa
