/- A number goes into a list of numbers, each once. -/
import Derived.Test.YtpbhndmfmnfeoaaGreatMg20
import Derived.StillTailTactics
import Derived.Outline
import Derived.Deep.QuietTactic
import Derived.BigQuiet
import Derived.LoopTactic
import Derived.Deep.LoopGhost
import Derived.Deep.RegionHeld3
namespace Go.Proofs.YtpbhndmfmnfeoaaGreat
open Go.RowKit

def addN (L : List Int) (n : Int) : List Int := if n ∈ L then L else L ++ [n]
def setL (L : List Int) : List (Int × Value) := L.map fun n => (n, .agg #[])
theorem look_set (n : Int) : ∀ L, look n (setL L) = if n ∈ L then some (.agg #[]) else none
  | [] => rfl
  | m :: L => by
    have ih := look_set n L
    unfold setL at ih ⊢
    simp only [List.map_cons, look]
    by_cases h : n = m
    · simp [h]
    · rw [if_neg h, ih]
      simp [h]
theorem info_int : (Tryz.prog.info? 3).map (fun i => (i.zero, i.size, i.bytes)) = some (some (.int .i64 0), 1, 8) := by kernel_rfl
/-- All but some blocks lie as they lay. -/
structure Fr (S : Nat → Prop) (w w' : World) : Prop where
  os : w'.os = w.os
  tape : w'.tape = w.tape
  output : w'.output = w.output
  size : w.heap.size ≤ w'.heap.size
  block : ∀ i, i < w.heap.size → ¬ S i → w'.heap[i]? = w.heap[i]?
set_option maxRecDepth 100000 in
set_option maxHeartbeats 4000000 in
theorem numAdd_any (W : World) (bg o b B : Nat) (cs : Array Value) (L : List Int) (A0 : Option Addr) (m0 c0 : Nat) (n : Int) (hl : Lies W bg 121 cs) (ho : cs[o]? = some (.map (some b))) (ho1 : cs[o + 1]? = some (.slice A0 m0 c0)) (hm : IMap W b (setL L))
    (hown : W.ownsRow B 3 1 (.slice A0 m0 c0) L.length (L.map fun i => .int .i64 i)) (hb : b < B) (hbg : bg < B) (hne : b ≠ bg) (hL : L.length ≤ 100000000) (hB : B ≤ W.heap.size) :
    Calls Tryz.prog 88 #[.pointer (some ⟨bg, o, none⟩), .int .i64 n] W fun e W' => e = .returned (.tuple #[]) ∧ ∃ A k c, Lies W' bg 121 (cs.setIfInBounds (o + 1) (.slice A k c)) ∧ IMap W' b (setL (addN L n)) ∧
      W'.ownsRow B 3 1 (.slice A k c) (addN L n).length ((addN L n).map fun i => .int .i64 i) ∧ Fr (fun g => g = b ∨ g = bg ∨ B ≤ g) W W' := by
  obtain ⟨i0, hi, hz0, hz1, hz2⟩ := info_parts info_int
  have hzu := zero_unit W
  have d0 := hl.cell o
  have d1 := hl.cell (o + 1)
  rw [ho] at d0
  rw [ho1] at d1
  have hbn := below_new W (.cells #[] 167)
  have hblt := hm.lt
  have hglt := hl.lt
  by_cases hmem : n ∈ L
  · have hlk := look_set n L
    rw [if_pos hmem] at hlk
    go_enter Tryz.func88, Tryz.ntmps88
    go_wp2_with (at_lookup; refine wpList_lookup_imap _ rfl (.tmp 10) (.tmp 11) 117 rfl rfl hm Tryz.underlying117 Tryz.underlying3 hzu n rfl ?_; rw [hlk])
    go_end0
    have hadd : addN L n = L := if_pos hmem
    rw [hadd]
    have hset : cs.setIfInBounds (o + 1) (.slice A0 m0 c0) = cs := by
      apply Array.ext_getElem?
      intro j
      rw [Array.getElem?_setIfInBounds]
      split
      · rename_i h; subst h
        split
        · rw [ho1]
        · rename_i h2; rw [Array.getElem?_eq_none (by omega)]
      · rfl
    exact ⟨rfl, A0, m0, c0, by rw [hset]; exact hl.later hbn, hm.keep (hbn.block _ hblt), own_later hown hbn, hbn.os, hbn.tape, hbn.output, hbn.size, fun i h _ => hbn.block i h⟩
  · have hlk := look_set n L
    rw [if_neg hmem] at hlk
    have hm1 := hm.keep (hbn.block _ hblt)
    have hl1 := hl.later hbn
    have hown1 := own_later hown hbn
    have x0 := hl1.cell o
    have x1 := hl1.cell (o + 1)
    rw [ho] at x0
    rw [ho1] at x1
    have hone : ∀ u ∈ [Value.int .i64 n], u.oneCell' = true := by simp [Value.oneCell']
    have hadd : addN L n = L ++ [n] := if_neg hmem
    go_enter Tryz.func88, Tryz.ntmps88
    go_wp2_with (first
      | (at_lookup; refine wpList_lookup_imap _ rfl (.tmp 10) (.tmp 11) 117 rfl rfl hm Tryz.underlying117 Tryz.underlying3 hzu n rfl ?_; rw [hlk])
      | (at_mapUpdate; go_loud (refine wpList_update_imap _ rfl (.tmp 20) (.tmp 21) (.tmp 22) 117 (.inl rfl) rfl hm1 Tryz.underlying117 Tryz.underlying3 n rfl hlk ?_); intro w1 hm2 hg1; have l2 := hl1.grown hg1 (fun e => by injection e with e; omega); have y0 := l2.cell o; have y1 := l2.cell (o + 1); rw [ho] at y0; rw [ho1] at y1; have z1 := l2.free (o + 1); have own1 := own_same hown1 (w' := w1) (fun g hg hlt => hg1.block g hlt (fun e => by injection e with e; omega)); have hsz1 := hg1.size)
      | (at_builtin; go_loud (refine wpList_append_own_at _ rfl (.tmp 27) (.tmp 29) 56 rfl B 3 i0 (.int .i64 0) 1 8 Tryz.underlying56 hi hz0 hz1 hz2 rfl (by decide) _ L.length (L.map fun i => .int .i64 i) rfl (own_later own1 (below_new w1 (.cells #[.int .i64 n] 3))) ⟨w1.heap.size, 0, none⟩ 1 1 [.int .i64 n] rfl rfl (new_cells _ _ _ rfl) hone (by unfold maxLen; omega) (by omega) (by have := hbn.size; simp; omega) ?_)))
    intro v' w2 hown2 hgr _ _
    obtain ⟨A9, k9, c9, rfl⟩ := own_slice hown2
    have hrow : ∀ q, Value.ownBlock (.slice A0 m0 c0) = some q → B ≤ q := fun q hq => (own_block hown q hq).1
    have l3 := (l2.alloc (.cells #[.int .i64 n] 3)).grown hgr (fun e => by have := hrow _ e.symm; omega)
    have e3 := l3.cell (o + 1)
    rw [ho1] at e3
    have g3 := l3.free (o + 1)
    go_wp2_with fail
    go_end0
    have hs0 := hbn.size
    have hblk : ∀ g, g < W.heap.size → ¬ (g = b ∨ g = bg ∨ B ≤ g) → (w2.setCell ⟨bg, o + 1, none⟩ (.slice A9 k9 c9)).heap[g]? = W.heap[g]? := by
      intro g hlt hng
      rw [Below.heap_setCell _ _ _ _ (by show g ≠ bg; omega), hgr.block g (by simp; omega) (fun e => by have := hrow _ e.symm; omega), Below.heap_alloc w1 _ g (by omega), hg1.block g (by omega) (fun e => by injection e with e; omega), hbn.block g hlt]
    refine ⟨rfl, A9, k9, c9, l3.set (o + 1) _, ?_, ?_, ?_⟩
    · rw [hadd]
      refine IMap.keep (w := w1) ?_ ?_
      · unfold setL at hm2 ⊢
        rw [List.map_append]
        exact hm2
      · rw [Below.heap_setCell _ _ _ _ (by show b ≠ bg; omega), hgr.block b (by simp; omega) (fun e => by have := hrow _ e.symm; omega), Below.heap_alloc w1 _ b (by omega)]
    · rw [hadd, List.length_append, List.map_append]
      exact own_same hown2 fun g hg _ => Below.heap_setCell _ _ _ _ (by show g ≠ bg; omega)
    · refine ⟨?_, ?_, ?_, ?_, hblk⟩
      · exact hgr.os.trans (hg1.os.trans hbn.os)
      · exact hgr.tape.trans (hg1.tape.trans hbn.tape)
      · exact hgr.output.trans (hg1.output.trans hbn.output)
      · have := hgr.size
        simp [World.setCell] at *
        omega
end Go.Proofs.YtpbhndmfmnfeoaaGreat

/- Maps from places to places; what leads from place to place. -/
namespace Go.Proofs.YtpbhndmfmnfeoaaGreat
open Go Go.MapKept Go.ChangeMaps Go.RowKit

/-- The map in block b leads from place to place. -/
def PMap (w : World) (b : Nat) (L : List (Addr × Addr)) : Prop :=
  ∃ es clock, w.heap[b]? = some (.map es clock) ∧ es.toList.map (fun e => (e.key, e.val)) = L.map (fun p => (Value.pointer (some p.1), Value.pointer (some p.2)))
theorem PMap.lt {w : World} {b : Nat} {L : List (Addr × Addr)} (h : PMap w b L) : b < w.heap.size := by
  obtain ⟨es, clock, hb, _⟩ := h
  exact (Array.getElem?_eq_some_iff.1 hb).1
theorem PMap.keep {w w' : World} {b : Nat} {L : List (Addr × Addr)} (h : PMap w b L) (hk : w'.heap[b]? = w.heap[b]?) : PMap w' b L := by
  obtain ⟨es, clock, hb, he⟩ := h
  exact ⟨es, clock, hk.trans hb, he⟩
theorem PMap.made (w : World) : PMap (w.alloc (.map #[] 0)) w.heap.size [] := ⟨#[], 0, (MapKept.heap_alloc w _).1, rfl⟩
def plook (a : Addr) : List (Addr × Addr) → Option Addr
  | [] => none
  | p :: L => if a = p.1 then some p.2 else plook a L
section
variable {P : Program} {w : World} {kt te mt et : TypeId} {inf : TypeInfo}
theorem run_findAsking_pm (hk : P.underlying kt = some (.pointer te)) (hte : P.info? te = some inf) (hsz : inf.size ≠ 0) (a : Addr) (ha : AtCells w a) : ∀ (es : List MapEntry) (L : List (Addr × Addr)) (i : Nat),
    es.map (fun e => (e.key, e.val)) = L.map (fun p => (Value.pointer (some p.1), Value.pointer (some p.2))) → (∀ p ∈ L, AtCells w p.1) →
    ∃ r, (Instr.findAsking kt (.pointer (some a)) es i).run P w = .ok r w ∧ ((∃ v j, plook a L = some v ∧ r = some (j, .pointer (some v))) ∨ (plook a L = none ∧ r = none))
  | [], L, i, h, _ => by
    have hL : L = [] := by simpa using h.symm
    subst hL
    exact ⟨none, by simp [Instr.findAsking], .inr ⟨rfl, rfl⟩⟩
  | e :: es, [], i, h, _ => by simp at h
  | e :: es, p :: L, i, h, hL => by
    simp only [List.map_cons, List.cons.injEq, Prod.mk.injEq] at h
    obtain ⟨⟨h1, h2⟩, h3⟩ := h
    by_cases hx : a = p.1
    · refine ⟨some (i, .pointer (some p.2)), ?_, .inl ⟨p.2, i, by simp [plook, hx], rfl⟩⟩
      rw [hx]
      simp [Instr.findAsking, h1, h2, run_equal_ptr_same hk hte hsz, Result.andThen]
    · obtain ⟨r, hr, hc⟩ := run_findAsking_pm hk hte hsz a ha es L (i + 1) h3 (fun y hy => hL y (by simp [hy]))
      refine ⟨r, ?_, ?_⟩
      · simp [Instr.findAsking, h1, run_equal_ptr_other hk hte hsz hx ha (hL p (by simp)), Result.andThen, hr]
      · simpa [plook, hx] using hc
theorem run_findKey_pm (hk : P.underlying kt = some (.pointer te)) (hte : P.info? te = some inf) (hsz : inf.size ≠ 0) (a : Addr) (ha : AtCells w a) (es : List MapEntry) (L : List (Addr × Addr))
    (h : es.map (fun e => (e.key, e.val)) = L.map (fun p => (Value.pointer (some p.1), Value.pointer (some p.2)))) (hL : ∀ p ∈ L, AtCells w p.1) :
    ∃ r, (Instr.findKey kt (.pointer (some a)) es).run P w = .ok r w ∧ ((∃ v j, plook a L = some v ∧ r = some (j, .pointer (some v))) ∨ (plook a L = none ∧ r = none)) := by
  cases es with
  | nil =>
    have hL : L = [] := by simpa using h.symm
    subst hL
    exact ⟨none, by simp [Instr.findKey, run_underlying hk, Result.andThen, Instr.findNow], .inr ⟨rfl, rfl⟩⟩
  | cons e es =>
    obtain ⟨r, hr, hc⟩ := run_findAsking_pm hk hte hsz a ha (e :: es) L 0 h hL
    exact ⟨r, by simp [Instr.findKey, run_underlying hk, Result.andThen, Instr.findNow, Instr.sameNow, hr], hc⟩
theorem PMap.lookup {b : Nat} {L : List (Addr × Addr)} (h : PMap w b L) (hm : P.underlying mt = some (.map kt et)) (hk : P.underlying kt = some (.pointer te)) (hte : P.info? te = some inf) (hsz : inf.size ≠ 0)
    (hz : (zeroValue et).run P w = .ok (.pointer none) w) (a : Addr) (ha : AtCells w a) (hL : ∀ p ∈ L, AtCells w p.1) : (Instr.lookup mt (.map (some b)) (.pointer (some a)) false).run P w = .ok (.pointer (plook a L)) w := by
  obtain ⟨es, clock, hb, he⟩ := h
  obtain ⟨r, hr, hc⟩ := run_findKey_pm hk hte hsz a ha es.toList L he hL
  rcases hc with ⟨v, j, hv, rfl⟩ | ⟨hv, rfl⟩
  · simp [Instr.lookup, run_underlying hm, MapKept.run_getObj_map hb, Result.andThen, run_checkKey_ptr hk _ 9999, hr, hv]
  · simp [Instr.lookup, run_underlying hm, MapKept.run_getObj_map hb, Result.andThen, run_checkKey_ptr hk _ 9999, hr, hv, hz]
theorem PMap.update {b : Nat} {L : List (Addr × Addr)} (h : PMap w b L) (hm : P.underlying mt = some (.map kt et)) (hk : P.underlying kt = some (.pointer te)) (hte : P.info? te = some inf) (hsz : inf.size ≠ 0)
    (a v : Addr) (ha : AtCells w a) (hL : ∀ p ∈ L, AtCells w p.1) (hn : plook a L = none) : ∃ w', (Instr.mapUpdate mt (.map (some b)) (.pointer (some a)) (.pointer (some v))).run P w = .ok () w' ∧ PMap w' b (L ++ [(a, v)]) ∧ w.grownBy w' (some b) := by
  obtain ⟨es, clock, hb, he⟩ := h
  obtain ⟨r, hr, hc⟩ := run_findKey_pm hk hte hsz a ha es.toList L he hL
  rcases hc with ⟨u, j, hv, rfl⟩ | ⟨hv, rfl⟩
  · rw [hn] at hv; cases hv
  · refine ⟨setBlock w b (.map (es.push ⟨.pointer (some a), .pointer (some v), clock⟩) (clock + 1)), ?_, ⟨_, _, heap_setBlock_same hb _, ?_⟩, ⟨rfl, rfl, rfl, by simp [setBlock], fun i _ hi => heap_setBlock_other hb _ (fun e => hi (by rw [e]))⟩⟩
    · simp [Instr.mapUpdate, run_underlying hm, MapKept.run_getObj_map hb, run_checkKey_ptr hk _ 9999, hr, MapKept.run_setObj_map _ hb, Result.andThen, setBlock]
    · simp [he]
end
theorem wpList_lookup_pm {P : Program} (w : World) {ops : Array Oper} {rest : List Oper} {o : Oper} {a : Act} {Q : Exit → Act → World → Prop}
    (hg : o.guard = none) (m x : Operand) (t : TypeId) (hop : o.op = Op.lookup t m x false) {v : Value}
    {b : Nat} (hm : a.eval m = .map (some b)) (d : Addr) (hx : a.eval x = .pointer (some d)) (hrun : (Instr.lookup t (.map (some b)) (.pointer (some d)) false).run P w = .ok v w)
    (hK : wpList P ops Q rest (a.put o.dst v) w) :
    wpList P ops Q (o :: rest) a w := by
  refine wpList_plain hg fun K' hK' => ?_
  unfold Oper.wp
  simp [execOp, hop, hm, hx, hrun, Result.andThen]
  exact hK' _ _ hK
theorem wpList_update_pm {P : Program} (w : World) {ops : Array Oper} {rest : List Oper} {o : Oper} {a : Act} {Q : Exit → Act → World → Prop}
    (hg : o.guard = none) (m x v : Operand) (t : TypeId) (hop : o.op = Op.mapUpdate t m x v) {kt te et : TypeId} {inf : TypeInfo} {b : Nat} {L : List (Addr × Addr)}
    (hm : a.eval m = .map (some b)) (h : PMap w b L) (hmt : P.underlying t = some (.map kt et)) (hk : P.underlying kt = some (.pointer te)) (hte : P.info? te = some inf) (hsz : inf.size ≠ 0)
    (d u : Addr) (hx : a.eval x = .pointer (some d)) (hv : a.eval v = .pointer (some u)) (hd : AtCells w d) (hL : ∀ p ∈ L, AtCells w p.1) (hn : plook d L = none)
    (hK : ∀ w', PMap w' b (L ++ [(d, u)]) → w.grownBy w' (some b) → wpList P ops Q rest (a.put o.dst undef) w') :
    wpList P ops Q (o :: rest) a w := by
  refine wpList_plain hg fun K' hK' => ?_
  obtain ⟨w', hrun, r1, r2⟩ := h.update hmt hk hte hsz d u hd hL hn
  unfold Oper.wp
  simp [execOp, hop, hm, hx, hv, hrun, Result.andThen]
  exact hK' _ _ (hK w' r1 r2)
theorem zero_ptr (w : World) : (zeroValue 94).run Tryz.prog w = .ok (.pointer none) w := by go_simp

/-- A place from which nothing leads is its own end. -/
theorem end_any (w : World) (b : Nat) (L : List (Addr × Addr)) (d : Addr) (hm : PMap w b L) (hd : AtCells w d) (hL : ∀ p ∈ L, AtCells w p.1) (hn : plook d L = none) :
    Calls Tryz.prog 68 #[.map (some b), .pointer (some d)] w fun e w' => e = .returned (.pointer (some d)) ∧ w' = w := by
  obtain ⟨inf, hinf, hsz⟩ := size_type
  have hl := hm.lookup (mt := 93) Tryz.underlying93 Tryz.underlying94 hinf hsz (zero_ptr w) d hd hL
  rw [hn] at hl
  go_enter Tryz.func68, Tryz.ntmps68
  go_wp2
  go_loop [1] (fun i => i = .pointer (some d)) (fun _ => 0)
  case atStart => rfl
  case round =>
    subst hrel
    go_wp2_with (at_lookup; refine wpList_lookup_pm _ rfl (.tmp 6) (.tmp 7) 93 rfl rfl d rfl hl ?_)
    go_ret
    exact ⟨rfl, rfl⟩
end Go.Proofs.YtpbhndmfmnfeoaaGreat

/- Two places are held to be the same; are two types the same but for what stands below them. -/
namespace Go.Proofs.YtpbhndmfmnfeoaaGreat
open Go.RowKit

theorem run_eql_ptr {w : World} {x y : Addr} {r : Bool} (h : (Op.equal 94 (.pointer (some x)) (.pointer (some y))).run Tryz.prog w = .ok r w) : (binOp .eql 94 (.pointer (some x)) (.pointer (some y))).run Tryz.prog w = .ok (.bool r) w := by
  simp [binOp, h, Result.andThen]
theorem below_drewN (w : World) (n : Nat) : Below w.heap.size w (w.drewN n) := ⟨rfl, rfl, rfl, Nat.le_refl _, fun _ _ => rfl⟩
set_option maxRecDepth 100000 in
set_option maxHeartbeats 2000000 in
theorem join_new (w : World) (b : Nat) (L : List (Addr × Addr)) (x y : Addr) (hxy : x ≠ y) (hm : PMap w b L) (hx : AtCells w x) (hy : AtCells w y) (hL : ∀ p ∈ L, AtCells w p.1) (hn : plook x L = none) (hn2 : plook y L = none) :
    Calls Tryz.prog 52 #[.map (some b), .agg #[.pointer (some x), .pointer (some y)]] w fun e w' => e = .returned (.bool true) ∧ PMap w' b (L ++ [(x, y)]) ∧ Bt b w w' := by
  obtain ⟨w0, hw0⟩ : ∃ w0, w0 = w.alloc (.cells #[.pointer (some x), .pointer (some y)] 96) := ⟨_, rfl⟩
  have hb0 : Below w.heap.size w w0 := by rw [hw0]; exact below_new w _
  have l0 : Lies w0 w.heap.size 96 #[.pointer (some x), .pointer (some y)] := by rw [hw0]; exact Lies.new w _ _
  have hm0 := hm.keep (hb0.block _ hm.lt)
  have hx0 := hx.keep (hb0.block _ hx.lt)
  have hy0 := hy.keep (hb0.block _ hy.lt)
  have hL0 : ∀ p ∈ L, AtCells w0 p.1 := fun p hp => (hL p hp).keep (hb0.block _ (hL p hp).lt)
  have he := fun m => end_any (w0.drewN m) b L x hm0 hx0 hL0 hn
  have he2 := fun m => end_any (w0.drewN m) b L y hm0 hy0 hL0 hn2
  have c0 := l0.cell 0
  have c1 := l0.cell 1
  obtain ⟨inf, hinf, hsz⟩ := size_type
  have heq : ∀ m, (binOp .eql 94 (.pointer (some x)) (.pointer (some y))).run Tryz.prog (w0.drewN m) = .ok (.bool false) (w0.drewN m) := fun m => run_eql_ptr (run_equal_ptr_other Tryz.underlying94 hinf hsz hxy hx0 hy0)
  have HW := Lib.hid hw0
  have HE := Lib.hid he
  have HE2 := Lib.hid he2
  have HM := Lib.hid hm0
  have HL0 := Lib.hid hL0
  clear hw0 hm0 he he2 hL0
  go_enter Tryz.func52, Tryz.ntmps52
  go_wp2
  rw [← HW.out]
  go_quiet (first | (go_at_call_of 68 (Value.pointer (some x)); exact Calls.quiet_of_same (HE.out _)) | (go_at_call_of 68 (Value.pointer (some y)); exact Calls.quiet_of_same (HE2.out _)))
  go_wp2_with (at_mapUpdate; go_loud (refine wpList_update_pm _ rfl (.tmp 18) (.tmp 19) (.tmp 20) 93 rfl rfl (PMap.keep (w' := w0.drewN nq) HM.out rfl) Tryz.underlying93 Tryz.underlying94 hinf hsz x y rfl rfl hx0 HL0.out hn ?_); intro w1 hm1 hg1)
  go_ret
  exact ⟨rfl, hm1, ((Bt.of_below hb0).trans (.of_below (below_drewN _ _))).trans (.of_grown hg1)⟩
set_option maxRecDepth 100000 in
set_option maxHeartbeats 4000000 in
/-- sameAlone at two kinds that are unlike. -/
theorem sameAlone_not (w : World) (b o b' o' : Nat) (k : Int) (nm : Str) (v : Int) (kv lv : Value) (rv : Int) (k' : Int) (nm' : Str) (v' : Int) (kv' lv' : Value) (rv' : Int) (hr : ReadsAt w ⟨b, o, none⟩ (tyC k nm v kv lv rv)) (hr' : ReadsAt w ⟨b', o', none⟩ (tyC k' nm' v' kv' lv' rv')) (hk : k ≠ k') :
    Calls Tryz.prog 53 #[.pointer (some ⟨b, o, none⟩), .pointer (some ⟨b', o', none⟩)] w fun e w' => e = .returned (.bool false) ∧ Below w.heap.size w w' := by
  obtain ⟨c0, _, _, _, _, _⟩ := reads6 hr
  obtain ⟨d0, _, _, _, _, _⟩ := reads6 hr'
  have hkb : (k == k') = false := by simpa using hk
  go_enter Tryz.func53, Tryz.ntmps53
  go_wp2
  go_quiet (fail)
  go_wp2
  go_ret
  exact ⟨rfl, below_drewN _ _⟩
set_option maxRecDepth 100000 in
set_option maxHeartbeats 8000000 in
theorem same_kindsU (k : Int) (nm : Str) (v : Int) (n : Nat) (m : Nat) (rv : Int) (k' : Int) (nm' : Str) (v' : Int) (n' : Nat) (m' : Nat) (rv' : Int) (A : Option Addr) (q : Nat) (A2 : Option Addr) (q2 : Nat) (A' : Option Addr) (q' : Nat) (A2' : Option Addr) (q2' : Nat) (w : World) (hk : k ≠ k') :
    Calls Tryz.prog 36 #[.agg (tyC k nm v (.slice A n q) (.slice A2 m q2) rv).toArray, .agg (tyC k' nm' v' (.slice A' n' q') (.slice A2' m' q2') rv').toArray] w fun e w' => e = .returned (.bool false) ∧ Below w.heap.size w w' := by
  obtain ⟨w1, hw1⟩ : ∃ w1, w1 = (w.alloc (.cells (tyC k nm v (.slice A n q) (.slice A2 m q2) rv).toArray 44)).alloc (.cells (tyC k' nm' v' (.slice A' n' q') (.slice A2' m' q2') rv').toArray 44) := ⟨_, rfl⟩
  have hb1 : Below w.heap.size w w1 := by rw [hw1]; exact ((Below.refl _ w).alloc (Nat.le_refl _) _).alloc (by simp) _
  have hs1 : w1.heap.size = w.heap.size + 2 := by rw [hw1]; simp
  have la : Lies w1 w.heap.size 44 (tyC k nm v (.slice A n q) (.slice A2 m q2) rv).toArray := by rw [hw1]; exact (Lies.new w _ _).alloc _
  have lb : Lies w1 (w.heap.size + 1) 44 (tyC k' nm' v' (.slice A' n' q') (.slice A2' m' q2') rv').toArray := by rw [hw1]; exact Lies.new' _ _ _ (by simp)
  have hra : ReadsAt w1 ⟨w.heap.size, 0, none⟩ (tyC k nm v (.slice A n q) (.slice A2 m q2) rv) := fun i u hu => by
    rw [show (⟨w.heap.size, 0 + i, none⟩ : Addr) = ⟨w.heap.size, i, none⟩ by rw [Nat.zero_add], la.cell]
    simpa using hu
  have hrb : ReadsAt w1 ⟨w.heap.size + 1, 0, none⟩ (tyC k' nm' v' (.slice A' n' q') (.slice A2' m' q2') rv') := fun i u hu => by
    rw [show (⟨w.heap.size + 1, 0 + i, none⟩ : Addr) = ⟨w.heap.size + 1, i, none⟩ by rw [Nat.zero_add], lb.cell]
    simpa using hu
  have hmm := @run_makeMap Tryz.prog
  unfold tyC at hw1
  have HW := Lib.hid hw1
  have HS1 := Lib.hid hs1
  have HRA := Lib.hid hra
  have HRB := Lib.hid hrb
  have HLA := Lib.hid la
  have HLB := Lib.hid lb
  clear hw1 hs1 hra hrb la lb
  unfold tyC
  go_enter Tryz.func36, Tryz.ntmps36
  go_wp2_with fail
  rw [← HW.out]
  obtain ⟨m2, hm2⟩ : ∃ m2, m2 = w1.alloc (.map #[] 0) := ⟨_, rfl⟩
  rw [← hm2]
  obtain ⟨m3, hm3⟩ : ∃ m3, m3 = m2.alloc (.cells #[.pointer (some ⟨w.heap.size, 0, none⟩), .pointer (some ⟨w.heap.size + 1, 0, none⟩)] 96) := ⟨_, rfl⟩
  rw [← hm3]
  have z1 := HS1.out
  have z2 : m2.heap.size = w.heap.size + 3 := by rw [hm2, World.size_alloc, z1]
  have z3 : m3.heap.size = w.heap.size + 4 := by rw [hm3, World.size_alloc, z2]
  have b2 : Below w1.heap.size w1 m2 := by rw [hm2]; exact below_new _ _
  have b3 : Below m2.heap.size m2 m3 := by rw [hm3]; exact below_new _ _
  have b13 : Below w1.heap.size w1 m3 := b2.trans (b3.mono (by omega))
  have pm3 : PMap m3 (w.heap.size + 2) [] := by
    have h := PMap.made w1
    rw [← hm2, z1] at h
    exact h.keep (b3.block _ (by omega))
  have l3 : Lies m3 (w.heap.size + 3) 96 #[.pointer (some ⟨w.heap.size, 0, none⟩), .pointer (some ⟨w.heap.size + 1, 0, none⟩)] := by rw [hm3]; exact Lies.new' _ _ _ z2
  have B13 := Lib.hid b13
  have PM3 := Lib.hid pm3
  have L3 := Lib.hid l3
  have Z1 := Lib.hid z1
  have Z3 := Lib.hid z3
  clear hm2 hm3 z2 b2 b3 b13 pm3 l3 z1 z3
  generalize hN : w.heap.size = N at *
  go_loopg [6] 1 (fun gh td wr => td = .slice (some ⟨N + 3, 0, none⟩) 1 1 ∧ wr = m3)
  case atStart => exact ⟨by first | rfl | simp, rfl⟩
  case round =>
    obtain ⟨rfl, rfl⟩ := hrel
    have p0 := L3.out.cell 0
    have p1 := L3.out.cell 1
    have hbn := below_new wr (.cells #[.pointer (some ⟨N, 0, none⟩), .pointer (some ⟨N + 1, 0, none⟩)] 96)
    have hz3 := Z3.out
    have hz1 := Z1.out
    have hB0 : Below w1.heap.size w1 (wr.alloc (.cells #[.pointer (some ⟨N, 0, none⟩), .pointer (some ⟨N + 1, 0, none⟩)] 96)) := B13.out.trans (hbn.mono (by omega))
    have hla := HLA.out.later hB0
    have hlb := HLB.out.later hB0
    have hpm := PM3.out.keep (hbn.block _ (by omega))
    have hj := join_new _ (N + 2) [] ⟨N, 0, none⟩ ⟨N + 1, 0, none⟩ (by simp) hpm ⟨_, _, hla⟩ ⟨_, _, hlb⟩ (by simp) rfl rfl
    have lp := Lies.new' wr 96 #[.pointer (some ⟨N, 0, none⟩), .pointer (some ⟨N + 1, 0, none⟩)] hz3
    have HJ := Lib.hid hj
    have HLP := Lib.hid lp
    have HB0 := Lib.hid hB0
    clear hj lp hB0 hbn hpm hla hlb
    go_wp2_with fail
    refine HJ.out.mono ?_
    rintro e W1 ⟨rfl, hpm1, hbt⟩
    have hB1 : Below w1.heap.size w1 W1 := HB0.out.trans (hbt.below (by omega) HB0.out.size)
    have lp1 : Lies W1 (N + 4) 96 #[.pointer (some ⟨N, 0, none⟩), .pointer (some ⟨N + 1, 0, none⟩)] := (hbt.block _ HLP.out.lt (by omega)).trans HLP.out
    have hsa := sameAlone_not W1 N 0 (N + 1) 0 k nm v _ _ rv k' nm' v' _ _ rv' (HRA.out.keep (hB1.block _ (by show N < w1.heap.size; omega))) (HRB.out.keep (hB1.block _ (by show N + 1 < w1.heap.size; omega))) hk
    have q0 := lp1.cell 0
    have q1 := lp1.cell 1
    have HSA := Lib.hid hsa
    clear hsa hpm1 HJ HLP
    go_wp2_with fail
    refine HSA.out.mono ?_
    rintro e W2 ⟨rfl, hb2⟩
    go_wp2
    go_ret
    exact ⟨rfl, by rw [hN]; exact hb1.trans ((hB1.trans (hb2.mono hB1.size)).mono (by omega))⟩
end Go.Proofs.YtpbhndmfmnfeoaaGreat

/- The variables of a ref of a variable. -/
namespace Go.Proofs.YtpbhndmfmnfeoaaGreat
open Go.RowKit

def gU (bs b1 b2 : Nat) (v1 : Value) : Array Value := #[.map (some bs), .map (some b1), v1, .map (some b2), .slice none 0 0]
theorem Fr.mono {S S' : Nat → Prop} {w w' : World} (h : Fr S w w') (hs : ∀ g, S g → S' g) : Fr S' w w' := ⟨h.os, h.tape, h.output, h.size, fun i hi hn => h.block i hi (fun e => hn (hs i e))⟩
theorem Fr.trans {S : Nat → Prop} {a b c : World} (h : Fr S a b) (g : Fr S b c) : Fr S a c := ⟨g.os.trans h.os, g.tape.trans h.tape, g.output.trans h.output, Nat.le_trans h.size g.size, fun i hi hn => (g.block i (Nat.lt_of_lt_of_le hi h.size) hn).trans (h.block i hi hn)⟩
theorem Bt.fr {b : Nat} {w w' : World} (h : Bt b w w') {S : Nat → Prop} (hs : S b) : Fr S w w' := ⟨h.os, h.tape, h.output, h.size, fun i hi hn => h.block i hi (fun e => hn (by rw [e]; exact hs))⟩
set_option maxRecDepth 100000 in
set_option maxHeartbeats 8000000 in
theorem gatherV_any (W : World) (bs b1 b2 bg B : Nat) (M : List Addr) (ga oa : Nat) (nm : Str) (n : Int) (A : Option Addr) (q : Nat) (lv : Value) (rv : Int)
    (hl : Lies W bg 121 (gU bs b1 b2 (.slice none 0 0))) (hs : Sn W bs M) (hm : IMap W b1 (setL [])) (hat : AtCells W ⟨ga, oa, none⟩) (hr : ReadsAt W ⟨ga, oa, none⟩ (tyC 7 nm n (.slice A 0 q) lv rv)) (hnm : (⟨ga, oa, none⟩ : Addr) ∉ M)
    (n1 : bs ≠ bg) (n2 : b1 ≠ bg) (n3 : bs ≠ b1) (n4 : ga ≠ bg) (n5 : ga ≠ bs) (n6 : ga ≠ b1) (_hB1 : bs < B) (hB2 : b1 < B) (hB3 : bg < B) (hB4 : ga < B) (hB : B ≤ W.heap.size) :
    Calls Tryz.prog 70 #[.pointer (some ⟨bg, 0, none⟩), .pointer (some ⟨ga, oa, none⟩)] W fun e W' => e = .returned (.tuple #[]) ∧ ∃ A5 k5 c5, Lies W' bg 121 (gU bs b1 b2 (.slice A5 k5 c5)) ∧
      W'.ownsRow B 3 1 (.slice A5 k5 c5) 1 [.int .i64 n] ∧ Fr (fun g => g = bs ∨ g = b1 ∨ g = bg ∨ B ≤ g) W W' := by
  have hf := first_any W bs M ⟨ga, oa, none⟩ hs hat
  rw [show decide ((⟨ga, oa, none⟩ : Addr) ∉ M) = true from decide_eq_true hnm] at hf
  have HF := Lib.hid hf
  have c0 : W.cell? ⟨bg, 0, none⟩ = some (.map (some bs)) := hl.cell 0
  have HL := Lib.hid hl
  have HM := Lib.hid hm
  have HR := Lib.hid hr
  have HLT := Lib.hid (show ga < W.heap.size from hat.lt)
  have HB := Lib.hid hB
  clear hf hl hs hm hr hnm hat hB
  go_enter Tryz.func70, Tryz.ntmps70
  go_wp2_with fail
  refine HF.out.mono ?_
  rintro e W1 ⟨rfl, _, hbt⟩
  obtain ⟨r0, _, r2, r3, _, _⟩ := reads6 (HR.out.keep (hbt.block _ HLT.out (by omega)))
  have hl1 : Lies W1 bg 121 (gU bs b1 b2 (.slice none 0 0)) := (hbt.block _ HL.out.lt (by omega)).trans HL.out
  have hm1 : IMap W1 b1 (setL []) := HM.out.keep (hbt.block _ HM.out.lt (by omega))
  have HL1 := Lib.hid hl1
  have HM1 := Lib.hid hm1
  have HBT := Lib.hid hbt
  have HR3 := Lib.hid r3
  have hsz := hbt.size
  clear hl1 hm1 hbt HF r3
  go_wp2_with fail
  go_still_tail 7, (by kernel_rfl)
  change wpList _ _ _ _ _ W1.drew
  obtain ⟨Wd, hWd⟩ : ∃ X, X = W1.drew := ⟨_, rfl⟩
  have hbd : Below W1.heap.size W1 Wd := by rw [hWd]; exact (Below.refl _ _).drew
  rw [← hWd]
  clear hWd
  have hld := HL1.out.later hbd
  have hmd := HM1.out.keep (hbd.block _ HM1.out.lt)
  have hc := numAdd_any Wd bg 1 b1 B _ [] none 0 0 n hld rfl rfl hmd (World.ownsRow_nil _ _ _ _) hB2 hB3 n2 (by simp) (by have := hbd.size; have := HB.out; omega)
  have HC := Lib.hid hc
  have HBD := Lib.hid hbd
  clear hc hld hmd hbd
  go_wp2_with fail
  refine HC.out.mono ?_
  rintro e W3 ⟨rfl, A5, k5, c5, hl5, _, hown5, hfr⟩
  have r3' : W3.cell? ⟨ga, oa + 3, none⟩ = some (.slice A 0 q) := (World.cell?_of_block (a := ⟨ga, oa + 3, none⟩) (hfr.block ga (by have := HLT.out; have := HBD.out.size; omega) (by omega))).trans ((HBD.out.cell (p := ⟨ga, oa + 3, none⟩) (by show ga < _; have := HLT.out; omega)).trans HR3.out)
  have HFR := Lib.hid (show Fr (fun g => g = bs ∨ g = b1 ∨ g = bg ∨ B ≤ g) W W3 from ((HBT.out.fr (.inl rfl)).trans ⟨HBD.out.os, HBD.out.tape, HBD.out.output, HBD.out.size, fun i hi _ => HBD.out.block i hi⟩).trans (hfr.mono fun g hg => by rcases hg with h | h | h; exact .inr (.inl h); exact .inr (.inr (.inl h)); exact .inr (.inr (.inr h))))
  have HL5 := Lib.hid hl5
  have HO5 := Lib.hid hown5
  clear hl5 hown5 hfr HC
  go_wp2_with fail
  refine wp_loop_rounds 1 ?_
  rw [rounds_succ]
  go_wp2
  go_end0
  refine ⟨rfl, A5, k5, c5, HL5.out, ?_, HFR.out⟩
  have h0 := HO5.out
  unfold addN at h0
  simpa using h0
end Go.Proofs.YtpbhndmfmnfeoaaGreat

/- Vars of a ref of a variable; whether a number stands in a list of it alone. -/
namespace Go.Proofs.YtpbhndmfmnfeoaaGreat
open Go.RowKit

set_option maxRecDepth 100000 in
set_option maxHeartbeats 8000000 in
theorem gatherR_any (W : World) (bs b1 b2 bg B : Nat) (ga gk ok : Nat) (nm nmk : Str) (v n : Int) (Ak : Option Addr) (c q : Nat) (lv lk : Value) (rk : Int)
    (hl : Lies W bg 121 (gU bs b1 b2 (.slice none 0 0))) (hs : Sn W bs []) (hm : IMap W b1 (setL [])) (hat : AtCells W ⟨ga, 0, none⟩) (hr : ReadsAt W ⟨ga, 0, none⟩ (tyC 6 nm v (.slice (some ⟨gk, ok, none⟩) 1 c) lv 0)) (hc : 1 ≤ c)
    (hatk : AtCells W ⟨gk, ok, none⟩) (hrk : ReadsAt W ⟨gk, ok, none⟩ (tyC 7 nmk n (.slice Ak 0 q) lk rk)) (hne : gk ≠ ga)
    (n1 : bs ≠ bg) (n2 : b1 ≠ bg) (n3 : bs ≠ b1) (n4 : ga ≠ bg) (n5 : ga ≠ bs) (n6 : ga ≠ b1) (m4 : gk ≠ bg) (m5 : gk ≠ bs) (m6 : gk ≠ b1) (hB1 : bs < B) (hB2 : b1 < B) (hB3 : bg < B) (hB4 : ga < B) (hB5 : gk < B) (hB : B ≤ W.heap.size) :
    Calls Tryz.prog 70 #[.pointer (some ⟨bg, 0, none⟩), .pointer (some ⟨ga, 0, none⟩)] W fun e W' => e = .returned (.tuple #[]) ∧ ∃ A5 k5 c5, Lies W' bg 121 (gU bs b1 b2 (.slice A5 k5 c5)) ∧
      W'.ownsRow B 3 1 (.slice A5 k5 c5) 1 [.int .i64 n] ∧ Fr (fun g => g = bs ∨ g = b1 ∨ g = bg ∨ B ≤ g) W W' := by
  have hf := first_any W bs [] ⟨ga, 0, none⟩ hs hat
  rw [show decide ((⟨ga, 0, none⟩ : Addr) ∉ ([] : List Addr)) = true from rfl] at hf
  have HF := Lib.hid hf
  have c0 : W.cell? ⟨bg, 0, none⟩ = some (.map (some bs)) := hl.cell 0
  have HL := Lib.hid hl
  have HM := Lib.hid hm
  have HR := Lib.hid hr
  have HRK := Lib.hid hrk
  have HAK := Lib.hid hatk
  have HLT := Lib.hid (show ga < W.heap.size from hat.lt)
  have HB := Lib.hid hB
  clear hf hl hs hm hr hrk hatk hat hB
  go_enter Tryz.func70, Tryz.ntmps70
  go_wp2_with fail
  refine HF.out.mono ?_
  rintro e W1 ⟨rfl, hS1, hbt⟩
  obtain ⟨r0, _, _, r3, _, r5⟩ := reads6 (HR.out.keep (hbt.block _ HLT.out (by omega)))
  rw [Nat.zero_add] at r3 r5
  have hl1 : Lies W1 bg 121 (gU bs b1 b2 (.slice none 0 0)) := (hbt.block _ HL.out.lt (by omega)).trans HL.out
  have hm1 : IMap W1 b1 (setL []) := HM.out.keep (hbt.block _ HM.out.lt (by omega))
  have hk1 := hbt.block gk HAK.out.lt (by omega)
  have hcall := gatherV_any W1 bs b1 b2 bg B _ gk ok nmk n Ak q lk rk hl1 hS1 hm1 (HAK.out.keep hk1) (HRK.out.keep hk1) (by unfold addU; simp) n1 n2 n3 m4 m5 m6 hB1 hB2 hB3 hB5 (by have := hbt.size; have := HB.out; omega)
  have HC := Lib.hid hcall
  have HBT := Lib.hid hbt
  have HL1 := Lib.hid (show ga < W1.heap.size from by have := HLT.out; have := hbt.size; omega)
  have HR5 := Lib.hid r5
  have hc0 : 0 < c := by omega
  clear hl1 hm1 hk1 hcall hS1 hbt HF r5
  go_wp2_with fail
  refine wp_loop_rounds 2 ?_
  rw [rounds_succ]
  go_wp2_with fail
  refine HC.out.mono ?_
  rintro e W2 ⟨rfl, A5, k5, c5, hl2, ho2, hfr⟩
  have s5 : W2.cell? ⟨ga, 5, none⟩ = some (.int .i64 0) := (World.cell?_of_block (a := ⟨ga, 5, none⟩) (hfr.block ga HL1.out (by omega))).trans HR5.out
  have HL2 := Lib.hid hl2
  have HO2 := Lib.hid ho2
  have HFR := Lib.hid ((HBT.out.fr (S := fun g => g = bs ∨ g = b1 ∨ g = bg ∨ B ≤ g) (.inl rfl)).trans hfr)
  clear hl2 ho2 hfr HC
  go_wp2_with fail
  try rw [rounds_succ]
  go_wp2
  go_end0
  exact ⟨rfl, A5, k5, c5, HL2.out, HO2.out, HFR.out⟩

set_option maxRecDepth 100000 in
set_option maxHeartbeats 8000000 in
theorem varsRef_any (w : World) (gk ok : Nat) (nm nmk : Str) (v n : Int) (Ak : Option Addr) (c q : Nat) (A2 : Option Addr) (n2 c2 : Nat) (lk : Value) (rk : Int) (hc : 1 ≤ c)
    (hatk : AtCells w ⟨gk, ok, none⟩) (hrk : ReadsAt w ⟨gk, ok, none⟩ (tyC 7 nmk n (.slice Ak 0 q) lk rk)) :
    Calls Tryz.prog 54 #[.agg (tyC 6 nm v (.slice (some ⟨gk, ok, none⟩) 1 c) (.slice A2 n2 c2) 0).toArray] w fun e w' => ∃ A k c, e = .returned (.tuple #[.slice A k c, .slice none 0 0]) ∧ w'.ownsRow w.heap.size 3 1 (.slice A k c) 1 [.int .i64 n] ∧ Below w.heap.size w w' := by
  have hlt := hatk.lt
  obtain ⟨w0, hw0⟩ : ∃ w0, w0 = w.alloc (.cells (tyC 6 nm v (.slice (some ⟨gk, ok, none⟩) 1 c) (.slice A2 n2 c2) 0).toArray 44) := ⟨_, rfl⟩
  have hb0 : Below w.heap.size w w0 := by rw [hw0]; exact below_new w _
  have hs0 : w0.heap.size = w.heap.size + 1 := by rw [hw0]; simp
  have ht0 : Lies w0 w.heap.size 44 (tyC 6 nm v (.slice (some ⟨gk, ok, none⟩) 1 c) (.slice A2 n2 c2) 0).toArray := by rw [hw0]; exact Lies.new w _ _
  unfold tyC at hw0 ⊢
  have HW := Lib.hid hw0
  have HS0 := Lib.hid hs0
  have HT0 := Lib.hid ht0
  have HAK := Lib.hid hatk
  have HRK := Lib.hid hrk
  have HB0 := Lib.hid hb0
  have hmm := @run_makeMap Tryz.prog
  clear hw0 hs0 ht0 hb0 hatk hrk
  go_enter Tryz.func54, Tryz.ntmps54
  go_wp2_with fail
  rw [← HW.out]
  obtain ⟨m1, hm1⟩ : ∃ m1, m1 = w0.alloc (.map #[] 0) := ⟨_, rfl⟩
  rw [← hm1]
  obtain ⟨m2, hm2⟩ : ∃ m2, m2 = m1.alloc (.map #[] 0) := ⟨_, rfl⟩
  rw [← hm2]
  obtain ⟨m3, hm3⟩ : ∃ m3, m3 = m2.alloc (.map #[] 0) := ⟨_, rfl⟩
  rw [← hm3]
  have z0 := HS0.out
  have z1 : m1.heap.size = w.heap.size + 2 := by rw [hm1, World.size_alloc, z0]
  have z2 : m2.heap.size = w.heap.size + 3 := by rw [hm2, World.size_alloc, z1]
  have z3 : m3.heap.size = w.heap.size + 4 := by rw [hm3, World.size_alloc, z2]
  have b1 : Below w0.heap.size w0 m1 := by rw [hm1]; exact below_new _ _
  have b2 : Below m1.heap.size m1 m2 := by rw [hm2]; exact below_new _ _
  have b3 : Below m2.heap.size m2 m3 := by rw [hm3]; exact below_new _ _
  obtain ⟨W, hW⟩ : ∃ W, W = m3.alloc (.cells (gU (w.heap.size + 1) (w.heap.size + 2) (w.heap.size + 3) (.slice none 0 0)) 121) := ⟨_, rfl⟩
  have b4 : Below m3.heap.size m3 W := by rw [hW]; exact below_new _ _
  have bW : Below w0.heap.size w0 W := ((b1.trans (b2.mono b1.size)).trans (b3.mono (by omega))).trans (b4.mono (by omega))
  have s1 : Sn W (w.heap.size + 1) [] := by
    have h := Sn.made w0
    rw [← hm1, z0] at h
    exact ((h.keep b2.block).keep b3.block).keep b4.block
  have i2 : IMap W (w.heap.size + 2) (setL []) := by
    have h := IMap.made m1
    rw [← hm2, z1] at h
    exact (h.keep (b3.block _ (by omega))).keep (b4.block _ (by omega))
  have lg : Lies W (w.heap.size + 4) 121 (gU (w.heap.size + 1) (w.heap.size + 2) (w.heap.size + 3) (.slice none 0 0)) := by rw [hW]; exact Lies.new' m3 _ _ z3
  have lt0 := HT0.out.later bW
  have hsW : W.heap.size = w.heap.size + 5 := by rw [hW, World.size_alloc, z3]
  have hkW : W.heap[gk]? = w.heap[gk]? := (bW.block gk (by omega)).trans (HB0.out.block gk hlt)
  have hcall := gatherR_any W (w.heap.size + 1) (w.heap.size + 2) (w.heap.size + 3) (w.heap.size + 4) (w.heap.size + 5) w.heap.size gk ok nm nmk v n Ak c q (.slice A2 n2 c2) lk rk lg s1 i2 ⟨_, _, lt0⟩
    (fun i u hu => by
      rw [show (⟨w.heap.size, 0 + i, none⟩ : Addr) = ⟨w.heap.size, i, none⟩ by rw [Nat.zero_add], lt0.cell]
      simpa using hu) hc (HAK.out.keep hkW) (HRK.out.keep hkW) (by omega) (by omega) (by omega) (by omega) (by omega) (by omega) (by omega) (by omega) (by omega) (by omega) (by omega) (by omega) (by omega) (by omega) (by omega) (by omega)
  unfold gU at hW
  rw [← hW]
  have HBW := Lib.hid (HB0.out.trans (bW.mono HB0.out.size))
  have HWS := Lib.hid hsW
  refine hcall.mono ?_
  rintro e W1 ⟨rfl, A5, k5, c5, hl5, ho5, hfr⟩
  have d2 : W1.cell? ⟨w.heap.size + 1 + 1 + 1 + 1, 2, none⟩ = some (.slice A5 k5 c5) := hl5.cell 2
  have d4 : W1.cell? ⟨w.heap.size + 1 + 1 + 1 + 1, 4, none⟩ = some (.slice none 0 0) := hl5.cell 4
  have HO := Lib.hid ho5
  have HB1 := Lib.hid (show Below w.heap.size w W1 from HBW.out.trans ⟨hfr.os, hfr.tape, hfr.output, by have := hfr.size; have := HWS.out; omega, fun i hi => hfr.block i (by have := HWS.out; omega) (by omega)⟩)
  clear hcall hl5 ho5 hfr hm1 hm2 hm3 hW b1 b2 b3 b4 bW s1 i2 lg lt0 hsW hkW z0 z1 z2 z3
  go_wp2
  go_quiet (fail)
  go_wp2
  go_ret2
  exact ⟨A5, k5, c5, rfl, own_mono (own_later HO.out (below_drewN _ _)) (by omega), HB1.out.trans ((below_drewN _ _).mono HB1.out.size)⟩

set_option maxRecDepth 100000 in
set_option maxHeartbeats 8000000 in
theorem indexI_any (w : World) (B : Nat) (v : Value) (n : Int) (h : w.ownsRow B 3 1 v 1 [.int .i64 n]) :
    Calls Tryz.prog 71 #[v, .int .i64 n] w fun e w' => e = .returned (.int .i64 0) ∧ w' = w := by
  rcases own_cells h with ⟨_, h0⟩ | ⟨g, cap, rfl, h1, _, _, h2⟩
  · cases h0
  have c0 := h2 0 _ rfl
  have hcap : 0 < cap := by omega
  clear h h2 h1
  go_enter Tryz.func71, Tryz.ntmps71
  go_wp2
  refine wp_loop_rounds 1 ?_
  rw [rounds_succ]
  go_wp2
  go_ret
  exact ⟨rfl, rfl⟩
set_option maxRecDepth 100000 in
set_option maxHeartbeats 8000000 in
theorem containsI_any (w : World) (B : Nat) (v : Value) (n : Int) (h : w.ownsRow B 3 1 v 1 [.int .i64 n]) :
    Calls Tryz.prog 55 #[v, .int .i64 n] w fun e w' => e = .returned (.bool true) ∧ w' = w := by
  obtain ⟨A, k, c, rfl⟩ := own_slice h
  have HX := Lib.hid (indexI_any w B _ n h)
  clear h
  go_enter Tryz.func55, Tryz.ntmps55
  go_wp2_with fail
  refine HX.out.mono ?_
  rintro e w1 ⟨rfl, rfl⟩
  go_wp2
  go_ret
  exact ⟨rfl, rfl⟩
end Go.Proofs.YtpbhndmfmnfeoaaGreat
