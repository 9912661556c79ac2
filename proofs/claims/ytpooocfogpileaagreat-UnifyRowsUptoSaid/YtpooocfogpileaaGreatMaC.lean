/- Maps from places to places; what leads from place to place. -/
import Derived.Test.YtpooocfogpileaaGreatMaA
import Derived.Test.YtpooocfogpileaaGreatMaB
import Derived.Deep.QuietTactic
import Derived.BigQuiet
import Derived.Outline
import Derived.StillTailTactics
import Derived.LoopTactic
import Derived.Deep.LoopGhost
import Derived.Deep.RegionHeld3
namespace Go.Proofs.YtpooocfogpileaaGreat
open Go Go.MapKept Go.ChangeMaps Go.RowKit

/-- The map in block b leads from place to place. -/
def PMap (w : World) (b : Nat) (L : List (Addr × Addr)) : Prop :=
  ∃ es clock, w.heap[b]? = some (.map es clock) ∧ es.toList.map (fun e => (e.key, e.val)) = L.map (fun p => (Value.pointer (some p.1), Value.pointer (some p.2)))
theorem PMap.lt {w : World} {b : Nat} {L : List (Addr × Addr)} (h : PMap w b L) : b < w.heap.size := by
  obtain ⟨es, clock, hb, _⟩ := h
  exact (Array.getElem?_eq_some_iff.1 hb).1
theorem PMap.keep {w w' : World} {b : Nat} {L : List (Addr × Addr)} (h : PMap w b L) (hk : w'.heap[b]? = w.heap[b]?) : PMap w' b L := by
  obtain ⟨es, clock, hb, he⟩ := h
  exact ⟨es, clock, hk.trans hb, he⟩
theorem PMap.made (w : World) : PMap (w.alloc (.map #[] 0)) w.heap.size [] := ⟨#[], 0, (MapKept.heap_alloc w _).1, rfl⟩
def plook (a : Addr) : List (Addr × Addr) → Option Addr
  | [] => none
  | p :: L => if a = p.1 then some p.2 else plook a L
section
variable {P : Program} {w : World} {kt te mt et : TypeId} {inf : TypeInfo}
theorem run_findAsking_pm (hk : P.underlying kt = some (.pointer te)) (hte : P.info? te = some inf) (hsz : inf.size ≠ 0) (a : Addr) (ha : AtCells w a) : ∀ (es : List MapEntry) (L : List (Addr × Addr)) (i : Nat),
    es.map (fun e => (e.key, e.val)) = L.map (fun p => (Value.pointer (some p.1), Value.pointer (some p.2))) → (∀ p ∈ L, AtCells w p.1) →
    ∃ r, (Instr.findAsking kt (.pointer (some a)) es i).run P w = .ok r w ∧ ((∃ v j, plook a L = some v ∧ r = some (j, .pointer (some v))) ∨ (plook a L = none ∧ r = none))
  | [], L, i, h, _ => by
    have hL : L = [] := by simpa using h.symm
    subst hL
    exact ⟨none, by simp [Instr.findAsking], .inr ⟨rfl, rfl⟩⟩
  | e :: es, [], i, h, _ => by simp at h
  | e :: es, p :: L, i, h, hL => by
    simp only [List.map_cons, List.cons.injEq, Prod.mk.injEq] at h
    obtain ⟨⟨h1, h2⟩, h3⟩ := h
    by_cases hx : a = p.1
    · refine ⟨some (i, .pointer (some p.2)), ?_, .inl ⟨p.2, i, by simp [plook, hx], rfl⟩⟩
      rw [hx]
      simp [Instr.findAsking, h1, h2, run_equal_ptr_same hk hte hsz, Result.andThen]
    · obtain ⟨r, hr, hc⟩ := run_findAsking_pm hk hte hsz a ha es L (i + 1) h3 (fun y hy => hL y (by simp [hy]))
      refine ⟨r, ?_, ?_⟩
      · simp [Instr.findAsking, h1, run_equal_ptr_other hk hte hsz hx ha (hL p (by simp)), Result.andThen, hr]
      · simpa [plook, hx] using hc
theorem run_findKey_pm (hk : P.underlying kt = some (.pointer te)) (hte : P.info? te = some inf) (hsz : inf.size ≠ 0) (a : Addr) (ha : AtCells w a) (es : List MapEntry) (L : List (Addr × Addr))
    (h : es.map (fun e => (e.key, e.val)) = L.map (fun p => (Value.pointer (some p.1), Value.pointer (some p.2)))) (hL : ∀ p ∈ L, AtCells w p.1) :
    ∃ r, (Instr.findKey kt (.pointer (some a)) es).run P w = .ok r w ∧ ((∃ v j, plook a L = some v ∧ r = some (j, .pointer (some v))) ∨ (plook a L = none ∧ r = none)) := by
  cases es with
  | nil =>
    have hL : L = [] := by simpa using h.symm
    subst hL
    exact ⟨none, by simp [Instr.findKey, run_underlying hk, Result.andThen, Instr.findNow], .inr ⟨rfl, rfl⟩⟩
  | cons e es =>
    obtain ⟨r, hr, hc⟩ := run_findAsking_pm hk hte hsz a ha (e :: es) L 0 h hL
    exact ⟨r, by simp [Instr.findKey, run_underlying hk, Result.andThen, Instr.findNow, Instr.sameNow, hr], hc⟩
theorem PMap.lookup {b : Nat} {L : List (Addr × Addr)} (h : PMap w b L) (hm : P.underlying mt = some (.map kt et)) (hk : P.underlying kt = some (.pointer te)) (hte : P.info? te = some inf) (hsz : inf.size ≠ 0)
    (hz : (zeroValue et).run P w = .ok (.pointer none) w) (a : Addr) (ha : AtCells w a) (hL : ∀ p ∈ L, AtCells w p.1) : (Instr.lookup mt (.map (some b)) (.pointer (some a)) false).run P w = .ok (.pointer (plook a L)) w := by
  obtain ⟨es, clock, hb, he⟩ := h
  obtain ⟨r, hr, hc⟩ := run_findKey_pm hk hte hsz a ha es.toList L he hL
  rcases hc with ⟨v, j, hv, rfl⟩ | ⟨hv, rfl⟩
  · simp [Instr.lookup, run_underlying hm, MapKept.run_getObj_map hb, Result.andThen, run_checkKey_ptr hk _ 9999, hr, hv]
  · simp [Instr.lookup, run_underlying hm, MapKept.run_getObj_map hb, Result.andThen, run_checkKey_ptr hk _ 9999, hr, hv, hz]
theorem PMap.update {b : Nat} {L : List (Addr × Addr)} (h : PMap w b L) (hm : P.underlying mt = some (.map kt et)) (hk : P.underlying kt = some (.pointer te)) (hte : P.info? te = some inf) (hsz : inf.size ≠ 0)
    (a v : Addr) (ha : AtCells w a) (hL : ∀ p ∈ L, AtCells w p.1) (hn : plook a L = none) : ∃ w', (Instr.mapUpdate mt (.map (some b)) (.pointer (some a)) (.pointer (some v))).run P w = .ok () w' ∧ PMap w' b (L ++ [(a, v)]) ∧ w.grownBy w' (some b) := by
  obtain ⟨es, clock, hb, he⟩ := h
  obtain ⟨r, hr, hc⟩ := run_findKey_pm hk hte hsz a ha es.toList L he hL
  rcases hc with ⟨u, j, hv, rfl⟩ | ⟨hv, rfl⟩
  · rw [hn] at hv; cases hv
  · refine ⟨setBlock w b (.map (es.push ⟨.pointer (some a), .pointer (some v), clock⟩) (clock + 1)), ?_, ⟨_, _, heap_setBlock_same hb _, ?_⟩, ⟨rfl, rfl, rfl, by simp [setBlock], fun i _ hi => heap_setBlock_other hb _ (fun e => hi (by rw [e]))⟩⟩
    · simp [Instr.mapUpdate, run_underlying hm, MapKept.run_getObj_map hb, run_checkKey_ptr hk _ 9999, hr, MapKept.run_setObj_map _ hb, Result.andThen, setBlock]
    · simp [he]
end
theorem wpList_lookup_pm {P : Program} (w : World) {ops : Array Oper} {rest : List Oper} {o : Oper} {a : Act} {Q : Exit → Act → World → Prop}
    (hg : o.guard = none) (m x : Operand) (t : TypeId) (hop : o.op = Op.lookup t m x false) {v : Value}
    {b : Nat} (hm : a.eval m = .map (some b)) (d : Addr) (hx : a.eval x = .pointer (some d)) (hrun : (Instr.lookup t (.map (some b)) (.pointer (some d)) false).run P w = .ok v w)
    (hK : wpList P ops Q rest (a.put o.dst v) w) :
    wpList P ops Q (o :: rest) a w := by
  refine wpList_plain hg fun K' hK' => ?_
  unfold Oper.wp
  simp [execOp, hop, hm, hx, hrun, Result.andThen]
  exact hK' _ _ hK
theorem wpList_update_pm {P : Program} (w : World) {ops : Array Oper} {rest : List Oper} {o : Oper} {a : Act} {Q : Exit → Act → World → Prop}
    (hg : o.guard = none) (m x v : Operand) (t : TypeId) (hop : o.op = Op.mapUpdate t m x v) {kt te et : TypeId} {inf : TypeInfo} {b : Nat} {L : List (Addr × Addr)}
    (hm : a.eval m = .map (some b)) (h : PMap w b L) (hmt : P.underlying t = some (.map kt et)) (hk : P.underlying kt = some (.pointer te)) (hte : P.info? te = some inf) (hsz : inf.size ≠ 0)
    (d u : Addr) (hx : a.eval x = .pointer (some d)) (hv : a.eval v = .pointer (some u)) (hd : AtCells w d) (hL : ∀ p ∈ L, AtCells w p.1) (hn : plook d L = none)
    (hK : ∀ w', PMap w' b (L ++ [(d, u)]) → w.grownBy w' (some b) → wpList P ops Q rest (a.put o.dst undef) w') :
    wpList P ops Q (o :: rest) a w := by
  refine wpList_plain hg fun K' hK' => ?_
  obtain ⟨w', hrun, r1, r2⟩ := h.update hmt hk hte hsz d u hd hL hn
  unfold Oper.wp
  simp [execOp, hop, hm, hx, hv, hrun, Result.andThen]
  exact hK' _ _ (hK w' r1 r2)
theorem zero_ptr (w : World) : (zeroValue 94).run Tryz.prog w = .ok (.pointer none) w := by go_simp

/-- A place from which nothing leads is its own end. -/
theorem end_any (w : World) (b : Nat) (L : List (Addr × Addr)) (d : Addr) (hm : PMap w b L) (hd : AtCells w d) (hL : ∀ p ∈ L, AtCells w p.1) (hn : plook d L = none) :
    Calls Tryz.prog 68 #[.map (some b), .pointer (some d)] w fun e w' => e = .returned (.pointer (some d)) ∧ w' = w := by
  obtain ⟨inf, hinf, hsz⟩ := size_type
  have hl := hm.lookup (mt := 93) Tryz.underlying93 Tryz.underlying94 hinf hsz (zero_ptr w) d hd hL
  rw [hn] at hl
  go_enter Tryz.func68, Tryz.ntmps68
  go_wp2
  go_loop [1] (fun i => i = .pointer (some d)) (fun _ => 0)
  case atStart => rfl
  case round =>
    subst hrel
    go_wp2_with (at_lookup; refine wpList_lookup_pm _ rfl (.tmp 6) (.tmp 7) 93 rfl rfl d rfl hl ?_)
    go_ret
    exact ⟨rfl, rfl⟩
end Go.Proofs.YtpooocfogpileaaGreat

/- Two places are held to be the same; are two types the same but for what stands below them. -/
namespace Go.Proofs.YtpooocfogpileaaGreat
open Go.RowKit

theorem run_eql_ptr {w : World} {x y : Addr} {r : Bool} (h : (Op.equal 94 (.pointer (some x)) (.pointer (some y))).run Tryz.prog w = .ok r w) : (binOp .eql 94 (.pointer (some x)) (.pointer (some y))).run Tryz.prog w = .ok (.bool r) w := by
  simp [binOp, h, Result.andThen]
theorem below_drewN (w : World) (n : Nat) : Below w.heap.size w (w.drewN n) := ⟨rfl, rfl, rfl, Nat.le_refl _, fun _ _ => rfl⟩
set_option maxRecDepth 100000 in
set_option maxHeartbeats 2000000 in
theorem join_new (w : World) (b : Nat) (L : List (Addr × Addr)) (x y : Addr) (hxy : x ≠ y) (hm : PMap w b L) (hx : AtCells w x) (hy : AtCells w y) (hL : ∀ p ∈ L, AtCells w p.1) (hn : plook x L = none) (hn2 : plook y L = none) :
    Calls Tryz.prog 52 #[.map (some b), .agg #[.pointer (some x), .pointer (some y)]] w fun e w' => e = .returned (.bool true) ∧ PMap w' b (L ++ [(x, y)]) ∧ Bt b w w' := by
  obtain ⟨w0, hw0⟩ : ∃ w0, w0 = w.alloc (.cells #[.pointer (some x), .pointer (some y)] 96) := ⟨_, rfl⟩
  have hb0 : Below w.heap.size w w0 := by rw [hw0]; exact below_new w _
  have l0 : Lies w0 w.heap.size 96 #[.pointer (some x), .pointer (some y)] := by rw [hw0]; exact Lies.new w _ _
  have hm0 := hm.keep (hb0.block _ hm.lt)
  have hx0 := hx.keep (hb0.block _ hx.lt)
  have hy0 := hy.keep (hb0.block _ hy.lt)
  have hL0 : ∀ p ∈ L, AtCells w0 p.1 := fun p hp => (hL p hp).keep (hb0.block _ (hL p hp).lt)
  have he := fun m => end_any (w0.drewN m) b L x hm0 hx0 hL0 hn
  have he2 := fun m => end_any (w0.drewN m) b L y hm0 hy0 hL0 hn2
  have c0 := l0.cell 0
  have c1 := l0.cell 1
  obtain ⟨inf, hinf, hsz⟩ := size_type
  have heq : ∀ m, (binOp .eql 94 (.pointer (some x)) (.pointer (some y))).run Tryz.prog (w0.drewN m) = .ok (.bool false) (w0.drewN m) := fun m => run_eql_ptr (run_equal_ptr_other Tryz.underlying94 hinf hsz hxy hx0 hy0)
  have HW := Lib.hid hw0
  have HE := Lib.hid he
  have HE2 := Lib.hid he2
  have HM := Lib.hid hm0
  have HL0 := Lib.hid hL0
  clear hw0 hm0 he he2 hL0
  go_enter Tryz.func52, Tryz.ntmps52
  go_wp2
  rw [← HW.out]
  go_quiet (first | (go_at_call_of 68 (Value.pointer (some x)); exact Calls.quiet_of_same (HE.out _)) | (go_at_call_of 68 (Value.pointer (some y)); exact Calls.quiet_of_same (HE2.out _)))
  go_wp2_with (at_mapUpdate; go_loud (refine wpList_update_pm _ rfl (.tmp 18) (.tmp 19) (.tmp 20) 93 rfl rfl (PMap.keep (w' := w0.drewN nq) HM.out rfl) Tryz.underlying93 Tryz.underlying94 hinf hsz x y rfl rfl hx0 HL0.out hn ?_); intro w1 hm1 hg1)
  go_ret
  exact ⟨rfl, hm1, ((Bt.of_below hb0).trans (.of_below (below_drewN _ _))).trans (.of_grown hg1)⟩
set_option maxRecDepth 100000 in
set_option maxHeartbeats 4000000 in
/-- sameAlone at two kinds that are unlike. -/
theorem sameAlone_not (w : World) (b o b' o' : Nat) (k : Int) (nm : Str) (v : Int) (kv lv : Value) (rv : Int) (k' : Int) (nm' : Str) (v' : Int) (kv' lv' : Value) (rv' : Int) (hr : ReadsAt w ⟨b, o, none⟩ (tyC k nm v kv lv rv)) (hr' : ReadsAt w ⟨b', o', none⟩ (tyC k' nm' v' kv' lv' rv')) (hk : k ≠ k') :
    Calls Tryz.prog 53 #[.pointer (some ⟨b, o, none⟩), .pointer (some ⟨b', o', none⟩)] w fun e w' => e = .returned (.bool false) ∧ Below w.heap.size w w' := by
  obtain ⟨c0, _, _, _, _, _⟩ := reads6 hr
  obtain ⟨d0, _, _, _, _, _⟩ := reads6 hr'
  have hkb : (k == k') = false := by simpa using hk
  go_enter Tryz.func53, Tryz.ntmps53
  go_wp2
  go_quiet (fail)
  go_wp2
  go_ret
  exact ⟨rfl, below_drewN _ _⟩
set_option maxRecDepth 100000 in
set_option maxHeartbeats 8000000 in
theorem same_kindsU (k : Int) (nm : Str) (v : Int) (n : Nat) (m : Nat) (rv : Int) (k' : Int) (nm' : Str) (v' : Int) (n' : Nat) (m' : Nat) (rv' : Int) (A : Option Addr) (q : Nat) (A2 : Option Addr) (q2 : Nat) (A' : Option Addr) (q' : Nat) (A2' : Option Addr) (q2' : Nat) (w : World) (hk : k ≠ k') :
    Calls Tryz.prog 36 #[.agg (tyC k nm v (.slice A n q) (.slice A2 m q2) rv).toArray, .agg (tyC k' nm' v' (.slice A' n' q') (.slice A2' m' q2') rv').toArray] w fun e w' => e = .returned (.bool false) ∧ Below w.heap.size w w' := by
  obtain ⟨w1, hw1⟩ : ∃ w1, w1 = (w.alloc (.cells (tyC k nm v (.slice A n q) (.slice A2 m q2) rv).toArray 44)).alloc (.cells (tyC k' nm' v' (.slice A' n' q') (.slice A2' m' q2') rv').toArray 44) := ⟨_, rfl⟩
  have hb1 : Below w.heap.size w w1 := by rw [hw1]; exact ((Below.refl _ w).alloc (Nat.le_refl _) _).alloc (by simp) _
  have hs1 : w1.heap.size = w.heap.size + 2 := by rw [hw1]; simp
  have la : Lies w1 w.heap.size 44 (tyC k nm v (.slice A n q) (.slice A2 m q2) rv).toArray := by rw [hw1]; exact (Lies.new w _ _).alloc _
  have lb : Lies w1 (w.heap.size + 1) 44 (tyC k' nm' v' (.slice A' n' q') (.slice A2' m' q2') rv').toArray := by rw [hw1]; exact Lies.new' _ _ _ (by simp)
  have hra : ReadsAt w1 ⟨w.heap.size, 0, none⟩ (tyC k nm v (.slice A n q) (.slice A2 m q2) rv) := fun i u hu => by
    rw [show (⟨w.heap.size, 0 + i, none⟩ : Addr) = ⟨w.heap.size, i, none⟩ by rw [Nat.zero_add], la.cell]
    simpa using hu
  have hrb : ReadsAt w1 ⟨w.heap.size + 1, 0, none⟩ (tyC k' nm' v' (.slice A' n' q') (.slice A2' m' q2') rv') := fun i u hu => by
    rw [show (⟨w.heap.size + 1, 0 + i, none⟩ : Addr) = ⟨w.heap.size + 1, i, none⟩ by rw [Nat.zero_add], lb.cell]
    simpa using hu
  have hmm := @run_makeMap Tryz.prog
  unfold tyC at hw1
  have HW := Lib.hid hw1
  have HS1 := Lib.hid hs1
  have HRA := Lib.hid hra
  have HRB := Lib.hid hrb
  have HLA := Lib.hid la
  have HLB := Lib.hid lb
  clear hw1 hs1 hra hrb la lb
  unfold tyC
  go_enter Tryz.func36, Tryz.ntmps36
  go_wp2_with fail
  rw [← HW.out]
  obtain ⟨m2, hm2⟩ : ∃ m2, m2 = w1.alloc (.map #[] 0) := ⟨_, rfl⟩
  rw [← hm2]
  obtain ⟨m3, hm3⟩ : ∃ m3, m3 = m2.alloc (.cells #[.pointer (some ⟨w.heap.size, 0, none⟩), .pointer (some ⟨w.heap.size + 1, 0, none⟩)] 96) := ⟨_, rfl⟩
  rw [← hm3]
  have z1 := HS1.out
  have z2 : m2.heap.size = w.heap.size + 3 := by rw [hm2, World.size_alloc, z1]
  have z3 : m3.heap.size = w.heap.size + 4 := by rw [hm3, World.size_alloc, z2]
  have b2 : Below w1.heap.size w1 m2 := by rw [hm2]; exact below_new _ _
  have b3 : Below m2.heap.size m2 m3 := by rw [hm3]; exact below_new _ _
  have b13 : Below w1.heap.size w1 m3 := b2.trans (b3.mono (by omega))
  have pm3 : PMap m3 (w.heap.size + 2) [] := by
    have h := PMap.made w1
    rw [← hm2, z1] at h
    exact h.keep (b3.block _ (by omega))
  have l3 : Lies m3 (w.heap.size + 3) 96 #[.pointer (some ⟨w.heap.size, 0, none⟩), .pointer (some ⟨w.heap.size + 1, 0, none⟩)] := by rw [hm3]; exact Lies.new' _ _ _ z2
  have B13 := Lib.hid b13
  have PM3 := Lib.hid pm3
  have L3 := Lib.hid l3
  have Z1 := Lib.hid z1
  have Z3 := Lib.hid z3
  clear hm2 hm3 z2 b2 b3 b13 pm3 l3 z1 z3
  generalize hN : w.heap.size = N at *
  go_loopg [6] 1 (fun gh td wr => td = .slice (some ⟨N + 3, 0, none⟩) 1 1 ∧ wr = m3)
  case atStart => exact ⟨by first | rfl | simp, rfl⟩
  case round =>
    obtain ⟨rfl, rfl⟩ := hrel
    have p0 := L3.out.cell 0
    have p1 := L3.out.cell 1
    have hbn := below_new wr (.cells #[.pointer (some ⟨N, 0, none⟩), .pointer (some ⟨N + 1, 0, none⟩)] 96)
    have hz3 := Z3.out
    have hz1 := Z1.out
    have hB0 : Below w1.heap.size w1 (wr.alloc (.cells #[.pointer (some ⟨N, 0, none⟩), .pointer (some ⟨N + 1, 0, none⟩)] 96)) := B13.out.trans (hbn.mono (by omega))
    have hla := HLA.out.later hB0
    have hlb := HLB.out.later hB0
    have hpm := PM3.out.keep (hbn.block _ (by omega))
    have hj := join_new _ (N + 2) [] ⟨N, 0, none⟩ ⟨N + 1, 0, none⟩ (by simp) hpm ⟨_, _, hla⟩ ⟨_, _, hlb⟩ (by simp) rfl rfl
    have lp := Lies.new' wr 96 #[.pointer (some ⟨N, 0, none⟩), .pointer (some ⟨N + 1, 0, none⟩)] hz3
    have HJ := Lib.hid hj
    have HLP := Lib.hid lp
    have HB0 := Lib.hid hB0
    clear hj lp hB0 hbn hpm hla hlb
    go_wp2_with fail
    refine HJ.out.mono ?_
    rintro e W1 ⟨rfl, hpm1, hbt⟩
    have hB1 : Below w1.heap.size w1 W1 := HB0.out.trans (hbt.below (by omega) HB0.out.size)
    have lp1 : Lies W1 (N + 4) 96 #[.pointer (some ⟨N, 0, none⟩), .pointer (some ⟨N + 1, 0, none⟩)] := (hbt.block _ HLP.out.lt (by omega)).trans HLP.out
    have hsa := sameAlone_not W1 N 0 (N + 1) 0 k nm v _ _ rv k' nm' v' _ _ rv' (HRA.out.keep (hB1.block _ (by show N < w1.heap.size; omega))) (HRB.out.keep (hB1.block _ (by show N + 1 < w1.heap.size; omega))) hk
    have q0 := lp1.cell 0
    have q1 := lp1.cell 1
    have HSA := Lib.hid hsa
    clear hsa hpm1 HJ HLP
    go_wp2_with fail
    refine HSA.out.mono ?_
    rintro e W2 ⟨rfl, hb2⟩
    go_wp2
    go_ret
    exact ⟨rfl, by rw [hN]; exact hb1.trans ((hB1.trans (hb2.mono hB1.size)).mono (by omega))⟩
end Go.Proofs.YtpooocfogpileaaGreat
