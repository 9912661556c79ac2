/- Maps whose keys are ints, whose elements are structs: what they say of a number. -/
import Derived.Test.YtgheaaljnmkclaaTyA
import Derived.Maps.RangeWalk
import Derived.Maps.OwnOps
import Derived.Lib.SlMapMerge
import Derived.WalkArith
namespace Go.Proofs.Ytgheaaljnmkclaa
open Go Go.RowKit Go.MapKept Go.ChangeMaps

/-- The cells of a struct of k cells. -/
def Fit1 (k : Nat) (cs : Array Value) : Prop := cs.size = k ∧ cs.all (·.oneCell') = true
instance (k : Nat) (cs : Array Value) : Decidable (Fit1 k cs) := by unfold Fit1; infer_instance
/-- An element, a struct of k cells, is held as it is. -/
def RV (k : Nat) (v : Value) : Option (DataW Value × List MemPlace) :=
  match v with
  | .agg cs => if Fit1 k cs then some (.held (.agg cs), []) else none
  | _ => none
theorem RV_some {k : Nat} {cs : Array Value} (h : Fit1 k cs) : RV k (.agg cs) = some (.held (.agg cs), []) := if_pos h
theorem RV_inv {k : Nat} {v : Value} {y : DataW Value × List MemPlace} (h : RV k v = some y) : ∃ cs, v = .agg cs ∧ Fit1 k cs ∧ y = (.held (.agg cs), []) := by
  unfold RV at h
  split at h
  · split at h
    · injection h with h
      exact ⟨_, rfl, by assumption, h.symm⟩
    · cases h
  · cases h
def kI (n : Int) : Lit := .int .i64 n
def i64ok (n : Int) : Prop := (Lit.int .i64 n).wf = true
def hv : Option (Array Value) → DataW Value
  | none => .nil
  | some v => .held (.agg v)
theorem hv_inj {a b : Option (Array Value)} (h : hv a = hv b) : a = b := by
  cases a <;> cases b <;> simp_all [hv]
/-- What a map says of numbers. -/
abbrev GMap := Int → Option (Array Value)
def noG : GMap := fun _ => none
def setG (g : GMap) (n : Int) (v : Array Value) : GMap := fun k => if k = n then some v else g k
/-- What is said by s, and else by d. -/
def overG (d s : GMap) : GMap := fun k => match s k with | some v => some v | none => d k
/-- What a datum says. -/
def SaysG (k : Nat) (D : DataW Value) (g : GMap) : Prop := ∀ n, i64ok n → (D.atKey (kI n) .nil = hv (g n) ∧ Maps.has D (kI n) = (g n).isSome) ∧ ∀ cs, g n = some cs → Fit1 k cs
/-- The map in block b says g of the numbers; it has at most m of them. -/
def MapI (w : World) (k b m : Nat) (g : GMap) : Prop := ∃ D, w.ownsMap Try.prog 3 (RV k) b m D ∧ SaysG k D g
theorem keyedI : Maps.Keyed Try.prog 3 := Maps.int_keyed Try.underlying3
theorem keyI {n : Int} (h : i64ok n) : keyOf Try.prog 3 (.int .i64 n) = some (kI n) := Maps.keyOf_int_mk Try.underlying3 h
theorem litI (n : Int) : WideAt.IsKeyLit (kI n) := trivial
theorem kI_inj {a b : Int} (h : kI a = kI b) : a = b := by unfold kI at h; injection h
theorem i64ok_of {n : Int} (h1 : -9223372036854775808 ≤ n) (h2 : n ≤ 9223372036854775807) : i64ok n := WalkArith.wf_i64 ⟨h1, h2⟩
theorem SaysG.none (k : Nat) : SaysG k (.map []) noG := fun n _ => ⟨⟨rfl, rfl⟩, fun cs h => by cases h⟩
theorem MapI.made (w : World) (k : Nat) : MapI (w.alloc (.map #[] 0)) k w.heap.size 0 noG := ⟨_, World.ownsMap_made w Try.prog 3 (RV k), .none k⟩
theorem MapI.mono {w : World} {k b m m' : Nat} {g : GMap} (h : MapI w k b m g) (hm : m ≤ m') : MapI w k b m' g := by
  obtain ⟨D, h1, h2⟩ := h
  exact ⟨D, h1.mono hm, h2⟩
theorem MapI.lt {w : World} {k b m : Nat} {g : GMap} (h : MapI w k b m g) : b < w.heap.size := by
  obtain ⟨D, h1, _⟩ := h
  exact h1.lt
theorem MapI.keep {w w' : World} {k b m : Nat} {g : GMap} (h : MapI w k b m g) (hk : w'.heap[b]? = w.heap[b]?) : MapI w' k b m g := by
  obtain ⟨D, ⟨es, clock, hb, h1⟩, h2⟩ := h
  exact ⟨D, ⟨es, clock, hk.trans hb, h1⟩, h2⟩
theorem MapI.later {w w' : World} {k b m : Nat} {g : GMap} (h : MapI w k b m g) (hb : Below w.heap.size w w') : MapI w' k b m g := h.keep (hb.block b h.lt)
theorem MapI.fit {w : World} {k b m : Nat} {g : GMap} (h : MapI w k b m g) {n : Int} (hn : i64ok n) {cs : Array Value} (hg : g n = some cs) : Fit1 k cs := by
  obtain ⟨D, _, h2⟩ := h
  exact (h2 n hn).2 cs hg
theorem MapI.isMap {w : World} {k b m : Nat} {g : GMap} (h : MapI w k b m g) : ∃ es c, w.heap[b]? = some (.map es c) ∧ es.size ≤ m := by
  obtain ⟨D, ⟨es, clock, hb, _, h1, _⟩, h2⟩ := h
  exact ⟨_, _, hb, h1⟩
/-- What 'm[n]' is. -/
def lookV (z : Value) : Option (Array Value) → Value
  | none => z
  | some cs => .agg cs
set_option maxRecDepth 100000 in
/-- 'v, ok := m[n]'. -/
theorem MapI.look {w : World} {k b m : Nat} {g : GMap} (h : MapI w k b m g) {t e : TypeId} {z : Value} (ht : Try.prog.underlying t = some (.map 3 e)) (hz : (zeroValue e).run Try.prog w = .ok z w) {n : Int} (hn : i64ok n) :
    (Instr.lookup t (.map (some b)) (.int .i64 n) true).run Try.prog w = .ok (.tuple #[lookV z (g n), .bool (g n).isSome]) w := by
  obtain ⟨D, ⟨es, clock, hb, F, _, rfl⟩, h2⟩ := h
  have hg := (h2 n hn).1.1
  rcases Maps.fit_look true keyedI ht hz hb F (keyI hn) with ⟨hrun, _, hat⟩ | ⟨e0, y, _, _, hrun, hRv, hat, _⟩
  · rw [hat] at hg
    have h0 : g n = none := (hv_inj (a := none) hg).symm
    rw [hrun, h0]
    simp [lookV]
  · rw [hat] at hg
    obtain ⟨cs, h1, _, rfl⟩ := RV_inv hRv
    have h0 : g n = some cs := (hv_inj (a := some cs) hg).symm
    rw [hrun, h0, h1]
    simp [lookV]
set_option maxRecDepth 100000 in
/-- 'm[n] = v'. -/
theorem MapI.put {w : World} {k b m : Nat} {g : GMap} (h : MapI w k b m g) {t e : TypeId} (ht : Try.prog.underlying t = some (.map 3 e)) (hm : m < maxLen) {n : Int} (hn : i64ok n) {v : Array Value} (hf : Fit1 k v) :
    ∃ w', (Instr.mapUpdate t (.map (some b)) (.int .i64 n) (.agg v)).run Try.prog w = .ok () w' ∧ MapI w' k b (m + 1) (setG g n v) ∧ w.grownBy w' (some b) ∧ w'.heap.size = w.heap.size := by
  obtain ⟨D, ⟨es, clock, hb, F, hs, rfl⟩, h2⟩ := h
  have hM : Maps.IsMap (DataW.map ((es.toList.map (WideElems.rg Try.prog 3 (RV k))).foldr DataW.insert [])) := ⟨_, rfl⟩
  obtain ⟨es', clock', hrun, F', hput, _⟩ := Maps.fit_store (R' := RV k) keyedI ht hb F (Nat.lt_of_le_of_lt hs hm) (fun _ _ _ _ hz => hz) (keyI hn) (RV_some hf)
  obtain ⟨w', hrun', hown, hgr⟩ := World.ownsMap.update (w := w) (n := m) ⟨es, clock, hb, F, hs, rfl⟩ keyedI ht hm (keyI hn) (RV_some hf)
  refine ⟨w', hrun', ⟨_, hown, fun j hj => ?_⟩, hgr, ?_⟩
  · unfold setG
    by_cases hkn : j = n
    · subst hkn
      rw [Maps.atKey_put_same hM (litI j), Maps.has_put_same hM (litI j), if_pos rfl]
      exact ⟨⟨rfl, rfl⟩, fun cs hcs => by injection hcs with hcs; rw [← hcs]; exact hf⟩
    · have hne : kI j ≠ kI n := fun h => hkn (kI_inj h)
      rw [Maps.atKey_put_other hne, Maps.has_put_other hne, if_neg hkn]
      exact h2 j hj
  · rw [hrun] at hrun'
    injection hrun' with _ hw
    rw [← hw]
    simp [setBlock]
theorem wpList_look {w : World} {ops : Array Oper} {rest : List Oper} {o : Oper} {a : Act} {Q : Exit → Act → World → Prop}
    (hg : o.guard = none) (m x : Operand) (t : TypeId) (hop : o.op = Op.lookup t m x true) {e : TypeId} {s b k : Nat} {g : GMap} {z : Value} (h : MapI w s b k g) (ht : Try.prog.underlying t = some (.map 3 e)) (hz : (zeroValue e).run Try.prog w = .ok z w)
    (hm : a.eval m = .map (some b)) {n : Int} (hn : i64ok n) (hx : a.eval x = .int .i64 n)
    (hK : wpList Try.prog ops Q rest (a.put o.dst (.tuple #[lookV z (g n), .bool (g n).isSome])) w) : wpList Try.prog ops Q (o :: rest) a w := by
  refine wpList_plain hg fun K' hK' => ?_
  have hrun := h.look ht hz hn
  unfold Oper.wp
  simp [execOp, hop, hm, hx, hrun, Result.andThen]
  exact hK' _ _ hK
theorem wpList_mput {w : World} {ops : Array Oper} {rest : List Oper} {o : Oper} {a : Act} {Q : Exit → Act → World → Prop}
    (hg : o.guard = none) (m x v : Operand) (t : TypeId) (hop : o.op = Op.mapUpdate t m x v ∨ o.op = Op.insert t m x v) {e : TypeId} {s b k : Nat} {g : GMap} (h : MapI w s b k g) (ht : Try.prog.underlying t = some (.map 3 e)) (hk : k < maxLen)
    (hm : a.eval m = .map (some b)) {n : Int} (hn : i64ok n) (hx : a.eval x = .int .i64 n) (u : Array Value) (hv : a.eval v = .agg u) (hf : Fit1 s u)
    (hK : ∀ w', MapI w' s b (k + 1) (setG g n u) → w.grownBy w' (some b) → w'.heap.size = w.heap.size → wpList Try.prog ops Q rest (a.put o.dst undef) w') : wpList Try.prog ops Q (o :: rest) a w := by
  refine wpList_plain hg fun K' hK' => ?_
  obtain ⟨w', hrun, r1, r2, r3⟩ := h.put ht hk hn hf
  unfold Oper.wp
  rcases hop with hop | hop
  · simp [execOp, hop, hm, hx, hv, hrun, Result.andThen]
    exact hK' _ _ (hK w' r1 r2 r3)
  · simp [execOp, hop, hm, hx, hv, hrun, Result.andThen]
    exact hK' _ _ (hK w' r1 r2 r3)
theorem overG_none (g : GMap) : overG noG g = g := by
  funext k
  unfold overG noG
  cases g k <;> rfl
/-- What was copied says what both said, the source first. -/
theorem merged_says {k : Nat} {Dd Ds Dout : DataW Value} {left : Lit → Bool} {gd gs : GMap} (hM : Maps.Merged Dout Dd Ds left) (hl : ∀ k, left k = false) (hd : SaysG k Dd gd) (hs : SaysG k Ds gs) : SaysG k Dout (overG gd gs) := by
  intro n hn
  have h1 := hd n hn
  have h2 := hs n hn
  rw [hM.1, hM.2, hl, h2.1.2, h1.1.2, h1.1.1, h2.1.1]
  unfold overG
  cases h3 : gs n with
  | none => simpa using h1.2
  | some v => simpa using h2.2 v h3
end Go.Proofs.Ytgheaaljnmkclaa
