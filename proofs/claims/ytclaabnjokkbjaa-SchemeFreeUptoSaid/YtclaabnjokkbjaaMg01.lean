/- Maps whose keys are ints, whose elements are structs: what they say of a number. -/
import Derived.Test.YtclaabnjokkbjaaMg00
import Derived.Maps.RangeWalk
import Derived.Maps.OwnOps
import Derived.Lib.SlMapMerge
import Derived.WalkArith
import Derived.Lib.AppendZeros
import Derived.Laws.AppendOwnNone
import Derived.OwnWalk
import Derived.Outline
import Derived.Laws.IdiomRangeMap
import Derived.Great.BuildSlice
import Derived.Deep.WholeRow
namespace Go.Proofs.Ytclaabnjokkbjaa
open Go Go.RowKit Go.MapKept Go.ChangeMaps

/-- The cells of a struct of k cells. -/
def Fit1 (k : Nat) (cs : Array Value) : Prop := cs.size = k ∧ cs.all (·.oneCell') = true
instance (k : Nat) (cs : Array Value) : Decidable (Fit1 k cs) := by unfold Fit1; infer_instance
/-- An element, a struct of k cells, is held as it is. -/
def RV (k : Nat) (v : Value) : Option (DataW Value × List MemPlace) :=
  match v with
  | .agg cs => if Fit1 k cs then some (.held (.agg cs), []) else none
  | _ => none
theorem RV_some {k : Nat} {cs : Array Value} (h : Fit1 k cs) : RV k (.agg cs) = some (.held (.agg cs), []) := if_pos h
theorem RV_inv {k : Nat} {v : Value} {y : DataW Value × List MemPlace} (h : RV k v = some y) : ∃ cs, v = .agg cs ∧ Fit1 k cs ∧ y = (.held (.agg cs), []) := by
  unfold RV at h
  split at h
  · split at h
    · injection h with h
      exact ⟨_, rfl, by assumption, h.symm⟩
    · cases h
  · cases h
def kI (n : Int) : Lit := .int .i64 n
def i64ok (n : Int) : Prop := (Lit.int .i64 n).wf = true
def hv : Option (Array Value) → DataW Value
  | none => .nil
  | some v => .held (.agg v)
theorem hv_inj {a b : Option (Array Value)} (h : hv a = hv b) : a = b := by
  cases a <;> cases b <;> simp_all [hv]
/-- What a map says of numbers. -/
abbrev GMap := Int → Option (Array Value)
def noG : GMap := fun _ => none
def setG (g : GMap) (n : Int) (v : Array Value) : GMap := fun k => if k = n then some v else g k
/-- What is said by s, and else by d. -/
def overG (d s : GMap) : GMap := fun k => match s k with | some v => some v | none => d k
/-- What a datum says. -/
def SaysG (k : Nat) (D : DataW Value) (g : GMap) : Prop := ∀ n, i64ok n → (D.atKey (kI n) .nil = hv (g n) ∧ Maps.has D (kI n) = (g n).isSome) ∧ ∀ cs, g n = some cs → Fit1 k cs
/-- The map in block b says g of the numbers; it has at most m of them. -/
def MapI (w : World) (k b m : Nat) (g : GMap) : Prop := ∃ D, w.ownsMap Try.prog 3 (RV k) b m D ∧ SaysG k D g
theorem keyedI : Maps.Keyed Try.prog 3 := Maps.int_keyed Try.underlying3
theorem keyI {n : Int} (h : i64ok n) : keyOf Try.prog 3 (.int .i64 n) = some (kI n) := Maps.keyOf_int_mk Try.underlying3 h
theorem litI (n : Int) : WideAt.IsKeyLit (kI n) := trivial
theorem kI_inj {a b : Int} (h : kI a = kI b) : a = b := by unfold kI at h; injection h
theorem i64ok_of {n : Int} (h1 : -9223372036854775808 ≤ n) (h2 : n ≤ 9223372036854775807) : i64ok n := WalkArith.wf_i64 ⟨h1, h2⟩
theorem SaysG.none (k : Nat) : SaysG k (.map []) noG := fun n _ => ⟨⟨rfl, rfl⟩, fun cs h => by cases h⟩
theorem MapI.made (w : World) (k : Nat) : MapI (w.alloc (.map #[] 0)) k w.heap.size 0 noG := ⟨_, World.ownsMap_made w Try.prog 3 (RV k), .none k⟩
theorem MapI.mono {w : World} {k b m m' : Nat} {g : GMap} (h : MapI w k b m g) (hm : m ≤ m') : MapI w k b m' g := by
  obtain ⟨D, h1, h2⟩ := h
  exact ⟨D, h1.mono hm, h2⟩
theorem MapI.lt {w : World} {k b m : Nat} {g : GMap} (h : MapI w k b m g) : b < w.heap.size := by
  obtain ⟨D, h1, _⟩ := h
  exact h1.lt
theorem MapI.keep {w w' : World} {k b m : Nat} {g : GMap} (h : MapI w k b m g) (hk : w'.heap[b]? = w.heap[b]?) : MapI w' k b m g := by
  obtain ⟨D, ⟨es, clock, hb, h1⟩, h2⟩ := h
  exact ⟨D, ⟨es, clock, hk.trans hb, h1⟩, h2⟩
theorem MapI.later {w w' : World} {k b m : Nat} {g : GMap} (h : MapI w k b m g) (hb : Below w.heap.size w w') : MapI w' k b m g := h.keep (hb.block b h.lt)
theorem MapI.fit {w : World} {k b m : Nat} {g : GMap} (h : MapI w k b m g) {n : Int} (hn : i64ok n) {cs : Array Value} (hg : g n = some cs) : Fit1 k cs := by
  obtain ⟨D, _, h2⟩ := h
  exact (h2 n hn).2 cs hg
theorem MapI.isMap {w : World} {k b m : Nat} {g : GMap} (h : MapI w k b m g) : ∃ es c, w.heap[b]? = some (.map es c) ∧ es.size ≤ m := by
  obtain ⟨D, ⟨es, clock, hb, _, h1, _⟩, h2⟩ := h
  exact ⟨_, _, hb, h1⟩
/-- What 'm[n]' is. -/
def lookV (z : Value) : Option (Array Value) → Value
  | none => z
  | some cs => .agg cs
set_option maxRecDepth 100000 in
/-- 'v, ok := m[n]'. -/
theorem MapI.look {w : World} {k b m : Nat} {g : GMap} (h : MapI w k b m g) {t e : TypeId} {z : Value} (ht : Try.prog.underlying t = some (.map 3 e)) (hz : (zeroValue e).run Try.prog w = .ok z w) {n : Int} (hn : i64ok n) :
    (Instr.lookup t (.map (some b)) (.int .i64 n) true).run Try.prog w = .ok (.tuple #[lookV z (g n), .bool (g n).isSome]) w := by
  obtain ⟨D, ⟨es, clock, hb, F, _, rfl⟩, h2⟩ := h
  have hg := (h2 n hn).1.1
  rcases Maps.fit_look true keyedI ht hz hb F (keyI hn) with ⟨hrun, _, hat⟩ | ⟨e0, y, _, _, hrun, hRv, hat, _⟩
  · rw [hat] at hg
    have h0 : g n = none := (hv_inj (a := none) hg).symm
    rw [hrun, h0]
    simp [lookV]
  · rw [hat] at hg
    obtain ⟨cs, h1, _, rfl⟩ := RV_inv hRv
    have h0 : g n = some cs := (hv_inj (a := some cs) hg).symm
    rw [hrun, h0, h1]
    simp [lookV]
set_option maxRecDepth 100000 in
/-- 'm[n] = v'. -/
theorem MapI.put {w : World} {k b m : Nat} {g : GMap} (h : MapI w k b m g) {t e : TypeId} (ht : Try.prog.underlying t = some (.map 3 e)) (hm : m < maxLen) {n : Int} (hn : i64ok n) {v : Array Value} (hf : Fit1 k v) :
    ∃ w', (Instr.mapUpdate t (.map (some b)) (.int .i64 n) (.agg v)).run Try.prog w = .ok () w' ∧ MapI w' k b (m + 1) (setG g n v) ∧ w.grownBy w' (some b) ∧ w'.heap.size = w.heap.size := by
  obtain ⟨D, ⟨es, clock, hb, F, hs, rfl⟩, h2⟩ := h
  have hM : Maps.IsMap (DataW.map ((es.toList.map (WideElems.rg Try.prog 3 (RV k))).foldr DataW.insert [])) := ⟨_, rfl⟩
  obtain ⟨es', clock', hrun, F', hput, _⟩ := Maps.fit_store (R' := RV k) keyedI ht hb F (Nat.lt_of_le_of_lt hs hm) (fun _ _ _ _ hz => hz) (keyI hn) (RV_some hf)
  obtain ⟨w', hrun', hown, hgr⟩ := World.ownsMap.update (w := w) (n := m) ⟨es, clock, hb, F, hs, rfl⟩ keyedI ht hm (keyI hn) (RV_some hf)
  refine ⟨w', hrun', ⟨_, hown, fun j hj => ?_⟩, hgr, ?_⟩
  · unfold setG
    by_cases hkn : j = n
    · subst hkn
      rw [Maps.atKey_put_same hM (litI j), Maps.has_put_same hM (litI j), if_pos rfl]
      exact ⟨⟨rfl, rfl⟩, fun cs hcs => by injection hcs with hcs; rw [← hcs]; exact hf⟩
    · have hne : kI j ≠ kI n := fun h => hkn (kI_inj h)
      rw [Maps.atKey_put_other hne, Maps.has_put_other hne, if_neg hkn]
      exact h2 j hj
  · rw [hrun] at hrun'
    injection hrun' with _ hw
    rw [← hw]
    simp [setBlock]
theorem wpList_look {w : World} {ops : Array Oper} {rest : List Oper} {o : Oper} {a : Act} {Q : Exit → Act → World → Prop}
    (hg : o.guard = none) (m x : Operand) (t : TypeId) (hop : o.op = Op.lookup t m x true) {e : TypeId} {s b k : Nat} {g : GMap} {z : Value} (h : MapI w s b k g) (ht : Try.prog.underlying t = some (.map 3 e)) (hz : (zeroValue e).run Try.prog w = .ok z w)
    (hm : a.eval m = .map (some b)) {n : Int} (hn : i64ok n) (hx : a.eval x = .int .i64 n)
    (hK : wpList Try.prog ops Q rest (a.put o.dst (.tuple #[lookV z (g n), .bool (g n).isSome])) w) : wpList Try.prog ops Q (o :: rest) a w := by
  refine wpList_plain hg fun K' hK' => ?_
  have hrun := h.look ht hz hn
  unfold Oper.wp
  simp [execOp, hop, hm, hx, hrun, Result.andThen]
  exact hK' _ _ hK
theorem wpList_mput {w : World} {ops : Array Oper} {rest : List Oper} {o : Oper} {a : Act} {Q : Exit → Act → World → Prop}
    (hg : o.guard = none) (m x v : Operand) (t : TypeId) (hop : o.op = Op.mapUpdate t m x v ∨ o.op = Op.insert t m x v) {e : TypeId} {s b k : Nat} {g : GMap} (h : MapI w s b k g) (ht : Try.prog.underlying t = some (.map 3 e)) (hk : k < maxLen)
    (hm : a.eval m = .map (some b)) {n : Int} (hn : i64ok n) (hx : a.eval x = .int .i64 n) (u : Array Value) (hv : a.eval v = .agg u) (hf : Fit1 s u)
    (hK : ∀ w', MapI w' s b (k + 1) (setG g n u) → w.grownBy w' (some b) → w'.heap.size = w.heap.size → wpList Try.prog ops Q rest (a.put o.dst undef) w') : wpList Try.prog ops Q (o :: rest) a w := by
  refine wpList_plain hg fun K' hK' => ?_
  obtain ⟨w', hrun, r1, r2, r3⟩ := h.put ht hk hn hf
  unfold Oper.wp
  rcases hop with hop | hop
  · simp [execOp, hop, hm, hx, hv, hrun, Result.andThen]
    exact hK' _ _ (hK w' r1 r2 r3)
  · simp [execOp, hop, hm, hx, hv, hrun, Result.andThen]
    exact hK' _ _ (hK w' r1 r2 r3)
theorem overG_none (g : GMap) : overG noG g = g := by
  funext k
  unfold overG noG
  cases g k <;> rfl
/-- What was copied says what both said, the source first. -/
theorem merged_says {k : Nat} {Dd Ds Dout : DataW Value} {left : Lit → Bool} {gd gs : GMap} (hM : Maps.Merged Dout Dd Ds left) (hl : ∀ k, left k = false) (hd : SaysG k Dd gd) (hs : SaysG k Ds gs) : SaysG k Dout (overG gd gs) := by
  intro n hn
  have h1 := hd n hn
  have h2 := hs n hn
  rw [hM.1, hM.2, hl, h2.1.2, h1.1.2, h1.1.1, h2.1.1]
  unfold overG
  cases h3 : gs n with
  | none => simpa using h1.2
  | some v => simpa using h2.2 v h3
end Go.Proofs.Ytclaabnjokkbjaa

/- The library's Grow of nil, and its Concat: their contracts. -/
namespace Go.Proofs.Ytclaabnjokkbjaa
open Go.RowKit

/-- nil, or a slice whose cells read so. -/
def SrcV (w : World) (u : Value) (xs : List Value) : Prop :=
  (u = .slice none 0 0 ∧ xs = []) ∨ ∃ ad c, u = .slice (some ad) xs.length c ∧ xs.length ≤ c ∧ ∀ (j : Nat) q, xs[j]? = some q → w.cell? (ad.add j) = some q
theorem SrcV.keep {w w' : World} {u : Value} {xs : List Value} (h : SrcV w u xs) (hk : ∀ g, g < w.heap.size → w'.heap[g]? = w.heap[g]?) : SrcV w' u xs := by
  rcases h with h | ⟨ad, c, h1, h2, h3⟩
  · exact .inl h
  · refine .inr ⟨ad, c, h1, h2, fun j q hq => ?_⟩
    have h4 := h3 j q hq
    have h5 := World.block_lt_of_cell? w _ h4
    exact (World.cell?_of_block (w := w) (hk _ h5)).trans h4
theorem SrcV.later {w w' : World} {u : Value} {xs : List Value} (h : SrcV w u xs) (hb : Below w.heap.size w w') : SrcV w' u xs := h.keep hb.block
theorem grown_self (w : World) (row : Option Nat) : w.grownBy w row := ⟨rfl, rfl, rfl, Nat.le_refl _, fun _ _ _ => rfl⟩
theorem wpList_append_srcV {P : Program} {w : World} {ops : Array Oper} {rest : List Oper} {o : Oper} {a : Act} {Q : Exit → Act → World → Prop} (hgd : o.guard = none) (s x : Operand) (t : TypeId)
    (ho : o.op = .call { callee := .builtin .append, args := #[s, x], argTypes := #[t, t] })
    (base : Nat) (e : TypeId) (i : TypeInfo) (z : Value) (bytes : Nat) (ht : P.underlying t = some (.slice e)) (hi : P.info? e = some i) (hz : i.zero = some z)
    (hsize : i.size = 1) (hby : i.bytes = bytes) (hzs : z.cells.size = 1)
    (v : Value) (n : Nat) (xs : List Value) (hs : a.eval s = v) (hown : w.ownsRow base e 1 v n xs)
    (u : Value) (news : List Value) (hx : a.eval x = u) (hu : SrcV w u news) (h1 : ∀ q ∈ news, q.oneCell' = true)
    (h63 : n + news.length ≤ maxLen) (hbytes : (n + news.length) * bytes ≤ 140737488355328) (hbase : base ≤ w.heap.size)
    (h : ∀ v' w', w'.ownsRow base e 1 v' (n + news.length) (xs ++ news) → w.grownBy w' v.ownBlock → wpList P ops Q rest (a.put o.dst v') w') : wpList P ops Q (o :: rest) a w := by
  rcases hu with ⟨rfl, rfl⟩ | ⟨ad, c, rfl, _, hc⟩
  · exact wpList_append_own_none hgd s x t ho base e i 1 ht hi v n xs hs hown hx (h v w (by simpa using hown) (grown_self _ _))
  · exact wpList_append_own _ hgd s x t ho base e i z 1 bytes ht hi hz hsize hby hzs (by decide) v n xs hs hown ad news.length c news hx (by omega) hc h1 h63 hbytes hbase fun v' w' h2 h3 _ => h v' w' h2 h3
theorem own_row_src {w : World} {B : Nat} {v : Value} {n : Nat} {e : TypeId} {xs : List Value} (h : w.ownsRow B e 1 v n xs) : SrcV w v xs := by
  have h1 := h.1
  rcases h.2 with ⟨rfl, rfl⟩ | ⟨g, cap, cur, rfl, _, _, hc, _, _⟩
  · exact .inl ⟨rfl, List.eq_nil_of_length_eq_zero (by simpa using h1)⟩
  · exact .inr ⟨_, cap, by rw [h1, Nat.mul_one], by omega, fun j q hq => h.cells (g := g) rfl j q hq⟩

theorem info_S (_ : True) : (Try.prog.info? 9).map (fun i => (i.zero, i.size, i.bytes)) = some (some (.string ⟨#[]⟩), 1, 16) := by kernel_rfl
set_option maxRecDepth 100000 in
set_option maxHeartbeats 2000000 in
theorem growS_nil (n : Nat) (w : World) (hn : n ≤ 100000000) :
    Calls Try.prog 70 #[.slice none 0 0, .int .i64 n] w fun e w' => ∃ v, e = .returned v ∧ w'.ownsRow w.heap.size 9 1 v 0 [] ∧ Below w.heap.size w w' := by
  obtain ⟨i0, hi, hz0, hz1, hz2⟩ := info_parts (info_S trivial)
  rcases Nat.eq_zero_or_pos n with rfl | hp
  · go_enter Try.func70, Try.ntmps70
    go_wp2
    go_ret
    exact ⟨_, rfl, World.ownsRow_nil _ _ _ _, Below.refl _ _⟩
  · have hr := fun ty => Lib.run_append_nil_zeros w 24 3 ty 9 i0 (.string ⟨#[]⟩) .i64 .i64 Try.underlying24 Try.underlying3 hi hz0 n hp (by omega) (by omega) (by rw [hz2]; omega)
    obtain ⟨G, hG⟩ : ∃ G, G = grownCap w n 0 9 := ⟨_, rfl⟩
    have hGn : n ≤ G := by rw [hG]; exact grownCap_ge w _ _ _
    have hGm : G ≤ maxLen := by rw [hG]; exact grownCap_le_maxLen w n 0 _ (by unfold maxLen; omega)
    have hG63 : G ≤ 9223372036854775807 := by unfold maxLen at hGm; omega
    rw [← hG] at hr
    have HM := Lib.hid hGm
    clear hGm hG
    go_enter Try.func70, Try.ntmps70
    go_wp2_with (at_builtin; refine Lib.wpList_append_run _ rfl _ _ _ _ rfl _ _ rfl rfl _ _ (hr _) ?_)
    go_ret
    have hb := (Below.refl w.heap.size w).drew.alloc (Nat.le_refl _) (.cells (Builtin.zeroCells (Value.cells (.string ⟨#[]⟩)) n ++ Builtin.zeroCells (Value.cells (.string ⟨#[]⟩)) (G - n)) 9)
    refine ⟨_, rfl, ⟨rfl, .inr ⟨w.heap.size, G, _, rfl, Nat.le_refl _, Lies.new _ _ _, Nat.zero_le _, HM.out, ?_, rfl⟩⟩, hb⟩
    simp [Builtin.zeroCells]
    omega

set_option maxRecDepth 100000 in
set_option maxHeartbeats 4000000 in
theorem concatS_any (ps : List (Value × List Value)) (b c : Nat) (w : World) (hb : Lies w b 24 (ps.map Prod.fst).toArray) (hc : ps.length ≤ c) (hsrc : ∀ p ∈ ps, SrcV w p.1 p.2) (h1 : ∀ p ∈ ps, ∀ q ∈ p.2, q.oneCell' = true)
    (hn : (ps.flatMap Prod.snd).length ≤ 10000000) (hk : ps.length ≤ 1000) :
    Calls Try.prog 56 #[.slice (some ⟨b, 0, none⟩) ps.length c] w fun e w' => ∃ v, e = .returned v ∧ w'.ownsRow w.heap.size 9 1 v (ps.flatMap Prod.snd).length (ps.flatMap Prod.snd) ∧ Below w.heap.size w w' := by
  obtain ⟨i0, hi, hz0, hz1, hz2⟩ := info_parts (info_S trivial)
  have hcell : ∀ (k : Nat) p, ps[k]? = some p → w.cell? ⟨b, k, none⟩ = some p.1 := fun k p hp => by
    rw [hb.cell]
    simp [hp]
  have hform : ∀ (k : Nat) p, ps[k]? = some p → ∃ A q, p.1 = .slice A p.2.length q ∧ p.2.length ≤ 10000000 := by
    intro k p hp
    have hm : p ∈ ps := List.mem_of_getElem? hp
    have hle : p.2.length ≤ (ps.flatMap Prod.snd).length := by
      obtain ⟨l1, l2, rfl⟩ := List.append_of_mem hm
      simp
      omega
    rcases hsrc p hm with ⟨e1, e2⟩ | ⟨ad, q, e1, _⟩
    · exact ⟨_, _, by rw [e1, e2]; rfl, by omega⟩
    · exact ⟨_, _, e1, by omega⟩
  have hsum : ∀ k, ((ps.take k).flatMap Prod.snd).length ≤ 10000000 := by
    intro k
    have h2 : ps.flatMap Prod.snd = (ps.take k).flatMap Prod.snd ++ (ps.drop k).flatMap Prod.snd := by rw [← List.flatMap_append, List.take_append_drop]
    have h3 := congrArg List.length h2
    rw [List.length_append] at h3
    omega
  have hstep : ∀ (k : Nat) p, ps[k]? = some p → (ps.take (k + 1)).flatMap Prod.snd = (ps.take k).flatMap Prod.snd ++ p.2 := by
    intro k p hp
    rw [take_step ps k p hp, List.flatMap_append]
    simp
  have hlt := hb.lt
  have HC := Lib.hid hcell
  have HF := Lib.hid hform
  have HS := Lib.hid hsum
  have HT := Lib.hid hstep
  have HR := Lib.hid hsrc
  have H1 := Lib.hid h1
  obtain ⟨m, hm⟩ : ∃ m, m = ps.length := ⟨_, rfl⟩
  have HM := Lib.hid hm
  rw [← hm] at hk hc ⊢
  clear hcell hform hsum hstep hsrc h1 hb hm hn
  go_enter Try.func56, Try.ntmps56
  go_wp2
  go_loopw [3, 11] (fun s i wr => ∃ k : Nat, k ≤ m ∧ i = .int .i64 k ∧ s = .int .i64 (((ps.take k).flatMap Prod.snd).length : Int) ∧ w = wr) (fun _ i _ => m - (intOf i).toNat)
  case atStart => exact ⟨0, Nat.zero_le _, rfl, rfl, rfl⟩
  case round =>
    obtain ⟨k, hkm, rfl, rfl, rfl⟩ := hrel
    by_cases hltk : k < m
    · obtain ⟨p, hp⟩ : ∃ p, ps[k]? = some p := ⟨_, List.getElem?_eq_getElem (by have := HM.out; omega)⟩
      have c0 := HC.out k p hp
      obtain ⟨A, q, e1, e2⟩ := HF.out k p hp
      rw [e1] at c0
      have hst := HT.out k p hp
      have hs0 := HS.out k
      have hl : ((ps.take (k + 1)).flatMap Prod.snd).length = ((ps.take k).flatMap Prod.snd).length + p.2.length := by rw [hst, List.length_append]
      obtain ⟨S, hS⟩ : ∃ S, S = ((ps.take k).flatMap Prod.snd).length := ⟨_, rfl⟩
      obtain ⟨L, hL⟩ : ∃ L, L = p.2.length := ⟨_, rfl⟩
      rw [← hS] at hs0 hl ⊢
      rw [← hL] at c0 hl e2
      have HL := Lib.hid hl
      have hkc : k < c := by omega
      clear hst hp hl hL hS e1
      go_wp2
      go_roundw
      case rel => exact ⟨k + 1, by omega, by simp, by rw [HL.out]; simp, by first | rfl | trivial⟩
      case measure => (simp [intOf] <;> omega)
    · obtain rfl : k = m := by omega
      have htk : ps.take k = ps := by rw [List.take_of_length_le]; have := HM.out; omega
      rw [htk]
      obtain ⟨N, hN⟩ : ∃ N, N = (ps.flatMap Prod.snd).length := ⟨_, rfl⟩
      have hN2 : N ≤ 10000000 := by have := HS.out k; rw [htk, ← hN] at this; exact this
      rw [← hN]
      have hg := growS_nil N w (by omega)
      have HG := Lib.hid hg
      have HN := Lib.hid hN
      have HTK := Lib.hid htk
      clear hg hN htk
      go_wp2_with fail
      refine HG.out.mono ?_
      rintro e w1 ⟨v1, rfl, ho1, hb1⟩
      have ho1' := Lib.hid ho1
      obtain ⟨A1, k1, c1, rfl⟩ := own_slice ho1
      clear ho1
      go_wp2_with fail
      go_loopw [6, 27] (fun s i wr => ∃ j : Nat, j ≤ k ∧ i = .int .i64 j ∧ wr.ownsRow w.heap.size 9 1 s ((ps.take j).flatMap Prod.snd).length ((ps.take j).flatMap Prod.snd) ∧ Below w.heap.size w wr) (fun _ i _ => k - (intOf i).toNat)
      case atStart => exact ⟨0, Nat.zero_le _, rfl, ho1'.out, hb1⟩
      case round =>
        obtain ⟨j, hjk, rfl, ho, hB⟩ := hrel
        by_cases hltj : j < k
        · obtain ⟨p, hp⟩ : ∃ p, ps[j]? = some p := ⟨_, List.getElem?_eq_getElem (by have := HM.out; omega)⟩
          have hpm : p ∈ ps := List.mem_of_getElem? hp
          have c0 := (hB.cell (p := ⟨b, j, none⟩) hlt).trans (HC.out j p hp)
          obtain ⟨A, q, e1, e2⟩ := HF.out j p hp
          have hsr := (HR.out p hpm).later hB
          have hone := H1.out p hpm
          have hst := HT.out j p hp
          have hs0 := HS.out j
          have hs1 := HS.out (j + 1)
          rw [hst, List.length_append] at hs1
          obtain ⟨X, hX⟩ : ∃ X, X = (ps.take j).flatMap Prod.snd := ⟨_, rfl⟩
          rw [← hX] at ho hs0 hst hs1
          obtain ⟨pv, pl⟩ := p
          dsimp only at c0 e1 e2 hsr hone hst hs1
          subst e1
          have HST := Lib.hid hst
          have HSR := Lib.hid hsr
          have HON := Lib.hid hone
          have HO := Lib.hid ho
          have HS1 := Lib.hid hs1
          obtain ⟨A0, m0, c0', rfl⟩ := own_slice ho
          have hjc : j < c := by omega
          clear hst hsr hone ho hp hX hpm hs1 hs0
          go_wp2_with (at_builtin; go_loud (refine wpList_append_srcV rfl (.tmp 31) (.tmp 32) 24 rfl w.heap.size 9 i0 _ 16 Try.underlying24 hi hz0 hz1 hz2 rfl _ X.length X rfl HO.out _ pl rfl HSR.out HON.out (by have := HS1.out; unfold maxLen; omega) (by have := HS1.out; omega) hB.size ?_); intro v' w2 ho2 hgr)
          have hrow : ∀ q, Value.ownBlock (.slice A0 m0 c0') = some q → w.heap.size ≤ q := fun q hq => (own_block HO.out q hq).1
          go_wp2_with fail
          go_roundw
          case rel =>
            refine ⟨j + 1, by omega, by simp, ?_, ?_⟩
            · rw [HST.out, List.length_append]; exact ho2
            · exact ⟨hgr.os.trans hB.os, hgr.tape.trans hB.tape, hgr.output.trans hB.output, Nat.le_trans hB.size hgr.size, fun g hg => (hgr.block g (Nat.lt_of_lt_of_le hg hB.size) (fun e => by have := hrow g e.symm; omega)).trans (hB.block g hg)⟩
          case measure => (simp [intOf] <;> omega)
        · obtain rfl : j = k := by omega
          rw [HTK.out] at ho
          have HO := Lib.hid ho
          obtain ⟨A0, m0, c0', rfl⟩ := own_slice ho
          clear ho
          go_wp2
          go_ret
          exact ⟨_, rfl, HO.out, hB⟩
end Go.Proofs.Ytclaabnjokkbjaa

/- maps.Copy at maps of types: its contract. -/
namespace Go.Proofs.Ytclaabnjokkbjaa
open Go.RowKit Go.Maps

theorem zero_T (w : World) : (zeroValue 28).run Try.prog w = .ok (.agg #[.int .i64 0, .string ⟨#[]⟩, .int .i64 0, .slice none 0 0, .slice none 0 0, .int .i64 0]) w := by go_simp
theorem size_T : (Try.prog.info? 28).map (·.size) = some 6 := by kernel_rfl
set_option maxHeartbeats 4000000 in
set_option maxRecDepth 100000 in
theorem copyT_any (bd bs nd ns : Nat) (gd gs : GMap) (w : World) (hd : MapI w 6 bd nd gd) (hs : MapI w 6 bs ns gs) (hne : bd ≠ bs) (hroom : nd + ns ≤ 1000000) :
    Calls Try.prog 66 #[.map (some bd), .map (some bs)] w fun e w' => e = .returned (.tuple #[]) ∧ MapI w' 6 bd (nd + ns) (overG gd gs) ∧ w.grownBy w' (some bd) := by
  have hbd := hd.lt
  have hbs := hs.lt
  obtain ⟨Dd, hod, hsd⟩ := hd
  obtain ⟨Ds, hos, hss⟩ := hs
  have hsz : Maps.size Ds ≤ ns := by
    obtain ⟨es, clock, _, _, hs, rfl⟩ := hos
    rw [Maps.size_eq, length_sorted]
    simpa using hs
  go_enter Try.func66, Try.ntmps66
  go_wp2_with (first
    | (at_range; refine wpList_range_own _ rfl _ 98 rfl 3 28 keyedI Try.underlying98 (RV 6) bs ns _ rfl hos ?_; intro w0 hrg0 hg0 hs0)
    | go_in)
  go_frame
  go_loopw [8] (fun _ wr => ∃ (left : Lit → Bool) (cnt : Nat) (Dout : DataW Value), wr.ranges Try.prog 3 (RV 6) bs w.heap.size ns Ds left cnt ∧ cnt ≤ Maps.size Ds ∧
      wr.ownsMap Try.prog 3 (RV 6) bd (nd + (Maps.size Ds - cnt)) Dout ∧ Merged Dout Dd Ds left ∧ w.grownBy wr (some bd))
    (fun _ wr => wr.rangeLeft bs w.heap.size)
  case atStart =>
    exact ⟨_, _, Dd, hrg0, Nat.le_refl _, (hod.kept hg0 (by simp)).mono (by omega), merged_start Dd Ds, hg0.but _⟩
  case round =>
    obtain ⟨left, cnt, Dout, hrg, hcs, hout, hM, hgw⟩ := hrel
    have hrlt := hrg.lt
    go_wp2_with (first
      | (at_next; refine wpList_next_ranges _ rfl _ rfl 3 keyedI (RV 6) (Value.int .i64) Value.agg (fun key kl hkey => by obtain ⟨x, rfl, _⟩ := Maps.keyOf_int_inv Try.underlying3 hkey; exact ⟨x, rfl⟩) (fun v y hv => by obtain ⟨cs, h, _⟩ := RV_inv hv; exact ⟨cs, h⟩) bs w.heap.size ns _ _ _ rfl hrg ?_ ?_)
      | go_in)
    · intro hc0 hl0
      go_wp2
      go_end0
      exact ⟨rfl, ⟨Dout, hout.mono (by omega), merged_says hM hl0 hsd hss⟩, hgw⟩
    · intro x c kl yd yp w1 cnt1 hkey hlx hv hat hrg1 hlt hg1 hs1 hen
      obtain ⟨x', ex, rfl, hwx⟩ := Maps.keyOf_int_inv Try.underlying3 hkey
      cases ex
      obtain ⟨cs', ec, hfit, hyd⟩ := RV_inv hv
      cases ec
      cases hyd
      have hout1 := hout.kept hg1 (fun e => by have := Option.some.inj e; omega)
      have lz := Lies.new w1 28 #[.int .i64 0, .string ⟨#[]⟩, .int .i64 0, .slice none 0 0, .slice none 0 0, .int .i64 0]
      have hsc := hfit.1
      have hoc := hfit.2
      have HF := Lib.hid hfit
      have HV := Lib.hid hv
      clear hfit hv hs1
      go_wp2_with (first
        | (refine wpList_store_rowTo rfl 28 (.tmp 5) (.tmp 12) rfl rfl w1.heap.size c rfl rfl 28 _ lz (by rw [size_T, hsc]) (by rw [hsc]; rfl) hoc ?_; rw [World.setRow_alloc_new])
        | (refine wpList_load_row rfl 28 (.tmp 5) rfl _ rfl 28 _ (0, 0) _ (Lies.new w1 28 _) Try.underlying28 rfl (by rw [size_T, hsc]) ?_)
        | (at_mapUpdate; refine wpList_mapUpdate_own _ rfl _ _ _ 98 rfl 3 28 keyedI Try.underlying98 (RV 6) bd _ _ rfl (hout1.alloc _) (by unfold maxLen; omega) _ _ _ rfl rfl hkey _ _ HV.out ?_; intro w2 hout2 hg2; go_frame)
        | go_in)
      have hrg2 := (hrg1.alloc (.cells c 28)).kept hg2 (fun e => hne (Option.some.inj e).symm) (fun e => by have := Option.some.inj e; omega)
      go_roundw
      case rel =>
        refine ⟨_, cnt1, _, hrg2, by omega, hout2.mono (by omega), merged_step hM hout.isMap (keyedI.key hkey) hat, (hgw.andThen hg1 (fun j hj => .inl (by cases hj; exact Nat.le_refl _))).andThen ((World.grownBy_alloc w1 _ none).but (some bd) |>.trans hg2) (fun j hj => .inr hj)⟩
      case measure => rw [hrg2.left_eq, hrg.left_eq]; exact hlt
end Go.Proofs.Ytclaabnjokkbjaa
