/- A map of the call's own whose keys are pointers at cells: a set of addresses. -/
import Derived.Test.YtpbhndmfmnfeoaaGreatProg
import Derived.Maps.Own
import Derived.Maps.OwnOps
import Derived.LaidEql
import Derived.WalkKit
import Derived.WalkSpells
import Derived.WalkLawsBesides
import Derived.Lib.Hide
import Derived.Lib.Strings
import Derived.Laws.EntriesVeiled
import Derived.Maps.AppendAt
import Derived.Maps.RangeWalk
import Derived.Lib.SlMapMerge
import Derived.WalkArith
namespace Go.Proofs.YtpbhndmfmnfeoaaGreat
open Go Go.MapKept Go.ChangeMaps

/-- The map in block b has just the keys L, and z at each. -/
def PtrSet (w : World) (z : Value) (b : Nat) (L : List Addr) : Prop :=
  ∃ es clock, w.heap[b]? = some (.map es clock) ∧ es.toList.map (fun e => (e.key, e.val)) = L.map (fun a => (Value.pointer (some a), z))
/-- An address in a block of cells that nothing else reads. -/
def AtCells (w : World) (a : Addr) : Prop := ∃ c t, w.heap[a.block]? = some (.cells c t (0, 0))

theorem PtrSet.made (w : World) (z : Value) : PtrSet (w.alloc (.map #[] 0)) z w.heap.size [] := ⟨#[], 0, (MapKept.heap_alloc w _).1, rfl⟩
theorem PtrSet.lt {w : World} {z : Value} {b : Nat} {L : List Addr} (h : PtrSet w z b L) : b < w.heap.size := by
  obtain ⟨es, clock, hb, _⟩ := h
  exact (Array.getElem?_eq_some_iff.1 hb).1
theorem PtrSet.keep {w w' : World} {z : Value} {b : Nat} {L : List Addr} (h : PtrSet w z b L) (hk : w'.heap[b]? = w.heap[b]?) : PtrSet w' z b L := by
  obtain ⟨es, clock, hb, he⟩ := h
  exact ⟨es, clock, hk.trans hb, he⟩
theorem AtCells.keep {w w' : World} {a : Addr} (h : AtCells w a) (hk : w'.heap[a.block]? = w.heap[a.block]?) : AtCells w' a := by
  obtain ⟨c, t, h⟩ := h
  exact ⟨c, t, hk.trans h⟩

section
variable {P : Program} {w : World} {kt te mt et : TypeId} {inf : TypeInfo} {z : Value}

theorem run_equal_ptr_same (hk : P.underlying kt = some (.pointer te)) (hte : P.info? te = some inf) (_hsz : inf.size ≠ 0) (a : Addr) : (Op.equal kt (.pointer (some a)) (.pointer (some a))).run P w = .ok true w := by
  have h : ∀ d, (Op.equalIn (d + 1) kt (.pointer (some a)) (.pointer (some a))).run P w = .ok true w := fun d => by
    simp [Op.equalIn, run_underlying hk, typeInfo, sizeOf, run_sameAddr_same, hte]
  exact h 9999
theorem run_equal_ptr_other (hk : P.underlying kt = some (.pointer te)) (hte : P.info? te = some inf) (hsz : inf.size ≠ 0) {a b : Addr} (hne : a ≠ b) (ha : AtCells w a) (hb : AtCells w b) : (Op.equal kt (.pointer (some a)) (.pointer (some b))).run P w = .ok false w := by
  obtain ⟨ca, ta, ha⟩ := ha
  obtain ⟨cb, tb, hb⟩ := hb
  have h : ∀ d, (Op.equalIn (d + 1) kt (.pointer (some a)) (.pointer (some b))).run P w = .ok false w := fun d => by
    simp [Op.equalIn, run_underlying hk, typeInfo, sizeOf, hte, hsz, run_sameAddr_other w hne ha hb]
  exact h 9999
theorem run_findAsking_ptr (hk : P.underlying kt = some (.pointer te)) (hte : P.info? te = some inf) (hsz : inf.size ≠ 0) (a : Addr) (ha : AtCells w a) : ∀ (es : List MapEntry) (L : List Addr) (i : Nat),
    es.map (fun e => (e.key, e.val)) = L.map (fun a => (Value.pointer (some a), z)) → (∀ x ∈ L, AtCells w x) →
    ∃ r, (Instr.findAsking kt (.pointer (some a)) es i).run P w = .ok r w ∧ ((a ∈ L ∧ ∃ j, r = some (j, z)) ∨ (a ∉ L ∧ r = none))
  | [], L, i, h, _ => by
    have hL : L = [] := by simpa using h.symm
    subst hL
    exact ⟨none, by simp [Instr.findAsking], .inr ⟨by simp, rfl⟩⟩
  | e :: es, [], i, h, _ => by simp at h
  | e :: es, x :: L, i, h, hL => by
    simp only [List.map_cons, List.cons.injEq, Prod.mk.injEq] at h
    obtain ⟨⟨h1, h2⟩, h3⟩ := h
    by_cases hx : a = x
    · subst hx
      refine ⟨some (i, z), ?_, .inl ⟨by simp, _, rfl⟩⟩
      simp [Instr.findAsking, h1, h2, run_equal_ptr_same hk hte hsz, Result.andThen]
    · obtain ⟨r, hr, hc⟩ := run_findAsking_ptr hk hte hsz a ha es L (i + 1) h3 (fun y hy => hL y (by simp [hy]))
      refine ⟨r, ?_, ?_⟩
      · simp [Instr.findAsking, h1, run_equal_ptr_other hk hte hsz hx ha (hL x (by simp)), Result.andThen, hr]
      · rcases hc with ⟨hc, hj⟩ | ⟨hc, hj⟩
        · exact .inl ⟨by simp [hc], hj⟩
        · exact .inr ⟨by simp [hc, hx], hj⟩
theorem run_findKey_ptr (hk : P.underlying kt = some (.pointer te)) (hte : P.info? te = some inf) (hsz : inf.size ≠ 0) (a : Addr) (ha : AtCells w a) (es : List MapEntry) (L : List Addr)
    (h : es.map (fun e => (e.key, e.val)) = L.map (fun a => (Value.pointer (some a), z))) (hL : ∀ x ∈ L, AtCells w x) :
    ∃ r, (Instr.findKey kt (.pointer (some a)) es).run P w = .ok r w ∧ ((a ∈ L ∧ ∃ j, r = some (j, z)) ∨ (a ∉ L ∧ r = none)) := by
  cases es with
  | nil =>
    have hL : L = [] := by simpa using h.symm
    subst hL
    exact ⟨none, by simp [Instr.findKey, run_underlying hk, Result.andThen, Instr.findNow], .inr ⟨by simp, rfl⟩⟩
  | cons e es =>
    obtain ⟨r, hr, hc⟩ := run_findAsking_ptr (z := z) hk hte hsz a ha (e :: es) L 0 h hL
    exact ⟨r, by simp [Instr.findKey, run_underlying hk, Result.andThen, Instr.findNow, Instr.sameNow, hr], hc⟩
theorem run_checkKey_ptr (hk : P.underlying kt = some (.pointer te)) (em : Bool) (n : Nat) (v : Value) : (Instr.checkKey em (n + 1) kt v).run P w = .ok () w := by
  unfold Instr.checkKey
  simp only [Sem.run_bind, run_underlying hk, Result.andThen]
  cases v <;> rfl

theorem PtrSet.lookup {b : Nat} {L : List Addr} (h : PtrSet w z b L) (hm : P.underlying mt = some (.map kt et)) (hk : P.underlying kt = some (.pointer te)) (hte : P.info? te = some inf) (hsz : inf.size ≠ 0)
    (hz : (zeroValue et).run P w = .ok z w) (a : Addr) (ha : AtCells w a) (hL : ∀ x ∈ L, AtCells w x) : (Instr.lookup mt (.map (some b)) (.pointer (some a)) true).run P w = .ok (.tuple #[z, .bool (decide (a ∈ L))]) w := by
  obtain ⟨es, clock, hb, he⟩ := h
  obtain ⟨r, hr, hc⟩ := run_findKey_ptr (z := z) hk hte hsz a ha es.toList L he hL
  rcases hc with ⟨hc, j, rfl⟩ | ⟨hc, rfl⟩
  · simp [Instr.lookup, run_underlying hm, MapKept.run_getObj_map hb, Result.andThen, run_checkKey_ptr hk _ 9999, hr, hc]
  · simp [Instr.lookup, run_underlying hm, MapKept.run_getObj_map hb, Result.andThen, run_checkKey_ptr hk _ 9999, hr, hc, hz]
theorem PtrSet.update {b : Nat} {L : List Addr} (h : PtrSet w z b L) (hm : P.underlying mt = some (.map kt et)) (hk : P.underlying kt = some (.pointer te)) (hte : P.info? te = some inf) (hsz : inf.size ≠ 0)
    (a : Addr) (ha : AtCells w a) (hL : ∀ x ∈ L, AtCells w x) (hn : a ∉ L) : ∃ w', (Instr.mapUpdate mt (.map (some b)) (.pointer (some a)) z).run P w = .ok () w' ∧ PtrSet w' z b (L ++ [a]) ∧ w.grownBy w' (some b) := by
  obtain ⟨es, clock, hb, he⟩ := h
  obtain ⟨r, hr, hc⟩ := run_findKey_ptr (z := z) hk hte hsz a ha es.toList L he hL
  rcases hc with ⟨hc, j, rfl⟩ | ⟨hc, rfl⟩
  · exact absurd hc hn
  · refine ⟨setBlock w b (.map (es.push ⟨.pointer (some a), z, clock⟩) (clock + 1)), ?_, ⟨_, _, heap_setBlock_same hb _, ?_⟩, ⟨rfl, rfl, rfl, by simp [setBlock], fun i _ hi => heap_setBlock_other hb _ (fun e => hi (by rw [e]))⟩⟩
    · simp [Instr.mapUpdate, run_underlying hm, MapKept.run_getObj_map hb, run_checkKey_ptr hk _ 9999, hr, MapKept.run_setObj_map _ hb, Result.andThen, setBlock]
    · simp [he]
end
theorem wpList_lookup_ptr {P : Program} (w : World) {ops : Array Oper} {rest : List Oper} {o : Oper} {a : Act} {Q : Exit → Act → World → Prop}
    (hg : o.guard = none) (m x : Operand) (t : TypeId) (hop : o.op = Op.lookup t m x true) {kt te et : TypeId} {inf : TypeInfo} {z : Value} {b : Nat} {L : List Addr}
    (hm : a.eval m = .map (some b)) (h : PtrSet w z b L) (hmt : P.underlying t = some (.map kt et)) (hk : P.underlying kt = some (.pointer te)) (hte : P.info? te = some inf) (hsz : inf.size ≠ 0)
    (hz : (zeroValue et).run P w = .ok z w) (d : Addr) (hx : a.eval x = .pointer (some d)) (hd : AtCells w d) (hL : ∀ x ∈ L, AtCells w x)
    (hK : wpList P ops Q rest (a.put o.dst (.tuple #[z, .bool (decide (d ∈ L))])) w) :
    wpList P ops Q (o :: rest) a w := by
  refine wpList_plain hg fun K' hK' => ?_
  have hrun := h.lookup hmt hk hte hsz hz d hd hL
  unfold Oper.wp
  simp [execOp, hop, hm, hx, hrun, Result.andThen]
  exact hK' _ _ hK
theorem wpList_update_ptr {P : Program} (w : World) {ops : Array Oper} {rest : List Oper} {o : Oper} {a : Act} {Q : Exit → Act → World → Prop}
    (hg : o.guard = none) (m x v : Operand) (t : TypeId) (hop : o.op = Op.mapUpdate t m x v) {kt te et : TypeId} {inf : TypeInfo} {z : Value} {b : Nat} {L : List Addr}
    (hm : a.eval m = .map (some b)) (h : PtrSet w z b L) (hmt : P.underlying t = some (.map kt et)) (hk : P.underlying kt = some (.pointer te)) (hte : P.info? te = some inf) (hsz : inf.size ≠ 0)
    (d : Addr) (hx : a.eval x = .pointer (some d)) (hv : a.eval v = z) (hd : AtCells w d) (hL : ∀ x ∈ L, AtCells w x) (hn : d ∉ L)
    (hK : ∀ w', PtrSet w' z b (L ++ [d]) → w.grownBy w' (some b) → wpList P ops Q rest (a.put o.dst undef) w') :
    wpList P ops Q (o :: rest) a w := by
  refine wpList_plain hg fun K' hK' => ?_
  obtain ⟨w', hrun, r1, r2⟩ := h.update hmt hk hte hsz d hd hL hn
  unfold Oper.wp
  simp [execOp, hop, hm, hx, hv, hrun, Result.andThen]
  exact hK' _ _ (hK w' r1 r2)
end Go.Proofs.YtpbhndmfmnfeoaaGreat

/- Types: what they are, and how they lie in memory. -/
namespace Go.Proofs.YtpbhndmfmnfeoaaGreat
open Go.RowKit

def ba (l : List UInt8) : ByteArray := ⟨l.toArray⟩
theorem ba_size (l : List UInt8) : (ba l).size = l.length := by simp [ba, ByteArray.size]
theorem ba_list (l : List UInt8) : (ba l).data.toList = l := by simp [ba]
theorem ba_eq (l m : List UInt8) : (ba l = ba m) = (l = m) := by
  apply propext
  constructor
  · intro h
    have := congrArg (fun b : ByteArray => b.data.toList) h
    simpa [ba] using this
  · intro h; rw [h]
theorem ba_of (s : ByteArray) : s = ba s.data.toList := by simp [ba]
theorem ret_bool {a b : Bool} (h : a = b) : Ending.returned (.bool a) = .returned (.bool b) := by rw [h]
theorem ret_int {k : IntKind} {a b : Int} (h : a = b) : Ending.returned (.int k a) = .returned (.int k b) := by rw [h]
/-- A block that is known whole, none of it frozen. -/
def Lies (w : World) (g : Nat) (t : TypeId) (cs : Array Value) : Prop := w.heap[g]? = some (.cells cs t (0, 0))
theorem Lies.lt {w : World} {g : Nat} {t : TypeId} {cs : Array Value} (h : Lies w g t cs) : g < w.heap.size := lt_of_block h
theorem Lies.cell {w : World} {g : Nat} {t : TypeId} {cs : Array Value} (h : Lies w g t cs) (i : Nat) : w.cell? ⟨g, i, none⟩ = cs[i]? := cell_of_row w g i cs t (0, 0) h
theorem Lies.free {w : World} {g : Nat} {t : TypeId} {cs : Array Value} (h : Lies w g t cs) (i : Nat) : w.frozen? ⟨g, i, none⟩ = false := by
  unfold Lies at h
  simp [World.frozen?, h]
theorem Lies.new (w : World) (t : TypeId) (cs : Array Value) : Lies (w.alloc (.cells cs t)) w.heap.size t cs := heap_alloc_new w _
theorem Lies.new' (w : World) (t : TypeId) (cs : Array Value) {N : Nat} (hN : w.heap.size = N) : Lies (w.alloc (.cells cs t)) N t cs := by subst hN; exact Lies.new w t cs
theorem Lies.alloc {w : World} {g : Nat} {t : TypeId} {cs : Array Value} (h : Lies w g t cs) (o : Obj) : Lies (w.alloc o) g t cs := (Below.heap_alloc w o g h.lt).trans h
theorem Lies.below {w w' : World} {g : Nat} {t : TypeId} {cs : Array Value} (h : Lies w g t cs) {B : Nat} (hb : Below B w w') (hg : g < B) : Lies w' g t cs := (hb.block g hg).trans h
theorem Lies.later {w w' : World} {g : Nat} {t : TypeId} {cs : Array Value} (h : Lies w g t cs) (hb : Below w.heap.size w w') : Lies w' g t cs := h.below hb h.lt
theorem Lies.grown {w w' : World} {g : Nat} {t : TypeId} {cs : Array Value} (h : Lies w g t cs) {row : Option Nat} (hb : w.grownBy w' row) (hg : some g ≠ row) : Lies w' g t cs := (hb.block g h.lt hg).trans h
theorem Lies.far {w : World} {g : Nat} {t : TypeId} {cs : Array Value} (h : Lies w g t cs) {p : Addr} (hp : g ≠ p.block) (u : Value) : Lies (w.setCell p u) g t cs := (Below.heap_setCell w p u g hp).trans h
theorem Lies.set {w : World} {g : Nat} {t : TypeId} {cs : Array Value} (h : Lies w g t cs) (i : Nat) (u : Value) : Lies (w.setCell ⟨g, i, none⟩ u) g t (cs.setIfInBounds i u) := by
  unfold Lies at h ⊢
  simp only [World.setCell, Array.getElem?_modify, if_true, h]
  rfl
theorem below_new (w : World) (o : Obj) : Below w.heap.size w (w.alloc o) := (Below.refl _ _).alloc (Nat.le_refl _) _
theorem new_cells (w : World) (t : TypeId) (l : List Value) {N : Nat} (hN : w.heap.size = N) : ∀ (j : Nat) u, l[j]? = some u → (w.alloc (.cells l.toArray t)).cell? ((⟨N, 0, none⟩ : Addr).add j) = some u := by
  intro j u hj
  have h := (Lies.new' w t l.toArray hN).cell j
  rw [show (⟨N, 0, none⟩ : Addr).add j = ⟨N, j, none⟩ by unfold Addr.add; split <;> simp_all, h]
  simpa using hj
theorem own_mono {w : World} {B B' : Nat} {e : TypeId} {size n : Nat} {v : Value} {xs : List Value} (h : w.ownsRow B e size v n xs) (hB : B' ≤ B) : w.ownsRow B' e size v n xs := by
  refine ⟨h.1, ?_⟩
  rcases h.2 with h0 | ⟨g, cap, cur, h1, h2, h3⟩
  · exact .inl h0
  · exact .inr ⟨g, cap, cur, h1, by omega, h3⟩
theorem own_same {w w' : World} {B : Nat} {e : TypeId} {size n : Nat} {v : Value} {xs : List Value} (h : w.ownsRow B e size v n xs) (hs : ∀ g, B ≤ g → g < w.heap.size → w'.heap[g]? = w.heap[g]?) : w'.ownsRow B e size v n xs := by
  refine ⟨h.1, ?_⟩
  rcases h.2 with h0 | ⟨g, cap, cur, h1, h2, h3, h4⟩
  · exact .inl h0
  · exact .inr ⟨g, cap, cur, h1, h2, (hs g h2 (lt_of_block h3)).trans h3, h4⟩
theorem own_later {w w' : World} {B : Nat} {e : TypeId} {size n : Nat} {v : Value} {xs : List Value} (h : w.ownsRow B e size v n xs) (hb : Below w.heap.size w w') : w'.ownsRow B e size v n xs := own_same h fun g _ hg => hb.block g hg
theorem own_block {w : World} {lo n : Nat} {e : TypeId} {sz : Nat} {v : Value} {xs : List Value} (h : w.ownsRow lo e sz v n xs) : ∀ k, v.ownBlock = some k → lo ≤ k ∧ k < w.heap.size := by
  intro k hk
  rcases h.2 with ⟨rfl, _⟩ | ⟨g, cap, cur, rfl, hg, hh, _⟩
  · simp [Value.ownBlock] at hk
  · have : g = k := by simpa [Value.ownBlock] using hk
    subst this
    exact ⟨hg, lt_of_block hh⟩
theorem own_slice {w : World} {lo n : Nat} {e : TypeId} {sz : Nat} {v : Value} {xs : List Value} (h : w.ownsRow lo e sz v n xs) : ∃ A k c, v = .slice A k c := by
  rcases h.2 with ⟨h, _⟩ | ⟨g, cap, cur, h, _⟩ <;> exact ⟨_, _, _, h⟩
theorem own_cells {w : World} {B : Nat} {e : TypeId} {size n : Nat} {v : Value} {xs : List Value} (h : w.ownsRow B e size v n xs) :
    (v = .slice none 0 0 ∧ n = 0) ∨ ∃ g cap, v = .slice (some ⟨g, 0, none⟩) n cap ∧ n ≤ cap ∧ cap ≤ maxLen ∧ (∃ c t, w.heap[g]? = some (.cells c t (0, 0))) ∧ ∀ j u, xs[j]? = some u → w.cell? ⟨g, j, none⟩ = some u := by
  rcases h.2 with h0 | ⟨g, cap, cur, h1, h2, h3, h4, h5, h6, h7⟩
  · exact .inl h0
  · refine .inr ⟨g, cap, h1, h4, h5, ⟨_, _, h3⟩, fun j u hj => ?_⟩
    have hl : Lies w g e cur := h3
    rw [hl.cell]
    rw [← h7] at hj
    obtain ⟨hlt, he⟩ := List.getElem?_eq_some_iff.1 hj
    rw [List.getElem_take] at he
    rw [List.length_take] at hlt
    have hl2 : j < cur.toList.length := by omega
    rw [← Array.getElem?_toList, List.getElem?_eq_getElem hl2]
    exact congrArg some he
theorem AtCells.lt {w : World} {a : Addr} (h : AtCells w a) : a.block < w.heap.size := by
  obtain ⟨c, t, h⟩ := h
  exact (Array.getElem?_eq_some_iff.1 h).1
theorem take_step {α : Type} (l : List α) (k : Nat) (x : α) (h : l[k]? = some x) : l.take (k + 1) = l.take k ++ [x] := by
  rw [List.take_add_one, h]
  rfl

abbrev Str := List UInt8
/-- A type: its kind, its name, its variable, what stands right below it, its row's labels, its row's variable. -/
inductive Ty where
  | mk (k : Int) (nm : Str) (v : Int) (kids : List Ty) (ls : List Str) (rv : Int)
namespace Ty
def kind : Ty → Int | .mk k _ _ _ _ _ => k
def kids : Ty → List Ty | .mk _ _ _ l _ _ => l
mutual
def deep : Ty → Nat
  | .mk _ _ _ l _ _ => 1 + deepL l
def deepL : List Ty → Nat
  | [] => 0
  | t :: r => max t.deep (deepL r)
end
mutual
def size : Ty → Nat
  | .mk _ _ _ l _ _ => 1 + sizeL l
def sizeL : List Ty → Nat
  | [] => 0
  | t :: r => t.size + sizeL r
end
end Ty

/-- A list of strings as it lies. -/
def Strs (w : World) (v : Value) (ls : List Str) : Prop :=
  ∃ A c, v = .slice A ls.length c ∧ ls.length ≤ c ∧ c ≤ maxLen ∧ (0 < ls.length → ∃ g o, A = some ⟨g, o, none⟩ ∧ ∀ (i : Nat) s, ls[i]? = some s → w.cell? ⟨g, o + i, none⟩ = some (.string (ba s)))
theorem Strs.nil (w : World) : Strs w (.slice none 0 0) [] := ⟨none, 0, rfl, Nat.le_refl _, by unfold maxLen; omega, fun h => absurd h (by simp)⟩
theorem Strs.keep {w w' : World} {v : Value} {ls : List Str} (h : Strs w v ls) (hk : ∀ g, g < w.heap.size → w'.heap[g]? = w.heap[g]?) : Strs w' v ls := by
  obtain ⟨A, c, h1, h2, h3, h4⟩ := h
  refine ⟨A, c, h1, h2, h3, fun h0 => ?_⟩
  obtain ⟨g, o, h5, h6⟩ := h4 h0
  exact ⟨g, o, h5, fun i s hs => (World.cell?_of_block (w := w) (a := ⟨g, o + i, none⟩) (hk g (World.block_lt_of_cell? w _ (h6 i s hs)))).trans (h6 i s hs)⟩
theorem Strs.later {w w' : World} {v : Value} {ls : List Str} (h : Strs w v ls) (hb : Below w.heap.size w w') : Strs w' v ls := h.keep hb.block
theorem Strs.slice {w : World} {v : Value} {ls : List Str} (h : Strs w v ls) : ∃ A c, v = .slice A ls.length c ∧ ls.length ≤ c ∧ c ≤ maxLen := by
  obtain ⟨A, c, h1, h2, h3, _⟩ := h
  exact ⟨A, c, h1, h2, h3⟩

/-- Where the i-th type of a list stands. -/
def kidAt (v : Value) (i : Nat) : Addr := match v with | .slice (some a) _ _ => ⟨a.block, a.off + i * 6, none⟩ | _ => ⟨0, 0, none⟩
/-- A list's value, as types have it. -/
def SlOk (w : World) (v : Value) (n : Nat) : Prop := ∃ A c, v = .slice A n c ∧ n ≤ c ∧ c ≤ maxLen ∧ (0 < n → ∃ g o, A = some ⟨g, o, none⟩ ∧ AtCells w ⟨g, o, none⟩)
/-- The cells of a type. -/
def tyC (k : Int) (nm : Str) (v : Int) (kv lv : Value) (rv : Int) : List Value := [.int .i64 k, .string (ba nm), .int .i64 v, kv, lv, .int .i64 rv]
/-- The cells of a list lie from an address on. -/
def ReadsAt (w : World) (a : Addr) (l : List Value) : Prop := ∀ i u, l[i]? = some u → w.cell? ⟨a.block, a.off + i, none⟩ = some u
/-- A type lies at an address. -/
inductive TA (w : World) : Addr → Ty → Prop
  | mk (a : Addr) (k : Int) (nm : Str) (v : Int) (kids : List Ty) (ls : List Str) (rv : Int) (kv lv : Value) (h0 : a.spot = none) (hat : AtCells w a) (hr : ReadsAt w a (tyC k nm v kv lv rv))
      (hk : SlOk w kv kids.length) (hl : Strs w lv ls) (hks : ∀ (i : Nat) t, kids[i]? = some t → TA w (kidAt kv i) t) : TA w a (.mk k nm v kids ls rv)
/-- A type is these cells. -/
def TV (w : World) (t : Ty) (l : List Value) : Prop :=
  match t with
  | .mk k nm v kids ls rv => ∃ kv lv, l = tyC k nm v kv lv rv ∧ SlOk w kv kids.length ∧ Strs w lv ls ∧ ∀ (i : Nat) t, kids[i]? = some t → TA w (kidAt kv i) t

theorem SlOk.keep {w w' : World} {v : Value} {n : Nat} (h : SlOk w v n) (hk : ∀ g, g < w.heap.size → w'.heap[g]? = w.heap[g]?) : SlOk w' v n := by
  obtain ⟨A, c, h1, h2, h3, h4⟩ := h
  refine ⟨A, c, h1, h2, h3, fun h0 => ?_⟩
  obtain ⟨g, o, h5, h6⟩ := h4 h0
  exact ⟨g, o, h5, h6.keep (hk _ h6.lt)⟩
theorem ReadsAt.keep {w w' : World} {a : Addr} {l : List Value} (h : ReadsAt w a l) (hk : w'.heap[a.block]? = w.heap[a.block]?) : ReadsAt w' a l := fun i u hu => (World.cell?_of_block (w := w) (a := ⟨a.block, a.off + i, none⟩) hk).trans (h i u hu)
theorem TA.at_ {w : World} {a : Addr} {t : Ty} (h : TA w a t) : AtCells w a := by cases h; assumption
theorem TA.spot {w : World} {a : Addr} {t : Ty} (h : TA w a t) : a.spot = none := by cases h; assumption
theorem TA.keep {w w' : World} (hk : ∀ g, g < w.heap.size → w'.heap[g]? = w.heap[g]?) {a : Addr} {t : Ty} (h : TA w a t) : TA w' a t := by
  induction h with
  | mk a k nm v kids ls rv kv lv h0 hat hr hsl hl _ ih =>
    exact .mk a k nm v kids ls rv kv lv h0 (hat.keep (hk _ hat.lt)) (hr.keep (hk _ hat.lt)) (hsl.keep hk) (hl.keep hk) ih
theorem TA.later {w w' : World} {a : Addr} {t : Ty} (h : TA w a t) (hb : Below w.heap.size w w') : TA w' a t := h.keep hb.block
theorem TV.keep {w w' : World} (hk : ∀ g, g < w.heap.size → w'.heap[g]? = w.heap[g]?) {t : Ty} {l : List Value} (h : TV w t l) : TV w' t l := by
  obtain ⟨k, nm, v, kids, ls, rv⟩ := t
  obtain ⟨kv, lv, h1, h2, h3, h4⟩ := h
  exact ⟨kv, lv, h1, h2.keep hk, h3.keep hk, fun i t ht => (h4 i t ht).keep hk⟩
theorem TV.later {w w' : World} {t : Ty} {l : List Value} (h : TV w t l) (hb : Below w.heap.size w w') : TV w' t l := h.keep hb.block
theorem TV.len {w : World} {t : Ty} {l : List Value} (h : TV w t l) : l.length = 6 := by
  obtain ⟨k, nm, v, kids, ls, rv⟩ := t
  obtain ⟨kv, lv, rfl, _⟩ := h
  rfl
/-- Cells laid in a new block are a type there. -/
theorem TV.at_ {w : World} {t : Ty} {l : List Value} (h : TV w t l) {a : Addr} (h0 : a.spot = none) (hat : AtCells w a) (hr : ReadsAt w a l) : TA w a t := by
  obtain ⟨k, nm, v, kids, ls, rv⟩ := t
  obtain ⟨kv, lv, rfl, h1, h2, h3⟩ := h
  exact .mk a k nm v kids ls rv kv lv h0 hat hr h1 h2 h3
theorem TV.new {w : World} {t : Ty} {l : List Value} (h : TV w t l) (e : TypeId) {N : Nat} (hN : w.heap.size = N) : TA (w.alloc (.cells l.toArray e)) ⟨N, 0, none⟩ t := by
  subst hN
  refine (h.later (below_new w _)).at_ rfl ⟨_, _, Lies.new w e l.toArray⟩ (fun i u hu => ?_)
  rw [show (⟨w.heap.size, 0 + i, none⟩ : Addr) = ⟨w.heap.size, i, none⟩ by rw [Nat.zero_add], (Lies.new w e l.toArray).cell]
  simpa using hu
/-- What is at an address is one type. -/
theorem TA.open {w : World} {a : Addr} {k : Int} {nm : Str} {v : Int} {kids : List Ty} {ls : List Str} {rv : Int} (h : TA w a (.mk k nm v kids ls rv)) : ∃ kv lv, a.spot = none ∧ AtCells w a ∧ ReadsAt w a (tyC k nm v kv lv rv) ∧ SlOk w kv kids.length ∧ Strs w lv ls ∧ ∀ (i : Nat) t, kids[i]? = some t → TA w (kidAt kv i) t := by
  cases h with
  | mk _ _ _ _ _ _ _ kv lv h0 hat hr hk hl hks => exact ⟨kv, lv, h0, hat, hr, hk, hl, hks⟩
theorem TA.tv {w : World} {_a : Addr} {k : Int} {nm : Str} {v : Int} {kids : List Ty} {ls : List Str} {rv : Int} {kv lv : Value} (hk : SlOk w kv kids.length) (hl : Strs w lv ls) (hks : ∀ (i : Nat) t, kids[i]? = some t → TA w (kidAt kv i) t) : TV w (.mk k nm v kids ls rv) (tyC k nm v kv lv rv) := ⟨kv, lv, rfl, hk, hl, hks⟩
/-- The six cells of a type. -/
theorem reads6 {w : World} {b o : Nat} {k : Int} {nm : Str} {v : Int} {kv lv : Value} {rv : Int} (h : ReadsAt w ⟨b, o, none⟩ (tyC k nm v kv lv rv)) :
    w.cell? ⟨b, o, none⟩ = some (.int .i64 k) ∧ w.cell? ⟨b, o + 1, none⟩ = some (.string (ba nm)) ∧ w.cell? ⟨b, o + 2, none⟩ = some (.int .i64 v) ∧ w.cell? ⟨b, o + 3, none⟩ = some kv ∧ w.cell? ⟨b, o + 4, none⟩ = some lv ∧ w.cell? ⟨b, o + 5, none⟩ = some (.int .i64 rv) :=
  ⟨h 0 _ rfl, h 1 _ rfl, h 2 _ rfl, h 3 _ rfl, h 4 _ rfl, h 5 _ rfl⟩
end Go.Proofs.YtpbhndmfmnfeoaaGreat

/- Maps whose keys are ints, whose elements are structs: what they say of a number. -/
namespace Go.Proofs.YtpbhndmfmnfeoaaGreat
open Go Go.RowKit Go.MapKept Go.ChangeMaps

/-- The cells of a struct of k cells. -/
def Fit1 (k : Nat) (cs : Array Value) : Prop := cs.size = k ∧ cs.all (·.oneCell') = true
instance (k : Nat) (cs : Array Value) : Decidable (Fit1 k cs) := by unfold Fit1; infer_instance
/-- An element, a struct of k cells, is held as it is. -/
def RV (k : Nat) (v : Value) : Option (DataW Value × List MemPlace) :=
  match v with
  | .agg cs => if Fit1 k cs then some (.held (.agg cs), []) else none
  | _ => none
theorem RV_some {k : Nat} {cs : Array Value} (h : Fit1 k cs) : RV k (.agg cs) = some (.held (.agg cs), []) := if_pos h
theorem RV_inv {k : Nat} {v : Value} {y : DataW Value × List MemPlace} (h : RV k v = some y) : ∃ cs, v = .agg cs ∧ Fit1 k cs ∧ y = (.held (.agg cs), []) := by
  unfold RV at h
  split at h
  · split at h
    · injection h with h
      exact ⟨_, rfl, by assumption, h.symm⟩
    · cases h
  · cases h
def kI (n : Int) : Lit := .int .i64 n
def i64ok (n : Int) : Prop := (Lit.int .i64 n).wf = true
def hv : Option (Array Value) → DataW Value
  | none => .nil
  | some v => .held (.agg v)
theorem hv_inj {a b : Option (Array Value)} (h : hv a = hv b) : a = b := by
  cases a <;> cases b <;> simp_all [hv]
/-- What a map says of numbers. -/
abbrev GMap := Int → Option (Array Value)
def noG : GMap := fun _ => none
def setG (g : GMap) (n : Int) (v : Array Value) : GMap := fun k => if k = n then some v else g k
/-- What is said by s, and else by d. -/
def overG (d s : GMap) : GMap := fun k => match s k with | some v => some v | none => d k
/-- What a datum says. -/
def SaysG (k : Nat) (D : DataW Value) (g : GMap) : Prop := ∀ n, i64ok n → (D.atKey (kI n) .nil = hv (g n) ∧ Maps.has D (kI n) = (g n).isSome) ∧ ∀ cs, g n = some cs → Fit1 k cs
/-- The map in block b says g of the numbers; it has at most m of them. -/
def MapI (w : World) (k b m : Nat) (g : GMap) : Prop := ∃ D, w.ownsMap Tryz.prog 3 (RV k) b m D ∧ SaysG k D g
theorem keyedI : Maps.Keyed Tryz.prog 3 := Maps.int_keyed Tryz.underlying3
theorem keyI {n : Int} (h : i64ok n) : keyOf Tryz.prog 3 (.int .i64 n) = some (kI n) := Maps.keyOf_int_mk Tryz.underlying3 h
theorem litI (n : Int) : WideAt.IsKeyLit (kI n) := trivial
theorem kI_inj {a b : Int} (h : kI a = kI b) : a = b := by unfold kI at h; injection h
theorem i64ok_of {n : Int} (h1 : -9223372036854775808 ≤ n) (h2 : n ≤ 9223372036854775807) : i64ok n := WalkArith.wf_i64 ⟨h1, h2⟩
theorem SaysG.none (k : Nat) : SaysG k (.map []) noG := fun n _ => ⟨⟨rfl, rfl⟩, fun cs h => by cases h⟩
theorem MapI.made (w : World) (k : Nat) : MapI (w.alloc (.map #[] 0)) k w.heap.size 0 noG := ⟨_, World.ownsMap_made w Tryz.prog 3 (RV k), .none k⟩
theorem MapI.mono {w : World} {k b m m' : Nat} {g : GMap} (h : MapI w k b m g) (hm : m ≤ m') : MapI w k b m' g := by
  obtain ⟨D, h1, h2⟩ := h
  exact ⟨D, h1.mono hm, h2⟩
theorem MapI.lt {w : World} {k b m : Nat} {g : GMap} (h : MapI w k b m g) : b < w.heap.size := by
  obtain ⟨D, h1, _⟩ := h
  exact h1.lt
theorem MapI.keep {w w' : World} {k b m : Nat} {g : GMap} (h : MapI w k b m g) (hk : w'.heap[b]? = w.heap[b]?) : MapI w' k b m g := by
  obtain ⟨D, ⟨es, clock, hb, h1⟩, h2⟩ := h
  exact ⟨D, ⟨es, clock, hk.trans hb, h1⟩, h2⟩
theorem MapI.later {w w' : World} {k b m : Nat} {g : GMap} (h : MapI w k b m g) (hb : Below w.heap.size w w') : MapI w' k b m g := h.keep (hb.block b h.lt)
theorem MapI.fit {w : World} {k b m : Nat} {g : GMap} (h : MapI w k b m g) {n : Int} (hn : i64ok n) {cs : Array Value} (hg : g n = some cs) : Fit1 k cs := by
  obtain ⟨D, _, h2⟩ := h
  exact (h2 n hn).2 cs hg
theorem MapI.isMap {w : World} {k b m : Nat} {g : GMap} (h : MapI w k b m g) : ∃ es c, w.heap[b]? = some (.map es c) ∧ es.size ≤ m := by
  obtain ⟨D, ⟨es, clock, hb, _, h1, _⟩, h2⟩ := h
  exact ⟨_, _, hb, h1⟩
/-- What 'm[n]' is. -/
def lookV (z : Value) : Option (Array Value) → Value
  | none => z
  | some cs => .agg cs
set_option maxRecDepth 100000 in
/-- 'v, ok := m[n]'. -/
theorem MapI.look {w : World} {k b m : Nat} {g : GMap} (h : MapI w k b m g) {t e : TypeId} {z : Value} (ht : Tryz.prog.underlying t = some (.map 3 e)) (hz : (zeroValue e).run Tryz.prog w = .ok z w) {n : Int} (hn : i64ok n) :
    (Instr.lookup t (.map (some b)) (.int .i64 n) true).run Tryz.prog w = .ok (.tuple #[lookV z (g n), .bool (g n).isSome]) w := by
  obtain ⟨D, ⟨es, clock, hb, F, _, rfl⟩, h2⟩ := h
  have hg := (h2 n hn).1.1
  rcases Maps.fit_look true keyedI ht hz hb F (keyI hn) with ⟨hrun, _, hat⟩ | ⟨e0, y, _, _, hrun, hRv, hat, _⟩
  · rw [hat] at hg
    have h0 : g n = none := (hv_inj (a := none) hg).symm
    rw [hrun, h0]
    simp [lookV]
  · rw [hat] at hg
    obtain ⟨cs, h1, _, rfl⟩ := RV_inv hRv
    have h0 : g n = some cs := (hv_inj (a := some cs) hg).symm
    rw [hrun, h0, h1]
    simp [lookV]
set_option maxRecDepth 100000 in
/-- 'm[n] = v'. -/
theorem MapI.put {w : World} {k b m : Nat} {g : GMap} (h : MapI w k b m g) {t e : TypeId} (ht : Tryz.prog.underlying t = some (.map 3 e)) (hm : m < maxLen) {n : Int} (hn : i64ok n) {v : Array Value} (hf : Fit1 k v) :
    ∃ w', (Instr.mapUpdate t (.map (some b)) (.int .i64 n) (.agg v)).run Tryz.prog w = .ok () w' ∧ MapI w' k b (m + 1) (setG g n v) ∧ w.grownBy w' (some b) ∧ w'.heap.size = w.heap.size := by
  obtain ⟨D, ⟨es, clock, hb, F, hs, rfl⟩, h2⟩ := h
  have hM : Maps.IsMap (DataW.map ((es.toList.map (WideElems.rg Tryz.prog 3 (RV k))).foldr DataW.insert [])) := ⟨_, rfl⟩
  obtain ⟨es', clock', hrun, F', hput, _⟩ := Maps.fit_store (R' := RV k) keyedI ht hb F (Nat.lt_of_le_of_lt hs hm) (fun _ _ _ _ hz => hz) (keyI hn) (RV_some hf)
  obtain ⟨w', hrun', hown, hgr⟩ := World.ownsMap.update (w := w) (n := m) ⟨es, clock, hb, F, hs, rfl⟩ keyedI ht hm (keyI hn) (RV_some hf)
  refine ⟨w', hrun', ⟨_, hown, fun j hj => ?_⟩, hgr, ?_⟩
  · unfold setG
    by_cases hkn : j = n
    · subst hkn
      rw [Maps.atKey_put_same hM (litI j), Maps.has_put_same hM (litI j), if_pos rfl]
      exact ⟨⟨rfl, rfl⟩, fun cs hcs => by injection hcs with hcs; rw [← hcs]; exact hf⟩
    · have hne : kI j ≠ kI n := fun h => hkn (kI_inj h)
      rw [Maps.atKey_put_other hne, Maps.has_put_other hne, if_neg hkn]
      exact h2 j hj
  · rw [hrun] at hrun'
    injection hrun' with _ hw
    rw [← hw]
    simp [setBlock]
theorem wpList_look {w : World} {ops : Array Oper} {rest : List Oper} {o : Oper} {a : Act} {Q : Exit → Act → World → Prop}
    (hg : o.guard = none) (m x : Operand) (t : TypeId) (hop : o.op = Op.lookup t m x true) {e : TypeId} {s b k : Nat} {g : GMap} {z : Value} (h : MapI w s b k g) (ht : Tryz.prog.underlying t = some (.map 3 e)) (hz : (zeroValue e).run Tryz.prog w = .ok z w)
    (hm : a.eval m = .map (some b)) {n : Int} (hn : i64ok n) (hx : a.eval x = .int .i64 n)
    (hK : wpList Tryz.prog ops Q rest (a.put o.dst (.tuple #[lookV z (g n), .bool (g n).isSome])) w) : wpList Tryz.prog ops Q (o :: rest) a w := by
  refine wpList_plain hg fun K' hK' => ?_
  have hrun := h.look ht hz hn
  unfold Oper.wp
  simp [execOp, hop, hm, hx, hrun, Result.andThen]
  exact hK' _ _ hK
theorem wpList_mput {w : World} {ops : Array Oper} {rest : List Oper} {o : Oper} {a : Act} {Q : Exit → Act → World → Prop}
    (hg : o.guard = none) (m x v : Operand) (t : TypeId) (hop : o.op = Op.mapUpdate t m x v ∨ o.op = Op.insert t m x v) {e : TypeId} {s b k : Nat} {g : GMap} (h : MapI w s b k g) (ht : Tryz.prog.underlying t = some (.map 3 e)) (hk : k < maxLen)
    (hm : a.eval m = .map (some b)) {n : Int} (hn : i64ok n) (hx : a.eval x = .int .i64 n) (u : Array Value) (hv : a.eval v = .agg u) (hf : Fit1 s u)
    (hK : ∀ w', MapI w' s b (k + 1) (setG g n u) → w.grownBy w' (some b) → w'.heap.size = w.heap.size → wpList Tryz.prog ops Q rest (a.put o.dst undef) w') : wpList Tryz.prog ops Q (o :: rest) a w := by
  refine wpList_plain hg fun K' hK' => ?_
  obtain ⟨w', hrun, r1, r2, r3⟩ := h.put ht hk hn hf
  unfold Oper.wp
  rcases hop with hop | hop
  · simp [execOp, hop, hm, hx, hv, hrun, Result.andThen]
    exact hK' _ _ (hK w' r1 r2 r3)
  · simp [execOp, hop, hm, hx, hv, hrun, Result.andThen]
    exact hK' _ _ (hK w' r1 r2 r3)
theorem overG_none (g : GMap) : overG noG g = g := by
  funext k
  unfold overG noG
  cases g k <;> rfl
/-- What was copied says what both said, the source first. -/
theorem merged_says {k : Nat} {Dd Ds Dout : DataW Value} {left : Lit → Bool} {gd gs : GMap} (hM : Maps.Merged Dout Dd Ds left) (hl : ∀ k, left k = false) (hd : SaysG k Dd gd) (hs : SaysG k Ds gs) : SaysG k Dout (overG gd gs) := by
  intro n hn
  have h1 := hd n hn
  have h2 := hs n hn
  rw [hM.1, hM.2, hl, h2.1.2, h1.1.2, h1.1.1, h2.1.1]
  unfold overG
  cases h3 : gs n with
  | none => simpa using h1.2
  | some v => simpa using h2.2 v h3
end Go.Proofs.YtpbhndmfmnfeoaaGreat
