/- Types: what they are, and how they lie in memory. -/
import Derived.Test.YtkdjmobplknmgaaDoorProg
import Derived.Test.YtkdjmobplknmgaaDoorPtrMap
import Derived.WalkKit
import Derived.WalkSpells
import Derived.WalkLawsBesides
import Derived.Lib.Hide
import Derived.Lib.Strings
import Derived.Laws.EntriesVeiled
import Derived.Maps.AppendAt
namespace Go.Proofs.YtkdjmobplknmgaaDoor
open Go.RowKit

def ba (l : List UInt8) : ByteArray := ⟨l.toArray⟩
theorem ba_size (l : List UInt8) : (ba l).size = l.length := by simp [ba, ByteArray.size]
theorem ba_list (l : List UInt8) : (ba l).data.toList = l := by simp [ba]
theorem ba_eq (l m : List UInt8) : (ba l = ba m) = (l = m) := by
  apply propext
  constructor
  · intro h
    have := congrArg (fun b : ByteArray => b.data.toList) h
    simpa [ba] using this
  · intro h; rw [h]
theorem ba_of (s : ByteArray) : s = ba s.data.toList := by simp [ba]
theorem ret_bool {a b : Bool} (h : a = b) : Ending.returned (.bool a) = .returned (.bool b) := by rw [h]
theorem ret_int {k : IntKind} {a b : Int} (h : a = b) : Ending.returned (.int k a) = .returned (.int k b) := by rw [h]
/-- A block that is known whole, none of it frozen. -/
def Lies (w : World) (g : Nat) (t : TypeId) (cs : Array Value) : Prop := w.heap[g]? = some (.cells cs t (0, 0))
theorem Lies.lt {w : World} {g : Nat} {t : TypeId} {cs : Array Value} (h : Lies w g t cs) : g < w.heap.size := lt_of_block h
theorem Lies.cell {w : World} {g : Nat} {t : TypeId} {cs : Array Value} (h : Lies w g t cs) (i : Nat) : w.cell? ⟨g, i, none⟩ = cs[i]? := cell_of_row w g i cs t (0, 0) h
theorem Lies.free {w : World} {g : Nat} {t : TypeId} {cs : Array Value} (h : Lies w g t cs) (i : Nat) : w.frozen? ⟨g, i, none⟩ = false := by
  unfold Lies at h
  simp [World.frozen?, h]
theorem Lies.new (w : World) (t : TypeId) (cs : Array Value) : Lies (w.alloc (.cells cs t)) w.heap.size t cs := heap_alloc_new w _
theorem Lies.new' (w : World) (t : TypeId) (cs : Array Value) {N : Nat} (hN : w.heap.size = N) : Lies (w.alloc (.cells cs t)) N t cs := by subst hN; exact Lies.new w t cs
theorem Lies.alloc {w : World} {g : Nat} {t : TypeId} {cs : Array Value} (h : Lies w g t cs) (o : Obj) : Lies (w.alloc o) g t cs := (Below.heap_alloc w o g h.lt).trans h
theorem Lies.below {w w' : World} {g : Nat} {t : TypeId} {cs : Array Value} (h : Lies w g t cs) {B : Nat} (hb : Below B w w') (hg : g < B) : Lies w' g t cs := (hb.block g hg).trans h
theorem Lies.later {w w' : World} {g : Nat} {t : TypeId} {cs : Array Value} (h : Lies w g t cs) (hb : Below w.heap.size w w') : Lies w' g t cs := h.below hb h.lt
theorem Lies.grown {w w' : World} {g : Nat} {t : TypeId} {cs : Array Value} (h : Lies w g t cs) {row : Option Nat} (hb : w.grownBy w' row) (hg : some g ≠ row) : Lies w' g t cs := (hb.block g h.lt hg).trans h
theorem Lies.far {w : World} {g : Nat} {t : TypeId} {cs : Array Value} (h : Lies w g t cs) {p : Addr} (hp : g ≠ p.block) (u : Value) : Lies (w.setCell p u) g t cs := (Below.heap_setCell w p u g hp).trans h
theorem Lies.set {w : World} {g : Nat} {t : TypeId} {cs : Array Value} (h : Lies w g t cs) (i : Nat) (u : Value) : Lies (w.setCell ⟨g, i, none⟩ u) g t (cs.setIfInBounds i u) := by
  unfold Lies at h ⊢
  simp only [World.setCell, Array.getElem?_modify, if_true, h]
  rfl
theorem below_new (w : World) (o : Obj) : Below w.heap.size w (w.alloc o) := (Below.refl _ _).alloc (Nat.le_refl _) _
theorem new_cells (w : World) (t : TypeId) (l : List Value) {N : Nat} (hN : w.heap.size = N) : ∀ (j : Nat) u, l[j]? = some u → (w.alloc (.cells l.toArray t)).cell? ((⟨N, 0, none⟩ : Addr).add j) = some u := by
  intro j u hj
  have h := (Lies.new' w t l.toArray hN).cell j
  rw [show (⟨N, 0, none⟩ : Addr).add j = ⟨N, j, none⟩ by unfold Addr.add; split <;> simp_all, h]
  simpa using hj
theorem own_mono {w : World} {B B' : Nat} {e : TypeId} {size n : Nat} {v : Value} {xs : List Value} (h : w.ownsRow B e size v n xs) (hB : B' ≤ B) : w.ownsRow B' e size v n xs := by
  refine ⟨h.1, ?_⟩
  rcases h.2 with h0 | ⟨g, cap, cur, h1, h2, h3⟩
  · exact .inl h0
  · exact .inr ⟨g, cap, cur, h1, by omega, h3⟩
theorem own_same {w w' : World} {B : Nat} {e : TypeId} {size n : Nat} {v : Value} {xs : List Value} (h : w.ownsRow B e size v n xs) (hs : ∀ g, B ≤ g → g < w.heap.size → w'.heap[g]? = w.heap[g]?) : w'.ownsRow B e size v n xs := by
  refine ⟨h.1, ?_⟩
  rcases h.2 with h0 | ⟨g, cap, cur, h1, h2, h3, h4⟩
  · exact .inl h0
  · exact .inr ⟨g, cap, cur, h1, h2, (hs g h2 (lt_of_block h3)).trans h3, h4⟩
theorem own_later {w w' : World} {B : Nat} {e : TypeId} {size n : Nat} {v : Value} {xs : List Value} (h : w.ownsRow B e size v n xs) (hb : Below w.heap.size w w') : w'.ownsRow B e size v n xs := own_same h fun g _ hg => hb.block g hg
theorem own_block {w : World} {lo n : Nat} {e : TypeId} {sz : Nat} {v : Value} {xs : List Value} (h : w.ownsRow lo e sz v n xs) : ∀ k, v.ownBlock = some k → lo ≤ k ∧ k < w.heap.size := by
  intro k hk
  rcases h.2 with ⟨rfl, _⟩ | ⟨g, cap, cur, rfl, hg, hh, _⟩
  · simp [Value.ownBlock] at hk
  · have : g = k := by simpa [Value.ownBlock] using hk
    subst this
    exact ⟨hg, lt_of_block hh⟩
theorem own_slice {w : World} {lo n : Nat} {e : TypeId} {sz : Nat} {v : Value} {xs : List Value} (h : w.ownsRow lo e sz v n xs) : ∃ A k c, v = .slice A k c := by
  rcases h.2 with ⟨h, _⟩ | ⟨g, cap, cur, h, _⟩ <;> exact ⟨_, _, _, h⟩
theorem own_cells {w : World} {B : Nat} {e : TypeId} {size n : Nat} {v : Value} {xs : List Value} (h : w.ownsRow B e size v n xs) :
    (v = .slice none 0 0 ∧ n = 0) ∨ ∃ g cap, v = .slice (some ⟨g, 0, none⟩) n cap ∧ n ≤ cap ∧ cap ≤ maxLen ∧ (∃ c t, w.heap[g]? = some (.cells c t (0, 0))) ∧ ∀ j u, xs[j]? = some u → w.cell? ⟨g, j, none⟩ = some u := by
  rcases h.2 with h0 | ⟨g, cap, cur, h1, h2, h3, h4, h5, h6, h7⟩
  · exact .inl h0
  · refine .inr ⟨g, cap, h1, h4, h5, ⟨_, _, h3⟩, fun j u hj => ?_⟩
    have hl : Lies w g e cur := h3
    rw [hl.cell]
    rw [← h7] at hj
    obtain ⟨hlt, he⟩ := List.getElem?_eq_some_iff.1 hj
    rw [List.getElem_take] at he
    rw [List.length_take] at hlt
    have hl2 : j < cur.toList.length := by omega
    rw [← Array.getElem?_toList, List.getElem?_eq_getElem hl2]
    exact congrArg some he
theorem AtCells.lt {w : World} {a : Addr} (h : AtCells w a) : a.block < w.heap.size := by
  obtain ⟨c, t, h⟩ := h
  exact (Array.getElem?_eq_some_iff.1 h).1
theorem take_step {α : Type} (l : List α) (k : Nat) (x : α) (h : l[k]? = some x) : l.take (k + 1) = l.take k ++ [x] := by
  rw [List.take_add_one, h]
  rfl

abbrev Str := List UInt8
/-- A type: its kind, its name, its variable, what stands right below it, its row's labels, its row's variable. -/
inductive Ty where
  | mk (k : Int) (nm : Str) (v : Int) (kids : List Ty) (ls : List Str) (rv : Int)
namespace Ty
def kind : Ty → Int | .mk k _ _ _ _ _ => k
def kids : Ty → List Ty | .mk _ _ _ l _ _ => l
mutual
def deep : Ty → Nat
  | .mk _ _ _ l _ _ => 1 + deepL l
def deepL : List Ty → Nat
  | [] => 0
  | t :: r => max t.deep (deepL r)
end
mutual
def size : Ty → Nat
  | .mk _ _ _ l _ _ => 1 + sizeL l
def sizeL : List Ty → Nat
  | [] => 0
  | t :: r => t.size + sizeL r
end
end Ty

/-- A list of strings as it lies. -/
def Strs (w : World) (v : Value) (ls : List Str) : Prop :=
  ∃ A c, v = .slice A ls.length c ∧ ls.length ≤ c ∧ c ≤ maxLen ∧ (0 < ls.length → ∃ g o, A = some ⟨g, o, none⟩ ∧ ∀ (i : Nat) s, ls[i]? = some s → w.cell? ⟨g, o + i, none⟩ = some (.string (ba s)))
theorem Strs.nil (w : World) : Strs w (.slice none 0 0) [] := ⟨none, 0, rfl, Nat.le_refl _, by unfold maxLen; omega, fun h => absurd h (by simp)⟩
theorem Strs.keep {w w' : World} {v : Value} {ls : List Str} (h : Strs w v ls) (hk : ∀ g, g < w.heap.size → w'.heap[g]? = w.heap[g]?) : Strs w' v ls := by
  obtain ⟨A, c, h1, h2, h3, h4⟩ := h
  refine ⟨A, c, h1, h2, h3, fun h0 => ?_⟩
  obtain ⟨g, o, h5, h6⟩ := h4 h0
  exact ⟨g, o, h5, fun i s hs => (World.cell?_of_block (w := w) (a := ⟨g, o + i, none⟩) (hk g (World.block_lt_of_cell? w _ (h6 i s hs)))).trans (h6 i s hs)⟩
theorem Strs.later {w w' : World} {v : Value} {ls : List Str} (h : Strs w v ls) (hb : Below w.heap.size w w') : Strs w' v ls := h.keep hb.block
theorem Strs.slice {w : World} {v : Value} {ls : List Str} (h : Strs w v ls) : ∃ A c, v = .slice A ls.length c ∧ ls.length ≤ c ∧ c ≤ maxLen := by
  obtain ⟨A, c, h1, h2, h3, _⟩ := h
  exact ⟨A, c, h1, h2, h3⟩

/-- Where the i-th type of a list stands. -/
def kidAt (v : Value) (i : Nat) : Addr := match v with | .slice (some a) _ _ => ⟨a.block, a.off + i * 6, none⟩ | _ => ⟨0, 0, none⟩
/-- A list's value, as types have it. -/
def SlOk (w : World) (v : Value) (n : Nat) : Prop := ∃ A c, v = .slice A n c ∧ n ≤ c ∧ c ≤ maxLen ∧ (0 < n → ∃ g o, A = some ⟨g, o, none⟩ ∧ AtCells w ⟨g, o, none⟩)
/-- The cells of a type. -/
def tyC (k : Int) (nm : Str) (v : Int) (kv lv : Value) (rv : Int) : List Value := [.int .i64 k, .string (ba nm), .int .i64 v, kv, lv, .int .i64 rv]
/-- The cells of a list lie from an address on. -/
def ReadsAt (w : World) (a : Addr) (l : List Value) : Prop := ∀ i u, l[i]? = some u → w.cell? ⟨a.block, a.off + i, none⟩ = some u
/-- A type lies at an address. -/
inductive TA (w : World) : Addr → Ty → Prop
  | mk (a : Addr) (k : Int) (nm : Str) (v : Int) (kids : List Ty) (ls : List Str) (rv : Int) (kv lv : Value) (h0 : a.spot = none) (hat : AtCells w a) (hr : ReadsAt w a (tyC k nm v kv lv rv))
      (hk : SlOk w kv kids.length) (hl : Strs w lv ls) (hks : ∀ (i : Nat) t, kids[i]? = some t → TA w (kidAt kv i) t) : TA w a (.mk k nm v kids ls rv)
/-- A type is these cells. -/
def TV (w : World) (t : Ty) (l : List Value) : Prop :=
  match t with
  | .mk k nm v kids ls rv => ∃ kv lv, l = tyC k nm v kv lv rv ∧ SlOk w kv kids.length ∧ Strs w lv ls ∧ ∀ (i : Nat) t, kids[i]? = some t → TA w (kidAt kv i) t

theorem SlOk.keep {w w' : World} {v : Value} {n : Nat} (h : SlOk w v n) (hk : ∀ g, g < w.heap.size → w'.heap[g]? = w.heap[g]?) : SlOk w' v n := by
  obtain ⟨A, c, h1, h2, h3, h4⟩ := h
  refine ⟨A, c, h1, h2, h3, fun h0 => ?_⟩
  obtain ⟨g, o, h5, h6⟩ := h4 h0
  exact ⟨g, o, h5, h6.keep (hk _ h6.lt)⟩
theorem ReadsAt.keep {w w' : World} {a : Addr} {l : List Value} (h : ReadsAt w a l) (hk : w'.heap[a.block]? = w.heap[a.block]?) : ReadsAt w' a l := fun i u hu => (World.cell?_of_block (w := w) (a := ⟨a.block, a.off + i, none⟩) hk).trans (h i u hu)
theorem TA.at_ {w : World} {a : Addr} {t : Ty} (h : TA w a t) : AtCells w a := by cases h; assumption
theorem TA.spot {w : World} {a : Addr} {t : Ty} (h : TA w a t) : a.spot = none := by cases h; assumption
theorem TA.keep {w w' : World} (hk : ∀ g, g < w.heap.size → w'.heap[g]? = w.heap[g]?) {a : Addr} {t : Ty} (h : TA w a t) : TA w' a t := by
  induction h with
  | mk a k nm v kids ls rv kv lv h0 hat hr hsl hl _ ih =>
    exact .mk a k nm v kids ls rv kv lv h0 (hat.keep (hk _ hat.lt)) (hr.keep (hk _ hat.lt)) (hsl.keep hk) (hl.keep hk) ih
theorem TA.later {w w' : World} {a : Addr} {t : Ty} (h : TA w a t) (hb : Below w.heap.size w w') : TA w' a t := h.keep hb.block
theorem TV.keep {w w' : World} (hk : ∀ g, g < w.heap.size → w'.heap[g]? = w.heap[g]?) {t : Ty} {l : List Value} (h : TV w t l) : TV w' t l := by
  obtain ⟨k, nm, v, kids, ls, rv⟩ := t
  obtain ⟨kv, lv, h1, h2, h3, h4⟩ := h
  exact ⟨kv, lv, h1, h2.keep hk, h3.keep hk, fun i t ht => (h4 i t ht).keep hk⟩
theorem TV.later {w w' : World} {t : Ty} {l : List Value} (h : TV w t l) (hb : Below w.heap.size w w') : TV w' t l := h.keep hb.block
theorem TV.len {w : World} {t : Ty} {l : List Value} (h : TV w t l) : l.length = 6 := by
  obtain ⟨k, nm, v, kids, ls, rv⟩ := t
  obtain ⟨kv, lv, rfl, _⟩ := h
  rfl
/-- Cells laid in a new block are a type there. -/
theorem TV.at_ {w : World} {t : Ty} {l : List Value} (h : TV w t l) {a : Addr} (h0 : a.spot = none) (hat : AtCells w a) (hr : ReadsAt w a l) : TA w a t := by
  obtain ⟨k, nm, v, kids, ls, rv⟩ := t
  obtain ⟨kv, lv, rfl, h1, h2, h3⟩ := h
  exact .mk a k nm v kids ls rv kv lv h0 hat hr h1 h2 h3
theorem TV.new {w : World} {t : Ty} {l : List Value} (h : TV w t l) (e : TypeId) {N : Nat} (hN : w.heap.size = N) : TA (w.alloc (.cells l.toArray e)) ⟨N, 0, none⟩ t := by
  subst hN
  refine (h.later (below_new w _)).at_ rfl ⟨_, _, Lies.new w e l.toArray⟩ (fun i u hu => ?_)
  rw [show (⟨w.heap.size, 0 + i, none⟩ : Addr) = ⟨w.heap.size, i, none⟩ by rw [Nat.zero_add], (Lies.new w e l.toArray).cell]
  simpa using hu
/-- What is at an address is one type. -/
theorem TA.open {w : World} {a : Addr} {k : Int} {nm : Str} {v : Int} {kids : List Ty} {ls : List Str} {rv : Int} (h : TA w a (.mk k nm v kids ls rv)) : ∃ kv lv, a.spot = none ∧ AtCells w a ∧ ReadsAt w a (tyC k nm v kv lv rv) ∧ SlOk w kv kids.length ∧ Strs w lv ls ∧ ∀ (i : Nat) t, kids[i]? = some t → TA w (kidAt kv i) t := by
  cases h with
  | mk _ _ _ _ _ _ _ kv lv h0 hat hr hk hl hks => exact ⟨kv, lv, h0, hat, hr, hk, hl, hks⟩
theorem TA.tv {w : World} {_a : Addr} {k : Int} {nm : Str} {v : Int} {kids : List Ty} {ls : List Str} {rv : Int} {kv lv : Value} (hk : SlOk w kv kids.length) (hl : Strs w lv ls) (hks : ∀ (i : Nat) t, kids[i]? = some t → TA w (kidAt kv i) t) : TV w (.mk k nm v kids ls rv) (tyC k nm v kv lv rv) := ⟨kv, lv, rfl, hk, hl, hks⟩
/-- The six cells of a type. -/
theorem reads6 {w : World} {b o : Nat} {k : Int} {nm : Str} {v : Int} {kv lv : Value} {rv : Int} (h : ReadsAt w ⟨b, o, none⟩ (tyC k nm v kv lv rv)) :
    w.cell? ⟨b, o, none⟩ = some (.int .i64 k) ∧ w.cell? ⟨b, o + 1, none⟩ = some (.string (ba nm)) ∧ w.cell? ⟨b, o + 2, none⟩ = some (.int .i64 v) ∧ w.cell? ⟨b, o + 3, none⟩ = some kv ∧ w.cell? ⟨b, o + 4, none⟩ = some lv ∧ w.cell? ⟨b, o + 5, none⟩ = some (.int .i64 rv) :=
  ⟨h 0 _ rfl, h 1 _ rfl, h 2 _ rfl, h 3 _ rfl, h 4 _ rfl, h 5 _ rfl⟩
end Go.Proofs.YtkdjmobplknmgaaDoor
