/- Types with lists of their own; what is promised of lists that are still to do. -/
import Derived.Test.YtpbhndmfmnfeoaaGreatSbl
import Derived.Outline
namespace Go.Proofs.YtpbhndmfmnfeoaaGreat
open Go.RowKit

/-- A list of the call's own. -/
def SlF (w : World) (v : Value) (n : Nat) : Prop := (v = .slice none 0 0 ∧ n = 0) ∨ ∃ g, v = .slice (some ⟨g, 0, none⟩) n n ∧ 0 < n ∧ AtCells w ⟨g, 0, none⟩
/-- A type, all of whose lists are the call's own, lies at an address. -/
inductive TF (w : World) : Addr → Ty → Prop
  | mk (a : Addr) (k : Int) (nm : Str) (v : Int) (kids : List Ty) (ls : List Str) (rv : Int) (kv lv : Value) (h0 : a.spot = none) (hat : AtCells w a) (hr : ReadsAt w a (tyC k nm v kv lv rv))
      (hk : SlF w kv kids.length) (hl : StrR w lv ls) (hi : oks k v rv) (hks : ∀ (i : Nat) t, kids[i]? = some t → TF w (kidAt kv i) t) : TF w a (.mk k nm v kids ls rv)
/-- .. is these cells. -/
def TFV (w : World) (t : Ty) (l : List Value) : Prop :=
  match t with
  | .mk k nm v kids ls rv => ∃ kv lv, l = tyC k nm v kv lv rv ∧ SlF w kv kids.length ∧ StrR w lv ls ∧ oks k v rv ∧ ∀ (i : Nat) t, kids[i]? = some t → TF w (kidAt kv i) t
theorem SlF.slr {w : World} {v : Value} {n : Nat} (h : SlF w v n) : SlR v n := by
  rcases h with h | ⟨g, rfl, h, _⟩
  · exact .inl h
  · exact .inr ⟨_, n, rfl, Nat.le_refl _, fun _ => rfl⟩
theorem TF.tr {w : World} {a : Addr} {t : Ty} (h : TF w a t) : TR w a t := by
  induction h with
  | mk a k nm v kids ls rv kv lv h0 _ hr hk hl hi _ ih => exact .mk a k nm v kids ls rv kv lv h0 hr hk.slr hl hi ih
theorem TF.at_ {w : World} {a : Addr} {t : Ty} (h : TF w a t) : AtCells w a := by cases h; assumption
theorem TFV.trv {w : World} {t : Ty} {l : List Value} (h : TFV w t l) : TRV w t l := by
  obtain ⟨k, nm, v, kids, ls, rv⟩ := t
  obtain ⟨kv, lv, h1, h2, h3, h4, h5⟩ := h
  exact ⟨kv, lv, h1, h2.slr, h3, h4, fun i t ht => (h5 i t ht).tr⟩
theorem SlF.keep {w w' : World} {v : Value} {n : Nat} (h : SlF w v n) (hk : ∀ g, g < w.heap.size → w'.heap[g]? = w.heap[g]?) : SlF w' v n := by
  rcases h with h | ⟨g, h1, h2, h3⟩
  · exact .inl h
  · exact .inr ⟨g, h1, h2, h3.keep (hk _ h3.lt)⟩
theorem TF.keep {w w' : World} (hk : ∀ g, g < w.heap.size → w'.heap[g]? = w.heap[g]?) {a : Addr} {t : Ty} (h : TF w a t) : TF w' a t := by
  induction h with
  | mk a k nm v kids ls rv kv lv h0 hat hr hsl hl hi _ ih =>
    exact .mk a k nm v kids ls rv kv lv h0 (hat.keep (hk _ hat.lt)) (hr.keep (hk _ hat.lt)) (hsl.keep hk) (hl.keep hk) hi ih
theorem TFV.keep {w w' : World} (hk : ∀ g, g < w.heap.size → w'.heap[g]? = w.heap[g]?) {t : Ty} {l : List Value} (h : TFV w t l) : TFV w' t l := by
  obtain ⟨k, nm, v, kids, ls, rv⟩ := t
  obtain ⟨kv, lv, h1, h2, h3, h4, h5⟩ := h
  exact ⟨kv, lv, h1, h2.keep hk, h3.keep hk, h4, fun i t ht => (h5 i t ht).keep hk⟩
theorem TFV.later {w w' : World} {t : Ty} {l : List Value} (h : TFV w t l) (hb : Below w.heap.size w w') : TFV w' t l := h.keep hb.block

/-- What is still to do: the list that is copied, its types, the block in which has to stand what becomes of them, and whether they are met in what is said. -/
structure Tk where
  src : Value
  ts : List Ty
  G : Nat
  said : Bool
def tkC (k : Tk) : List Value := [k.src, .slice (some ⟨k.G, 0, none⟩) k.ts.length k.ts.length, .bool k.said]
/-- Of a list nothing is still to do. -/
def DoneK (T : Int → Option Ty) (w : World) (k : Tk) : Prop := ∀ (i : Nat) t, k.ts[i]? = some t → TF w ⟨k.G, i * 6, none⟩ (fsT T k.said t)
/-- Whatever lies, but for some blocks, lies as it lay. -/
def Kept (X : Nat → Prop) (w w' : World) : Prop := w.heap.size ≤ w'.heap.size ∧ ∀ b, b < w.heap.size → ¬ X b → w'.heap[b]? = w.heap[b]?
theorem Kept.trans {X Y : Nat → Prop} {a b c : World} (h : Kept X a b) (k : Kept Y b c) (hx : ∀ i, i < a.heap.size → ¬ X i → ¬ Y i) : Kept X a c :=
  ⟨Nat.le_trans h.1 k.1, fun i hi hn => (k.2 i (Nat.lt_of_lt_of_le hi h.1) (hx i hi hn)).trans (h.2 i hi hn)⟩
/-- What may turn: what was there before, what is to do, and the lists that are to do. -/
def Xs (B : Nat) (td : Value) (ks : List Tk) : Nat → Prop := fun b => b < B ∨ td.ownBlock = some b ∨ ∃ k ∈ ks, k.G = b
/-- The promise: in whatever later world in which nothing is still to do the cells are the type. -/
def Prom (T : Int → Option Ty) (B : Nat) (td : Value) (ks : List Tk) (w : World) (t : Ty) (l : List Value) : Prop :=
  ∀ w', Kept (Xs B td ks) w w' → (∀ k ∈ ks, DoneK T w' k) → TFV w' t l
/-- .. of the first types of a list. -/
def PromL (T : Int → Option Ty) (B : Nat) (td : Value) (ks : List Tk) (k : Tk) (n : Nat) (w : World) : Prop :=
  ∀ w', Kept (Xs B td (k :: ks)) w w' → (∀ j, j < n * 6 → w'.cell? ⟨k.G, j, none⟩ = w.cell? ⟨k.G, j, none⟩) → AtCells w' ⟨k.G, 0, none⟩ → (∀ k' ∈ ks, DoneK T w' k') → ∀ (i : Nat) t, i < n → k.ts[i]? = some t → TF w' ⟨k.G, i * 6, none⟩ (fsT T k.said t)
theorem Prom.keep {T : Int → Option Ty} {B : Nat} {td td' : Value} {ks ks' : List Tk} {w w1 : World} {t : Ty} {l : List Value} (h : Prom T B td ks w t l) (hk : Kept (Xs B td ks) w w1) (hx : ∀ i, i < w.heap.size → ¬ Xs B td ks i → ¬ Xs B td' ks' i) (hs : ∀ k ∈ ks, k ∈ ks') : Prom T B td' ks' w1 t l :=
  fun w' hk' hd => h w' (hk.trans hk' hx) fun k hm => hd k (hs k hm)
/-- A list is done: what was promised with it is promised without it. -/
theorem Prom.done {T : Int → Option Ty} {B : Nat} {td : Value} {ks : List Tk} {k : Tk} {w : World} {t : Ty} {l : List Value} (h : Prom T B td (k :: ks) w t l) (hl : PromL T B td ks k k.ts.length w) (hat : AtCells w ⟨k.G, 0, none⟩) (hG : ¬ Xs B td ks k.G) : Prom T B td ks w t l := by
  intro w' hk hd
  have hk' : Kept (Xs B td (k :: ks)) w w' := ⟨hk.1, fun b hb hn => hk.2 b hb (fun hx => hn (by
    rcases hx with h | h | ⟨k', h1, h2⟩
    · exact .inl h
    · exact .inr (.inl h)
    · exact .inr (.inr ⟨k', List.mem_cons_of_mem _ h1, h2⟩)))⟩
  have hG' := hk.2 k.G hat.lt hG
  have hdk : DoneK T w' k := fun i t hi => hl w' hk' (fun j _ => World.cell?_of_block (w := w) (a := ⟨k.G, j, none⟩) hG') (hat.keep hG') hd i t (List.getElem?_eq_some_iff.1 hi).1 hi
  exact h w' hk' fun k' hm => by
    rcases List.mem_cons.1 hm with rfl | hm
    · exact hdk
    · exact hd k' hm
/-- A type more of a list. -/
theorem PromL.step {T : Int → Option Ty} {B : Nat} {td td' : Value} {ks ks' : List Tk} {k : Tk} {n : Nat} {w w1 : World} (h : PromL T B td ks k n w) (hk : Kept (Xs B td (k :: ks)) w w1) (hx : ∀ i, i < w.heap.size → ¬ Xs B td (k :: ks) i → ¬ Xs B td' (k :: ks') i) (hs : ∀ k ∈ ks, k ∈ ks')
    (hc : ∀ j, j < n * 6 → w1.cell? ⟨k.G, j, none⟩ = w.cell? ⟨k.G, j, none⟩)
    (hnew : ∀ w', Kept (Xs B td' (k :: ks')) w1 w' → (∀ j, j < (n + 1) * 6 → w'.cell? ⟨k.G, j, none⟩ = w1.cell? ⟨k.G, j, none⟩) → AtCells w' ⟨k.G, 0, none⟩ → (∀ k' ∈ ks', DoneK T w' k') → ∀ t, k.ts[n]? = some t → TF w' ⟨k.G, n * 6, none⟩ (fsT T k.said t)) : PromL T B td' ks' k (n + 1) w1 := by
  intro w' hk' hc' hat hd i t hi ht
  by_cases hin : i < n
  · exact h w' (hk.trans hk' hx) (fun j hj => (hc' j (by omega)).trans (hc j hj)) hat (fun k' hm => hd k' (hs k' hm)) i t hin ht
  · obtain rfl : i = n := by omega
    exact hnew w' hk' hc' hat hd t ht
theorem PromL.zero (T : Int → Option Ty) (B : Nat) (td : Value) (ks : List Tk) (k : Tk) (w : World) : PromL T B td ks k 0 w := fun _ _ _ _ _ i _ hi => by omega
end Go.Proofs.YtpbhndmfmnfeoaaGreat
