/- Values as trees, and how they lie in memory. -/
import Derived.Test.YtkdjmobplknmgaaDoorVaB
namespace Go.Proofs.YtkdjmobplknmgaaDoor
open Go.RowKit

/-- A value: its kind, its number, its name, its kids. -/
inductive Vl where
  | mk (k n : Int) (nm : Str) (kids : List Vl)
namespace Vl
def kids : Vl → List Vl | .mk _ _ _ l => l
mutual
def deep : Vl → Nat
  | .mk _ _ _ l => 1 + deepL l
def deepL : List Vl → Nat
  | [] => 0
  | t :: r => max t.deep (deepL r)
end
mutual
def size : Vl → Nat
  | .mk _ _ _ l => 1 + sizeL l
def sizeL : List Vl → Nat
  | [] => 0
  | t :: r => t.size + sizeL r
end
theorem size_mem {t : Vl} : ∀ {l : List Vl}, t ∈ l → t.size ≤ sizeL l
  | [], h => by cases h
  | x :: r, h => by
    unfold sizeL
    rcases List.mem_cons.1 h with rfl | h
    · omega
    · have := size_mem h
      omega
theorem deepL_append : ∀ (l m : List Vl), deepL (l ++ m) = max (deepL l) (deepL m)
  | [], m => by simp [deepL]
  | x :: r, m => by
    simp only [List.cons_append, deepL, deepL_append r m]
    omega
end Vl
mutual
/-- Is a value, and all within it, as it has to be? -/
def okV (al : Int → Int → Str → Nat → Bool) : Vl → Bool
  | .mk k n nm l => al k n nm l.length && okVL al l
def okVL (al : Int → Int → Str → Nat → Bool) : List Vl → Bool
  | [] => true
  | t :: r => okV al t && okVL al r
end
theorem okVL_append (al : Int → Int → Str → Nat → Bool) : ∀ (l m : List Vl), okVL al (l ++ m) = (okVL al l && okVL al m)
  | [], m => by simp [okVL]
  | x :: r, m => by simp [okVL, okVL_append al r m, Bool.and_assoc]

/-- Where the i-th value of a list stands. -/
def kidV (v : Value) (i : Nat) : Addr := match v with | .slice (some a) _ _ => ⟨a.block, a.off + i * 4, none⟩ | _ => ⟨0, 0, none⟩
/-- A list of values, in a block of its own between two numbers. -/
def SlV (w : World) (v : Value) (n s hi : Nat) : Prop := ∃ A c, v = .slice A n c ∧ n ≤ c ∧ c ≤ maxLen ∧ (0 < n → ∃ g, A = some ⟨g, 0, none⟩ ∧ AtCells w ⟨g, 0, none⟩ ∧ s ≤ g ∧ g < hi)
/-- A value lies at an address; the lists within it lie in blocks from lo on, ahead of hi, each kid's by themselves. -/
inductive VA (w : World) : Nat → Nat → Addr → Vl → Prop
  | mk (lo hi : Nat) (a : Addr) (k n : Int) (nm : Str) (kids : List Vl) (kv : Value) (f : Nat → Nat) (h0 : a.spot = none) (hat : AtCells w a) (hr : ReadsAt w a (vC k n nm kv))
      (hk : SlV w kv kids.length (f kids.length) hi) (hlo : lo ≤ f 0) (hf : ∀ i, f i ≤ f (i + 1)) (hks : ∀ (i : Nat) t, kids[i]? = some t → VA w (f i) (f (i + 1)) (kidV kv i) t) : VA w lo hi a (.mk k n nm kids)
theorem SlV.keep {w w' : World} {v : Value} {n s hi : Nat} (h : SlV w v n s hi) (hk : ∀ a, AtCells w a → w'.heap[a.block]? = w.heap[a.block]?) : SlV w' v n s hi := by
  obtain ⟨A, c, h1, h2, h3, h4⟩ := h
  refine ⟨A, c, h1, h2, h3, fun h0 => ?_⟩
  obtain ⟨g, h5, h6, h7⟩ := h4 h0
  exact ⟨g, h5, h6.keep (hk _ h6), h7⟩
theorem VA.keep {w w' : World} (hk : ∀ a, AtCells w a → w'.heap[a.block]? = w.heap[a.block]?) {lo hi : Nat} {a : Addr} {t : Vl} (h : VA w lo hi a t) : VA w' lo hi a t := by
  induction h with
  | mk lo hi a k n nm kids kv f h0 hat hr hsl hlo hf _ ih =>
    exact .mk lo hi a k n nm kids kv f h0 (hat.keep (hk _ hat)) (hr.keep (hk _ hat)) (hsl.keep hk) hlo hf ih
theorem VA.later {w w' : World} {lo hi : Nat} {a : Addr} {t : Vl} (h : VA w lo hi a t) (hb : Below w.heap.size w w') : VA w' lo hi a t := h.keep fun _ ha => hb.block _ ha.lt
theorem Bt.keeps {b : Nat} {w w' : World} (h : Bt b w w') (hm : ∃ es c, w.heap[b]? = some (.map es c)) (a : Addr) (ha : AtCells w a) : w'.heap[a.block]? = w.heap[a.block]? := by
  refine h.block _ ha.lt fun e => ?_
  obtain ⟨c, t, hc⟩ := ha
  obtain ⟨es, k, hm⟩ := hm
  rw [e, hm] at hc
  cases hc
theorem VA.wider {w : World} {lo hi lo' hi' : Nat} {a : Addr} {t : Vl} (h : VA w lo hi a t) (h1 : lo' ≤ lo) (h2 : hi ≤ hi') : VA w lo' hi' a t := by
  cases h with
  | mk _ _ _ k n nm kids kv f h0 hat hr hsl hlo hf hks =>
    obtain ⟨A, c, e1, e2, e3, e4⟩ := hsl
    exact .mk lo' hi' a k n nm kids kv f h0 hat hr ⟨A, c, e1, e2, e3, fun h => by obtain ⟨g, e5, e6, e7, e8⟩ := e4 h; exact ⟨g, e5, e6, e7, by omega⟩⟩ (by omega) hf hks
theorem VA.open {w : World} {lo hi : Nat} {a : Addr} {k n : Int} {nm : Str} {kids : List Vl} (h : VA w lo hi a (.mk k n nm kids)) : ∃ (kv : Value) (f : Nat → Nat), a.spot = none ∧ AtCells w a ∧ ReadsAt w a (vC k n nm kv) ∧ SlV w kv kids.length (f kids.length) hi ∧ lo ≤ f 0 ∧ (∀ i, f i ≤ f (i + 1)) ∧ ∀ (i : Nat) t, kids[i]? = some t → VA w (f i) (f (i + 1)) (kidV kv i) t := by
  cases h with
  | mk _ _ _ _ _ _ _ kv f h0 hat hr hk hlo hf hks => exact ⟨kv, f, h0, hat, hr, hk, hlo, hf, hks⟩
theorem mono_le {f : Nat → Nat} (hf : ∀ i, f i ≤ f (i + 1)) : ∀ {i j : Nat}, i ≤ j → f i ≤ f j
  | i, j, h => by
    induction h with
    | refl => exact Nat.le_refl _
    | step _ ih => exact Nat.le_trans ih (hf _)
end Go.Proofs.YtkdjmobplknmgaaDoor
