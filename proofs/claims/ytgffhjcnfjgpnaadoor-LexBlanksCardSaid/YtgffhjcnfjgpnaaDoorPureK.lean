/- Plain facts for LexBlanks: words with blanks and notes between. -/
import Derived.Test.YtgffhjcnfjgpnaaDoorLawAlone
namespace Go.Proofs.YtgffhjcnfjgpnaaDoor

theorem skip_notes (u : List UInt8) : ∀ t : List UInt8, (∀ c ∈ t, c ≠ 10) → Lx.skipN true (t ++ 10 :: u) = t.length + 1 + Lx.skipN false u := by
  intro t
  induction t with
  | nil => intro _; simp [Lx.skipN]
  | cons c r ih =>
    intro h
    have hc : c ≠ 10 := h c (by simp)
    have hcn : ¬ c.toNat = 10 := fun e => hc (by apply UInt8.toNat_inj.1; simpa using e)
    have := ih (fun d hd => h d (by simp [hd]))
    simp only [List.cons_append, Lx.skipN, if_neg hcn, this, List.length_cons]
    omega
theorem sk_blank (c : UInt8) (r : List UInt8) (h : c.toNat = 32 ∨ c.toNat = 9 ∨ c.toNat = 13 ∨ c.toNat = 10) : sk (c :: r) = 1 + sk r := skip_blank c r h
theorem gap_crlf : Gap [13, 10] := ⟨by simp, rfl, fun u => by
  show sk (13 :: 10 :: u) = 2 + sk u
  rw [sk_blank 13 _ (by decide), sk_blank 10 _ (by decide)]; omega⟩
theorem gap_note (t : List UInt8) (h : ∀ c ∈ t, c ≠ 10) : Gap (35 :: t ++ [13, 10]) := ⟨by simp, rfl, fun u => by
  have h2 : ∀ c ∈ t ++ [13], c ≠ (10 : UInt8) := by
    intro c hc
    simp only [List.mem_append, List.mem_singleton] at hc
    rcases hc with hc | rfl
    · exact h c hc
    · decide
  have h1 := skip_notes u (t ++ [13]) h2
  have h3 : 35 :: t ++ [13, 10] ++ u = 35 :: (t ++ [13] ++ 10 :: u) := by simp
  rw [h3]
  show Lx.skipN false (35 :: (t ++ [13] ++ 10 :: u)) = _
  simp only [Lx.skipN]
  rw [if_neg (by decide), if_pos (by decide), h1]
  simp [sk]; omega⟩
theorem blanks_lex {L : List UInt8} {ws : List Lx.Tk} {p : Nat} {r : Option Nat} (h : Lexes p L ws r) (gs : List (List UInt8)) (hl : gs.length = ws.length) (hg : ∀ g ∈ gs, Gap g) :
    ∃ ws1, Lexes 0 ([32, 9] ++ srcOf (ws.zip gs)) ws1 none ∧ AlikeL false ws ws1 := by
  obtain ⟨ws1, h1, h2⟩ := lexes_src (ws.zip gs) [] [] 2 (fun y hy => ⟨h.ok y.1 (List.of_mem_zip hy).1, hg y.2 (List.of_mem_zip hy).2⟩) (fun q => ⟨[], .done _ _ (by simp), AlikeL.refl _ _⟩)
  rw [List.append_nil] at h1 h2
  rw [List.map_fst_zip (by omega)] at h2
  refine ⟨ws1, lexes_skip (n := 2) (t := srcOf (ws.zip gs)) ?_ (by simp) (by simpa using h1), h2⟩
  show sk (32 :: 9 :: srcOf (ws.zip gs)) = _
  rw [sk_blank 32 _ (by decide), sk_blank 9 _ (by decide)]; omega
theorem srcOf_len : ∀ L : List (Lx.Tk × List UInt8), (∀ y ∈ L, y.2.length ≤ 23) → (srcOf L).length ≤ ((L.map (·.1)).map fun x => (wB x).length + 1).sum + 23 * L.length := by
  intro L
  induction L with
  | nil => intro _; simp [srcOf]
  | cons y r ih =>
    intro h
    have h1 := ih (fun z hz => h z (by simp [hz]))
    have h2 := h y (by simp)
    simp only [srcOf, List.flatMap_cons, List.length_append, List.map_cons, List.sum_cons, List.length_cons] at h1 ⊢
    omega
theorem sum_take (f : Lx.Tk → Nat) (ws : List Lx.Tk) (k : Nat) : ((ws.take k).map f).sum ≤ (ws.map f).sum := by
  have : (ws.map f).sum = ((ws.take k).map f).sum + ((ws.drop k).map f).sum := by
    rw [← List.sum_append, ← List.map_append, List.take_append_drop]
  omega
theorem blanks_len {L : List UInt8} {ws : List Lx.Tk} {r : Option Nat} (h : Lexes 0 L ws r) (hL : L.length ≤ 2000) (k : Nat) (gs : List (List UInt8)) (hk : k ≤ ws.length) (hl : gs.length = k) (hg : ∀ g ∈ gs, g.length ≤ 23) :
    ([32, 9] ++ srcOf ((ws.take k).zip gs)).length ≤ 60000 := by
  have h1 := srcOf_len ((ws.take k).zip gs) (fun y hy => hg y.2 (List.of_mem_zip hy).2)
  rw [List.map_fst_zip (by rw [List.length_take]; omega)] at h1
  have h2 := sum_take (fun x => (wB x).length + 1) ws k
  have h3 := h.size.1
  have h4 := h.count
  have h5 : ((ws.take k).zip gs).length ≤ 2000 := by rw [List.length_zip]; omega
  simp only [List.length_append, List.length_cons, List.length_nil]
  omega
theorem src_snoc {ws : List Lx.Tk} {k : Nat} {x : Lx.Tk} (hx : ws[k]? = some x) (gs : List (List UInt8)) (hl : gs.length = k) (g : List UInt8) :
    srcOf ((ws.take (k + 1)).zip (gs ++ [g])) = srcOf ((ws.take k).zip gs) ++ (wB x ++ g) := by
  have hk := (List.getElem?_eq_some_iff.1 hx).1
  rw [List.take_add_one, hx]
  show srcOf ((ws.take k ++ [x]).zip (gs ++ [g])) = _
  rw [List.zip_append (by rw [List.length_take]; omega)]
  simp [srcOf]
def nolf (t : List UInt8) : List UInt8 := t.filter (· != 10)
theorem nolf_ne (t : List UInt8) : ∀ c ∈ nolf t, c ≠ 10 := by
  intro c hc
  have := (List.mem_filter.1 hc).2
  simpa using this
theorem nolf_len (t : List UInt8) : (nolf t).length ≤ t.length := List.length_filter_le _ _
theorem nolf_take {t : List UInt8} {k : Nat} {c : UInt8} (h : t[k]? = some c) : nolf (t.take (k + 1)) = nolf (t.take k) ++ (if c = 10 then [] else [c]) := by
  rw [List.take_add_one, h, nolf, nolf, List.filter_append]
  congr 1
  by_cases hc : c = 10 <;> simp [hc]
end Go.Proofs.YtgffhjcnfjgpnaaDoor
