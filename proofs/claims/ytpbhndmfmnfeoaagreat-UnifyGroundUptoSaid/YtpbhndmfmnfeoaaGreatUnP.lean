/- When two rows can be unified, told by how many of each label there are. -/
import Derived.Test.YtpbhndmfmnfeoaaGreatUnR
namespace Go.Proofs.YtpbhndmfmnfeoaaGreat
open Go.RowKit

def moreG (c : Str → Int) : List Str → List Str
  | [] => []
  | x :: r => if 0 < c x then moreG (setC c x (c x - 1)) r else x :: moreG c r
theorem foldl_moreG : ∀ (la : List Str) (c : Str → Int) (out : List Str), (la.foldl mStep (c, out)).2 = out ++ moreG c la
  | [], c, out => by simp [moreG]
  | x :: r, c, out => by
    simp only [List.foldl_cons, mStep, moreG]
    split
    · exact foldl_moreG r _ out
    · rw [foldl_moreG r c (out ++ [x])]; simp
theorem moreL_eq (la lb : List Str) : moreL la lb = moreG (cntC lb) la := by
  unfold moreL mAll
  rw [foldl_moreG]
  simp
theorem moreG_nil : ∀ (la : List Str) (c : Str → Int), (∀ s, 0 ≤ c s) → (moreG c la = [] ↔ ∀ s, (la.count s : Int) ≤ c s)
  | [], c, hc => by simp [moreG]; exact hc
  | x :: r, c, hc => by
    unfold moreG
    by_cases hx : 0 < c x
    · rw [if_pos hx, moreG_nil r _ (fun s => by unfold setC; split; omega; exact hc s)]
      constructor
      · intro h s
        have h1 := h s
        unfold setC at h1
        by_cases hs : s = x
        · subst hs; rw [if_pos rfl] at h1; rw [List.count_cons_self]; omega
        · rw [if_neg hs] at h1; rw [List.count_cons_of_ne (fun e => hs e.symm)]; exact h1
      · intro h s
        have h1 := h s
        unfold setC
        by_cases hs : s = x
        · subst hs; rw [if_pos rfl]; rw [List.count_cons_self] at h1; omega
        · rw [if_neg hs]; rw [List.count_cons_of_ne (fun e => hs e.symm)] at h1; exact h1
    · rw [if_neg hx]
      constructor
      · intro h; cases h
      · intro h
        have h1 := h x
        rw [List.count_cons_self] at h1
        omega
/-- Has lb all that la has? -/
def fitsIn (la lb : List Str) : Prop := ∀ s, la.count s ≤ lb.count s
theorem moreL_nil (la lb : List Str) : moreL la lb = [] ↔ fitsIn la lb := by
  rw [moreL_eq, moreG_nil la _ (fun s => (cntC_le lb s).1)]
  unfold cntC fitsIn
  constructor
  · intro h s; have := h s; omega
  · intro h s; have := h s; omega
def lStep (st : List Str × Bool) (s : Str) : List Str × Bool := (st.1.erase s, st.2 && decide (s ∈ st.1))
def lAll (X : List Str) (l : List Str) : List Str × Bool := l.foldl lStep (X, true)
theorem lAll_step (X l : List Str) (k : Nat) (x : Str) (h : l[k]? = some x) : lAll X (l.take (k + 1)) = lStep (lAll X (l.take k)) x := by
  unfold lAll
  rw [take_step l k x h, List.foldl_append]
  rfl
theorem foldl_lStep : ∀ (l X : List Str) (ok : Bool), (l.foldl lStep (X, ok)).2 = true ↔ ok = true ∧ fitsIn l X
  | [], X, ok => by simp [fitsIn]
  | x :: r, X, ok => by
    simp only [List.foldl_cons, lStep]
    rw [foldl_lStep r]
    simp only [Bool.and_eq_true, decide_eq_true_eq]
    unfold fitsIn
    constructor
    · rintro ⟨⟨h1, h2⟩, h3⟩
      refine ⟨h1, fun s => ?_⟩
      have h4 := h3 s
      have h5 : 0 < X.count x := List.count_pos_iff.2 h2
      by_cases hs : s = x
      · subst hs; rw [List.count_cons_self]; rw [List.count_erase_self] at h4; omega
      · rw [List.count_cons_of_ne (fun e => hs e.symm)]; rw [List.count_erase_of_ne hs] at h4; exact h4
    · rintro ⟨h1, h3⟩
      have h5 : x ∈ X := by
        have h4 := h3 x
        rw [List.count_cons_self] at h4
        exact List.count_pos_iff.1 (by omega)
      refine ⟨⟨h1, h5⟩, fun s => ?_⟩
      have h4 := h3 s
      by_cases hs : s = x
      · subst hs; rw [List.count_cons_self] at h4; rw [List.count_erase_self]; omega
      · rw [List.count_cons_of_ne (fun e => hs e.symm)] at h4; rw [List.count_erase_of_ne hs]; exact h4
theorem lAll_ok (X l : List Str) : (lAll X l).2 = true ↔ fitsIn l X := by
  unfold lAll
  rw [foldl_lStep]
  simp
/-- The error's number. -/
def errOf (o : Option (RowF × Int)) : Int := match o with | none => 5 | some _ => 0
/-- wi: has b all labels of a; ov: has a all of b. -/
theorem err_want (la lb : List Str) (va vb nx : Int) (wi ov : Bool) (hwi : wi = true ↔ fitsIn la lb) (hov : ov = true ↔ fitsIn lb la) (ha : 0 ≤ va) (hb : 0 ≤ vb) :
    (errOf (rowsRes la lb va vb nx) == 0) = if va = vb then wi && ov else (wi || decide (0 < vb)) && (ov || decide (0 < va)) := by
  rw [← moreL_nil] at hwi hov
  unfold rowsRes
  by_cases h1 : moreL la lb = [] <;> by_cases h2 : moreL lb la = []
  · have e1 := hwi.2 h1
    have e2 := hov.2 h2
    subst e1 e2
    rw [if_pos ⟨h1, h2⟩]
    simp [errOf]
  · have e1 := hwi.2 h1
    have e2 : ov = false := by cases ov; rfl; exact absurd (hov.1 rfl) h2
    subst e1 e2
    rw [if_neg (fun e => h2 e.2)]
    by_cases hv : va = vb
    · rw [if_pos (.inr (.inr hv)), if_pos hv]; simp [errOf]
    · by_cases h0 : va = 0
      · rw [if_pos (.inr (.inl ⟨h2, h0⟩)), if_neg hv]; simp [errOf, h0]
      · rw [if_neg (fun e => by rcases e with e | e | e; exact e.1 h1; exact h0 e.2; exact hv e), if_neg h2, if_pos h1, if_neg hv]
        simp [errOf]; omega
  · have e1 : wi = false := by cases wi; rfl; exact absurd (hwi.1 rfl) h1
    have e2 := hov.2 h2
    subst e1 e2
    rw [if_neg (fun e => h1 e.1)]
    by_cases hv : va = vb
    · rw [if_pos (.inr (.inr hv)), if_pos hv]; simp [errOf]
    · by_cases h0 : vb = 0
      · rw [if_pos (.inl ⟨h1, h0⟩), if_neg hv]; simp [errOf, h0]
      · rw [if_neg (fun e => by rcases e with e | e | e; exact h0 e.2; exact e.1 h2; exact hv e), if_pos h2, if_neg hv]
        simp [errOf]; omega
  · have e1 : wi = false := by cases wi; rfl; exact absurd (hwi.1 rfl) h1
    have e2 : ov = false := by cases ov; rfl; exact absurd (hov.1 rfl) h2
    subst e1 e2
    rw [if_neg (fun e => h1 e.1)]
    by_cases hv : va = vb
    · rw [if_pos (.inr (.inr hv)), if_pos hv]; simp [errOf]
    · by_cases h0 : vb = 0
      · rw [if_pos (.inl ⟨h1, h0⟩), if_neg hv]; simp [errOf, h0]
      · by_cases h3 : va = 0
        · rw [if_pos (.inr (.inl ⟨h2, h3⟩)), if_neg hv]; simp [errOf, h3]
        · rw [if_neg (fun e => by rcases e with e | e | e; exact h0 e.2; exact h3 e.2; exact hv e), if_neg h2, if_neg h1, if_neg hv]
          simp [errOf]; omega
/-- Labels that are read are kept where a block is written that holds no string. -/
theorem StrR.off {w w' : World} {v : Value} {ls : List Str} {z : Nat} {t : TypeId} {A : Option Addr} {n c : Nat} {i : Int} (h : StrR w v ls) (hz : Lies w z t #[.slice A n c, .int .i64 i]) (hk : ∀ g, g ≠ z → g < w.heap.size → w'.heap[g]? = w.heap[g]?) : StrR w' v ls := by
  refine ⟨?_, h.2⟩
  rcases h.1 with h | ⟨ad, c, h1, h2, h3⟩
  · exact .inl h
  · refine .inr ⟨ad, c, h1, h2, fun j q hq => ?_⟩
    have h4 := h3 j q hq
    have hlt := World.block_lt_of_cell? w _ h4
    refine (World.cell?_of_block (w := w) (hk _ (fun e => ?_) hlt)).trans h4
    rw [List.getElem?_map] at hq
    obtain ⟨s, _, rfl⟩ := Option.map_eq_some_iff.1 hq
    obtain ⟨p, hp⟩ : ∃ p, p = ad.add j := ⟨_, rfl⟩
    rw [← hp] at h4 e
    obtain ⟨g, o, sp⟩ := p
    have hsp := World.cell?_spot (a := ⟨g, o, sp⟩) h4
    subst hsp
    have e2 : g = z := e
    subst e2
    rw [hz.cell o] at h4
    match o, h4 with
    | 0, h4 => simp [encS] at h4
    | 1, h4 => simp [encS] at h4
    | o + 2, h4 => simp at h4
end Go.Proofs.YtpbhndmfmnfeoaaGreat
