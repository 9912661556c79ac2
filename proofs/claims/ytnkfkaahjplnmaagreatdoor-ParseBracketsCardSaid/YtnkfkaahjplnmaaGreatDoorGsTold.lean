/- What is parsed of words that are moved; of the words written again. -/
import Derived.Test.YtnkfkaahjplnmaaGreatDoorGqPlace
import Derived.Test.YtnkfkaahjplnmaaGreatDoorGrSame
import Derived.Test.YtnkfkaahjplnmaaGreatDoorPgc
namespace Go.Proofs.YtnkfkaahjplnmaaGreatDoor
open Pz

mutual
theorem deep_m (φ : Nat → Nat) : ∀ t : Tm, (mTm φ t).deep = t.deep
  | .mk k p nm pm n kids arms => by simp only [mTm, Tm.deep, deepL_m φ kids, deepA_m φ arms]
theorem deepL_m (φ : Nat → Nat) : ∀ l : List Tm, deepL (mL φ l) = deepL l
  | [] => by simp only [mL]
  | t :: r => by simp only [mL, deepL, deep_m φ t, deepL_m φ r]
theorem deepA_m (φ : Nat → Nat) : ∀ l : List (Str × List Str × Tm), deepA (mA φ l) = deepA l
  | [] => by simp only [mA]
  | (a, b, t) :: r => by simp only [mA, deepA, deep_m φ t, deepA_m φ r]
end
mutual
theorem noAt_m (φ : Nat → Nat) : ∀ t : Tm, noAt (mTm φ t) = noAt t
  | .mk k p nm pm n kids arms => by simp only [mTm, noAt, noAtL_m φ kids, noAtA_m φ arms]
theorem noAtL_m (φ : Nat → Nat) : ∀ l : List Tm, noAtL (mL φ l) = noAtL l
  | [] => by simp only [mL]
  | t :: r => by simp only [mL, noAtL, noAt_m φ t, noAtL_m φ r]
theorem noAtA_m (φ : Nat → Nat) : ∀ l : List (Str × List Str × Tm), noAtA (mA φ l) = noAtA l
  | [] => by simp only [mA]
  | (a, b, t) :: r => by simp only [mA, noAtA, noAt_m φ t, noAtA_m φ r]
end
theorem mPg_zero {φ : Nat → Nat} (h0 : φ 0 = 0) : mPg φ ⟨[], [], .zero⟩ = ⟨[], [], .zero⟩ := by
  simp [mPg, Tm.zero, mTm, mL, mA, h0]
theorem kept_id : Kept id := ⟨fun _ => Iff.rfl, rfl, rfl⟩
/-- Words that stand elsewhere: the same, elsewhere. -/
theorem parseW_m {φ : Nat → Nat} (h0 : φ 0 = 0) (sz : Nat) (ws : List Lx.Tk) : parseW (φ sz) (ws.map (mT φ)) = (mPg φ (parseW sz ws).1, φ (parseW sz ws).2.1, (parseW sz ws).2.2) := by
  have hp := program_m (φ := φ) kept_id h0 sz ⟨ws, 0, 0, 0⟩
  have e : mS φ id ⟨ws, 0, 0, 0⟩ = ⟨ws.map (mT φ), 0, 0, 0⟩ := by simp [mS, h0]
  rw [e] at hp
  obtain ⟨q, hq⟩ : ∃ q, q = Pz.program sz ⟨ws, 0, 0, 0⟩ := ⟨_, rfl⟩
  rw [← hq] at hp
  obtain ⟨q, s⟩ := q
  have hd : (mPg φ q).body.deep = q.body.deep := deep_m φ q.body
  by_cases he : s.er = 0
  · by_cases hd2 : 200 < q.body.deep
    · rw [parseW_deep hq.symm he hd2, parseW_deep hp he (by rw [hd]; exact hd2), mPg_zero h0, h0]
    · rw [parseW_ok hq.symm he hd2, parseW_ok hp he (by rw [hd]; exact hd2), h0]
  · rw [parseW_err hq.symm he, parseW_err hp he, mPg_zero h0]
    rfl
theorem Lexes.first {p : Nat} {l : List UInt8} {ws : List Lx.Tk} {r : Option Nat} (h : Lexes p l ws r) (hs : sk l = 0) : ∀ b, ws[0]? = some b → b.pos = p := by
  cases h with
  | done => simp
  | err => simp
  | word p l x m ws r h hr =>
    intro b hb
    simp at hb
    rw [← hb]
    show p + sk l = p
    omega
theorem textF_sk {p : Nat} {l : List UInt8} {ws : List Lx.Tk} {r : Option Nat} (h : Lexes p l ws r) : sk (textF ws) = 0 := by
  cases ws with
  | nil => simp [textF, sk, Lx.skipN]
  | cons x t => exact (h.ok x (by simp)).sk0 _
/-- What the words written again are, and what is parsed of them. -/
theorem parse_text {B : List UInt8} {ws : List Lx.Tk} (hB : B.length ≤ 1048576) (hT : (textF ws).length ≤ 1048576) (h : Lexes 0 B ws none) :
    ∃ ws1, lexR (textF ws) = (ws1, 0, 0) ∧ ws1 = ws.map (mT (movF (textF ws).length ws ws1)) ∧ movF (textF ws).length ws ws1 0 = 0 ∧ movF (textF ws).length ws ws1 B.length = (textF ws).length ∧
      parseR (textF ws) = (mPg (movF (textF ws).length ws ws1) (parseR B).1, movF (textF ws).length ws ws1 (parseR B).2.1, (parseR B).2.2) := by
  obtain ⟨ws1, h1, h2⟩ := lex_text h
  have hs0 : B.length = 0 → (textF ws).length = 0 := fun hz => by
    cases ws with
    | nil => rfl
    | cons x t => have := h.pos_lt x (by simp); omega
  obtain ⟨m1, m2, m3⟩ := movF_spec (sz := B.length) (sz1 := (textF ws).length) h.rise h2 (h1.first (textF_sk h)) (fun x hx => by have := h.pos_lt x hx; omega) hs0
  refine ⟨ws1, lexR_ok hT h1, m3, m1, m2, ?_⟩
  rw [parseR_ok (lexR_ok hT h1), parseR_ok (lexR_ok hB h)]
  have := parseW_m (φ := movF (textF ws).length ws ws1) m1 B.length ws
  rw [m2, ← m3] at this
  exact this
end Go.Proofs.YtnkfkaahjplnmaaGreatDoor

/- What faults the parser tells, and where. -/
namespace Go.Proofs.YtnkfkaahjplnmaaGreatDoor
open Pz

open Classical in
/-- Stays at some places alone. -/
noncomputable def staysF (S : Nat → Prop) (x : Nat) : Nat := if S x then x else x + 1
theorem staysF_in {S : Nat → Prop} {x : Nat} (h : S x) : staysF S x = x := if_pos h
theorem staysF_of {S : Nat → Prop} {x : Nat} (h : staysF S x = x) : S x := by
  unfold staysF at h
  split at h
  · assumption
  · omega
theorem mT_stays {S : Nat → Prop} {ws : List Lx.Tk} (h : ∀ x ∈ ws, S x.pos) : ws.map (mT (staysF S)) = ws := by
  induction ws with
  | nil => rfl
  | cons x r ih =>
    rw [List.map_cons, ih (fun y hy => h y (by simp [hy]))]
    congr 1
    obtain ⟨a, b, c, d⟩ := x
    have hd := h ⟨a, b, c, d⟩ (by simp)
    simp only [mT, staysF_in hd]
/-- A fault is the parser's own, at a word, at the end, or nowhere. -/
theorem program_tells (sz : Nat) (ws : List Lx.Tk) : ((Pz.program sz ⟨ws, 0, 0, 0⟩).2.er = 0 ∨ (Pz.program sz ⟨ws, 0, 0, 0⟩).2.er = 3 ∨ (Pz.program sz ⟨ws, 0, 0, 0⟩).2.er = 6) ∧
    ((Pz.program sz ⟨ws, 0, 0, 0⟩).2.at_ = 0 ∨ (Pz.program sz ⟨ws, 0, 0, 0⟩).2.at_ = sz ∨ ∃ x ∈ ws, x.pos = (Pz.program sz ⟨ws, 0, 0, 0⟩).2.at_) := by
  have hk : Kept (staysF fun x => x = 0 ∨ x = 3 ∨ x = 6) := ⟨fun x => by unfold staysF; split <;> rename_i h <;> omega, staysF_in (.inr (.inl rfl)), staysF_in (.inr (.inr rfl))⟩
  have h0 : staysF (fun x => x = 0 ∨ x = sz ∨ ∃ y ∈ ws, y.pos = x) 0 = 0 := staysF_in (.inl rfl)
  have hz : staysF (fun x => x = 0 ∨ x = sz ∨ ∃ y ∈ ws, y.pos = x) sz = sz := staysF_in (.inr (.inl rfl))
  have hp := program_m (φ := staysF (fun x => x = 0 ∨ x = sz ∨ ∃ y ∈ ws, y.pos = x)) hk h0 sz ⟨ws, 0, 0, 0⟩
  have e : mS (staysF (fun x => x = 0 ∨ x = sz ∨ ∃ y ∈ ws, y.pos = x)) (staysF fun x => x = 0 ∨ x = 3 ∨ x = 6) ⟨ws, 0, 0, 0⟩ = ⟨ws, 0, 0, 0⟩ := by
    unfold mS
    simp only [h0]
    rw [mT_stays (fun x hx => .inr (.inr ⟨x, hx, rfl⟩)), staysF_in (S := fun x => x = 0 ∨ x = 3 ∨ x = 6) (.inl rfl)]
  rw [e, hz] at hp
  have h2 := congrArg (·.2.er) hp
  have h3 := congrArg (·.2.at_) hp
  simp only [mS] at h2 h3
  exact ⟨staysF_of h2.symm, staysF_of h3.symm⟩
/-- What Parse tells of words: all is well, or a fault of its own, at a word, at the end, or nowhere. -/
theorem parseW_tells (sz : Nat) (ws : List Lx.Tk) : ((parseW sz ws).2.2 = 0 ∧ (parseW sz ws).2.1 = 0 ∧ (parseW sz ws).1.body.deep ≤ 200) ∨
    (((parseW sz ws).2.2 = 3 ∨ (parseW sz ws).2.2 = 6) ∧ ((parseW sz ws).2.1 = 0 ∨ (parseW sz ws).2.1 = sz ∨ ∃ x ∈ ws, x.pos = (parseW sz ws).2.1)) := by
  obtain ⟨t1, t2⟩ := program_tells sz ws
  obtain ⟨q, hq⟩ : ∃ q, q = Pz.program sz ⟨ws, 0, 0, 0⟩ := ⟨_, rfl⟩
  rw [← hq] at t1 t2
  obtain ⟨q, s⟩ := q
  by_cases he : s.er = 0
  · by_cases hd2 : 200 < q.body.deep
    · rw [parseW_deep hq.symm he hd2]
      exact .inr ⟨.inr rfl, .inl rfl⟩
    · rw [parseW_ok hq.symm he hd2]
      exact .inl ⟨rfl, rfl, by show q.body.deep ≤ 200; omega⟩
  · rw [parseW_err hq.symm he]
    exact .inr ⟨t1.resolve_left he, t2⟩
end Go.Proofs.YtnkfkaahjplnmaaGreatDoor

/- How long the words written again are. -/
namespace Go.Proofs.YtnkfkaahjplnmaaGreatDoor

theorem Lexes.size {p : Nat} {l : List UInt8} {ws : List Lx.Tk} {r : Option Nat} (h : Lexes p l ws r) : (ws.map fun x => (wB x).length + 1).sum ≤ 2 * l.length := by
  induction h with
  | done => simp
  | err => simp
  | word p l x m ws r h hr ih =>
    have hb := firstF_bound h
    have hm := (first_ok h (p + sk l)).2
    simp only [List.length_drop] at hb ih
    have e : wB (atPos x (p + sk l)) = wB x := rfl
    simp only [List.map_cons, List.sum_cons]
    rw [e]
    omega
theorem textF_len (ws : List Lx.Tk) : (textF ws).length ≤ (ws.map fun x => (wB x).length + 1).sum := by
  cases ws with
  | nil => simp [textF]
  | cons x r =>
    simp only [textF, List.length_append, List.length_flatMap, List.map_cons, List.sum_cons, List.length_cons]
    omega
end Go.Proofs.YtnkfkaahjplnmaaGreatDoor
