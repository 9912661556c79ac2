/- What Lex answers, as a plain function on lists of bytes, and first facts of it. -/
import Derived.Test.YtgffhjcnfjgpnaaDoorWalkG
namespace Go.Proofs.YtgffhjcnfjgpnaaDoor

def sk (l : List UInt8) : Nat := Lx.skipN false l
def atPos (x : Lx.Tk) (a : Nat) : Lx.Tk := ⟨x.k, x.t, x.n, a⟩
/-- The words from byte a on, a no blank's place; or where the first thing begins that is no word. -/
def lexP (l : List UInt8) : Nat → Nat → List Lx.Tk × Option Nat
  | 0, _ => ([], none)
  | f + 1, a =>
    if l.length ≤ a then ([], none)
    else match firstF (l.drop a) with
      | none => ([], some a)
      | some (x, m) => (atPos x a :: (lexP l f (a + m + sk (l.drop (a + m)))).1, (lexP l f (a + m + sk (l.drop (a + m)))).2)
def lexAll (l : List UInt8) : List Lx.Tk × Option Nat := lexP l (l.length + 1) (sk l)
def lexR (l : List UInt8) : List Lx.Tk × Nat × Nat :=
  if 1048576 < l.length then ([], 0, 6)
  else match lexAll l with
    | (ws, none) => (ws, 0, 0)
    | (_, some p) => ([], p, 2)

theorem firstF_cases {l : List UInt8} {x : Lx.Tk} {m : Nat} (h : firstF l = some (x, m)) : ∃ k, k < 18 ∧ begF k l = true ∧ readF k l = some (x, m) ∧ ∀ j, j < k → begF j l = false := by
  unfold firstF at h
  rcases hf : (List.range 18).find? (fun k => begF k l) with _ | k
  · rw [hf] at h; cases h
  · rw [hf] at h
    rw [List.find?_range_eq_some] at hf
    obtain ⟨h1, h2, h3⟩ := hf
    exact ⟨k, by simpa using h2, h1, h, fun j hj => by simpa using h3 j hj⟩
theorem headIn_pos {d l : List UInt8} (h : headIn d l = true) : 0 < Lx.spanN (Lx.inB d) l := by
  match l, h with
  | c :: r, h => rw [Lx.spanN, if_pos (show Lx.inB d c = true from h)]; omega
theorem sgn_pos : ∀ k, k < 16 → 0 < (sgn k).length := by decide
theorem headLet_pos {l : List UInt8} (h : headIn Lx.lets l = true) : 0 < insN l := by
  match l, h with
  | c :: r, h => rw [insN, Lx.spanN, if_pos (lets_inss _ h)]; omega
theorem firstF_bound {l : List UInt8} {x : Lx.Tk} {m : Nat} (h : firstF l = some (x, m)) : 0 < m ∧ m ≤ l.length := by
  obtain ⟨k, hk, hb, hr, _⟩ := firstF_cases h
  match k, hk, hb, hr with
  | 0, _, hb, hr =>
    have h1 : 0 < digN l := headIn_pos hb
    have h2 : digN l ≤ l.length := spanN_le _ _
    simp only [readF, Lx.numF] at hr
    split at hr
    · simp only [Option.some.injEq, Prod.mk.injEq] at hr; omega
    · cases hr
  | 1, _, hb, hr =>
    have h1 : 0 < insN l := headLet_pos hb
    have h2 : insN l ≤ l.length := spanN_le _ _
    simp only [readF, Lx.nameF] at hr
    split at hr
    · cases hr
    split at hr
    · simp only [Option.some.injEq, Prod.mk.injEq] at hr; omega
    split at hr
    · simp only [Option.some.injEq, Prod.mk.injEq] at hr; omega
    split at hr
    · rename_i hp
      simp only [Option.some.injEq, Prod.mk.injEq] at hr
      have := (List.isPrefixOf_iff_prefix.1 hp).length_le
      simp at this
      omega
    · simp only [Option.some.injEq, Prod.mk.injEq] at hr; omega
  | k + 2, hk, hb, hr =>
    simp only [readF, Option.some.injEq, Prod.mk.injEq] at hr
    have h1 := sgn_pos k (by omega)
    have := (List.isPrefixOf_iff_prefix.1 hb).length_le
    omega
theorem skipN_le : ∀ (l : List UInt8) (b : Bool), Lx.skipN b l ≤ l.length := by
  intro l
  induction l with
  | nil => intro b; cases b <;> simp [Lx.skipN]
  | cons c r ih =>
    intro b
    have h1 := ih false
    have h2 := ih true
    cases b <;> simp only [Lx.skipN, List.length_cons]
    · split
      · omega
      · split <;> omega
    · split <;> omega
theorem sk_le (l : List UInt8) (a : Nat) (h : a ≤ l.length) : a + sk (l.drop a) ≤ l.length := by
  have := skipN_le (l.drop a) false
  simp at this
  unfold sk; omega
end Go.Proofs.YtgffhjcnfjgpnaaDoor
