/- Plain facts on the words of a source: read from left to right; cut; joined; written again. -/
import Derived.Test.YtgffhjcnfjgpnaaDoorPureA
namespace Go.Proofs.YtgffhjcnfjgpnaaDoor

/-- The words of a text whose first byte is byte p of the source; or where the first thing begins that is none. -/
inductive Lexes : Nat → List UInt8 → List Lx.Tk → Option Nat → Prop
  | done (p : Nat) (l : List UInt8) (h : l.drop (sk l) = []) : Lexes p l [] none
  | err (p : Nat) (l : List UInt8) (h0 : l.drop (sk l) ≠ []) (h : firstF (l.drop (sk l)) = none) : Lexes p l [] (some (p + sk l))
  | word (p : Nat) (l : List UInt8) (x : Lx.Tk) (m : Nat) (ws : List Lx.Tk) (r : Option Nat) (h : firstF (l.drop (sk l)) = some (x, m)) (hr : Lexes (p + sk l + m) (l.drop (sk l + m)) ws r) :
      Lexes p l (atPos x (p + sk l) :: ws) r

theorem lexP_lexes (l : List UInt8) : ∀ (f a : Nat), l.length < f + (a + sk (l.drop a)) → a ≤ l.length → Lexes a (l.drop a) (lexP l f (a + sk (l.drop a))).1 (lexP l f (a + sk (l.drop a))).2 := by
  intro f
  induction f with
  | zero =>
    intro a h ha
    have := sk_le l a ha
    omega
  | succ f ih =>
    intro a h ha
    have hs := sk_le l a ha
    have hd : (l.drop a).drop (sk (l.drop a)) = l.drop (a + sk (l.drop a)) := by rw [List.drop_drop]
    by_cases hend : l.length ≤ a + sk (l.drop a)
    · rw [lexP_end l _ _ hend]
      exact .done _ _ (by rw [hd]; exact List.drop_of_length_le hend)
    · rcases res_cases (firstF (l.drop (a + sk (l.drop a)))) with ho | ⟨x, m, ho⟩
      · rw [lexP_none l _ _ (by omega) h ho]
        refine .err _ _ ?_ (by rw [hd]; exact ho)
        rw [hd]; intro e
        have := congrArg List.length e
        simp at this; omega
      · rw [lexP_some l _ _ (by omega) h ho]
        have hb := firstF_bound ho
        simp only [List.length_drop] at hb
        refine .word _ _ x m _ _ (by rw [hd]; exact ho) ?_
        have e : (l.drop a).drop (sk (l.drop a) + m) = l.drop (a + sk (l.drop a) + m) := by rw [List.drop_drop]; congr 1; omega
        rw [e]
        exact ih (a + sk (l.drop a) + m) (by omega) (by omega)
theorem lexAll_lexes (l : List UInt8) : Lexes 0 l (lexAll l).1 (lexAll l).2 := by
  have := lexP_lexes l (l.length + 1) 0 (by omega) (Nat.zero_le _)
  simpa [lexAll] using this
theorem Lexes.det {p : Nat} {l : List UInt8} {ws ws' : List Lx.Tk} {r r' : Option Nat} (h : Lexes p l ws r) : Lexes p l ws' r' → ws = ws' ∧ r = r' := by
  induction h generalizing ws' r' with
  | done p l h =>
    intro k
    cases k with
    | done => exact ⟨rfl, rfl⟩
    | err _ _ h0 => exact absurd h h0
    | word _ _ x m _ _ h1 => rw [h] at h1; have := firstF_bound h1; simp at this; omega
  | err p l h0 h =>
    intro k
    cases k with
    | done _ _ h1 => exact absurd h1 h0
    | err => exact ⟨rfl, rfl⟩
    | word _ _ x m _ _ h1 => rw [h] at h1; cases h1
  | word p l x m ws r h hr ih =>
    intro k
    cases k with
    | done _ _ h1 => rw [h1] at h; have := firstF_bound h; simp at this; omega
    | err _ _ h0 h1 => rw [h] at h1; cases h1
    | word _ _ x' m' _ _ h1 hr' =>
      rw [h] at h1
      simp only [Option.some.injEq, Prod.mk.injEq] at h1
      obtain ⟨rfl, rfl⟩ := h1
      obtain ⟨e1, e2⟩ := ih hr'
      exact ⟨by rw [e1], e2⟩
theorem lexes_all {l : List UInt8} {ws : List Lx.Tk} {r : Option Nat} (h : Lexes 0 l ws r) : lexAll l = (ws, r) := by
  obtain ⟨e1, e2⟩ := h.det (lexAll_lexes l)
  rw [e1, e2]
theorem lexR_ok {l : List UInt8} {ws : List Lx.Tk} (hl : l.length ≤ 1048576) (h : Lexes 0 l ws none) : lexR l = (ws, 0, 0) := by
  unfold lexR
  rw [if_neg (by omega), lexes_all h]
theorem lexR_err {l : List UInt8} {ws : List Lx.Tk} {p : Nat} (hl : l.length ≤ 1048576) (h : Lexes 0 l ws (some p)) : lexR l = ([], p, 2) := by
  unfold lexR
  rw [if_neg (by omega), lexes_all h]
/-- Any source of bounded size is words, or wrong somewhere. -/
theorem lexR_cases (l : List UInt8) (hl : l.length ≤ 1048576) : (∃ ws, lexR l = (ws, 0, 0) ∧ Lexes 0 l ws none) ∨ ∃ ws p, lexR l = ([], p, 2) ∧ Lexes 0 l ws (some p) := by
  have h := lexAll_lexes l
  rcases hr : (lexAll l).2 with _ | p
  · rw [hr] at h; exact .inl ⟨_, lexR_ok hl h, h⟩
  · rw [hr] at h; exact .inr ⟨_, p, lexR_err hl h, h⟩

theorem skip_take (b : Bool) (l : List UInt8) : ∀ n, Lx.skipN b (l.take n) = min n (Lx.skipN b l) := by
  induction l generalizing b with
  | nil => intro n; cases b <;> simp [Lx.skipN]
  | cons c r ih =>
    intro n
    cases n with
    | zero => cases b <;> simp [Lx.skipN]
    | succ n =>
      have h1 := ih false n
      have h2 := ih true n
      cases b <;> simp only [List.take_succ_cons, Lx.skipN, h1, h2]
      · split
        · omega
        · split <;> omega
      · split <;> omega
theorem sk_take (l : List UInt8) (n : Nat) : sk (l.take n) = min n (sk l) := skip_take false l n

theorem Lexes.pos_ge {p : Nat} {l : List UInt8} {ws : List Lx.Tk} {r : Option Nat} (h : Lexes p l ws r) : ∀ x ∈ ws, p + sk l ≤ x.pos := by
  induction h with
  | done => simp
  | err => simp
  | word p l x m ws r h hr ih =>
    intro y hy
    simp only [List.mem_cons] at hy
    rcases hy with rfl | hy
    · exact Nat.le_refl _
    · have := ih y hy; omega
/-- Cut ahead of a word: the words ahead of it. -/
theorem Lexes.cut {p : Nat} {l : List UInt8} {ws : List Lx.Tk} (h : Lexes p l ws none) : ∀ (k : Nat) (x : Lx.Tk), ws[k]? = some x → Lexes p (l.take (x.pos - p)) (ws.take k) none := by
  generalize hr : (none : Option Nat) = r at h
  induction h with
  | done => intro k x hx; simp at hx
  | err => cases hr
  | word p l y m ws r h hl ih =>
    subst hr
    intro k x hx
    cases k with
    | zero =>
      simp at hx; subst hx
      refine .done _ _ ?_
      rw [sk_take, show (atPos y (p + sk l)).pos = p + sk l from rfl]
      apply List.drop_of_length_le
      rw [List.length_take]; omega
    | succ k =>
      have hx' : ws[k]? = some x := by simpa using hx
      have hge := hl.pos_ge x (List.mem_of_getElem? hx')
      have := ih rfl k x hx'
      rw [List.take_succ_cons]
      have hsk : sk (l.take (x.pos - p)) = sk l := by rw [sk_take]; omega
      have := Lexes.word p (l.take (x.pos - p)) y m (ws.take k) none (by
        rw [hsk, List.drop_take]
        exact first_take h (by omega)) (by
        rw [hsk, List.drop_take]
        have e : x.pos - p - (sk l + m) = x.pos - (p + sk l + m) := by omega
        rw [e]; exact this)
      rw [hsk] at this
      exact this
end Go.Proofs.YtgffhjcnfjgpnaaDoor
