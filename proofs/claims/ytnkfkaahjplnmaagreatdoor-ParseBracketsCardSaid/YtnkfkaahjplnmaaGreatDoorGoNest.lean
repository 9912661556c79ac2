/- Plain facts on Pz: what is read of terms nested in one way. -/
import Derived.Test.YtnkfkaahjplnmaaGreatDoorGaPure
import Derived.Test.YtnkfkaahjplnmaaGreatDoorGdText
namespace Go.Proofs.YtnkfkaahjplnmaaGreatDoor
namespace Pz
open Lx

/-- Nothing but the end, a bracket that shuts, or in, then, else comes next. -/
def Cl (s : St) : Prop := s.ws = [] ∨ ∃ k t n p r, s.ws = ⟨k, t, n, p⟩ :: r ∧ (k = 4 ∨ k = 5) ∧ (t = tIn ∨ t = tThen ∨ t = tElse ∨ t = tShut)

theorem Cl.isOf {s : St} (h : Cl s) (ks : List Nat) (h4 : ks.contains 4 = false) (h5 : ks.contains 5 = false) : isOf ks s = false := by
  unfold Pz.isOf
  rcases h with h | ⟨k, t, n, p, r, h, hk, _⟩ <;> rw [h]
  rcases hk with rfl | rfl <;> assumption
theorem Cl.isT {s : St} (h : Cl s) (ts : List Str) (h1 : ts.contains tIn = false) (h2 : ts.contains tThen = false) (h3 : ts.contains tElse = false) (h4 : ts.contains tShut = false) : isT ts s = false := by
  unfold Pz.isT
  rcases h with h | ⟨k, t, n, p, r, h, _, ht⟩ <;> rw [h]
  simp only [Bool.and_eq_false_iff]
  right
  rcases ht with rfl | rfl | rfl | rfl <;> assumption
theorem cl_nil {s : St} (h : s.ws = []) : Cl s := .inl h
theorem cl_word {s : St} {k n p : Nat} {t : Str} {r : List Tk} (h : s.ws = ⟨k, t, n, p⟩ :: r) (hk : k = 4 ∨ k = 5) (ht : t = tIn ∨ t = tThen ∨ t = tElse ∨ t = tShut) : Cl s := .inr ⟨k, t, n, p, r, h, hk, ht⟩

section
variable {sz : Nat} {ex : St → Tm × St}
theorem Cl.atom {s : St} (h : Cl s) : atom sz ex s = (none, s) := by
  unfold Pz.atom
  dsimp only
  rw [h.isOf [1] rfl rfl, h.isT [tTrue] rfl rfl rfl rfl, h.isT [tFalse] rfl rfl rfl rfl, h.isOf [2] rfl rfl, h.isOf [3] rfl rfl, h.isT [tRead] rfl rfl rfl rfl, h.isT [tOpen] rfl rfl rfl rfl]
  rfl
theorem app_one {s s1 : St} {t : Tm} (h : Pz.atom sz ex s = (some t, s1)) (hc : Cl s1) : app sz ex s = (t, s1) := by
  unfold app
  rw [h]
  dsimp only
  unfold appMore
  rw [hc.atom]
theorem ahead_none {s : St} (h : pre s = false) (n : Nat) : ahead n s = ([], s) := by
  cases n with
  | zero => rfl
  | succ n => unfold ahead; rw [h]; rfl
theorem unary_none {s s1 : St} {t : Tm} (hp : pre s = false) (h : app sz ex s = (t, s1)) : unary sz ex s = (t, s1) := by
  unfold unary
  rw [ahead_none hp]
  dsimp only
  rw [h]
  rfl
theorem often_none {side : St → Tm × St} {ss : List Str} {s s1 : St} {t : Tm} (h : side s = (t, s1)) (h1 : isT ss s1 = false) : often side ss s = (t, s1) := by
  unfold often
  rw [h]
  dsimp only
  cases s1.ws.length with
  | zero => rfl
  | succ n => unfold oftenMore; rw [h1]; rfl
theorem once_none {side : St → Tm × St} {ss : List Str} {s s1 : St} {t : Tm} (h : side s = (t, s1)) (h1 : isT ss s1 = false) : once side ss s = (t, s1) := by
  unfold once
  rw [h]
  dsimp only
  rw [h1]
  rfl
theorem assign_of {s s1 : St} {t : Tm} (h : unary sz ex s = (t, s1)) (hc : Cl s1) : assign sz ex s = (t, s1) :=
  once_none (once_none (often_none (often_none h (hc.isT _ rfl rfl rfl rfl)) (hc.isT _ rfl rfl rfl rfl)) (hc.isT _ rfl rfl rfl rfl)) (hc.isT _ rfl rfl rfl rfl)
theorem here_of {s s1 : St} {t : Tm} (hk : ∀ a ∈ [tFun, tLet, tRec, tIf, tMatch, tHandle], isT [a] s = false) (h : assign sz ex s = (t, s1)) : exprHere sz ex s = (t, s1) := by
  unfold exprHere
  dsimp only
  rw [hk tFun (by simp), hk tLet (by simp), hk tRec (by simp), hk tIf (by simp), hk tMatch (by simp), hk tHandle (by simp)]
  exact h
/-- A number alone. -/
theorem here_int {t : Str} {n p wi at_ er : Nat} {r : List Tk} (hc : Cl ⟨r, wi, at_, er⟩) : exprHere sz ex ⟨⟨1, t, n, p⟩ :: r, wi, at_, er⟩ = (.mk 2 p [] [] n [] [], ⟨r, wi, at_, er⟩) :=
  here_of (by intro a _; rfl) (assign_of (unary_none rfl (app_one (by rfl) hc)) hc)
theorem here_true {n p wi at_ er : Nat} {r : List Tk} (hc : Cl ⟨r, wi, at_, er⟩) : exprHere sz ex ⟨⟨4, tTrue, n, p⟩ :: r, wi, at_, er⟩ = (.mk 3 p [] [] 1 [] [], ⟨r, wi, at_, er⟩) :=
  here_of (by intro a ha; simp only [List.mem_cons, List.not_mem_nil, or_false] at ha; rcases ha with rfl | rfl | rfl | rfl | rfl | rfl <;> rfl) (assign_of (unary_none rfl (app_one (by rfl) hc)) hc)
theorem step_ok {s : St} (h : s.wi ≤ 200) : exprStep sz ex s = ((exprHere sz ex { s with wi := s.wi + 1 }).1, { (exprHere sz ex { s with wi := s.wi + 1 }).2 with wi := (exprHere sz ex { s with wi := s.wi + 1 }).2.wi - 1 }) := by
  unfold exprStep
  rw [if_neg (by omega)]
theorem step_over {s : St} (h : 200 < s.wi) : exprStep sz ex s = (.zero, fail sz 6 s) := by
  unfold exprStep
  rw [if_pos h]
end

/-- Too deep: nothing left. -/
def TooD (s : St) : Prop := s.ws = [] ∧ s.er = 6
theorem TooD.fail {sz e : Nat} {s : St} (h : TooD s) : fail sz e s = s := by unfold Pz.fail; rw [if_neg (by rw [h.2]; decide)]
theorem TooD.must1 {sz : Nat} {t : Str} {s : St} (h : TooD s) : must1 sz t s = s := by
  unfold Pz.must1
  rw [isT_none (by rw [h.1]; rfl), if_neg (by decide), h.fail]
theorem TooD.cl {s : St} (h : TooD s) : Cl s := .inl h.1
/-- What is too deep stays so. -/
theorem TooD.step {sz f : Nat} {s : St} (h : TooD s) (hf : 0 < f) (hw : 200 < s.wi) : expr sz f s = (.zero, s) := by
  obtain ⟨f, rfl⟩ : ∃ g, f = g + 1 := ⟨f - 1, by omega⟩
  show exprStep sz _ s = _
  rw [step_over hw, h.fail]
theorem over_bad {sz f : Nat} {ws : List Tk} {wi at_ : Nat} (hf : 0 < f) (hw : 200 < wi) : ∃ s1, expr sz f ⟨ws, wi, at_, 0⟩ = (.zero, s1) ∧ TooD s1 ∧ s1.wi = wi := by
  obtain ⟨f, rfl⟩ : ∃ g, f = g + 1 := ⟨f - 1, by omega⟩
  exact ⟨_, step_over hw, ⟨rfl, rfl⟩, rfl⟩
theorem expr_int {sz f : Nat} {t : Str} {n p wi at_ : Nat} {r : List Tk} (hf : 0 < f) (hw : wi ≤ 200) (hc : ∀ w, Cl ⟨r, w, at_, 0⟩) : expr sz f ⟨⟨1, t, n, p⟩ :: r, wi, at_, 0⟩ = (.mk 2 p [] [] n [] [], ⟨r, wi, at_, 0⟩) := by
  obtain ⟨f, rfl⟩ : ∃ g, f = g + 1 := ⟨f - 1, by omega⟩
  show exprStep sz _ _ = _
  rw [step_ok hw]
  dsimp only
  rw [here_int (hc _)]
  rfl
theorem expr_true {sz f : Nat} {n p wi at_ : Nat} {r : List Tk} (hf : 0 < f) (hw : wi ≤ 200) (hc : ∀ w, Cl ⟨r, w, at_, 0⟩) : expr sz f ⟨⟨4, tTrue, n, p⟩ :: r, wi, at_, 0⟩ = (.mk 3 p [] [] 1 [] [], ⟨r, wi, at_, 0⟩) := by
  obtain ⟨f, rfl⟩ : ∃ g, f = g + 1 := ⟨f - 1, by omega⟩
  show exprStep sz _ _ = _
  rw [step_ok hw]
  dsimp only
  rw [here_true (hc _)]
  rfl

/-- The words of n things of one way, then a number. -/
inductive Ne : Nat → Nat → List Tk → List Tk → Prop
  | one (k : Nat) (t : Str) (v p : Nat) (tl : List Tk) : Ne k 0 (⟨1, t, v, p⟩ :: tl) tl
  | «fun» (n p q r : Nat) (ws tl : List Tk) (h : Ne 0 n ws tl) : Ne 0 (n + 1) (⟨4, tFun, 0, p⟩ :: ⟨2, [120], 0, q⟩ :: ⟨5, tArrow, 0, r⟩ :: ws) tl
  | «let» (n p q r u v : Nat) (ws tl : List Tk) (h : Ne 1 n ws tl) : Ne 1 (n + 1) (⟨4, tLet, 0, p⟩ :: ⟨2, [120], 0, q⟩ :: ⟨5, tEq, 0, r⟩ :: ⟨1, [49], 1, u⟩ :: ⟨4, tIn, 0, v⟩ :: ws) tl
  | «if» (n p q r u v : Nat) (ws tl : List Tk) (h : Ne 2 n ws tl) : Ne 2 (n + 1) (⟨4, tIf, 0, p⟩ :: ⟨4, tTrue, 0, q⟩ :: ⟨4, tThen, 0, r⟩ :: ⟨1, [48], 0, u⟩ :: ⟨4, tElse, 0, v⟩ :: ws) tl
  | bang (n p : Nat) (ws tl : List Tk) (h : Ne 3 n ws tl) : Ne 3 (n + 1) (⟨5, tBang, 0, p⟩ :: ws) tl
  | print (n p : Nat) (ws tl : List Tk) (h : Ne 4 n ws tl) : Ne 4 (n + 1) (⟨4, tPrint, 0, p⟩ :: ws) tl
  | con (n p q : Nat) (ws tl : List Tk) (h : Ne 5 n ws tl) : Ne 5 (n + 1) (⟨3, [67], 0, p⟩ :: ⟨5, tOpen, 0, q⟩ :: ws) tl
  | get (n p : Nat) (ws tl : List Tk) (h : Ne 6 n ws tl) : Ne 6 (n + 1) (⟨6, [103, 101, 116], 0, p⟩ :: ws) tl
theorem Ne.len {k n : Nat} {ws tl : List Tk} (h : Ne k n ws tl) : n < ws.length := by
  induction h <;> simp only [List.length_cons] at * <;> omega

/-- Nothing but brackets that shut. -/
def Sh : List Tk → Prop
  | [] => True
  | x :: r => x.k = 5 ∧ x.t = tShut ∧ Sh r
theorem Sh.cl {l : List Tk} (h : Sh l) (wi at_ er : Nat) : Cl ⟨l, wi, at_, er⟩ := by
  match l, h with
  | [], _ => exact .inl rfl
  | ⟨k, t, n, p⟩ :: r, h => exact .inr ⟨k, t, n, p, r, rfl, .inr h.1, .inr (.inr (.inr h.2.1))⟩
theorem Sh.drop {l : List Tk} : ∀ (n : Nat), Sh l → Sh (l.drop n) := by
  induction l with
  | nil => intro n _; simp [Sh]
  | cons x r ih =>
    intro n h
    cases n with
    | zero => exact h
    | succ n => exact ih n h.2.2

/-- What is left of the brackets that shut. -/
def out (k n : Nat) (tl : List Tk) : List Tk := if k = 5 then tl.drop n else tl
theorem out_cl {k n : Nat} {tl : List Tk} (h : Sh tl) (wi at_ er : Nat) : Cl ⟨out k n tl, wi, at_, er⟩ := by
  unfold out
  split
  · exact (h.drop n).cl _ _ _
  · exact h.cl _ _ _

/-- What an expr answers of such words: it is read, or too deep. -/
def Nested (k n : Nat) (tl : List Tk) (wi at_ : Nat) (r : Tm × St) : Prop :=
  (wi + n ≤ 200 ∧ r.2 = ⟨out k n tl, wi, at_, 0⟩ ∧ r.1.deep = n + 1) ∨ (200 < wi + n ∧ TooD r.2)
theorem Nested.wi_out {k n : Nat} {tl : List Tk} {wi at_ : Nat} {r : Tm × St} (h : Nested k n tl wi at_ r) (ht : Sh tl) : Cl r.2 := by
  rcases h with ⟨_, h, _⟩ | ⟨_, h⟩
  · rw [h]; exact out_cl ht _ _ _
  · exact h.cl
/-- How an expr answers when what stands within it does. -/
theorem nested_step {sz f k n : Nat} {tl : List Tk} {ws : List Tk} {wi at_ : Nat} {t : Tm} {s1 : St} (hw : wi ≤ 200) (h : exprHere sz (expr sz f) ⟨ws, wi + 1, at_, 0⟩ = (t, s1))
    (hr : (wi + 1 + n ≤ 200 ∧ s1 = ⟨out k (n + 1) tl, wi + 1, at_, 0⟩ ∧ t.deep = n + 1 + 1) ∨ (200 < wi + 1 + n ∧ TooD s1)) : Nested k (n + 1) tl wi at_ (expr sz (f + 1) ⟨ws, wi, at_, 0⟩) := by
  show Nested k (n + 1) tl wi at_ (exprStep sz _ _)
  rw [step_ok hw]
  dsimp only
  rw [h]
  rcases hr with ⟨h1, h2, h3⟩ | ⟨h1, h2⟩
  · exact .inl ⟨by omega, by rw [h2]; rfl, h3⟩
  · exact .inr ⟨by omega, h2.1, h2.2⟩
end Pz
end Go.Proofs.YtnkfkaahjplnmaaGreatDoor

/- Plain facts on Pz: what Parse reads of terms nested in one way. -/
namespace Go.Proofs.YtnkfkaahjplnmaaGreatDoor
namespace Pz
open Lx

theorem sh_shut {sz : Nat} {s : St} {l : List Tk} (h : Sh l) (hl : 0 < l.length) (hs : s.ws = l) : must1 sz tShut s = { s with ws := l.drop 1 } := by
  obtain ⟨ws, wi, at_, er⟩ := s
  dsimp only at hs
  subst hs
  match ws, h, hl with
  | ⟨k, t, n, p⟩ :: r, h, _ =>
    obtain ⟨hk, ht, _⟩ := h
    dsimp only at hk ht
    subst hk
    subst ht
    rfl

/-- What stands in brackets behind a name. -/
theorem con_here {sz n p q wi at_ : Nat} {ex : St → Tm × St} {ws tl : List Tk} (hsh : isT [tShut] ⟨ws, wi, at_, 0⟩ = false) (ht : Sh tl) (hl : n + 1 ≤ tl.length) {x : Tm × St} (hx : ex ⟨ws, wi, at_, 0⟩ = x)
    (h : (x.2 = ⟨out 5 n tl, wi, at_, 0⟩) ∨ TooD x.2) :
    ∃ s1, exprHere sz ex ⟨⟨3, [67], 0, p⟩ :: ⟨5, tOpen, 0, q⟩ :: ws, wi, at_, 0⟩ = (.mk 11 p [67] [] 0 [x.1] [], s1) ∧ ((x.2 = ⟨out 5 n tl, wi, at_, 0⟩ ∧ s1 = ⟨out 5 (n + 1) tl, wi, at_, 0⟩) ∨ (TooD x.2 ∧ TooD s1)) := by
  have hm : more ex tComma x.2.ws.length x.2 = ([], x.2) := by
    have hc : Cl x.2 := by
      rcases h with h | h
      · rw [h]; exact out_cl ht _ _ _
      · exact h.cl
    cases x.2.ws.length with
    | zero => rfl
    | succ m => unfold more; rw [hc.isT _ rfl rfl rfl rfl]; rfl
  have hf : fields sz ex ⟨⟨5, tOpen, 0, q⟩ :: ws, wi, at_, 0⟩ = ([x.1], must1 sz tShut x.2) := by
    unfold fields
    rw [if_pos (by rfl)]
    unfold list
    dsimp only
    rw [show must1 sz tOpen ⟨⟨5, tOpen, 0, q⟩ :: ws, wi, at_, 0⟩ = ⟨ws, wi, at_, 0⟩ from rfl, hsh, if_neg (by decide), hx, hm]
  have ha : atom sz ex ⟨⟨3, [67], 0, p⟩ :: ⟨5, tOpen, 0, q⟩ :: ws, wi, at_, 0⟩ = (some (.mk 11 p [67] [] 0 [x.1] []), must1 sz tShut x.2) := by
    show (some (Tm.mk 11 p [67] [] 0 (fields sz ex ⟨⟨5, tOpen, 0, q⟩ :: ws, wi, at_, 0⟩).1 []), (fields sz ex ⟨⟨5, tOpen, 0, q⟩ :: ws, wi, at_, 0⟩).2) = _
    rw [hf]
  have hs1 : (x.2 = ⟨out 5 n tl, wi, at_, 0⟩ ∧ must1 sz tShut x.2 = ⟨out 5 (n + 1) tl, wi, at_, 0⟩) ∨ (TooD x.2 ∧ TooD (must1 sz tShut x.2)) := by
    rcases h with h | h
    · refine .inl ⟨h, ?_⟩
      rw [sh_shut (ht.drop n) (by rw [List.length_drop]; omega) (by rw [h]; rfl), h]
      show (⟨(tl.drop n).drop 1, wi, at_, 0⟩ : St) = ⟨tl.drop (n + 1), wi, at_, 0⟩
      rw [List.drop_drop]
    · exact .inr ⟨h, by rw [h.must1]; exact h⟩
  have hc : Cl (must1 sz tShut x.2) := by
    rcases hs1 with ⟨_, h⟩ | ⟨_, h⟩
    · rw [h]; exact out_cl ht _ _ _
    · exact h.cl
  exact ⟨_, here_of (by intro a _; rfl) (assign_of (unary_none rfl (app_one ha hc)) hc), hs1⟩

theorem deep_one (k p : Nat) (a b : Str) (n : Nat) (t : Tm) : (Tm.mk k p a b n [t] []).deep = t.deep + 1 := by
  simp only [Tm.deep, deepL, deepA]; omega
theorem deep_two (k p : Nat) (a b : Str) (n : Nat) (s t : Tm) (hs : s.deep ≤ t.deep) : (Tm.mk k p a b n [s, t] []).deep = t.deep + 1 := by
  simp only [Tm.deep, deepL, deepA]; omega
theorem deep_three (k p : Nat) (a b : Str) (n : Nat) (r s t : Tm) (hr : r.deep ≤ t.deep) (hs : s.deep ≤ t.deep) : (Tm.mk k p a b n [r, s, t] []).deep = t.deep + 1 := by
  simp only [Tm.deep, deepL, deepA]; omega
theorem deep_leaf (k p : Nat) (a b : Str) (n : Nat) : (Tm.mk k p a b n [] []).deep = 1 := by simp only [Tm.deep, deepL, deepA]; omega
theorem Ne.not_shut {k n : Nat} {ws tl : List Tk} (h : Ne k n ws tl) (wi at_ er : Nat) : isT [tShut] ⟨ws, wi, at_, er⟩ = false := by
  cases h <;> rfl

theorem ne_expr (sz k : Nat) (tl : List Tk) (ht : Sh tl) (hk : k = 0 ∨ k = 1 ∨ k = 2 ∨ k = 5) : ∀ (n f : Nat) (ws : List Tk) (wi at_ : Nat), Ne k n ws tl → (k = 5 → n ≤ tl.length) → n < f → Nested k n tl wi at_ (expr sz f ⟨ws, wi, at_, 0⟩) := by
  intro n
  induction n with
  | zero =>
    intro f ws wi at_ h hl hf
    by_cases hw : 200 < wi
    · obtain ⟨s1, e1, e2, _⟩ := over_bad (sz := sz) (f := f) (ws := ws) (at_ := at_) hf hw
      rw [e1]
      exact .inr ⟨by omega, e2⟩
    · cases h with
      | one t v p =>
        rw [expr_int hf (by omega) (fun w => ht.cl w _ _)]
        refine .inl ⟨by omega, ?_, deep_leaf _ _ _ _ _⟩
        show (⟨tl, wi, at_, 0⟩ : St) = ⟨out k 0 tl, wi, at_, 0⟩
        unfold out
        split <;> rfl
  | succ n ih =>
    intro f ws wi at_ h hl hf
    by_cases hw : 200 < wi
    · obtain ⟨s1, e1, e2, _⟩ := over_bad (sz := sz) (f := f) (ws := ws) (at_ := at_) (by omega) hw
      rw [e1]
      exact .inr ⟨by omega, e2⟩
    · obtain ⟨f, rfl⟩ : ∃ g, f = g + 1 := ⟨f - 1, by omega⟩
      have hw' : wi ≤ 200 := by omega
      have hf' : n < f := by omega
      have hin := fun (w : List Tk) (hh : Ne k n w tl) (h5 : k = 5 → n ≤ tl.length) => ih f w (wi + 1) at_ hh h5 hf'
      cases h with
      | «fun» _ p q r ws _ h =>
        have hi := hin _ h (by omega)
        obtain ⟨x, hx⟩ : ∃ x, expr sz f ⟨ws, wi + 1, at_, 0⟩ = x := ⟨_, rfl⟩
        rw [hx] at hi
        refine nested_step (t := .mk 5 p [120] [] 0 [x.1] []) (s1 := x.2) hw' ?_ ?_
        · rw [← hx]; rfl
        · rcases hi with ⟨h1, h2, h3⟩ | ⟨h1, h2⟩
          · exact .inl ⟨h1, h2, by rw [deep_one, h3]⟩
          · exact .inr ⟨h1, h2⟩
      | «let» _ p q r u v ws _ h =>
        have hi := hin _ h (by omega)
        by_cases hw2 : wi = 200
        · subst hw2
          obtain ⟨s1, e1, e2, e3⟩ := over_bad (sz := sz) (f := f) (ws := ⟨1, [49], 1, u⟩ :: ⟨4, tIn, 0, v⟩ :: ws) (wi := 201) (at_ := at_) (by omega) (by omega)
          refine nested_step (t := .mk 7 p [120] [] 0 [.zero, .zero] []) (s1 := s1) hw' ?_ (.inr ⟨by omega, e2⟩)
          show (Tm.mk 7 p [120] [] 0 [(expr sz f ⟨⟨1, [49], 1, u⟩ :: ⟨4, tIn, 0, v⟩ :: ws, 201, at_, 0⟩).1, (expr sz f (must1 sz tIn (expr sz f ⟨⟨1, [49], 1, u⟩ :: ⟨4, tIn, 0, v⟩ :: ws, 201, at_, 0⟩).2)).1] [], (expr sz f (must1 sz tIn (expr sz f ⟨⟨1, [49], 1, u⟩ :: ⟨4, tIn, 0, v⟩ :: ws, 201, at_, 0⟩).2)).2) = _
          rw [e1, e2.must1, e2.step (by omega) (by omega)]
        · have e1 : expr sz f ⟨⟨1, [49], 1, u⟩ :: ⟨4, tIn, 0, v⟩ :: ws, wi + 1, at_, 0⟩ = (.mk 2 u [] [] 1 [] [], ⟨⟨4, tIn, 0, v⟩ :: ws, wi + 1, at_, 0⟩) := expr_int (by omega) (by omega) (fun w => cl_word rfl (.inl rfl) (.inl rfl))
          obtain ⟨x, hx⟩ : ∃ x, expr sz f ⟨ws, wi + 1, at_, 0⟩ = x := ⟨_, rfl⟩
          rw [hx] at hi
          refine nested_step (t := .mk 7 p [120] [] 0 [.mk 2 u [] [] 1 [] [], x.1] []) (s1 := x.2) hw' ?_ ?_
          · show (Tm.mk 7 p [120] [] 0 [(expr sz f ⟨⟨1, [49], 1, u⟩ :: ⟨4, tIn, 0, v⟩ :: ws, wi + 1, at_, 0⟩).1, (expr sz f (must1 sz tIn (expr sz f ⟨⟨1, [49], 1, u⟩ :: ⟨4, tIn, 0, v⟩ :: ws, wi + 1, at_, 0⟩).2)).1] [], (expr sz f (must1 sz tIn (expr sz f ⟨⟨1, [49], 1, u⟩ :: ⟨4, tIn, 0, v⟩ :: ws, wi + 1, at_, 0⟩).2)).2) = _
            rw [e1, show must1 sz tIn ⟨⟨4, tIn, 0, v⟩ :: ws, wi + 1, at_, 0⟩ = ⟨ws, wi + 1, at_, 0⟩ from rfl, hx]
          · rcases hi with ⟨h1, h2, h3⟩ | ⟨h1, h2⟩
            · exact .inl ⟨h1, h2, by rw [deep_two _ _ _ _ _ _ _ (by rw [deep_leaf]; omega), h3]⟩
            · exact .inr ⟨h1, h2⟩
      | «if» _ p q r u v ws _ h =>
        have hi := hin _ h (by omega)
        by_cases hw2 : wi = 200
        · subst hw2
          obtain ⟨s1, e1, e2, e3⟩ := over_bad (sz := sz) (f := f) (ws := ⟨4, tTrue, 0, q⟩ :: ⟨4, tThen, 0, r⟩ :: ⟨1, [48], 0, u⟩ :: ⟨4, tElse, 0, v⟩ :: ws) (wi := 201) (at_ := at_) (by omega) (by omega)
          obtain ⟨A, hA⟩ : ∃ A, expr sz f ⟨⟨4, tTrue, 0, q⟩ :: ⟨4, tThen, 0, r⟩ :: ⟨1, [48], 0, u⟩ :: ⟨4, tElse, 0, v⟩ :: ws, 201, at_, 0⟩ = A := ⟨_, rfl⟩
          rw [hA] at e1
          subst e1
          refine nested_step (t := .mk 9 p [] [] 0 [.zero, .zero, .zero] []) (s1 := s1) hw' ?_ (.inr ⟨by omega, e2⟩)
          show (Tm.mk 9 p [] [] 0 [(expr sz f ⟨⟨4, tTrue, 0, q⟩ :: ⟨4, tThen, 0, r⟩ :: ⟨1, [48], 0, u⟩ :: ⟨4, tElse, 0, v⟩ :: ws, 201, at_, 0⟩).1,
            (expr sz f (must1 sz tThen (expr sz f ⟨⟨4, tTrue, 0, q⟩ :: ⟨4, tThen, 0, r⟩ :: ⟨1, [48], 0, u⟩ :: ⟨4, tElse, 0, v⟩ :: ws, 201, at_, 0⟩).2)).1,
            (expr sz f (must1 sz tElse (expr sz f (must1 sz tThen (expr sz f ⟨⟨4, tTrue, 0, q⟩ :: ⟨4, tThen, 0, r⟩ :: ⟨1, [48], 0, u⟩ :: ⟨4, tElse, 0, v⟩ :: ws, 201, at_, 0⟩).2)).2)).1] [],
            (expr sz f (must1 sz tElse (expr sz f (must1 sz tThen (expr sz f ⟨⟨4, tTrue, 0, q⟩ :: ⟨4, tThen, 0, r⟩ :: ⟨1, [48], 0, u⟩ :: ⟨4, tElse, 0, v⟩ :: ws, 201, at_, 0⟩).2)).2)).2) = _
          rw [hA]
          dsimp only
          rw [e2.must1, e2.step (by omega) (by omega)]
          dsimp only
          rw [e2.must1, e2.step (by omega) (by omega)]
        · have e1 : expr sz f ⟨⟨4, tTrue, 0, q⟩ :: ⟨4, tThen, 0, r⟩ :: ⟨1, [48], 0, u⟩ :: ⟨4, tElse, 0, v⟩ :: ws, wi + 1, at_, 0⟩ = (.mk 3 q [] [] 1 [] [], ⟨⟨4, tThen, 0, r⟩ :: ⟨1, [48], 0, u⟩ :: ⟨4, tElse, 0, v⟩ :: ws, wi + 1, at_, 0⟩) := expr_true (by omega) (by omega) (fun w => cl_word rfl (.inl rfl) (.inr (.inl rfl)))
          have e2 : expr sz f ⟨⟨1, [48], 0, u⟩ :: ⟨4, tElse, 0, v⟩ :: ws, wi + 1, at_, 0⟩ = (.mk 2 u [] [] 0 [] [], ⟨⟨4, tElse, 0, v⟩ :: ws, wi + 1, at_, 0⟩) := expr_int (by omega) (by omega) (fun w => cl_word rfl (.inl rfl) (.inr (.inr (.inl rfl))))
          obtain ⟨x, hx⟩ : ∃ x, expr sz f ⟨ws, wi + 1, at_, 0⟩ = x := ⟨_, rfl⟩
          rw [hx] at hi
          refine nested_step (t := .mk 9 p [] [] 0 [.mk 3 q [] [] 1 [] [], .mk 2 u [] [] 0 [] [], x.1] []) (s1 := x.2) hw' ?_ ?_
          · show (Tm.mk 9 p [] [] 0 [(expr sz f ⟨⟨4, tTrue, 0, q⟩ :: ⟨4, tThen, 0, r⟩ :: ⟨1, [48], 0, u⟩ :: ⟨4, tElse, 0, v⟩ :: ws, wi + 1, at_, 0⟩).1,
              (expr sz f (must1 sz tThen (expr sz f ⟨⟨4, tTrue, 0, q⟩ :: ⟨4, tThen, 0, r⟩ :: ⟨1, [48], 0, u⟩ :: ⟨4, tElse, 0, v⟩ :: ws, wi + 1, at_, 0⟩).2)).1,
              (expr sz f (must1 sz tElse (expr sz f (must1 sz tThen (expr sz f ⟨⟨4, tTrue, 0, q⟩ :: ⟨4, tThen, 0, r⟩ :: ⟨1, [48], 0, u⟩ :: ⟨4, tElse, 0, v⟩ :: ws, wi + 1, at_, 0⟩).2)).2)).1] [],
              (expr sz f (must1 sz tElse (expr sz f (must1 sz tThen (expr sz f ⟨⟨4, tTrue, 0, q⟩ :: ⟨4, tThen, 0, r⟩ :: ⟨1, [48], 0, u⟩ :: ⟨4, tElse, 0, v⟩ :: ws, wi + 1, at_, 0⟩).2)).2)).2) = _
            rw [e1, show must1 sz tThen ⟨⟨4, tThen, 0, r⟩ :: ⟨1, [48], 0, u⟩ :: ⟨4, tElse, 0, v⟩ :: ws, wi + 1, at_, 0⟩ = ⟨⟨1, [48], 0, u⟩ :: ⟨4, tElse, 0, v⟩ :: ws, wi + 1, at_, 0⟩ from rfl, e2, show must1 sz tElse ⟨⟨4, tElse, 0, v⟩ :: ws, wi + 1, at_, 0⟩ = ⟨ws, wi + 1, at_, 0⟩ from rfl, hx]
          · rcases hi with ⟨h1, h2, h3⟩ | ⟨h1, h2⟩
            · exact .inl ⟨h1, h2, by rw [deep_three _ _ _ _ _ _ _ _ (by rw [deep_leaf]; omega) (by rw [deep_leaf]; omega), h3]⟩
            · exact .inr ⟨h1, h2⟩
      | con _ p q ws _ h =>
        have hi := hin _ h (by omega)
        obtain ⟨x, hx⟩ : ∃ x, expr sz f ⟨ws, wi + 1, at_, 0⟩ = x := ⟨_, rfl⟩
        rw [hx] at hi
        obtain ⟨s1, e1, e2⟩ := con_here (sz := sz) (n := n) (p := p) (q := q) (wi := wi + 1) (at_ := at_) (ex := expr sz f) (ws := ws) (tl := tl) (h.not_shut _ _ _) ht (hl rfl) hx (by
          rcases hi with ⟨h1, h2, h3⟩ | ⟨h1, h2⟩
          · exact .inl h2
          · exact .inr h2)
        refine nested_step hw' e1 ?_
        rcases hi with ⟨h1, h2, h3⟩ | ⟨h1, h2⟩
        · rcases e2 with ⟨_, e2⟩ | ⟨e2, _⟩
          · exact .inl ⟨h1, e2, by rw [deep_one, h3]⟩
          · rw [h2] at e2
            exact absurd (show (0 : Nat) = 6 from e2.2) (by decide)
        · rcases e2 with ⟨e2, _⟩ | ⟨_, e2⟩
          · rw [e2] at h2
            exact absurd (show (0 : Nat) = 6 from h2.2) (by decide)
          · exact .inr ⟨h1, e2⟩
      | bang => omega
      | print => omega
      | get => omega
end Pz
end Go.Proofs.YtnkfkaahjplnmaaGreatDoor

/- Plain facts: the words of texts nested in one way, and what a program of them is. -/
namespace Go.Proofs.YtnkfkaahjplnmaaGreatDoor
open Pz

theorem Lexes.blank {p : Nat} {l : List UInt8} {ws : List Lx.Tk} {r : Option Nat} (h : Lexes (p + 1) l ws r) : Lexes p (32 :: l) ws r := by
  have hs : sk (32 :: l) = sk l + 1 := by show 1 + Lx.skipN false l = _; unfold sk; omega
  have hd : ∀ m, (32 :: l).drop (sk l + 1 + m) = l.drop (sk l + m) := fun m => by rw [show sk l + 1 + m = (sk l + m) + 1 by omega]; rfl
  cases h with
  | done _ _ h => exact .done _ _ (by rw [hs]; exact h)
  | err _ _ h0 h => 
    have := Lexes.err p (32 :: l) (by rw [hs]; exact h0) (by rw [hs]; exact h)
    rw [hs] at this
    rw [show p + 1 + sk l = p + (sk l + 1) by omega]
    exact this
  | word _ _ x m ws r h hr =>
    have := Lexes.word p (32 :: l) x m ws r (by rw [hs]; exact h) (by rw [hs, hd, show p + (sk l + 1) + m = p + 1 + sk l + m by omega]; exact hr)
    rw [hs] at this
    rw [show p + 1 + sk l = p + (sk l + 1) by omega]
    exact this
theorem Lexes.tok {p : Nat} {l : List UInt8} {x : Lx.Tk} {m : Nat} {ws : List Lx.Tk} {r : Option Nat} (hs : sk l = 0) (h : firstF l = some (x, m)) (hr : Lexes (p + m) (l.drop m) ws r) : Lexes p l (atPos x p :: ws) r := by
  have := Lexes.word p l x m ws r (by rw [hs]; exact h) (by rw [hs, Nat.zero_add]; exact hr)
  rw [hs] at this
  exact this

def beg : Nat → List UInt8
  | 0 => [102, 117, 110, 32, 120, 32, 45, 62, 32]
  | 1 => [108, 101, 116, 32, 120, 32, 61, 32, 49, 32, 105, 110, 32]
  | 2 => [105, 102, 32, 116, 114, 117, 101, 32, 116, 104, 101, 110, 32, 48, 32, 101, 108, 115, 101, 32]
  | 3 => [33, 32]
  | 4 => [112, 114, 105, 110, 116, 32]
  | 5 => [67, 40]
  | _ => [103, 101, 116, 33, 32]
def nestB (b tl : List UInt8) : Nat → List UInt8
  | 0 => 49 :: tl
  | n + 1 => b ++ nestB b tl n
theorem nestB_snoc (b tl r : List UInt8) : ∀ n, nestB b tl n ++ r = nestB b (tl ++ r) n
  | 0 => rfl
  | n + 1 => by unfold nestB; rw [List.append_assoc, nestB_snoc b tl r n]
theorem nestB_len (b tl : List UInt8) : ∀ n, (nestB b tl n).length = n * b.length + 1 + tl.length
  | 0 => by unfold nestB; rw [List.length_cons]; omega
  | n + 1 => by unfold nestB; rw [List.length_append, nestB_len b tl n, Nat.succ_mul]; omega

set_option maxRecDepth 10000 in
theorem lex_shuts : ∀ (m p : Nat), ∃ ws, Lexes p (List.replicate m 41) ws none ∧ Sh ws ∧ ws.length = m
  | 0, p => ⟨[], .done _ _ rfl, trivial, rfl⟩
  | m + 1, p => by
    obtain ⟨ws, h1, h2, h3⟩ := lex_shuts m (p + 1)
    exact ⟨_, Lexes.tok (l := 41 :: List.replicate m 41) (x := ⟨5, tShut, 0, 0⟩) (m := 1) rfl rfl h1, ⟨rfl, rfl, h2⟩, by rw [List.length_cons, h3]⟩
set_option maxRecDepth 10000 in
theorem lex_one (k m p : Nat) : ∃ ws tl, Lexes p (49 :: List.replicate m 41) ws none ∧ Ne k 0 ws tl ∧ Sh tl ∧ tl.length = m := by
  obtain ⟨ws, h1, h2, h3⟩ := lex_shuts m (p + 1)
  refine ⟨_, ws, Lexes.tok (l := 49 :: List.replicate m 41) (x := ⟨1, [49], 1, 0⟩) (m := 1) rfl ?_ h1, .one _ _ _ _ _, h2, h3⟩
  cases m <;> rfl

set_option maxRecDepth 10000 in
theorem lex_nest (k : Nat) (hk : k < 7) (m : Nat) : ∀ (n p : Nat), ∃ ws tl, Lexes p (nestB (beg k) (List.replicate m 41) n) ws none ∧ Ne k n ws tl ∧ Sh tl ∧ tl.length = m
  | 0, p => lex_one k m p
  | n + 1, p => by
    match k, hk with
    | 0, hk =>
      obtain ⟨ws, tl, h1, h2, h3⟩ := lex_nest 0 hk m n (p + 9)
      exact ⟨_, tl, Lexes.tok (x := ⟨4, tFun, 0, 0⟩) (m := 3) rfl rfl (.blank (Lexes.tok (x := ⟨2, [120], 0, 0⟩) (m := 1) rfl rfl (.blank (Lexes.tok (x := ⟨5, tArrow, 0, 0⟩) (m := 2) rfl rfl (.blank h1))))), .fun _ _ _ _ _ _ h2, h3⟩
    | 1, hk =>
      obtain ⟨ws, tl, h1, h2, h3⟩ := lex_nest 1 hk m n (p + 13)
      exact ⟨_, tl, Lexes.tok (x := ⟨4, tLet, 0, 0⟩) (m := 3) rfl rfl (.blank (Lexes.tok (x := ⟨2, [120], 0, 0⟩) (m := 1) rfl rfl (.blank (Lexes.tok (x := ⟨5, tEq, 0, 0⟩) (m := 1) rfl rfl (.blank
        (Lexes.tok (x := ⟨1, [49], 1, 0⟩) (m := 1) rfl rfl (.blank (Lexes.tok (x := ⟨4, tIn, 0, 0⟩) (m := 2) rfl rfl (.blank h1))))))))), .let _ _ _ _ _ _ _ _ h2, h3⟩
    | 2, hk =>
      obtain ⟨ws, tl, h1, h2, h3⟩ := lex_nest 2 hk m n (p + 20)
      exact ⟨_, tl, Lexes.tok (x := ⟨4, tIf, 0, 0⟩) (m := 2) rfl rfl (.blank (Lexes.tok (x := ⟨4, tTrue, 0, 0⟩) (m := 4) rfl rfl (.blank (Lexes.tok (x := ⟨4, tThen, 0, 0⟩) (m := 4) rfl rfl (.blank
        (Lexes.tok (x := ⟨1, [48], 0, 0⟩) (m := 1) rfl rfl (.blank (Lexes.tok (x := ⟨4, tElse, 0, 0⟩) (m := 4) rfl rfl (.blank h1))))))))), .if _ _ _ _ _ _ _ _ h2, h3⟩
    | 3, hk =>
      obtain ⟨ws, tl, h1, h2, h3⟩ := lex_nest 3 hk m n (p + 2)
      exact ⟨_, tl, Lexes.tok (x := ⟨5, tBang, 0, 0⟩) (m := 1) rfl rfl (.blank h1), .bang _ _ _ _ h2, h3⟩
    | 4, hk =>
      obtain ⟨ws, tl, h1, h2, h3⟩ := lex_nest 4 hk m n (p + 6)
      exact ⟨_, tl, Lexes.tok (x := ⟨4, tPrint, 0, 0⟩) (m := 5) rfl rfl (.blank h1), .print _ _ _ _ h2, h3⟩
    | 5, hk =>
      obtain ⟨ws, tl, h1, h2, h3⟩ := lex_nest 5 hk m n (p + 2)
      exact ⟨_, tl, Lexes.tok (x := ⟨3, [67], 0, 0⟩) (m := 1) rfl rfl (Lexes.tok (x := ⟨5, tOpen, 0, 0⟩) (m := 1) rfl rfl h1), .con _ _ _ _ _ h2, h3⟩
    | 6, hk =>
      obtain ⟨ws, tl, h1, h2, h3⟩ := lex_nest 6 hk m n (p + 5)
      exact ⟨_, tl, Lexes.tok (x := ⟨6, [103, 101, 116], 0, 0⟩) (m := 4) rfl rfl (.blank h1), .get _ _ _ _ h2, h3⟩

namespace Pz
theorem ne_ahead (k : Nat) (tl : List Lx.Tk) (hk : k = 3 ∨ k = 4 ∨ k = 6) (wi at_ : Nat) : ∀ (n m : Nat) (ws : List Lx.Tk), Ne k n ws tl → n ≤ m → ∃ l t v p, ahead m ⟨ws, wi, at_, 0⟩ = (l, ⟨⟨1, t, v, p⟩ :: tl, wi, at_, 0⟩) ∧ l.length = n := by
  intro n
  induction n with
  | zero =>
    intro m ws h _
    cases h with
    | one _ t v p => exact ⟨[], t, v, p, ahead_none rfl m, rfl⟩
  | succ n ih =>
    intro m ws h hm
    obtain ⟨m, rfl⟩ : ∃ g, m = g + 1 := ⟨m - 1, by omega⟩
    cases h with
    | bang _ p ws _ h =>
      obtain ⟨l, t, v, q, e, hl⟩ := ih m ws h (by omega)
      refine ⟨⟨5, tBang, 0, p⟩ :: l, t, v, q, ?_, by rw [List.length_cons, hl]⟩
      show (_ :: (ahead m ⟨ws, wi, at_, 0⟩).1, (ahead m ⟨ws, wi, at_, 0⟩).2) = _
      rw [e]
      rfl
    | print _ p ws _ h =>
      obtain ⟨l, t, v, q, e, hl⟩ := ih m ws h (by omega)
      refine ⟨⟨4, tPrint, 0, p⟩ :: l, t, v, q, ?_, by rw [List.length_cons, hl]⟩
      show (_ :: (ahead m ⟨ws, wi, at_, 0⟩).1, (ahead m ⟨ws, wi, at_, 0⟩).2) = _
      rw [e]
      rfl
    | get _ p ws _ h =>
      obtain ⟨l, t, v, q, e, hl⟩ := ih m ws h (by omega)
      refine ⟨⟨6, [103, 101, 116], 0, p⟩ :: l, t, v, q, ?_, by rw [List.length_cons, hl]⟩
      show (_ :: (ahead m ⟨ws, wi, at_, 0⟩).1, (ahead m ⟨ws, wi, at_, 0⟩).2) = _
      rw [e]
      rfl
    | «fun» => omega
    | «let» => omega
    | «if» => omega
    | con => omega
theorem deep_wraps (t : Tm) : ∀ (l : List Lx.Tk), (l.foldr wrap t).deep = l.length + t.deep
  | [] => by rw [List.length_nil, Nat.zero_add]; rfl
  | x :: r => by
    rw [List.foldr_cons, List.length_cons]
    unfold wrap
    rw [deep_one]
    have := deep_wraps t r
    unfold wrap at this
    omega
theorem ne_unary (sz k n f : Nat) (ws : List Lx.Tk) (hk : k = 3 ∨ k = 4 ∨ k = 6) (h : Ne k n ws []) (hf : 0 < f) : ∃ t, expr sz f ⟨ws, 0, 0, 0⟩ = (t, ⟨[], 0, 0, 0⟩) ∧ t.deep = n + 1 := by
  obtain ⟨f, rfl⟩ : ∃ g, f = g + 1 := ⟨f - 1, by omega⟩
  obtain ⟨l, t, v, p, e, hl⟩ := ne_ahead k [] hk 1 0 n ws.length ws h (by have := h.len; omega)
  have hu : unary sz (expr sz f) ⟨ws, 1, 0, 0⟩ = (l.foldr wrap (.mk 2 p [] [] v [] []), ⟨[], 1, 0, 0⟩) := by
    unfold unary
    dsimp only
    rw [e]
    dsimp only
    rw [app_one (s := ⟨[⟨1, t, v, p⟩], 1, 0, 0⟩) (s1 := ⟨[], 1, 0, 0⟩) (t := .mk 2 p [] [] v [] []) (by rfl) (cl_nil rfl)]
  have hh := here_of (sz := sz) (ex := expr sz f) (s := ⟨ws, 1, 0, 0⟩) (by
    intro a ha
    simp only [List.mem_cons, List.not_mem_nil, or_false] at ha
    cases h with
    | one => rfl
    | bang => rcases ha with rfl | rfl | rfl | rfl | rfl | rfl <;> rfl
    | print => rcases ha with rfl | rfl | rfl | rfl | rfl | rfl <;> rfl
    | get => rfl
    | «fun» => omega
    | «let» => omega
    | «if» => omega
    | con => omega) (assign_of hu (cl_nil rfl))
  refine ⟨l.foldr wrap (.mk 2 p [] [] v [] []), ?_, by rw [deep_wraps, deep_leaf, hl]⟩
  show exprStep sz _ _ = _
  rw [step_ok (by show 0 ≤ 200; omega)]
  dsimp only
  rw [Nat.zero_add, hh]
  rfl

theorem nest_program (sz k n : Nat) (hk : k < 7) {ws tl : List Lx.Tk} (h : Ne k n ws tl) (ht : Sh tl) (hl : tl.length = if k = 5 then n else 0) :
    (n ≤ 199 → (program sz ⟨ws, 0, 0, 0⟩).2.er = 0 ∧ (program sz ⟨ws, 0, 0, 0⟩).1.body.deep = n + 1) ∧
    (199 < n → (program sz ⟨ws, 0, 0, 0⟩).2.er = 6 ∨ ((program sz ⟨ws, 0, 0, 0⟩).2.er = 0 ∧ 200 < (program sz ⟨ws, 0, 0, 0⟩).1.body.deep)) := by
  have hd : ∀ m, decls sz m [] [] ⟨ws, 0, 0, 0⟩ = (([], []), ⟨ws, 0, 0, 0⟩) := by
    intro m
    cases m with
    | zero => rfl
    | succ m =>
      unfold decls
      rw [show isT [tEffect, tData] ⟨ws, 0, 0, 0⟩ = false by cases h <;> rfl]
      rfl
  have hp : program sz ⟨ws, 0, 0, 0⟩ = (⟨[], [], (expr sz (ws.length + 1) ⟨ws, 0, 0, 0⟩).1⟩, if 0 < (expr sz (ws.length + 1) ⟨ws, 0, 0, 0⟩).2.ws.length then fail sz 3 (expr sz (ws.length + 1) ⟨ws, 0, 0, 0⟩).2 else (expr sz (ws.length + 1) ⟨ws, 0, 0, 0⟩).2) := by
    unfold program
    dsimp only
    rw [hd]
  have hlen := h.len
  rw [hp]
  have hx : (n ≤ 200 ∧ (expr sz (ws.length + 1) ⟨ws, 0, 0, 0⟩).2 = ⟨[], 0, 0, 0⟩ ∧ (expr sz (ws.length + 1) ⟨ws, 0, 0, 0⟩).1.deep = n + 1) ∨
      (200 < n ∧ (TooD (expr sz (ws.length + 1) ⟨ws, 0, 0, 0⟩).2 ∨ ((expr sz (ws.length + 1) ⟨ws, 0, 0, 0⟩).2 = ⟨[], 0, 0, 0⟩ ∧ (expr sz (ws.length + 1) ⟨ws, 0, 0, 0⟩).1.deep = n + 1))) := by
    by_cases hu : k = 3 ∨ k = 4 ∨ k = 6
    · have h0 : tl = [] := by
        rw [if_neg (by omega)] at hl
        exact List.length_eq_zero_iff.1 hl
      subst h0
      obtain ⟨t, e, hdp⟩ := ne_unary sz k n (ws.length + 1) ws hu h (by omega)
      rw [e]
      by_cases hn : n ≤ 200
      · exact .inl ⟨hn, rfl, hdp⟩
      · exact .inr ⟨by omega, .inr ⟨rfl, hdp⟩⟩
    · rcases ne_expr sz k tl ht (by omega) n (ws.length + 1) ws 0 0 h (fun h5 => by rw [if_pos h5] at hl; omega) (by omega) with ⟨h1, h2, h3⟩ | ⟨h1, h2⟩
      · refine .inl ⟨by omega, ?_, h3⟩
        rw [h2]
        have : out k n tl = [] := by
          unfold out
          split
          · rename_i h5
            rw [if_pos h5] at hl
            rw [← hl]
            exact List.drop_length
          · rename_i h5
            rw [if_neg h5] at hl
            exact List.length_eq_zero_iff.1 hl
        rw [this]
      · exact .inr ⟨by omega, .inl h2⟩
  dsimp only
  rcases hx with ⟨h1, h2, h3⟩ | ⟨h1, h2 | ⟨h2, h3⟩⟩
  · rw [h2, h3]
    refine ⟨fun _ => ⟨rfl, rfl⟩, fun hn => .inr ⟨rfl, by omega⟩⟩
  · refine ⟨fun hn => by omega, fun _ => .inl ?_⟩
    rw [h2.1]
    exact h2.2
  · rw [h2, h3]
    refine ⟨fun hn => by omega, fun hn => .inr ⟨rfl, by omega⟩⟩
end Pz
end Go.Proofs.YtnkfkaahjplnmaaGreatDoor

/- Plain facts: a row of names is read as a function and what it is applied to. -/
namespace Go.Proofs.YtnkfkaahjplnmaaGreatDoor
open Pz

def dgF : Nat → Nat → List UInt8
  | 0, _ => []
  | f + 1, n => (if 10 ≤ n then dgF f (n / 10) else []) ++ [UInt8.ofNat (48 + n % 10)]
def xn (i : Nat) : List UInt8 := 120 :: dgF 5 i
def appsB (a m : Nat) : List UInt8 := (List.range' a m).flatMap fun i => 32 :: xn i
theorem appsB_snoc (a m : Nat) : appsB a m ++ 32 :: xn (a + m) = appsB a (m + 1) := by
  unfold appsB
  rw [List.range'_1_concat, List.flatMap_append]
  simp
theorem appsB_cons (a m : Nat) : appsB a (m + 1) = 32 :: (xn a ++ appsB (a + 1) m) := by
  unfold appsB
  rw [List.range'_succ, List.flatMap_cons]
  rfl
theorem appsB_sep (a m : Nat) : sepH (appsB a m) = true := by
  cases m with
  | zero => rfl
  | succ m => rw [appsB_cons]; rfl
def xnOK (i : Nat) : Bool := match firstF (xn i) with
  | some (x, m) => x.k == 2 && x.t == xn i && x.n == 0 && x.pos == 0 && m == (xn i).length
  | none => false
set_option maxRecDepth 100000 in
theorem xn_all : (List.range 150).all xnOK = true := by kernel_rfl
theorem xn_first (i : Nat) (hi : i < 150) : firstF (xn i) = some (⟨2, xn i, 0, 0⟩, (xn i).length) := by
  have h := List.all_eq_true.1 xn_all i (List.mem_range.2 hi)
  unfold xnOK at h
  split at h
  · rename_i x m he
    obtain ⟨k, t, n, q⟩ := x
    simp only [Bool.and_eq_true, beq_iff_eq] at h
    obtain ⟨⟨⟨⟨h1, h2⟩, h3⟩, h4⟩, h5⟩ := h
    subst h1 h2 h3 h4 h5
    exact he
  · cases h

/-- Words that are names, each with its number. -/
def Xw : Nat → List Lx.Tk → Prop
  | _, [] => True
  | a, x :: r => x.k = 2 ∧ x.t = xn a ∧ Xw (a + 1) r
theorem lex_apps : ∀ (m a p : Nat), a + m ≤ 150 → ∃ ws, Lexes p (appsB a m) ws none ∧ Xw a ws ∧ ws.length = m ∧ ∀ x r, ws = x :: r → x.pos = p + 1
  | 0, a, p, _ => ⟨[], .done _ _ rfl, trivial, rfl, fun _ _ h => by cases h⟩
  | m + 1, a, p, h => by
    obtain ⟨ws, h1, h2, h3, _⟩ := lex_apps m (a + 1) (p + 1 + (xn a).length) (by omega)
    have hd : (xn a ++ appsB (a + 1) m).drop (xn a).length = appsB (a + 1) m := List.drop_left
    rw [appsB_cons]
    refine ⟨atPos ⟨2, xn a, 0, 0⟩ (p + 1) :: ws, .blank (Lexes.tok (x := ⟨2, xn a, 0, 0⟩) (m := (xn a).length) rfl ?_ (by rw [hd]; exact h1)), ⟨rfl, rfl, h2⟩, by rw [List.length_cons, h3], fun x r e => by injection e with e1; rw [← e1]; rfl⟩
    rw [first_sep (xn a) (appsB (a + 1) m) (by unfold xn; exact List.cons_ne_nil _ _) (appsB_sep _ _)]
    exact xn_first a (by omega)

namespace Pz
/-- A function and j things that it is applied to. -/
def Ch : Nat → Tm → Prop
  | 0, t => t = .mk 1 1 (xn 0) [] 0 [] []
  | j + 1, t => ∃ f p, t = .mk 6 1 [] [] 0 [f, .mk 1 p (xn (j + 1)) [] 0 [] []] [] ∧ Ch j f
theorem Ch.pos {j : Nat} {t : Tm} (h : Ch j t) : t.pos = 1 := by
  cases j with
  | zero => rw [show t = _ from h]; rfl
  | succ j => obtain ⟨f, p, rfl, _⟩ := h; rfl
theorem Ch.deep : ∀ {j : Nat} {t : Tm}, Ch j t → t.deep = j + 1
  | 0, t, h => by rw [show t = _ from h]; exact deep_leaf _ _ _ _ _
  | j + 1, t, h => by
    obtain ⟨f, p, rfl, h⟩ := h
    have := Ch.deep h
    simp only [Tm.deep, deepL, deepA, this]
    omega
theorem app_more {sz : Nat} {ex : St → Tm × St} (wi at_ : Nat) : ∀ (r : List Lx.Tk) (n j : Nat) (f : Tm), Ch j f → Xw (j + 1) r → r.length < n → ∃ t, appMore sz ex n f ⟨r, wi, at_, 0⟩ = (t, ⟨[], wi, at_, 0⟩) ∧ Ch (j + r.length) t
  | [], n, j, f, hf, _, hn => by
    obtain ⟨n, rfl⟩ : ∃ g, n = g + 1 := ⟨n - 1, by rw [List.length_nil] at hn; omega⟩
    refine ⟨f, ?_, hf⟩
    unfold appMore
    rw [(cl_nil rfl : Cl ⟨[], wi, at_, 0⟩).atom]
  | ⟨k, t, v, p⟩ :: r, n, j, f, hf, hx, hn => by
    obtain ⟨n, rfl⟩ : ∃ g, n = g + 1 := ⟨n - 1, by rw [List.length_cons] at hn; omega⟩
    obtain ⟨hk, ht, hx⟩ := hx
    dsimp only at hk ht
    subst hk ht
    obtain ⟨u, e, hu⟩ := app_more (sz := sz) (ex := ex) wi at_ r n (j + 1) (.mk 6 f.pos [] [] 0 [f, .mk 1 p (xn (j + 1)) [] 0 [] []] []) ⟨f, p, by rw [hf.pos], hf⟩ hx (by rw [List.length_cons] at hn; omega)
    refine ⟨u, ?_, by rw [List.length_cons, show j + (r.length + 1) = j + 1 + r.length by omega]; exact hu⟩
    unfold appMore
    exact e
theorem apps_program (sz _n : Nat) (x : Lx.Tk) (r : List Lx.Tk) (hx : Xw 0 (x :: r)) (hp : x.pos = 1) : ∃ t, program sz ⟨x :: r, 0, 0, 0⟩ = (⟨[], [], t⟩, ⟨[], 0, 0, 0⟩) ∧ Ch r.length t := by
  obtain ⟨k, t, v, p⟩ := x
  obtain ⟨hk, ht, hr⟩ := hx
  dsimp only at hk ht hp
  subst hk ht hp
  obtain ⟨u, e, hu⟩ := app_more (sz := sz) (ex := expr sz (r.length + 1)) 1 0 r (r.length + 1) 0 (.mk 1 1 (xn 0) [] 0 [] []) rfl hr (by omega)
  rw [Nat.zero_add] at hu
  refine ⟨u, ?_, hu⟩
  have ha : app sz (expr sz (r.length + 1)) ⟨⟨2, xn 0, v, 1⟩ :: r, 1, 0, 0⟩ = (u, ⟨[], 1, 0, 0⟩) := by
    unfold app
    rw [show atom sz (expr sz (r.length + 1)) ⟨⟨2, xn 0, v, 1⟩ :: r, 1, 0, 0⟩ = (some (.mk 1 1 (xn 0) [] 0 [] []), ⟨r, 1, 0, 0⟩) from rfl]
    exact e
  have hh := here_of (by intro a _; rfl) (assign_of (unary_none (s := ⟨⟨2, xn 0, v, 1⟩ :: r, 1, 0, 0⟩) rfl ha) (cl_nil rfl))
  have hex : expr sz (r.length + 1 + 1) ⟨⟨2, xn 0, v, 1⟩ :: r, 0, 0, 0⟩ = (u, ⟨[], 0, 0, 0⟩) := by
    show exprStep sz _ _ = _
    rw [step_ok (by show 0 ≤ 200; omega)]
    dsimp only
    rw [Nat.zero_add, hh]
    rfl
  unfold program
  dsimp only
  rw [show decls sz (⟨2, xn 0, v, 1⟩ :: r).length [] [] ⟨⟨2, xn 0, v, 1⟩ :: r, 0, 0, 0⟩ = (([], []), ⟨⟨2, xn 0, v, 1⟩ :: r, 0, 0, 0⟩) from rfl]
  dsimp only
  rw [List.length_cons, hex]
  rfl
end Pz
end Go.Proofs.YtnkfkaahjplnmaaGreatDoor
