/- Plain facts on Pz: a fault that is told stays the one that is told. -/
import Derived.Test.YtnkfkaahjplnmaaGreatDoorGaPure
import Derived.Test.YtnkfkaahjplnmaaGreatDoorGoNest
import Derived.Test.YtnkfkaahjplnmaaGreatDoorGsTold
namespace Go.Proofs.YtnkfkaahjplnmaaGreatDoor
namespace Pz
open Lx

/-- Where a fault is told no words are left. -/
def Dn (s : St) : Prop := s.er ≠ 0 → s.ws = []
/-- A fault that is told stays; and no words come back. -/
def Kp (s s' : St) : Prop := (s.er ≠ 0 → s'.er = s.er) ∧ (Dn s → Dn s')
theorem Kp.refl (s : St) : Kp s s := ⟨fun _ => rfl, id⟩
theorem Kp.trans {a b c : St} (h : Kp a b) (k : Kp b c) : Kp a c := ⟨fun ha => (k.1 (by rw [h.1 ha]; exact ha)).trans (h.1 ha), fun ha => k.2 (h.2 ha)⟩
theorem kp_take (s : St) : Kp s (take s) := ⟨fun _ => rfl, fun h he => by simp only [take]; rw [h he]; rfl⟩
theorem kp_fail (sz e : Nat) (s : St) : Kp s (fail sz e s) := by
  unfold fail; split
  · rename_i h; exact ⟨fun h2 => absurd h h2, fun _ _ => rfl⟩
  · exact Kp.refl _
theorem kp_must1 (sz : Nat) (t : Str) (s : St) : Kp s (must1 sz t s) := by
  unfold must1; split
  · exact kp_take _
  · exact kp_fail _ _ _
theorem kp_must (sz : Nat) (ts : List Str) : ∀ s, Kp s (must sz ts s) := by
  induction ts with
  | nil => exact Kp.refl
  | cons t ts ih => intro s; exact (kp_must1 sz t s).trans (ih _)
def Nkp {α : Type} (f : St → α × St) : Prop := ∀ s, Kp s (f s).2
theorem nkp_name (sz : Nat) (ks : List Nat) : Nkp (name sz ks) := by
  intro s; unfold name; split
  · exact kp_take _
  · exact kp_fail _ _ _
theorem nkp_more {α : Type} {item : St → α × St} (hi : Nkp item) (b : Str) : ∀ n, Nkp (more item b n) := by
  intro n
  induction n with
  | zero => intro s; exact Kp.refl _
  | succ n ih =>
    intro s; unfold more; split
    · exact ((kp_take s).trans (hi _)).trans (ih _)
    · exact Kp.refl _
theorem nkp_list {α : Type} {item : St → α × St} (hi : Nkp item) (sz : Nat) (o b c : Str) : Nkp (list sz item o b c) := by
  intro s; unfold list; dsimp only; split
  · exact (kp_must1 _ _ _).trans (kp_must1 _ _ _)
  · exact (((kp_must1 _ _ _).trans (hi _)).trans (nkp_more hi b _ _)).trans (kp_must1 _ _ _)

section
variable {sz : Nat} {ex : St → Tm × St} (hx : Nkp ex)
include hx
theorem nkp_behind : ∀ ts, Nkp (behind sz ex ts) := by
  intro ts
  induction ts with
  | nil => intro s; exact Kp.refl _
  | cons t ts ih => intro s; exact ((kp_must1 _ _ _).trans (hx _)).trans (ih _)
theorem nkp_does (nm : Str) (vs : List Str) : Nkp (does sz ex nm vs) := fun _ => (kp_must1 _ _ _).trans (hx _)
omit hx in
theorem nkp_vars : ∀ n, Nkp (vars n) := by
  intro n
  induction n with
  | zero => intro s; exact Kp.refl _
  | succ n ih =>
    intro s; unfold vars; split
    · exact (kp_take s).trans (ih _)
    · exact Kp.refl _
theorem nkp_way : Nkp (way sz ex) := fun s => ((nkp_name sz [3] s).trans (nkp_vars _ _)).trans (nkp_does hx _ _ _)
theorem nkp_ways : Nkp (ways sz ex) := nkp_list (nkp_way hx) _ _ _ _
theorem nkp_clause : Nkp (clause sz ex) := fun s => (((nkp_name sz [2] s).trans (nkp_name sz [2] _)).trans (nkp_name sz [2] _)).trans (nkp_does hx _ _ _)
theorem nkp_clauses : Nkp (clauses sz ex) := fun s => ((((kp_must sz _ s).trans (nkp_name sz [2] _)).trans (nkp_does hx _ _ _)).trans (nkp_more (nkp_clause hx) _ _ _)).trans (kp_must1 _ _ _)
theorem nkp_fields : Nkp (fields sz ex) := by
  intro s; unfold fields; split
  · exact nkp_list hx _ _ _ _ _
  · exact Kp.refl _
theorem nkp_bracketed (a : Nat) : Nkp (bracketed sz ex a) := by
  intro s; unfold bracketed; split
  · exact kp_take _
  · exact (hx _).trans (kp_must1 _ _ _)
theorem nkp_atom : Nkp (atom sz ex) := by
  intro s; unfold atom; dsimp only
  repeat' split
  all_goals first | exact kp_take _ | exact (kp_take _).trans (nkp_fields hx _) | exact (kp_take _).trans (kp_must _ _ _) | exact (kp_take _).trans (nkp_bracketed hx _ _) | exact Kp.refl _
theorem nkp_appMore : ∀ n f, Nkp (appMore sz ex n f) := by
  intro n
  induction n with
  | zero => intro f s; exact Kp.refl _
  | succ n ih =>
    intro f s; unfold appMore
    have ha := nkp_atom (sz := sz) hx s
    split
    · rename_i s1 heq; rw [heq] at ha; exact ha
    · rename_i a s1 heq; rw [heq] at ha; exact ha.trans (ih _ _)
theorem nkp_app : Nkp (app sz ex) := by
  intro s; unfold app
  have ha := nkp_atom (sz := sz) hx s
  split
  · rename_i s1 heq; rw [heq] at ha; exact ha.trans (kp_fail _ _ _)
  · rename_i a s1 heq; rw [heq] at ha; exact ha.trans (nkp_appMore hx _ _ _)
omit hx in
theorem nkp_ahead : ∀ n, Nkp (ahead n) := by
  intro n
  induction n with
  | zero => intro s; exact Kp.refl _
  | succ n ih =>
    intro s; unfold ahead; split
    · exact (kp_take s).trans (ih _)
    · exact Kp.refl _
theorem nkp_unary : Nkp (unary sz ex) := fun s => (nkp_ahead _ s).trans (nkp_app hx _)
omit hx in
theorem nkp_both {side : St → Tm × St} (hs : Nkp side) (l : Tm) : Nkp (both side l) := fun s => (kp_take s).trans (hs _)
omit hx in
theorem nkp_once {side : St → Tm × St} (hs : Nkp side) (ss : List Str) : Nkp (once side ss) := by
  intro s; unfold once; split
  · exact (hs s).trans (nkp_both hs _ _)
  · exact hs s
omit hx in
theorem nkp_oftenMore {side : St → Tm × St} (hs : Nkp side) (ss : List Str) : ∀ n l, Nkp (oftenMore side ss n l) := by
  intro n
  induction n with
  | zero => intro l s; exact Kp.refl _
  | succ n ih =>
    intro l s; unfold oftenMore; split
    · exact (nkp_both hs l s).trans (ih _ _)
    · exact Kp.refl _
omit hx in
theorem nkp_often {side : St → Tm × St} (hs : Nkp side) (ss : List Str) : Nkp (often side ss) := fun s => (hs s).trans (nkp_oftenMore hs ss _ _ _)
theorem nkp_prod : Nkp (prod sz ex) := nkp_often (nkp_unary hx) _
theorem nkp_sum : Nkp (sum sz ex) := nkp_often (nkp_prod hx) _
theorem nkp_cmp : Nkp (cmp sz ex) := nkp_once (nkp_sum hx) _
theorem nkp_assign : Nkp (assign sz ex) := nkp_once (nkp_cmp hx) _
theorem nkp_exprHere : Nkp (exprHere sz ex) := by
  intro s; unfold exprHere; dsimp only
  repeat' split
  · exact ((kp_take s).trans (nkp_name _ _ _)).trans (nkp_behind hx _ _)
  · exact ((kp_take s).trans (nkp_name _ _ _)).trans (nkp_behind hx _ _)
  · exact (((kp_take s).trans (nkp_name _ _ _)).trans (nkp_name _ _ _)).trans (nkp_behind hx _ _)
  · exact nkp_behind hx _ _
  · exact (nkp_behind hx _ _).trans (nkp_ways hx _)
  · exact (((kp_take s).trans (nkp_name _ _ _)).trans (hx _)).trans (nkp_clauses hx _)
  · exact nkp_assign hx _
theorem nkp_exprStep : Nkp (exprStep sz ex) := by
  intro s; unfold exprStep; dsimp only; split
  · exact kp_fail _ _ _
  · have h := nkp_exprHere (sz := sz) hx { s with wi := s.wi + 1 }
    exact h
end
theorem nkp_expr (sz : Nat) : ∀ n, Nkp (expr sz n) := by
  intro n
  induction n with
  | zero => intro s; exact Kp.refl _
  | succ n ih => exact nkp_exprStep ih
theorem aType_kp (s : St) : Kp s (aType s).2 := by
  unfold aType
  repeat' split
  all_goals first | exact kp_take _ | exact Kp.refl _
theorem nkp_mustType (sz : Nat) : Nkp (mustType sz) := by
  intro s; unfold mustType
  have ha := aType_kp s
  split
  · rename_i heq; rw [heq] at ha; exact ha
  · rename_i heq; rw [heq] at ha; exact ha.trans (kp_fail _ _ _)
theorem nkp_sig (sz : Nat) : Nkp (sig sz) := fun s => ((((nkp_name sz [2] s).trans (kp_must1 _ _ _)).trans (nkp_mustType _ _)).trans (kp_must1 _ _ _)).trans (nkp_mustType _ _)
theorem nkp_conMore : ∀ n, Nkp (conMore n) := by
  intro n
  induction n with
  | zero => intro s; exact Kp.refl _
  | succ n ih =>
    intro s; unfold conMore
    have ha := aType_kp s
    split
    · rename_i heq; rw [heq] at ha; exact ha
    · rename_i heq; rw [heq] at ha; exact ha.trans (ih _)
theorem nkp_con (sz : Nat) : Nkp (con sz) := fun s => (nkp_name sz [3] s).trans (nkp_conMore _ _)
theorem nkp_effect (sz : Nat) : Nkp (effect sz) := fun s => (nkp_name sz [3] s).trans (nkp_list (nkp_sig sz) _ _ _ _ _)
theorem nkp_data (sz : Nat) : Nkp (data sz) := fun s => (nkp_name sz [3] s).trans (nkp_list (nkp_con sz) _ _ _ _ _)
end Pz
end Go.Proofs.YtnkfkaahjplnmaaGreatDoor

/- Plain facts on Pz: what is read of words behind which a bracket shuts, however deep it stands. -/
namespace Go.Proofs.YtnkfkaahjplnmaaGreatDoor
namespace Pz
open Lx

theorem Kp.ok {s s' : St} (h : Kp s s') (he : s'.er = 0) : s.er = 0 := by
  by_cases h0 : s.er = 0
  · exact h0
  · rw [h.1 h0] at he; exact absurd he h0
theorem Kp.six {s s' : St} (h : Kp s s') (he : s.er = 6) : s'.er = 6 := (h.1 (by rw [he]; decide)).trans he

section
variable (sz n : Nat) (tl : List Tk)
/-- The second one has more words behind, and stands deeper. -/
def Rx (s s' : St) : Prop := s.er = 0 ∧ s'.er = 0 ∧ s'.wi = s.wi + n ∧ s'.ws = s.ws ++ tl
/-- The same answer; or it is too deep. -/
def Gx {α : Type} (x x' : α × St) : Prop := (Rx n tl x.2 x'.2 ∧ x'.1 = x.1) ∨ x'.2.er = 6
def Xg {α : Type} (f : St → α × St) : Prop := ∀ s s', Rx n tl s s' → (f s).2.er = 0 → Gx n tl (f s) (f s')
end

/-- A bracket that shuts, and more. -/
abbrev sh5 (v sz : Nat) (r : List Tk) : List Tk := (⟨5, tShut, v, sz⟩ : Tk) :: r
section
variable {sz n v : Nat} {r : List Tk}
theorem Rx.isT {s s' : St} (h : Rx n (sh5 v sz r) s s') (ts : List Str) (ht : ts.contains tShut = false) : isT ts s' = isT ts s := by
  obtain ⟨_, _, _, hw⟩ := h
  unfold Pz.isT
  rw [hw]
  rcases s.ws with _ | ⟨t, u⟩
  · show ((5 == 4 || 5 == 5) && ts.contains tShut) = false
    rw [ht]; rfl
  · rfl
theorem Rx.isTn {s s' : St} (h : Rx n (sh5 v sz r) s s') (h0 : s.ws ≠ []) (ts : List Str) : Pz.isT ts s' = Pz.isT ts s := by
  obtain ⟨_, _, _, hw⟩ := h
  unfold Pz.isT
  rw [hw]
  rcases hs : s.ws with _ | ⟨t, u⟩
  · exact absurd hs h0
  · rfl
theorem Rx.isOf {s s' : St} (h : Rx n (sh5 v sz r) s s') (ks : List Nat) (ht : ks.contains 5 = false) : isOf ks s' = isOf ks s := by
  obtain ⟨_, _, _, hw⟩ := h
  unfold Pz.isOf
  rw [hw]
  rcases s.ws with _ | ⟨t, u⟩
  · exact ht
  · rfl
theorem Rx.pre {s s' : St} (h : Rx n (sh5 v sz r) s s') : pre s' = pre s := by unfold Pz.pre; rw [h.isT _ rfl, h.isOf _ rfl]
theorem Rx.whr {s s' : St} (h : Rx n (sh5 v sz r) s s') : whr sz s' = whr sz s := by
  obtain ⟨_, _, _, hw⟩ := h
  unfold Pz.whr
  rw [hw]
  rcases s.ws with _ | ⟨t, u⟩ <;> rfl
theorem Rx.hd {s s' : St} (h : Rx n (sh5 v sz r) s s') (h0 : s.ws ≠ []) : hd s' = hd s := by
  obtain ⟨_, _, _, hw⟩ := h
  unfold Pz.hd
  rw [hw]
  rcases hs : s.ws with _ | ⟨t, u⟩
  · exact absurd hs h0
  · rfl
theorem Rx.take {s s' : St} (h : Rx n (sh5 v sz r) s s') (h0 : s.ws ≠ []) : Rx n (sh5 v sz r) (take s) (take s') := by
  obtain ⟨h1, h2, h3, hw⟩ := h
  refine ⟨h1, h2, h3, ?_⟩
  unfold Pz.take
  dsimp only
  rw [hw]
  rcases hs : s.ws with _ | ⟨t, u⟩
  · exact absurd hs h0
  · rfl
theorem Rx.len {s s' : St} (h : Rx n (sh5 v sz r) s s') : s.ws.length ≤ s'.ws.length := by rw [h.2.2.2, List.length_append]; omega
theorem isT_ne {ts : List Str} {s : St} (h : isT ts s = true) : s.ws ≠ [] := fun h0 => by have := isT_pos h; rw [h0] at this; simp at this
theorem isOf_ne {ts : List Nat} {s : St} (h : isOf ts s = true) : s.ws ≠ [] := fun h0 => by have := isOf_pos h; rw [h0] at this; simp at this
theorem fail_ne (sz e : Nat) (s : St) (h : e ≠ 0) : (fail sz e s).er ≠ 0 := by
  unfold fail; split
  · exact h
  · assumption
theorem x_must1 (t : Str) {s s' : St} (h : Rx n (sh5 v sz r) s s') (he : (must1 sz t s).er = 0) : Rx n (sh5 v sz r) (must1 sz t s) (must1 sz t s') := by
  unfold must1 at he ⊢
  split at he
  · rename_i hy
    rw [if_pos hy, if_pos (by rw [h.isTn (isT_ne hy)]; exact hy)]
    exact h.take (isT_ne hy)
  · exact absurd he (fail_ne _ _ _ (by decide))
theorem x_must : ∀ (ts : List Str) {s s' : St}, Rx n (sh5 v sz r) s s' → (must sz ts s).er = 0 → Rx n (sh5 v sz r) (must sz ts s) (must sz ts s')
  | [], _, _, h, _ => h
  | t :: ts, _, _, h, he => x_must ts (x_must1 t h ((kp_must sz ts _).ok he)) he
theorem x_name (ks : List Nat) : Xg n (sh5 v sz r) (name sz ks) := by
  intro s s' h he
  unfold name at he ⊢
  split at he
  · rename_i hy
    have h0 := isOf_ne hy
    have e : isOf ks s' = true := by
      obtain ⟨_, _, _, hw⟩ := h
      revert hy
      unfold Pz.isOf
      rw [hw]
      rcases hs : s.ws with _ | ⟨t, u⟩
      · exact absurd hs h0
      · exact id
    rw [if_pos hy, if_pos e]
    exact .inl ⟨h.take h0, by rw [h.hd h0]⟩
  · exact absurd he (fail_ne _ _ _ (by decide))
theorem x_more {α : Type} {f : St → α × St} (hf : Xg n (sh5 v sz r) f) (hk : Nkp f) (b : Str) (hb : [b].contains tShut = false) : ∀ k, Xg n (sh5 v sz r) (more f b k) := by
  intro k
  induction k with
  | zero => exact fun s s' h _ => .inl ⟨h, rfl⟩
  | succ k ih =>
    intro s s' h he
    have e := h.isT [b] hb
    unfold more at he ⊢
    rw [e]
    split
    · rename_i hy
      rw [if_pos hy] at he
      dsimp only at he
      rcases hf _ _ (h.take (isT_ne hy)) ((nkp_more hk b k _).ok he) with ⟨h1, h2⟩ | h1
      · rcases ih _ _ h1 he with ⟨h3, h4⟩ | h3
        · exact .inl ⟨h3, by dsimp only; rw [h2, h4]⟩
        · exact .inr h3
      · exact .inr ((nkp_more hk b k _).six h1)
    · exact .inl ⟨h, rfl⟩
theorem x_moreAll {α : Type} {f : St → α × St} (hf : Xg n (sh5 v sz r) f) (hk : Nkp f) (hn : Nice f) (b : Str) (hb : [b].contains tShut = false) : Xg n (sh5 v sz r) (fun s => more f b s.ws.length s) := by
  intro s s' h he
  have e := more_fuel hn b s.ws.length s'.ws.length s (Nat.le_refl _) h.len
  dsimp only at he ⊢
  rw [e] at he ⊢
  exact x_more hf hk b hb _ s s' h he
theorem x_list {α : Type} {f : St → α × St} (hf : Xg n (sh5 v sz r) f) (hk : Nkp f) (hn : Nice f) (o b c : Str) (hb : [b].contains tShut = false) : Xg n (sh5 v sz r) (list sz f o b c) := by
  intro s s' h he
  unfold list at he ⊢
  dsimp only at he ⊢
  by_cases h0 : (must1 sz o s).ws = []
  · exfalso
    rw [if_neg (by rw [isT_none (by rw [h0]; rfl)]; decide)] at he
    dsimp only at he
    have l1 := (hn (must1 sz o s)).1
    have l2 := (nice_more hn b (f (must1 sz o s)).2.ws.length (f (must1 sz o s)).2).1
    rw [h0, List.length_nil] at l1
    revert he
    unfold must1
    rw [if_neg (by rw [isT_none (by unfold must1 at l1 l2; omega)]; decide)]
    exact fail_ne _ _ _ (by decide)
  · have hm : (must1 sz o s).er = 0 := by
      split at he
      · exact (kp_must1 sz c _).ok he
      · exact (((hk _).trans (nkp_more hk b _ _)).trans (kp_must1 sz c _)).ok he
    have h1 := x_must1 o h hm
    rw [h1.isTn h0]
    split
    · rename_i hy
      rw [if_pos hy] at he
      exact .inl ⟨x_must1 c h1 he, rfl⟩
    · rename_i hy
      rw [if_neg hy] at he
      dsimp only at he
      rcases hf _ _ h1 (((nkp_more hk b _ _).trans (kp_must1 sz c _)).ok he) with ⟨h2, h3⟩ | h2
      · rcases x_moreAll hf hk hn b hb _ _ h2 ((kp_must1 sz c _).ok he) with ⟨h4, h5⟩ | h4
        · refine .inl ⟨x_must1 c h4 he, ?_⟩
          dsimp only at h5 ⊢
          rw [h3, h5]
        · exact .inr ((kp_must1 sz c _).six h4)
      · exact .inr (((nkp_more hk b _ _).trans (kp_must1 sz c _)).six h2)

section
variable {ex : St → Tm × St} (hx : Xg n (sh5 v sz r) ex) (hk : Nkp ex) (hn : Nice ex)
include hx hk
theorem x_behind : ∀ ts, Xg n (sh5 v sz r) (behind sz ex ts) := by
  intro ts
  induction ts with
  | nil => exact fun s s' h _ => .inl ⟨h, rfl⟩
  | cons t ts ih =>
    intro s s' h he
    unfold behind at he ⊢
    dsimp only at he ⊢
    have he1 := (nkp_behind hk ts _).ok he
    rcases hx _ _ (x_must1 t h ((hk _).ok he1)) he1 with ⟨h1, h2⟩ | h1
    · rcases ih _ _ h1 he with ⟨h3, h4⟩ | h3
      · exact .inl ⟨h3, by dsimp only; rw [h2, h4]⟩
      · exact .inr h3
    · exact .inr ((nkp_behind hk ts _).six h1)
theorem x_does (nm : Str) (vs : List Str) : Xg n (sh5 v sz r) (does sz ex nm vs) := by
  intro s s' h he
  unfold does at he ⊢
  dsimp only at he ⊢
  rcases hx _ _ (x_must1 tArrow h ((hk _).ok he)) he with ⟨h1, h2⟩ | h1
  · exact .inl ⟨h1, by dsimp only; rw [h2]⟩
  · exact .inr h1
omit hx hk in
theorem x_vars : ∀ k, Xg n (sh5 v sz r) (vars k) := by
  intro k
  induction k with
  | zero => exact fun s s' h _ => .inl ⟨h, rfl⟩
  | succ k ih =>
    intro s s' h he
    have e := h.isOf [2] rfl
    unfold vars at he ⊢
    rw [e]
    split
    · rename_i hy
      rw [if_pos hy] at he
      dsimp only at he
      rcases ih _ _ (h.take (isOf_ne hy)) he with ⟨h3, h4⟩ | h3
      · exact .inl ⟨h3, by dsimp only; rw [h4, h.hd (isOf_ne hy)]⟩
      · exact .inr h3
    · exact .inl ⟨h, rfl⟩
omit hx hk in
theorem x_varsAll : Xg n (sh5 v sz r) (fun s => vars s.ws.length s) := by
  intro s s' h he
  have e := vars_fuel s.ws.length s'.ws.length s (Nat.le_refl _) h.len
  dsimp only at he ⊢
  rw [e] at he ⊢
  exact x_vars _ s s' h he
theorem x_way : Xg n (sh5 v sz r) (way sz ex) := by
  intro s s' h he
  unfold way at he ⊢
  dsimp only at he ⊢
  have he2 := (nkp_does (sz := sz) hk _ _ _).ok he
  rcases x_name [3] s s' h ((nkp_vars _ _).ok he2) with ⟨h1, h2⟩ | h1
  · rcases x_varsAll _ _ h1 he2 with ⟨h3, h4⟩ | h3
    · dsimp only at h3 h4
      rw [h2, h4]
      exact x_does hx hk _ _ _ _ h3 he
    · exact .inr ((nkp_does hk _ _ _).six h3)
  · exact .inr (((nkp_vars _ _).trans (nkp_does hk _ _ _)).six h1)
theorem x_clause : Xg n (sh5 v sz r) (clause sz ex) := by
  intro s s' h he
  unfold clause at he ⊢
  dsimp only at he ⊢
  have he3 := (nkp_does (sz := sz) hk _ _ _).ok he
  have he2 := (nkp_name sz [2] _).ok he3
  rcases x_name [2] s s' h ((nkp_name sz [2] _).ok he2) with ⟨h1, h2⟩ | h1
  · rcases x_name [2] _ _ h1 he2 with ⟨h3, h4⟩ | h3
    · rcases x_name [2] _ _ h3 he3 with ⟨h5, h6⟩ | h5
      · rw [h2, h4, h6]
        exact x_does hx hk _ _ _ _ h5 he
      · exact .inr ((nkp_does hk _ _ _).six h5)
    · exact .inr (((nkp_name sz [2] _).trans (nkp_does hk _ _ _)).six h3)
  · exact .inr ((((nkp_name sz [2] _).trans (nkp_name sz [2] _)).trans (nkp_does hk _ _ _)).six h1)
include hn
theorem x_ways : Xg n (sh5 v sz r) (ways sz ex) := x_list (x_way hx hk) (nkp_way hk) (nice_way hn) _ _ _ rfl
theorem x_clauses : Xg n (sh5 v sz r) (clauses sz ex) := by
  intro s s' h he
  unfold clauses at he ⊢
  dsimp only at he ⊢
  have he3 := (kp_must1 sz tRb _).ok he
  have he2 := (nkp_more (nkp_clause (sz := sz) hk) tSemi _ _).ok he3
  have he1 := (nkp_does (sz := sz) hk _ _ _).ok he2
  rcases x_name [2] _ _ (x_must [tLb, tReturn] h ((nkp_name sz [2] _).ok he1)) he1 with ⟨h1, h2⟩ | h1
  · rw [h2]
    rcases x_does hx hk tReturn [(name sz [2] (must sz [tLb, tReturn] s)).1] _ _ h1 he2 with ⟨h3, h4⟩ | h3
    · rcases x_moreAll (x_clause hx hk) (nkp_clause hk) (nice_clause hn) tSemi rfl _ _ h3 he3 with ⟨h5, h6⟩ | h5
      · refine .inl ⟨x_must1 tRb h5 he, ?_⟩
        dsimp only at h6 ⊢
        rw [h4, h6]
      · exact .inr ((kp_must1 sz tRb _).six h5)
    · exact .inr (((nkp_more (nkp_clause (sz := sz) hk) tSemi _ _).trans (kp_must1 sz tRb _)).six h3)
  · exact .inr ((((nkp_does (sz := sz) hk _ _ _).trans (nkp_more (nkp_clause (sz := sz) hk) tSemi _ _)).trans (kp_must1 sz tRb _)).six h1)
theorem x_fields : Xg n (sh5 v sz r) (fields sz ex) := by
  intro s s' h he
  have e := h.isT [tOpen] rfl
  unfold fields at he ⊢
  rw [e]
  split
  · rename_i hy
    rw [if_pos hy] at he
    exact x_list hx hk hn _ _ _ rfl s s' h he
  · exact .inl ⟨h, rfl⟩
theorem x_bracketed (a : Nat) : Xg n (sh5 v sz r) (bracketed sz ex a) := by
  intro s s' h he
  have _hx := hk
  unfold bracketed at he ⊢
  by_cases h0 : s.ws = []
  · exfalso
    rw [if_neg (by rw [isT_none (by rw [h0]; rfl)]; decide)] at he
    dsimp only at he
    have l1 := (hn s).1
    rw [h0, List.length_nil] at l1
    revert he
    unfold must1
    rw [if_neg (by rw [isT_none (by omega)]; decide)]
    exact fail_ne _ _ _ (by decide)
  · rw [h.isTn h0]
    split
    · exact .inl ⟨h.take h0, rfl⟩
    · rename_i hy
      rw [if_neg hy] at he
      dsimp only at he
      rcases hx _ _ h ((kp_must1 sz tShut _).ok he) with ⟨h1, h2⟩ | h1
      · exact .inl ⟨x_must1 tShut h1 he, h2⟩
      · exact .inr ((kp_must1 sz tShut _).six h1)
theorem x_atom : Xg n (sh5 v sz r) (atom sz ex) := by
  intro s s' h he
  unfold atom at he ⊢
  dsimp only at he ⊢
  rw [h.isOf [1] rfl, h.isT [tTrue] rfl, h.isT [tFalse] rfl, h.isOf [2] rfl, h.isOf [3] rfl, h.isT [tRead] rfl, h.isT [tOpen] rfl, h.whr]
  split
  · rename_i hy; exact .inl ⟨h.take (isOf_ne hy), by rw [h.hd (isOf_ne hy)]⟩
  rename_i hn1; rw [if_neg hn1] at he
  split
  · rename_i hy; exact .inl ⟨h.take (isT_ne hy), rfl⟩
  rename_i hn1; rw [if_neg hn1] at he
  split
  · rename_i hy; exact .inl ⟨h.take (isT_ne hy), rfl⟩
  rename_i hn1; rw [if_neg hn1] at he
  split
  · rename_i hy; exact .inl ⟨h.take (isOf_ne hy), by rw [h.hd (isOf_ne hy)]⟩
  rename_i hn1; rw [if_neg hn1] at he
  split
  · rename_i hy; rw [if_pos hy] at he
    rcases x_fields hx hk hn _ _ (h.take (isOf_ne hy)) he with ⟨h1, h2⟩ | h1
    · exact .inl ⟨h1, by dsimp only; rw [h2, h.hd (isOf_ne hy)]⟩
    · exact .inr h1
  rename_i hn1; rw [if_neg hn1] at he
  split
  · rename_i hy; rw [if_pos hy] at he
    exact .inl ⟨x_must _ (h.take (isT_ne hy)) he, rfl⟩
  rename_i hn1; rw [if_neg hn1] at he
  split
  · rename_i hy; rw [if_pos hy] at he
    rcases x_bracketed hx hk hn (whr sz s) _ _ (h.take (isT_ne hy)) he with ⟨h1, h2⟩ | h1
    · exact .inl ⟨h1, by dsimp only; rw [h2]⟩
    · exact .inr h1
  · exact .inl ⟨h, rfl⟩
theorem x_appMore : ∀ k f, Xg n (sh5 v sz r) (appMore sz ex k f) := by
  intro k
  induction k with
  | zero => exact fun f s s' h _ => .inl ⟨h, rfl⟩
  | succ k ih =>
    intro f s s' h he
    have hst := x_atom hx hk hn s s' h
    unfold appMore at he ⊢
    rcases hA : atom sz ex s with ⟨_ | t, s1⟩
    · rw [hA] at he hst
      rcases hst he with ⟨h1, h2⟩ | h1
      · rcases hB : atom sz ex s' with ⟨_ | t', s1'⟩
        · rw [hB] at h1; exact .inl ⟨h1, rfl⟩
        · rw [hB] at h2; cases h2
      · rcases hB : atom sz ex s' with ⟨_ | t', s1'⟩
        · rw [hB] at h1; exact .inr h1
        · rw [hB] at h1; exact .inr ((nkp_appMore hk k _ _).six h1)
    · rw [hA] at he hst
      rcases hst ((nkp_appMore hk k _ _).ok he) with ⟨h1, h2⟩ | h1
      · rcases hB : atom sz ex s' with ⟨_ | t', s1'⟩
        · rw [hB] at h2; cases h2
        · rw [hB] at h1 h2
          injection h2 with h2
          subst h2
          exact ih _ _ _ h1 he
      · rcases hB : atom sz ex s' with ⟨_ | t', s1'⟩
        · rw [hB] at h1; exact .inr h1
        · rw [hB] at h1; exact .inr ((nkp_appMore hk k _ _).six h1)
theorem x_app : Xg n (sh5 v sz r) (app sz ex) := by
  intro s s' h he
  have hst := x_atom hx hk hn s s' h
  unfold app at he ⊢
  rcases hA : atom sz ex s with ⟨_ | t, s1⟩
  · rw [hA] at he
    exact absurd he (fail_ne _ _ _ (by decide))
  · rw [hA] at he hst
    dsimp only at he ⊢
    rcases hst ((nkp_appMore hk _ _ _).ok he) with ⟨h1, h2⟩ | h1
    · rcases hB : atom sz ex s' with ⟨_ | t', s1'⟩
      · rw [hB] at h2; cases h2
      · rw [hB] at h1 h2
        injection h2 with h2
        subst h2
        dsimp only at h1 ⊢
        have hl := h1.len
        have e := appMore_fuel (sz := sz) hn (s1.ws.length + 1) (s1'.ws.length + 1) t' s1 (by omega) (by omega)
        rw [e] at he ⊢
        exact x_appMore hx hk hn _ _ _ _ h1 he
    · rcases hB : atom sz ex s' with ⟨_ | t', s1'⟩
      · rw [hB] at h1; exact .inr ((kp_fail _ _ _).six h1)
      · rw [hB] at h1; exact .inr ((nkp_appMore hk _ _ _).six h1)
omit hx hk hn in
theorem x_ahead : ∀ k, Xg n (sh5 v sz r) (ahead k) := by
  intro k
  induction k with
  | zero => exact fun s s' h _ => .inl ⟨h, rfl⟩
  | succ k ih =>
    intro s s' h he
    have e := h.pre
    unfold ahead at he ⊢
    rw [e]
    split
    · rename_i hy
      rw [if_pos hy] at he
      dsimp only at he
      have h0 : s.ws ≠ [] := fun h0 => by have := pre_pos hy; rw [h0] at this; simp at this
      rcases ih _ _ (h.take h0) he with ⟨h3, h4⟩ | h3
      · exact .inl ⟨h3, by dsimp only; rw [h4, h.hd h0]⟩
      · exact .inr h3
    · exact .inl ⟨h, rfl⟩
theorem x_unary : Xg n (sh5 v sz r) (unary sz ex) := by
  intro s s' h he
  have e := ahead_fuel s.ws.length s'.ws.length s (Nat.le_refl _) h.len
  unfold unary at he ⊢
  dsimp only at he ⊢
  rw [e] at he ⊢
  rcases x_ahead s'.ws.length s s' h ((nkp_app hk _).ok he) with ⟨h1, h2⟩ | h1
  · rcases x_app hx hk hn _ _ h1 he with ⟨h3, h4⟩ | h3
    · exact .inl ⟨h3, by dsimp only; rw [h2, h4]⟩
    · exact .inr h3
  · exact .inr ((nkp_app hk _).six h1)
omit hx hk hn in
theorem x_both {f : St → Tm × St} (hf : Xg n (sh5 v sz r) f) (l : Tm) {s s' : St} (h : Rx n (sh5 v sz r) s s') (h0 : s.ws ≠ []) (he : (both f l s).2.er = 0) : Gx n (sh5 v sz r) (both f l s) (both f l s') := by
  unfold both at he ⊢
  rcases hf _ _ (h.take h0) he with ⟨h1, h2⟩ | h1
  · exact .inl ⟨h1, by dsimp only; rw [h2, h.hd h0]⟩
  · exact .inr h1
omit hx hk hn in
theorem x_once {f : St → Tm × St} (hf : Xg n (sh5 v sz r) f) (hk : Nkp f) (ss : List Str) (hs : ss.contains tShut = false) : Xg n (sh5 v sz r) (once f ss) := by
  intro s s' h he
  have he1 : (f s).2.er = 0 := by
    unfold once at he
    split at he
    · exact (nkp_both hk _ _).ok he
    · exact he
  rcases hf s s' h he1 with ⟨h1, h2⟩ | h1
  · have e := h1.isT ss hs
    unfold once at he ⊢
    rw [e]
    split
    · rename_i hy; rw [if_pos hy] at he
      rw [h2]
      exact x_both hf _ h1 (isT_ne hy) he
    · exact .inl ⟨h1, h2⟩
  · right
    unfold once
    split
    · exact (nkp_both hk _ _).six h1
    · exact h1
omit hx hk hn in
theorem x_oftenMore {f : St → Tm × St} (hf : Xg n (sh5 v sz r) f) (hk : Nkp f) (ss : List Str) (hs : ss.contains tShut = false) : ∀ k l, Xg n (sh5 v sz r) (oftenMore f ss k l) := by
  intro k
  induction k with
  | zero => exact fun l s s' h _ => .inl ⟨h, rfl⟩
  | succ k ih =>
    intro l s s' h he
    have e := h.isT ss hs
    unfold oftenMore at he ⊢
    rw [e]
    split
    · rename_i hy; rw [if_pos hy] at he
      rcases x_both hf l h (isT_ne hy) ((nkp_oftenMore hk ss k _ _).ok he) with ⟨h1, h2⟩ | h1
      · rw [h2]
        exact ih _ _ _ h1 he
      · exact .inr ((nkp_oftenMore hk ss k _ _).six h1)
    · exact .inl ⟨h, rfl⟩
omit hx hk hn in
theorem x_often {f : St → Tm × St} (hf : Xg n (sh5 v sz r) f) (hk : Nkp f) (hn : Nice f) (ss : List Str) (hs : ss.contains tShut = false) : Xg n (sh5 v sz r) (often f ss) := by
  intro s s' h he
  unfold often at he ⊢
  rcases hf s s' h ((nkp_oftenMore hk ss _ _ _).ok he) with ⟨h1, h2⟩ | h1
  · have hl := h1.len
    have e := oftenMore_fuel hn ss (f s).2.ws.length (f s').2.ws.length (f s).1 (f s).2 (Nat.le_refl _) hl
    rw [e] at he ⊢
    rw [h2]
    exact x_oftenMore hf hk ss hs _ _ _ _ h1 he
  · exact .inr ((nkp_oftenMore hk ss _ _ _).six h1)
theorem x_assign : Xg n (sh5 v sz r) (assign sz ex) :=
  x_once (x_once (x_often (x_often (x_unary hx hk hn) (nkp_unary hk) (nice_unary hn) _ rfl) (nkp_prod hk) (nice_prod hn) _ rfl) (nkp_sum hk) _ rfl) (nkp_cmp hk) _ rfl
theorem x_exprHere : Xg n (sh5 v sz r) (exprHere sz ex) := by
  intro s s' h he
  unfold exprHere at he ⊢
  dsimp only at he ⊢
  rw [h.isT [tFun] rfl, h.isT [tLet] rfl, h.isT [tRec] rfl, h.isT [tIf] rfl, h.isT [tMatch] rfl, h.isT [tHandle] rfl, h.whr]
  split
  · rename_i hy; rw [if_pos hy] at he
    rcases x_name [2] _ _ (h.take (isT_ne hy)) ((nkp_behind hk _ _).ok he) with ⟨h1, h2⟩ | h1
    · rcases x_behind hx hk _ _ _ h1 he with ⟨h3, h4⟩ | h3
      · exact .inl ⟨h3, by dsimp only; rw [h2, h4]⟩
      · exact .inr h3
    · exact .inr ((nkp_behind hk _ _).six h1)
  rename_i hn1; rw [if_neg hn1] at he
  split
  · rename_i hy; rw [if_pos hy] at he
    rcases x_name [2] _ _ (h.take (isT_ne hy)) ((nkp_behind hk _ _).ok he) with ⟨h1, h2⟩ | h1
    · rcases x_behind hx hk _ _ _ h1 he with ⟨h3, h4⟩ | h3
      · exact .inl ⟨h3, by dsimp only; rw [h2, h4]⟩
      · exact .inr h3
    · exact .inr ((nkp_behind hk _ _).six h1)
  rename_i hn1; rw [if_neg hn1] at he
  split
  · rename_i hy; rw [if_pos hy] at he
    have he2 := (nkp_behind (sz := sz) hk _ _).ok he
    rcases x_name [2] _ _ (h.take (isT_ne hy)) ((nkp_name sz [2] _).ok he2) with ⟨h1, h2⟩ | h1
    · rcases x_name [2] _ _ h1 he2 with ⟨h3, h4⟩ | h3
      · rcases x_behind hx hk _ _ _ h3 he with ⟨h5, h6⟩ | h5
        · exact .inl ⟨h5, by dsimp only; rw [h2, h4, h6]⟩
        · exact .inr h5
      · exact .inr ((nkp_behind hk _ _).six h3)
    · exact .inr (((nkp_name sz [2] _).trans (nkp_behind hk _ _)).six h1)
  rename_i hn1; rw [if_neg hn1] at he
  split
  · rename_i hy; rw [if_pos hy] at he
    rcases x_behind hx hk _ _ _ h he with ⟨h3, h4⟩ | h3
    · exact .inl ⟨h3, by dsimp only; rw [h4]⟩
    · exact .inr h3
  rename_i hn1; rw [if_neg hn1] at he
  split
  · rename_i hy; rw [if_pos hy] at he
    dsimp only at he
    rcases x_behind hx hk _ _ _ h ((nkp_ways hk _).ok he) with ⟨h1, h2⟩ | h1
    · rcases x_ways hx hk hn _ _ h1 he with ⟨h3, h4⟩ | h3
      · exact .inl ⟨h3, by dsimp only; rw [h2, h4]⟩
      · exact .inr h3
    · exact .inr ((nkp_ways hk _).six h1)
  rename_i hn1; rw [if_neg hn1] at he
  split
  · rename_i hy; rw [if_pos hy] at he
    dsimp only at he
    have he2 := (nkp_clauses (sz := sz) hk _).ok he
    rcases x_name [3] _ _ (h.take (isT_ne hy)) ((hk _).ok he2) with ⟨h1, h2⟩ | h1
    · rcases hx _ _ h1 he2 with ⟨h3, h4⟩ | h3
      · rcases x_clauses hx hk hn _ _ h3 he with ⟨h5, h6⟩ | h5
        · exact .inl ⟨h5, by dsimp only; rw [h2, h4, h6]⟩
        · exact .inr h5
      · exact .inr ((nkp_clauses hk _).six h3)
    · exact .inr (((hk _).trans (nkp_clauses hk _)).six h1)
  rename_i hn1; rw [if_neg hn1] at he
  exact x_assign hx hk hn s s' h he
theorem x_exprStep : Xg n (sh5 v sz r) (exprStep sz ex) := by
  intro s s' h he
  unfold exprStep at he ⊢
  dsimp only at he ⊢
  split at he
  · exact absurd he (fail_ne _ _ _ (by decide))
  · rename_i hw
    rw [if_neg hw]
    split
    · right
      show (fail sz 6 s').er = 6
      unfold fail
      rw [if_pos h.2.1]
    · have h' : Rx n (sh5 v sz r) { s with wi := s.wi + 1 } { s' with wi := s'.wi + 1 } := ⟨h.1, h.2.1, by show s'.wi + 1 = s.wi + 1 + n; have := h.2.2.1; omega, h.2.2.2⟩
      have l := (nice_exprHere (sz := sz) hn { s with wi := s.wi + 1 }).2
      rcases x_exprHere hx hk hn _ _ h' he with ⟨h1, h2⟩ | h1
      · refine .inl ⟨⟨h1.1, h1.2.1, ?_, h1.2.2.2⟩, h2⟩
        show _ - 1 = _ - 1 + n
        have := h1.2.2.1
        dsimp only at l this
        omega
      · exact .inr h1
end
theorem x_expr : ∀ k, Xg n (sh5 v sz r) (expr sz k)
  | 0 => fun _ _ h _ => .inl ⟨h, rfl⟩
  | k + 1 => x_exprStep (x_expr k) (nkp_expr sz k) (nice_expr sz k)
end
end Pz
end Go.Proofs.YtnkfkaahjplnmaaGreatDoor

/- Plain facts on Pz: a program without declarations, in brackets. -/
namespace Go.Proofs.YtnkfkaahjplnmaaGreatDoor
namespace Pz
open Lx

abbrev opn : Tk := ⟨5, tOpen, 0, 0⟩
abbrev sht : Tk := ⟨5, tShut, 0, 0⟩
theorem cl_shuts (m wi at_ er : Nat) : Cl ⟨List.replicate m sht, wi, at_, er⟩ := by
  cases m with
  | zero => exact cl_nil rfl
  | succ m => exact cl_word (r := List.replicate m sht) (k := 5) (t := tShut) (n := 0) (p := 0) rfl (.inr rfl) (.inr (.inr (.inr rfl)))
/-- Where nothing can be read, that is told. -/
theorem cl_bad {f : Nat} {ws : List Tk} (h : Cl ⟨ws, 1, 0, 0⟩) : (expr 0 (f + 1) ⟨ws, 0, 0, 0⟩).2.er ≠ 0 := by
  have ha : app 0 (expr 0 f) ⟨ws, 1, 0, 0⟩ = (.zero, fail 0 3 ⟨ws, 1, 0, 0⟩) := by
    unfold app
    rw [h.atom]
  have hp : pre ⟨ws, 1, 0, 0⟩ = false := by
    unfold pre
    rw [h.isT _ rfl rfl rfl rfl, h.isOf _ rfl rfl]
    rfl
  have hx := here_of (sz := 0) (ex := expr 0 f) (s := ⟨ws, 1, 0, 0⟩) (fun a ha => by
    simp only [List.mem_cons, List.not_mem_nil, or_false] at ha
    rcases ha with rfl | rfl | rfl | rfl | rfl | rfl <;> exact h.isT _ rfl rfl rfl rfl) (assign_of (unary_none hp ha) (cl_nil rfl))
  show (exprStep 0 (expr 0 f) ⟨ws, 0, 0, 0⟩).2.er ≠ 0
  rw [step_ok (by show 0 ≤ 200; omega)]
  dsimp only
  rw [Nat.zero_add, hx]
  exact fail_ne _ _ _ (by decide)
/-- What can be read begins with no bracket that shuts. -/
theorem not_shut {f : Nat} {ws : List Tk} (h : (expr 0 (f + 1) ⟨ws, 0, 0, 0⟩).2.er = 0) (r : List Tk) (wi at_ er : Nat) : isT [tShut] ⟨ws ++ r, wi, at_, er⟩ = false := by
  by_cases hc : Cl ⟨ws, 1, 0, 0⟩
  · exact absurd h (cl_bad hc)
  · cases ws with
    | nil => exact absurd (cl_nil rfl) hc
    | cons x u =>
      cases hy : isT [tShut] ⟨x :: u ++ r, wi, at_, er⟩ with
      | false => rfl
      | true =>
        exfalso
        refine hc ?_
        obtain ⟨k, t, n, p⟩ := x
        have hy : ((k == 4 || k == 5) && [tShut].contains t) = true := hy
        simp only [Bool.and_eq_true, Bool.or_eq_true, beq_iff_eq, List.contains_cons, List.contains_nil, Bool.or_false] at hy
        exact cl_word (r := u) (k := k) (t := t) (n := n) (p := p) rfl hy.1 (.inr (.inr (.inr hy.2)))

/-- Words in brackets, with brackets that shut behind. -/
def brW (ws : List Tk) (m wi : Nat) : List Tk := List.replicate m opn ++ (ws ++ List.replicate (m + wi) sht)
theorem brW_succ (ws : List Tk) (m wi : Nat) : brW ws (m + 1) wi = opn :: brW ws m (wi + 1) := by
  unfold brW
  rw [show m + 1 + wi = m + (wi + 1) by omega]
  rfl
theorem brW_len (ws : List Tk) (m wi : Nat) : (brW ws m wi).length = m + (ws.length + (m + wi)) := by
  unfold brW
  simp only [List.length_append, List.length_replicate]
section
variable {ws : List Tk} {t : Tm} (h0 : ∀ k, ws.length < k → (expr 0 k ⟨ws, 0, 0, 0⟩).1 = t ∧ (expr 0 k ⟨ws, 0, 0, 0⟩).2.er = 0 ∧ (expr 0 k ⟨ws, 0, 0, 0⟩).2.ws = [])
include h0
theorem brW_not_shut (m wi a b c : Nat) : isT [tShut] ⟨brW ws m wi, a, b, c⟩ = false := by
  cases m with
  | zero => exact not_shut (f := ws.length) (h0 (ws.length + 1) (by omega)).2.1 _ _ _ _
  | succ m => rw [brW_succ]; rfl
theorem br_expr : ∀ (m wi k : Nat), (brW ws m wi).length < k → ((expr 0 k ⟨brW ws m wi, wi, 0, 0⟩).1 = t ∧ (expr 0 k ⟨brW ws m wi, wi, 0, 0⟩).2.er = 0 ∧ (expr 0 k ⟨brW ws m wi, wi, 0, 0⟩).2.ws = List.replicate wi sht ∧ wi + m ≤ 200) ∨
    ((expr 0 k ⟨brW ws m wi, wi, 0, 0⟩).2.er = 6 ∧ 0 < wi + m) := by
  intro m
  induction m with
  | zero =>
    intro wi k hk
    rw [brW_len] at hk
    cases wi with
    | zero =>
      have e : brW ws 0 0 = ws := by unfold brW; simp
      rw [e]
      obtain ⟨a, b, c⟩ := h0 k (by omega)
      exact .inl ⟨a, b, c, by omega⟩
    | succ j =>
      by_cases hw : 200 < j + 1
      · right
        obtain ⟨f, rfl⟩ : ∃ f, k = f + 1 := ⟨k - 1, by omega⟩
        refine ⟨?_, by omega⟩
        show (exprStep 0 (expr 0 f) _).2.er = 6
        rw [step_over hw]
        rfl
      · obtain ⟨a, b, c⟩ := h0 k (by omega)
        have e : brW ws 0 (j + 1) = ws ++ sh5 0 0 (List.replicate j sht) := by
          unfold brW
          rw [Nat.zero_add]
          rfl
        have hx := x_expr (sz := 0) (n := j + 1) (v := 0) (r := List.replicate j sht) k ⟨ws, 0, 0, 0⟩ ⟨brW ws 0 (j + 1), j + 1, 0, 0⟩ ⟨rfl, rfl, by show j + 1 = 0 + (j + 1); omega, e⟩ b
        rcases hx with ⟨h1, h2⟩ | h1
        · refine .inl ⟨h2.trans a, h1.2.1, ?_, by omega⟩
          rw [h1.2.2.2, c]
          rfl
        · exact .inr ⟨h1, by omega⟩
  | succ m ih =>
    intro wi k hk
    obtain ⟨f, rfl⟩ : ∃ f, k = f + 1 := ⟨k - 1, by omega⟩
    rw [brW_succ] at hk ⊢
    rw [List.length_cons] at hk
    show ((exprStep 0 (expr 0 f) _).1 = t ∧ (exprStep 0 (expr 0 f) _).2.er = 0 ∧ (exprStep 0 (expr 0 f) _).2.ws = _ ∧ _) ∨ ((exprStep 0 (expr 0 f) _).2.er = 6 ∧ _)
    by_cases hw : 200 < wi
    · right
      rw [step_over hw]
      exact ⟨rfl, by omega⟩
    · have hi := ih (wi + 1) f (by omega)
      obtain ⟨x, hx⟩ : ∃ x, expr 0 f ⟨brW ws m (wi + 1), wi + 1, 0, 0⟩ = x := ⟨_, rfl⟩
      have hdn : Dn x.2 := by
        have := (nkp_expr 0 f ⟨brW ws m (wi + 1), wi + 1, 0, 0⟩).2 (fun h => absurd rfl h)
        rw [hx] at this
        exact this
      rw [hx] at hi
      have hat : atom 0 (expr 0 f) ⟨opn :: brW ws m (wi + 1), wi + 1, 0, 0⟩ = (some x.1, must1 0 tShut x.2) := by
        show (some (bracketed 0 (expr 0 f) 0 ⟨brW ws m (wi + 1), wi + 1, 0, 0⟩).1, (bracketed 0 (expr 0 f) 0 ⟨brW ws m (wi + 1), wi + 1, 0, 0⟩).2) = _
        unfold bracketed
        rw [brW_not_shut h0, if_neg (by decide), hx]
      have hs : (x.2.er = 0 ∧ (must1 0 tShut x.2).ws = List.replicate wi sht ∧ (must1 0 tShut x.2).er = 0) ∨ (x.2.er = 6 ∧ (must1 0 tShut x.2).ws = [] ∧ (must1 0 tShut x.2).er = 6) := by
        rcases hi with ⟨h1, h2, h3, h4⟩ | ⟨h1, h2⟩
        · left
          obtain ⟨x1, ⟨ws', wi', at', er'⟩⟩ := x
          dsimp only at h2 h3
          subst h2 h3
          exact ⟨rfl, rfl, rfl⟩
        · right
          have h3 := hdn (by rw [h1]; decide)
          refine ⟨h1, ?_, (kp_must1 0 tShut x.2).six h1⟩
          exact (kp_must1 0 tShut x.2).2 hdn (by rw [(kp_must1 0 tShut x.2).six h1]; decide)
      have hc : Cl (must1 0 tShut x.2) := by
        rcases hs with ⟨_, h1, _⟩ | ⟨_, h1, _⟩
        · have := cl_shuts wi (must1 0 tShut x.2).wi (must1 0 tShut x.2).at_ (must1 0 tShut x.2).er
          rw [← h1] at this
          exact this
        · exact cl_nil h1
      have hh := here_of (sz := 0) (ex := expr 0 f) (s := ⟨opn :: brW ws m (wi + 1), wi + 1, 0, 0⟩) (fun a ha => by
        simp only [List.mem_cons, List.not_mem_nil, or_false] at ha
        rcases ha with rfl | rfl | rfl | rfl | rfl | rfl <;> rfl) (assign_of (unary_none rfl (app_one hat hc)) hc)
      rw [step_ok (by show wi ≤ 200; omega)]
      dsimp only
      rw [hh]
      dsimp only
      rcases hi with ⟨h1, h2, h3, h4⟩ | ⟨h1, h2⟩
      · rcases hs with ⟨_, h5, h6⟩ | ⟨h5, _, _⟩
        · exact .inl ⟨h1, h6, h5, by omega⟩
        · rw [h2] at h5; cases h5
      · rcases hs with ⟨h5, _, _⟩ | ⟨_, _, h6⟩
        · rw [h1] at h5; cases h5
        · exact .inr ⟨h6, by omega⟩
end

theorem decls_grow (sz : Nat) : ∀ n es ds s, es.length + ds.length ≤ (decls sz n es ds s).1.1.length + (decls sz n es ds s).1.2.length := by
  intro n
  induction n with
  | zero => intro es ds s; exact Nat.le_refl _
  | succ n ih =>
    intro es ds s
    unfold decls
    split
    · split
      · have := ih (es ++ [(effect sz (take s)).1]) ds (effect sz (take s)).2
        rw [List.length_append] at this
        omega
      · have := ih es (ds ++ [(data sz (must1 sz tData s)).1]) (data sz (must1 sz tData s)).2
        rw [List.length_append] at this
        omega
    · exact Nat.le_refl _
theorem decls_not {sz n : Nat} {s : St} (h : isT [tEffect, tData] s = false) : decls sz n [] [] s = (([], []), s) := by
  cases n with
  | zero => rfl
  | succ n => unfold decls; rw [h]; rfl
/-- A program without declarations begins with none. -/
theorem decls_none {sz : Nat} {s : St} (h : (decls sz s.ws.length [] [] s).1 = ([], [])) : isT [tEffect, tData] s = false := by
  cases hy : isT [tEffect, tData] s with
  | false => rfl
  | true =>
    exfalso
    have hp := isT_pos hy
    obtain ⟨n, hn⟩ : ∃ n, s.ws.length = n + 1 := ⟨s.ws.length - 1, by omega⟩
    rw [hn] at h
    unfold decls at h
    rw [if_pos hy] at h
    split at h
    · have := decls_grow sz n ([] ++ [(effect sz (take s)).1]) [] (effect sz (take s)).2
      rw [h] at this
      simp at this
    · have := decls_grow sz n [] ([] ++ [(data sz (must1 sz tData s)).1]) (data sz (must1 sz tData s)).2
      rw [h] at this
      simp at this
/-- The same program in brackets: the same, or too deep. -/
theorem br_program {ws : List Tk} {t : Tm} {s : St} (hp : program 0 ⟨ws, 0, 0, 0⟩ = (⟨[], [], t⟩, s)) (he : s.er = 0) (m : Nat) :
    ((program 0 ⟨brW ws m 0, 0, 0, 0⟩).1 = ⟨[], [], t⟩ ∧ (program 0 ⟨brW ws m 0, 0, 0, 0⟩).2.er = 0 ∧ m ≤ 200) ∨ ((program 0 ⟨brW ws m 0, 0, 0, 0⟩).2.er = 6 ∧ 0 < m) := by
  have hd : isT [tEffect, tData] ⟨ws, 0, 0, 0⟩ = false := by
    refine decls_none (sz := 0) ?_
    have h1 := congrArg (·.1.effs) hp
    have h2 := congrArg (·.1.dats) hp
    exact Prod.ext h1 h2
  have hq : ∀ W, isT [tEffect, tData] ⟨W, 0, 0, 0⟩ = false → program 0 ⟨W, 0, 0, 0⟩ = (⟨[], [], (expr 0 (W.length + 1) ⟨W, 0, 0, 0⟩).1⟩, if 0 < (expr 0 (W.length + 1) ⟨W, 0, 0, 0⟩).2.ws.length then fail 0 3 (expr 0 (W.length + 1) ⟨W, 0, 0, 0⟩).2 else (expr 0 (W.length + 1) ⟨W, 0, 0, 0⟩).2) := by
    intro W hW
    unfold program
    dsimp only
    rw [decls_not hW]
  have h0 : ∀ k, ws.length < k → (expr 0 k ⟨ws, 0, 0, 0⟩).1 = t ∧ (expr 0 k ⟨ws, 0, 0, 0⟩).2.er = 0 ∧ (expr 0 k ⟨ws, 0, 0, 0⟩).2.ws = [] := by
    intro k hk
    rw [expr_fuel (sz := 0) (n := k) (m := ws.length + 1) (s := ⟨ws, 0, 0, 0⟩) hk (Nat.lt_succ_self _)]
    rw [hq ws hd] at hp
    have h1 := congrArg (·.1.body) hp
    have h2 := congrArg (·.2) hp
    dsimp only at h1 h2
    refine ⟨h1, ?_⟩
    split at h2
    · rw [← h2] at he
      exact absurd he (fail_ne _ _ _ (by decide))
    · rename_i hz
      rw [← h2] at he
      exact ⟨he, List.length_eq_zero_iff.1 (by omega)⟩
  have hb := br_expr h0 m 0 ((brW ws m 0).length + 1) (Nat.lt_succ_self _)
  have hdn := (nkp_expr 0 ((brW ws m 0).length + 1) ⟨brW ws m 0, 0, 0, 0⟩).2 (fun h => absurd rfl h)
  have hd2 : isT [tEffect, tData] ⟨brW ws m 0, 0, 0, 0⟩ = false := by
    cases m with
    | zero =>
      have e : brW ws 0 0 = ws := by unfold brW; simp
      rw [e]
      exact hd
    | succ m => rw [brW_succ]; rfl
  rw [hq _ hd2]
  dsimp only
  rcases hb with ⟨h1, h2, h3, h4⟩ | ⟨h1, h2⟩
  · left
    rw [h3]
    exact ⟨by rw [h1], h2, by omega⟩
  · right
    rw [hdn (by rw [h1]; decide)]
    exact ⟨h1, by omega⟩
end Pz
end Go.Proofs.YtnkfkaahjplnmaaGreatDoor

/- What is parsed of a program without declarations, in brackets. -/
namespace Go.Proofs.YtnkfkaahjplnmaaGreatDoor
open Pz

abbrev nowhere (_ : Nat) : Nat := 0
theorem Lexes.moved {p : Nat} {l : List UInt8} {ws : List Lx.Tk} {r : Option Nat} (h : Lexes p l ws r) : ∀ q, ∃ ws' r', Lexes q l ws' r' ∧ ws'.map (mT nowhere) = ws.map (mT nowhere) ∧ (r = none → r' = none) := by
  induction h with
  | done p l h => exact fun q => ⟨[], none, .done _ _ h, rfl, fun _ => rfl⟩
  | err p l h0 h => exact fun q => ⟨[], _, .err _ _ h0 h, rfl, fun h => by cases h⟩
  | word p l x m ws r h hr ih =>
    intro q
    obtain ⟨ws', r', h1, h2, h3⟩ := ih (q + sk l + m)
    exact ⟨_, r', .word q l x m ws' r' h h1, by rw [List.map_cons, List.map_cons, h2]; rfl, h3⟩
set_option maxRecDepth 10000 in
theorem lex_shuts0 : ∀ (m p : Nat), ∃ ws, Lexes p (List.replicate m 41) ws none ∧ ws.map (mT nowhere) = List.replicate m sht
  | 0, p => ⟨[], .done _ _ rfl, rfl⟩
  | m + 1, p => by
    obtain ⟨ws, h1, h2⟩ := lex_shuts0 m (p + 1)
    exact ⟨_, Lexes.tok (l := 41 :: List.replicate m 41) (x := ⟨5, tShut, 0, 0⟩) (m := 1) rfl rfl h1, by rw [List.map_cons, h2]; rfl⟩
set_option maxRecDepth 10000 in
theorem lex_opens0 {t : List UInt8} {ws0 : List Lx.Tk} (h : ∀ q, ∃ ws, Lexes q t ws none ∧ ws.map (mT nowhere) = ws0) : ∀ (m p : Nat), ∃ ws, Lexes p (List.replicate m 40 ++ t) ws none ∧ ws.map (mT nowhere) = List.replicate m opn ++ ws0
  | 0, p => h p
  | m + 1, p => by
    obtain ⟨ws, h1, h2⟩ := lex_opens0 h m (p + 1)
    exact ⟨_, Lexes.tok (l := 40 :: (List.replicate m 40 ++ t)) (x := ⟨5, tOpen, 0, 0⟩) (m := 1) rfl rfl h1, by rw [List.map_cons, h2]; rfl⟩
/-- A text in brackets. -/
def brT (B : List UInt8) (n : Nat) : List UInt8 := List.replicate n 40 ++ (B ++ 10 :: List.replicate n 41)
theorem brT_len (B : List UInt8) (n : Nat) : (brT B n).length = n + (B.length + (n + 1)) := by
  unfold brT
  simp only [List.length_append, List.length_replicate, List.length_cons]
theorem lex_brT {B : List UInt8} {ws : List Lx.Tk} (h : Lexes 0 B ws none) (n : Nat) : ∃ ws', Lexes 0 (brT B n) ws' none ∧ ws'.map (mT nowhere) = brW (ws.map (mT nowhere)) n 0 := by
  refine lex_opens0 (fun q => ?_) n 0
  obtain ⟨ws1, r1, h1, h2, h3⟩ := h.moved q
  have h3 := h3 rfl
  subst h3
  obtain ⟨ws2, h4, h5⟩ := lex_shuts0 n (q + B.length + 1)
  refine ⟨_, (h1.joins (List.replicate n 41)).1 rfl _ _ h4, ?_⟩
  rw [List.map_append, h2, h5]
  rfl
/-- What is parsed of it: the same body, or it is too deep. -/
theorem br_parse {B : List UInt8} (hB : B.length ≤ 500) (hp : (parseR B).2.2 = 0) (he : (parseR B).1.effs = []) (hd : (parseR B).1.dats = []) {n : Nat} (hn : n ≤ 230) :
    ((parseR (brT B n)).2.2 = 6 ∧ 0 < n) ∨ ((parseR (brT B n)).2.2 = 0 ∧ n ≤ 200 ∧ noAt (parseR (brT B n)).1.body = noAt (parseR B).1.body) := by
  rcases lexR_cases B (by omega) with ⟨ws, hr, hw⟩ | ⟨ws, p, hr, hw⟩
  · obtain ⟨ws', hw', hm⟩ := lex_brT hw n
    have hl := brT_len B n
    rw [parseR_ok hr] at hp he hd ⊢
    rw [parseR_ok (lexR_ok (by omega) hw')]
    have e1 := parseW_m (φ := nowhere) rfl B.length ws
    have e2 := parseW_m (φ := nowhere) rfl (brT B n).length ws'
    rw [hm] at e2
    generalize parseW B.length ws = R1 at e1 hp he hd ⊢
    generalize parseW (brT B n).length ws' = R2 at e2 ⊢
    obtain ⟨⟨ef, da, t⟩, a, er⟩ := R1
    dsimp only at hp he hd
    subst hp he hd
    obtain ⟨q, hq⟩ : ∃ q, q = Pz.program 0 ⟨ws.map (mT nowhere), 0, 0, 0⟩ := ⟨_, rfl⟩
    obtain ⟨q', hq'⟩ : ∃ q', q' = Pz.program 0 ⟨brW (ws.map (mT nowhere)) n 0, 0, 0, 0⟩ := ⟨_, rfl⟩
    obtain ⟨q, s⟩ := q
    obtain ⟨q', s'⟩ := q'
    have hs : s.er = 0 := by
      by_cases h : s.er = 0
      · exact h
      · rw [parseW_err hq.symm h] at e1
        exact absurd (congrArg (·.2.2) e1) h
    have hdp : ¬ 200 < q.body.deep := by
      intro h
      rw [parseW_deep hq.symm hs h] at e1
      have := congrArg (·.2.2) e1
      cases this
    rw [parseW_ok hq.symm hs hdp] at e1
    have hq1 : q = ⟨[], [], mTm nowhere t⟩ := congrArg (·.1) e1
    subst hq1
    have hb := br_program hq.symm hs n
    rw [← hq'] at hb
    dsimp only at hb
    rcases hb with ⟨h1, h2, h3⟩ | ⟨h1, h2⟩
    · right
      subst h1
      rw [parseW_ok hq'.symm h2 hdp] at e2
      refine ⟨(congrArg (·.2.2) e2).symm, h3, ?_⟩
      have h4 : mTm nowhere t = mTm nowhere R2.1.body := congrArg (·.1.body) e2
      rw [← noAt_m nowhere, ← h4, noAt_m]
    · left
      rw [parseW_err hq'.symm (by rw [h1]; decide)] at e2
      exact ⟨by rw [← (show s'.er = R2.2.2 from congrArg (·.2.2) e2)]; exact h1, h2⟩
  · rw [parseR_err hr (by decide)] at hp
    cases hp
end Go.Proofs.YtnkfkaahjplnmaaGreatDoor
