/- The reference's Vars: what it answers; what is closed stays. -/
import Derived.Test.YtgheaaljnmkclaaSbf
namespace Go.Proofs.Ytgheaaljnmkclaa
open Go.RowKit

def withL (L : List Int) (n : Int) : List Int := if n ∈ L then L else L ++ [n]
abbrev LL2 := List Int × List Int
def varsF (k rv : Int) (f : Bool) (s : LL2) : LL2 := if f = true ∧ k = 5 ∧ 0 < rv then (s.1, withL s.2 rv) else s
mutual
def varsT : Ty → LL2 → LL2
  | .mk k _ v kids _ rv, s => varsTL k rv true kids (if k = 7 then (withL s.1 v, s.2) else s)
def varsTL (k rv : Int) (f : Bool) : List Ty → LL2 → LL2
  | [], s => s
  | t :: r, s => varsTL k rv false r (varsF k rv f (varsT t s))
end
theorem withL_len (L : List Int) (n : Int) : (withL L n).length ≤ L.length + 1 := by unfold withL; split <;> simp
theorem withL_mem (L : List Int) (n : Int) : n ∈ withL L n := by unfold withL; split <;> simp_all
theorem withL_sub {L : List Int} {n x : Int} (h : x ∈ L) : x ∈ withL L n := by unfold withL; split <;> simp_all
theorem withL_all {L : List Int} {n : Int} {P : Int → Prop} (h : ∀ x ∈ L, P x) (hn : P n) : ∀ x ∈ withL L n, P x := by
  intro x hx
  unfold withL at hx
  split at hx
  · exact h x hx
  · rcases List.mem_append.1 hx with hx | hx
    · exact h x hx
    · rw [List.mem_singleton.1 hx]; exact hn
theorem varsF_len (k rv : Int) (f : Bool) (s : LL2) : (varsF k rv f s).1.length ≤ s.1.length + 1 ∧ (varsF k rv f s).2.length ≤ s.2.length + 1 := by
  unfold varsF
  split
  · exact ⟨by simp, withL_len _ _⟩
  · exact ⟨by omega, by omega⟩
theorem varsF_false (k rv : Int) (s : LL2) : varsF k rv false s = s := if_neg (by simp)
theorem varsF_fst (k rv : Int) (f : Bool) (s : LL2) : (varsF k rv f s).1 = s.1 := by unfold varsF; split <;> rfl
mutual
theorem varsT_len : ∀ (t : Ty) (s : LL2), (varsT t s).1.length ≤ s.1.length + t.size ∧ (varsT t s).2.length ≤ s.2.length + t.size
  | .mk k nm v kids ls rv, s => by
    have h1 := varsTL_len k rv true kids (if k = 7 then (withL s.1 v, s.2) else s)
    have h2 := withL_len s.1 v
    simp only [varsT, Ty.size]
    have e1 : (if k = 7 then (withL s.1 v, s.2) else s).1.length ≤ s.1.length + 1 := by split <;> simp [h2]
    have e3 : (if true = true then 1 else 0 : Nat) = 1 := rfl
    rw [e3] at h1
    have e2 : (if k = 7 then (withL s.1 v, s.2) else s).2.length ≤ s.2.length := by split <;> simp
    omega
theorem varsTL_len (k rv : Int) : ∀ (f : Bool) (l : List Ty) (s : LL2), (varsTL k rv f l s).1.length ≤ s.1.length + Ty.sizeL l ∧ (varsTL k rv f l s).2.length ≤ s.2.length + Ty.sizeL l + (if f = true then 1 else 0)
  | f, [], s => by simp [varsTL, Ty.sizeL]
  | f, t :: r, s => by
    have h1 := varsT_len t s
    have h3 := varsTL_len k rv false r (varsF k rv f (varsT t s))
    have h4 := varsF_fst k rv f (varsT t s)
    have h2 := (varsF_len k rv f (varsT t s)).2
    simp only [varsTL, Ty.sizeL]
    rw [h4] at h3
    simp only [Bool.false_eq_true, if_false] at h3
    cases f
    · rw [varsF_false] at h3 ⊢
      simp
      omega
    · simp
      omega
end
theorem varsTL_snoc (k rv : Int) (t : Ty) : ∀ (l : List Ty) (f : Bool) (s : LL2), varsTL k rv f (l ++ [t]) s = varsF k rv (f && l.isEmpty) (varsT t (varsTL k rv f l s))
  | [], f, s => by simp [varsTL]
  | u :: r, f, s => by
    simp only [List.cons_append, varsTL, varsTL_snoc k rv t r, List.isEmpty_cons, Bool.and_false, Bool.false_and]
mutual
theorem varsT_all {P : Int → Prop} : ∀ (t : Ty) (s : LL2), (∀ x ∈ s.1, x ∈ (varsT t s).1) ∧ ∀ x ∈ s.2, x ∈ (varsT t s).2
  | .mk k nm v kids ls rv, s => by
    have h1 := varsTL_all (P := P) k rv true kids (if k = 7 then (withL s.1 v, s.2) else s)
    simp only [varsT]
    refine ⟨fun x hx => h1.1 x ?_, fun x hx => h1.2 x ?_⟩
    · split
      · exact withL_sub hx
      · exact hx
    · split <;> exact hx
theorem varsTL_all {P : Int → Prop} (k rv : Int) : ∀ (f : Bool) (l : List Ty) (s : LL2), (∀ x ∈ s.1, x ∈ (varsTL k rv f l s).1) ∧ ∀ x ∈ s.2, x ∈ (varsTL k rv f l s).2
  | f, [], s => ⟨fun _ h => h, fun _ h => h⟩
  | f, t :: r, s => by
    have h1 := varsT_all (P := P) t s
    have h3 := varsTL_all (P := P) k rv false r (varsF k rv f (varsT t s))
    have h4 := varsF_fst k rv f (varsT t s)
    simp only [varsTL]
    refine ⟨fun x hx => h3.1 x (by rw [h4]; exact h1.1 x hx), fun x hx => h3.2 x ?_⟩
    unfold varsF
    split
    · exact withL_sub (h1.2 x hx)
    · exact h1.2 x hx
end
mutual
/-- What is right has no row variable but at a function. -/
def RightP : Ty → Prop
  | .mk k _ _ kids _ rv => (rv = 0 ∨ (k = 5 ∧ kids.length = 2 ∧ 0 ≤ rv)) ∧ RightPL kids
def RightPL : List Ty → Prop
  | [] => True
  | t :: r => RightP t ∧ RightPL r
end
theorem RightPL_iff : ∀ l : List Ty, RightPL l ↔ ∀ t ∈ l, RightP t
  | [] => by simp [RightPL]
  | t :: r => by simp [RightPL, RightPL_iff r]
mutual
theorem closed_ap {T : Int → Option Ty} {R : Int → Option (List Str × Int)} : ∀ (t : Ty) (s : LL2), RightP t → (∀ x ∈ (varsT t s).1, T x = none) → (∀ x ∈ (varsT t s).2, R x = none) → apT T t = t ∧ pcsT T t = t.size ∧ rowsFree R T t
  | .mk k nm v kids ls rv, s, hR, hT, hRr => by
    simp only [RightP] at hR
    simp only [varsT] at hT hRr
    have hins : insT T k v = none := by
      unfold insT
      split
      · rename_i hk
        refine hT v ((varsTL_all (P := fun _ => True) k rv true kids _).1 v ?_)
        rw [if_pos hk]
        exact withL_mem _ _
      · rfl
    obtain ⟨h1, h2, h3⟩ := closed_apL kids _ hR.2 (k := k) (rv := rv) (f := true) hT hRr
    refine ⟨by simp only [apT, hins, h1], by simp only [pcsT, hins, h2, Ty.size], ?_⟩
    simp only [rowsFree]
    refine .inr ⟨?_, h3⟩
    rcases hR.1 with h | ⟨hk, hl, h0⟩
    · exact .inl h
    · rcases Int.lt_or_eq_of_le h0 with h | h
      · match kids, hl with
        | t :: r, _ =>
          refine .inr (hRr rv ?_)
          simp only [varsTL]
          refine (varsTL_all (P := fun _ => True) k rv false r _).2 rv ?_
          unfold varsF
          rw [if_pos ⟨rfl, hk, h⟩]
          exact withL_mem _ _
      · exact .inl h.symm
theorem closed_apL {T : Int → Option Ty} {R : Int → Option (List Str × Int)} {k rv : Int} : ∀ (l : List Ty) (s : LL2), RightPL l → ∀ {f : Bool}, (∀ x ∈ (varsTL k rv f l s).1, T x = none) → (∀ x ∈ (varsTL k rv f l s).2, R x = none) → apTL T l = l ∧ pcsTL T l = Ty.sizeL l ∧ rowsFreeL R T l
  | [], s, _, f, _, _ => ⟨rfl, rfl, trivial⟩
  | t :: r, s, hR, f, hT, hRr => by
    simp only [RightPL] at hR
    simp only [varsTL] at hT hRr
    obtain ⟨h1, h2, h3⟩ := closed_ap t s hR.1 (fun x hx => hT x ((varsTL_all (P := fun _ => True) k rv false r _).1 x (by rw [varsF_fst]; exact hx)))
      (fun x hx => hRr x ((varsTL_all (P := fun _ => True) k rv false r _).2 x (by unfold varsF; split; exact withL_sub hx; exact hx)))
    obtain ⟨h4, h5, h6⟩ := closed_apL r _ hR.2 (f := false) hT hRr
    exact ⟨by simp only [apTL, h1, h4], by simp only [pcsTL, Ty.sizeL, h2, h5], by simp only [rowsFreeL]; exact ⟨h3, h6⟩⟩
end
end Go.Proofs.Ytgheaaljnmkclaa
