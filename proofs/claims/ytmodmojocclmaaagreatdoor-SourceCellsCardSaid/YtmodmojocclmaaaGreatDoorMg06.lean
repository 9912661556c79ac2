/- What is taken first in a region that draws its order, in a few words. -/
import Derived.Test.YtmodmojocclmaaaGreatDoorMg05
import Derived.OrdersHeld
import Derived.WalkKit
import Derived.BigRegion
import Derived.Deep.RegionHeld
namespace Go.Proofs.YtmodmojocclmaaaGreatDoor.K
open Go Go.RowKit
namespace So

theorem tkH {P : Program} {ops : Array Oper} {Q : Exit → Act → World → Prop} {md : Region.Mode} {S : World → Prop} (i d : Nat) {op : Op} {ty : TypeId} {pos : String} {af : Array Edge} {gd : Option (Nat × Bool)} {v : Value} {fuel : Nat} {listed : Array Bool} {a : Act} {w : World}
  (hi : ops[i]? = some ⟨some d, op, ty, pos, af, gd⟩) (h : wpAnyH P md ops Q S fuel (listed.setIfInBounds i true) (a.put (some d) v) w)
  (hs : Region.noSelect ops = true := by kernel_rfl) (hf : Region.free md ops listed i = true := by kernel_rfl) (hr : (Region.ready md ops listed).contains i = true := by kernel_rfl)
  (hQ : ∀ c a w, Q (.panic c) (a.put (some d) v) w → Q (.panic c) a w := by exact fun _ _ _ h => h) (hw : Region.wanted (⟨some d, op, ty, pos, af, gd⟩ : Oper) (yielded ops a.tmps) = true := by kernel_rfl)
  (hy : ∀ w', S w' → (execOp a.eval ⟨some d, op, ty, pos, af, gd⟩).run P w' = .ok (.value v) w' := by (intro w' hSw; (try dsimp only at hSw); go_split_ands; go_simp; first | done | with_reducible rfl)) (hS : S w := by assumption) : wpAnyH P md ops Q S (fuel + 1) listed a w :=
 wpAnyH_take hi hs hf hr hQ (Or.inl ⟨hw, hy⟩) hS h
theorem s1 {α : Type _} (l : List α) (i : Nat) (a : α) : l.toArray.setIfInBounds i a = (l.set i a).toArray := List.setIfInBounds_toArray ..
theorem s2 {α : Type _} (x a : α) (l : List α) : (x :: l).set 0 a = a :: l := List.set_cons_zero ..
theorem s3 {α : Type _} (x a : α) (l : List α) (n : Nat) : (x :: l).set (n + 1) a = x :: l.set n a := List.set_cons_succ ..
theorem rd1 {P : Program} {ops : Array Oper} {Q : Exit → Act → World → Prop} {md : Region.Mode} {S : World → Prop} (i : Nat) (d : Option Nat) {op : Op} {ty : TypeId} {pos : String} {af : Array Edge} {gd : Option (Nat × Bool)} {fuel : Nat} {listed : Array Bool} {a : Act} {w : World}
  (ho : ops[i]? = some ⟨d, op, ty, pos, af, gd⟩)
  (h : ∀ K' : Act → World → Prop, Shut (∀ a w, S w → (S w → wpAnyH P md ops Q S fuel (listed.setIfInBounds i true) a w) → K' a w) → if Region.wanted (⟨d, op, ty, pos, af, gd⟩ : Oper) (yielded ops a.tmps) = true then Oper.wp P ⟨d, op, ty, pos, af, gd⟩ a w K' Q else K' (a.put d undef) w)
  (hr : Region.ready md ops listed = [i] := by kernel_rfl) : wpAnyH P md ops Q S (fuel + 1) listed a w :=
 wpAnyH_ready hr (by simp) (AllReadyH.cons ho h AllReadyH.nil)
end So
end Go.Proofs.YtmodmojocclmaaaGreatDoor.K

/- The machine of package source, in plain words: its steps are counted. -/
namespace Go.Proofs.YtmodmojocclmaaaGreatDoor.K
namespace So

theorem ite_steps {c : Prop} [Decidable c] {a b s : St} (h1 : a.steps = s.steps) (h2 : b.steps = s.steps) : (if c then a else b).steps = s.steps := by split <;> assumption
theorem operate_steps (op : Str) (l : List Val) (s : St) : (operate op l s).steps = s.steps := by
 unfold operate
 (repeat' split) <;> rfl
theorem gather_steps (t : Tm) (e : Env) (l : List Val) (s : St) : (gather t e l s).steps = s.steps := by
 unfold gather
 (repeat' split) <;> first | rfl | exact operate_steps _ _ _
theorem enter_steps (t : Tm) (e : Env) (s : St) : (enter t e s).steps = s.steps := by
 unfold enter
 repeat' with_reducible refine ite_steps ?_ ?_
 all_goals first | rfl | exact gather_steps _ _ _ _ | (cases find t.nm e <;> rfl)
theorem callV_steps (f v : Val) (s : St) : (callV f v s).steps = s.steps := by cases f <;> rfl
theorem take_steps (f : Frame) (v : Val) (s : St) : (take f v s).steps = s.steps := by
 cases f with
 | arg t e => rfl
 | fn f => exact callV_steps f v s
 | name nm t e => rfl
 | choice y n e =>
  change (if kV v = 2 then (if nV v = 1 then s.goes y e else s.goes n e) else s.ends 4).steps = s.steps
  exact ite_steps (ite_steps rfl rfl) rfl
 | mat arms e =>
  cases v with
  | con nm kids =>
   change (match armFor nm kids.length arms with | some a => s.goes a.2.2 (binds e a.2.1 kids) | none => s.ends 4).steps = s.steps
   cases armFor nm kids.length arms <;> rfl
  | _ => rfl
 | ask op =>
  change (match cut op s.above s.hs [] with | none => s.ends 4 | some (ps, h, c, be, hs) => { (s.goes c.2.2 ((nmD c.2.1 1, .res ps) :: (nmD c.2.1 0, v) :: h.2)) with above := be, hs := hs, konts := s.konts + 1 }).steps = s.steps
  cases cut op s.above s.hs [] <;> rfl
 | gath t e done => exact gather_steps _ _ _ _
theorem takeH_steps (h : Hd) (v : Val) (s : St) : (takeH h v s).steps = s.steps := by
 unfold takeH
 (repeat' split) <;> rfl
theorem body_steps (s : St) : (body s).steps = s.steps := by
 unfold body
 (repeat' split) <;> first | exact enter_steps _ _ _ | exact take_steps _ _ _ | exact takeH_steps _ _ _ | rfl
theorem step_steps (s : St) : (step s).steps = s.steps + 1 := by
 unfold step fin
 split
 ·exact body_steps _
 ·exact body_steps _
theorem run_over {s : St} (h : s.out ≠ 0) : ∀ n, run n s = s
 | 0 => rfl
 | n + 1 => by rw [run, if_neg h]
theorem run_one {s : St} (h : s.out = 0) (n : Nat) : run (n + 1) s = run n (step s) := by rw [run, if_pos h]
theorem run_more {s : St} : ∀ n, (run n s).out = 0 → run (n + 1) s = step (run n s) ∧ (run n s).steps = s.steps + n := by
 intro n
 induction n generalizing s with
 | zero => intro h; exact ⟨run_one h 0, rfl⟩
 | succ n ih =>
  intro h
  by_cases ho : s.out = 0
  ·rw [run_one ho] at h ⊢
   have := ih h
   rw [run_one ho]
   refine ⟨this.1, ?_⟩
   rw [this.2, step_steps]
   omega
  ·rw [run_over ho] at h
   exact absurd h ho
end So
end Go.Proofs.YtmodmojocclmaaaGreatDoor.K
