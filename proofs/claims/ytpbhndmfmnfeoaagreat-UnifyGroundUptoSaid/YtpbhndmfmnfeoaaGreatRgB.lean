/- As Rg, where the operation that ends the care for the world waits for others by way of third ones. -/
import Derived.Test.YtpbhndmfmnfeoaaGreatMg25
namespace Go.Proofs.YtpbhndmfmnfeoaaGreat
open Go

section
variable {P : Program} {ops : Array Oper} {Q : Exit → Act → World → Prop} {md : Region.Mode} {S : World → Prop} {z : Nat}

/-- Is operation z bound to wait for operation i, by way of others? -/
def beforeB (md : Region.Mode) (ops : Array Oper) : Nat → Nat → Nat → Bool
  | 0, _, _ => false
  | f + 1, z, i =>
    match ops[z]? with
    | some o => o.after.any fun e => Region.binds md e && (e.on == i || beforeB md ops f e.on i)
    | none => false
/-- Whatever has come up has all come up for which it waits. -/
def Closed (md : Region.Mode) (ops : Array Oper) (listed : Array Bool) : Prop :=
  ∀ (k : Nat) o, ops[k]? = some o → listed.getD k false = true → ∀ e ∈ o.after, Region.binds md e = true → listed.getD e.on false = true
def closedB (md : Region.Mode) (ops : Array Oper) (listed : Array Bool) : Bool :=
  (List.range ops.size).all fun k => match ops[k]? with | some o => !listed.getD k false || o.after.all (fun e => !Region.binds md e || listed.getD e.on false) | none => true
theorem closed_of {listed : Array Bool} (h : closedB md ops listed = true) : Closed md ops listed := by
  unfold closedB at h
  simp only [List.all_eq_true, List.mem_range] at h
  intro k o ho hl e he hb
  have hk := (Array.getElem?_eq_some_iff.1 ho).1
  have h1 := h k hk
  rw [ho] at h1
  simp only [hl, Bool.not_true, Bool.false_or, Array.all_eq_true'] at h1
  have h2 := h1 e he
  rw [hb] at h2
  simpa using h2
theorem Closed.step {listed : Array Bool} (hc : Closed md ops listed) {j : Nat} (hj : j ∈ Region.ready md ops listed) : Closed md ops (listed.setIfInBounds j true) := by
  have mono : ∀ k, listed.getD k false = true → (listed.setIfInBounds j true).getD k false = true := fun k hk => by
    by_cases hjk : j = k
    · subst hjk
      rcases Nat.lt_or_ge j listed.size with hl | hl
      · simp [hl]
      · simp [Array.getElem?_eq_none hl] at hk
    · rw [getD_set_ne false hjk]; exact hk
  intro k o ho hl e he hb
  by_cases hjk : j = k
  · subst hjk
    obtain ⟨_, o', ho', hall⟩ := mem_ready.1 hj
    rw [ho] at ho'
    cases ho'
    exact mono _ (hall e he hb)
  · rw [getD_set_ne false hjk] at hl
    exact mono _ (hc k o ho hl e he hb)
theorem before_listed {listed : Array Bool} (h : Closed md ops listed) {i : Nat} : ∀ (f k : Nat), beforeB md ops f k i = true → listed.getD k false = true → listed.getD i false = true
  | 0, k, hb, _ => by simp [beforeB] at hb
  | f + 1, k, hb, hl => by
    unfold beforeB at hb
    cases ho : ops[k]? with
    | none => rw [ho] at hb; simp at hb
    | some o =>
      rw [ho] at hb
      simp only [Array.any_eq_true, Bool.and_eq_true, Bool.or_eq_true, beq_iff_eq] at hb
      obtain ⟨n, hn, hbind, he⟩ := hb
      have h1 := h k o ho hl _ (Array.getElem_mem hn) hbind
      rcases he with he | he
      · rw [he] at h1; exact h1
      · exact before_listed h f _ he h1
theorem before_not_ready {listed : Array Bool} (h : Closed md ops listed) {f i : Nat} (hb : beforeB md ops f z i = true) (hu : listed.getD i false = false) : z ∉ Region.ready md ops listed := by
  intro hz
  obtain ⟨_, o, ho, hall⟩ := mem_ready.1 hz
  cases f with
  | zero => simp [beforeB] at hb
  | succ f =>
    unfold beforeB at hb
    rw [ho] at hb
    simp only [Array.any_eq_true, Bool.and_eq_true, Bool.or_eq_true, beq_iff_eq] at hb
    obtain ⟨n, hn, hbind, he⟩ := hb
    have h1 := hall _ (Array.getElem_mem hn) hbind
    rcases he with he | he
    · rw [he, hu] at h1; cases h1
    · have h2 := before_listed h f _ he h1
      rw [hu] at h2
      cases h2
theorem TillLast.firstT {i f : Nat} {oi : Oper} {v : Value} (hi : ops[i]? = some oi) (hsel : ∀ (j : Nat) (o : Oper) cs b, ops[j]? = some o → o.op ≠ .select cs b)
    (hQ : ∀ c a w, Q (.panic c) (a.put oi.dst v) w → Q (.panic c) a w) (hw : beforeB md ops f z i = true) (hzi : z ≠ i) :
    ∀ (fuel : Nat) (listed : Array Bool) (a : Act) (w : World), Closed md ops listed →
      (∀ j oj, ops[j]? = some oj → j ≠ i → listed.getD j true = false → (∀ e ∈ oj.after, Region.binds md e = true → e.on ≠ i) → oi.apart ops oj = true) →
      i ∈ Region.ready md ops listed → listed.getD z true = false → YieldsIf P ops S oi v a → S w →
      TillLast P md ops Q S z fuel (listed.setIfInBounds i true) (a.put oi.dst v) w → TillLast P md ops Q S z (fuel + 1) listed a w := by
  intro fuel
  induction fuel with
  | zero =>
    intro listed a w _ _ hr _ hy hS H
    refine ⟨fun h => absurd hr (by rw [h]; simp), fun j hj => ?_⟩
    by_cases hji : j = i
    · subst hji
      exact hy.wpOp hi hS ⟨fun _ => hS, H⟩
    · exact absurd (ready_mono hj hji) (by rw [H.1]; simp)
  | succ fuel ih =>
    intro listed a w hcl hfree hr hz hy hS H
    refine ⟨fun h => absurd hr (by rw [h]; simp), fun j hj => ?_⟩
    by_cases hji : j = i
    · subst hji
      exact hy.wpOp hi hS ⟨fun _ => hS, H⟩
    have hun := ready_unlisted hr
    have hjz : j ≠ z := fun e => before_not_ready hcl hw hun (e ▸ hj)
    obtain ⟨hjun, oj, hoj, hall⟩ := mem_ready.1 hj
    have hno : ∀ e ∈ oj.after, Region.binds md e = true → e.on ≠ i := by
      intro e he hb heq
      have h1 := hall e he hb
      rw [heq, hun] at h1
      cases h1
    have hstep := wpOp_putIf hoj (hfree j oj hoj hji hjun hno) (fun cs b => hsel i oi cs b hi) (fun cs b => hsel j oj cs b hoj) hQ hy (H.2 j (ready_mono hj hji))
    have hz' : (listed.setIfInBounds j true).getD z true = false := by rw [getD_set_ne true hjz]; exact hz
    have hz2 : ((listed.setIfInBounds i true).setIfInBounds j true).getD z true = false := by rw [getD_set_ne true hjz, getD_set_ne true (Ne.symm hzi)]; exact hz
    refine wpOp_mono (fun a' w' h3 => ⟨fun _ => h3.2.1 hz2, ih (listed.setIfInBounds j true) a' w' (hcl.step hj) ?_ (ready_mono hr (Ne.symm hji)) hz' h3.1 (h3.2.1 hz2) ?_⟩) hstep
    · intro k ok hk hki hku hkn
      refine hfree k ok hk hki ?_ hkn
      by_cases hjk : j = k
      · rw [← hjk]; exact hjun
      · rwa [getD_set_ne true hjk] at hku
    · rw [Array.setIfInBounds_comm _ _ hji]
      exact h3.2.2
theorem TillLast.takeT {i : Nat} (f : Nat) {oi : Oper} {v : Value} {fuel : Nat} {listed : Array Bool} {a : Act} {w : World} (hi : ops[i]? = some oi)
    (hs : Region.noSelect ops = true) (hf : Region.free md ops listed i = true) (hr : (Region.ready md ops listed).contains i = true) (hw : beforeB md ops f z i = true) (hcl : closedB md ops listed = true) (hzi : z ≠ i) (hz : listed.getD z true = false)
    (hQ : ∀ c a w, Q (.panic c) (a.put oi.dst v) w → Q (.panic c) a w) (hy : YieldsIf P ops S oi v a) (hS : S w)
    (h : TillLast P md ops Q S z fuel (listed.setIfInBounds i true) (a.put oi.dst v) w) : TillLast P md ops Q S z (fuel + 1) listed a w :=
  TillLast.firstT hi (Region.noSelect_spec hs) hQ hw hzi fuel listed a w (closed_of hcl) (Region.free_spec hi hf) (by simpa using hr) hz hy hS h
end
end Go.Proofs.YtpbhndmfmnfeoaaGreat
