/- The machine of package source: what is made of values by operators and names. -/
import Derived.Test.YtfkakmafedhgdaaGreatDoorMg09
import Derived.StillTailTactics
import Derived.Deep.RegionHeld3
import Derived.OrdersHeld
import Derived.Deep.RegionHeld
import Derived.RegionTactic
namespace Go.Proofs.YtfkakmafedhgdaaGreatDoor.K
open Go Go.RowKit
namespace So

def lookS (nm : Str) (en : Env) (s : St) : St := match find nm en with | some v => s.has v | none => s.ends 4
set_option maxRecDepth 100000 in
set_option maxHeartbeats 4000000 in
theorem look_any {w0 : World} {mb : Nat} {H : Mem} {s : St} {w : World} (h : MS w0 mb H s w) {t : Tm} {en : Env} (ha : s.at_ = some (t, en)) (nm : Str) :
    Calls Tryz.prog 30 #[pt mb, .string (ba nm)] w (MEnd w0 mb H (lookS nm en s)) := by
  have hms := h
  obtain ⟨tv, ev, v0, v1, v2, v3, fv, hv', cv, iv, lv, h⟩ := h
  have hat := h.at_
  rw [ha] at hat
  obtain ⟨_, hen, _⟩ := hat
  have z1 : w.cell? ⟨mb, 1, none⟩ = some ev := h.lies.cell 1
  obtain ⟨x, rfl⟩ := hen.ptr
  have hf := find_any h.core.sub hen nm
  have HF := Lib.hid hf
  have HM := Lib.hid hms
  clear hf hms h hen ha
  unfold pt
  go_enter Tryz.func30, Tryz.ntmps30
  go_wp2_with fail
  refine HF.out.mono ?_
  rintro e w2 ⟨hb, hr⟩
  have hm2 := HM.out.later hb
  cases hq : find nm en with
  | none =>
    rw [hq] at hr
    have hr' : e = .returned (.tuple #[.agg (litL 0 0).toArray, .bool false]) := hr
    subst hr'
    have HM2 := Lib.hid hm2
    have HQ := Lib.hid hq
    clear hm2 hb hq hr
    unfold litL
    go_wp2_with fail
    refine (end_any (HM2.out.later (below_new _ _)) 4).mono ?_
    rintro e w3 ⟨rfl, H3, k3, m3⟩
    go_wp2
    exact bodyPost_ret (results_none rfl _ _ _) rfl ⟨rfl, H3, k3, by unfold lookS; rw [HQ.out]; exact m3⟩
  | some v =>
    rw [hq] at hr
    obtain ⟨l, hv, hr'⟩ : ∃ l, VV H s.cells.length v l ∧ e = .returned (.tuple #[.agg l.toArray, .bool true]) := hr
    subst hr'
    have HM2 := Lib.hid hm2
    have HV := Lib.hid hv
    have HQ := Lib.hid hq
    obtain ⟨k, n, c, f, rfl, hf⟩ := hv.four
    clear hm2 hb hq hv
    rcases hf with rfl | ⟨ft, fx, rfl⟩
    all_goals
      go_wp2_with fail
      refine (answer_any (HM2.out.later (below_new _ _)) HV.out).mono ?_
      rintro e w3 ⟨rfl, H3, k3, m3⟩
      go_wp2
      go_end0
      exact ⟨rfl, H3, k3, by unfold lookS; rw [HQ.out]; exact m3⟩
end So
end Go.Proofs.YtfkakmafedhgdaaGreatDoor.K

/- A region that draws its order, whose last operation writes a cell that it loads: what holds of the world is asked behind every operation but that last one. -/
namespace Go.Proofs.YtfkakmafedhgdaaGreatDoor
open Go

section
variable {P : Program} {ops : Array Oper} {Q : Exit → Act → World → Prop} {md : Region.Mode} {S : World → Prop} {z : Nat}

/-- Whatever order is picked from here on; S holds behind every operation as long as number z has not come up. -/
def TillLast (P : Program) (md : Region.Mode) (ops : Array Oper) (Q : Exit → Act → World → Prop) (S : World → Prop) (z : Nat) : Nat → Array Bool → Act → World → Prop
  | 0, listed, a, w => Region.ready md ops listed = [] ∧ Q .normal a w
  | fuel + 1, listed, a, w =>
    (Region.ready md ops listed = [] → Q .normal a w) ∧
    ∀ i ∈ Region.ready md ops listed, wpOp P ops Q i (fun a' w' => ((listed.setIfInBounds i true).getD z true = false → S w') ∧ TillLast P md ops Q S z fuel (listed.setIfInBounds i true) a' w') a w

theorem TillLast.any : ∀ (fuel : Nat) (listed : Array Bool) (a : Act) (w : World), TillLast P md ops Q S z fuel listed a w → wpAny P md ops Q fuel listed a w
  | 0, _, _, _, h => h
  | fuel + 1, _, _, _, h => ⟨h.1, fun i hi => wpOp_mono (fun a' w' h' => TillLast.any fuel _ a' w' h'.2) (h.2 i hi)⟩

/-- Is operation z bound to wait for operation i? -/
def waitsB (md : Region.Mode) (ops : Array Oper) (z i : Nat) : Bool :=
  match ops[z]? with
  | some o => o.after.any fun e => Region.binds md e && e.on == i
  | none => false
theorem waits_not_ready {listed : Array Bool} {i : Nat} (h : waitsB md ops z i = true) (hu : listed.getD i false = false) : z ∉ Region.ready md ops listed := by
  intro hz
  obtain ⟨_, o, ho, hall⟩ := mem_ready.1 hz
  unfold waitsB at h
  rw [ho] at h
  simp only [Array.any_eq_true, Bool.and_eq_true, beq_iff_eq] at h
  obtain ⟨k, hk, hb, he⟩ := h
  have h1 := hall _ (Array.getElem_mem hk) hb
  rw [he, hu] at h1
  cases h1
theorem ready_unlisted {listed : Array Bool} {i : Nat} (h : i ∈ Region.ready md ops listed) : listed.getD i false = false := by
  have h0 := (mem_ready.1 h).1
  rcases Nat.lt_or_ge i listed.size with hl | hl
  · simpa [hl] using h0
  · simp [Array.getElem?_eq_none hl]

/-- What yields its value wherever S holds may be taken first, if the last operation waits for it. -/
theorem TillLast.first {i : Nat} {oi : Oper} {v : Value} (hi : ops[i]? = some oi) (hsel : ∀ (j : Nat) (o : Oper) cs b, ops[j]? = some o → o.op ≠ .select cs b)
    (hQ : ∀ c a w, Q (.panic c) (a.put oi.dst v) w → Q (.panic c) a w) (hw : waitsB md ops z i = true) (hzi : z ≠ i) :
    ∀ (fuel : Nat) (listed : Array Bool) (a : Act) (w : World),
      (∀ j oj, ops[j]? = some oj → j ≠ i → listed.getD j true = false → (∀ e ∈ oj.after, Region.binds md e = true → e.on ≠ i) → oi.apart ops oj = true) →
      i ∈ Region.ready md ops listed → listed.getD z true = false → YieldsIf P ops S oi v a → S w →
      TillLast P md ops Q S z fuel (listed.setIfInBounds i true) (a.put oi.dst v) w → TillLast P md ops Q S z (fuel + 1) listed a w := by
  intro fuel
  induction fuel with
  | zero =>
    intro listed a w _ hr _ hy hS H
    refine ⟨fun h => absurd hr (by rw [h]; simp), fun j hj => ?_⟩
    by_cases hji : j = i
    · subst hji
      exact hy.wpOp hi hS ⟨fun _ => hS, H⟩
    · exact absurd (ready_mono hj hji) (by rw [H.1]; simp)
  | succ fuel ih =>
    intro listed a w hfree hr hz hy hS H
    refine ⟨fun h => absurd hr (by rw [h]; simp), fun j hj => ?_⟩
    by_cases hji : j = i
    · subst hji
      exact hy.wpOp hi hS ⟨fun _ => hS, H⟩
    have hun := ready_unlisted hr
    have hjz : j ≠ z := fun e => waits_not_ready hw hun (e ▸ hj)
    obtain ⟨hjun, oj, hoj, hall⟩ := mem_ready.1 hj
    have hno : ∀ e ∈ oj.after, Region.binds md e = true → e.on ≠ i := by
      intro e he hb heq
      have h1 := hall e he hb
      rw [heq, hun] at h1
      cases h1
    have hstep := wpOp_putIf hoj (hfree j oj hoj hji hjun hno) (fun cs b => hsel i oi cs b hi) (fun cs b => hsel j oj cs b hoj) hQ hy (H.2 j (ready_mono hj hji))
    have hz' : (listed.setIfInBounds j true).getD z true = false := by rw [getD_set_ne true hjz]; exact hz
    have hz2 : ((listed.setIfInBounds i true).setIfInBounds j true).getD z true = false := by rw [getD_set_ne true hjz, getD_set_ne true (Ne.symm hzi)]; exact hz
    refine wpOp_mono (fun a' w' h3 => ⟨fun _ => h3.2.1 hz2, ih (listed.setIfInBounds j true) a' w' ?_ (ready_mono hr (Ne.symm hji)) hz' h3.1 (h3.2.1 hz2) ?_⟩) hstep
    · intro k ok hk hki hku hkn
      refine hfree k ok hk hki ?_ hkn
      by_cases hjk : j = k
      · rw [← hjk]; exact hjun
      · rwa [getD_set_ne true hjk] at hku
    · rw [Array.setIfInBounds_comm _ _ hji]
      exact h3.2.2
theorem TillLast.take {i : Nat} {oi : Oper} {v : Value} {fuel : Nat} {listed : Array Bool} {a : Act} {w : World} (hi : ops[i]? = some oi)
    (hs : Region.noSelect ops = true) (hf : Region.free md ops listed i = true) (hr : (Region.ready md ops listed).contains i = true) (hw : waitsB md ops z i = true) (hzi : z ≠ i) (hz : listed.getD z true = false)
    (hQ : ∀ c a w, Q (.panic c) (a.put oi.dst v) w → Q (.panic c) a w) (hy : YieldsIf P ops S oi v a) (hS : S w)
    (h : TillLast P md ops Q S z fuel (listed.setIfInBounds i true) (a.put oi.dst v) w) : TillLast P md ops Q S z (fuel + 1) listed a w :=
  TillLast.first hi (Region.noSelect_spec hs) hQ hw hzi fuel listed a w (Region.free_spec hi hf) (by simpa using hr) hz hy hS h
/-- The operations that may come up, one after the other. -/
def NextAll (P : Program) (md : Region.Mode) (ops : Array Oper) (Q : Exit → Act → World → Prop) (S : World → Prop) (z fuel : Nat) (listed : Array Bool) (a : Act) (w : World) (rs : List Nat) : Prop :=
  ∀ i ∈ rs, wpOp P ops Q i (fun a' w' => ((listed.setIfInBounds i true).getD z true = false → S w') ∧ TillLast P md ops Q S z fuel (listed.setIfInBounds i true) a' w') a w
theorem TillLast.ready {rs : List Nat} {fuel : Nat} {listed : Array Bool} {a : Act} {w : World} (hr : Region.ready md ops listed = rs) (hne : rs ≠ []) (h : NextAll P md ops Q S z fuel listed a w rs) : TillLast P md ops Q S z (fuel + 1) listed a w :=
  ⟨fun h0 => absurd (hr ▸ h0) hne, fun i hi => h i (hr ▸ hi)⟩
theorem NextAll.nil {fuel : Nat} {listed : Array Bool} {a : Act} {w : World} : NextAll P md ops Q S z fuel listed a w [] := fun _ h => by cases h
theorem NextAll.cons {fuel : Nat} {listed : Array Bool} {a : Act} {w : World} {i : Nat} {o : Oper} {rs : List Nat} (ho : ops[i]? = some o)
    (h : ∀ K' : Act → World → Prop, Shut (∀ a w, ((listed.setIfInBounds i true).getD z true = false → S w) → TillLast P md ops Q S z fuel (listed.setIfInBounds i true) a w → K' a w) → if Region.wanted o (yielded ops a.tmps) = true then Oper.wp P o a w K' Q else K' (a.put o.dst undef) w)
    (hs : NextAll P md ops Q S z fuel listed a w rs) : NextAll P md ops Q S z fuel listed a w (i :: rs) := by
  intro j hj
  rcases List.mem_cons.1 hj with rfl | hj
  · exact wpOp_step ho (fun K' hK => h K' (fun a w hS hT => hK a w ⟨hS, hT⟩))
  · exact hs j hj
theorem TillLast.done {listed : Array Bool} {a : Act} {w : World} (hr : Region.ready md ops listed = []) (h : Q .normal a w) : ∀ fuel, TillLast P md ops Q S z fuel listed a w
  | 0 => ⟨hr, h⟩
  | _ + 1 => ⟨fun _ => h, fun i hi => by rw [hr] at hi; cases hi⟩
theorem TillLast.start {id : Nat} {a : Act} {w : World} (hm : P.follows .mixedOrders = true) (h : TillLast P .any ops Q S z ops.size (Array.replicate ops.size false) a w.drew) : (Code.region id ops true).wp P Q a w :=
  wp_region_any hm (h.any _ _ _ _)
end
end Go.Proofs.YtfkakmafedhgdaaGreatDoor
