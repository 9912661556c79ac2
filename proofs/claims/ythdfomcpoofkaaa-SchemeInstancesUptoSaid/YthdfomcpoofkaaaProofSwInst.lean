/- SchemeInstances, where what comes in is of bulk at most 1048576: whatever stands in the environment, of whatever two types and row, the law answers true, and what came in reads as it did. No further condition. -/
import Derived.Test.YthdfomcpoofkaaaSiLw
import Derived.Test.YthdfomcpoofkaaaSiDo
import Derived.ProofKit
import Derived.OpenShut
import Derived.JoinedCond
import Derived.Carry
namespace Go.Proofs.Ythdfomcpoofkaaa
open Go.ChangeShapes Go.WideShapes Go.ChangeAt Go.WideMaps Go.WideElems Go.RowKit

set_option maxRecDepth 100000 in
/-- A row of types that came in. -/
theorem types_open {H : Type} {enc : TypeId × Value → H} {W : World} {fuel : Nat} {cs : List Value} {x : DataW H × List MemPlace} (h : DataW.trod enc Try.prog W 0 (fun _ => true) true fuel 23 cs = some x) (hb : Rows.uptoBulk x.1 ≤ 2000000) :
    ∃ (A : Option Addr) (n c : Nat) (E : List Ty), cs = [.slice A n c] ∧ E.length = n ∧ n ≤ c ∧ n ≤ 2000000 ∧ (∀ (i : Nat) t, E[i]? = some t → ∃ g o, A = some ⟨g, o, none⟩ ∧ TR W ⟨g, o + i * 6, none⟩ t) ∧ ∀ t ∈ E, t.size ≤ 2000000 := by
  rcases DataW.trod_slice Try.underlying23 h with ⟨e3, hx⟩ | ⟨a, len, cap, elems, rest, m, hf, e3, hx, _, hlc, hm, hel, hget, _, _⟩
  · exact ⟨none, 0, 0, [], e3, rfl, Nat.le_refl _, by omega, fun i t ht => by simp at ht, fun t ht => by simp at ht⟩
  · rw [cell6_type] at hget
    have hbx : Rows.uptoBulkAll (elems.map (·.1)) + 1 ≤ 2000000 := by
      rw [hx] at hb
      dsimp only at hb
      have := bulk_slice (H := H) (elems.map (·.1)) (rest.map (·.1))
      omega
    have key : ∀ (i : Nat) y, elems[i]? = some y → Rows.uptoBulk y.1 ≤ Rows.uptoBulkAll (elems.map (·.1)) → ∃ t, ((∃ g o, some a = some (⟨g, o, none⟩ : Addr) ∧ TR W ⟨g, o + i * 6, none⟩ t) ∧ t.size ≤ 2000000) ∧ t.size ≤ Rows.uptoBulk y.1 := by
      intro i y hy hby
      have hi : i < len := by rw [← hel]; exact (List.getElem?_eq_some_iff.1 hy).1
      have hg := hget i hi
      rw [hy] at hg
      obtain ⟨cs', hc, ht⟩ := Option.bind_eq_some_iff.1 hg
      obtain ⟨t, h5, h6⟩ := trV_open m cs' y ht (by omega)
      obtain ⟨_, hcl, hcc⟩ := World.cells?_some hc
      have hg0 := hget 0 (by omega)
      rw [List.getElem?_eq_getElem (by omega)] at hg0
      obtain ⟨cs0, hc0, _⟩ := Option.bind_eq_some_iff.1 hg0
      obtain ⟨_, hcl0, hcc0⟩ := World.cells?_some hc0
      have h70 := hcc0 0 (by omega)
      rw [List.getElem?_eq_getElem (by omega)] at h70
      have hsp0 := World.cell?_spot h70
      have hspa : a.spot = none := by simpa [Addr.add] using hsp0
      obtain ⟨ab, ao, asp⟩ := a
      simp only at hspa
      subst hspa
      refine ⟨t, ⟨⟨ab, ao, rfl, h5.at_ rfl (fun j u hu => ?_)⟩, by omega⟩, h6⟩
      have hj : j < 6 := by rw [← hcl]; exact (List.getElem?_eq_some_iff.1 hu).1
      have h7 := hcc j hj
      rw [hu, Addr.add_add] at h7
      have hsp := World.cell?_spot h7
      rw [← h7]
      congr 1
      unfold Addr.add at hsp ⊢
      split
      · simp; omega
      · simp; omega
    obtain ⟨ks, hkl, hkk, hks⟩ := each_all (fun y : DataW H × List MemPlace => y.1) Ty.size elems (fun i t => (∃ g o, some a = some (⟨g, o, none⟩ : Addr) ∧ TR W ⟨g, o + i * 6, none⟩ t) ∧ t.size ≤ 2000000) key
    have hlb := bulk_len (elems.map fun y : DataW H × List MemPlace => y.1)
    rw [List.length_map] at hlb
    exact ⟨some a, len, cap, ks, e3, by rw [hkl, hel], hlc, by omega, fun i t ht => (hkk i t ht).1, fun t ht => by
      obtain ⟨i, hi⟩ := List.getElem?_of_mem ht
      exact (hkk i t hi).2⟩

theorem schemeInst_own : ownKnob Try.prog.godebug = none := by kernel_rfl
theorem schemeInst_laidOut : laidOutB Try.prog = true := by kernel_rfl
theorem schemeInst_bulk {H : Type} {l : List (DataW H)} (hk : Rows.uptoSmall H l = true) : Rows.uptoBulkAll l ≤ 1048576 := of_decide_eq_true hk
set_option maxRecDepth 100000 in
theorem schemeInst_contract (H : Type) (enc : TypeId × Value → H) (W : World) (base : Nat) (args : Array Value) (ds gs : List (DataW H)) (before : List MemPlace)
    (hval : ∀ (j : Nat) t v, Try.f5.params[j]? = some t → args[j]? = some v → Value.okWide Try.prog W .any base t v)
    (hW : DataW.Whole enc Try.prog Try.f5.params.toList Rows.schemeInstancesSpec.vars false W args.toList ds gs before) (hk : Rows.uptoSmall H (ds ++ gs) = true) :
    Calls Try.prog 5 args W fun e W' => ∃ v, e = .returned v ∧ Rows.schemeInstancesSpec.post enc Try.prog Try.f5 false true false false W args v W' := by
  have hW' := hW
  obtain ⟨p, q, hA0, hV, rfl, hfz, hnd⟩ := hW
  have hA : DataW.TrodAll enc Try.prog W 0 (fun _ => true) true Try.f5.params.toList args.toList ds p := hA0
  rw [Try.params5] at hA hval
  obtain ⟨v0, vs0, d0, ds0, p0, q0, hargs, rfl, rfl, h0, r0⟩ := trodAll_cons hA
  obtain ⟨v1, vs1, d1, ds1, p1, q1, rfl, rfl, rfl, h1, r1⟩ := trodAll_cons r0
  obtain ⟨v2, vs2, d2, ds2, p2, q2, rfl, rfl, rfl, h2, r2⟩ := trodAll_cons r1
  obtain ⟨v3, vs3, d3, ds3, p3, q3, rfl, rfl, rfl, h3, r3⟩ := trodAll_cons r2
  obtain ⟨rfl, rfl, rfl⟩ := trodAll_nil r3
  obtain rfl : args = #[v0, v1, v2, v3] := by cases args; simp_all
  obtain ⟨rfl, rfl⟩ := trodVars_none hV
  clear hA0
  simp only [List.append_nil] at hW' hk
  have hB := schemeInst_bulk hk
  simp only [Rows.uptoBulkAll] at hB
  have h0k := h0
  have h1k := h1
  have h2k := h2
  have h3k := h3
  have hfz1 : W.noneFrozen p1 := fun b off hm => hfz b off (by simp [hm])
  obtain ⟨a0, len0, cap0, rfl⟩ := okWide_slice Try.underlying23 (hval 0 23 v0 rfl rfl)
  obtain ⟨fu0, hf0⟩ := h0
  obtain ⟨A0, n0, c0, E0, hu0, hE0, hnc, hnb, hEE, hEs⟩ := types_open (fuel := fu0) hf0 (by show Rows.uptoBulk d0 ≤ _; omega)
  have hu0' : Value.slice a0 len0 cap0 = .slice A0 n0 c0 := by simpa [Value.cells] using hu0
  injection hu0' with q1 q2 q3
  subst q1 q2 q3
  obtain ⟨⟨cs1⟩, rfl, _⟩ := okWide_struct Try.underlying28 (hval 1 28 v1 rfl rfl)
  obtain ⟨fu1, hf1⟩ := h1
  obtain ⟨t1, ht1, htw1, hlb1, hts1⟩ := Si.twL_open 1500000 (by omega) fu1 _ _ hf1 (by show Rows.uptoBulk d1 ≤ _; omega) hfz1
  have hts1 : t1.size ≤ 1048576 := by have : t1.size ≤ Rows.uptoBulk d1 := hts1; omega
  obtain ⟨⟨cs2⟩, rfl, _⟩ := okWide_struct Try.underlying28 (hval 2 28 v2 rfl rfl)
  obtain ⟨fu2, hf2⟩ := h2
  obtain ⟨t2, ht2, hts2⟩ := trV_open fu2 _ _ hf2 (by show Rows.uptoBulk d2 ≤ _; omega)
  have hts2 : t2.size ≤ 1048576 := by have : t2.size ≤ Rows.uptoBulk d2 := hts2; omega
  obtain ⟨⟨cs3⟩, rfl, _⟩ := okWide_struct Try.underlying26 (hval 3 26 v3 rfl rfl)
  obtain ⟨fu3, hf3⟩ := h3
  obtain ⟨⟨rl, rn⟩, hr3⟩ := rwV_open hf3 (by show Rows.uptoBulk d3 ≤ _; omega)
  have hlt3 : ∀ x ∈ p3, x.block < W.heap.size := fun x hx => by simpa using hW'.lt x (by simp [hx])
  have hlt0 : ∀ x ∈ p0, x.block < W.heap.size := fun x hx => by simpa using hW'.lt x (by simp [hx])
  have hlt1 : ∀ x ∈ p1, x.block < W.heap.size := fun x hx => by simpa using hW'.lt x (by simp [hx])
  have hlt2 : ∀ x ∈ p2, x.block < W.heap.size := fun x hx => by simpa using hW'.lt x (by simp [hx])
  refine (Si.schemeInst_walk W a0 len0 cap0 E0 hE0 hnc hnb hEE hEs t1 t2 cs1 cs2 cs3 rl rn ht1 htw1 hlb1 (by omega) ht2 (by omega) hr3).mono fun e W' ⟨he, hnx⟩ => ?_
  subst he
  exact ⟨_, rfl, _, _, _, [], _, [], hW', trodAll_mk1 (shut_bool Try.underlying4 true), trodAll_cons_mk (Below.trod schemeInst_laidOut (by kernel_rfl) (of_decide_eq_true (by kernel_rfl)) h0k hnx hlt0) (trodAll_cons_mk (Below.trod schemeInst_laidOut (by kernel_rfl) (of_decide_eq_true (by kernel_rfl)) h1k hnx hlt1) (trodAll_cons_mk (Below.trod schemeInst_laidOut (by kernel_rfl) (of_decide_eq_true (by kernel_rfl)) h2k hnx hlt2) (trodAll_cons_mk (Below.trod schemeInst_laidOut (by kernel_rfl) (of_decide_eq_true (by kernel_rfl)) h3k hnx hlt3) (trodAll_mk0)))), rfl, hnx.frame _, fun h => by cases h⟩
set_option maxRecDepth 100000 in
theorem schemeInst_lifted (os : Os) (started : os.Started) (H : Type) (enc : TypeId × Value → H) (F : Stop.Interp) :
    ReturnsInHanded {} Try.checked os 5 .any ((Rows.OpenSpec.upto Rows.schemeInstancesSpec).pre6 enc Try.prog Try.f5 Rows.schemeInstancesUptoRow.domain false) (((Rows.OpenSpec.upto Rows.schemeInstancesSpec).at F).post enc Try.prog Try.f5 false true false false) := by
  refine returnsInHanded_of_cond (C := Try.checked) (s := Rows.OpenSpec.upto Rows.schemeInstancesSpec) (k := Rows.uptoSmall) rfl schemeInst_own started (by kernel_rfl) Try.func5
    (OpenSpec.witness (enc := enc) (C := Try.checked) (s := Rows.OpenSpec.upto Rows.schemeInstancesSpec) (k := Rows.uptoSmall) rfl false ⟨#[], #[.slice none 0 0, .agg #[.int .i64 0, .string .empty, .int .i64 0, .slice none 0 0, .slice none 0 0, .int .i64 0], .agg #[.int .i64 0, .string .empty, .int .i64 0, .slice none 0 0, .slice none 0 0, .int .i64 0], .agg #[.slice none 0 0, .int .i64 0]], []⟩ 8 (by kernel_rfl) (by kernel_rfl) (by kernel_rfl)
      (x := ([.nil, .agg [.lit (.int .i64 0), .lit (.string []), .lit (.int .i64 0), .nil, .agg [.nil, .lit (.int .i64 0)]], .agg [.lit (.int .i64 0), .lit (.string []), .lit (.int .i64 0), .nil, .agg [.nil, .lit (.int .i64 0)]], .agg [.nil, .lit (.int .i64 0)]], [], [])) (by kernel_rfl) rfl (by kernel_rfl)) ?_
  intro W base args ds gs before hval hW _ hk _
  exact schemeInst_contract H enc W base args ds gs before hval hW hk

theorem schemeInst_holds : Rows.SchemeInstancesUptoSaid :=
  OpenClaim.holds_of_cond 5 Try.f5 rfl rfl rfl rfl rfl rfl rfl ⟨rfl, rfl, rfl, rfl, rfl⟩ rfl rfl rfl rfl rfl (by kernel_rfl) Try.func5 (by kernel_rfl)
    (of_decide_eq_true (by kernel_rfl)) (by unfold Func.isWrapper; rw [if_neg (of_decide_eq_false (by kernel_rfl))]; exact ⟨rfl, rfl⟩)
    (fun os started H enc _ F => schemeInst_lifted os started H enc F)
#print axioms schemeInst_holds
end Go.Proofs.Ythdfomcpoofkaaa
