/- Whatever truths ParseDeclares is called with, in whatever memory in which the listed package-level variables hold what the program text lays, the call returns true and the argument reads as before. -/
import Derived.Test.YtboejbnkkhcccaaGreatDoorGood
import Derived.Test.YtboejbnkkhcccaaGreatDoorLpDecl
import Derived.Test.YtboejbnkkhcccaaGreatDoorTie
import Derived.Test.YtboejbnkkhcccaaGreatDoorCards
namespace Go.Proofs.YtboejbnkkhcccaaGreatDoor
open Go.ChangeShapes Go.WideShapes Go.ChangeAt Go.WideMaps Go.WideElems Go.RowKit

theorem bytesB : Tryz.prog.bytesOf 4 = 1 := by kernel_rfl
theorem cellsB : Tryz.prog.cellsOf 4 = 1 := by kernel_rfl
def truthOf {H : Type} (y : DataW H × List MemPlace) : Bool := match y.1 with | .lit (.bool b) => b | _ => false
set_option maxRecDepth 100000 in
theorem open_truths {H : Type} {enc : TypeId × Value → H} {W : World} {fuel : Nat} {cs : List Value} {x : DataW H × List MemPlace} (h : DataW.trod enc Tryz.prog W 0 (fun _ => true) true fuel 64 cs = some x) :
    (cs = [.slice none 0 0] ∧ x = (.nil, [])) ∨ ∃ (a : Addr) (len cap : Nat) (l : List Bool) (es rs : List (DataW H)), cs = [.slice (some a) len cap] ∧ len ≤ cap ∧ l.length = len ∧ x.1 = .slice es rs ∧ es.length = len ∧ ∀ i (hi : i < l.length), W.cell? (a.add i) = some (.bool l[i]) := by
  rcases DataW.trod_slice Tryz.underlying64 h with h0 | ⟨a, len, cap, elems, rest, n, _, rfl, rfl, hb, hl, hm, hlen, hel, hsp, hns⟩
  · exact .inl h0
  · refine .inr ⟨a, len, cap, elems.map truthOf, _, _, rfl, hl, by rw [List.length_map, hlen], rfl, by rw [List.length_map, hlen], fun i hi => ?_⟩
    rw [List.length_map] at hi
    have h1 := hel i (by omega)
    rw [List.getElem?_eq_getElem hi, cellsB, Nat.mul_one, Option.bind_eq_some_iff] at h1
    obtain ⟨cs', hcs, hy⟩ := h1
    obtain ⟨b, rfl, e⟩ := DataW.trod_bool Tryz.underlying4 hy
    rw [cell_of_cells?_one hcs, List.getElem_map, e]
    rfl
set_option maxRecDepth 100000 in
/-- A slice of truths that came in. -/
theorem bo_of {H : Type} {enc : TypeId × Value → H} {W : World} {base j : Nat} {v : Value} {d : DataW H} {p : List MemPlace} {ts : List TypeId} {ds : List (DataW H)}
    (hv : Value.okWide Tryz.prog W .any base 64 v) (h : DataW.Trod enc Tryz.prog W 0 (fun _ => true) true 64 v d p)
    (hsz : (DataW.weightsEach Tryz.prog ts ds).all (· ≤ reachBytes) = true) (ht : ts[j]? = some 64) (hd : ds[j]? = some d) : ∃ l, Bo W v l ∧ l.length ≤ 140737488351232 := by
  obtain ⟨a0, len, cap, rfl⟩ := okWide_slice Tryz.underlying64 hv
  obtain ⟨fuel, hf⟩ := h
  rcases open_truths hf with ⟨hcs, _⟩ | ⟨a, len', cap', l, es, rs, hcs, hl, hll, hx, hes, hcell⟩
  · simp only [Value.cells, List.cons.injEq, and_true] at hcs
    injection hcs with h1 h2 h3
    subst h1 h2 h3
    exact ⟨[], ⟨none, 0, rfl, Nat.le_refl _, fun h => absurd h (by simp)⟩, by simp⟩
  · simp only [Value.cells, List.cons.injEq, and_true] at hcs
    injection hcs with h1 h2 h3
    subst h1 h2 h3
    have hx2 : d = .slice es rs := hx
    have hsl := sized_slice hsz (j := j) (t := 64) (e := 4) ht (by rw [hd, hx2]) Tryz.underlying64
    rw [bytesB] at hsl
    simp only [reachBytes] at hsl
    refine ⟨l, ⟨some a, cap, by rw [hll], by rw [hll]; exact hl, fun _ => ⟨a, rfl, fun j hj => hcell j hj⟩⟩, ?_⟩
    omega
set_option maxRecDepth 100000 in
theorem parseDeclares_lifted (os : Os) (started : os.Started) (H : Type) (enc : TypeId × Value → H) :
    ReturnsInHanded {} Tryz.checked os 7 .any (fun w args => (Rows.parseDeclaresSpec.pre enc Tryz.prog Tryz.f7 [] false w args ∧ laidMetH Tryz.prog laid6 w) ∧ sizedMet enc Tryz.prog Tryz.f7 (OpenSpec.ofChange Rows.parseDeclaresSpec) false w args)
      (Rows.parseDeclaresSpec.post enc Tryz.prog Tryz.f7 false true false false) := by
  refine returnsInHanded_of_change_and (C := Tryz.checked) (X := fun w _ => laidMetH Tryz.prog laid6 w) (fun _ _ _ hh h => h.of_heap hh) Tryz.own started (by kernel_rfl) Tryz.func7
    (ChangeSpec.witness_shaped (enc := enc) (C := Tryz.checked) (os := os) (X := fun w _ => laidMetH Tryz.prog laid6 w) false (World.doorLaid Tryz.prog 400 os) #[.slice none 0 0] 8 rfl (World.shaped_of_RefB (by kernel_rfl) (by kernel_rfl)) (by kernel_rfl) (by kernel_rfl) (by kernel_rfl) (door_met os _)) ?_
  intro W base args ds gs before hval0 hW _ hsz0 hL _
  have hsz : (DataW.weightsEach Tryz.prog (Tryz.f7.params.toList ++ Rows.parseDeclaresSpec.plain.varTypes Tryz.prog) (ds ++ gs)).all (· ≤ reachBytes) = true := hsz0
  have hval : ∀ (j : Nat) t v, Tryz.f7.params[j]? = some t → args[j]? = some v → Value.okWide Tryz.prog W .any base t v := hval0
  have hW' := hW
  obtain ⟨p, q, hA0, hV, rfl, hfz, hnd⟩ := hW
  have hA : DataW.TrodAll enc Tryz.prog W 0 (fun _ => true) true Tryz.f7.params.toList args.toList ds p := hA0
  rw [Tryz.params7] at hA hval hsz
  obtain ⟨v0, d0, rfl, rfl, h0⟩ := trodAll_one hA
  obtain ⟨rfl, rfl⟩ := trodVars_none hV
  have h0k := h0
  obtain ⟨l0, hb0, hl0⟩ := bo_of (hval 0 64 v0 rfl rfl) h0 hsz (j := 0) rfl rfl
  clear hA0 hval0
  simp only [List.append_nil] at hW'
  have hlt0 : ∀ x ∈ p, x.block < W.heap.size := fun x hx => by simpa using hW'.lt x (by simp [hx])
  refine (parseDeclares_any v0 l0 W hb0 (good_of_laid hL) hl0).mono fun e W' ⟨he, hnx⟩ => ?_
  subst he
  exact ⟨_, rfl, _, _, _, [], _, [], hW', trodAll_mk1 (shut_bool Tryz.underlying4 true), trodAll_mk1 (Below.trod Tryz.laidOut (by kernel_rfl) (of_decide_eq_true (by kernel_rfl)) h0k hnx hlt0), rfl, hnx.frame _, fun h => by cases h⟩

theorem parseDeclares_row : Rows.ParseDeclaresSaid :=
  OpenClaim.holds_of_wide 7 Tryz.f7 rfl rfl rfl rfl rfl rfl rfl ⟨rfl, rfl, rfl, rfl, rfl⟩ rfl rfl rfl rfl rfl (by kernel_rfl) Tryz.func7 (by kernel_rfl)
    (of_decide_eq_true (by kernel_rfl)) (by unfold Func.isWrapper; rw [if_neg (of_decide_eq_false (by kernel_rfl))]; exact ⟨rfl, rfl⟩)
    (fun os started H enc _ => parseDeclares_lifted os started H enc)

theorem parseDeclares_holds : Rows.ParseDeclaresCardSaid :=
  Claim7.holds_tied_plain_at .later [] [.data, .data, .data, .sentinel, .sentinel, .data] true (true, "8881fe68cd10e47aa5477aa1f215d4b1fa2d22602af14cc89aabe78db1261d0d") true
    parseDeclares_row (fun _ h => by cases h) (by kernel_rfl) (fun _ h => by cases h) parseDeclares_row_tie rfl ⟨rfl, rfl⟩ (by kernel_rfl) rfl
    (fun f fn hf hfn => by
      obtain rfl : f = 7 := Option.some.inj ((show Tryz.prog.funcNamed "brocade/brocadelaw02.ParseDeclares" = some 7 by kernel_rfl).symm.trans hf) |>.symm
      obtain rfl : fn = Tryz.f7 := (Option.some.inj (Tryz.func7.symm.trans hfn)).symm
      exact ⟨by kernel_rfl, fun j t ht => by
        rw [Tryz.params7] at ht
        have hm : t ∈ [64] := by simpa using Array.mem_of_getElem? ht
        have hall : ([64].all fun u => !Tryz.prog.wantsStandIn u) = true := by kernel_rfl
        exact (show Tryz.prog.wantsStandIn t = false by simpa using List.all_eq_true.1 hall t hm)⟩)
    (by kernel_rfl)
#print axioms parseDeclares_holds
end Go.Proofs.YtboejbnkkhcccaaGreatDoor
