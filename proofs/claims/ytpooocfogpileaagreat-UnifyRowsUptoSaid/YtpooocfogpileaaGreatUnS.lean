/- unify.Rows. -/
import Derived.Test.YtpooocfogpileaaGreatUnR
import Derived.Outline
namespace Go.Proofs.YtpooocfogpileaaGreat
open Go.RowKit

theorem results_ctt {P : Program} {fn : Func} {p q r : Tmp} {ty : TypeId} (h : fn.results = #[.cell p ty, .tmp q, .tmp r]) (tmps : Array Value) (w : World) (g : Nat) (t : TypeId) (cs : Array Value) (fr : Nat × Nat) (d : TypeDesc)
    (hp : tmps.getD p undef = .pointer (some ⟨g, 0, none⟩)) (hg : w.heap[g]? = some (.cells cs t fr)) (hu : P.underlying ty = some d) (hd : (match d with | .struct _ | .array _ _ => true | _ => false) = true) (hi : (P.info? ty).map (·.size) = some cs.size)
    {a b : Value} (hq : tmps.getD q undef = a) (hr : tmps.getD r undef = b) : (results fn tmps).run P w = .ok (.tuple #[.agg cs, a, b]) w := by
  have hp' : tmps[p]?.getD undef = .pointer (some ⟨g, 0, none⟩) := by simpa using hp
  have hq' : tmps[q]?.getD undef = a := by simpa using hq
  have hr' : tmps[r]?.getD undef = b := by simpa using hr
  simp [results, h, hp', hq', hr', asAddr, run_loadVar_row w g t ty cs fr d hg hu hd hi]
def notSl : Value → Prop
  | .slice _ _ _ => False
  | _ => True
/-- Something that is no list can be read in a block. -/
def liveS (w : World) (g : Nat) : Prop := (∃ a v, a.block = g ∧ w.cell? a = some v ∧ notSl v) ∨ ∃ es c, w.heap[g]? = some (.map es c)
theorem SrcV.keepS {w w' : World} {u : Value} {xs : List Value} (h : SrcV w u xs) (hx : ∀ x ∈ xs, notSl x) (hk : ∀ g, liveS w g → w'.heap[g]? = w.heap[g]?) : SrcV w' u xs := by
  rcases h with h | ⟨ad, c, h1, h2, h3⟩
  · exact .inl h
  · refine .inr ⟨ad, c, h1, h2, fun j q hq => ?_⟩
    have h4 := h3 j q hq
    exact (World.cell?_of_block (w := w) (hk _ (.inl ⟨_, _, rfl, h4, hx q (List.mem_of_getElem? hq)⟩))).trans h4
theorem SaidV.keepS {w w' : World} {k m : Nat} {v : Value} {g : GMap} (h : SaidV w k v m g) (hk : ∀ g, liveS w g → w'.heap[g]? = w.heap[g]?) : SaidV w' k v m g := by
  obtain ⟨zs, h1, h2, h3, h4, h5⟩ := h
  refine ⟨zs, h1.keepS (fun x hx => by obtain ⟨l, _, rfl⟩ := List.mem_map.1 hx; trivial) hk, fun l hl => (h2 l hl).keep (hk _ ?_), h3, h4, h5⟩
  obtain ⟨es, c, h6, _⟩ := (h2 l hl).isMap
  exact .inr ⟨es, c, h6⟩
theorem SubV.keepS {w w' : World} {v : Value} {m : Nat} {R : RowF} (h : SubV w v m T0 R) (hk : ∀ g, liveS w g → w'.heap[g]? = w.heap[g]?) : SubV w' v m T0 R := by
  obtain ⟨vt, vr, gt, gr, h1, h2, h3, h4, h5⟩ := h
  refine ⟨vt, vr, gt, gr, h1, h2.keepS hk, h3.keepS hk, fun n hn => h4 n hn, fun n hn => ?_⟩
  have h6 := h5 n hn
  cases hR : R n with
  | none => rw [hR] at h6; exact h6
  | some r =>
    rw [hR] at h6
    obtain ⟨l, h7, lv, h8, h9, h10⟩ := h6
    exact ⟨l, h7, lv, h8, ⟨h9.1.keepS (fun x hx => by obtain ⟨l, _, rfl⟩ := List.mem_map.1 hx; trivial) hk, h9.2⟩, h10⟩
/-- What a unifier said is kept where its own block is written, and one that holds lists alone. -/
theorem subV_off {w w' : World} {bu z : Nat} {v : Value} {m : Nat} {R : RowF} {t : TypeId} (h : SubV (blank (fun b => b = bu) w) v m T0 R) (hz : Lies w z t #[.slice none 0 0, .slice none 0 0]) (hk : ∀ g, g ≠ bu → g ≠ z → g < w.heap.size → w'.heap[g]? = w.heap[g]?) : SubV w' v m T0 R := by
  refine h.keepS fun g hg => ?_
  have hbu : g ≠ bu ∧ g < w.heap.size := by
    rcases hg with ⟨a, u, e, hc, _⟩ | ⟨es, c, hc⟩
    · exact blank_live (.inl ⟨a, u, e, hc⟩)
    · exact blank_live (.inr ⟨es, c, hc⟩)
  have hb := blank_at (X := fun b => b = bu) (w := w) hbu.1
  have hgz : g ≠ z := by
    intro e
    subst e
    rcases hg with ⟨a, u, rfl, hc, hn⟩ | ⟨es, c, hc⟩
    · obtain ⟨g, o, sp⟩ := a
      have h2 := World.cell?_spot (a := ⟨g, o, sp⟩) hc
      subst h2
      have h3 := (World.cell?_of_block (a := ⟨g, o, none⟩) hb).symm.trans hc
      rw [hz.cell o] at h3
      match o, h3 with
      | 0, h3 => simp at h3; subst h3; exact hn
      | 1, h3 => simp at h3; subst h3; exact hn
      | o + 2, h3 => simp at h3
    · rw [hb] at hc
      unfold Lies at hz
      rw [hz] at hc
      cases hc
  rw [hb]
  exact hk g hbu.1 hgz hbu.2
/-- What Rows answers. -/
def RowsAns (w : World) (m : Nat) (o : Option (RowF × Int)) (e : Ending) (w' : World) : Prop :=
  (∃ A1 n1 c1 A2 n2 c2 k err, e = .returned (.tuple #[.agg #[.slice A1 n1 c1, .slice A2 n2 c2], .int .i64 k, .int .i64 err]) ∧
    match o with | none => err = 5 | some p => err = 0 ∧ k = p.2 ∧ SubV w' (.agg #[.slice A1 n1 c1, .slice A2 n2 c2]) (m + 4) T0 p.1) ∧ Below w.heap.size w w'
set_option maxRecDepth 100000 in
set_option maxHeartbeats 8000000 in
theorem unifyRows_any (w : World) (sv : Value) (m : Nat) (hs : SubV w sv m T0 R0) (hm : m ≤ 900) (lva lvb : Value) (la lb : List Str) (va vb nx : Int) (hra : StrR w lva la) (hrb : StrR w lvb lb) (hsa : ∀ s ∈ la, s.length ≤ maxLen) (hsb : ∀ s ∈ lb, s.length ≤ maxLen)
    (hva : i64ok va) (hvb : i64ok vb) (hnx : 0 < nx ∧ nx ≤ 1000000) (hna : va ≠ nx) (hnb : vb ≠ nx) :
    Calls Tryz.prog 7 #[sv, .agg #[lva, .int .i64 va], .agg #[lvb, .int .i64 vb], .int .i64 nx] w (RowsAns w m (rowsRes la lb va vb nx)) := by
  obtain ⟨A1, n1, c1, A2, n2, c2, rfl⟩ := hs.shape
  obtain ⟨A3, n3, c3, rfl⟩ : ∃ A n c, lva = .slice A n c := by rcases hra.1 with ⟨rfl, _⟩ | ⟨_, _, rfl, _⟩ <;> exact ⟨_, _, _, rfl⟩
  obtain ⟨A4, n4, c4, rfl⟩ : ∃ A n c, lvb = .slice A n c := by rcases hrb.1 with ⟨rfl, _⟩ | ⟨_, _, rfl, _⟩ <;> exact ⟨_, _, _, rfl⟩
  obtain ⟨W, hW⟩ : ∃ W, W = ((((w.alloc (.cells #[.slice A1 n1 c1, .slice A2 n2 c2] 34)).alloc (.cells #[.slice A3 n3 c3, .int .i64 va] 24)).alloc (.cells #[.slice A4 n4 c4, .int .i64 vb] 24)).alloc (.cells #[.slice none 0 0, .slice none 0 0] 34)).alloc (.cells #[.slice A1 n1 c1, .slice A2 n2 c2, .int .i64 nx] 53) := ⟨_, rfl⟩
  have hb : Below w.heap.size w W := by rw [hW]; exact (((((Below.refl _ w).alloc (Nat.le_refl _) _).alloc (by simp) _).alloc (by simp; omega) _).alloc (by simp; omega) _).alloc (by simp; omega) _
  have ks : Lies W w.heap.size 34 #[.slice A1 n1 c1, .slice A2 n2 c2] := by rw [hW]; exact ((((Lies.new _ _ _).alloc _).alloc _).alloc _).alloc _
  have kr : Lies W (w.heap.size + 3) 34 #[.slice none 0 0, .slice none 0 0] := by rw [hW]; exact (Lies.new' _ _ _ (by simp)).alloc _
  have ku : Lies W (w.heap.size + 4) 53 #[.slice A1 n1 c1, .slice A2 n2 c2, .int .i64 nx] := by rw [hW]; exact Lies.new' _ _ _ (by simp)
  have hwz : W.heap.size = w.heap.size + 5 := by rw [hW]; simp
  have hun : UnV W (w.heap.size + 4) m R0 nx := ⟨_, _, _, _, _, _, ku, hs.keepL fun g hg => by
    have h1 := hg.lt
    rw [blank_at (X := fun b => b = w.heap.size + 4) (show ¬ g = w.heap.size + 4 by omega)]
    exact hb.block g h1⟩
  have HC := Lib.hid (rows_any W (w.heap.size + 4) m nx hun hm _ _ la lb va vb (hra.keep hb.block) (hrb.keep hb.block) hsa hsb hva hvb hnx hna hnb)
  have HW := Lib.hid hW
  have HB := Lib.hid hb
  have HKS := Lib.hid ks
  have HKR := Lib.hid kr
  have HWZ := Lib.hid hwz
  clear hW hb ks kr ku hwz hun hs hra hrb hsa hsb hva hvb hnx hna hnb
  go_enter Tryz.func7, Tryz.ntmps7
  go_wp2_with fail
  rw [← HW.out]
  refine HC.out.mono ?_
  rintro e w1 ⟨hres, hg⟩
  have hwz := HWZ.out
  have h1s : Lies w1 w.heap.size _ _ := (hg.block _ (by omega) (fun e => by have := Option.some.inj e; omega)).trans HKS.out
  have h1r : Lies w1 (w.heap.size + 3) _ _ := (hg.block _ (by omega) (fun e => by have := Option.some.inj e; omega)).trans HKR.out
  have s0 := h1s.cell 0
  have s1 := h1s.cell 1
  have r0 := h1r.cell 0
  have r1 := h1r.cell 1
  have f0 := h1r.free 0
  have f1 := h1r.free 1
  have lr := h1r.lt
  have HR1 := Lib.hid h1r
  have HB1 := Lib.hid (show Below w.heap.size w w1 from HB.out.grown hg HB.out.size (fun j hj => by have := Option.some.inj hj; omega))
  clear hg h1s h1r hwz HC
  cases hrr : rowsRes la lb va vb nx with
  | none =>
    rw [hrr] at hres
    simp only at hres
    subst hres
    have HRR := Lib.hid hrr
    clear hrr
    go_wp2_with fail
    refine bodyPost_ret (results_ctt rfl _ _ (w.heap.size + 3) 34 _ (0, 0) _ rfl ((HR1.out.set 0 _).set 1 _) Tryz.underlying34 rfl (by kernel_rfl) rfl rfl) rfl ?_
    exact ⟨⟨_, _, _, _, _, _, _, _, rfl, by rw [HRR.out]⟩, (HB1.out.setCell (p := ⟨w.heap.size + 3, 0, none⟩) (by show w.heap.size ≤ w.heap.size + 3; omega) _).setCell (p := ⟨w.heap.size + 3, 1, none⟩) (by show w.heap.size ≤ w.heap.size + 3; omega) _⟩
  | some p =>
    rw [hrr] at hres
    simp only at hres
    obtain ⟨rfl, A5, n5, c5, A6, n6, c6, hl, hsv⟩ := hres
    have HRR := Lib.hid hrr
    clear hrr
    have HK := Lib.hid (show ∀ X : World, Below w1.heap.size w1 X → (X.cell? ⟨w.heap.size + 4, 0, none⟩ = some (.slice A5 n5 c5) ∧ X.cell? ⟨w.heap.size + 4, 1, none⟩ = some (.slice A6 n6 c6)) ∧ X.cell? ⟨w.heap.size + 4, 2, none⟩ = some (.int .i64 p.2) from fun X hx => ⟨⟨(hl.later hx).cell 0, (hl.later hx).cell 1⟩, (hl.later hx).cell 2⟩)
    have HK4 := Lib.hid (show ∀ a b : Value, (((w1.drew.setCell ⟨w.heap.size + 3, 0, none⟩ a).setCell ⟨w.heap.size + 3, 1, none⟩ b).cell? ⟨w.heap.size + 4, 0, none⟩ = some (.slice A5 n5 c5) ∧ ((w1.drew.setCell ⟨w.heap.size + 3, 0, none⟩ a).setCell ⟨w.heap.size + 3, 1, none⟩ b).cell? ⟨w.heap.size + 4, 1, none⟩ = some (.slice A6 n6 c6)) ∧ ((w1.drew.setCell ⟨w.heap.size + 3, 0, none⟩ a).setCell ⟨w.heap.size + 3, 1, none⟩ b).cell? ⟨w.heap.size + 4, 2, none⟩ = some (.int .i64 p.2) from fun a b => by
      have j := ((hl.later (Below.refl _ _).drew).far (p := ⟨w.heap.size + 3, 0, none⟩) (by show w.heap.size + 4 ≠ w.heap.size + 3; omega) a).far (p := ⟨w.heap.size + 3, 1, none⟩) (by show w.heap.size + 4 ≠ w.heap.size + 3; omega) b
      exact ⟨⟨j.cell 0, j.cell 1⟩, j.cell 2⟩)
    have HL := Lib.hid hl
    have HSV := Lib.hid hsv
    clear hl hsv
    go_wp2_with fail
    go_region_held3 (fun X => (X.cell? ⟨w.heap.size + 4, 0, none⟩ = some (.slice A5 n5 c5) ∧ X.cell? ⟨w.heap.size + 4, 1, none⟩ = some (.slice A6 n6 c6)) ∧ X.cell? ⟨w.heap.size + 4, 2, none⟩ = some (.int .i64 p.2))
      (first | exact HK.out _ (Below.refl _ _).drew | exact HK4.out _ _)
      (fail)
    go_wp2_with fail
    have hd := (Below.refl ((w1.setCell ⟨w.heap.size + 1 + 1 + 1, 0, none⟩ (.slice A5 n5 c5)).setCell ⟨w.heap.size + 1 + 1 + 1, 1, none⟩ (.slice A6 n6 c6)).heap.size ((w1.setCell ⟨w.heap.size + 1 + 1 + 1, 0, none⟩ (.slice A5 n5 c5)).setCell ⟨w.heap.size + 1 + 1 + 1, 1, none⟩ (.slice A6 n6 c6))).drew
    refine bodyPost_ret (results_ctt rfl _ _ (w.heap.size + 3) 34 #[.slice A5 n5 c5, .slice A6 n6 c6] (0, 0) _ rfl (Lies.later ((HR1.out.set 0 (.slice A5 n5 c5)).set 1 (.slice A6 n6 c6)) hd) Tryz.underlying34 rfl (by kernel_rfl) rfl rfl) rfl ?_
    have hbz := (HB1.out.setCell (p := ⟨w.heap.size + 3, 0, none⟩) (by show w.heap.size ≤ w.heap.size + 3; omega) (.slice A5 n5 c5)).setCell (p := ⟨w.heap.size + 3, 1, none⟩) (by show w.heap.size ≤ w.heap.size + 3; omega) (.slice A6 n6 c6)
    refine ⟨⟨_, _, _, _, _, _, _, _, rfl, ?_⟩, hbz.drew⟩
    rw [HRR.out]
    exact ⟨rfl, rfl, subV_off HSV.out HR1.out fun g h1 h2 h3 => (Below.heap_setCell _ ⟨w.heap.size + 3, 1, none⟩ _ g h2).trans (Below.heap_setCell _ ⟨w.heap.size + 3, 0, none⟩ _ g h2)⟩
end Go.Proofs.YtpooocfogpileaaGreat
