/- unify.Rows. -/
import Derived.Test.YtpbhndmfmnfeoaaGreatUnR
import Derived.Test.YtpbhndmfmnfeoaaGreatMg21
import Derived.Test.YtpbhndmfmnfeoaaGreatMg12
import Derived.Outline
namespace Go.Proofs.YtpbhndmfmnfeoaaGreat
open Go.RowKit

theorem results_ctt {P : Program} {fn : Func} {p q r : Tmp} {ty : TypeId} (h : fn.results = #[.cell p ty, .tmp q, .tmp r]) (tmps : Array Value) (w : World) (g : Nat) (t : TypeId) (cs : Array Value) (fr : Nat × Nat) (d : TypeDesc)
    (hp : tmps.getD p undef = .pointer (some ⟨g, 0, none⟩)) (hg : w.heap[g]? = some (.cells cs t fr)) (hu : P.underlying ty = some d) (hd : (match d with | .struct _ | .array _ _ => true | _ => false) = true) (hi : (P.info? ty).map (·.size) = some cs.size)
    {a b : Value} (hq : tmps.getD q undef = a) (hr : tmps.getD r undef = b) : (results fn tmps).run P w = .ok (.tuple #[.agg cs, a, b]) w := by
  have hp' : tmps[p]?.getD undef = .pointer (some ⟨g, 0, none⟩) := by simpa using hp
  have hq' : tmps[q]?.getD undef = a := by simpa using hq
  have hr' : tmps[r]?.getD undef = b := by simpa using hr
  simp [results, h, hp', hq', hr', asAddr, run_loadVar_row w g t ty cs fr d hg hu hd hi]
def notSl : Value → Prop
  | .slice _ _ _ => False
  | _ => True
/-- Something that is no list can be read in a block. -/
def liveS (w : World) (g : Nat) : Prop := (∃ a v, a.block = g ∧ w.cell? a = some v ∧ notSl v) ∨ ∃ es c, w.heap[g]? = some (.map es c)
theorem SrcV.keepS {w w' : World} {u : Value} {xs : List Value} (h : SrcV w u xs) (hx : ∀ x ∈ xs, notSl x) (hk : ∀ g, liveS w g → w'.heap[g]? = w.heap[g]?) : SrcV w' u xs := by
  rcases h with h | ⟨ad, c, h1, h2, h3⟩
  · exact .inl h
  · refine .inr ⟨ad, c, h1, h2, fun j q hq => ?_⟩
    have h4 := h3 j q hq
    exact (World.cell?_of_block (w := w) (hk _ (.inl ⟨_, _, rfl, h4, hx q (List.mem_of_getElem? hq)⟩))).trans h4
theorem SaidV.keepS {w w' : World} {k m : Nat} {v : Value} {g : GMap} (h : SaidV w k v m g) (hk : ∀ g, liveS w g → w'.heap[g]? = w.heap[g]?) : SaidV w' k v m g := by
  obtain ⟨zs, h1, h2, h3, h4, h5⟩ := h
  refine ⟨zs, h1.keepS (fun x hx => by obtain ⟨l, _, rfl⟩ := List.mem_map.1 hx; trivial) hk, fun l hl => (h2 l hl).keep (hk _ ?_), h3, h4, h5⟩
  obtain ⟨es, c, h6, _⟩ := (h2 l hl).isMap
  exact .inr ⟨es, c, h6⟩
theorem SubV.keepS {w w' : World} {v : Value} {m : Nat} {R : RowF} (h : SubV w v m T0 R) (hk : ∀ g, liveS w g → w'.heap[g]? = w.heap[g]?) : SubV w' v m T0 R := by
  obtain ⟨vt, vr, gt, gr, h1, h2, h3, h4, h5⟩ := h
  refine ⟨vt, vr, gt, gr, h1, h2.keepS hk, h3.keepS hk, fun n hn => h4 n hn, fun n hn => ?_⟩
  have h6 := h5 n hn
  cases hR : R n with
  | none => rw [hR] at h6; exact h6
  | some r =>
    rw [hR] at h6
    obtain ⟨l, h7, lv, h8, h9, h10⟩ := h6
    exact ⟨l, h7, lv, h8, ⟨h9.1.keepS (fun x hx => by obtain ⟨l, _, rfl⟩ := List.mem_map.1 hx; trivial) hk, h9.2⟩, h10⟩
/-- What a unifier said is kept where its own block is written, and one that holds lists alone. -/
theorem subV_off {w w' : World} {bu z : Nat} {v : Value} {m : Nat} {R : RowF} {t : TypeId} (h : SubV (blank (fun b => b = bu) w) v m T0 R) (hz : Lies w z t #[.slice none 0 0, .slice none 0 0]) (hk : ∀ g, g ≠ bu → g ≠ z → g < w.heap.size → w'.heap[g]? = w.heap[g]?) : SubV w' v m T0 R := by
  refine h.keepS fun g hg => ?_
  have hbu : g ≠ bu ∧ g < w.heap.size := by
    rcases hg with ⟨a, u, e, hc, _⟩ | ⟨es, c, hc⟩
    · exact blank_live (.inl ⟨a, u, e, hc⟩)
    · exact blank_live (.inr ⟨es, c, hc⟩)
  have hb := blank_at (X := fun b => b = bu) (w := w) hbu.1
  have hgz : g ≠ z := by
    intro e
    subst e
    rcases hg with ⟨a, u, rfl, hc, hn⟩ | ⟨es, c, hc⟩
    · obtain ⟨g, o, sp⟩ := a
      have h2 := World.cell?_spot (a := ⟨g, o, sp⟩) hc
      subst h2
      have h3 := (World.cell?_of_block (a := ⟨g, o, none⟩) hb).symm.trans hc
      rw [hz.cell o] at h3
      match o, h3 with
      | 0, h3 => simp at h3; subst h3; exact hn
      | 1, h3 => simp at h3; subst h3; exact hn
      | o + 2, h3 => simp at h3
    · rw [hb] at hc
      unfold Lies at hz
      rw [hz] at hc
      cases hc
  rw [hb]
  exact hk g hbu.1 hgz hbu.2
/-- What Rows answers. -/
def RowsAns (w : World) (m : Nat) (o : Option (RowF × Int)) (e : Ending) (w' : World) : Prop :=
  (∃ A1 n1 c1 A2 n2 c2 k err, e = .returned (.tuple #[.agg #[.slice A1 n1 c1, .slice A2 n2 c2], .int .i64 k, .int .i64 err]) ∧
    match o with | none => err = 5 | some p => err = 0 ∧ k = p.2 ∧ SubV w' (.agg #[.slice A1 n1 c1, .slice A2 n2 c2]) (m + 4) T0 p.1) ∧ Below w.heap.size w w'
set_option maxRecDepth 100000 in
set_option maxHeartbeats 8000000 in
theorem unifyRows_any (w : World) (sv : Value) (m : Nat) (hs : SubV w sv m T0 R0) (hm : m ≤ 900) (lva lvb : Value) (la lb : List Str) (va vb nx : Int) (hra : StrR w lva la) (hrb : StrR w lvb lb) (hsa : ∀ s ∈ la, s.length ≤ maxLen) (hsb : ∀ s ∈ lb, s.length ≤ maxLen)
    (hva : i64ok va) (hvb : i64ok vb) (hnx : 0 < nx ∧ nx ≤ 1000000) (hna : va ≠ nx) (hnb : vb ≠ nx) :
    Calls Tryz.prog 7 #[sv, .agg #[lva, .int .i64 va], .agg #[lvb, .int .i64 vb], .int .i64 nx] w (RowsAns w m (rowsRes la lb va vb nx)) := by
  obtain ⟨A1, n1, c1, A2, n2, c2, rfl⟩ := hs.shape
  obtain ⟨A3, n3, c3, rfl⟩ : ∃ A n c, lva = .slice A n c := by rcases hra.1 with ⟨rfl, _⟩ | ⟨_, _, rfl, _⟩ <;> exact ⟨_, _, _, rfl⟩
  obtain ⟨A4, n4, c4, rfl⟩ : ∃ A n c, lvb = .slice A n c := by rcases hrb.1 with ⟨rfl, _⟩ | ⟨_, _, rfl, _⟩ <;> exact ⟨_, _, _, rfl⟩
  obtain ⟨W, hW⟩ : ∃ W, W = ((((w.alloc (.cells #[.slice A1 n1 c1, .slice A2 n2 c2] 34)).alloc (.cells #[.slice A3 n3 c3, .int .i64 va] 24)).alloc (.cells #[.slice A4 n4 c4, .int .i64 vb] 24)).alloc (.cells #[.slice none 0 0, .slice none 0 0] 34)).alloc (.cells #[.slice A1 n1 c1, .slice A2 n2 c2, .int .i64 nx] 53) := ⟨_, rfl⟩
  have hb : Below w.heap.size w W := by rw [hW]; exact (((((Below.refl _ w).alloc (Nat.le_refl _) _).alloc (by simp) _).alloc (by simp; omega) _).alloc (by simp; omega) _).alloc (by simp; omega) _
  have ks : Lies W w.heap.size 34 #[.slice A1 n1 c1, .slice A2 n2 c2] := by rw [hW]; exact ((((Lies.new _ _ _).alloc _).alloc _).alloc _).alloc _
  have kr : Lies W (w.heap.size + 3) 34 #[.slice none 0 0, .slice none 0 0] := by rw [hW]; exact (Lies.new' _ _ _ (by simp)).alloc _
  have ku : Lies W (w.heap.size + 4) 53 #[.slice A1 n1 c1, .slice A2 n2 c2, .int .i64 nx] := by rw [hW]; exact Lies.new' _ _ _ (by simp)
  have hwz : W.heap.size = w.heap.size + 5 := by rw [hW]; simp
  have hun : UnV W (w.heap.size + 4) m R0 nx := ⟨_, _, _, _, _, _, ku, hs.keepL fun g hg => by
    have h1 := hg.lt
    rw [blank_at (X := fun b => b = w.heap.size + 4) (show ¬ g = w.heap.size + 4 by omega)]
    exact hb.block g h1⟩
  have HC := Lib.hid (rows_any W (w.heap.size + 4) m nx hun hm _ _ la lb va vb (hra.keep hb.block) (hrb.keep hb.block) hsa hsb hva hvb hnx hna hnb)
  have HW := Lib.hid hW
  have HB := Lib.hid hb
  have HKS := Lib.hid ks
  have HKR := Lib.hid kr
  have HWZ := Lib.hid hwz
  clear hW hb ks kr ku hwz hun hs hra hrb hsa hsb hva hvb hnx hna hnb
  go_enter Tryz.func7, Tryz.ntmps7
  go_wp2_with fail
  rw [← HW.out]
  refine HC.out.mono ?_
  rintro e w1 ⟨hres, hg⟩
  have hwz := HWZ.out
  have h1s : Lies w1 w.heap.size _ _ := (hg.block _ (by omega) (fun e => by have := Option.some.inj e; omega)).trans HKS.out
  have h1r : Lies w1 (w.heap.size + 3) _ _ := (hg.block _ (by omega) (fun e => by have := Option.some.inj e; omega)).trans HKR.out
  have s0 := h1s.cell 0
  have s1 := h1s.cell 1
  have r0 := h1r.cell 0
  have r1 := h1r.cell 1
  have f0 := h1r.free 0
  have f1 := h1r.free 1
  have lr := h1r.lt
  have HR1 := Lib.hid h1r
  have HB1 := Lib.hid (show Below w.heap.size w w1 from HB.out.grown hg HB.out.size (fun j hj => by have := Option.some.inj hj; omega))
  clear hg h1s h1r hwz HC
  cases hrr : rowsRes la lb va vb nx with
  | none =>
    rw [hrr] at hres
    simp only at hres
    subst hres
    have HRR := Lib.hid hrr
    clear hrr
    go_wp2_with fail
    refine bodyPost_ret (results_ctt rfl _ _ (w.heap.size + 3) 34 _ (0, 0) _ rfl ((HR1.out.set 0 _).set 1 _) Tryz.underlying34 rfl (by kernel_rfl) rfl rfl) rfl ?_
    exact ⟨⟨_, _, _, _, _, _, _, _, rfl, by rw [HRR.out]⟩, (HB1.out.setCell (p := ⟨w.heap.size + 3, 0, none⟩) (by show w.heap.size ≤ w.heap.size + 3; omega) _).setCell (p := ⟨w.heap.size + 3, 1, none⟩) (by show w.heap.size ≤ w.heap.size + 3; omega) _⟩
  | some p =>
    rw [hrr] at hres
    simp only at hres
    obtain ⟨rfl, A5, n5, c5, A6, n6, c6, hl, hsv⟩ := hres
    have HRR := Lib.hid hrr
    clear hrr
    have HK := Lib.hid (show ∀ X : World, Below w1.heap.size w1 X → (X.cell? ⟨w.heap.size + 4, 0, none⟩ = some (.slice A5 n5 c5) ∧ X.cell? ⟨w.heap.size + 4, 1, none⟩ = some (.slice A6 n6 c6)) ∧ X.cell? ⟨w.heap.size + 4, 2, none⟩ = some (.int .i64 p.2) from fun X hx => ⟨⟨(hl.later hx).cell 0, (hl.later hx).cell 1⟩, (hl.later hx).cell 2⟩)
    have HK4 := Lib.hid (show ∀ a b : Value, (((w1.drew.setCell ⟨w.heap.size + 3, 0, none⟩ a).setCell ⟨w.heap.size + 3, 1, none⟩ b).cell? ⟨w.heap.size + 4, 0, none⟩ = some (.slice A5 n5 c5) ∧ ((w1.drew.setCell ⟨w.heap.size + 3, 0, none⟩ a).setCell ⟨w.heap.size + 3, 1, none⟩ b).cell? ⟨w.heap.size + 4, 1, none⟩ = some (.slice A6 n6 c6)) ∧ ((w1.drew.setCell ⟨w.heap.size + 3, 0, none⟩ a).setCell ⟨w.heap.size + 3, 1, none⟩ b).cell? ⟨w.heap.size + 4, 2, none⟩ = some (.int .i64 p.2) from fun a b => by
      have j := ((hl.later (Below.refl _ _).drew).far (p := ⟨w.heap.size + 3, 0, none⟩) (by show w.heap.size + 4 ≠ w.heap.size + 3; omega) a).far (p := ⟨w.heap.size + 3, 1, none⟩) (by show w.heap.size + 4 ≠ w.heap.size + 3; omega) b
      exact ⟨⟨j.cell 0, j.cell 1⟩, j.cell 2⟩)
    have HL := Lib.hid hl
    have HSV := Lib.hid hsv
    clear hl hsv
    go_wp2_with fail
    go_region_held3 (fun X => (X.cell? ⟨w.heap.size + 4, 0, none⟩ = some (.slice A5 n5 c5) ∧ X.cell? ⟨w.heap.size + 4, 1, none⟩ = some (.slice A6 n6 c6)) ∧ X.cell? ⟨w.heap.size + 4, 2, none⟩ = some (.int .i64 p.2))
      (first | exact HK.out _ (Below.refl _ _).drew | exact HK4.out _ _)
      (fail)
    go_wp2_with fail
    have hd := (Below.refl ((w1.setCell ⟨w.heap.size + 1 + 1 + 1, 0, none⟩ (.slice A5 n5 c5)).setCell ⟨w.heap.size + 1 + 1 + 1, 1, none⟩ (.slice A6 n6 c6)).heap.size ((w1.setCell ⟨w.heap.size + 1 + 1 + 1, 0, none⟩ (.slice A5 n5 c5)).setCell ⟨w.heap.size + 1 + 1 + 1, 1, none⟩ (.slice A6 n6 c6))).drew
    refine bodyPost_ret (results_ctt rfl _ _ (w.heap.size + 3) 34 #[.slice A5 n5 c5, .slice A6 n6 c6] (0, 0) _ rfl (Lies.later ((HR1.out.set 0 (.slice A5 n5 c5)).set 1 (.slice A6 n6 c6)) hd) Tryz.underlying34 rfl (by kernel_rfl) rfl rfl) rfl ?_
    have hbz := (HB1.out.setCell (p := ⟨w.heap.size + 3, 0, none⟩) (by show w.heap.size ≤ w.heap.size + 3; omega) (.slice A5 n5 c5)).setCell (p := ⟨w.heap.size + 3, 1, none⟩) (by show w.heap.size ≤ w.heap.size + 3; omega) (.slice A6 n6 c6)
    refine ⟨⟨_, _, _, _, _, _, _, _, rfl, ?_⟩, hbz.drew⟩
    rw [HRR.out]
    exact ⟨rfl, rfl, subV_off HSV.out HR1.out fun g h1 h2 h3 => (Below.heap_setCell _ ⟨w.heap.size + 3, 1, none⟩ _ g h2).trans (Below.heap_setCell _ ⟨w.heap.size + 3, 0, none⟩ _ g h2)⟩
end Go.Proofs.YtpbhndmfmnfeoaaGreat

/- A variable and a ref of it are not unified. -/
namespace Go.Proofs.YtpbhndmfmnfeoaaGreat
open Go.RowKit

def tvT (n : Int) : Ty := .mk 7 [] n [] [] 0
def refT (t : Ty) : Ty := .mk 6 [] 0 [t] [] 0
/-- A ref of a variable, as it lies. -/
theorem ref_open {w : World} {n k v rv : Int} {nm : Str} {A : Option Addr} {nn c : Nat} {B : Option Addr} {m d : Nat} (h : TFV w (refT (tvT n)) [.int .i64 k, .string (ba nm), .int .i64 v, .slice A nn c, .slice B m d, .int .i64 rv]) :
    k = 6 ∧ rv = 0 ∧ nn = 1 ∧ ∃ gk ok cK nmk Ak q lk rk, A = some ⟨gk, ok, none⟩ ∧ c = cK ∧ 1 ≤ cK ∧ AtCells w ⟨gk, ok, none⟩ ∧ ReadsAt w ⟨gk, ok, none⟩ (tyC 7 nmk n (.slice Ak 0 q) lk rk) := by
  obtain ⟨kv, lv, e, hsl, _, _, hk⟩ := h
  unfold tyC at e
  simp only [List.cons.injEq, Value.int.injEq, Value.string.injEq, true_and, and_true] at e
  obtain ⟨rfl, _, _, rfl, rfl, rfl⟩ := e
  have hk0 := hk 0 (tvT n) rfl
  rcases hsl with ⟨_, h0⟩ | ⟨g, h1, _⟩
  · cases h0
  · simp only [Value.slice.injEq, List.length_cons, List.length_nil] at h1
    obtain ⟨rfl, rfl, rfl⟩ := h1
    cases hk0 with
    | mk _ k nm v kids ls rv kv' lv' h0 hat hr hsk hl hi hks =>
      have hkv : ∃ Ak q, kv' = .slice Ak 0 q := by
        rcases hsk with ⟨rfl, _⟩ | ⟨g', h1, _⟩
        · exact ⟨_, _, rfl⟩
        · exact ⟨_, _, h1⟩
      obtain ⟨Ak, q, rfl⟩ := hkv
      exact ⟨rfl, rfl, rfl, g, 0, 1, [], Ak, q, lv', 0, rfl, rfl, Nat.le_refl _, by simpa [kidAt] using hat, by simpa [kidAt] using hr⟩
theorem var_open {w : World} {n k v rv : Int} {nm : Str} {A : Option Addr} {nn c : Nat} {B : Option Addr} {m d : Nat} (h : TRV w (tvT n) [.int .i64 k, .string (ba nm), .int .i64 v, .slice A nn c, .slice B m d, .int .i64 rv]) : k = 7 ∧ v = n := by
  obtain ⟨kv, lv, e, _⟩ := h
  unfold tyC at e
  simp only [List.cons.injEq, Value.int.injEq, Value.string.injEq, true_and, and_true] at e
  exact ⟨e.1, e.2.2.1⟩
set_option maxRecDepth 100000 in
set_option maxHeartbeats 8000000 in
theorem beTypeR_any (w : World) (bu : Nat) (n : Int) (gk ok : Nat) (nm nmk : Str) (v : Int) (Ak : Option Addr) (c q : Nat) (A2 : Option Addr) (n2 c2 : Nat) (lk : Value) (rk : Int) (hc : 1 ≤ c)
    (hatk : AtCells w ⟨gk, ok, none⟩) (hrk : ReadsAt w ⟨gk, ok, none⟩ (tyC 7 nmk n (.slice Ak 0 q) lk rk)) :
    Calls Tryz.prog 37 #[.pointer (some ⟨bu, 0, none⟩), .int .i64 n, .agg (tyC 6 nm v (.slice (some ⟨gk, ok, none⟩) 1 c) (.slice A2 n2 c2) 0).toArray] w fun e w' => e = .returned (.int .i64 5) ∧ Below w.heap.size w w' := by
  obtain ⟨W, hW⟩ : ∃ W, W = w.alloc (.cells (tyC 6 nm v (.slice (some ⟨gk, ok, none⟩) 1 c) (.slice A2 n2 c2) 0).toArray 44) := ⟨_, rfl⟩
  have hb : Below w.heap.size w W := by rw [hW]; exact below_new w _
  have HC := Lib.hid (varsRef_any W gk ok nm nmk v n Ak c q A2 n2 c2 lk rk hc (hatk.keep (hb.block _ hatk.lt)) (hrk.keep (hb.block _ hatk.lt)))
  have HB := Lib.hid hb
  unfold tyC at hW HC ⊢
  have HW := Lib.hid hW
  clear hW hb hatk hrk
  go_enter Tryz.func37, Tryz.ntmps37
  go_wp2_with fail
  rw [← HW.out]
  refine HC.out.mono ?_
  rintro e w1 ⟨A5, k5, c5, rfl, ho, hb1⟩
  have HX := Lib.hid (containsI_any w1 _ _ n ho)
  have HB1 := Lib.hid (HB.out.trans (hb1.mono HB.out.size))
  clear ho hb1 HC
  go_wp2_with fail
  refine HX.out.mono ?_
  rintro e w2 ⟨rfl, rfl⟩
  go_wp2
  go_ret
  exact ⟨rfl, HB1.out⟩
set_option maxRecDepth 100000 in
set_option maxHeartbeats 8000000 in
theorem typesVR_any (w : World) (bu m : Nat) (nx : Int) (hu : UnV w bu m R0 nx) (hm : m ≤ 900) (n lvl : Int) (la lb : List Value) (hta : TRV w (tvT n) la) (htb : TRV w (refT (tvT n)) lb) :
    Calls Tryz.prog 22 #[.pointer (some ⟨bu, 0, none⟩), .agg la.toArray, .agg lb.toArray, .int .i64 lvl] w fun e w' => e = .returned (.int .i64 5) ∧ Below w.heap.size w w' := by
  obtain ⟨C1, p1, q1, C2, p2, q2, hl, hs⟩ := hu
  have hbu := hl.lt
  obtain ⟨k1, nm1, v1, A1, n1, c1, B1, m1, d1, rv1, rfl⟩ := hta.form
  obtain ⟨k2, nm2, v2, A2, n2, c2, B2, m2, d2, rv2, rfl⟩ := htb.form
  obtain ⟨W, hW⟩ : ∃ W, W = (((w.alloc (.cells #[.pointer (some ⟨bu, 0, none⟩)] 65)).alloc (.cells #[.int .i64 k1, .string (ba nm1), .int .i64 v1, .slice A1 n1 c1, .slice B1 m1 d1, .int .i64 rv1] 44)).alloc (.cells #[.int .i64 k2, .string (ba nm2), .int .i64 v2, .slice A2 n2 c2, .slice B2 m2 d2, .int .i64 rv2] 44)).alloc (.cells #[.int .i64 lvl] 3) := ⟨_, rfl⟩
  have hb : Below w.heap.size w W := by rw [hW]; exact ((((Below.refl _ w).alloc (Nat.le_refl _) _).alloc (by simp) _).alloc (by simp; omega) _).alloc (by simp; omega) _
  have kx : Lies W w.heap.size 65 #[.pointer (some ⟨bu, 0, none⟩)] := by rw [hW]; exact (((Lies.new _ _ _).alloc _).alloc _).alloc _
  have ka : Lies W (w.heap.size + 1) 44 #[.int .i64 k1, .string (ba nm1), .int .i64 v1, .slice A1 n1 c1, .slice B1 m1 d1, .int .i64 rv1] := by rw [hW]; exact ((Lies.new' _ _ _ (by simp)).alloc _).alloc _
  have kb : Lies W (w.heap.size + 1 + 1) 44 #[.int .i64 k2, .string (ba nm2), .int .i64 v2, .slice A2 n2 c2, .slice B2 m2 d2, .int .i64 rv2] := by rw [hW]; exact (Lies.new' _ _ _ (by simp)).alloc _
  have hwz : W.heap.size = w.heap.size + 4 := by rw [hW]; simp
  have hlu := hl.later hb
  have HK := Lib.hid (show ∀ X : World, Below W.heap.size W X → (X.cell? ⟨w.heap.size, 0, none⟩ = some (.pointer (some ⟨bu, 0, none⟩))) ∧ (X.cell? ⟨bu, 0, none⟩ = some (.slice C1 p1 q1) ∧ X.cell? ⟨bu, 1, none⟩ = some (.slice C2 p2 q2)) ∧ (X.cell? ⟨w.heap.size + 1, 0, none⟩ = some (.int .i64 k1) ∧ X.cell? ⟨w.heap.size + 1, 1, none⟩ = some (.string (ba nm1)) ∧ X.cell? ⟨w.heap.size + 1, 2, none⟩ = some (.int .i64 v1) ∧ X.cell? ⟨w.heap.size + 1, 3, none⟩ = some (.slice A1 n1 c1) ∧ X.cell? ⟨w.heap.size + 1, 4, none⟩ = some (.slice B1 m1 d1) ∧ X.cell? ⟨w.heap.size + 1, 5, none⟩ = some (.int .i64 rv1)) ∧ (X.cell? ⟨w.heap.size + 1 + 1, 0, none⟩ = some (.int .i64 k2) ∧ X.cell? ⟨w.heap.size + 1 + 1, 1, none⟩ = some (.string (ba nm2)) ∧ X.cell? ⟨w.heap.size + 1 + 1, 2, none⟩ = some (.int .i64 v2) ∧ X.cell? ⟨w.heap.size + 1 + 1, 3, none⟩ = some (.slice A2 n2 c2) ∧ X.cell? ⟨w.heap.size + 1 + 1, 4, none⟩ = some (.slice B2 m2 d2) ∧ X.cell? ⟨w.heap.size + 1 + 1, 5, none⟩ = some (.int .i64 rv2)) from fun X hx => ⟨(kx.later hx).cell 0, ⟨(hlu.later hx).cell 0, (hlu.later hx).cell 1⟩, ⟨(ka.later hx).cell 0, (ka.later hx).cell 1, (ka.later hx).cell 2, (ka.later hx).cell 3, (ka.later hx).cell 4, (ka.later hx).cell 5⟩, (kb.later hx).cell 0, (kb.later hx).cell 1, (kb.later hx).cell 2, (kb.later hx).cell 3, (kb.later hx).cell 4, (kb.later hx).cell 5⟩)
  have HCA := Lib.hid (show ∀ X : World, Below W.heap.size W X → Calls Tryz.prog 16 #[.agg #[.slice C1 p1 q1, .slice C2 p2 q2], .agg #[.int .i64 k1, .string (ba nm1), .int .i64 v1, .slice A1 n1 c1, .slice B1 m1 d1, .int .i64 rv1]] X fun e w' => ∃ l', e = .returned (.agg l'.toArray) ∧ (∀ w'', Kept (fun b => b < X.heap.size + 3) w' w'' → TFV w'' (tvT n) l') ∧ Below X.heap.size X w' from fun X hx => by
    have h := apply_any X _ m T0 R0 (hs.keepL (blank_self (hb.trans (hx.mono hb.size)))) (by omega) (tvT n) _ (hta.keep (hb.trans (hx.mono hb.size)).block) (rowsFree0 T0 _) (by rw [pcsT0]; unfold tvT; simp [Ty.size, Ty.sizeL])
    rw [apT0] at h
    exact h)
  have HCB := Lib.hid (show ∀ X : World, Below W.heap.size W X → Calls Tryz.prog 16 #[.agg #[.slice C1 p1 q1, .slice C2 p2 q2], .agg #[.int .i64 k2, .string (ba nm2), .int .i64 v2, .slice A2 n2 c2, .slice B2 m2 d2, .int .i64 rv2]] X fun e w' => ∃ l', e = .returned (.agg l'.toArray) ∧ (∀ w'', Kept (fun b => b < X.heap.size + 3) w' w'' → TFV w'' (refT (tvT n)) l') ∧ Below X.heap.size X w' from fun X hx => by
    have h := apply_any X _ m T0 R0 (hs.keepL (blank_self (hb.trans (hx.mono hb.size)))) (by omega) (refT (tvT n)) _ (htb.keep (hb.trans (hx.mono hb.size)).block) (rowsFree0 T0 _) (by rw [pcsT0]; unfold refT tvT; simp [Ty.size, Ty.sizeL])
    rw [apT0] at h
    exact h)
  have HW := Lib.hid hW
  have HB := Lib.hid hb
  have HKX := Lib.hid kx
  have HKA := Lib.hid ka
  have HKB := Lib.hid kb
  have HWZ := Lib.hid hwz
  clear hW hb kx ka kb hwz hlu hl hs hta htb
  go_enter Tryz.func22, Tryz.ntmps22
  go_wp2_with fail
  rw [← HW.out]
  go_upto_region 1 with fail
  refine TillLast.start (S := fun X => (X.cell? ⟨w.heap.size, 0, none⟩ = some (.pointer (some ⟨bu, 0, none⟩))) ∧ (X.cell? ⟨bu, 0, none⟩ = some (.slice C1 p1 q1) ∧ X.cell? ⟨bu, 1, none⟩ = some (.slice C2 p2 q2)) ∧ (X.cell? ⟨w.heap.size + 1, 0, none⟩ = some (.int .i64 k1) ∧ X.cell? ⟨w.heap.size + 1, 1, none⟩ = some (.string (ba nm1)) ∧ X.cell? ⟨w.heap.size + 1, 2, none⟩ = some (.int .i64 v1) ∧ X.cell? ⟨w.heap.size + 1, 3, none⟩ = some (.slice A1 n1 c1) ∧ X.cell? ⟨w.heap.size + 1, 4, none⟩ = some (.slice B1 m1 d1) ∧ X.cell? ⟨w.heap.size + 1, 5, none⟩ = some (.int .i64 rv1)) ∧ (X.cell? ⟨w.heap.size + 1 + 1, 0, none⟩ = some (.int .i64 k2) ∧ X.cell? ⟨w.heap.size + 1 + 1, 1, none⟩ = some (.string (ba nm2)) ∧ X.cell? ⟨w.heap.size + 1 + 1, 2, none⟩ = some (.int .i64 v2) ∧ X.cell? ⟨w.heap.size + 1 + 1, 3, none⟩ = some (.slice A2 n2 c2) ∧ X.cell? ⟨w.heap.size + 1 + 1, 4, none⟩ = some (.slice B2 m2 d2) ∧ X.cell? ⟨w.heap.size + 1 + 1, 5, none⟩ = some (.int .i64 rv2))) (z := 12) (by kernel_rfl) ?_
  have hHeld : (W.drew.cell? ⟨w.heap.size, 0, none⟩ = some (.pointer (some ⟨bu, 0, none⟩))) ∧ (W.drew.cell? ⟨bu, 0, none⟩ = some (.slice C1 p1 q1) ∧ W.drew.cell? ⟨bu, 1, none⟩ = some (.slice C2 p2 q2)) ∧ (W.drew.cell? ⟨w.heap.size + 1, 0, none⟩ = some (.int .i64 k1) ∧ W.drew.cell? ⟨w.heap.size + 1, 1, none⟩ = some (.string (ba nm1)) ∧ W.drew.cell? ⟨w.heap.size + 1, 2, none⟩ = some (.int .i64 v1) ∧ W.drew.cell? ⟨w.heap.size + 1, 3, none⟩ = some (.slice A1 n1 c1) ∧ W.drew.cell? ⟨w.heap.size + 1, 4, none⟩ = some (.slice B1 m1 d1) ∧ W.drew.cell? ⟨w.heap.size + 1, 5, none⟩ = some (.int .i64 rv1)) ∧ (W.drew.cell? ⟨w.heap.size + 1 + 1, 0, none⟩ = some (.int .i64 k2) ∧ W.drew.cell? ⟨w.heap.size + 1 + 1, 1, none⟩ = some (.string (ba nm2)) ∧ W.drew.cell? ⟨w.heap.size + 1 + 1, 2, none⟩ = some (.int .i64 v2) ∧ W.drew.cell? ⟨w.heap.size + 1 + 1, 3, none⟩ = some (.slice A2 n2 c2) ∧ W.drew.cell? ⟨w.heap.size + 1 + 1, 4, none⟩ = some (.slice B2 m2 d2) ∧ W.drew.cell? ⟨w.heap.size + 1 + 1, 5, none⟩ = some (.int .i64 rv2)) := HK.out _ (Below.refl _ _).drew
  refine TillLast.takeT (i := 0) 12 (oi := ⟨some 9, _, _, _, _, _⟩) (v := ?_) rfl (by kernel_rfl) (by kernel_rfl) (by kernel_rfl) (by kernel_rfl) (by kernel_rfl) (by decide) (by kernel_rfl) (fun _ _ _ h => h) (Or.inl ⟨by kernel_rfl, ?_⟩) (by assumption) ?_
  rotate_left
  · (intro w' hSw; (try dsimp only at hSw); go_split_ands; go_simp; first | done | with_reducible rfl)
  try simp only [Act.put, List.setIfInBounds_toArray, List.set_cons_zero, List.set_cons_succ]
  refine TillLast.takeT (i := 1) 12 (oi := ⟨some 10, _, _, _, _, _⟩) (v := ?_) rfl (by kernel_rfl) (by kernel_rfl) (by kernel_rfl) (by kernel_rfl) (by kernel_rfl) (by decide) (by kernel_rfl) (fun _ _ _ h => h) (Or.inl ⟨by kernel_rfl, ?_⟩) (by assumption) ?_
  rotate_left
  · (intro w' hSw; (try dsimp only at hSw); go_split_ands; go_simp; first | done | with_reducible rfl)
  try simp only [Act.put, List.setIfInBounds_toArray, List.set_cons_zero, List.set_cons_succ]
  refine TillLast.takeT (i := 2) 12 (oi := ⟨some 11, _, _, _, _, _⟩) (v := ?_) rfl (by kernel_rfl) (by kernel_rfl) (by kernel_rfl) (by kernel_rfl) (by kernel_rfl) (by decide) (by kernel_rfl) (fun _ _ _ h => h) (Or.inl ⟨by kernel_rfl, ?_⟩) (by assumption) ?_
  rotate_left
  · (intro w' hSw; (try dsimp only at hSw); go_split_ands; go_simp; first | done | with_reducible rfl)
  try simp only [Act.put, List.setIfInBounds_toArray, List.set_cons_zero, List.set_cons_succ]
  refine TillLast.takeT (i := 3) 12 (oi := ⟨some 12, _, _, _, _, _⟩) (v := ?_) rfl (by kernel_rfl) (by kernel_rfl) (by kernel_rfl) (by kernel_rfl) (by kernel_rfl) (by decide) (by kernel_rfl) (fun _ _ _ h => h) (Or.inl ⟨by kernel_rfl, ?_⟩) (by assumption) ?_
  rotate_left
  · (intro w' hSw; (try dsimp only at hSw); go_split_ands; go_simp; first | done | with_reducible rfl)
  try simp only [Act.put, List.setIfInBounds_toArray, List.set_cons_zero, List.set_cons_succ]
  refine TillLast.takeT (i := 4) 12 (oi := ⟨some 13, _, _, _, _, _⟩) (v := ?_) rfl (by kernel_rfl) (by kernel_rfl) (by kernel_rfl) (by kernel_rfl) (by kernel_rfl) (by decide) (by kernel_rfl) (fun _ _ _ h => h) (Or.inl ⟨by kernel_rfl, ?_⟩) (by assumption) ?_
  rotate_left
  · (intro w' hSw; (try dsimp only at hSw); go_split_ands; go_simp; first | done | with_reducible rfl)
  try simp only [Act.put, List.setIfInBounds_toArray, List.set_cons_zero, List.set_cons_succ]
  refine TillLast.takeT (i := 6) 12 (oi := ⟨some 15, _, _, _, _, _⟩) (v := ?_) rfl (by kernel_rfl) (by kernel_rfl) (by kernel_rfl) (by kernel_rfl) (by kernel_rfl) (by decide) (by kernel_rfl) (fun _ _ _ h => h) (Or.inl ⟨by kernel_rfl, ?_⟩) (by assumption) ?_
  rotate_left
  · (intro w' hSw; (try dsimp only at hSw); go_split_ands; go_simp; first | done | with_reducible rfl)
  try simp only [Act.put, List.setIfInBounds_toArray, List.set_cons_zero, List.set_cons_succ]
  refine TillLast.takeT (i := 7) 12 (oi := ⟨some 16, _, _, _, _, _⟩) (v := ?_) rfl (by kernel_rfl) (by kernel_rfl) (by kernel_rfl) (by kernel_rfl) (by kernel_rfl) (by decide) (by kernel_rfl) (fun _ _ _ h => h) (Or.inl ⟨by kernel_rfl, ?_⟩) (by assumption) ?_
  rotate_left
  · (intro w' hSw; (try dsimp only at hSw); go_split_ands; go_simp; first | done | with_reducible rfl)
  try simp only [Act.put, List.setIfInBounds_toArray, List.set_cons_zero, List.set_cons_succ]
  refine TillLast.takeT (i := 8) 12 (oi := ⟨some 17, _, _, _, _, _⟩) (v := ?_) rfl (by kernel_rfl) (by kernel_rfl) (by kernel_rfl) (by kernel_rfl) (by kernel_rfl) (by decide) (by kernel_rfl) (fun _ _ _ h => h) (Or.inl ⟨by kernel_rfl, ?_⟩) (by assumption) ?_
  rotate_left
  · (intro w' hSw; (try dsimp only at hSw); go_split_ands; go_simp; first | done | with_reducible rfl)
  try simp only [Act.put, List.setIfInBounds_toArray, List.set_cons_zero, List.set_cons_succ]
  refine TillLast.takeT (i := 9) 12 (oi := ⟨some 18, _, _, _, _, _⟩) (v := ?_) rfl (by kernel_rfl) (by kernel_rfl) (by kernel_rfl) (by kernel_rfl) (by kernel_rfl) (by decide) (by kernel_rfl) (fun _ _ _ h => h) (Or.inl ⟨by kernel_rfl, ?_⟩) (by assumption) ?_
  rotate_left
  · (intro w' hSw; (try dsimp only at hSw); go_split_ands; go_simp; first | done | with_reducible rfl)
  try simp only [Act.put, List.setIfInBounds_toArray, List.set_cons_zero, List.set_cons_succ]
  refine TillLast.takeT (i := 10) 12 (oi := ⟨some 19, _, _, _, _, _⟩) (v := ?_) rfl (by kernel_rfl) (by kernel_rfl) (by kernel_rfl) (by kernel_rfl) (by kernel_rfl) (by decide) (by kernel_rfl) (fun _ _ _ h => h) (Or.inl ⟨by kernel_rfl, ?_⟩) (by assumption) ?_
  rotate_left
  · (intro w' hSw; (try dsimp only at hSw); go_split_ands; go_simp; first | done | with_reducible rfl)
  try simp only [Act.put, List.setIfInBounds_toArray, List.set_cons_zero, List.set_cons_succ]
  refine TillLast.ready (rs := [5]) (by kernel_rfl) (by simp) ?_
  refine NextAll.cons (o := ⟨some 14, _, _, _, _, _⟩) rfl (fun K hK => ?_) NextAll.nil
  go_simp
  go_at_call 16
  refine (HCA.out _ (Below.refl _ _).drew).mono ?_
  rintro e x4 ⟨l5, rfl, ho5, hba⟩
  obtain ⟨k3, nm3, v3, A3, n3, c3, B3, m3, d3, rv3, rfl⟩ := (ho5 x4 ⟨Nat.le_refl _, fun _ _ _ => rfl⟩).trv.form
  have HT3 := Lib.hid (var_open (ho5 x4 ⟨Nat.le_refl _, fun _ _ _ => rfl⟩).trv)
  have hb4 : Below W.heap.size W x4 := (Below.refl _ _).drew.trans hba
  have HB34 := Lib.hid hb4.size
  refine hK.out _ _ (fun _ => HK.out _ hb4) ?_
  clear hK K hHeld ho5 hba
  try simp only [Act.put, List.setIfInBounds_toArray, List.set_cons_zero, List.set_cons_succ]
  refine TillLast.ready (rs := [11]) (by kernel_rfl) (by simp) ?_
  refine NextAll.cons (o := ⟨some 20, _, _, _, _, _⟩) rfl (fun K hK => ?_) NextAll.nil
  go_simp
  go_at_call 16
  refine (HCB.out _ hb4).mono ?_
  rintro e x5 ⟨l6, rfl, ho6, hba⟩
  obtain ⟨k4, nm4, v4, A4, n4, c4, B4, m4, d4, rv4, rfl⟩ := (ho6 x5 ⟨Nat.le_refl _, fun _ _ _ => rfl⟩).trv.form
  have hb5 : Below W.heap.size W x5 := hb4.trans (hba.mono hb4.size)
  have HO6 := Lib.hid ho6
  have HB5 := Lib.hid hb5
  refine hK.out _ _ (fun _ => HK.out _ hb5) ?_
  clear hK K ho6 hba hb4 hb5
  try simp only [Act.put, List.setIfInBounds_toArray, List.set_cons_zero, List.set_cons_succ]
  refine TillLast.ready (rs := [12]) (by kernel_rfl) (by simp) ?_
  refine NextAll.cons (o := ⟨none, _, _, _, _, _⟩) rfl (fun K hK => ?_) NextAll.nil
  rw [if_pos (by kernel_rfl)]
  refine wp_store_row _ _ _ rfl (w.heap.size + 1) #[.int .i64 k3, .string (ba nm3), .int .i64 v3, .slice A3 n3 c3, .slice B3 m3 d3, .int .i64 rv3] rfl rfl 44 #[.int .i64 k1, .string (ba nm1), .int .i64 v1, .slice A1 n1 c1, .slice B1 m1 d1, .int .i64 rv1] (HKA.out.later HB5.out) (by kernel_rfl) rfl (by simp [Value.oneCell']) ?_
  obtain ⟨x6, hx6⟩ : ∃ X, X = x5.setRow (w.heap.size + 1) #[.int .i64 k3, .string (ba nm3), .int .i64 v3, .slice A3 n3 c3, .slice B3 m3 d3, .int .i64 rv3] := ⟨_, rfl⟩
  rw [← hx6]
  have HX6 := Lib.hid hx6
  clear hx6
  refine hK.out _ _ (fun h => absurd (h.symm.trans (by kernel_rfl : _ = true)) (by decide)) ?_
  clear hK K
  try simp only [Act.put]
  refine TillLast.ready (rs := [13]) (by kernel_rfl) (by simp) ?_
  refine NextAll.cons (o := ⟨none, _, _, _, _, _⟩) rfl (fun K hK => ?_) NextAll.nil
  rw [if_pos (by kernel_rfl)]
  refine wp_store_row _ _ _ rfl (w.heap.size + 1 + 1) #[.int .i64 k4, .string (ba nm4), .int .i64 v4, .slice A4 n4 c4, .slice B4 m4 d4, .int .i64 rv4] rfl rfl 44 #[.int .i64 k2, .string (ba nm2), .int .i64 v2, .slice A2 n2 c2, .slice B2 m2 d2, .int .i64 rv2] (by rw [HX6.out]; exact (Sb.setRow_far (HKB.out.later HB5.out) _ (by omega))) (by kernel_rfl) rfl (by simp [Value.oneCell']) ?_
  obtain ⟨x7, hx7⟩ : ∃ X, X = x6.setRow (w.heap.size + 1 + 1) #[.int .i64 k4, .string (ba nm4), .int .i64 v4, .slice A4 n4 c4, .slice B4 m4 d4, .int .i64 rv4] := ⟨_, rfl⟩
  rw [← hx7]
  have HX7 := Lib.hid hx7
  clear hx7
  refine hK.out _ _ (fun h => absurd (h.symm.trans (by kernel_rfl : _ = true)) (by decide)) ?_
  clear hK K
  try simp only [Act.put]
  refine TillLast.done (by kernel_rfl) ?_ _
  have hf7 : ∀ i, i ≠ w.heap.size + 1 → i ≠ w.heap.size + 1 + 1 → x7.heap[i]? = x5.heap[i]? := fun i h1 h2 => by
    rw [HX7.out, HX6.out]
    exact (Sb.setRow_other _ _ _ _ h2).trans (Sb.setRow_other _ _ _ _ h1)
  have hws := HB.out.size
  have hw5 := HB5.out.size
  have hwz := HWZ.out
  have hz7 : x7.heap.size = x5.heap.size := by rw [HX7.out, HX6.out]; simp [World.setRow]
  have hkx : Lies x7 w.heap.size _ _ := (hf7 _ (by omega) (by omega)).trans (HKX.out.later HB5.out)
  have hka : Lies x7 (w.heap.size + 1) 44 #[.int .i64 k3, .string (ba nm3), .int .i64 v3, .slice A3 n3 c3, .slice B3 m3 d3, .int .i64 rv3] := by rw [HX7.out]; exact Sb.setRow_far (by rw [HX6.out]; exact Sb.setRow_at (HKA.out.later HB5.out) _) _ (by omega)
  have hkb : Lies x7 (w.heap.size + 1 + 1) 44 #[.int .i64 k4, .string (ba nm4), .int .i64 v4, .slice A4 n4 c4, .slice B4 m4 d4, .int .i64 rv4] := by rw [HX7.out]; exact Sb.setRow_at (by rw [HX6.out]; exact Sb.setRow_far (HKB.out.later HB5.out) _ (by omega)) _
  have hb7 : Below w.heap.size w x7 := by
    have h0 := HB.out.trans (HB5.out.mono HB.out.size)
    exact ⟨by rw [HX7.out, HX6.out]; exact h0.os, by rw [HX7.out, HX6.out]; exact h0.tape, by rw [HX7.out, HX6.out]; exact h0.output, by rw [hz7]; exact h0.size, fun i hi => (hf7 i (by omega) (by omega)).trans (h0.block i hi)⟩
  have h34 := HB34.out
  have htb := HO6.out x7 ⟨by omega, fun b hb hn => hf7 b (fun e => hn (by show b < x4.heap.size + 3; omega)) (fun e => hn (by show b < x4.heap.size + 3; omega))⟩
  have ht3 : k3 = 7 ∧ v3 = n := HT3.out
  obtain ⟨rfl, rfl⟩ := ht3
  obtain ⟨rfl, rfl, rfl, gk, ok, cK, nmk, Ak, q, lk, rk, rfl, rfl, hc1, hatk, hrk⟩ := ref_open htb
  have a0 := hka.cell 0
  have a1 := hka.cell 1
  have a2 := hka.cell 2
  have a3 := hka.cell 3
  have a4 := hka.cell 4
  have a5 := hka.cell 5
  have b0 := hkb.cell 0
  have b1 := hkb.cell 1
  have b2 := hkb.cell 2
  have b3 := hkb.cell 3
  have b4 := hkb.cell 4
  have b5 := hkb.cell 5
  have HSM := Lib.hid (same_kindsU 7 nm3 v3 n3 m3 rv3 6 nm4 v4 1 m4 0 A3 c3 B3 d3 (some ⟨gk, ok, none⟩) c4 B4 d4 x7 (by decide))
  have HKX7 := Lib.hid hkx
  have HKA7 := Lib.hid hka
  have HKB7 := Lib.hid hkb
  have HB7 := Lib.hid hb7
  have HATK := Lib.hid hatk
  have HRK := Lib.hid hrk
  clear hf7 hws hw5 hwz hz7 HX6 HX7 HO6 HB5 h34 htb hkx hka hkb hb7 hatk hrk HB34
  go_wp2_with fail
  unfold tyC at HSM
  refine HSM.out.mono ?_
  rintro e x8 ⟨rfl, hb8⟩
  have q0 := (HKX7.out.later hb8).cell 0
  have a0 := (HKA7.out.later hb8).cell 0
  have a2 := (HKA7.out.later hb8).cell 2
  have b0 := (HKB7.out.later hb8).cell 0
  have b1 := (HKB7.out.later hb8).cell 1
  have b2 := (HKB7.out.later hb8).cell 2
  have b3 := (HKB7.out.later hb8).cell 3
  have b4 := (HKB7.out.later hb8).cell 4
  have b5 := (HKB7.out.later hb8).cell 5
  have HBT := Lib.hid (beTypeR_any x8 bu v3 gk ok nm4 nmk v4 Ak c4 q B4 m4 d4 lk rk hc1 (HATK.out.keep (hb8.block _ HATK.out.lt)) (HRK.out.keep (hb8.block _ HATK.out.lt)))
  unfold tyC at HBT
  have HB8 := Lib.hid (HB7.out.trans (hb8.mono HB7.out.size))
  clear hb8 HSM
  go_wp2_with fail
  refine HBT.out.mono ?_
  rintro e x9 ⟨rfl, hb9⟩
  have HB9 := Lib.hid (HB8.out.trans (hb9.mono HB8.out.size))
  clear hb9
  go_wp2
  go_ret
  exact ⟨rfl, HB9.out⟩
end Go.Proofs.YtpbhndmfmnfeoaaGreat
