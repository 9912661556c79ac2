/- unify.Types, as types answers. -/
import Derived.Test.YtpbhndmfmnfeoaaGreatUgX
import Derived.Test.YtpbhndmfmnfeoaaGreatMg33
import Derived.Outline
namespace Go.Proofs.YtpbhndmfmnfeoaaGreat.Ug
open Go.RowKit Si

theorem StrR.keepS {w w' : World} {v : Value} {ls : List Str} (h : StrR w v ls) (hk : ∀ g, liveS w g → w'.heap[g]? = w.heap[g]?) : StrR w' v ls :=
  ⟨h.1.keepS (fun x hx => by obtain ⟨l, _, rfl⟩ := List.mem_map.1 hx; trivial) hk, h.2⟩
theorem TR.keepS {w w' : World} (hk : ∀ g, liveS w g → w'.heap[g]? = w.heap[g]?) {a : Addr} {t : Ty} (h : TR w a t) : TR w' a t := by
  induction h with
  | mk a k nm v kids ls rv kv lv h0 hr hk1 hl hi _ ih =>
    have hlive : liveS w a.block := .inl ⟨⟨a.block, a.off + 0, none⟩, _, rfl, hr 0 _ rfl, trivial⟩
    exact .mk a k nm v kids ls rv kv lv h0 (hr.keep (hk _ hlive)) hk1 (StrR.keepS hl hk) hi ih
theorem TRV.keepS {w w' : World} {t : Ty} {l : List Value} (h : TRV w t l) (hk : ∀ g, liveS w g → w'.heap[g]? = w.heap[g]?) : TRV w' t l := by
  obtain ⟨k, nm, v, kids, ls, rv⟩ := t
  obtain ⟨kv, lv, h1, h2, h3, h4, h5⟩ := h
  exact ⟨kv, lv, h1, h2, StrR.keepS h3 hk, h4, fun i t ht => TR.keepS hk (h5 i t ht)⟩
theorem subT_keepS {w w' : World} {v : Value} {m : Nat} {T : Int → Option Ty} {R : RowF} (h : SubV w v m T R) (hk : ∀ g, liveS w g → w'.heap[g]? = w.heap[g]?) : SubV w' v m T R := by
  obtain ⟨vt, vr, gt, gr, h1, h2, h3, h4, h5⟩ := h
  refine ⟨vt, vr, gt, gr, h1, h2.keepS hk, h3.keepS hk, fun n hn => ?_, fun n hn => ?_⟩
  · have h6 := h4 n hn
    cases hT : T n with
    | none => rw [hT] at h6; exact h6
    | some r =>
      rw [hT] at h6
      obtain ⟨l, h7, h8⟩ := h6
      exact ⟨l, h7, TRV.keepS h8 hk⟩
  · have h6 := h5 n hn
    cases hR : R n with
    | none => rw [hR] at h6; exact h6
    | some r =>
      rw [hR] at h6
      obtain ⟨l, h7, lv, h8, h9, h10⟩ := h6
      exact ⟨l, h7, lv, h8, StrR.keepS h9 hk, h10⟩
/-- What a unifier said is kept where its own block is written, and one that holds lists alone. -/
theorem subT_off {w w' : World} {bu z : Nat} {v : Value} {m : Nat} {T : Int → Option Ty} {R : RowF} {t : TypeId} (h : SubV (blank (fun b => b = bu) w) v m T R) (hz : Lies w z t #[.slice none 0 0, .slice none 0 0]) (hk : ∀ g, g ≠ bu → g ≠ z → g < w.heap.size → w'.heap[g]? = w.heap[g]?) : SubV w' v m T R := by
  refine subT_keepS h fun g hg => ?_
  have hbu : g ≠ bu ∧ g < w.heap.size := by
    rcases hg with ⟨a, u, e, hc, _⟩ | ⟨es, c, hc⟩
    · exact blank_live (.inl ⟨a, u, e, hc⟩)
    · exact blank_live (.inr ⟨es, c, hc⟩)
  have hb := blank_at (X := fun b => b = bu) (w := w) hbu.1
  have hgz : g ≠ z := by
    intro e
    subst e
    rcases hg with ⟨a, u, rfl, hc, hn⟩ | ⟨es, c, hc⟩
    · obtain ⟨g, o, sp⟩ := a
      have h2 := World.cell?_spot (a := ⟨g, o, sp⟩) hc
      subst h2
      have h3 := (World.cell?_of_block (a := ⟨g, o, none⟩) hb).symm.trans hc
      rw [hz.cell o] at h3
      match o, h3 with
      | 0, h3 => simp at h3; subst h3; exact hn
      | 1, h3 => simp at h3; subst h3; exact hn
      | o + 2, h3 => simp at h3
    · rw [hb] at hc
      unfold Lies at hz
      rw [hz] at hc
      cases hc
  rw [hb]
  exact hk g hbu.1 hgz hbu.2
set_option maxRecDepth 100000 in
set_option maxHeartbeats 8000000 in
theorem top_any (w : World) (sv : Value) (m M : Nat) (nx : Int) (hs : SubV w sv m T0 R0) (t u : Ty) (la lb : List Value) (hta : TRV w t la) (htb : TRV w u lb) (T : Int → Option Ty) (F G : Prop)
    (hct : ∀ X bu, Below w.heap.size w X → UnV X bu m R0 nx → Calls Tryz.prog 22 #[.pointer (some ⟨bu, 0, none⟩), .agg la.toArray, .agg lb.toArray, .int .i64 0] X fun e w' => ∃ err, e = .returned (.int .i64 err) ∧ ((err ≠ 0 → err = 5 ∧ F) ∧ (err = 0 → G ∧ UnT w' bu M T R0 nx)) ∧ X.grownBy w' (some bu)) :
    Calls Tryz.prog 13 #[sv, .agg la.toArray, .agg lb.toArray, .int .i64 nx] w fun e w' => ∃ C1 p1 q1 C2 p2 q2 err, e = .returned (.tuple #[.agg #[.slice C1 p1 q1, .slice C2 p2 q2], .int .i64 nx, .int .i64 err]) ∧
      (err ≠ 0 → err = 5 ∧ F ∧ SubV w' (.agg #[.slice C1 p1 q1, .slice C2 p2 q2]) m T0 R0) ∧ (err = 0 → G ∧ SubV w' (.agg #[.slice C1 p1 q1, .slice C2 p2 q2]) M T R0) ∧ Below w.heap.size w w' := by
  obtain ⟨A1, n1, c1, A2, n2, c2, rfl⟩ := hs.shape
  obtain ⟨k1, nm1, v1, A3, n3, c3, B1, m1, d1, rv1, rfl⟩ := hta.form
  obtain ⟨k2, nm2, v2, A4, n4, c4, B2, m2, d2, rv2, rfl⟩ := htb.form
  obtain ⟨W, hW⟩ : ∃ W, W = ((((w.alloc (.cells #[.slice A1 n1 c1, .slice A2 n2 c2] 34)).alloc (.cells #[.int .i64 k1, .string (ba nm1), .int .i64 v1, .slice A3 n3 c3, .slice B1 m1 d1, .int .i64 rv1] 44)).alloc (.cells #[.int .i64 k2, .string (ba nm2), .int .i64 v2, .slice A4 n4 c4, .slice B2 m2 d2, .int .i64 rv2] 44)).alloc (.cells #[.slice none 0 0, .slice none 0 0] 34)).alloc (.cells #[.slice A1 n1 c1, .slice A2 n2 c2, .int .i64 nx] 53) := ⟨_, rfl⟩
  have hb : Below w.heap.size w W := by rw [hW]; exact (((((Below.refl _ w).alloc (Nat.le_refl _) _).alloc (by simp) _).alloc (by simp; omega) _).alloc (by simp; omega) _).alloc (by simp; omega) _
  have ks : Lies W w.heap.size 34 #[.slice A1 n1 c1, .slice A2 n2 c2] := by rw [hW]; exact ((((Lies.new _ _ _).alloc _).alloc _).alloc _).alloc _
  have kr : Lies W (w.heap.size + 3) 34 #[.slice none 0 0, .slice none 0 0] := by rw [hW]; exact (Lies.new' _ _ _ (by simp)).alloc _
  have ku : Lies W (w.heap.size + 4) 53 #[.slice A1 n1 c1, .slice A2 n2 c2, .int .i64 nx] := by rw [hW]; exact Lies.new' _ _ _ (by simp)
  have hwz : W.heap.size = w.heap.size + 5 := by rw [hW]; simp
  have hun : UnV W (w.heap.size + 4) m R0 nx := ⟨_, _, _, _, _, _, ku, hs.keepL fun g hg => by
    have h1 := hg.lt
    rw [blank_at (X := fun b => b = w.heap.size + 4) (show ¬ g = w.heap.size + 4 by omega)]
    exact hb.block g h1⟩
  have HC := Lib.hid (hct W (w.heap.size + 4) hb hun)
  have HS0 := Lib.hid hs
  have HW := Lib.hid hW
  have HB := Lib.hid hb
  have HKS := Lib.hid ks
  have HKR := Lib.hid kr
  have HWZ := Lib.hid hwz
  clear hW hb ks kr ku hwz hun hs hta htb hct
  go_enter Tryz.func13, Tryz.ntmps13
  go_wp2_with fail
  rw [← HW.out]
  refine HC.out.mono ?_
  rintro e w1 ⟨err, rfl, ⟨hf, hgd⟩, hg⟩
  have hwz := HWZ.out
  have h1s : Lies w1 w.heap.size _ _ := (hg.block _ (by omega) (fun e => by have := Option.some.inj e; omega)).trans HKS.out
  have h1r : Lies w1 (w.heap.size + 3) _ _ := (hg.block _ (by omega) (fun e => by have := Option.some.inj e; omega)).trans HKR.out
  have s0 := h1s.cell 0
  have s1 := h1s.cell 1
  have r0 := h1r.cell 0
  have r1 := h1r.cell 1
  have f0 := h1r.free 0
  have f1 := h1r.free 1
  have lr := h1r.lt
  have HR1 := Lib.hid h1r
  have HB1 := Lib.hid (show Below w.heap.size w w1 from HB.out.grown hg HB.out.size (fun j hj => by have := Option.some.inj hj; omega))
  clear hg h1s h1r hwz HC
  by_cases he : err = 0
  case neg =>
    have heb : (err == 0) = false := by simpa using he
    obtain ⟨h5, hF⟩ := hf he
    subst h5
    have HF := Lib.hid hF
    clear hf hgd he hF heb
    go_wp2_with fail
    refine bodyPost_ret (results_ctt rfl _ _ (w.heap.size + 3) 34 _ (0, 0) _ rfl ((HR1.out.set 0 _).set 1 _) Tryz.underlying34 rfl (by kernel_rfl) rfl rfl) rfl ?_
    have hbz := (HB1.out.setCell (p := ⟨w.heap.size + 3, 0, none⟩) (by show w.heap.size ≤ w.heap.size + 3; omega) (.slice A1 n1 c1)).setCell (p := ⟨w.heap.size + 3, 1, none⟩) (by show w.heap.size ≤ w.heap.size + 3; omega) (.slice A2 n2 c2)
    exact ⟨_, _, _, _, _, _, 5, rfl, fun _ => ⟨rfl, HF.out, HS0.out.later hbz⟩, fun h => absurd h (by decide), hbz⟩
  case pos =>
    subst he
    obtain ⟨hG, A5, n5, c5, A6, n6, c6, hl, hsv⟩ := hgd rfl
    have HGG := Lib.hid hG
    clear hf hgd hG
    have HK := Lib.hid (show ∀ X : World, Below w1.heap.size w1 X → (X.cell? ⟨w.heap.size + 4, 0, none⟩ = some (.slice A5 n5 c5) ∧ X.cell? ⟨w.heap.size + 4, 1, none⟩ = some (.slice A6 n6 c6)) ∧ X.cell? ⟨w.heap.size + 4, 2, none⟩ = some (.int .i64 nx) from fun X hx => ⟨⟨(hl.later hx).cell 0, (hl.later hx).cell 1⟩, (hl.later hx).cell 2⟩)
    have HK4 := Lib.hid (show ∀ a b : Value, (((w1.drew.setCell ⟨w.heap.size + 3, 0, none⟩ a).setCell ⟨w.heap.size + 3, 1, none⟩ b).cell? ⟨w.heap.size + 4, 0, none⟩ = some (.slice A5 n5 c5) ∧ ((w1.drew.setCell ⟨w.heap.size + 3, 0, none⟩ a).setCell ⟨w.heap.size + 3, 1, none⟩ b).cell? ⟨w.heap.size + 4, 1, none⟩ = some (.slice A6 n6 c6)) ∧ ((w1.drew.setCell ⟨w.heap.size + 3, 0, none⟩ a).setCell ⟨w.heap.size + 3, 1, none⟩ b).cell? ⟨w.heap.size + 4, 2, none⟩ = some (.int .i64 nx) from fun a b => by
      have j := ((hl.later (Below.refl _ _).drew).far (p := ⟨w.heap.size + 3, 0, none⟩) (by show w.heap.size + 4 ≠ w.heap.size + 3; omega) a).far (p := ⟨w.heap.size + 3, 1, none⟩) (by show w.heap.size + 4 ≠ w.heap.size + 3; omega) b
      exact ⟨⟨j.cell 0, j.cell 1⟩, j.cell 2⟩)
    have HL := Lib.hid hl
    have HSV := Lib.hid hsv
    clear hl hsv
    go_wp2_with fail
    go_region_held3 (fun X => (X.cell? ⟨w.heap.size + 4, 0, none⟩ = some (.slice A5 n5 c5) ∧ X.cell? ⟨w.heap.size + 4, 1, none⟩ = some (.slice A6 n6 c6)) ∧ X.cell? ⟨w.heap.size + 4, 2, none⟩ = some (.int .i64 nx))
      (first | exact HK.out _ (Below.refl _ _).drew | exact HK4.out _ _)
      (fail)
    go_wp2_with fail
    have hd := (Below.refl ((w1.setCell ⟨w.heap.size + 1 + 1 + 1, 0, none⟩ (.slice A5 n5 c5)).setCell ⟨w.heap.size + 1 + 1 + 1, 1, none⟩ (.slice A6 n6 c6)).heap.size ((w1.setCell ⟨w.heap.size + 1 + 1 + 1, 0, none⟩ (.slice A5 n5 c5)).setCell ⟨w.heap.size + 1 + 1 + 1, 1, none⟩ (.slice A6 n6 c6))).drew
    refine bodyPost_ret (results_ctt rfl _ _ (w.heap.size + 3) 34 #[.slice A5 n5 c5, .slice A6 n6 c6] (0, 0) _ rfl (Lies.later ((HR1.out.set 0 (.slice A5 n5 c5)).set 1 (.slice A6 n6 c6)) hd) Tryz.underlying34 rfl (by kernel_rfl) rfl rfl) rfl ?_
    have hbz := (HB1.out.setCell (p := ⟨w.heap.size + 3, 0, none⟩) (by show w.heap.size ≤ w.heap.size + 3; omega) (.slice A5 n5 c5)).setCell (p := ⟨w.heap.size + 3, 1, none⟩) (by show w.heap.size ≤ w.heap.size + 3; omega) (.slice A6 n6 c6)
    refine ⟨_, _, _, _, _, _, 0, rfl, fun h => absurd rfl h, fun _ => ⟨HGG.out, ?_⟩, hbz.drew⟩
    exact subT_off HSV.out HR1.out fun g h1 h2 h3 => (Below.heap_setCell _ ⟨w.heap.size + 3, 1, none⟩ _ g h2).trans (Below.heap_setCell _ ⟨w.heap.size + 3, 0, none⟩ _ g h2)
end Go.Proofs.YtpbhndmfmnfeoaaGreat.Ug
