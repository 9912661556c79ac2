/- What the law asks of a type makes it right and without variables. -/
import Derived.Test.YtpbhndmfmnfeoaaGreatMg39
import Derived.Test.YtpbhndmfmnfeoaaGreatMg41
import Derived.Test.YtpbhndmfmnfeoaaGreatUgVr
import Derived.Test.YtpbhndmfmnfeoaaGreatUnGp
import Derived.Test.YtpbhndmfmnfeoaaGreatMg33
import Derived.Test.YtpbhndmfmnfeoaaGreatMg25
import Derived.Test.YtpbhndmfmnfeoaaGreatMg15
import Derived.Outline
import Derived.Lib.Strings
import Derived.Deep.DeepCutAuto
namespace Go.Proofs.YtpbhndmfmnfeoaaGreat.Ug
open Go.RowKit Si

theorem rise_pairwise : ∀ ls : List Str, RiseS ls → ls.Pairwise fun a b => decide (a ≤ b) = true
  | [], _ => .nil
  | [a], _ => by simp
  | a :: b :: r, h => by
    have h1 : RiseS (b :: r) := fun i x y hx hy => h (i + 1) x y (by simpa using hx) (by simpa using hy)
    have ih := rise_pairwise (b :: r) h1
    have hab : a ≤ b := List.not_lt.1 (h 0 a b rfl rfl)
    refine .cons (fun x hx => ?_) ih
    rcases List.mem_cons.1 hx with rfl | hx
    · simpa using hab
    · have := (List.pairwise_cons.1 ih).1 x hx
      exact decide_eq_true (List.le_trans hab (of_decide_eq_true this))
theorem rise_sort {ls : List Str} (h : RiseS ls) : Rw.sortS ls = ls := by
  unfold Rw.sortS
  exact List.mergeSort_of_pairwise (rise_pairwise ls h)
mutual
theorem gr_of : ∀ (t : Ty) (s : LL2), RightQ t → lbl t → (varsT t s).1 = [] → (varsT t s).2 = [] → gr t
  | .mk k nm v kids ls rv, s, hR, hl, h1, h2 => by
    simp only [RightQ] at hR
    obtain ⟨⟨hr1, hr2, hr3, hr4⟩, hR2⟩ := hR
    rw [lbl] at hl
    simp only [varsT] at h1 h2
    have hk7 : k ≠ 7 := fun hk => by
      have hm := (varsTL_all (P := fun _ => True) k rv true kids (if k = 7 then (withL s.1 v, s.2) else s)).1 v (by rw [if_pos hk]; exact withL_mem _ _)
      rw [h1] at hm
      cases hm
    have hrv : rv = 0 := by
      rcases hr1 with h | ⟨hk, hl2, h0⟩
      · exact h
      · rcases Int.lt_or_eq_of_le h0 with h | h
        · match kids, hl2 with
          | t :: r, _ =>
            simp only [varsTL] at h2
            have hm := (varsTL_all (P := fun _ => True) k rv false r (varsF k rv true (varsT t (if k = 7 then (withL s.1 v, s.2) else s)))).2 rv (by
              unfold varsF
              rw [if_pos ⟨rfl, hk, h⟩]
              exact withL_mem _ _)
            rw [h2] at hm
            cases hm
        · exact h.symm
    rw [gr]
    exact ⟨⟨hk7, hrv, rise_sort hr2, hl.1, hr3, hr4⟩, grL_of kids _ hR2 hl.2 h1 h2⟩
theorem grL_of {k rv : Int} : ∀ (l : List Ty) (s : LL2), RightQL l → lblL l → ∀ {f : Bool}, (varsTL k rv f l s).1 = [] → (varsTL k rv f l s).2 = [] → grL l
  | [], s, _, _, f, _, _ => trivial
  | t :: r, s, hR, hl, f, h1, h2 => by
    simp only [RightQL] at hR
    rw [lblL] at hl
    simp only [varsTL] at h1 h2
    have e1 : (varsT t s).1 = [] := List.eq_nil_iff_forall_not_mem.2 fun x hx => by
      have hm := (varsTL_all (P := fun _ => True) k rv false r (varsF k rv f (varsT t s))).1 x (by rw [varsF_fst]; exact hx)
      rw [h1] at hm
      cases hm
    have e2 : (varsT t s).2 = [] := List.eq_nil_iff_forall_not_mem.2 fun x hx => by
      have hm := (varsTL_all (P := fun _ => True) k rv false r (varsF k rv f (varsT t s))).2 x (by unfold varsF; split; exact withL_sub hx; exact hx)
      rw [h2] at hm
      cases hm
    exact ⟨gr_of t s hR.1 hl.1 e1 e2, grL_of r _ hR.2 hl.2 h1 h2⟩
end
set_option maxRecDepth 100000 in
set_option maxHeartbeats 4000000 in
/-- ground: true only for what has no variables. -/
theorem ground_any (t : Ty) (w : World) (l : List Value) (hsz : t.size ≤ 1000000) (ht : TRV w t l) :
    Calls Tryz.prog 12 #[.agg l.toArray] w fun e w' => ∃ b, e = .returned (.bool b) ∧ (b = true → (varsT t ([], [])).1 = [] ∧ (varsT t ([], [])).2 = []) ∧ Below w.heap.size w w' := by
  obtain ⟨k1, nm1, v1, A1, n1, c1, B1, m1, d1, rv1, rfl⟩ := ht.form
  obtain ⟨W, hW⟩ : ∃ W, W = w.alloc (.cells #[.int .i64 k1, .string (ba nm1), .int .i64 v1, .slice A1 n1 c1, .slice B1 m1 d1, .int .i64 rv1] 44) := ⟨_, rfl⟩
  have hb : Below w.heap.size w W := by rw [hW]; exact below_new w _
  have ka : Lies W w.heap.size 44 #[.int .i64 k1, .string (ba nm1), .int .i64 v1, .slice A1 n1 c1, .slice B1 m1 d1, .int .i64 rv1] := by rw [hW]; exact Lies.new _ _ _
  have HC := Lib.hid (vars_any t W _ hsz (ht.later hb))
  have a0 := ka.cell 0
  have a1 := ka.cell 1
  have a2 := ka.cell 2
  have a3 := ka.cell 3
  have a4 := ka.cell 4
  have a5 := ka.cell 5
  have HW := Lib.hid hW
  have HB := Lib.hid hb
  clear hW hb ka ht
  go_enter Tryz.func12, Tryz.ntmps12
  go_wp2_with fail
  rw [← HW.out]
  go_wp2_with fail
  refine HC.out.mono ?_
  rintro e w1 ⟨va, vb, rfl, hva, hvb, hb1⟩
  obtain ⟨A3, c3, rfl, _, _⟩ := hva.form
  obtain ⟨A4, c4, rfl, _, _⟩ := hvb.form
  have HB1 := Lib.hid (HB.out.trans (hb1.mono HB.out.size))
  obtain ⟨L1, hL1⟩ : ∃ L, L = (varsT t ([], [])).1 := ⟨_, rfl⟩
  obtain ⟨L2, hL2⟩ : ∃ L, L = (varsT t ([], [])).2 := ⟨_, rfl⟩
  rw [← hL1, ← hL2]
  have HLL := Lib.hid (And.intro hL1 hL2)
  clear hva hvb hb1 HC
  clear hL1 hL2
  by_cases h1 : L1.length = 0
  · by_cases h2 : L2.length = 0
    · have HL := Lib.hid (show (varsT t ([], [])).1 = [] ∧ (varsT t ([], [])).2 = [] from ⟨HLL.out.1 ▸ List.eq_nil_of_length_eq_zero h1, HLL.out.2 ▸ List.eq_nil_of_length_eq_zero h2⟩)
      go_wp2_with fail
      go_ret
      exact ⟨true, rfl, fun _ => HL.out, HB1.out⟩
    · have h2i : (((L2.length : Nat) : Int) == 0) = false := by simp only [beq_eq_false_iff_ne, ne_eq]; omega
      go_wp2_with fail
      go_ret
      exact ⟨false, rfl, fun h => by simp at h, HB1.out⟩
  · have h1i : (((L1.length : Nat) : Int) == 0) = false := by simp only [beq_eq_false_iff_ne, ne_eq]; omega
    go_wp2_with fail
    go_ret
    exact ⟨false, rfl, fun h => by simp at h, HB1.out⟩
end Go.Proofs.YtpbhndmfmnfeoaaGreat.Ug

/- Types at a variable and a ref of it. -/
namespace Go.Proofs.YtpbhndmfmnfeoaaGreat
open Go.RowKit

set_option maxRecDepth 100000 in
set_option maxHeartbeats 8000000 in
theorem typesRef_any (w : World) (sv : Value) (m : Nat) (hs : SubV w sv m T0 R0) (hm : m ≤ 900) (n nx : Int) (la lb : List Value) (hta : TRV w (tvT n) la) (htb : TRV w (refT (tvT n)) lb) :
    Calls Tryz.prog 13 #[sv, .agg la.toArray, .agg lb.toArray, .int .i64 nx] w fun e w' => ∃ C1 p1 q1 C2 p2 q2, e = .returned (.tuple #[.agg #[.slice C1 p1 q1, .slice C2 p2 q2], .int .i64 nx, .int .i64 5]) ∧ Below w.heap.size w w' := by
  obtain ⟨C1, p1, q1, C2, p2, q2, rfl⟩ := hs.shape
  obtain ⟨k1, nm1, v1, A1, n1, c1, B1, m1, d1, rv1, rfl⟩ := hta.form
  obtain ⟨k2, nm2, v2, A2, n2, c2, B2, m2, d2, rv2, rfl⟩ := htb.form
  obtain ⟨W, hW⟩ : ∃ W, W = ((((w.alloc (.cells #[.slice C1 p1 q1, .slice C2 p2 q2] 34)).alloc (.cells #[.int .i64 k1, .string (ba nm1), .int .i64 v1, .slice A1 n1 c1, .slice B1 m1 d1, .int .i64 rv1] 44)).alloc (.cells #[.int .i64 k2, .string (ba nm2), .int .i64 v2, .slice A2 n2 c2, .slice B2 m2 d2, .int .i64 rv2] 44)).alloc (.cells #[.slice none 0 0, .slice none 0 0] 34)).alloc (.cells #[.slice C1 p1 q1, .slice C2 p2 q2, .int .i64 nx] 53) := ⟨_, rfl⟩
  have hb : Below w.heap.size w W := by rw [hW]; exact (((((Below.refl _ w).alloc (Nat.le_refl _) _).alloc (by simp) _).alloc (by simp; omega) _).alloc (by simp; omega) _).alloc (by simp; omega) _
  have ks : Lies W w.heap.size 34 #[.slice C1 p1 q1, .slice C2 p2 q2] := by rw [hW]; exact ((((Lies.new _ _ _).alloc _).alloc _).alloc _).alloc _
  have kr : Lies W (w.heap.size + 3) 34 #[.slice none 0 0, .slice none 0 0] := by rw [hW]; exact (Lies.new' _ _ _ (by simp)).alloc _
  have ku : Lies W (w.heap.size + 4) 53 #[.slice C1 p1 q1, .slice C2 p2 q2, .int .i64 nx] := by rw [hW]; exact Lies.new' _ _ _ (by simp)
  have hun : UnV W (w.heap.size + 4) m R0 nx := ⟨_, _, _, _, _, _, ku, hs.keepL fun g hg => by
    have h1 := hg.lt
    rw [blank_at (X := fun b => b = w.heap.size + 4) (show ¬ g = w.heap.size + 4 by omega)]
    exact hb.block g h1⟩
  have HC := Lib.hid (typesVR_any W (w.heap.size + 4) m nx hun hm n 0 _ _ (hta.keep hb.block) (htb.keep hb.block))
  have HW := Lib.hid hW
  have HB := Lib.hid hb
  have HKS := Lib.hid ks
  have HKR := Lib.hid kr
  clear hW hb ks kr ku hun hs hta htb
  go_enter Tryz.func13, Tryz.ntmps13
  go_wp2_with fail
  rw [← HW.out]
  refine HC.out.mono ?_
  rintro e w1 ⟨rfl, hb1⟩
  have h1s := HKS.out.later hb1
  have h1r := HKR.out.later hb1
  have s0 := h1s.cell 0
  have s1 := h1s.cell 1
  have r0 := h1r.cell 0
  have r1 := h1r.cell 1
  have f0 := h1r.free 0
  have f1 := h1r.free 1
  have lr := h1r.lt
  have HR1 := Lib.hid h1r
  have HB1 := Lib.hid (HB.out.trans (hb1.mono HB.out.size))
  clear hb1 h1s h1r HC
  go_wp2_with fail
  refine bodyPost_ret (results_ctt rfl _ _ (w.heap.size + 3) 34 #[.slice C1 p1 q1, .slice C2 p2 q2] (0, 0) _ rfl ((HR1.out.set 0 _).set 1 _) Tryz.underlying34 rfl (by kernel_rfl) rfl rfl) rfl ?_
  exact ⟨_, _, _, _, _, _, rfl, (HB1.out.setCell (p := ⟨w.heap.size + 3, 0, none⟩) (by show w.heap.size ≤ w.heap.size + 3; omega) _).setCell (p := ⟨w.heap.size + 3, 1, none⟩) (by show w.heap.size ≤ w.heap.size + 3; omega) _⟩
end Go.Proofs.YtpbhndmfmnfeoaaGreat

/- The reference's Less: a label less. -/
namespace Go.Proofs.YtpbhndmfmnfeoaaGreat
open Go.RowKit

theorem baU_toList (l : List UInt8) : (ba l).toList = l := by rw [Lib.toList_data]; simp [ba]
theorem erase_at (s : Str) : ∀ (L : List Str) (k : Nat), L[k]? = some s → (∀ j, j < k → L[j]? ≠ some s) → L.erase s = L.take k ++ L.drop (k + 1)
  | [], k, h, _ => by simp at h
  | x :: r, 0, h, _ => by simp at h; subst h; simp
  | x :: r, k + 1, h, hn => by
    have h0 := hn 0 (by omega)
    have hx : ¬ (x == s) = true := by simpa using h0
    rw [List.erase_cons_tail hx, erase_at s r k (by simpa using h) (fun j hj => by have := hn (j + 1) (by omega); simpa using this)]
    simp
set_option maxRecDepth 100000 in
set_option maxHeartbeats 8000000 in
theorem less_any (w : World) (v : Value) (L : List Str) (rv : Int) (s : Str) (hv : StrR w v L) :
    Calls Tryz.prog 9 #[.agg #[v, .int .i64 rv], .string (ba s)] w fun e w' => ∃ v', e = .returned (.tuple #[.agg #[v', .int .i64 rv], .bool (decide (s ∈ L))]) ∧ StrR w' v' (L.erase s) ∧ Below w.heap.size w w' := by
  have hb := hv.2
  have hv0 := hv
  obtain ⟨A, c, rfl, hc, hm⟩ := hv.form
  have hb1 := below_new w (.cells #[.slice A L.length c, .int .i64 rv] 24)
  have HV := Lib.hid (fun (j : Nat) s (h : L[j]? = some s) => hm j s h)
  have HV0 := Lib.hid hv0
  clear hv hm hv0
  obtain ⟨N, hN⟩ : ∃ N, N = L.length := ⟨_, rfl⟩
  have HN := Lib.hid hN
  rw [← hN] at hb hc hb1 HV0 ⊢
  clear hN
  obtain ⟨W, hW⟩ : ∃ W, W = (w.alloc (.cells #[.slice A N c, .int .i64 rv] 24)).alloc (.cells #[.slice none 0 0, .int .i64 0] 24) := ⟨_, rfl⟩
  have hbW : Below w.heap.size w W := by rw [hW]; exact hb1.alloc (by simp) _
  have k0 : Lies W w.heap.size 24 #[.slice A N c, .int .i64 rv] := by rw [hW]; exact (Lies.new _ _ _).alloc _
  have k1 : Lies W (w.heap.size + 1) 24 #[.slice none 0 0, .int .i64 0] := by rw [hW]; exact Lies.new' _ _ _ (by simp)
  have HK := Lib.hid k0
  have HK1 := Lib.hid k1
  have HB := Lib.hid hbW
  have HW := Lib.hid hW
  clear hW hb1 k0 k1 hbW
  obtain ⟨i0, hi, hz0, hz1, hz2⟩ := info_parts info_strU
  go_enter Tryz.func9, Tryz.ntmps9
  go_wp2_with fail
  rw [← HW.out]
  go_loopw [6] (fun i wr => ∃ k : Nat, k ≤ N ∧ i = .int .i64 k ∧ (∀ j, j < k → L[j]? ≠ some s) ∧ Below W.heap.size W wr) (fun i _ => N - (intOf i).toNat)
  case atStart => exact ⟨0, Nat.zero_le _, rfl, fun j hj => by omega, Below.refl _ _⟩
  case round =>
    obtain ⟨k, hk, rfl, hne, hB⟩ := hrel
    have hl := HK.out.later hB
    have c0 := hl.cell 0
    have c1 := hl.cell 1
    have h1 := HK1.out.later hB
    have d0 := h1.cell 0
    have d1 := h1.cell 1
    have f0 := h1.free 0
    have f1 := h1.free 1
    have l1 := h1.lt
    have hBw := HB.out.trans (hB.mono HB.out.size)
    have HH := Lib.hid hl
    have HH1 := Lib.hid h1
    have HNE := Lib.hid hne
    have HBB := Lib.hid hB
    have HBw := Lib.hid hBw
    clear hne hB hl h1
    by_cases hlt : k < N
    · obtain ⟨x, hx⟩ : ∃ x, L[k]? = some x := ⟨_, List.getElem?_eq_getElem (by have := HN.out; omega)⟩
      obtain ⟨g, o, rfl, h6⟩ := HV.out k x hx
      have z6 := (hBw.cell (p := ⟨g, o + k, none⟩) (World.block_lt_of_cell? w _ h6)).trans h6
      have hlti : (k : Int) < (N : Int) := by omega
      have hkc : k < c := by omega
      have HX := Lib.hid hx
      clear h6 hx hBw
      by_cases hs : x = s
      · subst hs
        have hkc1 : k ≤ c := by omega
        have hk1N : k + 1 ≤ N := by omega
        have hk2i : (0 : Int) ≤ (k : Int) + 1 := by omega
        have hk3i : (k : Int) + 1 ≤ (N : Int) := by omega
        obtain ⟨ad2, had2⟩ : ∃ ad : Addr, (if c = k + 1 then some (⟨g, o, none⟩ : Addr) else some ⟨g, o + (k + 1), none⟩) = some ad := by split <;> exact ⟨_, rfl⟩
        have hadd : ∀ (o' j : Nat), (⟨g, o', none⟩ : Addr).add j = ⟨g, o' + j, none⟩ := fun o' j => by unfold Addr.add; split <;> simp_all
        have hread : ∀ X : World, Below w.heap.size w X → ∀ (j : Nat) y, L[j]? = some y → X.cell? ⟨g, o + j, none⟩ = some (.string (ba y)) := fun X hX j y hy => by
          obtain ⟨g', o', he, hc'⟩ := HV.out j y hy
          simp only [Option.some.injEq, Addr.mk.injEq, and_true] at he
          obtain ⟨rfl, rfl⟩ := he
          exact (hX.cell (p := ⟨g, o + j, none⟩) (World.block_lt_of_cell? w _ hc')).trans hc'
        have HNA := Lib.hid (show ∀ (j : Nat) u, ((L.take k).map encS)[j]? = some u → ((wr.alloc (.cells #[] 9)).drew).cell? ((⟨g, o, none⟩ : Addr).add j) = some u from fun j u hu => by
          rw [List.getElem?_map, List.getElem?_take] at hu
          split at hu
          · obtain ⟨y, hy, rfl⟩ := Option.map_eq_some_iff.1 hu
            rw [hadd]
            exact hread _ (HBw.out.trans (((Below.refl wr.heap.size wr).alloc (Nat.le_refl _) _).drew.mono HBw.out.size)) j y hy
          · simp at hu)
        have HNB := Lib.hid (show ∀ X : World, Below wr.heap.size wr X → ∀ (j : Nat) u, ((L.drop (k + 1)).map encS)[j]? = some u → X.cell? (ad2.add j) = some u from fun X hX j u hu => by
          rw [List.getElem?_map, List.getElem?_drop] at hu
          obtain ⟨y, hy, rfl⟩ := Option.map_eq_some_iff.1 hu
          have hlt2 := (List.getElem?_eq_some_iff.1 hy).1
          have hN := HN.out
          rw [if_neg (by omega)] at had2
          injection had2 with had2
          rw [← had2, hadd, show o + (k + 1) + j = o + (k + 1 + j) by omega]
          exact hread X (HBw.out.trans (hX.mono HBw.out.size)) _ y hy)
        have HON := Lib.hid (show ∀ ls : List Str, ∀ u ∈ ls.map encS, u.oneCell' = true from fun ls u hu => by obtain ⟨y, _, rfl⟩ := List.mem_map.1 hu; rfl)
        have HLN := Lib.hid HN.out
        clear hread hadd
        have hk1c : k + 1 ≤ c := by omega
        have hk1 : IntKind.i64.wrap ((k : Int) + 1) = ((k + 1 : Nat) : Int) := by rw [IntWalk.i64_in _ (by omega)]; omega
        have HKS := Lib.hid (show ∀ X : World, Below wr.heap.size wr X → X.cell? ⟨w.heap.size, 0, none⟩ = some (.slice (some ⟨g, o, none⟩) N c) ∧ X.cell? ⟨w.heap.size, 1, none⟩ = some (.int .i64 rv) from fun X hx => ⟨(HH.out.later hx).cell 0, (HH.out.later hx).cell 1⟩)
        have HOW := Lib.hid (show ((wr.alloc (.cells #[] 9)).drew).ownsRow wr.heap.size 9 1 (.slice (some ⟨wr.heap.size, 0, none⟩) 0 0) 0 [] from ⟨rfl, .inr ⟨wr.heap.size, 0, #[], rfl, Nat.le_refl _, heap_alloc_new wr _, Nat.le_refl _, Nat.zero_le _, rfl, rfl⟩⟩)
        go_wp2_with fail
        go_upto_region 5 with fail
        refine wp_region_held_drew (S := fun X => X.cell? ⟨w.heap.size, 0, none⟩ = some (.slice (some ⟨g, o, none⟩) N c) ∧ X.cell? ⟨w.heap.size, 1, none⟩ = some (.int .i64 rv)) (by kernel_rfl) ?_ (fun hHeld => ?_)
        · exact HKS.out _ (Below.refl wr.heap.size wr).drew
        refine wpAnyH_take (i := 1) (oi := ⟨some 22, _, _, _, _, _⟩) (v := ?_) rfl (by kernel_rfl) (by kernel_rfl) (by kernel_rfl) (fun _ _ _ h => h) (Or.inl ⟨by kernel_rfl, ?_⟩) (by assumption) ?_
        rotate_left
        · (intro w' hSw; (try dsimp only at hSw); go_split_ands; go_simp; first | done | with_reducible rfl)
        try simp only [Act.put, List.setIfInBounds_toArray, List.set_cons_zero, List.set_cons_succ]
        refine wpAnyH_take (i := 2) (oi := ⟨some 23, _, _, _, _, _⟩) (v := ?_) rfl (by kernel_rfl) (by kernel_rfl) (by kernel_rfl) (fun _ _ _ h => h) (Or.inl ⟨by kernel_rfl, ?_⟩) (by assumption) ?_
        rotate_left
        · (intro w' hSw; (try dsimp only at hSw); go_split_ands; go_simp; first | done | with_reducible rfl)
        try simp only [Act.put, List.setIfInBounds_toArray, List.set_cons_zero, List.set_cons_succ]
        refine wpAnyH_take (i := 3) (oi := ⟨some 24, _, _, _, _, _⟩) (v := ?_) rfl (by kernel_rfl) (by kernel_rfl) (by kernel_rfl) (fun _ _ _ h => h) (Or.inl ⟨by kernel_rfl, ?_⟩) (by assumption) ?_
        rotate_left
        · (intro w' hSw; (try dsimp only at hSw); go_split_ands; go_simp; first | done | with_reducible rfl)
        try simp only [Act.put, List.setIfInBounds_toArray, List.set_cons_zero, List.set_cons_succ]
        refine wpAnyH_take (i := 4) (oi := ⟨some 25, _, _, _, _, _⟩) (v := ?_) rfl (by kernel_rfl) (by kernel_rfl) (by kernel_rfl) (fun _ _ _ h => h) (Or.inl ⟨by kernel_rfl, ?_⟩) (by assumption) ?_
        rotate_left
        · (intro w' hSw; (try dsimp only at hSw); go_split_ands; go_simp; first | done | with_reducible rfl)
        try simp only [Act.put, List.setIfInBounds_toArray, List.set_cons_zero, List.set_cons_succ]
        refine wpAnyH_take (i := 6) (oi := ⟨some 27, _, _, _, _, _⟩) (v := ?_) rfl (by kernel_rfl) (by kernel_rfl) (by kernel_rfl) (fun _ _ _ h => h) (Or.inl ⟨by kernel_rfl, ?_⟩) (by assumption) ?_
        rotate_left
        · (intro w' hSw; (try dsimp only at hSw); go_split_ands; go_simp; first | done | with_reducible rfl)
        try simp only [Act.put, List.setIfInBounds_toArray, List.set_cons_zero, List.set_cons_succ]
        refine wpAnyH_take (i := 7) (oi := ⟨some 28, _, _, _, _, _⟩) (v := ?_) rfl (by kernel_rfl) (by kernel_rfl) (by kernel_rfl) (fun _ _ _ h => h) (Or.inl ⟨by kernel_rfl, ?_⟩) (by assumption) ?_
        rotate_left
        · (intro w' hSw; (try dsimp only at hSw); go_split_ands; go_simp; first | done | with_reducible rfl)
        try simp only [Act.put, List.setIfInBounds_toArray, List.set_cons_zero, List.set_cons_succ]
        refine wpAnyH_take (i := 8) (oi := ⟨some 29, _, _, _, _, _⟩) (v := ?_) rfl (by kernel_rfl) (by kernel_rfl) (by kernel_rfl) (fun _ _ _ h => h) (Or.inl ⟨by kernel_rfl, ?_⟩) (by assumption) ?_
        rotate_left
        · (intro w' hSw; (try dsimp only at hSw); go_split_ands; go_simp; first | done | with_reducible rfl)
        try simp only [Act.put, List.setIfInBounds_toArray, List.set_cons_zero, List.set_cons_succ]
        refine wpAnyH_take (i := 9) (oi := ⟨some 30, _, _, _, _, _⟩) (v := ?_) rfl (by kernel_rfl) (by kernel_rfl) (by kernel_rfl) (fun _ _ _ h => h) (Or.inl ⟨by kernel_rfl, ?_⟩) (by assumption) ?_
        rotate_left
        · (intro w' hSw; (try dsimp only at hSw); go_split_ands; go_simp; first | done | with_reducible rfl)
        try simp only [Act.put, List.setIfInBounds_toArray, List.set_cons_zero, List.set_cons_succ]
        refine wpAnyH_take (i := 10) (oi := ⟨some 31, _, _, _, _, _⟩) (v := ?_) rfl (by kernel_rfl) (by kernel_rfl) (by kernel_rfl) (fun _ _ _ h => h) (Or.inl ⟨by kernel_rfl, ?_⟩) (by assumption) ?_
        rotate_left
        · (intro w' hSw; (try dsimp only at hSw); go_split_ands; go_simp; first | done | with_reducible rfl)
        try simp only [Act.put, List.setIfInBounds_toArray, List.set_cons_zero, List.set_cons_succ]
        refine wpAnyH_take (i := 12) (oi := ⟨some 33, _, _, _, _, _⟩) (v := ?_) rfl (by kernel_rfl) (by kernel_rfl) (by kernel_rfl) (fun _ _ _ h => h) (Or.inl ⟨by kernel_rfl, ?_⟩) (by assumption) ?_
        rotate_left
        · (intro w' hSw; (try dsimp only at hSw); go_split_ands; go_simp; first | done | with_reducible rfl)
        try simp only [Act.put, List.setIfInBounds_toArray, List.set_cons_zero, List.set_cons_succ]
        refine wpAnyH_take (i := 13) (oi := ⟨some 34, _, _, _, _, _⟩) (v := ?_) rfl (by kernel_rfl) (by kernel_rfl) (by kernel_rfl) (fun _ _ _ h => h) (Or.inl ⟨by kernel_rfl, ?_⟩) (by assumption) ?_
        rotate_left
        · (intro w' hSw; (try dsimp only at hSw); go_split_ands; go_simp; first | done | with_reducible rfl)
        try simp only [Act.put, List.setIfInBounds_toArray, List.set_cons_zero, List.set_cons_succ]
        refine wpAnyH_ready (rs := [0]) (by kernel_rfl) (by simp) ?_
        refine AllReadyH.cons (o := ⟨some 21, _, _, _, _, _⟩) rfl (fun K hK => ?_) (AllReadyH.nil)
        go_simp
        refine hK.out _ _ ?_ (fun hHeld => ?_)
        · exact HKS.out _ ((Below.refl wr.heap.size wr).alloc (Nat.le_refl _) _).drew
        clear hK K
        try simp only [Act.put, List.setIfInBounds_toArray, List.set_cons_zero, List.set_cons_succ]
        refine wpAnyH_ready (rs := [5]) (by kernel_rfl) (by simp) ?_
        refine AllReadyH.cons (o := ⟨some 26, _, _, _, _, _⟩) rfl (fun K hK => ?_) (AllReadyH.nil)
        rw [if_pos (by kernel_rfl)]
        refine wp_append_at (.tmp 21) (.tmp 25) 22 rfl wr.heap.size 9 i0 (.string ⟨#[]⟩) 1 16 Tryz.underlying22 hi hz0 hz1 hz2 rfl (by decide) (.slice (some ⟨wr.heap.size, 0, none⟩) 0 0) 0 [] rfl (HOW.out) ⟨g, o, none⟩ k c ((L.take k).map encS) rfl (by have := HLN.out; rw [List.length_map, List.length_take]; omega) HNA.out (HON.out _) (by unfold maxLen; omega) (by omega) (by simp) rfl ?_
        intro v5 x5 hown5 hgr5 _
        obtain ⟨A5, n5, c5, rfl⟩ := own_slice hown5
        have hb5 : Below wr.heap.size wr x5 := Below.grown ((Below.refl wr.heap.size wr).alloc (Nat.le_refl _) (.cells #[] 9)).drew hgr5 (by simp) (fun j hj => by have h0 : wr.heap.size = j := (by simpa [Value.ownBlock] using hj); omega)
        have HO5 := Lib.hid hown5
        clear hown5 hgr5
        refine hK.out _ _ ?_ (fun hHeld => ?_)
        · exact HKS.out _ hb5
        clear hK K
        try simp only [Act.put, List.setIfInBounds_toArray, List.set_cons_zero, List.set_cons_succ]
        refine wpAnyH_ready (rs := [11]) (by kernel_rfl) (by simp) ?_
        refine AllReadyH.cons (o := ⟨some 32, _, _, _, _, _⟩) rfl (fun K hK => ?_) (AllReadyH.nil)
        rw [if_pos (by kernel_rfl)]
        refine wp_append_at (.tmp 26) (.tmp 31) 22 rfl wr.heap.size 9 i0 (.string ⟨#[]⟩) 1 16 Tryz.underlying22 hi hz0 hz1 hz2 rfl (by decide) (.slice A5 n5 c5) _ _ rfl HO5.out _ (N - (k + 1)) (c - (k + 1)) ((L.drop (k + 1)).map encS) rfl (by have := HLN.out; rw [List.length_map, List.length_drop]; omega) (HNB.out x5 hb5) (HON.out _) (by unfold maxLen; omega) (by omega) hb5.size rfl ?_
        intro v6 x6 hown6 hgr6 _
        obtain ⟨A6, n6, c6, rfl⟩ := own_slice hown6
        have hb6 : Below wr.heap.size wr x6 := Below.grown hb5 hgr6 hb5.size (fun j hj => (own_block HO5.out j hj).1)
        have HO6 := Lib.hid hown6
        clear hown6 hgr6
        refine hK.out _ _ ?_ (fun hHeld => ?_)
        · exact HKS.out _ hb6
        clear hK K
        try simp only [Act.put, List.setIfInBounds_toArray, List.set_cons_zero, List.set_cons_succ]
        refine wpAnyH_take (i := 14) (oi := ⟨some 35, _, _, _, _, _⟩) (v := ?_) rfl (by kernel_rfl) (by kernel_rfl) (by kernel_rfl) (fun _ _ _ h => h) (Or.inl ⟨by kernel_rfl, ?_⟩) (by assumption) ?_
        rotate_left
        · (intro w' hSw; (try dsimp only at hSw); go_split_ands; go_simp; first | done | with_reducible rfl)
        try simp only [Act.put, List.setIfInBounds_toArray, List.set_cons_zero, List.set_cons_succ]
        refine wpAnyH_ready (rs := [15]) (by kernel_rfl) (by simp) ?_
        refine AllReadyH.cons (o := ⟨none, _, _, _, _, _⟩) rfl (fun K hK => ?_) (AllReadyH.nil)
        rw [if_pos (by kernel_rfl)]
        refine wp_store_row _ _ _ rfl (w.heap.size + 1) #[.slice A6 n6 c6, .int .i64 rv] rfl rfl 24 #[.slice none 0 0, .int .i64 0] (HH1.out.later hb6) (by kernel_rfl) rfl (by simp [Value.oneCell']) ?_
        obtain ⟨x7, hx7⟩ : ∃ X, X = x6.setRow (w.heap.size + 1) #[.slice A6 n6 c6, .int .i64 rv] := ⟨_, rfl⟩
        rw [← hx7]
        have HX7 := Lib.hid hx7
        have h7k : x7.cell? ⟨w.heap.size, 0, none⟩ = some (.slice (some ⟨g, o, none⟩) N c) ∧ x7.cell? ⟨w.heap.size, 1, none⟩ = some (.int .i64 rv) := by
          have j := Sb.setRow_far (HH.out.later hb6) #[.slice A6 n6 c6, .int .i64 rv] (g' := w.heap.size + 1) (by omega)
          rw [← hx7] at j
          exact ⟨j.cell 0, j.cell 1⟩
        clear hx7
        refine hK.out _ _ ?_ (fun hHeld => ?_)
        · exact h7k
        clear hK K
        try simp only [Act.put]
        refine wpAnyH_ready (rs := [16]) (by kernel_rfl) (by simp) ?_
        refine AllReadyH.cons (o := ⟨some 5, _, _, _, _, _⟩) rfl (fun K hK => ?_) (AllReadyH.nil)
        go_simp
        refine hK.out _ _ ?_ (fun hHeld => ?_)
        · exact h7k
        clear hK K
        try simp only [Act.put, List.setIfInBounds_toArray, List.set_cons_zero, List.set_cons_succ]
        refine wpAnyH_done (by kernel_rfl) ?_ _
        go_wp2_with fail
        have hbz : Below w.heap.size w x7 := by
          rw [HX7.out]
          exact Sb.below_setRow (HBw.out.trans (hb6.mono HBw.out.size)) (by omega) _
        have nz : Lies x7 (w.heap.size + 1) 24 #[.slice A6 n6 c6, .int .i64 rv] := by rw [HX7.out]; exact Sb.setRow_at (HH1.out.later hb6) _
        refine bodyPost_ret (Sb.results_ct rfl _ _ (w.heap.size + 1) 24 #[.slice A6 n6 c6, .int .i64 rv] (0, 0) _ rfl nz Tryz.underlying24 rfl (by kernel_rfl) rfl) rfl ?_
        have hmem : x ∈ L := List.mem_of_getElem? HX.out
        have hdec : decide (x ∈ L) = true := decide_eq_true hmem
        refine ⟨.slice A6 n6 c6, by rw [hdec]; rfl, ?_, hbz⟩
        rw [erase_at x L k HX.out HNE.out]
        have hlen : (L.take k ++ L.drop (k + 1)).length = k + (N - (k + 1)) := by have := HLN.out; rw [List.length_append, List.length_take, List.length_drop]; omega
        have ho : OwnL x7 wr.heap.size (.slice A6 n6 c6) (L.take k ++ L.drop (k + 1)) := by
          unfold OwnL
          rw [hlen, List.map_append]
          have h0 := HO6.out
          rw [Nat.zero_add, List.nil_append] at h0
          exact own_same h0 fun i h1 _ => by rw [HX7.out]; exact Sb.setRow_other _ _ _ _ (by omega)
        exact ho.str (by omega)
      · have hsb : ((ba x).toList == (ba s).toList) = false := by simpa [baU_toList] using hs
        go_wp2_with fail
        go_roundw
        case rel => exact ⟨k + 1, by omega, by simp, fun j hj => by
          by_cases hjk : j = k
          · subst hjk; rw [HX.out]; simpa using hs
          · exact HNE.out j (by omega), HBB.out⟩
        case measure => simp [intOf]; omega
    · obtain rfl : k = N := by omega
      have hno : s ∉ L := fun hm => by
        obtain ⟨j, hj, he⟩ := List.getElem_of_mem hm
        exact HNE.out j (by have := HN.out; omega) (by rw [List.getElem?_eq_getElem hj, he])
      have HNO := Lib.hid hno
      have hdec : decide (s ∈ L) = false := decide_eq_false hno
      have HDEC := Lib.hid hdec
      clear hno hdec hBw
      go_wp2_with fail
      refine bodyPost_ret (Sb.results_ct rfl _ _ (w.heap.size + 1) 24 #[.slice A k c, .int .i64 rv] (0, 0) _ rfl ((HH1.out.set 0 (.slice A k c)).set 1 (.int .i64 rv)) Tryz.underlying24 rfl (by kernel_rfl) rfl) rfl ?_
      have hbz := (HBw.out.setCell (p := ⟨w.heap.size + 1, 0, none⟩) (by show w.heap.size ≤ w.heap.size + 1; omega) (.slice A k c)).setCell (p := ⟨w.heap.size + 1, 1, none⟩) (by show w.heap.size ≤ w.heap.size + 1; omega) (.int .i64 rv)
      refine ⟨.slice A k c, by rw [HDEC.out]; rfl, ?_, hbz⟩
      rw [List.erase_of_not_mem HNO.out]
      exact HV0.out.keep hbz.block
end Go.Proofs.YtpbhndmfmnfeoaaGreat

/- shown: what must be in any case. -/
namespace Go.Proofs.YtpbhndmfmnfeoaaGreat
open Go.RowKit

set_option maxRecDepth 100000 in
theorem tvar_any (w : World) (n : Int) : Calls Tryz.prog 14 #[.int .i64 n] w fun e w' => e = .returned (.agg #[.int .i64 7, .string ⟨#[]⟩, .int .i64 n, .slice none 0 0, .slice none 0 0, .int .i64 0]) ∧ Below w.heap.size w w' := by
  go_enter Tryz.func14, Tryz.ntmps14
  go_wp2
  refine bodyPost_ret (results_cell_row rfl _ _ w.heap.size 44 _ (0, 0) _ rfl (Lies.new w 44 #[.int .i64 7, .string ⟨#[]⟩, .int .i64 n, .slice none 0 0, .slice none 0 0, .int .i64 0]) Tryz.underlying44 rfl (by kernel_rfl)) rfl ?_
  exact ⟨rfl, below_new w _⟩
theorem tv_trv (w : World) (n : Int) (hn : i64ok n) : TRV w (tvT n) [.int .i64 7, .string ⟨#[]⟩, .int .i64 n, .slice none 0 0, .slice none 0 0, .int .i64 0] :=
  ⟨.slice none 0 0, .slice none 0 0, rfl, .inl ⟨rfl, rfl⟩, strR_nil w, ⟨i64ok_of (by omega) (by omega), hn, i64ok_of (by omega) (by omega)⟩, fun i t h => by simp at h⟩
theorem ref_trv {w : World} {g : Nat} {n : Int} (hn : i64ok n) (h : Lies w g 44 #[.int .i64 7, .string ⟨#[]⟩, .int .i64 n, .slice none 0 0, .slice none 0 0, .int .i64 0]) :
    TRV w (refT (tvT n)) [.int .i64 6, .string ⟨#[]⟩, .int .i64 0, .slice (some ⟨g, 0, none⟩) 1 1, .slice none 0 0, .int .i64 0] :=
  ⟨.slice (some ⟨g, 0, none⟩) 1 1, .slice none 0 0, rfl, .inr ⟨_, 1, rfl, Nat.le_refl _, fun _ => rfl⟩, strR_nil w, ⟨i64ok_of (by omega) (by omega), i64ok_of (by omega) (by omega), i64ok_of (by omega) (by omega)⟩, fun i t ht => by
    match i, ht with
    | 0, ht =>
      have e : t = tvT n := by simpa using ht.symm
      subst e
      refine (tv_trv w n hn).at_ rfl fun j u hu => ?_
      show w.cell? ⟨g, 0 + 0 * 6 + j, none⟩ = some u
      rw [show 0 + 0 * 6 + j = j by omega, h.cell]
      simpa using hu
    | i + 1, ht => simp at ht⟩
theorem rowsRes_shown : rowsRes [[69]] [[70]] 1 2 9 = some (thenF (setF R0 1 ([[70]], 9)) (setF R0 2 ([[69]], 9)), 10) := by
  have h1 : moreL [[69]] [[70]] = [[69]] := by decide
  have h2 : moreL [[70]] [[69]] = [[70]] := by decide
  unfold rowsRes
  rw [h1, h2]
  simp
theorem str_one {w : World} {g : Nat} {s : Str} (h : w.cell? ⟨g, 0, none⟩ = some (.string (ba s))) : StrR w (.slice (some ⟨g, 0, none⟩) 1 1) [s] :=
  ⟨.inr ⟨_, 1, rfl, Nat.le_refl _, fun j q hq => by
    have hj : j = 0 := by have := (List.getElem?_eq_some_iff.1 hq).1; simp at this; exact this
    subst hj
    obtain rfl : encS s = q := by simpa using hq
    simpa [Addr.add, encS] using h⟩, by simp⟩
set_option maxRecDepth 100000 in
set_option maxHeartbeats 8000000 in
theorem shown7_any (w : World) : Calls Tryz.prog 5 #[] w fun e w' => e = .returned (.bool true) ∧ Below w.heap.size w w' := by
  have hn0 := none_any w
  unfold noneV at hn0
  have HN0 := Lib.hid hn0
  clear hn0
  go_enter Tryz.func5, Tryz.ntmps5
  go_wp2_with fail
  refine HN0.out.mono ?_
  rintro e w1 ⟨rfl, hb1⟩
  obtain ⟨W, hW⟩ : ∃ W, W = (w1.alloc (.cells #[.string ⟨#[69]⟩] 9)).alloc (.cells #[.string ⟨#[70]⟩] 9) := ⟨_, rfl⟩
  have hb : Below w1.heap.size w1 W := by rw [hW]; exact ((Below.refl _ w1).alloc (Nat.le_refl _) _).alloc (by simp) _
  have kE : Lies W w1.heap.size 9 #[.string ⟨#[69]⟩] := by rw [hW]; exact (Lies.new _ _ _).alloc _
  have kF : Lies W (w1.heap.size + 1) 9 #[.string ⟨#[70]⟩] := by rw [hW]; exact Lies.new' _ _ _ (by simp)
  have hR := unifyRows_any W noneV 0 (SubV.none W 0) (by omega) _ _ [[69]] [[70]] 1 2 9 (str_one (s := [69]) (kE.cell 0)) (str_one (s := [70]) (kF.cell 0)) (by intro s hs; simp at hs; subst hs; unfold maxLen; decide) (by intro s hs; simp at hs; subst hs; unfold maxLen; decide) (i64ok_of (by omega) (by omega)) (i64ok_of (by omega) (by omega)) (by omega) (by omega) (by omega)
  rw [rowsRes_shown] at hR
  unfold noneV at hR
  have HR := Lib.hid hR
  have HW := Lib.hid hW
  have HB := Lib.hid (hb1.trans (hb.mono hb1.size))
  clear hb1 hW hb kE kF hR HN0
  go_wp2_with fail
  rw [← HW.out]
  refine HR.out.mono ?_
  rintro e w2 ⟨⟨A1, n1, c1, A2, n2, c2, k, err, rfl, rfl, rfl, hsv⟩, hb2⟩
  obtain ⟨w3, hw3⟩ : ∃ X, X = w2.alloc (.cells #[.slice A1 n1 c1, .slice A2 n2 c2] 34) := ⟨_, rfl⟩
  have hb3 : Below w2.heap.size w2 w3 := by rw [hw3]; exact below_new _ _
  have hrow := row0 (hsv.later hb3) (by omega) 1 (i64ok_of (by omega) (by omega))
  have HROW := Lib.hid hrow
  have HW3 := Lib.hid hw3
  have HB3 := Lib.hid ((HB.out.trans (hb2.mono HB.out.size)).trans (hb3.mono (by have := HB.out.size; have := hb2.size; omega)))
  clear hb2 hw3 hb3 hrow hsv HR
  go_wp2_with fail
  rw [← HW3.out]
  refine HROW.out.mono ?_
  rintro e w4 ⟨A5, n5, c5, rv5, rfl, hrw, hb4⟩
  have hget : ((thenF (setF R0 1 ([[70]], 9)) (setF R0 2 ([[69]], 9))) 1).getD zRw = ([[70]], 9) := rfl
  have hsome : ((thenF (setF R0 1 ([[70]], 9)) (setF R0 2 ([[69]], 9))) 1).isSome = true := rfl
  rw [hget] at hrw
  obtain ⟨lv, he, hst, _⟩ := hrw
  simp only [List.cons.injEq, Value.int.injEq, true_and, and_true] at he
  obtain ⟨rfl, rfl⟩ := he
  obtain ⟨A', c', he, hle, hm⟩ := hst.form
  simp only [Value.slice.injEq, List.length_cons, List.length_nil] at he
  obtain ⟨rfl, rfl, rfl⟩ := he
  obtain ⟨gF, oF, rfl, hcF⟩ := hm 0 [70] rfl
  have HCF := Lib.hid hcF
  have HB4 := Lib.hid (HB3.out.trans (hb4.mono HB3.out.size))
  have hle1 : 0 < c5 := by have h : 1 ≤ c5 := (by simpa using hle); omega
  have HSO := Lib.hid hsome
  clear hb4 hget hsome hst hm hle hcF HROW
  rw [HSO.out]
  go_wp2_with fail
  obtain ⟨w5, hw5⟩ : ∃ X, X = w4.alloc (.cells #[.slice (some ⟨gF, oF, none⟩) 1 c5, .int .i64 9] 24) := ⟨_, rfl⟩
  have hb5 : Below w4.heap.size w4 w5 := by rw [hw5]; exact below_new _ _
  have kr : Lies w5 w4.heap.size 24 #[.slice (some ⟨gF, oF, none⟩) 1 c5, .int .i64 9] := by rw [hw5]; exact Lies.new _ _ _
  have hcF5 := (hb5.cell (p := ⟨gF, oF + 0, none⟩) (World.block_lt_of_cell? w4 _ HCF.out)).trans HCF.out
  have hn5 := none_any w5
  unfold noneV at hn5
  have HN5 := Lib.hid hn5
  have HKR := Lib.hid kr
  have HCF5 := Lib.hid hcF5
  have HB5 := Lib.hid (HB4.out.trans (hb5.mono HB4.out.size))
  rw [← hw5]
  clear hw5 hb5 kr hcF5 hn5 HCF
  refine HN5.out.mono ?_
  rintro e w6 ⟨rfl, hb6⟩
  have HT6 := Lib.hid (tvar_any w6 1)
  have HKR := Lib.hid (HKR.out.later hb6)
  have HCF5 := Lib.hid ((hb6.cell (p := ⟨gF, oF + 0, none⟩) (World.block_lt_of_cell? w5 _ HCF5.out)).trans HCF5.out)
  have HB6 := Lib.hid (HB5.out.trans (hb6.mono HB5.out.size))
  clear hb6 HN5
  go_wp2_with fail
  refine HT6.out.mono ?_
  rintro e w7 ⟨rfl, hb7⟩
  have HT7 := Lib.hid (tvar_any w7 1)
  have HKR := Lib.hid (HKR.out.later hb7)
  have HCF5 := Lib.hid ((hb7.cell (p := ⟨gF, oF + 0, none⟩) (World.block_lt_of_cell? w6 _ HCF5.out)).trans HCF5.out)
  have HB7 := Lib.hid (HB6.out.trans (hb7.mono HB6.out.size))
  clear hb7 HT6
  go_wp2_with fail
  refine HT7.out.mono ?_
  rintro e w8 ⟨rfl, hb8⟩
  have HKR := Lib.hid (HKR.out.later hb8)
  have HCF5 := Lib.hid ((hb8.cell (p := ⟨gF, oF + 0, none⟩) (World.block_lt_of_cell? w7 _ HCF5.out)).trans HCF5.out)
  have HB8 := Lib.hid (HB7.out.trans (hb8.mono HB7.out.size))
  obtain ⟨w9, hw9⟩ : ∃ X, X = w8.alloc (.cells #[.int .i64 7, .string ⟨#[]⟩, .int .i64 1, .slice none 0 0, .slice none 0 0, .int .i64 0] 44) := ⟨_, rfl⟩
  have hb9 : Below w8.heap.size w8 w9 := by rw [hw9]; exact below_new _ _
  have kt : Lies w9 w8.heap.size 44 #[.int .i64 7, .string ⟨#[]⟩, .int .i64 1, .slice none 0 0, .slice none 0 0, .int .i64 0] := by rw [hw9]; exact Lies.new _ _ _
  have hty := typesRef_any w9 noneV 0 (SubV.none w9 0) (by omega) 1 9 _ _ (tv_trv w9 1 (i64ok_of (by omega) (by omega))) (ref_trv (i64ok_of (by omega) (by omega)) kt)
  unfold noneV at hty
  have HTY := Lib.hid hty
  have HW9 := Lib.hid hw9
  have HKR := Lib.hid (HKR.out.later hb9)
  have HCF5 := Lib.hid ((hb9.cell (p := ⟨gF, oF + 0, none⟩) (World.block_lt_of_cell? w8 _ HCF5.out)).trans HCF5.out)
  have HB9 := Lib.hid (HB8.out.trans (hb9.mono HB8.out.size))
  clear hb8 hb9 hw9 kt hty HT7
  go_wp2_with fail
  rw [← HW9.out]
  refine HTY.out.mono ?_
  rintro e w10 ⟨E1, p1, q1, E2, p2, q2, rfl, hb10⟩
  have hkr := HKR.out.later hb10
  have hcf := (hb10.cell (p := ⟨gF, oF + 0, none⟩) (World.block_lt_of_cell? w9 _ HCF5.out)).trans HCF5.out
  obtain ⟨w11, hw11⟩ : ∃ X, X = w10.alloc (.cells #[.slice E1 p1 q1, .slice E2 p2 q2] 34) := ⟨_, rfl⟩
  have hb11 : Below w10.heap.size w10 w11 := by rw [hw11]; exact below_new _ _
  have hkr2 := hkr.later hb11
  have x0 := hkr2.cell 0
  have x1 := hkr2.cell 1
  have x2 := (hb11.cell (p := ⟨gF, oF + 0, none⟩) (World.block_lt_of_cell? w10 _ hcf)).trans hcf
  rw [Nat.add_zero] at x2
  have hF : ((ba [70]).toList == [70]) = true := by rw [baU_toList]; rfl
  have HB11 := Lib.hid ((HB9.out.trans (hb10.mono HB9.out.size)).trans (hb11.mono (by have := HB9.out.size; have := hb10.size; omega)))
  have HW11 := Lib.hid hw11
  rw [hw11] at x0 x1 x2
  clear hb10 hkr hcf hb11 hkr2 hw11 HTY
  go_wp2_with fail
  go_ret
  exact ⟨rfl, by have h := HB11.out; rw [HW11.out] at h; exact h⟩
end Go.Proofs.YtpbhndmfmnfeoaaGreat
