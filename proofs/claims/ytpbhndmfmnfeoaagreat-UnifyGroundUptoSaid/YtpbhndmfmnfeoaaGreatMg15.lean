/- Type, Row: what a substitution says. -/
import Derived.Test.YtpbhndmfmnfeoaaGreatMg14
import Derived.Test.YtpbhndmfmnfeoaaGreatMg12
import Derived.Outline
namespace Go.Proofs.YtpbhndmfmnfeoaaGreat
open Go.RowKit

def zTy : Ty := .mk 0 [] 0 [] [] 0
def zRw : List Str × Int := ([], 0)
set_option maxRecDepth 100000 in
set_option maxHeartbeats 8000000 in
theorem type_any (w : World) (sv : Value) (m : Nat) (T : Int → Option Ty) (R : Int → Option (List Str × Int)) (hs : SubV w sv m T R) (hm : m ≤ 1000000) (n : Int) (hn : i64ok n) (hsz : ∀ t, T n = some t → t.size ≤ 1000) :
    Calls Tryz.prog 80 #[sv, .int .i64 n] w fun e w' => ∃ l, e = .returned (.tuple #[.agg l.toArray, .bool (T n).isSome]) ∧ TRV w' ((T n).getD zTy) l ∧ Below w.heap.size w w' := by
  obtain ⟨vt, vr, gt, gr, rfl, hst, hsr, htm, hrm⟩ := hs
  have hx : ∃ k nm v A3 n3 c3 A4 n4 c4 rv, (lookV (.agg zeroT) (gt n) = .agg #[.int .i64 k, .string (ba nm), .int .i64 v, .slice A3 n3 c3, .slice A4 n4 c4, .int .i64 rv] ∧ (gt n).isSome = (T n).isSome) ∧ TRV w ((T n).getD zTy) [.int .i64 k, .string (ba nm), .int .i64 v, .slice A3 n3 c3, .slice A4 n4 c4, .int .i64 rv] ∧ ((T n).getD zTy).size ≤ 1000 := by
    have h1 := htm n hn
    cases hT : T n with
    | none =>
      rw [hT] at h1
      rw [h1]
      exact ⟨0, [], 0, none, 0, 0, none, 0, 0, 0, ⟨rfl, rfl⟩, ⟨_, _, rfl, .inl ⟨rfl, rfl⟩, ⟨.inl ⟨rfl, rfl⟩, Nat.zero_le _⟩, ⟨i64ok_of (by omega) (by omega), i64ok_of (by omega) (by omega), i64ok_of (by omega) (by omega)⟩, fun i t h => by simp at h⟩, by show zTy.size ≤ 1000; simp [zTy, Ty.size, Ty.sizeL]⟩
    | some t =>
      rw [hT] at h1
      obtain ⟨l, h2, h3⟩ := h1
      have h4 := hsz t hT
      obtain ⟨k, nm, v, kids, ls, rv⟩ := t
      obtain ⟨A3, n3, c3, A4, n4, c4, rfl⟩ := h3.shape
      rw [h2]
      exact ⟨k, nm, v, A3, n3, c3, A4, n4, c4, rv, ⟨rfl, rfl⟩, h3, h4⟩
  obtain ⟨k, nm, v, A3, n3, c3, A4, n4, c4, rv, hlook, htr, hz⟩ := hx
  obtain ⟨t', ht'⟩ : ∃ t', t' = (T n).getD zTy := ⟨_, rfl⟩
  rw [← ht'] at htr hz ⊢
  obtain ⟨f, hf⟩ : ∃ f, f = (T n).isSome := ⟨_, rfl⟩
  rw [← hf] at hlook ⊢
  have hco := fun w7 (hb : Below w.heap.size w w7) => copied_any w7 t' _ (htr.later hb) hz
  clear ht' hf htr hz htm hrm hsz
  obtain ⟨A1, n1, c1, rfl⟩ := hst.one
  obtain ⟨A2, n2, c2, rfl⟩ := hsr.one
  obtain ⟨W, hW⟩ : ∃ W, W = (w.alloc (.cells #[.slice A1 n1 c1, .slice A2 n2 c2] 34)).alloc (.cells zeroT 44) := ⟨_, rfl⟩
  have hb : Below w.heap.size w W := by rw [hW]; exact ((Below.refl _ w).alloc (Nat.le_refl _) _).alloc (by simp) _
  have k1 : Lies W (w.heap.size + 1) 44 zeroT := by rw [hW]; exact Lies.new' _ _ _ (by simp)
  have hof := ofT_said W (.slice A1 n1 c1) m gt n (hst.keep hb.block) hn hm
  rw [hlook.1, hlook.2] at hof
  have HO := Lib.hid hof
  have HW := Lib.hid hW
  have HB := Lib.hid hb
  have HK1 := Lib.hid k1
  have HCO := Lib.hid hco
  have hlt1 := k1.lt
  clear hof hW hb k1 hco hlook hst hsr
  unfold zeroT at HW HK1
  go_enter Tryz.func80, Tryz.ntmps80
  go_wp2_with fail
  rw [← HW.out]
  refine HO.out.mono ?_
  rintro e w1 ⟨rfl, hb1⟩
  have hb1w : Below w.heap.size w w1 := HB.out.trans (hb1.mono HB.out.size)
  have hb2 : Below w1.heap.size w1 (w1.alloc (.cells #[.int .i64 k, .string (ba nm), .int .i64 v, .slice A3 n3 c3, .slice A4 n4 c4, .int .i64 rv] 44)) := below_new w1 _
  have hb2w := hb1w.trans (hb2.mono hb1w.size)
  have HB1 := Lib.hid hb1
  have HB2 := Lib.hid hb2
  have HB2w := Lib.hid hb2w
  have HB1w := Lib.hid hb1w
  clear hb1 hb2 hb2w hb1w
  go_wp2_with fail
  refine (HCO.out _ HB2w.out).mono ?_
  rintro e w3 ⟨l', rfl, hfr, hb3⟩
  obtain ⟨k', nm', v', kids, ls, rv'⟩ := t'
  obtain ⟨A5, n5, c5, A6, n6, c6, rfl⟩ := (hfr w3 ⟨Nat.le_refl _, fun _ _ _ => rfl⟩).trv.shape
  have HFR := Lib.hid hfr
  clear hfr
  unfold tyC
  have hbW : Below W.heap.size W w3 := (HB1.out.trans (HB2.out.mono HB1.out.size)).trans (hb3.mono (Nat.le_trans HB1.out.size HB2.out.size))
  have m1 := HK1.out.later hbW
  have mc0 := m1.cell 0
  have mf0 := m1.free 0
  have mc1 := m1.cell 1
  have mf1 := m1.free 1
  have mc2 := m1.cell 2
  have mf2 := m1.free 2
  have mc3 := m1.cell 3
  have mf3 := m1.free 3
  have mc4 := m1.cell 4
  have mf4 := m1.free 4
  have mc5 := m1.cell 5
  have mf5 := m1.free 5
  have ml := m1.lt
  have HM1 := Lib.hid m1
  have HB3 := Lib.hid hb3
  have HBW := Lib.hid hbW
  clear m1 hb3 hbW
  go_wp2_with fail
  have q8 : Below (w.heap.size + 1) w3 ((((((w3.setCell ⟨w.heap.size + 1, 0, none⟩ (.int .i64 k')).setCell ⟨w.heap.size + 1, 1, none⟩ (.string (ba nm'))).setCell ⟨w.heap.size + 1, 2, none⟩ (.int .i64 v')).setCell ⟨w.heap.size + 1, 3, none⟩ (.slice A5 n5 c5)).setCell ⟨w.heap.size + 1, 4, none⟩ (.slice A6 n6 c6)).setCell ⟨w.heap.size + 1, 5, none⟩ (.int .i64 rv')) := ((((((Below.refl _ _).setCell (p := ⟨w.heap.size + 1, 0, none⟩) (Nat.le_refl _) _).setCell (p := ⟨w.heap.size + 1, 1, none⟩) (Nat.le_refl _) _).setCell (p := ⟨w.heap.size + 1, 2, none⟩) (Nat.le_refl _) _).setCell (p := ⟨w.heap.size + 1, 3, none⟩) (Nat.le_refl _) _).setCell (p := ⟨w.heap.size + 1, 4, none⟩) (Nat.le_refl _) _).setCell (p := ⟨w.heap.size + 1, 5, none⟩) (Nat.le_refl _) _
  have hkw : ∀ (i : Nat), i ≠ w.heap.size + 1 → ((((((w3.setCell ⟨w.heap.size + 1, 0, none⟩ (.int .i64 k')).setCell ⟨w.heap.size + 1, 1, none⟩ (.string (ba nm'))).setCell ⟨w.heap.size + 1, 2, none⟩ (.int .i64 v')).setCell ⟨w.heap.size + 1, 3, none⟩ (.slice A5 n5 c5)).setCell ⟨w.heap.size + 1, 4, none⟩ (.slice A6 n6 c6)).setCell ⟨w.heap.size + 1, 5, none⟩ (.int .i64 rv')).heap[i]? = w3.heap[i]? := fun i h => ((Below.heap_setCell _ ⟨w.heap.size + 1, 5, none⟩ _ i h).trans ((Below.heap_setCell _ ⟨w.heap.size + 1, 4, none⟩ _ i h).trans ((Below.heap_setCell _ ⟨w.heap.size + 1, 3, none⟩ _ i h).trans ((Below.heap_setCell _ ⟨w.heap.size + 1, 2, none⟩ _ i h).trans ((Below.heap_setCell _ ⟨w.heap.size + 1, 1, none⟩ _ i h).trans (Below.heap_setCell _ ⟨w.heap.size + 1, 0, none⟩ _ i h))))))
  refine bodyPost_ret (v := .tuple #[.agg #[.int .i64 k', .string (ba nm'), .int .i64 v', .slice A5 n5 c5, .slice A6 n6 c6, .int .i64 rv'], .bool f]) (Sb.results_ct rfl _ _ (w.heap.size + 1) 44 _ (0, 0) _ rfl (((((((HM1.out.set 0 (.int .i64 k')).set 1 (.string (ba nm'))).set 2 (.int .i64 v')).set 3 (.slice A5 n5 c5)).set 4 (.slice A6 n6 c6)).set 5 (.int .i64 rv'))) Tryz.underlying44 rfl size_T (by kernel_rfl)) rfl ?_
  have hbX : Below w.heap.size w ((((((w3.setCell ⟨w.heap.size + 1, 0, none⟩ (.int .i64 k')).setCell ⟨w.heap.size + 1, 1, none⟩ (.string (ba nm'))).setCell ⟨w.heap.size + 1, 2, none⟩ (.int .i64 v')).setCell ⟨w.heap.size + 1, 3, none⟩ (.slice A5 n5 c5)).setCell ⟨w.heap.size + 1, 4, none⟩ (.slice A6 n6 c6)).setCell ⟨w.heap.size + 1, 5, none⟩ (.int .i64 rv')) := (HB.out.trans (HBW.out.mono HB.out.size)).trans (q8.mono (Nat.le_succ _))
  refine ⟨[.int .i64 k', .string (ba nm'), .int .i64 v', .slice A5 n5 c5, .slice A6 n6 c6, .int .i64 rv'], rfl, TFV.trv (HFR.out _ ⟨q8.size, fun b hb hn => hkw b fun e => hn ?_⟩), hbX⟩
  have h1 := HB1.out.size
  have h2 := HB2.out.size
  show b < (w1.alloc _).heap.size + 2
  omega
end Go.Proofs.YtpbhndmfmnfeoaaGreat

/- Type, Row: what a substitution says. -/
namespace Go.Proofs.YtpbhndmfmnfeoaaGreat
open Go.RowKit

set_option maxRecDepth 100000 in
set_option maxHeartbeats 8000000 in
theorem row_any (w : World) (sv : Value) (m : Nat) (T : Int → Option Ty) (R : Int → Option (List Str × Int)) (hs : SubV w sv m T R) (hm : m ≤ 1000000) (n : Int) (hn : i64ok n) :
    Calls Tryz.prog 17 #[sv, .int .i64 n] w fun e w' => ∃ l, e = .returned (.tuple #[.agg l.toArray, .bool (R n).isSome]) ∧ RwV w' ((R n).getD zRw) l ∧ Below w.heap.size w w' := by
  obtain ⟨vt, vr, gt, gr, rfl, hst, hsr, htm, hrm⟩ := hs
  have hx : ∃ A4 n4 c4 rv ls, (lookV (.agg zeroR) (gr n) = .agg #[.slice A4 n4 c4, .int .i64 rv] ∧ (gr n).isSome = (R n).isSome) ∧ StrR w (.slice A4 n4 c4) ls ∧ i64ok rv ∧ (R n).getD zRw = (ls, rv) := by
    have h1 := hrm n hn
    cases hT : R n with
    | none =>
      rw [hT] at h1
      rw [h1]
      exact ⟨none, 0, 0, 0, [], ⟨rfl, rfl⟩, ⟨.inl ⟨rfl, rfl⟩, Nat.zero_le _⟩, i64ok_of (by omega) (by omega), rfl⟩
    | some r =>
      rw [hT] at h1
      obtain ⟨l, h2, lv, rfl, h3, h4⟩ := h1
      obtain ⟨A4, n4, c4, rfl⟩ : ∃ A n c, lv = .slice A n c := by rcases h3.1 with ⟨rfl, _⟩ | ⟨_, _, rfl, _⟩ <;> exact ⟨_, _, _, rfl⟩
      rw [h2]
      exact ⟨A4, n4, c4, r.2, r.1, ⟨rfl, rfl⟩, h3, h4, rfl⟩
  obtain ⟨A4, n4, c4, rv, ls, hlook, htr, hz, hr'⟩ := hx
  rw [hr']
  obtain ⟨f, hf⟩ : ∃ f, f = (R n).isSome := ⟨_, rfl⟩
  rw [← hf] at hlook ⊢
  have HLN := Lib.hid htr.2
  have HRV := Lib.hid hz
  have hco := fun w7 (hb : Below w.heap.size w w7) => copiedRow_any (.slice A4 n4 c4) ls rv w7 (htr.keep hb.block)
  clear hr' hf htr hz htm hrm
  obtain ⟨A1, n1, c1, rfl⟩ := hst.one
  obtain ⟨A2, n2, c2, rfl⟩ := hsr.one
  obtain ⟨W, hW⟩ : ∃ W, W = (w.alloc (.cells #[.slice A1 n1 c1, .slice A2 n2 c2] 34)).alloc (.cells zeroR 24) := ⟨_, rfl⟩
  have hb : Below w.heap.size w W := by rw [hW]; exact ((Below.refl _ w).alloc (Nat.le_refl _) _).alloc (by simp) _
  have k1 : Lies W (w.heap.size + 1) 24 zeroR := by rw [hW]; exact Lies.new' _ _ _ (by simp)
  have hof := ofR_said W (.slice A2 n2 c2) m gr n (hsr.keep hb.block) hn hm
  rw [hlook.1, hlook.2] at hof
  have HO := Lib.hid hof
  have HW := Lib.hid hW
  have HB := Lib.hid hb
  have HK1 := Lib.hid k1
  have HCO := Lib.hid hco
  have hlt1 := k1.lt
  clear hof hW hb k1 hco hlook hst hsr
  unfold zeroR at HW HK1
  go_enter Tryz.func17, Tryz.ntmps17
  go_wp2_with fail
  rw [← HW.out]
  refine HO.out.mono ?_
  rintro e w1 ⟨rfl, hb1⟩
  have hb1w : Below w.heap.size w w1 := HB.out.trans (hb1.mono HB.out.size)
  have hb2 : Below w1.heap.size w1 (w1.alloc (.cells #[.slice A4 n4 c4, .int .i64 rv] 24)) := below_new w1 _
  have hb2w := hb1w.trans (hb2.mono hb1w.size)
  have HB1 := Lib.hid hb1
  have HB2 := Lib.hid hb2
  have HB2w := Lib.hid hb2w
  have HB1w := Lib.hid hb1w
  clear hb1 hb2 hb2w hb1w
  go_wp2_with fail
  refine (HCO.out _ HB2w.out).mono ?_
  rintro e w3 ⟨v2, rfl, hfr, hb3⟩
  have HFR := Lib.hid hfr
  unfold OwnL at hfr
  obtain ⟨A6, n6, c6, rfl⟩ := own_slice hfr
  clear hfr
  have hbW : Below W.heap.size W w3 := (HB1.out.trans (HB2.out.mono HB1.out.size)).trans (hb3.mono (Nat.le_trans HB1.out.size HB2.out.size))
  have m1 := HK1.out.later hbW
  have mc0 := m1.cell 0
  have mf0 := m1.free 0
  have mc1 := m1.cell 1
  have mf1 := m1.free 1
  have ml := m1.lt
  have HM1 := Lib.hid m1
  have HB3 := Lib.hid hb3
  have HBW := Lib.hid hbW
  clear m1 hb3 hbW
  go_wp2_with fail
  have q8 : Below (w.heap.size + 1) w3 ((w3.setCell ⟨w.heap.size + 1, 0, none⟩ (.slice A6 n6 c6)).setCell ⟨w.heap.size + 1, 1, none⟩ (.int .i64 rv)) := ((Below.refl _ _).setCell (p := ⟨w.heap.size + 1, 0, none⟩) (Nat.le_refl _) _).setCell (p := ⟨w.heap.size + 1, 1, none⟩) (Nat.le_refl _) _
  have hkw : ∀ (i : Nat), i ≠ w.heap.size + 1 → ((w3.setCell ⟨w.heap.size + 1, 0, none⟩ (.slice A6 n6 c6)).setCell ⟨w.heap.size + 1, 1, none⟩ (.int .i64 rv)).heap[i]? = w3.heap[i]? := fun i h => ((Below.heap_setCell _ ⟨w.heap.size + 1, 1, none⟩ _ i h).trans (Below.heap_setCell _ ⟨w.heap.size + 1, 0, none⟩ _ i h))
  refine bodyPost_ret (v := .tuple #[.agg #[.slice A6 n6 c6, .int .i64 rv], .bool f]) (Sb.results_ct rfl _ _ (w.heap.size + 1) 24 _ (0, 0) _ rfl (((HM1.out.set 0 (.slice A6 n6 c6)).set 1 (.int .i64 rv))) Tryz.underlying24 rfl size_R (by kernel_rfl)) rfl ?_
  have hbX : Below w.heap.size w ((w3.setCell ⟨w.heap.size + 1, 0, none⟩ (.slice A6 n6 c6)).setCell ⟨w.heap.size + 1, 1, none⟩ (.int .i64 rv)) := (HB.out.trans (HBW.out.mono HB.out.size)).trans (q8.mono (Nat.le_succ _))
  refine ⟨[.slice A6 n6 c6, .int .i64 rv], rfl, ⟨_, rfl, ?_, HRV.out⟩, hbX⟩
  have h1 := HB1.out.size
  have h2 := HB2.out.size
  have h3 : OwnL ((w3.setCell ⟨w.heap.size + 1, 0, none⟩ (.slice A6 n6 c6)).setCell ⟨w.heap.size + 1, 1, none⟩ (.int .i64 rv)) (w1.alloc (.cells #[.slice A4 n4 c4, .int .i64 rv] 24)).heap.size (.slice A6 n6 c6) ls := own_same HFR.out fun b hb hlt => hkw b fun e => by omega
  exact h3.str HLN.out
end Go.Proofs.YtpbhndmfmnfeoaaGreat

/- The reference's SameRow and Same on what reads alike. -/
namespace Go.Proofs.YtpbhndmfmnfeoaaGreat
open Go.RowKit

theorem StrR.form {w : World} {v : Value} {ls : List Str} (h : StrR w v ls) : ∃ A c, v = .slice A ls.length c ∧ ls.length ≤ c ∧ ∀ (j : Nat) s, ls[j]? = some s → ∃ g o, A = some ⟨g, o, none⟩ ∧ w.cell? ⟨g, o + j, none⟩ = some (.string (ba s)) := by
  rcases h.1 with ⟨rfl, e⟩ | ⟨ad, c, rfl, h1, h2⟩
  · obtain rfl : ls = [] := by simpa using e
    exact ⟨_, _, rfl, Nat.le_refl _, fun j q hq => by simp at hq⟩
  · simp only [List.length_map] at h1 ⊢
    refine ⟨_, c, rfl, h1, fun j s hs => ?_⟩
    obtain ⟨g, o, sp⟩ := ad
    have hq : (ls.map encS)[j]? = some (.string (ba s)) := by rw [List.getElem?_map, hs]; rfl
    have h3 := h2 j _ hq
    have hsp2 : sp = none := by
      have hlt := (List.getElem?_eq_some_iff.1 hq).1
      have h4 := h2 0 ((ls.map encS)[0]'(by omega)) (List.getElem?_eq_getElem (by omega))
      exact World.cell?_spot (a := ⟨g, o, sp⟩) h4
    subst hsp2
    refine ⟨g, o, rfl, ?_⟩
    have e : (⟨g, o, none⟩ : Addr).add j = ⟨g, o + j, none⟩ := by unfold Addr.add; split <;> simp_all
    rw [← e]
    exact h3
set_option maxRecDepth 100000 in
set_option maxHeartbeats 4000000 in
theorem rsame_any (v u : Value) (L : List Str) (rv : Int) (w : World) (hv : StrR w v L) (hu : StrR w u L) :
    Calls Tryz.prog 23 #[.agg #[v, .int .i64 rv], .agg #[u, .int .i64 rv]] w fun e w' => e = .returned (.bool true) ∧ Below w.heap.size w w' := by
  have hb := hv.2
  obtain ⟨A, c, rfl, hc, hm⟩ := hv.form
  obtain ⟨B, d, rfl, hd, hm2⟩ := hu.form
  have hb1 := below_new w (.cells #[.slice A L.length c, .int .i64 rv] 24)
  have hb2 := hb1.alloc (by simp) (.cells #[.slice B L.length d, .int .i64 rv] 24)
  have HV := Lib.hid (fun (j : Nat) s (h : L[j]? = some s) => hm j s h)
  have HU := Lib.hid (fun (j : Nat) s (h : L[j]? = some s) => hm2 j s h)
  clear hv hu hm hm2
  obtain ⟨N, hN⟩ : ∃ N, N = L.length := ⟨_, rfl⟩
  have HN := Lib.hid hN
  rw [← hN] at hb hc hd hb2 ⊢
  clear hN
  go_enter Tryz.func23, Tryz.ntmps23
  have n0 := (Lies.new w 24 #[.slice A N c, .int .i64 rv]).alloc (.cells #[.slice B N d, .int .i64 rv] 24)
  have n1 := Lies.new' (w.alloc (.cells #[.slice A N c, .int .i64 rv] 24)) 24 #[.slice B N d, .int .i64 rv] (N := w.heap.size + 1) (by simp)
  have HN0 := Lib.hid n0
  have HN1 := Lib.hid n1
  have HB2 := Lib.hid hb2
  clear n0 n1 hb1 hb2
  go_wp2
  go_loopw [5] (fun i wr => ∃ k : Nat, k ≤ N ∧ i = .int .i64 k ∧ Below ((w.alloc (.cells #[.slice A N c, .int .i64 rv] 24)).alloc (.cells #[.slice B N d, .int .i64 rv] 24)).heap.size ((w.alloc (.cells #[.slice A N c, .int .i64 rv] 24)).alloc (.cells #[.slice B N d, .int .i64 rv] 24)) wr) (fun i _ => N - (intOf i).toNat)
  case atStart => exact ⟨0, Nat.zero_le _, rfl, Below.refl _ _⟩
  case round =>
    obtain ⟨k, hk, rfl, hB⟩ := hrel
    have c0 := (HN0.out.later hB).cell 0
    have c1 := (HN1.out.later hB).cell 0
    have hBw := HB2.out.trans (hB.mono HB2.out.size)
    by_cases hlt : k < N
    · obtain ⟨x, hx⟩ : ∃ x, L[k]? = some x := ⟨_, List.getElem?_eq_getElem (by have := HN.out; omega)⟩
      obtain ⟨g, o, rfl, h6⟩ := HV.out k x hx
      obtain ⟨g2, o2, rfl, h9⟩ := HU.out k x hx
      have z6 := (hBw.cell (p := ⟨g, o + k, none⟩) (World.block_lt_of_cell? w _ h6)).trans h6
      have z9 := (hBw.cell (p := ⟨g2, o2 + k, none⟩) (World.block_lt_of_cell? w _ h9)).trans h9
      have hS : wr.cell? ⟨w.heap.size, 0, none⟩ = some (.slice (some ⟨g, o, none⟩) N c) ∧ wr.cell? ⟨w.heap.size + 1, 0, none⟩ = some (.slice (some ⟨g2, o2, none⟩) N d) ∧ wr.cell? ⟨g, o + k, none⟩ = some (.string (ba x)) ∧ wr.cell? ⟨g2, o2 + k, none⟩ = some (.string (ba x)) := ⟨c0, c1, z6, z9⟩
      have HS := Lib.hid hS
      have HBr := Lib.hid hB
      have hlti : (k : Int) < (N : Int) := by omega
      have hkc : k < c := by omega
      have hkd : k < d := by omega
      clear h6 h9 hx hS hB c1 z6 z9 hBw
      go_wp2
      go_region_held3 (fun w' => w'.cell? ⟨w.heap.size, 0, none⟩ = some (.slice (some ⟨g, o, none⟩) N c) ∧ w'.cell? ⟨w.heap.size + 1, 0, none⟩ = some (.slice (some ⟨g2, o2, none⟩) N d) ∧ w'.cell? ⟨g, o + k, none⟩ = some (.string (ba x)) ∧ w'.cell? ⟨g2, o2 + k, none⟩ = some (.string (ba x)))
        (exact HS.out) (fail)
      go_wp2
      go_roundw
      case rel => exact ⟨k + 1, by omega, by go_num, HBr.out.drew⟩
      case measure => simp [intOf]; omega
    · obtain rfl : k = N := by omega
      go_wp2
      go_ret
      exact ⟨rfl, hBw⟩
theorem sizeL_len : ∀ l : List Ty, l.length ≤ Ty.sizeL l
  | [] => Nat.le_refl _
  | t :: l => by have := sizeL_len l; have := Ty.size_pos t; simp only [Ty.sizeL, List.length_cons]; omega
set_option maxRecDepth 100000 in
set_option maxHeartbeats 8000000 in
theorem same_in : ∀ (N : Nat) (t : Ty) (w : World) (l1 l2 : List Value), t.size ≤ N → N ≤ 1000000 → TRV w t l1 → TRV w t l2 →
    Calls Tryz.prog 15 #[.agg l1.toArray, .agg l2.toArray] w fun e w' => e = .returned (.bool true) ∧ Below w.heap.size w w'
  | 0, t, _, _, _, h, _, _, _ => by obtain ⟨k, nm, v, kids, ls, rv⟩ := t; simp only [Ty.size] at h; omega
  | N + 1, t, w, l1, l2, hsz, hN, ht, hu => by
    have ih := fun t w l1 l2 h => same_in N t w l1 l2 h (by omega)
    obtain ⟨k, nm, v, kids, ls, rv⟩ := t
    obtain ⟨kv, lv, rfl, hkv, hlv, hok, hks⟩ := ht
    obtain ⟨kv2, lv2, rfl, hkv2, hlv2, hok2, hks2⟩ := hu
    have hrs := fun w7 (hb : Below w.heap.size w w7) => rsame_any lv lv2 ls rv w7 (hlv.keep hb.block) (hlv2.keep hb.block)
    obtain ⟨A3, c3, rfl, hc3, ha3⟩ := hkv.form
    obtain ⟨B3, d3, rfl, hd3, hb3⟩ := hkv2.form
    obtain ⟨A4, m4, c4, rfl⟩ : ∃ A n c, lv = .slice A n c := by rcases hlv.1 with ⟨rfl, _⟩ | ⟨_, _, rfl, _⟩ <;> exact ⟨_, _, _, rfl⟩
    obtain ⟨B4, e4, d4, rfl⟩ : ∃ A n c, lv2 = .slice A n c := by rcases hlv2.1 with ⟨rfl, _⟩ | ⟨_, _, rfl, _⟩ <;> exact ⟨_, _, _, rfl⟩
    have hkl : kids.length ≤ N := by have := sizeL_len kids; simp only [Ty.size] at hsz; omega
    have hkz : ∀ t ∈ kids, t.size ≤ N := fun t ht => by have := size_kid ht; simp only [Ty.size] at hsz; omega
    obtain ⟨n, hn⟩ : ∃ n, n = kids.length := ⟨_, rfl⟩
    rw [← hn] at hc3 ha3 hd3 hb3 hkl hks hks2 ⊢
    unfold tyC
    obtain ⟨W, hW⟩ : ∃ W, W = (w.alloc (.cells #[.int .i64 k, .string (ba nm), .int .i64 v, .slice A3 n c3, .slice A4 m4 c4, .int .i64 rv] 44)).alloc (.cells #[.int .i64 k, .string (ba nm), .int .i64 v, .slice B3 n d3, .slice B4 e4 d4, .int .i64 rv] 44) := ⟨_, rfl⟩
    have hb : Below w.heap.size w W := by rw [hW]; exact ((Below.refl _ w).alloc (Nat.le_refl _) _).alloc (by simp) _
    have k0 : Lies W w.heap.size 44 #[.int .i64 k, .string (ba nm), .int .i64 v, .slice A3 n c3, .slice A4 m4 c4, .int .i64 rv] := by rw [hW]; exact (Lies.new _ _ _).alloc _
    have k1 : Lies W (w.heap.size + 1) 44 #[.int .i64 k, .string (ba nm), .int .i64 v, .slice B3 n d3, .slice B4 e4 d4, .int .i64 rv] := by rw [hW]; exact Lies.new' _ _ _ (by simp)
    have HW := Lib.hid hW
    have HB := Lib.hid hb
    have HK0 := Lib.hid k0
    have HK1 := Lib.hid k1
    have HRS := Lib.hid hrs
    have HKS := Lib.hid hks
    have HKS2 := Lib.hid hks2
    have HA3 := Lib.hid ha3
    have HB3 := Lib.hid hb3
    have HN := Lib.hid hn
    have HKZ := Lib.hid hkz
    have IH := Lib.hid ih
    clear hW hb hrs hks hks2 ha3 hb3 hn hkz ih hkv hkv2 hlv hlv2 hok hok2 hsz k0 k1
    go_enter Tryz.func15, Tryz.ntmps15
    go_wp2_with fail
    rw [← HW.out]
    refine (HRS.out W HB.out).mono ?_
    rintro e w1 ⟨rfl, hb1⟩
    have hBw1 := HB.out.trans (hb1.mono HB.out.size)
    have m0 := HK0.out.later hb1
    have m1 := HK1.out.later hb1
    have a0 := m0.cell 0
    have b0 := m1.cell 0
    have a1 := m0.cell 1
    have b1 := m1.cell 1
    have a2 := m0.cell 2
    have b2 := m1.cell 2
    have a3 := m0.cell 3
    have b3 := m1.cell 3
    have HBw1 := Lib.hid hBw1
    have HB1 := Lib.hid hb1
    clear m0 m1 hBw1 hb1
    go_wp2_with fail
    clear a0 b0 a1 b1 a2 b2 a3 b3
    go_loopw [6] (fun i wr => ∃ q : Nat, q ≤ n ∧ i = .int .i64 q ∧ Below w.heap.size w wr ∧ Below W.heap.size W wr) (fun i _ => n - (intOf i).toNat)
    case atStart => exact ⟨0, Nat.zero_le _, rfl, HBw1.out, HB1.out⟩
    case round =>
      obtain ⟨q, hq, rfl, hBw, hBW⟩ := hrel
      obtain ⟨wo, rfl⟩ : ∃ wo, wo = wr := ⟨_, rfl⟩
      have x3 := (HK0.out.later hBW).cell 3
      have y3 := (HK1.out.later hBW).cell 3
      by_cases hlt : q < n
      · obtain ⟨t, ht⟩ : ∃ t, kids[q]? = some t := ⟨_, List.getElem?_eq_getElem (by have := HN.out; omega)⟩
        obtain ⟨g, o, rfl⟩ := HA3.out (by omega)
        obtain ⟨g2, o2, rfl⟩ := HB3.out (by omega)
        obtain ⟨l, _, hr, htv⟩ := (HKS.out q t ht).open
        obtain ⟨l', _, hr2, htv2⟩ := (HKS2.out q t ht).open
        have hgl := reads_block hr (by rw [htv.len]; decide)
        have hgl2 := reads_block hr2 (by rw [htv2.len]; decide)
        have htm : t ∈ kids := List.mem_of_getElem? ht
        have hcl := fun w7 (hb : Below w.heap.size w w7) => IH.out t w7 l l' (HKZ.out t htm) (htv.later hb) (htv2.later hb)
        obtain ⟨k', nm', v2, kids', ls', rv'⟩ := t
        obtain ⟨kv', lv', rfl, hkv', hlv', _, _⟩ := htv
        obtain ⟨kv2', lv2', rfl, hkv2', hlv2', _, _⟩ := htv2
        obtain ⟨A5, c5, rfl, _, _⟩ := hkv'.form
        obtain ⟨B5, d5, rfl, _, _⟩ := hkv2'.form
        obtain ⟨A6, n6, c6, rfl⟩ : ∃ A n c, lv' = .slice A n c := by rcases hlv'.1 with ⟨rfl, _⟩ | ⟨_, _, rfl, _⟩ <;> exact ⟨_, _, _, rfl⟩
        obtain ⟨B6, m6, d6, rfl⟩ : ∃ A n c, lv2' = .slice A n c := by rcases hlv2'.1 with ⟨rfl, _⟩ | ⟨_, _, rfl, _⟩ <;> exact ⟨_, _, _, rfl⟩
        have hr' : ReadsAt wo (kidAt (.slice (some ⟨g, o, none⟩) n c3) q) (tyC k' nm' v2 (.slice A5 kids'.length c5) (.slice A6 n6 c6) rv') := hr.keep (hBw.block _ hgl)
        have hr2' : ReadsAt wo (kidAt (.slice (some ⟨g2, o2, none⟩) n d3) q) (tyC k' nm' v2 (.slice B5 kids'.length d5) (.slice B6 m6 d6) rv') := hr2.keep (hBw.block _ hgl2)
        obtain ⟨y0, y1, y2, y33, y4, y5⟩ := reads6 (b := g) (o := o + q * 6) hr'
        obtain ⟨z0, z1, z2, z3, z4, z5⟩ := reads6 (b := g2) (o := o2 + q * 6) hr2'
        have hgw : g < wo.heap.size := Nat.lt_of_lt_of_le hgl hBw.size
        have hgw2 : g2 < wo.heap.size := Nat.lt_of_lt_of_le hgl2 hBw.size
        have hw0 : w.heap.size < wo.heap.size := (HK0.out.later hBW).lt
        have hw1 : w.heap.size + 1 < wo.heap.size := (HK1.out.later hBW).lt
        have hk : ∀ V : World, Below wo.heap.size wo V → (V.cell? ⟨w.heap.size, 3, none⟩ = some (.slice (some ⟨g, o, none⟩) n c3) ∧ V.cell? ⟨w.heap.size + 1, 3, none⟩ = some (.slice (some ⟨g2, o2, none⟩) n d3)) ∧ (V.cell? ⟨g, o + q * 6, none⟩ = some (.int .i64 k') ∧ V.cell? ⟨g, o + q * 6 + 1, none⟩ = some (.string (ba nm')) ∧ V.cell? ⟨g, o + q * 6 + 2, none⟩ = some (.int .i64 v2) ∧ V.cell? ⟨g, o + q * 6 + 3, none⟩ = some (.slice A5 kids'.length c5) ∧ V.cell? ⟨g, o + q * 6 + 4, none⟩ = some (.slice A6 n6 c6) ∧ V.cell? ⟨g, o + q * 6 + 5, none⟩ = some (.int .i64 rv')) ∧ (V.cell? ⟨g2, o2 + q * 6, none⟩ = some (.int .i64 k') ∧ V.cell? ⟨g2, o2 + q * 6 + 1, none⟩ = some (.string (ba nm')) ∧ V.cell? ⟨g2, o2 + q * 6 + 2, none⟩ = some (.int .i64 v2) ∧ V.cell? ⟨g2, o2 + q * 6 + 3, none⟩ = some (.slice B5 kids'.length d5) ∧ V.cell? ⟨g2, o2 + q * 6 + 4, none⟩ = some (.slice B6 m6 d6) ∧ V.cell? ⟨g2, o2 + q * 6 + 5, none⟩ = some (.int .i64 rv')) := fun V hb => by
          refine ⟨⟨?_, ?_⟩, ⟨?_, ?_, ?_, ?_, ?_, ?_⟩, ⟨?_, ?_, ?_, ?_, ?_, ?_⟩⟩
          · exact (hb.cell (p := ⟨w.heap.size, 3, none⟩) hw0).trans x3
          · exact (hb.cell (p := ⟨w.heap.size + 1, 3, none⟩) hw1).trans y3
          · exact (hb.cell (p := ⟨g, o + q * 6, none⟩) hgw).trans y0
          · exact (hb.cell (p := ⟨g, o + q * 6 + 1, none⟩) hgw).trans y1
          · exact (hb.cell (p := ⟨g, o + q * 6 + 2, none⟩) hgw).trans y2
          · exact (hb.cell (p := ⟨g, o + q * 6 + 3, none⟩) hgw).trans y33
          · exact (hb.cell (p := ⟨g, o + q * 6 + 4, none⟩) hgw).trans y4
          · exact (hb.cell (p := ⟨g, o + q * 6 + 5, none⟩) hgw).trans y5
          · exact (hb.cell (p := ⟨g2, o2 + q * 6, none⟩) hgw2).trans z0
          · exact (hb.cell (p := ⟨g2, o2 + q * 6 + 1, none⟩) hgw2).trans z1
          · exact (hb.cell (p := ⟨g2, o2 + q * 6 + 2, none⟩) hgw2).trans z2
          · exact (hb.cell (p := ⟨g2, o2 + q * 6 + 3, none⟩) hgw2).trans z3
          · exact (hb.cell (p := ⟨g2, o2 + q * 6 + 4, none⟩) hgw2).trans z4
          · exact (hb.cell (p := ⟨g2, o2 + q * 6 + 5, none⟩) hgw2).trans z5
        have HK := Lib.hid hk
        have HCL := Lib.hid hcl
        have HBw := Lib.hid hBw
        have HBW := Lib.hid hBW
        have hdr : Below wo.heap.size wo wo.drew := (Below.refl _ _).drew
        have hdw : Below w.heap.size w wo.drew := hBw.drew
        have hqc : q < c3 := by omega
        have hqd : q < d3 := by omega
        have hlti : (q : Int) < (n : Int) := by omega
        unfold tyC at HCL
        clear hk hcl hr hr2 hr' hr2' y3 y0 y1 y2 y33 y4 y5 z0 z1 z2 z3 z4 z5 hBw hBW hgl hgl2 htm ht hkv' hkv2' hlv' hlv2' hgw hgw2 hw0 hw1
        go_wp2_with fail
        go_region_held3 (fun VV => (VV.cell? ⟨w.heap.size, 3, none⟩ = some (.slice (some ⟨g, o, none⟩) n c3) ∧ VV.cell? ⟨w.heap.size + 1, 3, none⟩ = some (.slice (some ⟨g2, o2, none⟩) n d3)) ∧ (VV.cell? ⟨g, o + q * 6, none⟩ = some (.int .i64 k') ∧ VV.cell? ⟨g, o + q * 6 + 1, none⟩ = some (.string (ba nm')) ∧ VV.cell? ⟨g, o + q * 6 + 2, none⟩ = some (.int .i64 v2) ∧ VV.cell? ⟨g, o + q * 6 + 3, none⟩ = some (.slice A5 kids'.length c5) ∧ VV.cell? ⟨g, o + q * 6 + 4, none⟩ = some (.slice A6 n6 c6) ∧ VV.cell? ⟨g, o + q * 6 + 5, none⟩ = some (.int .i64 rv')) ∧ (VV.cell? ⟨g2, o2 + q * 6, none⟩ = some (.int .i64 k') ∧ VV.cell? ⟨g2, o2 + q * 6 + 1, none⟩ = some (.string (ba nm')) ∧ VV.cell? ⟨g2, o2 + q * 6 + 2, none⟩ = some (.int .i64 v2) ∧ VV.cell? ⟨g2, o2 + q * 6 + 3, none⟩ = some (.slice B5 kids'.length d5) ∧ VV.cell? ⟨g2, o2 + q * 6 + 4, none⟩ = some (.slice B6 m6 d6) ∧ VV.cell? ⟨g2, o2 + q * 6 + 5, none⟩ = some (.int .i64 rv')))
          (first | with_reducible exact HK.out _ hdr | with_reducible exact HK.out _ hb5)
          (first | (go_at_call 15; refine (HCL.out wo.drew hdw).mono ?_; rintro e w5 ⟨rfl, hb5a⟩; have hb5 : Below wo.heap.size wo w5 := hdr.trans hb5a))
        go_wp2_with fail
        go_roundw
        case rel => exact ⟨q + 1, by omega, by simp, HBw.out.trans (hb5.mono HBw.out.size), HBW.out.trans (hb5.mono HBW.out.size)⟩
        case measure => (simp [intOf] <;> omega)
      · obtain rfl : q = n := by omega
        go_wp2
        go_ret
        exact ⟨rfl, hBw⟩
theorem same_any (t : Ty) (w : World) (l1 l2 : List Value) (hsz : t.size ≤ 1000000) (h1 : TRV w t l1) (h2 : TRV w t l2) :
    Calls Tryz.prog 15 #[.agg l1.toArray, .agg l2.toArray] w fun e w' => e = .returned (.bool true) ∧ Below w.heap.size w w' := same_in 1000000 t w l1 l2 hsz (Nat.le_refl _) h1 h2
end Go.Proofs.YtpbhndmfmnfeoaaGreat

/- What calls of package subst answer, where nothing of what is there will be written. -/
namespace Go.Proofs.YtpbhndmfmnfeoaaGreat
open Go.RowKit

def noB : Nat → Prop := fun _ => False
theorem SubV.noB {w : World} {v : Value} {m : Nat} {T : Int → Option Ty} {R : Int → Option (List Str × Int)} (h : SubV w v m T R) : SubV (blank noB w) v m T R :=
  h.keepL fun _ _ => blank_at (fun h => h)
theorem SubV.shape {w : World} {v : Value} {m : Nat} {T : Int → Option Ty} {R : Int → Option (List Str × Int)} (h : SubV w v m T R) : ∃ A1 n1 c1 A2 n2 c2, v = .agg #[.slice A1 n1 c1, .slice A2 n2 c2] := by
  obtain ⟨vt, vr, gt, gr, rfl, h1, h2, _⟩ := h
  obtain ⟨A1, n1, c1, rfl⟩ := h1.one
  obtain ⟨A2, n2, c2, rfl⟩ := h2.one
  exact ⟨_, _, _, _, _, _, rfl⟩
theorem TRV.form {w : World} {t : Ty} {l : List Value} (h : TRV w t l) : ∃ k nm v A3 n3 c3 A4 n4 c4 rv, l = [.int .i64 k, .string (ba nm), .int .i64 v, .slice A3 n3 c3, .slice A4 n4 c4, .int .i64 rv] := by
  obtain ⟨k, nm, v, kids, ls, rv⟩ := t
  obtain ⟨A3, n3, c3, A4, n4, c4, rfl⟩ := h.shape
  exact ⟨_, _, _, _, _, _, _, _, _, _, rfl⟩
theorem RwV.form {w : World} {r : List Str × Int} {l : List Value} (h : RwV w r l) : ∃ A n c rv, l = [.slice A n c, .int .i64 rv] := by
  obtain ⟨lv, rfl, h2, _⟩ := h
  obtain ⟨A, c, rfl, _⟩ := h2.form
  exact ⟨_, _, _, _, rfl⟩
theorem setT0 {w : World} {sv : Value} {m : Nat} {T : Int → Option Ty} {R : Int → Option (List Str × Int)} (hs : SubV w sv m T R) (hm : m ≤ 1000) (n : Int) (hn : i64ok n) (t : Ty) (l : List Value) (ht : TRV w t l) (hsz : t.size ≤ 1000) :
    Calls Tryz.prog 56 #[sv, .int .i64 n, .agg l.toArray] w fun e w' => ∃ A1 n1 c1 A2 n2 c2, e = .returned (.agg #[.slice A1 n1 c1, .slice A2 n2 c2]) ∧ SubV w' (.agg #[.slice A1 n1 c1, .slice A2 n2 c2]) (m + 1) (setF T n t) R ∧ Below w.heap.size w w' := by
  refine (setType_any noB w sv m T R hs.noB hm n hn t l ht hsz).mono ?_
  rintro e w' ⟨sv', rfl, h1, h2⟩
  have h3 := h1 w' ⟨Nat.le_refl _, fun _ _ _ => rfl⟩
  obtain ⟨A1, n1, c1, A2, n2, c2, rfl⟩ := h3.shape
  exact ⟨_, _, _, _, _, _, rfl, h3, h2⟩
theorem setR0 {w : World} {sv : Value} {m : Nat} {T : Int → Option Ty} {R : Int → Option (List Str × Int)} (hs : SubV w sv m T R) (hm : m ≤ 1000) (n : Int) (hn : i64ok n) (ls : List Str) (rv : Int) (l : List Value) (hr : RwV w (ls, rv) l) :
    Calls Tryz.prog 50 #[sv, .int .i64 n, .agg l.toArray] w fun e w' => ∃ A1 n1 c1 A2 n2 c2, e = .returned (.agg #[.slice A1 n1 c1, .slice A2 n2 c2]) ∧ SubV w' (.agg #[.slice A1 n1 c1, .slice A2 n2 c2]) (m + 1) T (setF R n (ls, rv)) ∧ Below w.heap.size w w' := by
  refine (setRow_any noB w sv m T R hs.noB hm n hn ls rv l hr).mono ?_
  rintro e w' ⟨sv', rfl, h1, h2⟩
  have h3 := h1 w' ⟨Nat.le_refl _, fun _ _ _ => rfl⟩
  obtain ⟨A1, n1, c1, A2, n2, c2, rfl⟩ := h3.shape
  exact ⟨_, _, _, _, _, _, rfl, h3, h2⟩
theorem typ0 {w : World} {sv : Value} {m : Nat} {T : Int → Option Ty} {R : Int → Option (List Str × Int)} (hs : SubV w sv m T R) (hm : m ≤ 1000000) (n : Int) (hn : i64ok n) (hsz : ∀ t, T n = some t → t.size ≤ 1000) :
    Calls Tryz.prog 80 #[sv, .int .i64 n] w fun e w' => ∃ k nm v A3 n3 c3 A4 n4 c4 rv, e = .returned (.tuple #[.agg #[.int .i64 k, .string (ba nm), .int .i64 v, .slice A3 n3 c3, .slice A4 n4 c4, .int .i64 rv], .bool (T n).isSome]) ∧
      TRV w' ((T n).getD zTy) [.int .i64 k, .string (ba nm), .int .i64 v, .slice A3 n3 c3, .slice A4 n4 c4, .int .i64 rv] ∧ Below w.heap.size w w' := by
  refine (type_any w sv m T R hs hm n hn hsz).mono ?_
  rintro e w' ⟨l, rfl, h1, h2⟩
  obtain ⟨k, nm, v, A3, n3, c3, A4, n4, c4, rv, rfl⟩ := h1.form
  exact ⟨_, _, _, _, _, _, _, _, _, _, rfl, h1, h2⟩
theorem row0 {w : World} {sv : Value} {m : Nat} {T : Int → Option Ty} {R : Int → Option (List Str × Int)} (hs : SubV w sv m T R) (hm : m ≤ 1000000) (n : Int) (hn : i64ok n) :
    Calls Tryz.prog 17 #[sv, .int .i64 n] w fun e w' => ∃ A1 n1 c1 rv, e = .returned (.tuple #[.agg #[.slice A1 n1 c1, .int .i64 rv], .bool (R n).isSome]) ∧ RwV w' ((R n).getD zRw) [.slice A1 n1 c1, .int .i64 rv] ∧ Below w.heap.size w w' := by
  refine (row_any w sv m T R hs hm n hn).mono ?_
  rintro e w' ⟨l, rfl, h1, h2⟩
  obtain ⟨A1, n1, c1, rv, rfl⟩ := h1.form
  exact ⟨_, _, _, _, rfl, h1, h2⟩
theorem app0 {w : World} {sv : Value} {m : Nat} {T : Int → Option Ty} {R : Int → Option (List Str × Int)} (hs : SubV w sv m T R) (hm : m ≤ 1000000) (t : Ty) (l : List Value) (ht : TRV w t l) (hrf : rowsFree R T t) (hp : pcsT T t ≤ 1000) :
    Calls Tryz.prog 16 #[sv, .agg l.toArray] w fun e w' => ∃ k nm v A3 n3 c3 A4 n4 c4 rv, e = .returned (.agg #[.int .i64 k, .string (ba nm), .int .i64 v, .slice A3 n3 c3, .slice A4 n4 c4, .int .i64 rv]) ∧
      TRV w' (apT T t) [.int .i64 k, .string (ba nm), .int .i64 v, .slice A3 n3 c3, .slice A4 n4 c4, .int .i64 rv] ∧ Below w.heap.size w w' := by
  refine (apply_any w sv m T R hs hm t l ht hrf hp).mono ?_
  rintro e w' ⟨l, rfl, h1, h2⟩
  have h3 := (h1 w' ⟨Nat.le_refl _, fun _ _ _ => rfl⟩).trv
  obtain ⟨k, nm, v, A3, n3, c3, A4, n4, c4, rv, rfl⟩ := h3.form
  exact ⟨_, _, _, _, _, _, _, _, _, _, rfl, h3, h2⟩
theorem zTy_trv (w : World) : TRV w zTy [.int .i64 0, .string (ba []), .int .i64 0, .slice none 0 0, .slice none 0 0, .int .i64 0] :=
  ⟨_, _, rfl, .inl ⟨rfl, rfl⟩, ⟨.inl ⟨rfl, rfl⟩, Nat.zero_le _⟩, ⟨i64ok_of (by omega) (by omega), i64ok_of (by omega) (by omega), i64ok_of (by omega) (by omega)⟩, fun i t h => by simp at h⟩
end Go.Proofs.YtpbhndmfmnfeoaaGreat
