/- Apply, where something may be said of rows, too. -/
import Derived.Test.YthdfomcpoofkaaaSiP
import Derived.Test.YthdfomcpoofkaaaMg12
import Derived.Test.YthdfomcpoofkaaaSiRq
import Derived.Test.YthdfomcpoofkaaaMg20
import Derived.Test.YthdfomcpoofkaaaMg13
import Derived.Test.YthdfomcpoofkaaaMg00
import Derived.Outline
import Derived.Deep.QuietTactic
import Derived.BigQuiet
namespace Go.Proofs.Ythdfomcpoofkaaa.Ri
open Go.RowKit

mutual
theorem pcs_size (T : TT) : ∀ t, (apT T t).size = pcsT T.t t
  | .mk k nm v kids ls rv => by
    cases hi : insT T.t k v with
    | some u => simp only [apT, pcsT, hi]
    | none => simp only [apT, pcsT, hi, Ty.size, pcsL_size T kids]
theorem pcsL_size (T : TT) : ∀ l, Ty.sizeL (apTL T l) = pcsTL T.t l
  | [] => rfl
  | t :: r => by simp only [apTL, Ty.sizeL, pcsTL, pcs_size T t, pcsL_size T r]
end
set_option maxRecDepth 100000 in
set_option maxHeartbeats 8000000 in
theorem apply_anyJ (w : World) (sv : Value) (m : Nat) (T : TT) (hs : SubV w sv m T.t T.r) (hm : m ≤ 1000000) (t : Ty) (l : List Value) (ht : TRV w t l) (hrf : rowsFree T t) (hp : pcsT T.t t ≤ 1000) :
    Calls Try.prog 19 #[sv, .agg l.toArray] w fun e w' => ∃ l', e = .returned (.agg l'.toArray) ∧ (∀ w'', Kept (fun b => b < w.heap.size + 3) w' w'' → TFV w'' (apT T t) l' ∧ Tree1 (w.heap.size + 3) l' w'') ∧ Below w.heap.size w w' := by
  have hs0 := hs
  obtain ⟨vt, vr, gt, gr, rfl, hst, hsr, _, _⟩ := hs
  obtain ⟨A1, n1, c1, rfl⟩ := hst.one
  obtain ⟨A2, n2, c2, rfl⟩ := hsr.one
  have ht0 := ht
  obtain ⟨k, nm, v, kids, ls, rv⟩ := t
  obtain ⟨A3, n3, c3, A4, n4, c4, rfl⟩ := ht.shape
  unfold tyC at ht0 ⊢
  obtain ⟨W, hW⟩ : ∃ W, W = (((w.alloc (.cells #[.slice A1 n1 c1, .slice A2 n2 c2] 38)).alloc (.cells #[.int .i64 k, .string (ba nm), .int .i64 v, .slice A3 n3 c3, .slice A4 n4 c4, .int .i64 rv] 28)).alloc (.cells zeroT 28)).alloc (.cells #[.slice A1 n1 c1, .slice A2 n2 c2, .map none, .slice none 0 0] 85) := ⟨_, rfl⟩
  have hb : Below w.heap.size w W := by rw [hW]; exact ((((Below.refl _ w).alloc (Nat.le_refl _) _).alloc (by simp) _).alloc (by simp; omega) _).alloc (by simp; omega) _
  have k1 : Lies W (w.heap.size + 1) 28 #[.int .i64 k, .string (ba nm), .int .i64 v, .slice A3 n3 c3, .slice A4 n4 c4, .int .i64 rv] := by rw [hW]; exact ((Lies.new' _ _ _ (by simp)).alloc _).alloc _
  have k2 : Lies W (w.heap.size + 2) 28 zeroT := by rw [hW]; exact (Lies.new' _ _ _ (by simp)).alloc _
  have k3 : Lies W (w.heap.size + 3) 85 #[.slice A1 n1 c1, .slice A2 n2 c2, .map none, .slice none 0 0] := by rw [hW]; exact Lies.new' _ _ _ (by simp)
  have hpc := pieces_any T.t T.r (.mk k nm v kids ls rv) W (.agg #[.slice A1 n1 c1, .slice A2 n2 c2]) m _ 1000 (hs0.later hb) hm (ht0.later hb) hp (by omega)
  obtain ⟨P, hP⟩ : ∃ P, P = pcsT T.t (.mk k nm v kids ls rv) := ⟨_, rfl⟩
  rw [← hP] at hpc hp
  have HPC := Lib.hid hpc
  have HW := Lib.hid hW
  have HB := Lib.hid hb
  have HK1 := Lib.hid k1
  have HK2 := Lib.hid k2
  have HK3 := Lib.hid k3
  have HS := Lib.hid hs0
  have HT := Lib.hid ht0
  have HRF := Lib.hid hrf
  have HP := Lib.hid hP
  clear hpc hW hb k1 k2 k3 hs0 ht0 ht hrf hP hst hsr
  unfold zeroT at HW
  have hP1 : ¬ ((1000 : Int) < (P : Int)) := by omega
  go_enter Try.func19, Try.ntmps19
  go_wp2_with fail
  rw [← HW.out]
  refine HPC.out.mono ?_
  rintro e w5 ⟨rfl, hb5⟩
  have j1 := HK1.out.later hb5
  have j2 := HK2.out.later hb5
  have j3 := HK3.out.later hb5
  have t0 := j1.cell 0
  have t1 := j1.cell 1
  have t2 := j1.cell 2
  have t3 := j1.cell 3
  have t4 := j1.cell 4
  have t5 := j1.cell 5
  have hBw5 : Below w.heap.size w w5 := HB.out.trans (hb5.mono HB.out.size)
  have hwh := whole_any w w5 (w.heap.size + 3) _ _ m T HS.out hm hBw5 (by omega) j3 (.mk k nm v kids ls rv) _ HT.out HRF.out (by rw [pcs_size, ← HP.out]; omega)
  have HWH := Lib.hid hwh
  have HBw5 := Lib.hid hBw5
  have HJ2 := Lib.hid j2
  clear hwh hBw5 j1 j2 j3
  go_wp2_with fail
  refine HWH.out.mono ?_
  rintro e w6 ⟨l', rfl, htf, hfr, htr, hch⟩
  have hb56 : Below w.heap.size w w6 := ⟨hch.os.trans HBw5.out.os, hch.tape.trans HBw5.out.tape, hch.output.trans HBw5.out.output, Nat.le_trans HBw5.out.size hch.size, fun i hi => (hch.block i (by have := HBw5.out.size; omega) (by omega) (fun e => by cases e)).trans (HBw5.out.block i hi)⟩
  have k6 : Lies w6 (w.heap.size + 2) 28 zeroT := (hch.block _ HJ2.out.lt (by omega) (fun e => by cases e)).trans HJ2.out
  have hfit := htf.trv.fit
  have hsc := hfit.1
  have hoc := hfit.2
  have HTF := Lib.hid hfr
  have HTR := Lib.hid htr
  have HSW := Lib.hid (show w.heap.size + 1 ≤ w5.heap.size by have := HJ2.out.lt; omega)
  clear hfr htr
  unfold zeroT at k6
  clear htf hfit hch
  go_wp2_with (first | (refine wpList_store_rowTo rfl 28 (.tmp 4) (.tmp 15) rfl rfl (w.heap.size + 2) l'.toArray rfl rfl 28 _ k6 (by rw [size_T, hsc]) (by rw [hsc]; rfl) hoc ?_))
  refine bodyPost_ret (results_cell_row rfl _ _ (w.heap.size + 2) 28 _ (0, 0) _ rfl (Sb.setRow_at k6 l'.toArray) Try.underlying28 rfl (by rw [size_T, hsc])) rfl ?_
  refine ⟨l', rfl, ?_, Sb.below_setRow hb56 (by omega) _⟩
  intro w'' hk
  have hkk : Kept (fun b => b < w5.heap.size + 2) w6 w'' := ⟨Nat.le_trans (by rw [size_setRow]; exact Nat.le_refl _) hk.1, fun b hlt hn => (hk.2 b (by rw [size_setRow]; exact hlt) fun e => hn (by show b < w5.heap.size + 2; have := HBw5.out.size; have e' : b < w.heap.size + 3 := e; have := HJ2.out.lt; omega)).trans (Sb.setRow_other _ _ _ b fun e => hn (by show b < w5.heap.size + 2; have := HJ2.out.lt; omega))⟩
  exact ⟨HTF.out _ hkk, (HTR.out.kept hkk).mono (by have := HSW.out; omega)⟩
theorem apply_any (w : World) (sv : Value) (m : Nat) (T : TT) (hs : SubV w sv m T.t T.r) (hm : m ≤ 1000000) (t : Ty) (l : List Value) (ht : TRV w t l) (hrf : rowsFree T t) (hp : pcsT T.t t ≤ 1000) :
    Calls Try.prog 19 #[sv, .agg l.toArray] w fun e w' => ∃ l', e = .returned (.agg l'.toArray) ∧ (∀ w'', Kept (fun b => b < w.heap.size + 3) w' w'' → TFV w'' (apT T t) l') ∧ Below w.heap.size w w' :=
  (apply_anyJ w sv m T hs hm t l ht hrf hp).mono fun e w' ⟨l', h1, h2, h3⟩ => ⟨l', h1, fun w'' hk => (h2 w'' hk).1, h3⟩
end Go.Proofs.Ythdfomcpoofkaaa.Ri

/- How long lists of labels are; what is the call's own is read as what came in. -/
namespace Go.Proofs.Ythdfomcpoofkaaa.Si
open Go.RowKit

mutual
/-- No row has more labels than so many. -/
def labs (m : Nat) : Ty → Prop
  | .mk _ _ _ kids ls _ => ls.length ≤ m ∧ labsL m kids
def labsL (m : Nat) : List Ty → Prop
  | [] => True
  | t :: r => labs m t ∧ labsL m r
end
theorem labsL_of {m : Nat} : ∀ {l : List Ty}, (∀ t ∈ l, labs m t) → labsL m l
  | [], _ => trivial
  | t :: r, h => ⟨h t (List.mem_cons_self ..), labsL_of fun u hu => h u (List.mem_cons_of_mem _ hu)⟩
mutual
theorem labs_fit {m : Nat} {T : Int → Option Ty} {Q : Int → Option (List Str × Int)} (hm : m ≤ 1500000) (hQ : ∀ n u, Q n = some u → u.1.length ≤ 100000) : ∀ t, labs m t → Ri.rowsFree ⟨T, Q⟩ t
  | .mk k nm v kids ls rv, h => by
    rw [labs] at h
    refine .inr ⟨?_, labsL_fit hm hQ kids h.2⟩
    unfold fitR apR insR
    simp only
    by_cases h0 : rv = 0
    · rw [if_pos h0]; exact Nat.le_trans h.1 (by omega)
    · rw [if_neg h0]
      cases hq : Q rv with
      | none => exact Nat.le_trans h.1 (by omega)
      | some u =>
        have := hQ rv u hq
        simp only [Rw.sortS_len, List.length_append]
        omega
theorem labsL_fit {m : Nat} {T : Int → Option Ty} {Q : Int → Option (List Str × Int)} (hm : m ≤ 1500000) (hQ : ∀ n u, Q n = some u → u.1.length ≤ 100000) : ∀ l, labsL m l → Ri.rowsFreeL ⟨T, Q⟩ l
  | [], _ => trivial
  | t :: r, h => ⟨labs_fit hm hQ t h.1, labsL_fit hm hQ r h.2⟩
end
mutual
theorem pcs_le {T : Int → Option Ty} {M : Nat} (h1 : 1 ≤ M) (hT : ∀ n u, T n = some u → u.size ≤ M) : ∀ t, pcsT T t ≤ M * t.size
  | .mk k nm v kids ls rv => by
    rw [pcsT]
    have hk := pcs_leL h1 hT kids
    have hm : M * (Ty.mk k nm v kids ls rv).size = M + M * Ty.sizeL kids := by rw [Ty.size, Nat.mul_add, Nat.mul_one]
    rw [hm]
    cases hi : insT T k v with
    | none => simp only; omega
    | some u =>
      unfold insT at hi
      split at hi
      · have := hT v u hi
        simp only
        omega
      · cases hi
theorem pcs_leL {T : Int → Option Ty} {M : Nat} (h1 : 1 ≤ M) (hT : ∀ n u, T n = some u → u.size ≤ M) : ∀ l, pcsTL T l ≤ M * Ty.sizeL l
  | [] => by rw [pcsTL]; omega
  | t :: r => by
    rw [pcsTL, Ty.sizeL, Nat.mul_add]
    have := pcs_le h1 hT t
    have := pcs_leL h1 hT r
    omega
end
theorem atC_own {w : World} {a : Addr} (h : AtCells w a) : AtC w w.heap.size a := by
  obtain ⟨c, t, h⟩ := h
  exact ⟨⟨c, t, _, h⟩, by simp [World.frozen?, h], (Array.getElem?_eq_some_iff.1 h).1⟩
theorem TF.tw {w : World} {a : Addr} {t : Ty} (h : TF w a t) : TW w a t := by
  induction h with
  | mk a k nm v kids ls rv kv lv h0 hat hr hk hl hi _ ih => exact .mk a k nm v kids ls rv kv lv h0 (atC_own hat) hr hk.slr hi ih
theorem TFV.tw {w : World} {t : Ty} {l : List Value} (h : TFV w t l) : TWV w t l := by
  obtain ⟨k, nm, v, kids, ls, rv⟩ := t
  obtain ⟨kv, lv, rfl, h1, h2, h3, h4⟩ := h
  obtain ⟨A, n, c, rfl⟩ : ∃ A n c, lv = .slice A n c := by rcases h2.1 with ⟨rfl, _⟩ | ⟨_, _, rfl, _⟩ <;> exact ⟨_, _, _, rfl⟩
  exact ⟨kv, A, n, c, rfl, h1.slr, h3, fun i t ht => TF.tw (h4 i t ht)⟩
end Go.Proofs.Ythdfomcpoofkaaa.Si

/- Package subst: copied is the type, a tree of its own. -/
namespace Go.Proofs.Ythdfomcpoofkaaa.Si
open Go.RowKit

set_option maxRecDepth 100000 in
set_option maxHeartbeats 8000000 in
theorem copied_anyJ (w : World) (t : Ty) (l : List Value) (ht : TRV w t l) (hp : t.size ≤ 1000) :
    Calls Try.prog 33 #[.agg l.toArray] w fun e w' => ∃ l', e = .returned (.agg l'.toArray) ∧ (∀ w'', Kept (fun b => b < w.heap.size + 2) w' w'' → TFV w'' t l' ∧ Tree1 (w.heap.size + 2) l' w'') ∧ Below w.heap.size w w' := by
  have ht0 := ht
  obtain ⟨k, nm, v, kids, ls, rv⟩ := t
  obtain ⟨A3, n3, c3, A4, n4, c4, rfl⟩ := ht.shape
  have hap := fun w7 (hb : Below w.heap.size w w7) => apply_anyJ w7 noneV 0 T0 R0 (SubV.none w7 0) (by omega) (.mk k nm v kids ls rv) _ (ht0.later hb) (rowsFree0 T0 _) (by rw [pcsT0]; exact hp)
  rw [apT0] at hap
  unfold tyC noneV at hap
  unfold tyC at ht0 ⊢
  obtain ⟨W, hW⟩ : ∃ W, W = (w.alloc (.cells #[.int .i64 k, .string (ba nm), .int .i64 v, .slice A3 n3 c3, .slice A4 n4 c4, .int .i64 rv] 28)).alloc (.cells zeroT 28) := ⟨_, rfl⟩
  have hb : Below w.heap.size w W := by rw [hW]; exact ((Below.refl _ w).alloc (Nat.le_refl _) _).alloc (by simp) _
  have k1 : Lies W w.heap.size 28 #[.int .i64 k, .string (ba nm), .int .i64 v, .slice A3 n3 c3, .slice A4 n4 c4, .int .i64 rv] := by rw [hW]; exact (Lies.new _ _ _).alloc _
  have k2 : Lies W (w.heap.size + 1) 28 zeroT := by rw [hW]; exact Lies.new' _ _ _ (by simp)
  have hS : (W.cell? ⟨w.heap.size, 0, none⟩ = some (.int .i64 k) ∧ W.cell? ⟨w.heap.size, 1, none⟩ = some (.string (ba nm)) ∧ W.cell? ⟨w.heap.size, 2, none⟩ = some (.int .i64 v) ∧ W.cell? ⟨w.heap.size, 3, none⟩ = some (.slice A3 n3 c3) ∧ W.cell? ⟨w.heap.size, 4, none⟩ = some (.slice A4 n4 c4) ∧ W.cell? ⟨w.heap.size, 5, none⟩ = some (.int .i64 rv)) ∧ Below w.heap.size w W := ⟨⟨k1.cell 0, k1.cell 1, k1.cell 2, k1.cell 3, k1.cell 4, k1.cell 5⟩, hb⟩
  have hk : ∀ V V' : World, ((V.cell? ⟨w.heap.size, 0, none⟩ = some (.int .i64 k) ∧ V.cell? ⟨w.heap.size, 1, none⟩ = some (.string (ba nm)) ∧ V.cell? ⟨w.heap.size, 2, none⟩ = some (.int .i64 v) ∧ V.cell? ⟨w.heap.size, 3, none⟩ = some (.slice A3 n3 c3) ∧ V.cell? ⟨w.heap.size, 4, none⟩ = some (.slice A4 n4 c4) ∧ V.cell? ⟨w.heap.size, 5, none⟩ = some (.int .i64 rv)) ∧ Below w.heap.size w V) → V'.heap[w.heap.size]? = V.heap[w.heap.size]? → Below w.heap.size V V' → (V'.cell? ⟨w.heap.size, 0, none⟩ = some (.int .i64 k) ∧ V'.cell? ⟨w.heap.size, 1, none⟩ = some (.string (ba nm)) ∧ V'.cell? ⟨w.heap.size, 2, none⟩ = some (.int .i64 v) ∧ V'.cell? ⟨w.heap.size, 3, none⟩ = some (.slice A3 n3 c3) ∧ V'.cell? ⟨w.heap.size, 4, none⟩ = some (.slice A4 n4 c4) ∧ V'.cell? ⟨w.heap.size, 5, none⟩ = some (.int .i64 rv)) ∧ Below w.heap.size w V' := fun V V' h hb hb2 => by
    obtain ⟨⟨h0, h1, h2, h3, h4, h5⟩, h6⟩ := h
    have e : ∀ j, V'.cell? ⟨w.heap.size, j, none⟩ = V.cell? ⟨w.heap.size, j, none⟩ := fun j => World.cell?_of_block (w := V) (a := ⟨w.heap.size, j, none⟩) hb
    exact ⟨⟨(e 0).trans h0, (e 1).trans h1, (e 2).trans h2, (e 3).trans h3, (e 4).trans h4, (e 5).trans h5⟩, h6.trans hb2⟩
  have hdr : W.drew.heap[w.heap.size]? = W.heap[w.heap.size]? := rfl
  have hlt := k1.lt
  have hlt2 := k2.lt
  have HAP := Lib.hid hap
  have HW := Lib.hid hW
  have HB := Lib.hid hb
  have HK2 := Lib.hid k2
  have HK := Lib.hid hk
  clear hap hW hb k1 k2 ht0 ht hk
  unfold zeroT at HW HK2
  go_enter Try.func33, Try.ntmps33
  go_wp2_with fail
  rw [← HW.out]
  go_region_held3 (fun VV => (VV.cell? ⟨w.heap.size, 0, none⟩ = some (.int .i64 k) ∧ VV.cell? ⟨w.heap.size, 1, none⟩ = some (.string (ba nm)) ∧ VV.cell? ⟨w.heap.size, 2, none⟩ = some (.int .i64 v) ∧ VV.cell? ⟨w.heap.size, 3, none⟩ = some (.slice A3 n3 c3) ∧ VV.cell? ⟨w.heap.size, 4, none⟩ = some (.slice A4 n4 c4) ∧ VV.cell? ⟨w.heap.size, 5, none⟩ = some (.int .i64 rv)) ∧ Below w.heap.size w VV)
    (first | with_reducible exact HK.out _ _ hS hdr (Below.refl _ _).drew | with_reducible exact HK.out _ _ hS (hb7.block _ hlt) (hb7.mono HB.out.size) | with_reducible exact HK.out _ _ hS (hb8.block _ hlt) (hb8.mono HB.out.size) | with_reducible exact HK.out _ _ hS (hq0.trans (hb8.block _ hlt)) ((hb8.mono HB.out.size).trans hq1))
    (first | (go_at_call 25; refine (none_any _).mono ?_; rintro e w7 ⟨rfl, hb7a⟩; have hb7 : Below W.heap.size W w7 := (Below.refl _ _).drew.trans hb7a; unfold noneV) | (go_at_call 19; refine (HAP.out w7 (HB.out.trans (hb7.mono HB.out.size))).mono ?_; rintro e w8 ⟨l', rfl, htf, hb8a⟩; have hb8 : Below W.heap.size W w8 := hb7.trans (hb8a.mono hb7.size); have HS7 := Lib.hid hb7.size; have HTF := Lib.hid htf; obtain ⟨A5, n5, c5, A6, n6, c6, rfl⟩ := (htf w8 ⟨Nat.le_refl _, fun _ _ _ => rfl⟩).1.trv.shape; clear htf; unfold tyC; have m2 := HK2.out.later hb8; have mc0 := m2.cell 0; have mc1 := m2.cell 1; have mc2 := m2.cell 2; have mc3 := m2.cell 3; have mc4 := m2.cell 4; have mc5 := m2.cell 5; have mf0 := m2.free 0; have mf1 := m2.free 1; have mf2 := m2.free 2; have mf3 := m2.free 3; have mf4 := m2.free 4; have mf5 := m2.free 5; have ml := m2.lt; have hqa : Below (w.heap.size + 1) w8 ((((((w8.setCell ⟨w.heap.size + 1, 0, none⟩ (.int .i64 k)).setCell ⟨w.heap.size + 1, 1, none⟩ (.string (ba nm))).setCell ⟨w.heap.size + 1, 2, none⟩ (.int .i64 v)).setCell ⟨w.heap.size + 1, 3, none⟩ (.slice A5 n5 c5)).setCell ⟨w.heap.size + 1, 4, none⟩ (.slice A6 n6 c6)).setCell ⟨w.heap.size + 1, 5, none⟩ (.int .i64 rv)) := (((((((Below.refl (w.heap.size + 1) w8).setCell (p := ⟨w.heap.size + 1, 0, none⟩) (Nat.le_refl _) _).setCell (p := ⟨w.heap.size + 1, 1, none⟩) (Nat.le_refl _) _).setCell (p := ⟨w.heap.size + 1, 2, none⟩) (Nat.le_refl _) _).setCell (p := ⟨w.heap.size + 1, 3, none⟩) (Nat.le_refl _) _).setCell (p := ⟨w.heap.size + 1, 4, none⟩) (Nat.le_refl _) _).setCell (p := ⟨w.heap.size + 1, 5, none⟩) (Nat.le_refl _) _); have hq1 : Below w.heap.size w8 ((((((w8.setCell ⟨w.heap.size + 1, 0, none⟩ (.int .i64 k)).setCell ⟨w.heap.size + 1, 1, none⟩ (.string (ba nm))).setCell ⟨w.heap.size + 1, 2, none⟩ (.int .i64 v)).setCell ⟨w.heap.size + 1, 3, none⟩ (.slice A5 n5 c5)).setCell ⟨w.heap.size + 1, 4, none⟩ (.slice A6 n6 c6)).setCell ⟨w.heap.size + 1, 5, none⟩ (.int .i64 rv)) := hqa.mono (Nat.le_succ _); have hq0 : ((((((w8.setCell ⟨w.heap.size + 1, 0, none⟩ (.int .i64 k)).setCell ⟨w.heap.size + 1, 1, none⟩ (.string (ba nm))).setCell ⟨w.heap.size + 1, 2, none⟩ (.int .i64 v)).setCell ⟨w.heap.size + 1, 3, none⟩ (.slice A5 n5 c5)).setCell ⟨w.heap.size + 1, 4, none⟩ (.slice A6 n6 c6)).setCell ⟨w.heap.size + 1, 5, none⟩ (.int .i64 rv)).heap[w.heap.size]? = w8.heap[w.heap.size]? := hqa.block _ (Nat.lt_succ_self _); have hqo : ∀ g, g ≠ w.heap.size + 1 → ((((((w8.setCell ⟨w.heap.size + 1, 0, none⟩ (.int .i64 k)).setCell ⟨w.heap.size + 1, 1, none⟩ (.string (ba nm))).setCell ⟨w.heap.size + 1, 2, none⟩ (.int .i64 v)).setCell ⟨w.heap.size + 1, 3, none⟩ (.slice A5 n5 c5)).setCell ⟨w.heap.size + 1, 4, none⟩ (.slice A6 n6 c6)).setCell ⟨w.heap.size + 1, 5, none⟩ (.int .i64 rv)).heap[g]? = w8.heap[g]? := (fun g hg => ((Below.heap_setCell _ ⟨w.heap.size + 1, 5, none⟩ _ g hg).trans ((Below.heap_setCell _ ⟨w.heap.size + 1, 4, none⟩ _ g hg).trans ((Below.heap_setCell _ ⟨w.heap.size + 1, 3, none⟩ _ g hg).trans ((Below.heap_setCell _ ⟨w.heap.size + 1, 2, none⟩ _ g hg).trans ((Below.heap_setCell _ ⟨w.heap.size + 1, 1, none⟩ _ g hg).trans (Below.heap_setCell _ ⟨w.heap.size + 1, 0, none⟩ _ g hg))))))); have HM2 := Lib.hid m2; have HQO := Lib.hid hqo; have HQA := Lib.hid hqa; clear m2 hqo hqa))
  have n6' := (((((HM2.out.set 0 (.int .i64 k)).set 1 (.string (ba nm))).set 2 (.int .i64 v)).set 3 (.slice A5 n5 c5)).set 4 (.slice A6 n6 c6)).set 5 (.int .i64 rv)
  go_wp2_with fail
  refine bodyPost_ret (v := .agg #[.int .i64 k, .string (ba nm), .int .i64 v, .slice A5 n5 c5, .slice A6 n6 c6, .int .i64 rv]) (results_cell_row rfl _ _ (w.heap.size + 1) 28 _ (0, 0) _ rfl n6' Try.underlying28 rfl size_T) rfl ?_
  refine ⟨[.int .i64 k, .string (ba nm), .int .i64 v, .slice A5 n5 c5, .slice A6 n6 c6, .int .i64 rv], rfl, ?_, ((HB.out.trans (hb8.mono HB.out.size)).trans (HQA.out.mono (Nat.le_succ _)))⟩
  intro w'' hkk
  refine And.imp id (fun h => Tree1.mono h ?_) (HTF.out _ ⟨Nat.le_trans HQA.out.size hkk.1, fun b hlt' hn => (hkk.2 b (Nat.lt_of_lt_of_le hlt' HQA.out.size) fun e => hn ?_).trans (HQO.out b fun e => hn ?_)⟩)
  · have := HS7.out; omega
  · have := HS7.out; show b < w7.heap.size + 3; have e' : b < w.heap.size + 2 := e; omega
  · have := HS7.out; show b < w7.heap.size + 3; omega
end Go.Proofs.Ythdfomcpoofkaaa.Si

/- Package subst: what Type says is a tree of its own. -/
namespace Go.Proofs.Ythdfomcpoofkaaa.Si
open Go.RowKit

set_option maxRecDepth 100000 in
set_option maxHeartbeats 8000000 in
theorem type_anyJ (w : World) (sv : Value) (m : Nat) (T : Int → Option Ty) (R : Int → Option (List Str × Int)) (hs : SubV w sv m T R) (hm : m ≤ 1000000) (n : Int) (hn : i64ok n) (hsz : ∀ t, T n = some t → t.size ≤ 1000) :
    Calls Try.prog 13 #[sv, .int .i64 n] w fun e w' => ∃ l, e = .returned (.tuple #[.agg l.toArray, .bool (T n).isSome]) ∧ (TFV w' ((T n).getD zTy) l ∧ Tree1 w.heap.size l w') ∧ Below w.heap.size w w' := by
  obtain ⟨vt, vr, gt, gr, rfl, hst, hsr, htm, hrm⟩ := hs
  have hx : ∃ k nm v A3 n3 c3 A4 n4 c4 rv, (lookV (.agg zeroT) (gt n) = .agg #[.int .i64 k, .string (ba nm), .int .i64 v, .slice A3 n3 c3, .slice A4 n4 c4, .int .i64 rv] ∧ (gt n).isSome = (T n).isSome) ∧ TRV w ((T n).getD zTy) [.int .i64 k, .string (ba nm), .int .i64 v, .slice A3 n3 c3, .slice A4 n4 c4, .int .i64 rv] ∧ ((T n).getD zTy).size ≤ 1000 := by
    have h1 := htm n hn
    cases hT : T n with
    | none =>
      rw [hT] at h1
      rw [h1]
      exact ⟨0, [], 0, none, 0, 0, none, 0, 0, 0, ⟨rfl, rfl⟩, ⟨_, _, rfl, .inl ⟨rfl, rfl⟩, ⟨.inl ⟨rfl, rfl⟩, Nat.zero_le _⟩, ⟨i64ok_of (by omega) (by omega), i64ok_of (by omega) (by omega), i64ok_of (by omega) (by omega)⟩, fun i t h => by simp at h⟩, by show zTy.size ≤ 1000; simp [zTy, Ty.size, Ty.sizeL]⟩
    | some t =>
      rw [hT] at h1
      obtain ⟨l, h2, h3⟩ := h1
      have h4 := hsz t hT
      obtain ⟨k, nm, v, kids, ls, rv⟩ := t
      obtain ⟨A3, n3, c3, A4, n4, c4, rfl⟩ := h3.shape
      rw [h2]
      exact ⟨k, nm, v, A3, n3, c3, A4, n4, c4, rv, ⟨rfl, rfl⟩, h3, h4⟩
  obtain ⟨k, nm, v, A3, n3, c3, A4, n4, c4, rv, hlook, htr, hz⟩ := hx
  obtain ⟨t', ht'⟩ : ∃ t', t' = (T n).getD zTy := ⟨_, rfl⟩
  rw [← ht'] at htr hz ⊢
  obtain ⟨f, hf⟩ : ∃ f, f = (T n).isSome := ⟨_, rfl⟩
  rw [← hf] at hlook ⊢
  have hco := fun w7 (hb : Below w.heap.size w w7) => copied_anyJ w7 t' _ (htr.later hb) hz
  clear ht' hf htr hz htm hrm hsz
  obtain ⟨A1, n1, c1, rfl⟩ := hst.one
  obtain ⟨A2, n2, c2, rfl⟩ := hsr.one
  obtain ⟨W, hW⟩ : ∃ W, W = (w.alloc (.cells #[.slice A1 n1 c1, .slice A2 n2 c2] 38)).alloc (.cells zeroT 28) := ⟨_, rfl⟩
  have hb : Below w.heap.size w W := by rw [hW]; exact ((Below.refl _ w).alloc (Nat.le_refl _) _).alloc (by simp) _
  have k1 : Lies W (w.heap.size + 1) 28 zeroT := by rw [hW]; exact Lies.new' _ _ _ (by simp)
  have hof := ofT_said W (.slice A1 n1 c1) m gt n (hst.keep hb.block) hn hm
  rw [hlook.1, hlook.2] at hof
  have HO := Lib.hid hof
  have HW := Lib.hid hW
  have HB := Lib.hid hb
  have HK1 := Lib.hid k1
  have HCO := Lib.hid hco
  have hlt1 := k1.lt
  clear hof hW hb k1 hco hlook hst hsr
  unfold zeroT at HW HK1
  go_enter Try.func13, Try.ntmps13
  go_wp2_with fail
  rw [← HW.out]
  refine HO.out.mono ?_
  rintro e w1 ⟨rfl, hb1⟩
  have hb1w : Below w.heap.size w w1 := HB.out.trans (hb1.mono HB.out.size)
  have hb2 : Below w1.heap.size w1 (w1.alloc (.cells #[.int .i64 k, .string (ba nm), .int .i64 v, .slice A3 n3 c3, .slice A4 n4 c4, .int .i64 rv] 28)) := below_new w1 _
  have hb2w := hb1w.trans (hb2.mono hb1w.size)
  have HB1 := Lib.hid hb1
  have HB2 := Lib.hid hb2
  have HB2w := Lib.hid hb2w
  have HB1w := Lib.hid hb1w
  clear hb1 hb2 hb2w hb1w
  go_wp2_with fail
  refine (HCO.out _ HB2w.out).mono ?_
  rintro e w3 ⟨l', rfl, hfr, hb3⟩
  obtain ⟨k', nm', v', kids, ls, rv'⟩ := t'
  obtain ⟨A5, n5, c5, A6, n6, c6, rfl⟩ := (hfr w3 ⟨Nat.le_refl _, fun _ _ _ => rfl⟩).1.trv.shape
  have HFR := Lib.hid hfr
  clear hfr
  unfold tyC
  have hbW : Below W.heap.size W w3 := (HB1.out.trans (HB2.out.mono HB1.out.size)).trans (hb3.mono (Nat.le_trans HB1.out.size HB2.out.size))
  have m1 := HK1.out.later hbW
  have mc0 := m1.cell 0
  have mf0 := m1.free 0
  have mc1 := m1.cell 1
  have mf1 := m1.free 1
  have mc2 := m1.cell 2
  have mf2 := m1.free 2
  have mc3 := m1.cell 3
  have mf3 := m1.free 3
  have mc4 := m1.cell 4
  have mf4 := m1.free 4
  have mc5 := m1.cell 5
  have mf5 := m1.free 5
  have ml := m1.lt
  have HM1 := Lib.hid m1
  have HB3 := Lib.hid hb3
  have HBW := Lib.hid hbW
  clear m1 hb3 hbW
  go_wp2_with fail
  have q8 : Below (w.heap.size + 1) w3 ((((((w3.setCell ⟨w.heap.size + 1, 0, none⟩ (.int .i64 k')).setCell ⟨w.heap.size + 1, 1, none⟩ (.string (ba nm'))).setCell ⟨w.heap.size + 1, 2, none⟩ (.int .i64 v')).setCell ⟨w.heap.size + 1, 3, none⟩ (.slice A5 n5 c5)).setCell ⟨w.heap.size + 1, 4, none⟩ (.slice A6 n6 c6)).setCell ⟨w.heap.size + 1, 5, none⟩ (.int .i64 rv')) := ((((((Below.refl _ _).setCell (p := ⟨w.heap.size + 1, 0, none⟩) (Nat.le_refl _) _).setCell (p := ⟨w.heap.size + 1, 1, none⟩) (Nat.le_refl _) _).setCell (p := ⟨w.heap.size + 1, 2, none⟩) (Nat.le_refl _) _).setCell (p := ⟨w.heap.size + 1, 3, none⟩) (Nat.le_refl _) _).setCell (p := ⟨w.heap.size + 1, 4, none⟩) (Nat.le_refl _) _).setCell (p := ⟨w.heap.size + 1, 5, none⟩) (Nat.le_refl _) _
  have hkw : ∀ (i : Nat), i ≠ w.heap.size + 1 → ((((((w3.setCell ⟨w.heap.size + 1, 0, none⟩ (.int .i64 k')).setCell ⟨w.heap.size + 1, 1, none⟩ (.string (ba nm'))).setCell ⟨w.heap.size + 1, 2, none⟩ (.int .i64 v')).setCell ⟨w.heap.size + 1, 3, none⟩ (.slice A5 n5 c5)).setCell ⟨w.heap.size + 1, 4, none⟩ (.slice A6 n6 c6)).setCell ⟨w.heap.size + 1, 5, none⟩ (.int .i64 rv')).heap[i]? = w3.heap[i]? := fun i h => ((Below.heap_setCell _ ⟨w.heap.size + 1, 5, none⟩ _ i h).trans ((Below.heap_setCell _ ⟨w.heap.size + 1, 4, none⟩ _ i h).trans ((Below.heap_setCell _ ⟨w.heap.size + 1, 3, none⟩ _ i h).trans ((Below.heap_setCell _ ⟨w.heap.size + 1, 2, none⟩ _ i h).trans ((Below.heap_setCell _ ⟨w.heap.size + 1, 1, none⟩ _ i h).trans (Below.heap_setCell _ ⟨w.heap.size + 1, 0, none⟩ _ i h))))))
  refine bodyPost_ret (v := .tuple #[.agg #[.int .i64 k', .string (ba nm'), .int .i64 v', .slice A5 n5 c5, .slice A6 n6 c6, .int .i64 rv'], .bool f]) (Sb.results_ct rfl _ _ (w.heap.size + 1) 28 _ (0, 0) _ rfl (((((((HM1.out.set 0 (.int .i64 k')).set 1 (.string (ba nm'))).set 2 (.int .i64 v')).set 3 (.slice A5 n5 c5)).set 4 (.slice A6 n6 c6)).set 5 (.int .i64 rv'))) Try.underlying28 rfl size_T (by kernel_rfl)) rfl ?_
  have hbX : Below w.heap.size w ((((((w3.setCell ⟨w.heap.size + 1, 0, none⟩ (.int .i64 k')).setCell ⟨w.heap.size + 1, 1, none⟩ (.string (ba nm'))).setCell ⟨w.heap.size + 1, 2, none⟩ (.int .i64 v')).setCell ⟨w.heap.size + 1, 3, none⟩ (.slice A5 n5 c5)).setCell ⟨w.heap.size + 1, 4, none⟩ (.slice A6 n6 c6)).setCell ⟨w.heap.size + 1, 5, none⟩ (.int .i64 rv')) := (HB.out.trans (HBW.out.mono HB.out.size)).trans (q8.mono (Nat.le_succ _))
  refine ⟨[.int .i64 k', .string (ba nm'), .int .i64 v', .slice A5 n5 c5, .slice A6 n6 c6, .int .i64 rv'], rfl, And.imp id (fun h => Tree1.mono h ?_) (HFR.out _ ⟨q8.size, fun b hb hn => hkw b fun e => hn ?_⟩), hbX⟩
  · have h1 := HB1w.out.size
    have h2 := HB2.out.size
    omega
  have h1 := HB1.out.size
  have h2 := HB2.out.size
  show b < (w1.alloc _).heap.size + 2
  omega
end Go.Proofs.Ythdfomcpoofkaaa.Si

/- Maps from places to places; what leads from place to place. -/
namespace Go.Proofs.Ythdfomcpoofkaaa.Si
open Go Go.MapKept Go.ChangeMaps Go.RowKit

/-- The map in block b leads from place to place. -/
def PMap (w : World) (b : Nat) (L : List (Addr × Addr)) : Prop :=
  ∃ es clock, w.heap[b]? = some (.map es clock) ∧ es.toList.map (fun e => (e.key, e.val)) = L.map (fun p => (Value.pointer (some p.1), Value.pointer (some p.2)))
theorem PMap.lt {w : World} {b : Nat} {L : List (Addr × Addr)} (h : PMap w b L) : b < w.heap.size := by
  obtain ⟨es, clock, hb, _⟩ := h
  exact (Array.getElem?_eq_some_iff.1 hb).1
theorem PMap.keep {w w' : World} {b : Nat} {L : List (Addr × Addr)} (h : PMap w b L) (hk : w'.heap[b]? = w.heap[b]?) : PMap w' b L := by
  obtain ⟨es, clock, hb, he⟩ := h
  exact ⟨es, clock, hk.trans hb, he⟩
theorem PMap.made (w : World) : PMap (w.alloc (.map #[] 0)) w.heap.size [] := ⟨#[], 0, (MapKept.heap_alloc w _).1, rfl⟩
def plook (a : Addr) : List (Addr × Addr) → Option Addr
  | [] => none
  | p :: L => if a = p.1 then some p.2 else plook a L
section
variable {P : Program} {w : World} {kt te mt et : TypeId} {inf : TypeInfo}
theorem run_findAsking_pm (hk : P.underlying kt = some (.pointer te)) (hte : P.info? te = some inf) (hsz : inf.size ≠ 0) (a : Addr) (ha : AtCells w a) : ∀ (es : List MapEntry) (L : List (Addr × Addr)) (i : Nat),
    es.map (fun e => (e.key, e.val)) = L.map (fun p => (Value.pointer (some p.1), Value.pointer (some p.2))) → (∀ p ∈ L, AtCells w p.1) →
    ∃ r, (Instr.findAsking kt (.pointer (some a)) es i).run P w = .ok r w ∧ ((∃ v j, plook a L = some v ∧ r = some (j, .pointer (some v))) ∨ (plook a L = none ∧ r = none))
  | [], L, i, h, _ => by
    have hL : L = [] := by simpa using h.symm
    subst hL
    exact ⟨none, by simp [Instr.findAsking], .inr ⟨rfl, rfl⟩⟩
  | e :: es, [], i, h, _ => by simp at h
  | e :: es, p :: L, i, h, hL => by
    simp only [List.map_cons, List.cons.injEq, Prod.mk.injEq] at h
    obtain ⟨⟨h1, h2⟩, h3⟩ := h
    by_cases hx : a = p.1
    · refine ⟨some (i, .pointer (some p.2)), ?_, .inl ⟨p.2, i, by simp [plook, hx], rfl⟩⟩
      rw [hx]
      simp [Instr.findAsking, h1, h2, run_equal_ptr_same hk hte hsz, Result.andThen]
    · obtain ⟨r, hr, hc⟩ := run_findAsking_pm hk hte hsz a ha es L (i + 1) h3 (fun y hy => hL y (by simp [hy]))
      refine ⟨r, ?_, ?_⟩
      · simp [Instr.findAsking, h1, run_equal_ptr_other hk hte hsz hx ha (hL p (by simp)), Result.andThen, hr]
      · simpa [plook, hx] using hc
theorem run_findKey_pm (hk : P.underlying kt = some (.pointer te)) (hte : P.info? te = some inf) (hsz : inf.size ≠ 0) (a : Addr) (ha : AtCells w a) (es : List MapEntry) (L : List (Addr × Addr))
    (h : es.map (fun e => (e.key, e.val)) = L.map (fun p => (Value.pointer (some p.1), Value.pointer (some p.2)))) (hL : ∀ p ∈ L, AtCells w p.1) :
    ∃ r, (Instr.findKey kt (.pointer (some a)) es).run P w = .ok r w ∧ ((∃ v j, plook a L = some v ∧ r = some (j, .pointer (some v))) ∨ (plook a L = none ∧ r = none)) := by
  cases es with
  | nil =>
    have hL : L = [] := by simpa using h.symm
    subst hL
    exact ⟨none, by simp [Instr.findKey, run_underlying hk, Result.andThen, Instr.findNow], .inr ⟨rfl, rfl⟩⟩
  | cons e es =>
    obtain ⟨r, hr, hc⟩ := run_findAsking_pm hk hte hsz a ha (e :: es) L 0 h hL
    exact ⟨r, by simp [Instr.findKey, run_underlying hk, Result.andThen, Instr.findNow, Instr.sameNow, hr], hc⟩
theorem PMap.lookup {b : Nat} {L : List (Addr × Addr)} (h : PMap w b L) (hm : P.underlying mt = some (.map kt et)) (hk : P.underlying kt = some (.pointer te)) (hte : P.info? te = some inf) (hsz : inf.size ≠ 0)
    (hz : (zeroValue et).run P w = .ok (.pointer none) w) (a : Addr) (ha : AtCells w a) (hL : ∀ p ∈ L, AtCells w p.1) : (Instr.lookup mt (.map (some b)) (.pointer (some a)) false).run P w = .ok (.pointer (plook a L)) w := by
  obtain ⟨es, clock, hb, he⟩ := h
  obtain ⟨r, hr, hc⟩ := run_findKey_pm hk hte hsz a ha es.toList L he hL
  rcases hc with ⟨v, j, hv, rfl⟩ | ⟨hv, rfl⟩
  · simp [Instr.lookup, run_underlying hm, MapKept.run_getObj_map hb, Result.andThen, run_checkKey_ptr hk _ 9999, hr, hv]
  · simp [Instr.lookup, run_underlying hm, MapKept.run_getObj_map hb, Result.andThen, run_checkKey_ptr hk _ 9999, hr, hv, hz]
theorem PMap.update {b : Nat} {L : List (Addr × Addr)} (h : PMap w b L) (hm : P.underlying mt = some (.map kt et)) (hk : P.underlying kt = some (.pointer te)) (hte : P.info? te = some inf) (hsz : inf.size ≠ 0)
    (a v : Addr) (ha : AtCells w a) (hL : ∀ p ∈ L, AtCells w p.1) (hn : plook a L = none) : ∃ w', (Instr.mapUpdate mt (.map (some b)) (.pointer (some a)) (.pointer (some v))).run P w = .ok () w' ∧ PMap w' b (L ++ [(a, v)]) ∧ w.grownBy w' (some b) := by
  obtain ⟨es, clock, hb, he⟩ := h
  obtain ⟨r, hr, hc⟩ := run_findKey_pm hk hte hsz a ha es.toList L he hL
  rcases hc with ⟨u, j, hv, rfl⟩ | ⟨hv, rfl⟩
  · rw [hn] at hv; cases hv
  · refine ⟨setBlock w b (.map (es.push ⟨.pointer (some a), .pointer (some v), clock⟩) (clock + 1)), ?_, ⟨_, _, heap_setBlock_same hb _, ?_⟩, ⟨rfl, rfl, rfl, by simp [setBlock], fun i _ hi => heap_setBlock_other hb _ (fun e => hi (by rw [e]))⟩⟩
    · simp [Instr.mapUpdate, run_underlying hm, MapKept.run_getObj_map hb, run_checkKey_ptr hk _ 9999, hr, MapKept.run_setObj_map _ hb, Result.andThen, setBlock]
    · simp [he]
end
theorem wpList_lookup_pm {P : Program} (w : World) {ops : Array Oper} {rest : List Oper} {o : Oper} {a : Act} {Q : Exit → Act → World → Prop}
    (hg : o.guard = none) (m x : Operand) (t : TypeId) (hop : o.op = Op.lookup t m x false) {v : Value}
    {b : Nat} (hm : a.eval m = .map (some b)) (d : Addr) (hx : a.eval x = .pointer (some d)) (hrun : (Instr.lookup t (.map (some b)) (.pointer (some d)) false).run P w = .ok v w)
    (hK : wpList P ops Q rest (a.put o.dst v) w) :
    wpList P ops Q (o :: rest) a w := by
  refine wpList_plain hg fun K' hK' => ?_
  unfold Oper.wp
  simp [execOp, hop, hm, hx, hrun, Result.andThen]
  exact hK' _ _ hK
theorem wpList_update_pm {P : Program} (w : World) {ops : Array Oper} {rest : List Oper} {o : Oper} {a : Act} {Q : Exit → Act → World → Prop}
    (hg : o.guard = none) (m x v : Operand) (t : TypeId) (hop : o.op = Op.mapUpdate t m x v) {kt te et : TypeId} {inf : TypeInfo} {b : Nat} {L : List (Addr × Addr)}
    (hm : a.eval m = .map (some b)) (h : PMap w b L) (hmt : P.underlying t = some (.map kt et)) (hk : P.underlying kt = some (.pointer te)) (hte : P.info? te = some inf) (hsz : inf.size ≠ 0)
    (d u : Addr) (hx : a.eval x = .pointer (some d)) (hv : a.eval v = .pointer (some u)) (hd : AtCells w d) (hL : ∀ p ∈ L, AtCells w p.1) (hn : plook d L = none)
    (hK : ∀ w', PMap w' b (L ++ [(d, u)]) → w.grownBy w' (some b) → wpList P ops Q rest (a.put o.dst undef) w') :
    wpList P ops Q (o :: rest) a w := by
  refine wpList_plain hg fun K' hK' => ?_
  obtain ⟨w', hrun, r1, r2⟩ := h.update hmt hk hte hsz d u hd hL hn
  unfold Oper.wp
  simp [execOp, hop, hm, hx, hv, hrun, Result.andThen]
  exact hK' _ _ (hK w' r1 r2)
theorem zero_ptr (w : World) : (zeroValue 125).run Try.prog w = .ok (.pointer none) w := by go_simp

/-- A place from which nothing leads is its own end. -/
theorem end_any (w : World) (b : Nat) (L : List (Addr × Addr)) (d : Addr) (hm : PMap w b L) (hd : AtCells w d) (hL : ∀ p ∈ L, AtCells w p.1) (hn : plook d L = none) :
    Calls Try.prog 92 #[.map (some b), .pointer (some d)] w fun e w' => e = .returned (.pointer (some d)) ∧ w' = w := by
  obtain ⟨inf, hinf, hsz⟩ := size_type
  have hl := hm.lookup (mt := 158) Try.underlying158 Try.underlying125 hinf hsz (zero_ptr w) d hd hL
  rw [hn] at hl
  go_enter Try.func92, Try.ntmps92
  go_wp2
  go_loop [1] (fun i => i = .pointer (some d)) (fun _ => 0)
  case atStart => rfl
  case round =>
    subst hrel
    go_wp2_with (at_lookup; refine wpList_lookup_pm _ rfl (.tmp 6) (.tmp 7) 158 rfl rfl d rfl hl ?_)
    go_ret
    exact ⟨rfl, rfl⟩
end Go.Proofs.Ythdfomcpoofkaaa.Si
