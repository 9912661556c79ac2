/- Apply: a type with what is said in the stead of its variables; a copy. -/
import Derived.Test.YtclaabnjokkbjaaSbp
import Derived.Test.YtclaabnjokkbjaaSbm
import Derived.Outline
namespace Go.Proofs.Ytclaabnjokkbjaa
open Go.RowKit

mutual
theorem pcs_size (T : Int → Option Ty) : ∀ t, (apT T t).size = pcsT T t
  | .mk k nm v kids ls rv => by
    simp only [apT, pcsT]
    split
    · rfl
    · simp only [Ty.size, pcsL_size T kids]
theorem pcsL_size (T : Int → Option Ty) : ∀ l, Ty.sizeL (apTL T l) = pcsTL T l
  | [] => rfl
  | t :: r => by simp only [apTL, Ty.sizeL, pcsTL, pcs_size T t, pcsL_size T r]
end
theorem TRV.shape {w : World} {k : Int} {nm : Str} {v : Int} {kids : List Ty} {ls : List Str} {rv : Int} {l : List Value} (h : TRV w (.mk k nm v kids ls rv) l) : ∃ A n c B m d, l = tyC k nm v (.slice A n c) (.slice B m d) rv := by
  obtain ⟨kv, lv, rfl, h1, h2, _⟩ := h
  obtain ⟨A, c, rfl, _, _⟩ := h1.form
  obtain ⟨B, m, d, rfl⟩ : ∃ A n c, lv = .slice A n c := by rcases h2.1 with ⟨rfl, _⟩ | ⟨_, _, rfl, _⟩ <;> exact ⟨_, _, _, rfl⟩
  exact ⟨_, _, _, _, _, _, rfl⟩
set_option maxRecDepth 100000 in
set_option maxHeartbeats 8000000 in
theorem apply_anyJ (w : World) (sv : Value) (m : Nat) (T : Int → Option Ty) (R : Int → Option (List Str × Int)) (hs : SubV w sv m T R) (hm : m ≤ 1000000) (t : Ty) (l : List Value) (ht : TRV w t l) (hrf : rowsFree R T t) (hp : pcsT T t ≤ 1000) :
    Calls Try.prog 19 #[sv, .agg l.toArray] w fun e w' => ∃ l', e = .returned (.agg l'.toArray) ∧ (∀ w'', Kept (fun b => b < w.heap.size + 3) w' w'' → TFV w'' (apT T t) l' ∧ Tree1 (w.heap.size + 3) l' w'') ∧ Below w.heap.size w w' := by
  have hs0 := hs
  obtain ⟨vt, vr, gt, gr, rfl, hst, hsr, _, _⟩ := hs
  obtain ⟨A1, n1, c1, rfl⟩ := hst.one
  obtain ⟨A2, n2, c2, rfl⟩ := hsr.one
  have ht0 := ht
  obtain ⟨k, nm, v, kids, ls, rv⟩ := t
  obtain ⟨A3, n3, c3, A4, n4, c4, rfl⟩ := ht.shape
  unfold tyC at ht0 ⊢
  obtain ⟨W, hW⟩ : ∃ W, W = (((w.alloc (.cells #[.slice A1 n1 c1, .slice A2 n2 c2] 38)).alloc (.cells #[.int .i64 k, .string (ba nm), .int .i64 v, .slice A3 n3 c3, .slice A4 n4 c4, .int .i64 rv] 28)).alloc (.cells zeroT 28)).alloc (.cells #[.slice A1 n1 c1, .slice A2 n2 c2, .map none, .slice none 0 0] 85) := ⟨_, rfl⟩
  have hb : Below w.heap.size w W := by rw [hW]; exact ((((Below.refl _ w).alloc (Nat.le_refl _) _).alloc (by simp) _).alloc (by simp; omega) _).alloc (by simp; omega) _
  have k1 : Lies W (w.heap.size + 1) 28 #[.int .i64 k, .string (ba nm), .int .i64 v, .slice A3 n3 c3, .slice A4 n4 c4, .int .i64 rv] := by rw [hW]; exact ((Lies.new' _ _ _ (by simp)).alloc _).alloc _
  have k2 : Lies W (w.heap.size + 2) 28 zeroT := by rw [hW]; exact (Lies.new' _ _ _ (by simp)).alloc _
  have k3 : Lies W (w.heap.size + 3) 85 #[.slice A1 n1 c1, .slice A2 n2 c2, .map none, .slice none 0 0] := by rw [hW]; exact Lies.new' _ _ _ (by simp)
  have hpc := pieces_any T R (.mk k nm v kids ls rv) W (.agg #[.slice A1 n1 c1, .slice A2 n2 c2]) m _ 1000 (hs0.later hb) hm (ht0.later hb) hp (by omega)
  obtain ⟨P, hP⟩ : ∃ P, P = pcsT T (.mk k nm v kids ls rv) := ⟨_, rfl⟩
  rw [← hP] at hpc hp
  have HPC := Lib.hid hpc
  have HW := Lib.hid hW
  have HB := Lib.hid hb
  have HK1 := Lib.hid k1
  have HK2 := Lib.hid k2
  have HK3 := Lib.hid k3
  have HS := Lib.hid hs0
  have HT := Lib.hid ht0
  have HRF := Lib.hid hrf
  have HP := Lib.hid hP
  clear hpc hW hb k1 k2 k3 hs0 ht0 ht hrf hP hst hsr
  unfold zeroT at HW
  have hP1 : ¬ ((1000 : Int) < (P : Int)) := by omega
  go_enter Try.func19, Try.ntmps19
  go_wp2_with fail
  rw [← HW.out]
  refine HPC.out.mono ?_
  rintro e w5 ⟨rfl, hb5⟩
  have j1 := HK1.out.later hb5
  have j2 := HK2.out.later hb5
  have j3 := HK3.out.later hb5
  have t0 := j1.cell 0
  have t1 := j1.cell 1
  have t2 := j1.cell 2
  have t3 := j1.cell 3
  have t4 := j1.cell 4
  have t5 := j1.cell 5
  have hBw5 : Below w.heap.size w w5 := HB.out.trans (hb5.mono HB.out.size)
  have hwh := whole_any w w5 (w.heap.size + 3) _ _ m T R HS.out hm hBw5 (by omega) j3 (.mk k nm v kids ls rv) _ HT.out HRF.out (by rw [pcs_size, ← HP.out]; omega)
  have HWH := Lib.hid hwh
  have HBw5 := Lib.hid hBw5
  have HJ2 := Lib.hid j2
  clear hwh hBw5 j1 j2 j3
  go_wp2_with fail
  refine HWH.out.mono ?_
  rintro e w6 ⟨l', rfl, htf, hfr, htr, hch⟩
  have hb56 : Below w.heap.size w w6 := ⟨hch.os.trans HBw5.out.os, hch.tape.trans HBw5.out.tape, hch.output.trans HBw5.out.output, Nat.le_trans HBw5.out.size hch.size, fun i hi => (hch.block i (by have := HBw5.out.size; omega) (by omega) (fun e => by cases e)).trans (HBw5.out.block i hi)⟩
  have k6 : Lies w6 (w.heap.size + 2) 28 zeroT := (hch.block _ HJ2.out.lt (by omega) (fun e => by cases e)).trans HJ2.out
  have hfit := htf.trv.fit
  have hsc := hfit.1
  have hoc := hfit.2
  have HTF := Lib.hid hfr
  have HTR := Lib.hid htr
  have HSW := Lib.hid (show w.heap.size + 1 ≤ w5.heap.size by have := HJ2.out.lt; omega)
  clear hfr htr
  unfold zeroT at k6
  clear htf hfit hch
  go_wp2_with (first | (refine wpList_store_rowTo rfl 28 (.tmp 4) (.tmp 15) rfl rfl (w.heap.size + 2) l'.toArray rfl rfl 28 _ k6 (by rw [size_T, hsc]) (by rw [hsc]; rfl) hoc ?_))
  refine bodyPost_ret (results_cell_row rfl _ _ (w.heap.size + 2) 28 _ (0, 0) _ rfl (Sb.setRow_at k6 l'.toArray) Try.underlying28 rfl (by rw [size_T, hsc])) rfl ?_
  refine ⟨l', rfl, ?_, Sb.below_setRow hb56 (by omega) _⟩
  intro w'' hk
  have hkk : Kept (fun b => b < w5.heap.size + 2) w6 w'' := ⟨Nat.le_trans (by rw [size_setRow]; exact Nat.le_refl _) hk.1, fun b hlt hn => (hk.2 b (by rw [size_setRow]; exact hlt) fun e => hn (by show b < w5.heap.size + 2; have := HBw5.out.size; have e' : b < w.heap.size + 3 := e; have := HJ2.out.lt; omega)).trans (Sb.setRow_other _ _ _ b fun e => hn (by show b < w5.heap.size + 2; have := HJ2.out.lt; omega))⟩
  exact ⟨HTF.out _ hkk, (HTR.out.kept hkk).mono (by have := HSW.out; omega)⟩
theorem apply_any (w : World) (sv : Value) (m : Nat) (T : Int → Option Ty) (R : Int → Option (List Str × Int)) (hs : SubV w sv m T R) (hm : m ≤ 1000000) (t : Ty) (l : List Value) (ht : TRV w t l) (hrf : rowsFree R T t) (hp : pcsT T t ≤ 1000) :
    Calls Try.prog 19 #[sv, .agg l.toArray] w fun e w' => ∃ l', e = .returned (.agg l'.toArray) ∧ (∀ w'', Kept (fun b => b < w.heap.size + 3) w' w'' → TFV w'' (apT T t) l') ∧ Below w.heap.size w w' :=
  (apply_anyJ w sv m T R hs hm t l ht hrf hp).mono fun e w' ⟨l', h1, h2, h3⟩ => ⟨l', h1, fun w'' hk => (h2 w'' hk).1, h3⟩
end Go.Proofs.Ytclaabnjokkbjaa

/- A copy of a type. -/
namespace Go.Proofs.Ytclaabnjokkbjaa
open Go.RowKit

set_option maxRecDepth 100000 in
set_option maxHeartbeats 8000000 in
theorem copied_any (w : World) (t : Ty) (l : List Value) (ht : TRV w t l) (hp : t.size ≤ 1000) :
    Calls Try.prog 33 #[.agg l.toArray] w fun e w' => ∃ l', e = .returned (.agg l'.toArray) ∧ (∀ w'', Kept (fun b => b < w.heap.size + 2) w' w'' → TFV w'' t l') ∧ Below w.heap.size w w' := by
  have ht0 := ht
  obtain ⟨k, nm, v, kids, ls, rv⟩ := t
  obtain ⟨A3, n3, c3, A4, n4, c4, rfl⟩ := ht.shape
  have hap := fun w7 (hb : Below w.heap.size w w7) => apply_any w7 noneV 0 T0 R0 (SubV.none w7 0) (by omega) (.mk k nm v kids ls rv) _ (ht0.later hb) (rowsFree0 T0 _) (by rw [pcsT0]; exact hp)
  rw [apT0] at hap
  unfold tyC noneV at hap
  unfold tyC at ht0 ⊢
  obtain ⟨W, hW⟩ : ∃ W, W = (w.alloc (.cells #[.int .i64 k, .string (ba nm), .int .i64 v, .slice A3 n3 c3, .slice A4 n4 c4, .int .i64 rv] 28)).alloc (.cells zeroT 28) := ⟨_, rfl⟩
  have hb : Below w.heap.size w W := by rw [hW]; exact ((Below.refl _ w).alloc (Nat.le_refl _) _).alloc (by simp) _
  have k1 : Lies W w.heap.size 28 #[.int .i64 k, .string (ba nm), .int .i64 v, .slice A3 n3 c3, .slice A4 n4 c4, .int .i64 rv] := by rw [hW]; exact (Lies.new _ _ _).alloc _
  have k2 : Lies W (w.heap.size + 1) 28 zeroT := by rw [hW]; exact Lies.new' _ _ _ (by simp)
  have hS : (W.cell? ⟨w.heap.size, 0, none⟩ = some (.int .i64 k) ∧ W.cell? ⟨w.heap.size, 1, none⟩ = some (.string (ba nm)) ∧ W.cell? ⟨w.heap.size, 2, none⟩ = some (.int .i64 v) ∧ W.cell? ⟨w.heap.size, 3, none⟩ = some (.slice A3 n3 c3) ∧ W.cell? ⟨w.heap.size, 4, none⟩ = some (.slice A4 n4 c4) ∧ W.cell? ⟨w.heap.size, 5, none⟩ = some (.int .i64 rv)) ∧ Below w.heap.size w W := ⟨⟨k1.cell 0, k1.cell 1, k1.cell 2, k1.cell 3, k1.cell 4, k1.cell 5⟩, hb⟩
  have hk : ∀ V V' : World, ((V.cell? ⟨w.heap.size, 0, none⟩ = some (.int .i64 k) ∧ V.cell? ⟨w.heap.size, 1, none⟩ = some (.string (ba nm)) ∧ V.cell? ⟨w.heap.size, 2, none⟩ = some (.int .i64 v) ∧ V.cell? ⟨w.heap.size, 3, none⟩ = some (.slice A3 n3 c3) ∧ V.cell? ⟨w.heap.size, 4, none⟩ = some (.slice A4 n4 c4) ∧ V.cell? ⟨w.heap.size, 5, none⟩ = some (.int .i64 rv)) ∧ Below w.heap.size w V) → V'.heap[w.heap.size]? = V.heap[w.heap.size]? → Below w.heap.size V V' → (V'.cell? ⟨w.heap.size, 0, none⟩ = some (.int .i64 k) ∧ V'.cell? ⟨w.heap.size, 1, none⟩ = some (.string (ba nm)) ∧ V'.cell? ⟨w.heap.size, 2, none⟩ = some (.int .i64 v) ∧ V'.cell? ⟨w.heap.size, 3, none⟩ = some (.slice A3 n3 c3) ∧ V'.cell? ⟨w.heap.size, 4, none⟩ = some (.slice A4 n4 c4) ∧ V'.cell? ⟨w.heap.size, 5, none⟩ = some (.int .i64 rv)) ∧ Below w.heap.size w V' := fun V V' h hb hb2 => by
    obtain ⟨⟨h0, h1, h2, h3, h4, h5⟩, h6⟩ := h
    have e : ∀ j, V'.cell? ⟨w.heap.size, j, none⟩ = V.cell? ⟨w.heap.size, j, none⟩ := fun j => World.cell?_of_block (w := V) (a := ⟨w.heap.size, j, none⟩) hb
    exact ⟨⟨(e 0).trans h0, (e 1).trans h1, (e 2).trans h2, (e 3).trans h3, (e 4).trans h4, (e 5).trans h5⟩, h6.trans hb2⟩
  have hdr : W.drew.heap[w.heap.size]? = W.heap[w.heap.size]? := rfl
  have hlt := k1.lt
  have hlt2 := k2.lt
  have HAP := Lib.hid hap
  have HW := Lib.hid hW
  have HB := Lib.hid hb
  have HK2 := Lib.hid k2
  have HK := Lib.hid hk
  clear hap hW hb k1 k2 ht0 ht hk
  unfold zeroT at HW HK2
  go_enter Try.func33, Try.ntmps33
  go_wp2_with fail
  rw [← HW.out]
  go_region_held3 (fun VV => (VV.cell? ⟨w.heap.size, 0, none⟩ = some (.int .i64 k) ∧ VV.cell? ⟨w.heap.size, 1, none⟩ = some (.string (ba nm)) ∧ VV.cell? ⟨w.heap.size, 2, none⟩ = some (.int .i64 v) ∧ VV.cell? ⟨w.heap.size, 3, none⟩ = some (.slice A3 n3 c3) ∧ VV.cell? ⟨w.heap.size, 4, none⟩ = some (.slice A4 n4 c4) ∧ VV.cell? ⟨w.heap.size, 5, none⟩ = some (.int .i64 rv)) ∧ Below w.heap.size w VV)
    (first | with_reducible exact HK.out _ _ hS hdr (Below.refl _ _).drew | with_reducible exact HK.out _ _ hS (hb7.block _ hlt) (hb7.mono HB.out.size) | with_reducible exact HK.out _ _ hS (hb8.block _ hlt) (hb8.mono HB.out.size) | with_reducible exact HK.out _ _ hS (hq0.trans (hb8.block _ hlt)) ((hb8.mono HB.out.size).trans hq1))
    (first | (go_at_call 25; refine (none_any _).mono ?_; rintro e w7 ⟨rfl, hb7a⟩; have hb7 : Below W.heap.size W w7 := (Below.refl _ _).drew.trans hb7a; unfold noneV) | (go_at_call 19; refine (HAP.out w7 (HB.out.trans (hb7.mono HB.out.size))).mono ?_; rintro e w8 ⟨l', rfl, htf, hb8a⟩; have hb8 : Below W.heap.size W w8 := hb7.trans (hb8a.mono hb7.size); have HS7 := Lib.hid hb7.size; have HTF := Lib.hid htf; obtain ⟨A5, n5, c5, A6, n6, c6, rfl⟩ := (htf w8 ⟨Nat.le_refl _, fun _ _ _ => rfl⟩).trv.shape; clear htf; unfold tyC; have m2 := HK2.out.later hb8; have mc0 := m2.cell 0; have mc1 := m2.cell 1; have mc2 := m2.cell 2; have mc3 := m2.cell 3; have mc4 := m2.cell 4; have mc5 := m2.cell 5; have mf0 := m2.free 0; have mf1 := m2.free 1; have mf2 := m2.free 2; have mf3 := m2.free 3; have mf4 := m2.free 4; have mf5 := m2.free 5; have ml := m2.lt; have hqa : Below (w.heap.size + 1) w8 ((((((w8.setCell ⟨w.heap.size + 1, 0, none⟩ (.int .i64 k)).setCell ⟨w.heap.size + 1, 1, none⟩ (.string (ba nm))).setCell ⟨w.heap.size + 1, 2, none⟩ (.int .i64 v)).setCell ⟨w.heap.size + 1, 3, none⟩ (.slice A5 n5 c5)).setCell ⟨w.heap.size + 1, 4, none⟩ (.slice A6 n6 c6)).setCell ⟨w.heap.size + 1, 5, none⟩ (.int .i64 rv)) := (((((((Below.refl (w.heap.size + 1) w8).setCell (p := ⟨w.heap.size + 1, 0, none⟩) (Nat.le_refl _) _).setCell (p := ⟨w.heap.size + 1, 1, none⟩) (Nat.le_refl _) _).setCell (p := ⟨w.heap.size + 1, 2, none⟩) (Nat.le_refl _) _).setCell (p := ⟨w.heap.size + 1, 3, none⟩) (Nat.le_refl _) _).setCell (p := ⟨w.heap.size + 1, 4, none⟩) (Nat.le_refl _) _).setCell (p := ⟨w.heap.size + 1, 5, none⟩) (Nat.le_refl _) _); have hq1 : Below w.heap.size w8 ((((((w8.setCell ⟨w.heap.size + 1, 0, none⟩ (.int .i64 k)).setCell ⟨w.heap.size + 1, 1, none⟩ (.string (ba nm))).setCell ⟨w.heap.size + 1, 2, none⟩ (.int .i64 v)).setCell ⟨w.heap.size + 1, 3, none⟩ (.slice A5 n5 c5)).setCell ⟨w.heap.size + 1, 4, none⟩ (.slice A6 n6 c6)).setCell ⟨w.heap.size + 1, 5, none⟩ (.int .i64 rv)) := hqa.mono (Nat.le_succ _); have hq0 : ((((((w8.setCell ⟨w.heap.size + 1, 0, none⟩ (.int .i64 k)).setCell ⟨w.heap.size + 1, 1, none⟩ (.string (ba nm))).setCell ⟨w.heap.size + 1, 2, none⟩ (.int .i64 v)).setCell ⟨w.heap.size + 1, 3, none⟩ (.slice A5 n5 c5)).setCell ⟨w.heap.size + 1, 4, none⟩ (.slice A6 n6 c6)).setCell ⟨w.heap.size + 1, 5, none⟩ (.int .i64 rv)).heap[w.heap.size]? = w8.heap[w.heap.size]? := hqa.block _ (Nat.lt_succ_self _); have hqo : ∀ g, g ≠ w.heap.size + 1 → ((((((w8.setCell ⟨w.heap.size + 1, 0, none⟩ (.int .i64 k)).setCell ⟨w.heap.size + 1, 1, none⟩ (.string (ba nm))).setCell ⟨w.heap.size + 1, 2, none⟩ (.int .i64 v)).setCell ⟨w.heap.size + 1, 3, none⟩ (.slice A5 n5 c5)).setCell ⟨w.heap.size + 1, 4, none⟩ (.slice A6 n6 c6)).setCell ⟨w.heap.size + 1, 5, none⟩ (.int .i64 rv)).heap[g]? = w8.heap[g]? := (fun g hg => ((Below.heap_setCell _ ⟨w.heap.size + 1, 5, none⟩ _ g hg).trans ((Below.heap_setCell _ ⟨w.heap.size + 1, 4, none⟩ _ g hg).trans ((Below.heap_setCell _ ⟨w.heap.size + 1, 3, none⟩ _ g hg).trans ((Below.heap_setCell _ ⟨w.heap.size + 1, 2, none⟩ _ g hg).trans ((Below.heap_setCell _ ⟨w.heap.size + 1, 1, none⟩ _ g hg).trans (Below.heap_setCell _ ⟨w.heap.size + 1, 0, none⟩ _ g hg))))))); have HM2 := Lib.hid m2; have HQO := Lib.hid hqo; have HQA := Lib.hid hqa; clear m2 hqo hqa))
  have n6' := (((((HM2.out.set 0 (.int .i64 k)).set 1 (.string (ba nm))).set 2 (.int .i64 v)).set 3 (.slice A5 n5 c5)).set 4 (.slice A6 n6 c6)).set 5 (.int .i64 rv)
  go_wp2_with fail
  refine bodyPost_ret (v := .agg #[.int .i64 k, .string (ba nm), .int .i64 v, .slice A5 n5 c5, .slice A6 n6 c6, .int .i64 rv]) (results_cell_row rfl _ _ (w.heap.size + 1) 28 _ (0, 0) _ rfl n6' Try.underlying28 rfl size_T) rfl ?_
  refine ⟨[.int .i64 k, .string (ba nm), .int .i64 v, .slice A5 n5 c5, .slice A6 n6 c6, .int .i64 rv], rfl, ?_, ((HB.out.trans (hb8.mono HB.out.size)).trans (HQA.out.mono (Nat.le_succ _)))⟩
  intro w'' hkk
  refine HTF.out _ ⟨Nat.le_trans HQA.out.size hkk.1, fun b hlt' hn => (hkk.2 b (Nat.lt_of_lt_of_le hlt' HQA.out.size) fun e => hn ?_).trans (HQO.out b fun e => hn ?_)⟩
  · have := HS7.out; show b < w7.heap.size + 3; have e' : b < w.heap.size + 2 := e; omega
  · have := HS7.out; show b < w7.heap.size + 3; omega
end Go.Proofs.Ytclaabnjokkbjaa

/- What is read is kept where the blocks that can be read are; a world without some blocks. -/
namespace Go.Proofs.Ytclaabnjokkbjaa
open Go.RowKit

/-- Something can be read in a block. -/
def live (w : World) (g : Nat) : Prop := (∃ a v, a.block = g ∧ w.cell? a = some v) ∨ ∃ es c, w.heap[g]? = some (.map es c)
theorem live.lt {w : World} {g : Nat} (h : live w g) : g < w.heap.size := by
  rcases h with ⟨a, v, rfl, h⟩ | ⟨es, c, h⟩
  · exact World.block_lt_of_cell? w a h
  · exact (Array.getElem?_eq_some_iff.1 h).1
theorem SrcV.keepL {w w' : World} {u : Value} {xs : List Value} (h : SrcV w u xs) (hk : ∀ g, live w g → w'.heap[g]? = w.heap[g]?) : SrcV w' u xs := by
  rcases h with h | ⟨ad, c, h1, h2, h3⟩
  · exact .inl h
  · refine .inr ⟨ad, c, h1, h2, fun j q hq => ?_⟩
    have h4 := h3 j q hq
    exact (World.cell?_of_block (w := w) (hk _ (.inl ⟨_, _, rfl, h4⟩))).trans h4
theorem StrR.keepL {w w' : World} {v : Value} {ls : List Str} (h : StrR w v ls) (hk : ∀ g, live w g → w'.heap[g]? = w.heap[g]?) : StrR w' v ls := ⟨h.1.keepL hk, h.2⟩
theorem reads_live {w : World} {a : Addr} {l : List Value} (h : ReadsAt w a l) (h0 : 0 < l.length) : live w a.block := by
  have := h 0 (l[0]'h0) (List.getElem?_eq_getElem h0)
  exact .inl ⟨⟨a.block, a.off + 0, none⟩, _, rfl, this⟩
theorem TR.keepL {w w' : World} (hk : ∀ g, live w g → w'.heap[g]? = w.heap[g]?) {a : Addr} {t : Ty} (h : TR w a t) : TR w' a t := by
  induction h with
  | mk a k nm v kids ls rv kv lv h0 hr hsl hl hi _ ih =>
    exact .mk a k nm v kids ls rv kv lv h0 (hr.keep (hk _ (reads_live hr (by simp [tyC])))) hsl (hl.keepL hk) hi ih
theorem TRV.keepL {w w' : World} (hk : ∀ g, live w g → w'.heap[g]? = w.heap[g]?) {t : Ty} {l : List Value} (h : TRV w t l) : TRV w' t l := by
  obtain ⟨k, nm, v, kids, ls, rv⟩ := t
  obtain ⟨kv, lv, h1, h2, h3, h4, h5⟩ := h
  exact ⟨kv, lv, h1, h2, h3.keepL hk, h4, fun i t ht => (h5 i t ht).keepL hk⟩
theorem RwV.keepL {w w' : World} (hk : ∀ g, live w g → w'.heap[g]? = w.heap[g]?) {r : List Str × Int} {l : List Value} (h : RwV w r l) : RwV w' r l := by
  obtain ⟨lv, h1, h2, h3⟩ := h
  exact ⟨lv, h1, h2.keepL hk, h3⟩
theorem MapI.live {w : World} {k b m : Nat} {g : GMap} (h : MapI w k b m g) : live w b := by
  obtain ⟨es, c, h1, _⟩ := h.isMap
  exact .inr ⟨es, c, h1⟩
theorem SaidV.keepL {w w' : World} {k m : Nat} {v : Value} {g : GMap} (h : SaidV w k v m g) (hk : ∀ g, live w g → w'.heap[g]? = w.heap[g]?) : SaidV w' k v m g := by
  obtain ⟨zs, h1, h2, h3, h4, h5⟩ := h
  exact ⟨zs, h1.keepL hk, fun l hl => (h2 l hl).keep (hk _ (h2 l hl).live), h3, h4, h5⟩
theorem TM.keepL {w w' : World} {T : Int → Option Ty} {g : GMap} (h : TM w T g) (hk : ∀ g, live w g → w'.heap[g]? = w.heap[g]?) : TM w' T g := by
  intro n hn
  have h1 := h n hn
  cases hT : T n with
  | none => rw [hT] at h1; exact h1
  | some t =>
    rw [hT] at h1
    obtain ⟨l, h2, h3⟩ := h1
    exact ⟨l, h2, h3.keepL hk⟩
theorem RM.keepL {w w' : World} {R : Int → Option (List Str × Int)} {g : GMap} (h : RM w R g) (hk : ∀ g, live w g → w'.heap[g]? = w.heap[g]?) : RM w' R g := by
  intro n hn
  have h1 := h n hn
  cases hT : R n with
  | none => rw [hT] at h1; exact h1
  | some t =>
    rw [hT] at h1
    obtain ⟨l, h2, h3⟩ := h1
    exact ⟨l, h2, h3.keepL hk⟩
theorem SubV.keepL {w w' : World} {v : Value} {m : Nat} {T : Int → Option Ty} {R : Int → Option (List Str × Int)} (h : SubV w v m T R) (hk : ∀ g, live w g → w'.heap[g]? = w.heap[g]?) : SubV w' v m T R := by
  obtain ⟨vt, vr, gt, gr, h1, h2, h3, h4, h5⟩ := h
  exact ⟨vt, vr, gt, gr, h1, h2.keepL hk, h3.keepL hk, h4.keepL hk, h5.keepL hk⟩
open Classical in
/-- The world without some blocks. -/
noncomputable def blank (X : Nat → Prop) (w : World) : World := { w with heap := w.heap.mapIdx fun i o => if X i then .cells #[] 0 (0, 0) else o }
theorem blank_at {X : Nat → Prop} {w : World} {g : Nat} (h : ¬ X g) : (blank X w).heap[g]? = w.heap[g]? := by
  unfold blank
  simp [h]
theorem blank_size (X : Nat → Prop) (w : World) : (blank X w).heap.size = w.heap.size := by
  unfold blank
  simp
theorem blank_live {X : Nat → Prop} {w : World} {g : Nat} (h : live (blank X w) g) : ¬ X g ∧ g < w.heap.size := by
  have hlt := h.lt
  rw [blank_size] at hlt
  refine ⟨fun hx => ?_, hlt⟩
  have hb : (blank X w).heap[g]? = some (.cells #[] 0 (0, 0)) := by
    unfold blank
    simp [hx, hlt]
  rcases h with ⟨a, v, rfl, h⟩ | ⟨es, c, h⟩
  · obtain ⟨g, o, sp⟩ := a
    have h2 := World.cell?_spot (a := ⟨g, o, sp⟩) h
    subst h2
    rw [cell_of_row (blank X w) g o #[] 0 (0, 0) hb] at h
    simp at h
  · rw [hb] at h
    cases h
/-- From a world without some blocks to one that is like it elsewhere. -/
theorem blank_to {X Y : Nat → Prop} {w w' : World} (hk : Kept Y w w') (hy : ∀ b, b < w.heap.size → Y b → X b) : ∀ g, live (blank X w) g → w'.heap[g]? = (blank X w).heap[g]? := fun g hg => by
  obtain ⟨h1, h2⟩ := blank_live hg
  rw [blank_at h1]
  exact hk.2 g h2 (fun h => h1 (hy g h2 h))
theorem blank_blank {X Y : Nat → Prop} {w w' : World} (hk : Kept Y w w') (hy : ∀ b, b < w.heap.size → Y b → X b) : ∀ g, live (blank X w) g → (blank X w').heap[g]? = (blank X w).heap[g]? := fun g hg => by
  rw [blank_at (blank_live hg).1]
  exact blank_to hk hy g hg
theorem blank_more {X : Nat → Prop} {w w' : World} (hb : Below w.heap.size w w') : ∀ g, live (blank X w) g → (blank (fun b => X b ∨ w.heap.size ≤ b) w').heap[g]? = (blank X w).heap[g]? := fun g hg => by
  obtain ⟨h1, h2⟩ := blank_live hg
  rw [blank_at h1, blank_at (fun h => by rcases h with h | h; exact h1 h; omega)]
  exact hb.block g h2
theorem Kept.of_below {w w' : World} (h : Below w.heap.size w w') : Kept (fun _ => False) w w' := ⟨h.size, fun b hb _ => h.block b hb⟩
end Go.Proofs.Ytclaabnjokkbjaa
