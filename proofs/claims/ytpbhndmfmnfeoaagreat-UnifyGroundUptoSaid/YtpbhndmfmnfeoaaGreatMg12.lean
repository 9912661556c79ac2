/- Apply: a type with what is said in the stead of its variables; a copy. -/
import Derived.Test.YtpbhndmfmnfeoaaGreatSbp
import Derived.Test.YtpbhndmfmnfeoaaGreatSbm
import Derived.Test.YtpbhndmfmnfeoaaGreatMg01
import Derived.Outline
namespace Go.Proofs.YtpbhndmfmnfeoaaGreat
open Go.RowKit

mutual
theorem pcs_size (T : Int → Option Ty) : ∀ t, (apT T t).size = pcsT T t
  | .mk k nm v kids ls rv => by
    simp only [apT, pcsT]
    split
    · rfl
    · simp only [Ty.size, pcsL_size T kids]
theorem pcsL_size (T : Int → Option Ty) : ∀ l, Ty.sizeL (apTL T l) = pcsTL T l
  | [] => rfl
  | t :: r => by simp only [apTL, Ty.sizeL, pcsTL, pcs_size T t, pcsL_size T r]
end
theorem TRV.shape {w : World} {k : Int} {nm : Str} {v : Int} {kids : List Ty} {ls : List Str} {rv : Int} {l : List Value} (h : TRV w (.mk k nm v kids ls rv) l) : ∃ A n c B m d, l = tyC k nm v (.slice A n c) (.slice B m d) rv := by
  obtain ⟨kv, lv, rfl, h1, h2, _⟩ := h
  obtain ⟨A, c, rfl, _, _⟩ := h1.form
  obtain ⟨B, m, d, rfl⟩ : ∃ A n c, lv = .slice A n c := by rcases h2.1 with ⟨rfl, _⟩ | ⟨_, _, rfl, _⟩ <;> exact ⟨_, _, _, rfl⟩
  exact ⟨_, _, _, _, _, _, rfl⟩
set_option maxRecDepth 100000 in
set_option maxHeartbeats 8000000 in
theorem apply_anyJ (w : World) (sv : Value) (m : Nat) (T : Int → Option Ty) (R : Int → Option (List Str × Int)) (hs : SubV w sv m T R) (hm : m ≤ 1000000) (t : Ty) (l : List Value) (ht : TRV w t l) (hrf : rowsFree R T t) (hp : pcsT T t ≤ 1000) :
    Calls Tryz.prog 16 #[sv, .agg l.toArray] w fun e w' => ∃ l', e = .returned (.agg l'.toArray) ∧ (∀ w'', Kept (fun b => b < w.heap.size + 3) w' w'' → TFV w'' (apT T t) l' ∧ Tree1 (w.heap.size + 3) l' w'') ∧ Below w.heap.size w w' := by
  have hs0 := hs
  obtain ⟨vt, vr, gt, gr, rfl, hst, hsr, _, _⟩ := hs
  obtain ⟨A1, n1, c1, rfl⟩ := hst.one
  obtain ⟨A2, n2, c2, rfl⟩ := hsr.one
  have ht0 := ht
  obtain ⟨k, nm, v, kids, ls, rv⟩ := t
  obtain ⟨A3, n3, c3, A4, n4, c4, rfl⟩ := ht.shape
  unfold tyC at ht0 ⊢
  obtain ⟨W, hW⟩ : ∃ W, W = (((w.alloc (.cells #[.slice A1 n1 c1, .slice A2 n2 c2] 34)).alloc (.cells #[.int .i64 k, .string (ba nm), .int .i64 v, .slice A3 n3 c3, .slice A4 n4 c4, .int .i64 rv] 44)).alloc (.cells zeroT 44)).alloc (.cells #[.slice A1 n1 c1, .slice A2 n2 c2, .map none, .slice none 0 0] 63) := ⟨_, rfl⟩
  have hb : Below w.heap.size w W := by rw [hW]; exact ((((Below.refl _ w).alloc (Nat.le_refl _) _).alloc (by simp) _).alloc (by simp; omega) _).alloc (by simp; omega) _
  have k1 : Lies W (w.heap.size + 1) 44 #[.int .i64 k, .string (ba nm), .int .i64 v, .slice A3 n3 c3, .slice A4 n4 c4, .int .i64 rv] := by rw [hW]; exact ((Lies.new' _ _ _ (by simp)).alloc _).alloc _
  have k2 : Lies W (w.heap.size + 2) 44 zeroT := by rw [hW]; exact (Lies.new' _ _ _ (by simp)).alloc _
  have k3 : Lies W (w.heap.size + 3) 63 #[.slice A1 n1 c1, .slice A2 n2 c2, .map none, .slice none 0 0] := by rw [hW]; exact Lies.new' _ _ _ (by simp)
  have hpc := pieces_any T R (.mk k nm v kids ls rv) W (.agg #[.slice A1 n1 c1, .slice A2 n2 c2]) m _ 1000 (hs0.later hb) hm (ht0.later hb) hp (by omega)
  obtain ⟨P, hP⟩ : ∃ P, P = pcsT T (.mk k nm v kids ls rv) := ⟨_, rfl⟩
  rw [← hP] at hpc hp
  have HPC := Lib.hid hpc
  have HW := Lib.hid hW
  have HB := Lib.hid hb
  have HK1 := Lib.hid k1
  have HK2 := Lib.hid k2
  have HK3 := Lib.hid k3
  have HS := Lib.hid hs0
  have HT := Lib.hid ht0
  have HRF := Lib.hid hrf
  have HP := Lib.hid hP
  clear hpc hW hb k1 k2 k3 hs0 ht0 ht hrf hP hst hsr
  unfold zeroT at HW
  have hP1 : ¬ ((1000 : Int) < (P : Int)) := by omega
  go_enter Tryz.func16, Tryz.ntmps16
  go_wp2_with fail
  rw [← HW.out]
  refine HPC.out.mono ?_
  rintro e w5 ⟨rfl, hb5⟩
  have j1 := HK1.out.later hb5
  have j2 := HK2.out.later hb5
  have j3 := HK3.out.later hb5
  have t0 := j1.cell 0
  have t1 := j1.cell 1
  have t2 := j1.cell 2
  have t3 := j1.cell 3
  have t4 := j1.cell 4
  have t5 := j1.cell 5
  have hBw5 : Below w.heap.size w w5 := HB.out.trans (hb5.mono HB.out.size)
  have hwh := whole_any w w5 (w.heap.size + 3) _ _ m T R HS.out hm hBw5 (by omega) j3 (.mk k nm v kids ls rv) _ HT.out HRF.out (by rw [pcs_size, ← HP.out]; omega)
  have HWH := Lib.hid hwh
  have HBw5 := Lib.hid hBw5
  have HJ2 := Lib.hid j2
  clear hwh hBw5 j1 j2 j3
  go_wp2_with fail
  refine HWH.out.mono ?_
  rintro e w6 ⟨l', rfl, htf, hfr, htr, hch⟩
  have hb56 : Below w.heap.size w w6 := ⟨hch.os.trans HBw5.out.os, hch.tape.trans HBw5.out.tape, hch.output.trans HBw5.out.output, Nat.le_trans HBw5.out.size hch.size, fun i hi => (hch.block i (by have := HBw5.out.size; omega) (by omega) (fun e => by cases e)).trans (HBw5.out.block i hi)⟩
  have k6 : Lies w6 (w.heap.size + 2) 44 zeroT := (hch.block _ HJ2.out.lt (by omega) (fun e => by cases e)).trans HJ2.out
  have hfit := htf.trv.fit
  have hsc := hfit.1
  have hoc := hfit.2
  have HTF := Lib.hid hfr
  have HTR := Lib.hid htr
  have HSW := Lib.hid (show w.heap.size + 1 ≤ w5.heap.size by have := HJ2.out.lt; omega)
  clear hfr htr
  unfold zeroT at k6
  clear htf hfit hch
  go_wp2_with (first | (refine wpList_store_rowTo rfl 44 (.tmp 4) (.tmp 15) rfl rfl (w.heap.size + 2) l'.toArray rfl rfl 44 _ k6 (by rw [size_T, hsc]) (by rw [hsc]; rfl) hoc ?_))
  refine bodyPost_ret (results_cell_row rfl _ _ (w.heap.size + 2) 44 _ (0, 0) _ rfl (Sb.setRow_at k6 l'.toArray) Tryz.underlying44 rfl (by rw [size_T, hsc])) rfl ?_
  refine ⟨l', rfl, ?_, Sb.below_setRow hb56 (by omega) _⟩
  intro w'' hk
  have hkk : Kept (fun b => b < w5.heap.size + 2) w6 w'' := ⟨Nat.le_trans (by rw [size_setRow]; exact Nat.le_refl _) hk.1, fun b hlt hn => (hk.2 b (by rw [size_setRow]; exact hlt) fun e => hn (by show b < w5.heap.size + 2; have := HBw5.out.size; have e' : b < w.heap.size + 3 := e; have := HJ2.out.lt; omega)).trans (Sb.setRow_other _ _ _ b fun e => hn (by show b < w5.heap.size + 2; have := HJ2.out.lt; omega))⟩
  exact ⟨HTF.out _ hkk, (HTR.out.kept hkk).mono (by have := HSW.out; omega)⟩
theorem apply_any (w : World) (sv : Value) (m : Nat) (T : Int → Option Ty) (R : Int → Option (List Str × Int)) (hs : SubV w sv m T R) (hm : m ≤ 1000000) (t : Ty) (l : List Value) (ht : TRV w t l) (hrf : rowsFree R T t) (hp : pcsT T t ≤ 1000) :
    Calls Tryz.prog 16 #[sv, .agg l.toArray] w fun e w' => ∃ l', e = .returned (.agg l'.toArray) ∧ (∀ w'', Kept (fun b => b < w.heap.size + 3) w' w'' → TFV w'' (apT T t) l') ∧ Below w.heap.size w w' :=
  (apply_anyJ w sv m T R hs hm t l ht hrf hp).mono fun _ _ ⟨l', h1, h2, h3⟩ => ⟨l', h1, fun w'' hk => (h2 w'' hk).1, h3⟩
end Go.Proofs.YtpbhndmfmnfeoaaGreat

/- A copy of a type. -/
namespace Go.Proofs.YtpbhndmfmnfeoaaGreat
open Go.RowKit

set_option maxRecDepth 100000 in
set_option maxHeartbeats 8000000 in
theorem copied_any (w : World) (t : Ty) (l : List Value) (ht : TRV w t l) (hp : t.size ≤ 1000) :
    Calls Tryz.prog 73 #[.agg l.toArray] w fun e w' => ∃ l', e = .returned (.agg l'.toArray) ∧ (∀ w'', Kept (fun b => b < w.heap.size + 2) w' w'' → TFV w'' t l') ∧ Below w.heap.size w w' := by
  have ht0 := ht
  obtain ⟨k, nm, v, kids, ls, rv⟩ := t
  obtain ⟨A3, n3, c3, A4, n4, c4, rfl⟩ := ht.shape
  have hap := fun w7 (hb : Below w.heap.size w w7) => apply_any w7 noneV 0 T0 R0 (SubV.none w7 0) (by omega) (.mk k nm v kids ls rv) _ (ht0.later hb) (rowsFree0 T0 _) (by rw [pcsT0]; exact hp)
  rw [apT0] at hap
  unfold tyC noneV at hap
  unfold tyC at ht0 ⊢
  obtain ⟨W, hW⟩ : ∃ W, W = (w.alloc (.cells #[.int .i64 k, .string (ba nm), .int .i64 v, .slice A3 n3 c3, .slice A4 n4 c4, .int .i64 rv] 44)).alloc (.cells zeroT 44) := ⟨_, rfl⟩
  have hb : Below w.heap.size w W := by rw [hW]; exact ((Below.refl _ w).alloc (Nat.le_refl _) _).alloc (by simp) _
  have k1 : Lies W w.heap.size 44 #[.int .i64 k, .string (ba nm), .int .i64 v, .slice A3 n3 c3, .slice A4 n4 c4, .int .i64 rv] := by rw [hW]; exact (Lies.new _ _ _).alloc _
  have k2 : Lies W (w.heap.size + 1) 44 zeroT := by rw [hW]; exact Lies.new' _ _ _ (by simp)
  have hS : (W.cell? ⟨w.heap.size, 0, none⟩ = some (.int .i64 k) ∧ W.cell? ⟨w.heap.size, 1, none⟩ = some (.string (ba nm)) ∧ W.cell? ⟨w.heap.size, 2, none⟩ = some (.int .i64 v) ∧ W.cell? ⟨w.heap.size, 3, none⟩ = some (.slice A3 n3 c3) ∧ W.cell? ⟨w.heap.size, 4, none⟩ = some (.slice A4 n4 c4) ∧ W.cell? ⟨w.heap.size, 5, none⟩ = some (.int .i64 rv)) ∧ Below w.heap.size w W := ⟨⟨k1.cell 0, k1.cell 1, k1.cell 2, k1.cell 3, k1.cell 4, k1.cell 5⟩, hb⟩
  have hk : ∀ V V' : World, ((V.cell? ⟨w.heap.size, 0, none⟩ = some (.int .i64 k) ∧ V.cell? ⟨w.heap.size, 1, none⟩ = some (.string (ba nm)) ∧ V.cell? ⟨w.heap.size, 2, none⟩ = some (.int .i64 v) ∧ V.cell? ⟨w.heap.size, 3, none⟩ = some (.slice A3 n3 c3) ∧ V.cell? ⟨w.heap.size, 4, none⟩ = some (.slice A4 n4 c4) ∧ V.cell? ⟨w.heap.size, 5, none⟩ = some (.int .i64 rv)) ∧ Below w.heap.size w V) → V'.heap[w.heap.size]? = V.heap[w.heap.size]? → Below w.heap.size V V' → (V'.cell? ⟨w.heap.size, 0, none⟩ = some (.int .i64 k) ∧ V'.cell? ⟨w.heap.size, 1, none⟩ = some (.string (ba nm)) ∧ V'.cell? ⟨w.heap.size, 2, none⟩ = some (.int .i64 v) ∧ V'.cell? ⟨w.heap.size, 3, none⟩ = some (.slice A3 n3 c3) ∧ V'.cell? ⟨w.heap.size, 4, none⟩ = some (.slice A4 n4 c4) ∧ V'.cell? ⟨w.heap.size, 5, none⟩ = some (.int .i64 rv)) ∧ Below w.heap.size w V' := fun V V' h hb hb2 => by
    obtain ⟨⟨h0, h1, h2, h3, h4, h5⟩, h6⟩ := h
    have e : ∀ j, V'.cell? ⟨w.heap.size, j, none⟩ = V.cell? ⟨w.heap.size, j, none⟩ := fun j => World.cell?_of_block (w := V) (a := ⟨w.heap.size, j, none⟩) hb
    exact ⟨⟨(e 0).trans h0, (e 1).trans h1, (e 2).trans h2, (e 3).trans h3, (e 4).trans h4, (e 5).trans h5⟩, h6.trans hb2⟩
  have hdr : W.drew.heap[w.heap.size]? = W.heap[w.heap.size]? := rfl
  have hlt := k1.lt
  have hlt2 := k2.lt
  have HAP := Lib.hid hap
  have HW := Lib.hid hW
  have HB := Lib.hid hb
  have HK2 := Lib.hid k2
  have HK := Lib.hid hk
  clear hap hW hb k1 k2 ht0 ht hk
  unfold zeroT at HW HK2
  go_enter Tryz.func73, Tryz.ntmps73
  go_wp2_with fail
  rw [← HW.out]
  go_region_held3 (fun VV => (VV.cell? ⟨w.heap.size, 0, none⟩ = some (.int .i64 k) ∧ VV.cell? ⟨w.heap.size, 1, none⟩ = some (.string (ba nm)) ∧ VV.cell? ⟨w.heap.size, 2, none⟩ = some (.int .i64 v) ∧ VV.cell? ⟨w.heap.size, 3, none⟩ = some (.slice A3 n3 c3) ∧ VV.cell? ⟨w.heap.size, 4, none⟩ = some (.slice A4 n4 c4) ∧ VV.cell? ⟨w.heap.size, 5, none⟩ = some (.int .i64 rv)) ∧ Below w.heap.size w VV)
    (first | with_reducible exact HK.out _ _ hS hdr (Below.refl _ _).drew | with_reducible exact HK.out _ _ hS (hb7.block _ hlt) (hb7.mono HB.out.size) | with_reducible exact HK.out _ _ hS (hb8.block _ hlt) (hb8.mono HB.out.size) | with_reducible exact HK.out _ _ hS (hq0.trans (hb8.block _ hlt)) ((hb8.mono HB.out.size).trans hq1))
    (first | (go_at_call 8; refine (none_any _).mono ?_; rintro e w7 ⟨rfl, hb7a⟩; have hb7 : Below W.heap.size W w7 := (Below.refl _ _).drew.trans hb7a; unfold noneV) | (go_at_call 16; refine (HAP.out w7 (HB.out.trans (hb7.mono HB.out.size))).mono ?_; rintro e w8 ⟨l', rfl, htf, hb8a⟩; have hb8 : Below W.heap.size W w8 := hb7.trans (hb8a.mono hb7.size); have HS7 := Lib.hid hb7.size; have HTF := Lib.hid htf; obtain ⟨A5, n5, c5, A6, n6, c6, rfl⟩ := (htf w8 ⟨Nat.le_refl _, fun _ _ _ => rfl⟩).trv.shape; clear htf; unfold tyC; have m2 := HK2.out.later hb8; have mc0 := m2.cell 0; have mc1 := m2.cell 1; have mc2 := m2.cell 2; have mc3 := m2.cell 3; have mc4 := m2.cell 4; have mc5 := m2.cell 5; have mf0 := m2.free 0; have mf1 := m2.free 1; have mf2 := m2.free 2; have mf3 := m2.free 3; have mf4 := m2.free 4; have mf5 := m2.free 5; have ml := m2.lt; have hqa : Below (w.heap.size + 1) w8 ((((((w8.setCell ⟨w.heap.size + 1, 0, none⟩ (.int .i64 k)).setCell ⟨w.heap.size + 1, 1, none⟩ (.string (ba nm))).setCell ⟨w.heap.size + 1, 2, none⟩ (.int .i64 v)).setCell ⟨w.heap.size + 1, 3, none⟩ (.slice A5 n5 c5)).setCell ⟨w.heap.size + 1, 4, none⟩ (.slice A6 n6 c6)).setCell ⟨w.heap.size + 1, 5, none⟩ (.int .i64 rv)) := (((((((Below.refl (w.heap.size + 1) w8).setCell (p := ⟨w.heap.size + 1, 0, none⟩) (Nat.le_refl _) _).setCell (p := ⟨w.heap.size + 1, 1, none⟩) (Nat.le_refl _) _).setCell (p := ⟨w.heap.size + 1, 2, none⟩) (Nat.le_refl _) _).setCell (p := ⟨w.heap.size + 1, 3, none⟩) (Nat.le_refl _) _).setCell (p := ⟨w.heap.size + 1, 4, none⟩) (Nat.le_refl _) _).setCell (p := ⟨w.heap.size + 1, 5, none⟩) (Nat.le_refl _) _); have hq1 : Below w.heap.size w8 ((((((w8.setCell ⟨w.heap.size + 1, 0, none⟩ (.int .i64 k)).setCell ⟨w.heap.size + 1, 1, none⟩ (.string (ba nm))).setCell ⟨w.heap.size + 1, 2, none⟩ (.int .i64 v)).setCell ⟨w.heap.size + 1, 3, none⟩ (.slice A5 n5 c5)).setCell ⟨w.heap.size + 1, 4, none⟩ (.slice A6 n6 c6)).setCell ⟨w.heap.size + 1, 5, none⟩ (.int .i64 rv)) := hqa.mono (Nat.le_succ _); have hq0 : ((((((w8.setCell ⟨w.heap.size + 1, 0, none⟩ (.int .i64 k)).setCell ⟨w.heap.size + 1, 1, none⟩ (.string (ba nm))).setCell ⟨w.heap.size + 1, 2, none⟩ (.int .i64 v)).setCell ⟨w.heap.size + 1, 3, none⟩ (.slice A5 n5 c5)).setCell ⟨w.heap.size + 1, 4, none⟩ (.slice A6 n6 c6)).setCell ⟨w.heap.size + 1, 5, none⟩ (.int .i64 rv)).heap[w.heap.size]? = w8.heap[w.heap.size]? := hqa.block _ (Nat.lt_succ_self _); have hqo : ∀ g, g ≠ w.heap.size + 1 → ((((((w8.setCell ⟨w.heap.size + 1, 0, none⟩ (.int .i64 k)).setCell ⟨w.heap.size + 1, 1, none⟩ (.string (ba nm))).setCell ⟨w.heap.size + 1, 2, none⟩ (.int .i64 v)).setCell ⟨w.heap.size + 1, 3, none⟩ (.slice A5 n5 c5)).setCell ⟨w.heap.size + 1, 4, none⟩ (.slice A6 n6 c6)).setCell ⟨w.heap.size + 1, 5, none⟩ (.int .i64 rv)).heap[g]? = w8.heap[g]? := (fun g hg => ((Below.heap_setCell _ ⟨w.heap.size + 1, 5, none⟩ _ g hg).trans ((Below.heap_setCell _ ⟨w.heap.size + 1, 4, none⟩ _ g hg).trans ((Below.heap_setCell _ ⟨w.heap.size + 1, 3, none⟩ _ g hg).trans ((Below.heap_setCell _ ⟨w.heap.size + 1, 2, none⟩ _ g hg).trans ((Below.heap_setCell _ ⟨w.heap.size + 1, 1, none⟩ _ g hg).trans (Below.heap_setCell _ ⟨w.heap.size + 1, 0, none⟩ _ g hg))))))); have HM2 := Lib.hid m2; have HQO := Lib.hid hqo; have HQA := Lib.hid hqa; clear m2 hqo hqa))
  have n6' := (((((HM2.out.set 0 (.int .i64 k)).set 1 (.string (ba nm))).set 2 (.int .i64 v)).set 3 (.slice A5 n5 c5)).set 4 (.slice A6 n6 c6)).set 5 (.int .i64 rv)
  go_wp2_with fail
  refine bodyPost_ret (v := .agg #[.int .i64 k, .string (ba nm), .int .i64 v, .slice A5 n5 c5, .slice A6 n6 c6, .int .i64 rv]) (results_cell_row rfl _ _ (w.heap.size + 1) 44 _ (0, 0) _ rfl n6' Tryz.underlying44 rfl size_T) rfl ?_
  refine ⟨[.int .i64 k, .string (ba nm), .int .i64 v, .slice A5 n5 c5, .slice A6 n6 c6, .int .i64 rv], rfl, ?_, ((HB.out.trans (hb8.mono HB.out.size)).trans (HQA.out.mono (Nat.le_succ _)))⟩
  intro w'' hkk
  refine HTF.out _ ⟨Nat.le_trans HQA.out.size hkk.1, fun b hlt' hn => (hkk.2 b (Nat.lt_of_lt_of_le hlt' HQA.out.size) fun e => hn ?_).trans (HQO.out b fun e => hn ?_)⟩
  · have := HS7.out; show b < w7.heap.size + 3; have e' : b < w.heap.size + 2 := e; omega
  · have := HS7.out; show b < w7.heap.size + 3; omega
end Go.Proofs.YtpbhndmfmnfeoaaGreat

/- What is read is kept where the blocks that can be read are; a world without some blocks. -/
namespace Go.Proofs.YtpbhndmfmnfeoaaGreat
open Go.RowKit

/-- Something can be read in a block. -/
def live (w : World) (g : Nat) : Prop := (∃ a v, a.block = g ∧ w.cell? a = some v) ∨ ∃ es c, w.heap[g]? = some (.map es c)
theorem live.lt {w : World} {g : Nat} (h : live w g) : g < w.heap.size := by
  rcases h with ⟨a, v, rfl, h⟩ | ⟨es, c, h⟩
  · exact World.block_lt_of_cell? w a h
  · exact (Array.getElem?_eq_some_iff.1 h).1
theorem SrcV.keepL {w w' : World} {u : Value} {xs : List Value} (h : SrcV w u xs) (hk : ∀ g, live w g → w'.heap[g]? = w.heap[g]?) : SrcV w' u xs := by
  rcases h with h | ⟨ad, c, h1, h2, h3⟩
  · exact .inl h
  · refine .inr ⟨ad, c, h1, h2, fun j q hq => ?_⟩
    have h4 := h3 j q hq
    exact (World.cell?_of_block (w := w) (hk _ (.inl ⟨_, _, rfl, h4⟩))).trans h4
theorem StrR.keepL {w w' : World} {v : Value} {ls : List Str} (h : StrR w v ls) (hk : ∀ g, live w g → w'.heap[g]? = w.heap[g]?) : StrR w' v ls := ⟨h.1.keepL hk, h.2⟩
theorem reads_live {w : World} {a : Addr} {l : List Value} (h : ReadsAt w a l) (h0 : 0 < l.length) : live w a.block := by
  have := h 0 (l[0]'h0) (List.getElem?_eq_getElem h0)
  exact .inl ⟨⟨a.block, a.off + 0, none⟩, _, rfl, this⟩
theorem TR.keepL {w w' : World} (hk : ∀ g, live w g → w'.heap[g]? = w.heap[g]?) {a : Addr} {t : Ty} (h : TR w a t) : TR w' a t := by
  induction h with
  | mk a k nm v kids ls rv kv lv h0 hr hsl hl hi _ ih =>
    exact .mk a k nm v kids ls rv kv lv h0 (hr.keep (hk _ (reads_live hr (by simp [tyC])))) hsl (hl.keepL hk) hi ih
theorem TRV.keepL {w w' : World} (hk : ∀ g, live w g → w'.heap[g]? = w.heap[g]?) {t : Ty} {l : List Value} (h : TRV w t l) : TRV w' t l := by
  obtain ⟨k, nm, v, kids, ls, rv⟩ := t
  obtain ⟨kv, lv, h1, h2, h3, h4, h5⟩ := h
  exact ⟨kv, lv, h1, h2, h3.keepL hk, h4, fun i t ht => (h5 i t ht).keepL hk⟩
theorem RwV.keepL {w w' : World} (hk : ∀ g, live w g → w'.heap[g]? = w.heap[g]?) {r : List Str × Int} {l : List Value} (h : RwV w r l) : RwV w' r l := by
  obtain ⟨lv, h1, h2, h3⟩ := h
  exact ⟨lv, h1, h2.keepL hk, h3⟩
theorem MapI.live {w : World} {k b m : Nat} {g : GMap} (h : MapI w k b m g) : live w b := by
  obtain ⟨es, c, h1, _⟩ := h.isMap
  exact .inr ⟨es, c, h1⟩
theorem SaidV.keepL {w w' : World} {k m : Nat} {v : Value} {g : GMap} (h : SaidV w k v m g) (hk : ∀ g, live w g → w'.heap[g]? = w.heap[g]?) : SaidV w' k v m g := by
  obtain ⟨zs, h1, h2, h3, h4, h5⟩ := h
  exact ⟨zs, h1.keepL hk, fun l hl => (h2 l hl).keep (hk _ (h2 l hl).live), h3, h4, h5⟩
theorem TM.keepL {w w' : World} {T : Int → Option Ty} {g : GMap} (h : TM w T g) (hk : ∀ g, live w g → w'.heap[g]? = w.heap[g]?) : TM w' T g := by
  intro n hn
  have h1 := h n hn
  cases hT : T n with
  | none => rw [hT] at h1; exact h1
  | some t =>
    rw [hT] at h1
    obtain ⟨l, h2, h3⟩ := h1
    exact ⟨l, h2, h3.keepL hk⟩
theorem RM.keepL {w w' : World} {R : Int → Option (List Str × Int)} {g : GMap} (h : RM w R g) (hk : ∀ g, live w g → w'.heap[g]? = w.heap[g]?) : RM w' R g := by
  intro n hn
  have h1 := h n hn
  cases hT : R n with
  | none => rw [hT] at h1; exact h1
  | some t =>
    rw [hT] at h1
    obtain ⟨l, h2, h3⟩ := h1
    exact ⟨l, h2, h3.keepL hk⟩
theorem SubV.keepL {w w' : World} {v : Value} {m : Nat} {T : Int → Option Ty} {R : Int → Option (List Str × Int)} (h : SubV w v m T R) (hk : ∀ g, live w g → w'.heap[g]? = w.heap[g]?) : SubV w' v m T R := by
  obtain ⟨vt, vr, gt, gr, h1, h2, h3, h4, h5⟩ := h
  exact ⟨vt, vr, gt, gr, h1, h2.keepL hk, h3.keepL hk, h4.keepL hk, h5.keepL hk⟩
open Classical in
/-- The world without some blocks. -/
noncomputable def blank (X : Nat → Prop) (w : World) : World := { w with heap := w.heap.mapIdx fun i o => if X i then .cells #[] 0 (0, 0) else o }
theorem blank_at {X : Nat → Prop} {w : World} {g : Nat} (h : ¬ X g) : (blank X w).heap[g]? = w.heap[g]? := by
  unfold blank
  simp [h]
theorem blank_size (X : Nat → Prop) (w : World) : (blank X w).heap.size = w.heap.size := by
  unfold blank
  simp
theorem blank_live {X : Nat → Prop} {w : World} {g : Nat} (h : live (blank X w) g) : ¬ X g ∧ g < w.heap.size := by
  have hlt := h.lt
  rw [blank_size] at hlt
  refine ⟨fun hx => ?_, hlt⟩
  have hb : (blank X w).heap[g]? = some (.cells #[] 0 (0, 0)) := by
    unfold blank
    simp [hx, hlt]
  rcases h with ⟨a, v, rfl, h⟩ | ⟨es, c, h⟩
  · obtain ⟨g, o, sp⟩ := a
    have h2 := World.cell?_spot (a := ⟨g, o, sp⟩) h
    subst h2
    rw [cell_of_row (blank X w) g o #[] 0 (0, 0) hb] at h
    simp at h
  · rw [hb] at h
    cases h
/-- From a world without some blocks to one that is like it elsewhere. -/
theorem blank_to {X Y : Nat → Prop} {w w' : World} (hk : Kept Y w w') (hy : ∀ b, b < w.heap.size → Y b → X b) : ∀ g, live (blank X w) g → w'.heap[g]? = (blank X w).heap[g]? := fun g hg => by
  obtain ⟨h1, h2⟩ := blank_live hg
  rw [blank_at h1]
  exact hk.2 g h2 (fun h => h1 (hy g h2 h))
theorem blank_blank {X Y : Nat → Prop} {w w' : World} (hk : Kept Y w w') (hy : ∀ b, b < w.heap.size → Y b → X b) : ∀ g, live (blank X w) g → (blank X w').heap[g]? = (blank X w).heap[g]? := fun g hg => by
  rw [blank_at (blank_live hg).1]
  exact blank_to hk hy g hg
theorem blank_more {X : Nat → Prop} {w w' : World} (hb : Below w.heap.size w w') : ∀ g, live (blank X w) g → (blank (fun b => X b ∨ w.heap.size ≤ b) w').heap[g]? = (blank X w).heap[g]? := fun g hg => by
  obtain ⟨h1, h2⟩ := blank_live hg
  rw [blank_at h1, blank_at (fun h => by rcases h with h | h; exact h1 h; omega)]
  exact hb.block g h2
theorem Kept.of_below {w w' : World} (h : Below w.heap.size w w') : Kept (fun _ => False) w w' := ⟨h.size, fun b hb _ => h.block b hb⟩
end Go.Proofs.YtpbhndmfmnfeoaaGreat

/- .. at maps of types. -/
namespace Go.Proofs.YtpbhndmfmnfeoaaGreat
open Go.RowKit

theorem info_T (_ : True) : (Tryz.prog.info? 129).map (fun i => (i.zero, i.size, i.bytes)) = some (some (.map none), 1, 8) := by kernel_rfl
set_option maxRecDepth 100000 in
set_option maxHeartbeats 2000000 in
theorem growT_nil (n : Nat) (w : World) (hn : n ≤ 100000000) :
    Calls Tryz.prog 110 #[.slice none 0 0, .int .i64 n] w fun e w' => ∃ v, e = .returned v ∧ w'.ownsRow w.heap.size 129 1 v 0 [] ∧ Below w.heap.size w w' := by
  obtain ⟨i0, hi, hz0, hz1, hz2⟩ := info_parts (info_T trivial)
  rcases Nat.eq_zero_or_pos n with rfl | hp
  · go_enter Tryz.func110, Tryz.ntmps110
    go_wp2
    go_ret
    exact ⟨_, rfl, World.ownsRow_nil _ _ _ _, Below.refl _ _⟩
  · have hr := fun ty => Lib.run_append_nil_zeros w 27 3 ty 129 i0 (.map none) .i64 .i64 Tryz.underlying27 Tryz.underlying3 hi hz0 n hp (by omega) (by omega) (by rw [hz2]; omega)
    obtain ⟨G, hG⟩ : ∃ G, G = grownCap w n 0 129 := ⟨_, rfl⟩
    have hGn : n ≤ G := by rw [hG]; exact grownCap_ge w _ _ _
    have hGm : G ≤ maxLen := by rw [hG]; exact grownCap_le_maxLen w n 0 _ (by unfold maxLen; omega)
    have hG63 : G ≤ 9223372036854775807 := by unfold maxLen at hGm; omega
    rw [← hG] at hr
    have HM := Lib.hid hGm
    clear hGm hG
    go_enter Tryz.func110, Tryz.ntmps110
    go_wp2_with (at_builtin; refine Lib.wpList_append_run _ rfl _ _ _ _ rfl _ _ rfl rfl _ _ (hr _) ?_)
    go_ret
    have hb := (Below.refl w.heap.size w).drew.alloc (Nat.le_refl _) (.cells (Builtin.zeroCells (Value.cells (.map none)) n ++ Builtin.zeroCells (Value.cells (.map none)) (G - n)) 129)
    refine ⟨_, rfl, ⟨rfl, .inr ⟨w.heap.size, G, _, rfl, Nat.le_refl _, Lies.new _ _ _, Nat.zero_le _, HM.out, ?_, rfl⟩⟩, hb⟩
    simp [Builtin.zeroCells]
    omega

set_option maxRecDepth 100000 in
set_option maxHeartbeats 4000000 in
theorem concatT_any (ps : List (Value × List Value)) (b c : Nat) (w : World) (hb : Lies w b 27 (ps.map Prod.fst).toArray) (hc : ps.length ≤ c) (hsrc : ∀ p ∈ ps, SrcV w p.1 p.2) (h1 : ∀ p ∈ ps, ∀ q ∈ p.2, q.oneCell' = true)
    (hn : (ps.flatMap Prod.snd).length ≤ 10000000) (hk : ps.length ≤ 1000) :
    Calls Tryz.prog 90 #[.slice (some ⟨b, 0, none⟩) ps.length c] w fun e w' => ∃ v, e = .returned v ∧ w'.ownsRow w.heap.size 129 1 v (ps.flatMap Prod.snd).length (ps.flatMap Prod.snd) ∧ Below w.heap.size w w' := by
  obtain ⟨i0, hi, hz0, hz1, hz2⟩ := info_parts (info_T trivial)
  have hcell : ∀ (k : Nat) p, ps[k]? = some p → w.cell? ⟨b, k, none⟩ = some p.1 := fun k p hp => by
    rw [hb.cell]
    simp [hp]
  have hform : ∀ (k : Nat) p, ps[k]? = some p → ∃ A q, p.1 = .slice A p.2.length q ∧ p.2.length ≤ 10000000 := by
    intro k p hp
    have hm : p ∈ ps := List.mem_of_getElem? hp
    have hle : p.2.length ≤ (ps.flatMap Prod.snd).length := by
      obtain ⟨l1, l2, rfl⟩ := List.append_of_mem hm
      simp
      omega
    rcases hsrc p hm with ⟨e1, e2⟩ | ⟨ad, q, e1, _⟩
    · exact ⟨_, _, by rw [e1, e2]; rfl, by omega⟩
    · exact ⟨_, _, e1, by omega⟩
  have hsum : ∀ k, ((ps.take k).flatMap Prod.snd).length ≤ 10000000 := by
    intro k
    have h2 : ps.flatMap Prod.snd = (ps.take k).flatMap Prod.snd ++ (ps.drop k).flatMap Prod.snd := by rw [← List.flatMap_append, List.take_append_drop]
    have h3 := congrArg List.length h2
    rw [List.length_append] at h3
    omega
  have hstep : ∀ (k : Nat) p, ps[k]? = some p → (ps.take (k + 1)).flatMap Prod.snd = (ps.take k).flatMap Prod.snd ++ p.2 := by
    intro k p hp
    rw [take_step ps k p hp, List.flatMap_append]
    simp
  have hlt := hb.lt
  have HC := Lib.hid hcell
  have HF := Lib.hid hform
  have HS := Lib.hid hsum
  have HT := Lib.hid hstep
  have HR := Lib.hid hsrc
  have H1 := Lib.hid h1
  obtain ⟨m, hm⟩ : ∃ m, m = ps.length := ⟨_, rfl⟩
  have HM := Lib.hid hm
  rw [← hm] at hk hc ⊢
  clear hcell hform hsum hstep hsrc h1 hb hm hn
  go_enter Tryz.func90, Tryz.ntmps90
  go_wp2
  go_loopw [3, 11] (fun s i wr => ∃ k : Nat, k ≤ m ∧ i = .int .i64 k ∧ s = .int .i64 (((ps.take k).flatMap Prod.snd).length : Int) ∧ w = wr) (fun _ i _ => m - (intOf i).toNat)
  case atStart => exact ⟨0, Nat.zero_le _, rfl, rfl, rfl⟩
  case round =>
    obtain ⟨k, hkm, rfl, rfl, rfl⟩ := hrel
    by_cases hltk : k < m
    · obtain ⟨p, hp⟩ : ∃ p, ps[k]? = some p := ⟨_, List.getElem?_eq_getElem (by have := HM.out; omega)⟩
      have c0 := HC.out k p hp
      obtain ⟨A, q, e1, e2⟩ := HF.out k p hp
      rw [e1] at c0
      have hst := HT.out k p hp
      have hs0 := HS.out k
      have hl : ((ps.take (k + 1)).flatMap Prod.snd).length = ((ps.take k).flatMap Prod.snd).length + p.2.length := by rw [hst, List.length_append]
      obtain ⟨S, hS⟩ : ∃ S, S = ((ps.take k).flatMap Prod.snd).length := ⟨_, rfl⟩
      obtain ⟨L, hL⟩ : ∃ L, L = p.2.length := ⟨_, rfl⟩
      rw [← hS] at hs0 hl ⊢
      rw [← hL] at c0 hl e2
      have HL := Lib.hid hl
      have hkc : k < c := by omega
      clear hst hp hl hL hS e1
      go_wp2
      go_roundw
      case rel => exact ⟨k + 1, by omega, by simp, by rw [HL.out]; simp, by first | rfl | trivial⟩
      case measure => (simp [intOf] <;> omega)
    · obtain rfl : k = m := by omega
      have htk : ps.take k = ps := by rw [List.take_of_length_le]; have := HM.out; omega
      rw [htk]
      obtain ⟨N, hN⟩ : ∃ N, N = (ps.flatMap Prod.snd).length := ⟨_, rfl⟩
      have hN2 : N ≤ 10000000 := by have := HS.out k; rw [htk, ← hN] at this; exact this
      rw [← hN]
      have hg := growT_nil N w (by omega)
      have HG := Lib.hid hg
      have HN := Lib.hid hN
      have HTK := Lib.hid htk
      clear hg hN htk
      go_wp2_with fail
      refine HG.out.mono ?_
      rintro e w1 ⟨v1, rfl, ho1, hb1⟩
      have ho1' := Lib.hid ho1
      obtain ⟨A1, k1, c1, rfl⟩ := own_slice ho1
      clear ho1
      go_wp2_with fail
      go_loopw [6, 27] (fun s i wr => ∃ j : Nat, j ≤ k ∧ i = .int .i64 j ∧ wr.ownsRow w.heap.size 129 1 s ((ps.take j).flatMap Prod.snd).length ((ps.take j).flatMap Prod.snd) ∧ Below w.heap.size w wr) (fun _ i _ => k - (intOf i).toNat)
      case atStart => exact ⟨0, Nat.zero_le _, rfl, ho1'.out, hb1⟩
      case round =>
        obtain ⟨j, hjk, rfl, ho, hB⟩ := hrel
        by_cases hltj : j < k
        · obtain ⟨p, hp⟩ : ∃ p, ps[j]? = some p := ⟨_, List.getElem?_eq_getElem (by have := HM.out; omega)⟩
          have hpm : p ∈ ps := List.mem_of_getElem? hp
          have c0 := (hB.cell (p := ⟨b, j, none⟩) hlt).trans (HC.out j p hp)
          obtain ⟨A, q, e1, e2⟩ := HF.out j p hp
          have hsr := (HR.out p hpm).later hB
          have hone := H1.out p hpm
          have hst := HT.out j p hp
          have hs0 := HS.out j
          have hs1 := HS.out (j + 1)
          rw [hst, List.length_append] at hs1
          obtain ⟨X, hX⟩ : ∃ X, X = (ps.take j).flatMap Prod.snd := ⟨_, rfl⟩
          rw [← hX] at ho hs0 hst hs1
          obtain ⟨pv, pl⟩ := p
          dsimp only at c0 e1 e2 hsr hone hst hs1
          subst e1
          have HST := Lib.hid hst
          have HSR := Lib.hid hsr
          have HON := Lib.hid hone
          have HO := Lib.hid ho
          have HS1 := Lib.hid hs1
          obtain ⟨A0, m0, c0', rfl⟩ := own_slice ho
          have hjc : j < c := by omega
          clear hst hsr hone ho hp hX hpm hs1 hs0
          go_wp2_with (at_builtin; go_loud (refine wpList_append_srcV rfl (.tmp 31) (.tmp 32) 27 rfl w.heap.size 129 i0 _ 8 Tryz.underlying27 hi hz0 hz1 hz2 rfl _ X.length X rfl HO.out _ pl rfl HSR.out HON.out (by have := HS1.out; unfold maxLen; omega) (by have := HS1.out; omega) hB.size ?_); intro v' w2 ho2 hgr)
          have hrow : ∀ q, Value.ownBlock (.slice A0 m0 c0') = some q → w.heap.size ≤ q := fun q hq => (own_block HO.out q hq).1
          go_wp2_with fail
          go_roundw
          case rel =>
            refine ⟨j + 1, by omega, by simp, ?_, ?_⟩
            · rw [HST.out, List.length_append]; exact ho2
            · exact ⟨hgr.os.trans hB.os, hgr.tape.trans hB.tape, hgr.output.trans hB.output, Nat.le_trans hB.size hgr.size, fun g hg => (hgr.block g (Nat.lt_of_lt_of_le hg hB.size) (fun e => by have := hrow g e.symm; omega)).trans (hB.block g hg)⟩
          case measure => (simp [intOf] <;> omega)
        · obtain rfl : j = k := by omega
          rw [HTK.out] at ho
          have HO := Lib.hid ho
          obtain ⟨A0, m0, c0', rfl⟩ := own_slice ho
          clear ho
          go_wp2
          go_ret
          exact ⟨_, rfl, HO.out, hB⟩
end Go.Proofs.YtpbhndmfmnfeoaaGreat
