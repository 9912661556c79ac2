/- Apply: a type with what is said in the stead of its variables; a copy. -/
import Derived.Test.YtgheaaljnmkclaaSbp
import Derived.Outline
namespace Go.Proofs.Ytgheaaljnmkclaa
open Go.RowKit

mutual
theorem pcs_size (T : Int → Option Ty) : ∀ t, (apT T t).size = pcsT T t
  | .mk k nm v kids ls rv => by
    simp only [apT, pcsT]
    split
    · rfl
    · simp only [Ty.size, pcsL_size T kids]
theorem pcsL_size (T : Int → Option Ty) : ∀ l, Ty.sizeL (apTL T l) = pcsTL T l
  | [] => rfl
  | t :: r => by simp only [apTL, Ty.sizeL, pcsTL, pcs_size T t, pcsL_size T r]
end
theorem TRV.shape {w : World} {k : Int} {nm : Str} {v : Int} {kids : List Ty} {ls : List Str} {rv : Int} {l : List Value} (h : TRV w (.mk k nm v kids ls rv) l) : ∃ A n c B m d, l = tyC k nm v (.slice A n c) (.slice B m d) rv := by
  obtain ⟨kv, lv, rfl, h1, h2, _⟩ := h
  obtain ⟨A, c, rfl, _, _⟩ := h1.form
  obtain ⟨B, m, d, rfl⟩ : ∃ A n c, lv = .slice A n c := by rcases h2.1 with ⟨rfl, _⟩ | ⟨_, _, rfl, _⟩ <;> exact ⟨_, _, _, rfl⟩
  exact ⟨_, _, _, _, _, _, rfl⟩
set_option maxRecDepth 100000 in
set_option maxHeartbeats 8000000 in
theorem apply_any (w : World) (sv : Value) (m : Nat) (T : Int → Option Ty) (R : Int → Option (List Str × Int)) (hs : SubV w sv m T R) (hm : m ≤ 1000000) (t : Ty) (l : List Value) (ht : TRV w t l) (hrf : rowsFree R T t) (hp : pcsT T t ≤ 1000) :
    Calls Try.prog 16 #[sv, .agg l.toArray] w fun e w' => ∃ l', e = .returned (.agg l'.toArray) ∧ (∀ w'', Kept (fun b => b < w.heap.size + 3) w' w'' → TFV w'' (apT T t) l') ∧ Below w.heap.size w w' := by
  have hs0 := hs
  obtain ⟨vt, vr, gt, gr, rfl, hst, hsr, _, _⟩ := hs
  obtain ⟨A1, n1, c1, rfl⟩ := hst.one
  obtain ⟨A2, n2, c2, rfl⟩ := hsr.one
  have ht0 := ht
  obtain ⟨k, nm, v, kids, ls, rv⟩ := t
  obtain ⟨A3, n3, c3, A4, n4, c4, rfl⟩ := ht.shape
  unfold tyC at ht0 ⊢
  obtain ⟨W, hW⟩ : ∃ W, W = (((w.alloc (.cells #[.slice A1 n1 c1, .slice A2 n2 c2] 38)).alloc (.cells #[.int .i64 k, .string (ba nm), .int .i64 v, .slice A3 n3 c3, .slice A4 n4 c4, .int .i64 rv] 28)).alloc (.cells zeroT 28)).alloc (.cells #[.slice A1 n1 c1, .slice A2 n2 c2, .map none, .slice none 0 0] 72) := ⟨_, rfl⟩
  have hb : Below w.heap.size w W := by rw [hW]; exact ((((Below.refl _ w).alloc (Nat.le_refl _) _).alloc (by simp) _).alloc (by simp; omega) _).alloc (by simp; omega) _
  have k1 : Lies W (w.heap.size + 1) 28 #[.int .i64 k, .string (ba nm), .int .i64 v, .slice A3 n3 c3, .slice A4 n4 c4, .int .i64 rv] := by rw [hW]; exact ((Lies.new' _ _ _ (by simp)).alloc _).alloc _
  have k2 : Lies W (w.heap.size + 2) 28 zeroT := by rw [hW]; exact (Lies.new' _ _ _ (by simp)).alloc _
  have k3 : Lies W (w.heap.size + 3) 72 #[.slice A1 n1 c1, .slice A2 n2 c2, .map none, .slice none 0 0] := by rw [hW]; exact Lies.new' _ _ _ (by simp)
  have hpc := pieces_any T R (.mk k nm v kids ls rv) W (.agg #[.slice A1 n1 c1, .slice A2 n2 c2]) m _ 1000 (hs0.later hb) hm (ht0.later hb) hp (by omega)
  obtain ⟨P, hP⟩ : ∃ P, P = pcsT T (.mk k nm v kids ls rv) := ⟨_, rfl⟩
  rw [← hP] at hpc hp
  have HPC := Lib.hid hpc
  have HW := Lib.hid hW
  have HB := Lib.hid hb
  have HK1 := Lib.hid k1
  have HK2 := Lib.hid k2
  have HK3 := Lib.hid k3
  have HS := Lib.hid hs0
  have HT := Lib.hid ht0
  have HRF := Lib.hid hrf
  have HP := Lib.hid hP
  clear hpc hW hb k1 k2 k3 hs0 ht0 ht hrf hP hst hsr
  unfold zeroT at HW
  have hP1 : ¬ ((1000 : Int) < (P : Int)) := by omega
  go_enter Try.func16, Try.ntmps16
  go_wp2_with fail
  rw [← HW.out]
  refine HPC.out.mono ?_
  rintro e w5 ⟨rfl, hb5⟩
  have j1 := HK1.out.later hb5
  have j2 := HK2.out.later hb5
  have j3 := HK3.out.later hb5
  have t0 := j1.cell 0
  have t1 := j1.cell 1
  have t2 := j1.cell 2
  have t3 := j1.cell 3
  have t4 := j1.cell 4
  have t5 := j1.cell 5
  have hBw5 : Below w.heap.size w w5 := HB.out.trans (hb5.mono HB.out.size)
  have hwh := whole_any w w5 (w.heap.size + 3) _ _ m T R HS.out hm hBw5 (by omega) j3 (.mk k nm v kids ls rv) _ HT.out HRF.out (by rw [pcs_size, ← HP.out]; omega)
  have HWH := Lib.hid hwh
  have HBw5 := Lib.hid hBw5
  have HJ2 := Lib.hid j2
  clear hwh hBw5 j1 j2 j3
  go_wp2_with fail
  refine HWH.out.mono ?_
  rintro e w6 ⟨l', rfl, htf, hfr, hch⟩
  have hb56 : Below w.heap.size w w6 := ⟨hch.os.trans HBw5.out.os, hch.tape.trans HBw5.out.tape, hch.output.trans HBw5.out.output, Nat.le_trans HBw5.out.size hch.size, fun i hi => (hch.block i (by have := HBw5.out.size; omega) (by omega) (fun e => by cases e)).trans (HBw5.out.block i hi)⟩
  have k6 : Lies w6 (w.heap.size + 2) 28 zeroT := (hch.block _ HJ2.out.lt (by omega) (fun e => by cases e)).trans HJ2.out
  have hfit := htf.trv.fit
  have hsc := hfit.1
  have hoc := hfit.2
  have HTF := Lib.hid hfr
  clear hfr
  unfold zeroT at k6
  clear htf hfit hch
  go_wp2_with (first | (refine wpList_store_rowTo rfl 28 (.tmp 4) (.tmp 15) rfl rfl (w.heap.size + 2) l'.toArray rfl rfl 28 _ k6 (by rw [size_T, hsc]) (by rw [hsc]; rfl) hoc ?_))
  refine bodyPost_ret (results_cell_row rfl _ _ (w.heap.size + 2) 28 _ (0, 0) _ rfl (Sb.setRow_at k6 l'.toArray) Try.underlying28 rfl (by rw [size_T, hsc])) rfl ?_
  refine ⟨l', rfl, ?_, Sb.below_setRow hb56 (by omega) _⟩
  intro w'' hk
  refine HTF.out _ ⟨Nat.le_trans (by rw [size_setRow]; exact Nat.le_refl _) hk.1, fun b hlt hn => (hk.2 b (by rw [size_setRow]; exact hlt) fun e => hn (by show b < w5.heap.size + 2; have := HBw5.out.size; have e' : b < w.heap.size + 3 := e; have := HJ2.out.lt; omega)).trans (Sb.setRow_other _ _ _ b fun e => hn (by show b < w5.heap.size + 2; have := HJ2.out.lt; omega))⟩
end Go.Proofs.Ytgheaaljnmkclaa
