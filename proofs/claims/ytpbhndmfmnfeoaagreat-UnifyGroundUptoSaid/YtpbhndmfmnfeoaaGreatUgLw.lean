/- The law UnifyGround: its walk. -/
import Derived.Test.YtpbhndmfmnfeoaaGreatUgY
import Derived.Test.YtpbhndmfmnfeoaaGreatMg44
import Derived.Test.YtpbhndmfmnfeoaaGreatMg41
import Derived.Test.YtpbhndmfmnfeoaaGreatSdT
import Derived.Deep.CutRange
import Derived.Deep.RegionHeld3
import Derived.Outline
namespace Go.Proofs.YtpbhndmfmnfeoaaGreat.Ug
open Go.RowKit Si

theorem subT_off1 {w w' : World} {z : Nat} {v : Value} {m : Nat} {T : Int → Option Ty} {R : RowF} {t : TypeId} (h : SubV w v m T R) (hz : Lies w z t #[.slice none 0 0, .slice none 0 0]) (hk : ∀ g, g ≠ z → g < w.heap.size → w'.heap[g]? = w.heap[g]?) : SubV w' v m T R :=
  subT_off (bu := w.heap.size) (h.keepL fun g hg => blank_at (X := fun b => b = w.heap.size) (w := w) (by have := hg.lt; omega)) hz fun g _ h2 h3 => hk g h2 h3
theorem subV_mono {w : World} {v : Value} {m m' : Nat} {T : Int → Option Ty} {R : RowF} (h : SubV w v m T R) (hm : m ≤ m') : SubV w v m' T R := h.mono hm
theorem ap_set (n : Int) (t : Ty) : apT (setF T0 n t) (tvT n) = t := by
  unfold tvT
  simp [apT, insT, setF]
theorem pcs_set (n : Int) (t : Ty) : pcsT (setF T0 n t) (tvT n) = t.size := by
  unfold tvT
  simp [pcsT, insT, setF]
theorem app_tv (X : World) (m : Nat) (T : Int → Option Ty) (n : Int) (r : Ty) (sv : Value) (hs : SubV X sv m T R0) (hm : m ≤ 1000000) (hn : i64ok n) (he : apT T (tvT n) = r) (hp : pcsT T (tvT n) ≤ 1000) :
    Calls Tryz.prog 16 #[sv, .agg #[.int .i64 7, .string ⟨#[]⟩, .int .i64 n, .slice none 0 0, .slice none 0 0, .int .i64 0]] X fun e w' => ∃ k nm v A3 n3 c3 A4 n4 c4 rv, e = .returned (.agg #[.int .i64 k, .string (ba nm), .int .i64 v, .slice A3 n3 c3, .slice A4 n4 c4, .int .i64 rv]) ∧
      TRV w' r [.int .i64 k, .string (ba nm), .int .i64 v, .slice A3 n3 c3, .slice A4 n4 c4, .int .i64 rv] ∧ Below X.heap.size X w' := by
  have h := app0 hs hm (tvT n) _ (tv_trv X n hn) (rowsFree0 T _) hp
  rw [he] at h
  exact h
theorem same_yes (X : World) (t : Ty) (l1 l2 : List Value) (hsz : t.size ≤ 1000000) (h1 : TRV X t l1) (h2 : TRV X t l2) :
    Calls Tryz.prog 15 #[.agg l1.toArray, .agg l2.toArray] X fun e w' => e = .returned (.bool true) ∧ Below X.heap.size X w' :=
  (sameD_any t t X l1 l2 hsz hsz h1 h2).mono fun e w' ⟨b, h3, h4, h5⟩ => ⟨by rw [h3, h4.2 rfl], h5⟩
theorem ground_top (X : World) (t u : Ty) (la lb : List Value) (hta : TRV X t la) (htb : TRV X u lb) (hg : gr t) (hg' : gr u) (h1 : t.size ≤ 30) (h2 : u.size ≤ 30) :
    Calls Tryz.prog 13 #[noneV, .agg la.toArray, .agg lb.toArray, .int .i64 9] X fun e w' => ∃ C1 p1 q1 C2 p2 q2 err, e = .returned (.tuple #[.agg #[.slice C1 p1 q1, .slice C2 p2 q2], .int .i64 9, .int .i64 err]) ∧
      ((err ≠ 0 → err = 5 ∧ ¬ t = u) ∧ (err = 0 → t = u)) ∧ SubV w' (.agg #[.slice C1 p1 q1, .slice C2 p2 q2]) 900 T0 R0 ∧ Below X.heap.size X w' := by
  refine (top_any X noneV 0 (0 + 4 * t.size) 9 (SubV.none X 0) t u la lb hta htb T0 (¬ t = u) (t = u) (fun Y bu hY hun => types_in t.size t u Y bu 0 9 0 la lb (Nat.le_refl _) (by omega) (by omega) hg hg' hun (by omega) ⟨by omega, by omega⟩ (by omega) (hta.later hY) (htb.later hY))).mono ?_
  rintro e w' ⟨C1, p1, q1, C2, p2, q2, err, h3, h4, h5, h6⟩
  refine ⟨C1, p1, q1, C2, p2, q2, err, h3, ⟨fun h => ⟨(h4 h).1, (h4 h).2.1⟩, fun h => (h5 h).1⟩, ?_, h6⟩
  by_cases he : err = 0
  · exact (h5 he).2.mono (by omega)
  · exact (h4 he).2.2.mono (by omega)
theorem varL_top (X : World) (t : Ty) (la : List Value) (hta : TRV X t la) (hg : gr t) (h1 : t.size ≤ 30) :
    Calls Tryz.prog 13 #[noneV, .agg #[.int .i64 7, .string ⟨#[]⟩, .int .i64 1, .slice none 0 0, .slice none 0 0, .int .i64 0], .agg la.toArray, .int .i64 9] X fun e w' => ∃ C1 p1 q1 C2 p2 q2 err, e = .returned (.tuple #[.agg #[.slice C1 p1 q1, .slice C2 p2 q2], .int .i64 9, .int .i64 err]) ∧
      err = 0 ∧ SubV w' (.agg #[.slice C1 p1 q1, .slice C2 p2 q2]) 900 (setF T0 1 t) R0 ∧ Below X.heap.size X w' := by
  refine (top_any X noneV 0 2 9 (SubV.none X 0) (tvT 1) t _ la (tv_trv X 1 (i64ok_of (by omega) (by omega))) hta (setF T0 1 t) False True (fun Y bu hY hun => (typesL_any Y bu 0 9 0 1 t _ la (i64ok_of (by omega) (by omega)) (by omega) hg hun (by omega) (tv_trv Y 1 (i64ok_of (by omega) (by omega))) (hta.later hY)).mono fun e w' ⟨h3, h4, h5⟩ => ⟨0, h3, ⟨fun h => absurd rfl h, fun _ => ⟨trivial, h4⟩⟩, h5⟩)).mono ?_
  rintro e w' ⟨C1, p1, q1, C2, p2, q2, err, h3, h4, h5, h6⟩
  by_cases he : err = 0
  · exact ⟨C1, p1, q1, C2, p2, q2, err, h3, he, (h5 he).2.mono (by omega), h6⟩
  · exact ((h4 he).2.1).elim
theorem varR_top (X : World) (t : Ty) (la : List Value) (hta : TRV X t la) (hg : gr t) (h1 : t.size ≤ 30) :
    Calls Tryz.prog 13 #[noneV, .agg la.toArray, .agg #[.int .i64 7, .string ⟨#[]⟩, .int .i64 2, .slice none 0 0, .slice none 0 0, .int .i64 0], .int .i64 9] X fun e w' => ∃ C1 p1 q1 C2 p2 q2 err, e = .returned (.tuple #[.agg #[.slice C1 p1 q1, .slice C2 p2 q2], .int .i64 9, .int .i64 err]) ∧
      err = 0 ∧ SubV w' (.agg #[.slice C1 p1 q1, .slice C2 p2 q2]) 900 (setF T0 2 t) R0 ∧ Below X.heap.size X w' := by
  refine (top_any X noneV 0 2 9 (SubV.none X 0) t (tvT 2) la _ hta (tv_trv X 2 (i64ok_of (by omega) (by omega))) (setF T0 2 t) False True (fun Y bu hY hun => (typesR_any Y bu 0 9 0 2 t la _ (i64ok_of (by omega) (by omega)) (by omega) hg hun (by omega) (hta.later hY) (tv_trv Y 2 (i64ok_of (by omega) (by omega)))).mono fun e w' ⟨h3, h4, h5⟩ => ⟨0, h3, ⟨fun h => absurd rfl h, fun _ => ⟨trivial, h4⟩⟩, h5⟩)).mono ?_
  rintro e w' ⟨C1, p1, q1, C2, p2, q2, err, h3, h4, h5, h6⟩
  by_cases he : err = 0
  · exact ⟨C1, p1, q1, C2, p2, q2, err, h3, he, (h5 he).2.mono (by omega), h6⟩
  · exact ((h4 he).2.1).elim
set_option maxRecDepth 100000 in
set_option maxHeartbeats 16000000 in
theorem unifyGround_walk (w : World) (t u : Ty) (la lb : List Value) (hta : TRV w t la) (htb : TRV w u lb) (hla : lbl t) (hlb : lbl u) (hst : t.size ≤ 1048576) (hsu : u.size ≤ 1048576) :
    Calls Tryz.prog 4 #[.agg la.toArray, .agg lb.toArray] w fun e w' => e = .returned (.bool true) ∧ Below w.heap.size w w' := by
  obtain ⟨k1, nm1, v1, A1, n1, c1, B1, m1, d1, rv1, rfl⟩ := hta.form
  obtain ⟨k2, nm2, v2, A2, n2, c2, B2, m2, d2, rv2, rfl⟩ := htb.form
  have HTA := Lib.hid hta
  have HTB := Lib.hid htb
  have HLA := Lib.hid hla
  have HLB := Lib.hid hlb
  clear hta htb hla hlb
  obtain ⟨W, hW⟩ : ∃ W, W = (w.alloc (.cells #[.int .i64 k1, .string (ba nm1), .int .i64 v1, .slice A1 n1 c1, .slice B1 m1 d1, .int .i64 rv1] 44)).alloc (.cells #[.int .i64 k2, .string (ba nm2), .int .i64 v2, .slice A2 n2 c2, .slice B2 m2 d2, .int .i64 rv2] 44) := ⟨_, rfl⟩
  have hb : Below w.heap.size w W := by rw [hW]; exact ((Below.refl _ w).alloc (Nat.le_refl _) _).alloc (by simp) _
  have ka : Lies W w.heap.size 44 #[.int .i64 k1, .string (ba nm1), .int .i64 v1, .slice A1 n1 c1, .slice B1 m1 d1, .int .i64 rv1] := by rw [hW]; exact (Lies.new _ _ _).alloc _
  have kb : Lies W (w.heap.size + 1) 44 #[.int .i64 k2, .string (ba nm2), .int .i64 v2, .slice A2 n2 c2, .slice B2 m2 d2, .int .i64 rv2] := by rw [hW]; exact Lies.new' _ _ _ (by simp)
  have HC := Lib.hid (shown7_any W)
  have HW := Lib.hid hW
  have HB := Lib.hid hb
  have HKA := Lib.hid ka
  have HKB := Lib.hid kb
  clear hW hb ka kb
  go_enter Tryz.func4, Tryz.ntmps4
  go_wp2_with fail
  rw [← HW.out]
  refine HC.out.mono ?_
  rintro e w1 ⟨rfl, hb1⟩
  clear HC
  have HB := Lib.hid (HB.out.trans (hb1.mono HB.out.size))
  have HKA := Lib.hid (HKA.out.later hb1)
  have HKB := Lib.hid (HKB.out.later hb1)
  have a0 := HKA.out.cell 0
  have a1 := HKA.out.cell 1
  have a2 := HKA.out.cell 2
  have a3 := HKA.out.cell 3
  have a4 := HKA.out.cell 4
  have a5 := HKA.out.cell 5
  have b0 := HKB.out.cell 0
  have b1 := HKB.out.cell 1
  have b2 := HKB.out.cell 2
  have b3 := HKB.out.cell 3
  have b4 := HKB.out.cell 4
  have b5 := HKB.out.cell 5
  clear hb1
  have HC := Lib.hid (count_any t _ _ (by omega) (HTA.out.later HB.out))
  go_wp2_with fail
  refine HC.out.mono ?_
  rintro e w2 ⟨rfl, hb1⟩
  clear HC
  have HB := Lib.hid (HB.out.trans (hb1.mono HB.out.size))
  have HKA := Lib.hid (HKA.out.later hb1)
  have HKB := Lib.hid (HKB.out.later hb1)
  have a0 := HKA.out.cell 0
  have a1 := HKA.out.cell 1
  have a2 := HKA.out.cell 2
  have a3 := HKA.out.cell 3
  have a4 := HKA.out.cell 4
  have a5 := HKA.out.cell 5
  have b0 := HKB.out.cell 0
  have b1 := HKB.out.cell 1
  have b2 := HKB.out.cell 2
  have b3 := HKB.out.cell 3
  have b4 := HKB.out.cell 4
  have b5 := HKB.out.cell 5
  clear hb1
  by_cases h30a : 30 < t.size
  · have h3i : (30 : Int) < ((t.size : Nat) : Int) := by omega
    go_wp2_with fail
    go_ret
    exact ⟨rfl, HB.out⟩
  have h30ia : ¬ ((30 : Int) < ((t.size : Nat) : Int)) := by omega
  have HC := Lib.hid (count_any u _ _ (by omega) (HTB.out.later HB.out))
  go_wp2_with fail
  refine HC.out.mono ?_
  rintro e w3 ⟨rfl, hb1⟩
  clear HC
  have HB := Lib.hid (HB.out.trans (hb1.mono HB.out.size))
  have HKA := Lib.hid (HKA.out.later hb1)
  have HKB := Lib.hid (HKB.out.later hb1)
  have a0 := HKA.out.cell 0
  have a1 := HKA.out.cell 1
  have a2 := HKA.out.cell 2
  have a3 := HKA.out.cell 3
  have a4 := HKA.out.cell 4
  have a5 := HKA.out.cell 5
  have b0 := HKB.out.cell 0
  have b1 := HKB.out.cell 1
  have b2 := HKB.out.cell 2
  have b3 := HKB.out.cell 3
  have b4 := HKB.out.cell 4
  have b5 := HKB.out.cell 5
  clear hb1
  by_cases h30b : 30 < u.size
  · have h3i : (30 : Int) < ((u.size : Nat) : Int) := by omega
    go_wp2_with fail
    go_ret
    exact ⟨rfl, HB.out⟩
  have h30ib : ¬ ((30 : Int) < ((u.size : Nat) : Int)) := by omega
  have HC := Lib.hid (Ug.right_any t _ _ (by omega) (HTA.out.later HB.out))
  go_wp2_with fail
  refine HC.out.mono ?_
  rintro e w4 ⟨bb, rfl, hq, hb1⟩
  have HQA := Lib.hid hq
  clear HC hq
  have HB := Lib.hid (HB.out.trans (hb1.mono HB.out.size))
  have HKA := Lib.hid (HKA.out.later hb1)
  have HKB := Lib.hid (HKB.out.later hb1)
  have a0 := HKA.out.cell 0
  have a1 := HKA.out.cell 1
  have a2 := HKA.out.cell 2
  have a3 := HKA.out.cell 3
  have a4 := HKA.out.cell 4
  have a5 := HKA.out.cell 5
  have b0 := HKB.out.cell 0
  have b1 := HKB.out.cell 1
  have b2 := HKB.out.cell 2
  have b3 := HKB.out.cell 3
  have b4 := HKB.out.cell 4
  have b5 := HKB.out.cell 5
  clear hb1
  cases bb
  · go_wp2_with fail
    go_ret
    exact ⟨rfl, HB.out⟩
  have HC := Lib.hid (Ug.right_any u _ _ (by omega) (HTB.out.later HB.out))
  go_wp2_with fail
  refine HC.out.mono ?_
  rintro e w5 ⟨bb, rfl, hq, hb1⟩
  have HQB := Lib.hid hq
  clear HC hq
  have HB := Lib.hid (HB.out.trans (hb1.mono HB.out.size))
  have HKA := Lib.hid (HKA.out.later hb1)
  have HKB := Lib.hid (HKB.out.later hb1)
  have a0 := HKA.out.cell 0
  have a1 := HKA.out.cell 1
  have a2 := HKA.out.cell 2
  have a3 := HKA.out.cell 3
  have a4 := HKA.out.cell 4
  have a5 := HKA.out.cell 5
  have b0 := HKB.out.cell 0
  have b1 := HKB.out.cell 1
  have b2 := HKB.out.cell 2
  have b3 := HKB.out.cell 3
  have b4 := HKB.out.cell 4
  have b5 := HKB.out.cell 5
  clear hb1
  cases bb
  · go_wp2_with fail
    go_ret
    exact ⟨rfl, HB.out⟩
  have HC := Lib.hid (ground_any t _ _ (by omega) (HTA.out.later HB.out))
  go_wp2_with fail
  refine HC.out.mono ?_
  rintro e w6 ⟨bb, rfl, hq, hb1⟩
  have HNA := Lib.hid hq
  clear HC hq
  have HB := Lib.hid (HB.out.trans (hb1.mono HB.out.size))
  have HKA := Lib.hid (HKA.out.later hb1)
  have HKB := Lib.hid (HKB.out.later hb1)
  have a0 := HKA.out.cell 0
  have a1 := HKA.out.cell 1
  have a2 := HKA.out.cell 2
  have a3 := HKA.out.cell 3
  have a4 := HKA.out.cell 4
  have a5 := HKA.out.cell 5
  have b0 := HKB.out.cell 0
  have b1 := HKB.out.cell 1
  have b2 := HKB.out.cell 2
  have b3 := HKB.out.cell 3
  have b4 := HKB.out.cell 4
  have b5 := HKB.out.cell 5
  clear hb1
  cases bb
  · go_wp2_with fail
    go_ret
    exact ⟨rfl, HB.out⟩
  have HC := Lib.hid (ground_any u _ _ (by omega) (HTB.out.later HB.out))
  go_wp2_with fail
  refine HC.out.mono ?_
  rintro e w8 ⟨bb, rfl, hq, hb1⟩
  have HNB := Lib.hid hq
  clear HC hq
  have HB := Lib.hid (HB.out.trans (hb1.mono HB.out.size))
  have HKA := Lib.hid (HKA.out.later hb1)
  have HKB := Lib.hid (HKB.out.later hb1)
  have a0 := HKA.out.cell 0
  have a1 := HKA.out.cell 1
  have a2 := HKA.out.cell 2
  have a3 := HKA.out.cell 3
  have a4 := HKA.out.cell 4
  have a5 := HKA.out.cell 5
  have b0 := HKB.out.cell 0
  have b1 := HKB.out.cell 1
  have b2 := HKB.out.cell 2
  have b3 := HKB.out.cell 3
  have b4 := HKB.out.cell 4
  have b5 := HKB.out.cell 5
  clear hb1
  cases bb
  · go_wp2_with fail
    go_ret
    exact ⟨rfl, HB.out⟩
  have HGA := Lib.hid (gr_of t ([], []) (HQA.out (by simp)) HLA.out (HNA.out (by simp)).1 (HNA.out (by simp)).2)
  have HGB := Lib.hid (gr_of u ([], []) (HQB.out (by simp)) HLB.out (HNB.out (by simp)).1 (HNB.out (by simp)).2)
  have HRW := Lib.hid (fun (X : World) (hx : Below w8.heap.size w8 X) => ground_top X t u _ _ (HTA.out.later (HB.out.trans (hx.mono HB.out.size))) (HTB.out.later (HB.out.trans (hx.mono HB.out.size))) HGA.out HGB.out (by omega) (by omega))
  unfold noneV at HRW
  have HKS := Lib.hid (show ∀ X : World, Below w8.heap.size w8 X → (X.cell? ⟨w.heap.size, 0, none⟩ = some (.int .i64 k1) ∧ X.cell? ⟨w.heap.size, 1, none⟩ = some (.string (ba nm1)) ∧ X.cell? ⟨w.heap.size, 2, none⟩ = some (.int .i64 v1) ∧ X.cell? ⟨w.heap.size, 3, none⟩ = some (.slice A1 n1 c1) ∧ X.cell? ⟨w.heap.size, 4, none⟩ = some (.slice B1 m1 d1) ∧ X.cell? ⟨w.heap.size, 5, none⟩ = some (.int .i64 rv1)) ∧ (X.cell? ⟨w.heap.size + 1, 0, none⟩ = some (.int .i64 k2) ∧ X.cell? ⟨w.heap.size + 1, 1, none⟩ = some (.string (ba nm2)) ∧ X.cell? ⟨w.heap.size + 1, 2, none⟩ = some (.int .i64 v2) ∧ X.cell? ⟨w.heap.size + 1, 3, none⟩ = some (.slice A2 n2 c2) ∧ X.cell? ⟨w.heap.size + 1, 4, none⟩ = some (.slice B2 m2 d2) ∧ X.cell? ⟨w.heap.size + 1, 5, none⟩ = some (.int .i64 rv2)) from fun X hx => ⟨⟨(HKA.out.later hx).cell 0, (HKA.out.later hx).cell 1, (HKA.out.later hx).cell 2, (HKA.out.later hx).cell 3, (HKA.out.later hx).cell 4, (HKA.out.later hx).cell 5⟩, (HKB.out.later hx).cell 0, (HKB.out.later hx).cell 1, (HKB.out.later hx).cell 2, (HKB.out.later hx).cell 3, (HKB.out.later hx).cell 4, (HKB.out.later hx).cell 5⟩)
  go_upto_region 4 with fail
  go_cut [6, 7, 8] from 45 to 52 (fun p n e wx => ∃ (g : Nat) (E1 : Option Addr) (f1 e1 : Nat) (E2 : Option Addr) (f2 e2 : Nat) (err : Int), p = .pointer (some ⟨g, 0, none⟩) ∧ n = .int .i64 9 ∧ e = .int .i64 err ∧ ((err ≠ 0 → err = 5 ∧ ¬ t = u) ∧ (err = 0 → t = u)) ∧ Lies wx g 34 #[.slice E1 f1 e1, .slice E2 f2 e2] ∧ w8.heap.size ≤ g ∧ SubV wx (.agg #[.slice E1 f1 e1, .slice E2 f2 e2]) 900 (T0) R0 ∧ Below w8.heap.size w8 wx)
  case first =>
    clear a0 a1 a2 a3 a4 a5 b0 b1 b2 b3 b4 b5
    refine wp_region_held_drew (S := fun X => (X.cell? ⟨w.heap.size, 0, none⟩ = some (.int .i64 k1) ∧ X.cell? ⟨w.heap.size, 1, none⟩ = some (.string (ba nm1)) ∧ X.cell? ⟨w.heap.size, 2, none⟩ = some (.int .i64 v1) ∧ X.cell? ⟨w.heap.size, 3, none⟩ = some (.slice A1 n1 c1) ∧ X.cell? ⟨w.heap.size, 4, none⟩ = some (.slice B1 m1 d1) ∧ X.cell? ⟨w.heap.size, 5, none⟩ = some (.int .i64 rv1)) ∧ (X.cell? ⟨w.heap.size + 1, 0, none⟩ = some (.int .i64 k2) ∧ X.cell? ⟨w.heap.size + 1, 1, none⟩ = some (.string (ba nm2)) ∧ X.cell? ⟨w.heap.size + 1, 2, none⟩ = some (.int .i64 v2) ∧ X.cell? ⟨w.heap.size + 1, 3, none⟩ = some (.slice A2 n2 c2) ∧ X.cell? ⟨w.heap.size + 1, 4, none⟩ = some (.slice B2 m2 d2) ∧ X.cell? ⟨w.heap.size + 1, 5, none⟩ = some (.int .i64 rv2))) (by kernel_rfl) ?_ (fun hHeld => ?_)
    · exact HKS.out _ (Below.refl w8.heap.size w8).drew
    refine wpAnyH_take (i := 1) (oi := ⟨some 47, _, _, _, _, _⟩) (v := ?_) rfl (by kernel_rfl) (by kernel_rfl) (by kernel_rfl) (fun _ _ _ h => h) (Or.inl ⟨by kernel_rfl, ?_⟩) (by assumption) ?_
    rotate_left
    · (intro w' hSw; (try dsimp only at hSw); go_split_ands; go_simp; first | done | with_reducible rfl)
    try simp only [Act.put, List.setIfInBounds_toArray, List.set_cons_zero, List.set_cons_succ]
    refine wpAnyH_take (i := 2) (oi := ⟨some 48, _, _, _, _, _⟩) (v := ?_) rfl (by kernel_rfl) (by kernel_rfl) (by kernel_rfl) (fun _ _ _ h => h) (Or.inl ⟨by kernel_rfl, ?_⟩) (by assumption) ?_
    rotate_left
    · (intro w' hSw; (try dsimp only at hSw); go_split_ands; go_simp; first | done | with_reducible rfl)
    try simp only [Act.put, List.setIfInBounds_toArray, List.set_cons_zero, List.set_cons_succ]
    refine wpAnyH_ready (rs := [0, 8]) (by kernel_rfl) (by simp) ?_
    refine AllReadyH.cons (o := ⟨some 46, _, _, _, _, _⟩) rfl (fun K hK => ?_) (AllReadyH.cons (o := ⟨some 6, _, _, _, _, _⟩) rfl (fun K hK => ?_) (AllReadyH.nil))
    · go_simp
      go_at_call 8
      refine (none_any _).mono ?_
      unfold noneV
      rintro e x3 ⟨rfl, hba⟩
      have hbx3 : Below w8.heap.size w8 x3 := (((Below.refl w8.heap.size w8)).drew).trans (hba.mono (((Below.refl w8.heap.size w8)).drew).size)
      clear hba
      refine hK.out _ _ ?_ (fun hHeld => ?_)
      · exact HKS.out _ hbx3
      clear hK K
      try simp only [Act.put, List.setIfInBounds_toArray, List.set_cons_zero, List.set_cons_succ]
      refine wpAnyH_ready (rs := [3, 8]) (by kernel_rfl) (by simp) ?_
      refine AllReadyH.cons (o := ⟨some 49, _, _, _, _, _⟩) rfl (fun K hK => ?_) (AllReadyH.cons (o := ⟨some 6, _, _, _, _, _⟩) rfl (fun K hK => ?_) (AllReadyH.nil))
      · go_simp
        go_at_call 13
        refine (HRW.out _ (hbx3)).mono ?_
        rintro e x5 ⟨E1, f1, e1, E2, f2, e2, err, rfl, herr, hsv, hba⟩
        have HERR := Lib.hid herr
        have HSV := Lib.hid hsv
        clear herr hsv
        have hbx5 : Below w8.heap.size w8 x5 := (hbx3).trans (hba.mono (hbx3).size)
        clear hba
        refine hK.out _ _ ?_ (fun hHeld => ?_)
        · exact HKS.out _ hbx5
        clear hK K
        try simp only [Act.put, List.setIfInBounds_toArray, List.set_cons_zero, List.set_cons_succ]
        refine wpAnyH_take (i := 4) (oi := ⟨some 45, _, _, _, _, _⟩) (v := ?_) rfl (by kernel_rfl) (by kernel_rfl) (by kernel_rfl) (fun _ _ _ h => h) (Or.inl ⟨by kernel_rfl, ?_⟩) (by assumption) ?_
        rotate_left
        · (intro w' hSw; (try dsimp only at hSw); go_split_ands; go_simp; first | done | with_reducible rfl)
        try simp only [Act.put, List.setIfInBounds_toArray, List.set_cons_zero, List.set_cons_succ]
        refine wpAnyH_take (i := 5) (oi := ⟨some 50, _, _, _, _, _⟩) (v := ?_) rfl (by kernel_rfl) (by kernel_rfl) (by kernel_rfl) (fun _ _ _ h => h) (Or.inl ⟨by kernel_rfl, ?_⟩) (by assumption) ?_
        rotate_left
        · (intro w' hSw; (try dsimp only at hSw); go_split_ands; go_simp; first | done | with_reducible rfl)
        try simp only [Act.put, List.setIfInBounds_toArray, List.set_cons_zero, List.set_cons_succ]
        refine wpAnyH_take (i := 6) (oi := ⟨some 51, _, _, _, _, _⟩) (v := ?_) rfl (by kernel_rfl) (by kernel_rfl) (by kernel_rfl) (fun _ _ _ h => h) (Or.inl ⟨by kernel_rfl, ?_⟩) (by assumption) ?_
        rotate_left
        · (intro w' hSw; (try dsimp only at hSw); go_split_ands; go_simp; first | done | with_reducible rfl)
        try simp only [Act.put, List.setIfInBounds_toArray, List.set_cons_zero, List.set_cons_succ]
        refine wpAnyH_take (i := 7) (oi := ⟨some 52, _, _, _, _, _⟩) (v := ?_) rfl (by kernel_rfl) (by kernel_rfl) (by kernel_rfl) (fun _ _ _ h => h) (Or.inl ⟨by kernel_rfl, ?_⟩) (by assumption) ?_
        rotate_left
        · (intro w' hSw; (try dsimp only at hSw); go_split_ands; go_simp; first | done | with_reducible rfl)
        try simp only [Act.put, List.setIfInBounds_toArray, List.set_cons_zero, List.set_cons_succ]
        refine wpAnyH_ready (rs := [8]) (by kernel_rfl) (by simp) ?_
        refine AllReadyH.cons (o := ⟨some 6, _, _, _, _, _⟩) rfl (fun K hK => ?_) (AllReadyH.nil)
        go_simp
        refine hK.out _ _ ?_ (fun hHeld => ?_)
        · exact HKS.out _ (((hbx5).alloc (hbx5).size _))
        clear hK K
        try simp only [Act.put, List.setIfInBounds_toArray, List.set_cons_zero, List.set_cons_succ]
        refine wpAnyH_ready (rs := [9]) (by kernel_rfl) (by simp) ?_
        refine AllReadyH.cons (o := ⟨none, _, _, _, _, _⟩) rfl (fun K hK => ?_) (AllReadyH.nil)
        rw [if_pos (by kernel_rfl)]
        refine wp_store_row _ _ _ rfl (x5.heap.size) #[.slice E1 f1 e1, .slice E2 f2 e2] rfl rfl 34 #[.slice none 0 0, .slice none 0 0] (show Lies ((x5.alloc (.cells #[.slice none 0 0, .slice none 0 0] 34))) (x5.heap.size) 34 #[.slice none 0 0, .slice none 0 0] from Lies.new x5 _ _) (by kernel_rfl) rfl (by simp [Value.oneCell']) ?_
        obtain ⟨z1, hz1⟩ : ∃ X, X = ((x5.alloc (.cells #[.slice none 0 0, .slice none 0 0] 34))).setRow (x5.heap.size) #[.slice E1 f1 e1, .slice E2 f2 e2] := ⟨_, rfl⟩
        rw [← hz1]
        have HZ1 := Lib.hid hz1
        clear hz1
        have hbz : Below w8.heap.size w8 z1 := by rw [HZ1.out]; exact Sb.below_setRow (((hbx5).alloc (hbx5).size _)) ((hbx5).size) _
        refine hK.out _ _ ?_ (fun hHeld => ?_)
        · exact HKS.out _ hbz
        clear hK K
        try simp only [Act.put, List.setIfInBounds_toArray, List.set_cons_zero, List.set_cons_succ]
        refine wpAnyH_take (i := 10) (oi := ⟨some 7, _, _, _, _, _⟩) (v := ?_) rfl (by kernel_rfl) (by kernel_rfl) (by kernel_rfl) (fun _ _ _ h => h) (Or.inl ⟨by kernel_rfl, ?_⟩) (by assumption) ?_
        rotate_left
        · (intro w' hSw; (try dsimp only at hSw); go_split_ands; go_simp; first | done | with_reducible rfl)
        try simp only [Act.put, List.setIfInBounds_toArray, List.set_cons_zero, List.set_cons_succ]
        refine wpAnyH_take (i := 11) (oi := ⟨some 8, _, _, _, _, _⟩) (v := ?_) rfl (by kernel_rfl) (by kernel_rfl) (by kernel_rfl) (fun _ _ _ h => h) (Or.inl ⟨by kernel_rfl, ?_⟩) (by assumption) ?_
        rotate_left
        · (intro w' hSw; (try dsimp only at hSw); go_split_ands; go_simp; first | done | with_reducible rfl)
        try simp only [Act.put, List.setIfInBounds_toArray, List.set_cons_zero, List.set_cons_succ]
        refine wpAnyH_done (by kernel_rfl) ?_ _
        go_wp2_with fail
        go_meet
        exact ⟨_, E1, f1, e1, E2, f2, e2, err, rfl, rfl, rfl, HERR.out, (show Lies z1 (x5.heap.size) 34 #[.slice E1 f1 e1, .slice E2 f2 e2] from by rw [HZ1.out]; exact Sb.setRow_at (show Lies ((x5.alloc (.cells #[.slice none 0 0, .slice none 0 0] 34))) (x5.heap.size) 34 #[.slice none 0 0, .slice none 0 0] from Lies.new x5 _ _) _), (hbx5).size, subT_off1 (HSV.out.later (below_new x5 _)) (show Lies ((x5.alloc (.cells #[.slice none 0 0, .slice none 0 0] 34))) (x5.heap.size) 34 #[.slice none 0 0, .slice none 0 0] from Lies.new x5 _ _) (fun g h1 _ => by rw [HZ1.out]; exact Sb.setRow_other _ _ _ _ h1), hbz⟩
      · go_simp
        refine hK.out _ _ ?_ (fun hHeld => ?_)
        · exact HKS.out _ (((hbx3).alloc (hbx3).size _))
        clear hK K
        try simp only [Act.put, List.setIfInBounds_toArray, List.set_cons_zero, List.set_cons_succ]
        refine wpAnyH_ready (rs := [3]) (by kernel_rfl) (by simp) ?_
        refine AllReadyH.cons (o := ⟨some 49, _, _, _, _, _⟩) rfl (fun K hK => ?_) (AllReadyH.nil)
        go_simp
        go_at_call 13
        refine (HRW.out _ (((hbx3).alloc (hbx3).size _))).mono ?_
        rintro e x5 ⟨E1, f1, e1, E2, f2, e2, err, rfl, herr, hsv, hba⟩
        have HERR := Lib.hid herr
        have HSV := Lib.hid hsv
        clear herr hsv
        have hbx5 : Below w8.heap.size w8 x5 := (((hbx3).alloc (hbx3).size _)).trans (hba.mono (((hbx3).alloc (hbx3).size _)).size)
        have HQ1 := Lib.hid (Lies.later (show Lies ((x3.alloc (.cells #[.slice none 0 0, .slice none 0 0] 34))) (x3.heap.size) 34 #[.slice none 0 0, .slice none 0 0] from Lies.new x3 _ _) hba)
        clear hba
        refine hK.out _ _ ?_ (fun hHeld => ?_)
        · exact HKS.out _ hbx5
        clear hK K
        try simp only [Act.put, List.setIfInBounds_toArray, List.set_cons_zero, List.set_cons_succ]
        refine wpAnyH_take (i := 4) (oi := ⟨some 45, _, _, _, _, _⟩) (v := ?_) rfl (by kernel_rfl) (by kernel_rfl) (by kernel_rfl) (fun _ _ _ h => h) (Or.inl ⟨by kernel_rfl, ?_⟩) (by assumption) ?_
        rotate_left
        · (intro w' hSw; (try dsimp only at hSw); go_split_ands; go_simp; first | done | with_reducible rfl)
        try simp only [Act.put, List.setIfInBounds_toArray, List.set_cons_zero, List.set_cons_succ]
        refine wpAnyH_take (i := 5) (oi := ⟨some 50, _, _, _, _, _⟩) (v := ?_) rfl (by kernel_rfl) (by kernel_rfl) (by kernel_rfl) (fun _ _ _ h => h) (Or.inl ⟨by kernel_rfl, ?_⟩) (by assumption) ?_
        rotate_left
        · (intro w' hSw; (try dsimp only at hSw); go_split_ands; go_simp; first | done | with_reducible rfl)
        try simp only [Act.put, List.setIfInBounds_toArray, List.set_cons_zero, List.set_cons_succ]
        refine wpAnyH_take (i := 6) (oi := ⟨some 51, _, _, _, _, _⟩) (v := ?_) rfl (by kernel_rfl) (by kernel_rfl) (by kernel_rfl) (fun _ _ _ h => h) (Or.inl ⟨by kernel_rfl, ?_⟩) (by assumption) ?_
        rotate_left
        · (intro w' hSw; (try dsimp only at hSw); go_split_ands; go_simp; first | done | with_reducible rfl)
        try simp only [Act.put, List.setIfInBounds_toArray, List.set_cons_zero, List.set_cons_succ]
        refine wpAnyH_take (i := 7) (oi := ⟨some 52, _, _, _, _, _⟩) (v := ?_) rfl (by kernel_rfl) (by kernel_rfl) (by kernel_rfl) (fun _ _ _ h => h) (Or.inl ⟨by kernel_rfl, ?_⟩) (by assumption) ?_
        rotate_left
        · (intro w' hSw; (try dsimp only at hSw); go_split_ands; go_simp; first | done | with_reducible rfl)
        try simp only [Act.put, List.setIfInBounds_toArray, List.set_cons_zero, List.set_cons_succ]
        refine wpAnyH_ready (rs := [9]) (by kernel_rfl) (by simp) ?_
        refine AllReadyH.cons (o := ⟨none, _, _, _, _, _⟩) rfl (fun K hK => ?_) (AllReadyH.nil)
        rw [if_pos (by kernel_rfl)]
        refine wp_store_row _ _ _ rfl (x3.heap.size) #[.slice E1 f1 e1, .slice E2 f2 e2] rfl rfl 34 #[.slice none 0 0, .slice none 0 0] (show Lies (x5) (x3.heap.size) 34 #[.slice none 0 0, .slice none 0 0] from HQ1.out) (by kernel_rfl) rfl (by simp [Value.oneCell']) ?_
        obtain ⟨z1, hz1⟩ : ∃ X, X = (x5).setRow (x3.heap.size) #[.slice E1 f1 e1, .slice E2 f2 e2] := ⟨_, rfl⟩
        rw [← hz1]
        have HZ1 := Lib.hid hz1
        clear hz1
        have hbz : Below w8.heap.size w8 z1 := by rw [HZ1.out]; exact Sb.below_setRow (hbx5) ((hbx3).size) _
        refine hK.out _ _ ?_ (fun hHeld => ?_)
        · exact HKS.out _ hbz
        clear hK K
        try simp only [Act.put, List.setIfInBounds_toArray, List.set_cons_zero, List.set_cons_succ]
        refine wpAnyH_take (i := 10) (oi := ⟨some 7, _, _, _, _, _⟩) (v := ?_) rfl (by kernel_rfl) (by kernel_rfl) (by kernel_rfl) (fun _ _ _ h => h) (Or.inl ⟨by kernel_rfl, ?_⟩) (by assumption) ?_
        rotate_left
        · (intro w' hSw; (try dsimp only at hSw); go_split_ands; go_simp; first | done | with_reducible rfl)
        try simp only [Act.put, List.setIfInBounds_toArray, List.set_cons_zero, List.set_cons_succ]
        refine wpAnyH_take (i := 11) (oi := ⟨some 8, _, _, _, _, _⟩) (v := ?_) rfl (by kernel_rfl) (by kernel_rfl) (by kernel_rfl) (fun _ _ _ h => h) (Or.inl ⟨by kernel_rfl, ?_⟩) (by assumption) ?_
        rotate_left
        · (intro w' hSw; (try dsimp only at hSw); go_split_ands; go_simp; first | done | with_reducible rfl)
        try simp only [Act.put, List.setIfInBounds_toArray, List.set_cons_zero, List.set_cons_succ]
        refine wpAnyH_done (by kernel_rfl) ?_ _
        go_wp2_with fail
        go_meet
        exact ⟨_, E1, f1, e1, E2, f2, e2, err, rfl, rfl, rfl, HERR.out, (show Lies z1 (x3.heap.size) 34 #[.slice E1 f1 e1, .slice E2 f2 e2] from by rw [HZ1.out]; exact Sb.setRow_at (show Lies (x5) (x3.heap.size) 34 #[.slice none 0 0, .slice none 0 0] from HQ1.out) _), (hbx3).size, subT_off1 (HSV.out) (show Lies (x5) (x3.heap.size) 34 #[.slice none 0 0, .slice none 0 0] from HQ1.out) (fun g h1 _ => by rw [HZ1.out]; exact Sb.setRow_other _ _ _ _ h1), hbz⟩
    · go_simp
      refine hK.out _ _ ?_ (fun hHeld => ?_)
      · exact HKS.out _ (((((Below.refl w8.heap.size w8)).alloc ((Below.refl w8.heap.size w8)).size _)).drew)
      clear hK K
      try simp only [Act.put, List.setIfInBounds_toArray, List.set_cons_zero, List.set_cons_succ]
      refine wpAnyH_ready (rs := [0]) (by kernel_rfl) (by simp) ?_
      refine AllReadyH.cons (o := ⟨some 46, _, _, _, _, _⟩) rfl (fun K hK => ?_) (AllReadyH.nil)
      go_simp
      go_at_call 8
      refine (none_any _).mono ?_
      unfold noneV
      rintro e x3 ⟨rfl, hba⟩
      have hbx3 : Below w8.heap.size w8 x3 := (((((Below.refl w8.heap.size w8)).alloc ((Below.refl w8.heap.size w8)).size _)).drew).trans (hba.mono (((((Below.refl w8.heap.size w8)).alloc ((Below.refl w8.heap.size w8)).size _)).drew).size)
      have HQ0 := Lib.hid (Lies.later (show Lies ((w8.alloc (.cells #[.slice none 0 0, .slice none 0 0] 34)).drew) (w8.heap.size) 34 #[.slice none 0 0, .slice none 0 0] from Lies.new w8 _ _) hba)
      clear hba
      refine hK.out _ _ ?_ (fun hHeld => ?_)
      · exact HKS.out _ hbx3
      clear hK K
      try simp only [Act.put, List.setIfInBounds_toArray, List.set_cons_zero, List.set_cons_succ]
      refine wpAnyH_ready (rs := [3]) (by kernel_rfl) (by simp) ?_
      refine AllReadyH.cons (o := ⟨some 49, _, _, _, _, _⟩) rfl (fun K hK => ?_) (AllReadyH.nil)
      go_simp
      go_at_call 13
      refine (HRW.out _ (hbx3)).mono ?_
      rintro e x5 ⟨E1, f1, e1, E2, f2, e2, err, rfl, herr, hsv, hba⟩
      have HERR := Lib.hid herr
      have HSV := Lib.hid hsv
      clear herr hsv
      have hbx5 : Below w8.heap.size w8 x5 := (hbx3).trans (hba.mono (hbx3).size)
      have HQ1 := Lib.hid (Lies.later HQ0.out hba)
      clear hba
      refine hK.out _ _ ?_ (fun hHeld => ?_)
      · exact HKS.out _ hbx5
      clear hK K
      try simp only [Act.put, List.setIfInBounds_toArray, List.set_cons_zero, List.set_cons_succ]
      refine wpAnyH_take (i := 4) (oi := ⟨some 45, _, _, _, _, _⟩) (v := ?_) rfl (by kernel_rfl) (by kernel_rfl) (by kernel_rfl) (fun _ _ _ h => h) (Or.inl ⟨by kernel_rfl, ?_⟩) (by assumption) ?_
      rotate_left
      · (intro w' hSw; (try dsimp only at hSw); go_split_ands; go_simp; first | done | with_reducible rfl)
      try simp only [Act.put, List.setIfInBounds_toArray, List.set_cons_zero, List.set_cons_succ]
      refine wpAnyH_take (i := 5) (oi := ⟨some 50, _, _, _, _, _⟩) (v := ?_) rfl (by kernel_rfl) (by kernel_rfl) (by kernel_rfl) (fun _ _ _ h => h) (Or.inl ⟨by kernel_rfl, ?_⟩) (by assumption) ?_
      rotate_left
      · (intro w' hSw; (try dsimp only at hSw); go_split_ands; go_simp; first | done | with_reducible rfl)
      try simp only [Act.put, List.setIfInBounds_toArray, List.set_cons_zero, List.set_cons_succ]
      refine wpAnyH_take (i := 6) (oi := ⟨some 51, _, _, _, _, _⟩) (v := ?_) rfl (by kernel_rfl) (by kernel_rfl) (by kernel_rfl) (fun _ _ _ h => h) (Or.inl ⟨by kernel_rfl, ?_⟩) (by assumption) ?_
      rotate_left
      · (intro w' hSw; (try dsimp only at hSw); go_split_ands; go_simp; first | done | with_reducible rfl)
      try simp only [Act.put, List.setIfInBounds_toArray, List.set_cons_zero, List.set_cons_succ]
      refine wpAnyH_take (i := 7) (oi := ⟨some 52, _, _, _, _, _⟩) (v := ?_) rfl (by kernel_rfl) (by kernel_rfl) (by kernel_rfl) (fun _ _ _ h => h) (Or.inl ⟨by kernel_rfl, ?_⟩) (by assumption) ?_
      rotate_left
      · (intro w' hSw; (try dsimp only at hSw); go_split_ands; go_simp; first | done | with_reducible rfl)
      try simp only [Act.put, List.setIfInBounds_toArray, List.set_cons_zero, List.set_cons_succ]
      refine wpAnyH_ready (rs := [9]) (by kernel_rfl) (by simp) ?_
      refine AllReadyH.cons (o := ⟨none, _, _, _, _, _⟩) rfl (fun K hK => ?_) (AllReadyH.nil)
      rw [if_pos (by kernel_rfl)]
      refine wp_store_row _ _ _ rfl (w8.heap.size) #[.slice E1 f1 e1, .slice E2 f2 e2] rfl rfl 34 #[.slice none 0 0, .slice none 0 0] (show Lies (x5) (w8.heap.size) 34 #[.slice none 0 0, .slice none 0 0] from HQ1.out) (by kernel_rfl) rfl (by simp [Value.oneCell']) ?_
      obtain ⟨z1, hz1⟩ : ∃ X, X = (x5).setRow (w8.heap.size) #[.slice E1 f1 e1, .slice E2 f2 e2] := ⟨_, rfl⟩
      rw [← hz1]
      have HZ1 := Lib.hid hz1
      clear hz1
      have hbz : Below w8.heap.size w8 z1 := by rw [HZ1.out]; exact Sb.below_setRow (hbx5) (((Below.refl w8.heap.size w8)).size) _
      refine hK.out _ _ ?_ (fun hHeld => ?_)
      · exact HKS.out _ hbz
      clear hK K
      try simp only [Act.put, List.setIfInBounds_toArray, List.set_cons_zero, List.set_cons_succ]
      refine wpAnyH_take (i := 10) (oi := ⟨some 7, _, _, _, _, _⟩) (v := ?_) rfl (by kernel_rfl) (by kernel_rfl) (by kernel_rfl) (fun _ _ _ h => h) (Or.inl ⟨by kernel_rfl, ?_⟩) (by assumption) ?_
      rotate_left
      · (intro w' hSw; (try dsimp only at hSw); go_split_ands; go_simp; first | done | with_reducible rfl)
      try simp only [Act.put, List.setIfInBounds_toArray, List.set_cons_zero, List.set_cons_succ]
      refine wpAnyH_take (i := 11) (oi := ⟨some 8, _, _, _, _, _⟩) (v := ?_) rfl (by kernel_rfl) (by kernel_rfl) (by kernel_rfl) (fun _ _ _ h => h) (Or.inl ⟨by kernel_rfl, ?_⟩) (by assumption) ?_
      rotate_left
      · (intro w' hSw; (try dsimp only at hSw); go_split_ands; go_simp; first | done | with_reducible rfl)
      try simp only [Act.put, List.setIfInBounds_toArray, List.set_cons_zero, List.set_cons_succ]
      refine wpAnyH_done (by kernel_rfl) ?_ _
      go_wp2_with fail
      go_meet
      exact ⟨_, E1, f1, e1, E2, f2, e2, err, rfl, rfl, rfl, HERR.out, (show Lies z1 (w8.heap.size) 34 #[.slice E1 f1 e1, .slice E2 f2 e2] from by rw [HZ1.out]; exact Sb.setRow_at (show Lies (x5) (w8.heap.size) 34 #[.slice none 0 0, .slice none 0 0] from HQ1.out) _), ((Below.refl w8.heap.size w8)).size, subT_off1 (HSV.out) (show Lies (x5) (w8.heap.size) 34 #[.slice none 0 0, .slice none 0 0] from HQ1.out) (fun g h1 _ => by rw [HZ1.out]; exact Sb.setRow_other _ _ _ _ h1), hbz⟩
  case rest =>
    obtain ⟨g4, C4, p4, q4, D4, r4, s4, er4, rfl, rfl, rfl, her4, hl4, hge4, hsv4, hbx⟩ := hcut
    obtain ⟨y4, rfl⟩ : ∃ X, X = wc := ⟨_, rfl⟩
    have HER4 := Lib.hid her4
    have HL4 := Lib.hid hl4
    have HSV4 := Lib.hid hsv4
    clear her4 hl4 hge4 hsv4 HKS
    have HB := Lib.hid (HB.out.trans (hbx.mono HB.out.size))
    have HKA := Lib.hid (HKA.out.later hbx)
    have HKB := Lib.hid (HKB.out.later hbx)
    have a0 := HKA.out.cell 0
    have a1 := HKA.out.cell 1
    have a2 := HKA.out.cell 2
    have a3 := HKA.out.cell 3
    have a4 := HKA.out.cell 4
    have a5 := HKA.out.cell 5
    have b0 := HKB.out.cell 0
    have b1 := HKB.out.cell 1
    have b2 := HKB.out.cell 2
    have b3 := HKB.out.cell 3
    have b4 := HKB.out.cell 4
    have b5 := HKB.out.cell 5
    clear hbx
    clear HRW
    have HRW := Lib.hid (fun (X : World) (hx : Below y4.heap.size y4 X) => varL_top X t _ (HTA.out.later (HB.out.trans (hx.mono HB.out.size))) HGA.out (by omega))
    unfold noneV at HRW
    have HKS := Lib.hid (show ∀ X : World, Below y4.heap.size y4 X → (X.cell? ⟨w.heap.size, 0, none⟩ = some (.int .i64 k1) ∧ X.cell? ⟨w.heap.size, 1, none⟩ = some (.string (ba nm1)) ∧ X.cell? ⟨w.heap.size, 2, none⟩ = some (.int .i64 v1) ∧ X.cell? ⟨w.heap.size, 3, none⟩ = some (.slice A1 n1 c1) ∧ X.cell? ⟨w.heap.size, 4, none⟩ = some (.slice B1 m1 d1) ∧ X.cell? ⟨w.heap.size, 5, none⟩ = some (.int .i64 rv1)) ∧ (X.cell? ⟨w.heap.size + 1, 0, none⟩ = some (.int .i64 k2) ∧ X.cell? ⟨w.heap.size + 1, 1, none⟩ = some (.string (ba nm2)) ∧ X.cell? ⟨w.heap.size + 1, 2, none⟩ = some (.int .i64 v2) ∧ X.cell? ⟨w.heap.size + 1, 3, none⟩ = some (.slice A2 n2 c2) ∧ X.cell? ⟨w.heap.size + 1, 4, none⟩ = some (.slice B2 m2 d2) ∧ X.cell? ⟨w.heap.size + 1, 5, none⟩ = some (.int .i64 rv2)) from fun X hx => ⟨⟨(HKA.out.later hx).cell 0, (HKA.out.later hx).cell 1, (HKA.out.later hx).cell 2, (HKA.out.later hx).cell 3, (HKA.out.later hx).cell 4, (HKA.out.later hx).cell 5⟩, (HKB.out.later hx).cell 0, (HKB.out.later hx).cell 1, (HKB.out.later hx).cell 2, (HKB.out.later hx).cell 3, (HKB.out.later hx).cell 4, (HKB.out.later hx).cell 5⟩)
    go_upto_region 5 with fail
    go_cut [9, 10, 11] from 53 to 60 (fun p n e wx => ∃ (g : Nat) (E1 : Option Addr) (f1 e1 : Nat) (E2 : Option Addr) (f2 e2 : Nat) (err : Int), p = .pointer (some ⟨g, 0, none⟩) ∧ n = .int .i64 9 ∧ e = .int .i64 err ∧ (err = 0) ∧ Lies wx g 34 #[.slice E1 f1 e1, .slice E2 f2 e2] ∧ y4.heap.size ≤ g ∧ SubV wx (.agg #[.slice E1 f1 e1, .slice E2 f2 e2]) 900 (setF T0 1 t) R0 ∧ Below y4.heap.size y4 wx)
    case first =>
      clear a0 a1 a2 a3 a4 a5 b0 b1 b2 b3 b4 b5
      refine wp_region_held_drew (S := fun X => (X.cell? ⟨w.heap.size, 0, none⟩ = some (.int .i64 k1) ∧ X.cell? ⟨w.heap.size, 1, none⟩ = some (.string (ba nm1)) ∧ X.cell? ⟨w.heap.size, 2, none⟩ = some (.int .i64 v1) ∧ X.cell? ⟨w.heap.size, 3, none⟩ = some (.slice A1 n1 c1) ∧ X.cell? ⟨w.heap.size, 4, none⟩ = some (.slice B1 m1 d1) ∧ X.cell? ⟨w.heap.size, 5, none⟩ = some (.int .i64 rv1)) ∧ (X.cell? ⟨w.heap.size + 1, 0, none⟩ = some (.int .i64 k2) ∧ X.cell? ⟨w.heap.size + 1, 1, none⟩ = some (.string (ba nm2)) ∧ X.cell? ⟨w.heap.size + 1, 2, none⟩ = some (.int .i64 v2) ∧ X.cell? ⟨w.heap.size + 1, 3, none⟩ = some (.slice A2 n2 c2) ∧ X.cell? ⟨w.heap.size + 1, 4, none⟩ = some (.slice B2 m2 d2) ∧ X.cell? ⟨w.heap.size + 1, 5, none⟩ = some (.int .i64 rv2))) (by kernel_rfl) ?_ (fun hHeld => ?_)
      · exact HKS.out _ (Below.refl y4.heap.size y4).drew
      refine wpAnyH_take (i := 2) (oi := ⟨some 56, _, _, _, _, _⟩) (v := ?_) rfl (by kernel_rfl) (by kernel_rfl) (by kernel_rfl) (fun _ _ _ h => h) (Or.inl ⟨by kernel_rfl, ?_⟩) (by assumption) ?_
      rotate_left
      · (intro w' hSw; (try dsimp only at hSw); go_split_ands; go_simp; first | done | with_reducible rfl)
      try simp only [Act.put, List.setIfInBounds_toArray, List.set_cons_zero, List.set_cons_succ]
      refine wpAnyH_ready (rs := [0, 8]) (by kernel_rfl) (by simp) ?_
      refine AllReadyH.cons (o := ⟨some 54, _, _, _, _, _⟩) rfl (fun K hK => ?_) (AllReadyH.cons (o := ⟨some 9, _, _, _, _, _⟩) rfl (fun K hK => ?_) (AllReadyH.nil))
      · go_simp
        go_at_call 8
        refine (none_any _).mono ?_
        unfold noneV
        rintro e x3 ⟨rfl, hba⟩
        have hbx3 : Below y4.heap.size y4 x3 := (((Below.refl y4.heap.size y4)).drew).trans (hba.mono (((Below.refl y4.heap.size y4)).drew).size)
        clear hba
        refine hK.out _ _ ?_ (fun hHeld => ?_)
        · exact HKS.out _ hbx3
        clear hK K
        try simp only [Act.put, List.setIfInBounds_toArray, List.set_cons_zero, List.set_cons_succ]
        refine wpAnyH_ready (rs := [1, 8]) (by kernel_rfl) (by simp) ?_
        refine AllReadyH.cons (o := ⟨some 55, _, _, _, _, _⟩) rfl (fun K hK => ?_) (AllReadyH.cons (o := ⟨some 9, _, _, _, _, _⟩) rfl (fun K hK => ?_) (AllReadyH.nil))
        · go_simp
          go_at_call 14
          refine (tvar_any _ _).mono ?_
          rintro e x4 ⟨rfl, hba⟩
          have hbx4 : Below y4.heap.size y4 x4 := (hbx3).trans (hba.mono (hbx3).size)
          clear hba
          refine hK.out _ _ ?_ (fun hHeld => ?_)
          · exact HKS.out _ hbx4
          clear hK K
          try simp only [Act.put, List.setIfInBounds_toArray, List.set_cons_zero, List.set_cons_succ]
          refine wpAnyH_ready (rs := [3, 8]) (by kernel_rfl) (by simp) ?_
          refine AllReadyH.cons (o := ⟨some 57, _, _, _, _, _⟩) rfl (fun K hK => ?_) (AllReadyH.cons (o := ⟨some 9, _, _, _, _, _⟩) rfl (fun K hK => ?_) (AllReadyH.nil))
          · go_simp
            go_at_call 13
            refine (HRW.out _ (hbx4)).mono ?_
            rintro e x5 ⟨E1, f1, e1, E2, f2, e2, err, rfl, herr, hsv, hba⟩
            have HERR := Lib.hid herr
            have HSV := Lib.hid hsv
            clear herr hsv
            have hbx5 : Below y4.heap.size y4 x5 := (hbx4).trans (hba.mono (hbx4).size)
            clear hba
            refine hK.out _ _ ?_ (fun hHeld => ?_)
            · exact HKS.out _ hbx5
            clear hK K
            try simp only [Act.put, List.setIfInBounds_toArray, List.set_cons_zero, List.set_cons_succ]
            refine wpAnyH_take (i := 4) (oi := ⟨some 53, _, _, _, _, _⟩) (v := ?_) rfl (by kernel_rfl) (by kernel_rfl) (by kernel_rfl) (fun _ _ _ h => h) (Or.inl ⟨by kernel_rfl, ?_⟩) (by assumption) ?_
            rotate_left
            · (intro w' hSw; (try dsimp only at hSw); go_split_ands; go_simp; first | done | with_reducible rfl)
            try simp only [Act.put, List.setIfInBounds_toArray, List.set_cons_zero, List.set_cons_succ]
            refine wpAnyH_take (i := 5) (oi := ⟨some 58, _, _, _, _, _⟩) (v := ?_) rfl (by kernel_rfl) (by kernel_rfl) (by kernel_rfl) (fun _ _ _ h => h) (Or.inl ⟨by kernel_rfl, ?_⟩) (by assumption) ?_
            rotate_left
            · (intro w' hSw; (try dsimp only at hSw); go_split_ands; go_simp; first | done | with_reducible rfl)
            try simp only [Act.put, List.setIfInBounds_toArray, List.set_cons_zero, List.set_cons_succ]
            refine wpAnyH_take (i := 6) (oi := ⟨some 59, _, _, _, _, _⟩) (v := ?_) rfl (by kernel_rfl) (by kernel_rfl) (by kernel_rfl) (fun _ _ _ h => h) (Or.inl ⟨by kernel_rfl, ?_⟩) (by assumption) ?_
            rotate_left
            · (intro w' hSw; (try dsimp only at hSw); go_split_ands; go_simp; first | done | with_reducible rfl)
            try simp only [Act.put, List.setIfInBounds_toArray, List.set_cons_zero, List.set_cons_succ]
            refine wpAnyH_take (i := 7) (oi := ⟨some 60, _, _, _, _, _⟩) (v := ?_) rfl (by kernel_rfl) (by kernel_rfl) (by kernel_rfl) (fun _ _ _ h => h) (Or.inl ⟨by kernel_rfl, ?_⟩) (by assumption) ?_
            rotate_left
            · (intro w' hSw; (try dsimp only at hSw); go_split_ands; go_simp; first | done | with_reducible rfl)
            try simp only [Act.put, List.setIfInBounds_toArray, List.set_cons_zero, List.set_cons_succ]
            refine wpAnyH_ready (rs := [8]) (by kernel_rfl) (by simp) ?_
            refine AllReadyH.cons (o := ⟨some 9, _, _, _, _, _⟩) rfl (fun K hK => ?_) (AllReadyH.nil)
            go_simp
            refine hK.out _ _ ?_ (fun hHeld => ?_)
            · exact HKS.out _ (((hbx5).alloc (hbx5).size _))
            clear hK K
            try simp only [Act.put, List.setIfInBounds_toArray, List.set_cons_zero, List.set_cons_succ]
            refine wpAnyH_ready (rs := [9]) (by kernel_rfl) (by simp) ?_
            refine AllReadyH.cons (o := ⟨none, _, _, _, _, _⟩) rfl (fun K hK => ?_) (AllReadyH.nil)
            rw [if_pos (by kernel_rfl)]
            refine wp_store_row _ _ _ rfl (x5.heap.size) #[.slice E1 f1 e1, .slice E2 f2 e2] rfl rfl 34 #[.slice none 0 0, .slice none 0 0] (show Lies ((x5.alloc (.cells #[.slice none 0 0, .slice none 0 0] 34))) (x5.heap.size) 34 #[.slice none 0 0, .slice none 0 0] from Lies.new x5 _ _) (by kernel_rfl) rfl (by simp [Value.oneCell']) ?_
            obtain ⟨z1, hz1⟩ : ∃ X, X = ((x5.alloc (.cells #[.slice none 0 0, .slice none 0 0] 34))).setRow (x5.heap.size) #[.slice E1 f1 e1, .slice E2 f2 e2] := ⟨_, rfl⟩
            rw [← hz1]
            have HZ1 := Lib.hid hz1
            clear hz1
            have hbz : Below y4.heap.size y4 z1 := by rw [HZ1.out]; exact Sb.below_setRow (((hbx5).alloc (hbx5).size _)) ((hbx5).size) _
            refine hK.out _ _ ?_ (fun hHeld => ?_)
            · exact HKS.out _ hbz
            clear hK K
            try simp only [Act.put, List.setIfInBounds_toArray, List.set_cons_zero, List.set_cons_succ]
            refine wpAnyH_take (i := 10) (oi := ⟨some 10, _, _, _, _, _⟩) (v := ?_) rfl (by kernel_rfl) (by kernel_rfl) (by kernel_rfl) (fun _ _ _ h => h) (Or.inl ⟨by kernel_rfl, ?_⟩) (by assumption) ?_
            rotate_left
            · (intro w' hSw; (try dsimp only at hSw); go_split_ands; go_simp; first | done | with_reducible rfl)
            try simp only [Act.put, List.setIfInBounds_toArray, List.set_cons_zero, List.set_cons_succ]
            refine wpAnyH_take (i := 11) (oi := ⟨some 11, _, _, _, _, _⟩) (v := ?_) rfl (by kernel_rfl) (by kernel_rfl) (by kernel_rfl) (fun _ _ _ h => h) (Or.inl ⟨by kernel_rfl, ?_⟩) (by assumption) ?_
            rotate_left
            · (intro w' hSw; (try dsimp only at hSw); go_split_ands; go_simp; first | done | with_reducible rfl)
            try simp only [Act.put, List.setIfInBounds_toArray, List.set_cons_zero, List.set_cons_succ]
            refine wpAnyH_done (by kernel_rfl) ?_ _
            go_wp2_with fail
            go_meet
            exact ⟨_, E1, f1, e1, E2, f2, e2, err, rfl, rfl, rfl, HERR.out, (show Lies z1 (x5.heap.size) 34 #[.slice E1 f1 e1, .slice E2 f2 e2] from by rw [HZ1.out]; exact Sb.setRow_at (show Lies ((x5.alloc (.cells #[.slice none 0 0, .slice none 0 0] 34))) (x5.heap.size) 34 #[.slice none 0 0, .slice none 0 0] from Lies.new x5 _ _) _), (hbx5).size, subT_off1 (HSV.out.later (below_new x5 _)) (show Lies ((x5.alloc (.cells #[.slice none 0 0, .slice none 0 0] 34))) (x5.heap.size) 34 #[.slice none 0 0, .slice none 0 0] from Lies.new x5 _ _) (fun g h1 _ => by rw [HZ1.out]; exact Sb.setRow_other _ _ _ _ h1), hbz⟩
          · go_simp
            refine hK.out _ _ ?_ (fun hHeld => ?_)
            · exact HKS.out _ (((hbx4).alloc (hbx4).size _))
            clear hK K
            try simp only [Act.put, List.setIfInBounds_toArray, List.set_cons_zero, List.set_cons_succ]
            refine wpAnyH_ready (rs := [3]) (by kernel_rfl) (by simp) ?_
            refine AllReadyH.cons (o := ⟨some 57, _, _, _, _, _⟩) rfl (fun K hK => ?_) (AllReadyH.nil)
            go_simp
            go_at_call 13
            refine (HRW.out _ (((hbx4).alloc (hbx4).size _))).mono ?_
            rintro e x5 ⟨E1, f1, e1, E2, f2, e2, err, rfl, herr, hsv, hba⟩
            have HERR := Lib.hid herr
            have HSV := Lib.hid hsv
            clear herr hsv
            have hbx5 : Below y4.heap.size y4 x5 := (((hbx4).alloc (hbx4).size _)).trans (hba.mono (((hbx4).alloc (hbx4).size _)).size)
            have HQ2 := Lib.hid (Lies.later (show Lies ((x4.alloc (.cells #[.slice none 0 0, .slice none 0 0] 34))) (x4.heap.size) 34 #[.slice none 0 0, .slice none 0 0] from Lies.new x4 _ _) hba)
            clear hba
            refine hK.out _ _ ?_ (fun hHeld => ?_)
            · exact HKS.out _ hbx5
            clear hK K
            try simp only [Act.put, List.setIfInBounds_toArray, List.set_cons_zero, List.set_cons_succ]
            refine wpAnyH_take (i := 4) (oi := ⟨some 53, _, _, _, _, _⟩) (v := ?_) rfl (by kernel_rfl) (by kernel_rfl) (by kernel_rfl) (fun _ _ _ h => h) (Or.inl ⟨by kernel_rfl, ?_⟩) (by assumption) ?_
            rotate_left
            · (intro w' hSw; (try dsimp only at hSw); go_split_ands; go_simp; first | done | with_reducible rfl)
            try simp only [Act.put, List.setIfInBounds_toArray, List.set_cons_zero, List.set_cons_succ]
            refine wpAnyH_take (i := 5) (oi := ⟨some 58, _, _, _, _, _⟩) (v := ?_) rfl (by kernel_rfl) (by kernel_rfl) (by kernel_rfl) (fun _ _ _ h => h) (Or.inl ⟨by kernel_rfl, ?_⟩) (by assumption) ?_
            rotate_left
            · (intro w' hSw; (try dsimp only at hSw); go_split_ands; go_simp; first | done | with_reducible rfl)
            try simp only [Act.put, List.setIfInBounds_toArray, List.set_cons_zero, List.set_cons_succ]
            refine wpAnyH_take (i := 6) (oi := ⟨some 59, _, _, _, _, _⟩) (v := ?_) rfl (by kernel_rfl) (by kernel_rfl) (by kernel_rfl) (fun _ _ _ h => h) (Or.inl ⟨by kernel_rfl, ?_⟩) (by assumption) ?_
            rotate_left
            · (intro w' hSw; (try dsimp only at hSw); go_split_ands; go_simp; first | done | with_reducible rfl)
            try simp only [Act.put, List.setIfInBounds_toArray, List.set_cons_zero, List.set_cons_succ]
            refine wpAnyH_take (i := 7) (oi := ⟨some 60, _, _, _, _, _⟩) (v := ?_) rfl (by kernel_rfl) (by kernel_rfl) (by kernel_rfl) (fun _ _ _ h => h) (Or.inl ⟨by kernel_rfl, ?_⟩) (by assumption) ?_
            rotate_left
            · (intro w' hSw; (try dsimp only at hSw); go_split_ands; go_simp; first | done | with_reducible rfl)
            try simp only [Act.put, List.setIfInBounds_toArray, List.set_cons_zero, List.set_cons_succ]
            refine wpAnyH_ready (rs := [9]) (by kernel_rfl) (by simp) ?_
            refine AllReadyH.cons (o := ⟨none, _, _, _, _, _⟩) rfl (fun K hK => ?_) (AllReadyH.nil)
            rw [if_pos (by kernel_rfl)]
            refine wp_store_row _ _ _ rfl (x4.heap.size) #[.slice E1 f1 e1, .slice E2 f2 e2] rfl rfl 34 #[.slice none 0 0, .slice none 0 0] (show Lies (x5) (x4.heap.size) 34 #[.slice none 0 0, .slice none 0 0] from HQ2.out) (by kernel_rfl) rfl (by simp [Value.oneCell']) ?_
            obtain ⟨z1, hz1⟩ : ∃ X, X = (x5).setRow (x4.heap.size) #[.slice E1 f1 e1, .slice E2 f2 e2] := ⟨_, rfl⟩
            rw [← hz1]
            have HZ1 := Lib.hid hz1
            clear hz1
            have hbz : Below y4.heap.size y4 z1 := by rw [HZ1.out]; exact Sb.below_setRow (hbx5) ((hbx4).size) _
            refine hK.out _ _ ?_ (fun hHeld => ?_)
            · exact HKS.out _ hbz
            clear hK K
            try simp only [Act.put, List.setIfInBounds_toArray, List.set_cons_zero, List.set_cons_succ]
            refine wpAnyH_take (i := 10) (oi := ⟨some 10, _, _, _, _, _⟩) (v := ?_) rfl (by kernel_rfl) (by kernel_rfl) (by kernel_rfl) (fun _ _ _ h => h) (Or.inl ⟨by kernel_rfl, ?_⟩) (by assumption) ?_
            rotate_left
            · (intro w' hSw; (try dsimp only at hSw); go_split_ands; go_simp; first | done | with_reducible rfl)
            try simp only [Act.put, List.setIfInBounds_toArray, List.set_cons_zero, List.set_cons_succ]
            refine wpAnyH_take (i := 11) (oi := ⟨some 11, _, _, _, _, _⟩) (v := ?_) rfl (by kernel_rfl) (by kernel_rfl) (by kernel_rfl) (fun _ _ _ h => h) (Or.inl ⟨by kernel_rfl, ?_⟩) (by assumption) ?_
            rotate_left
            · (intro w' hSw; (try dsimp only at hSw); go_split_ands; go_simp; first | done | with_reducible rfl)
            try simp only [Act.put, List.setIfInBounds_toArray, List.set_cons_zero, List.set_cons_succ]
            refine wpAnyH_done (by kernel_rfl) ?_ _
            go_wp2_with fail
            go_meet
            exact ⟨_, E1, f1, e1, E2, f2, e2, err, rfl, rfl, rfl, HERR.out, (show Lies z1 (x4.heap.size) 34 #[.slice E1 f1 e1, .slice E2 f2 e2] from by rw [HZ1.out]; exact Sb.setRow_at (show Lies (x5) (x4.heap.size) 34 #[.slice none 0 0, .slice none 0 0] from HQ2.out) _), (hbx4).size, subT_off1 (HSV.out) (show Lies (x5) (x4.heap.size) 34 #[.slice none 0 0, .slice none 0 0] from HQ2.out) (fun g h1 _ => by rw [HZ1.out]; exact Sb.setRow_other _ _ _ _ h1), hbz⟩
        · go_simp
          refine hK.out _ _ ?_ (fun hHeld => ?_)
          · exact HKS.out _ (((hbx3).alloc (hbx3).size _))
          clear hK K
          try simp only [Act.put, List.setIfInBounds_toArray, List.set_cons_zero, List.set_cons_succ]
          refine wpAnyH_ready (rs := [1]) (by kernel_rfl) (by simp) ?_
          refine AllReadyH.cons (o := ⟨some 55, _, _, _, _, _⟩) rfl (fun K hK => ?_) (AllReadyH.nil)
          go_simp
          go_at_call 14
          refine (tvar_any _ _).mono ?_
          rintro e x4 ⟨rfl, hba⟩
          have hbx4 : Below y4.heap.size y4 x4 := (((hbx3).alloc (hbx3).size _)).trans (hba.mono (((hbx3).alloc (hbx3).size _)).size)
          have HQ1 := Lib.hid (Lies.later (show Lies ((x3.alloc (.cells #[.slice none 0 0, .slice none 0 0] 34))) (x3.heap.size) 34 #[.slice none 0 0, .slice none 0 0] from Lies.new x3 _ _) hba)
          clear hba
          refine hK.out _ _ ?_ (fun hHeld => ?_)
          · exact HKS.out _ hbx4
          clear hK K
          try simp only [Act.put, List.setIfInBounds_toArray, List.set_cons_zero, List.set_cons_succ]
          refine wpAnyH_ready (rs := [3]) (by kernel_rfl) (by simp) ?_
          refine AllReadyH.cons (o := ⟨some 57, _, _, _, _, _⟩) rfl (fun K hK => ?_) (AllReadyH.nil)
          go_simp
          go_at_call 13
          refine (HRW.out _ (hbx4)).mono ?_
          rintro e x5 ⟨E1, f1, e1, E2, f2, e2, err, rfl, herr, hsv, hba⟩
          have HERR := Lib.hid herr
          have HSV := Lib.hid hsv
          clear herr hsv
          have hbx5 : Below y4.heap.size y4 x5 := (hbx4).trans (hba.mono (hbx4).size)
          have HQ2 := Lib.hid (Lies.later HQ1.out hba)
          clear hba
          refine hK.out _ _ ?_ (fun hHeld => ?_)
          · exact HKS.out _ hbx5
          clear hK K
          try simp only [Act.put, List.setIfInBounds_toArray, List.set_cons_zero, List.set_cons_succ]
          refine wpAnyH_take (i := 4) (oi := ⟨some 53, _, _, _, _, _⟩) (v := ?_) rfl (by kernel_rfl) (by kernel_rfl) (by kernel_rfl) (fun _ _ _ h => h) (Or.inl ⟨by kernel_rfl, ?_⟩) (by assumption) ?_
          rotate_left
          · (intro w' hSw; (try dsimp only at hSw); go_split_ands; go_simp; first | done | with_reducible rfl)
          try simp only [Act.put, List.setIfInBounds_toArray, List.set_cons_zero, List.set_cons_succ]
          refine wpAnyH_take (i := 5) (oi := ⟨some 58, _, _, _, _, _⟩) (v := ?_) rfl (by kernel_rfl) (by kernel_rfl) (by kernel_rfl) (fun _ _ _ h => h) (Or.inl ⟨by kernel_rfl, ?_⟩) (by assumption) ?_
          rotate_left
          · (intro w' hSw; (try dsimp only at hSw); go_split_ands; go_simp; first | done | with_reducible rfl)
          try simp only [Act.put, List.setIfInBounds_toArray, List.set_cons_zero, List.set_cons_succ]
          refine wpAnyH_take (i := 6) (oi := ⟨some 59, _, _, _, _, _⟩) (v := ?_) rfl (by kernel_rfl) (by kernel_rfl) (by kernel_rfl) (fun _ _ _ h => h) (Or.inl ⟨by kernel_rfl, ?_⟩) (by assumption) ?_
          rotate_left
          · (intro w' hSw; (try dsimp only at hSw); go_split_ands; go_simp; first | done | with_reducible rfl)
          try simp only [Act.put, List.setIfInBounds_toArray, List.set_cons_zero, List.set_cons_succ]
          refine wpAnyH_take (i := 7) (oi := ⟨some 60, _, _, _, _, _⟩) (v := ?_) rfl (by kernel_rfl) (by kernel_rfl) (by kernel_rfl) (fun _ _ _ h => h) (Or.inl ⟨by kernel_rfl, ?_⟩) (by assumption) ?_
          rotate_left
          · (intro w' hSw; (try dsimp only at hSw); go_split_ands; go_simp; first | done | with_reducible rfl)
          try simp only [Act.put, List.setIfInBounds_toArray, List.set_cons_zero, List.set_cons_succ]
          refine wpAnyH_ready (rs := [9]) (by kernel_rfl) (by simp) ?_
          refine AllReadyH.cons (o := ⟨none, _, _, _, _, _⟩) rfl (fun K hK => ?_) (AllReadyH.nil)
          rw [if_pos (by kernel_rfl)]
          refine wp_store_row _ _ _ rfl (x3.heap.size) #[.slice E1 f1 e1, .slice E2 f2 e2] rfl rfl 34 #[.slice none 0 0, .slice none 0 0] (show Lies (x5) (x3.heap.size) 34 #[.slice none 0 0, .slice none 0 0] from HQ2.out) (by kernel_rfl) rfl (by simp [Value.oneCell']) ?_
          obtain ⟨z1, hz1⟩ : ∃ X, X = (x5).setRow (x3.heap.size) #[.slice E1 f1 e1, .slice E2 f2 e2] := ⟨_, rfl⟩
          rw [← hz1]
          have HZ1 := Lib.hid hz1
          clear hz1
          have hbz : Below y4.heap.size y4 z1 := by rw [HZ1.out]; exact Sb.below_setRow (hbx5) ((hbx3).size) _
          refine hK.out _ _ ?_ (fun hHeld => ?_)
          · exact HKS.out _ hbz
          clear hK K
          try simp only [Act.put, List.setIfInBounds_toArray, List.set_cons_zero, List.set_cons_succ]
          refine wpAnyH_take (i := 10) (oi := ⟨some 10, _, _, _, _, _⟩) (v := ?_) rfl (by kernel_rfl) (by kernel_rfl) (by kernel_rfl) (fun _ _ _ h => h) (Or.inl ⟨by kernel_rfl, ?_⟩) (by assumption) ?_
          rotate_left
          · (intro w' hSw; (try dsimp only at hSw); go_split_ands; go_simp; first | done | with_reducible rfl)
          try simp only [Act.put, List.setIfInBounds_toArray, List.set_cons_zero, List.set_cons_succ]
          refine wpAnyH_take (i := 11) (oi := ⟨some 11, _, _, _, _, _⟩) (v := ?_) rfl (by kernel_rfl) (by kernel_rfl) (by kernel_rfl) (fun _ _ _ h => h) (Or.inl ⟨by kernel_rfl, ?_⟩) (by assumption) ?_
          rotate_left
          · (intro w' hSw; (try dsimp only at hSw); go_split_ands; go_simp; first | done | with_reducible rfl)
          try simp only [Act.put, List.setIfInBounds_toArray, List.set_cons_zero, List.set_cons_succ]
          refine wpAnyH_done (by kernel_rfl) ?_ _
          go_wp2_with fail
          go_meet
          exact ⟨_, E1, f1, e1, E2, f2, e2, err, rfl, rfl, rfl, HERR.out, (show Lies z1 (x3.heap.size) 34 #[.slice E1 f1 e1, .slice E2 f2 e2] from by rw [HZ1.out]; exact Sb.setRow_at (show Lies (x5) (x3.heap.size) 34 #[.slice none 0 0, .slice none 0 0] from HQ2.out) _), (hbx3).size, subT_off1 (HSV.out) (show Lies (x5) (x3.heap.size) 34 #[.slice none 0 0, .slice none 0 0] from HQ2.out) (fun g h1 _ => by rw [HZ1.out]; exact Sb.setRow_other _ _ _ _ h1), hbz⟩
      · go_simp
        refine hK.out _ _ ?_ (fun hHeld => ?_)
        · exact HKS.out _ (((((Below.refl y4.heap.size y4)).alloc ((Below.refl y4.heap.size y4)).size _)).drew)
        clear hK K
        try simp only [Act.put, List.setIfInBounds_toArray, List.set_cons_zero, List.set_cons_succ]
        refine wpAnyH_ready (rs := [0]) (by kernel_rfl) (by simp) ?_
        refine AllReadyH.cons (o := ⟨some 54, _, _, _, _, _⟩) rfl (fun K hK => ?_) (AllReadyH.nil)
        go_simp
        go_at_call 8
        refine (none_any _).mono ?_
        unfold noneV
        rintro e x3 ⟨rfl, hba⟩
        have hbx3 : Below y4.heap.size y4 x3 := (((((Below.refl y4.heap.size y4)).alloc ((Below.refl y4.heap.size y4)).size _)).drew).trans (hba.mono (((((Below.refl y4.heap.size y4)).alloc ((Below.refl y4.heap.size y4)).size _)).drew).size)
        have HQ0 := Lib.hid (Lies.later (show Lies ((y4.alloc (.cells #[.slice none 0 0, .slice none 0 0] 34)).drew) (y4.heap.size) 34 #[.slice none 0 0, .slice none 0 0] from Lies.new y4 _ _) hba)
        clear hba
        refine hK.out _ _ ?_ (fun hHeld => ?_)
        · exact HKS.out _ hbx3
        clear hK K
        try simp only [Act.put, List.setIfInBounds_toArray, List.set_cons_zero, List.set_cons_succ]
        refine wpAnyH_ready (rs := [1]) (by kernel_rfl) (by simp) ?_
        refine AllReadyH.cons (o := ⟨some 55, _, _, _, _, _⟩) rfl (fun K hK => ?_) (AllReadyH.nil)
        go_simp
        go_at_call 14
        refine (tvar_any _ _).mono ?_
        rintro e x4 ⟨rfl, hba⟩
        have hbx4 : Below y4.heap.size y4 x4 := (hbx3).trans (hba.mono (hbx3).size)
        have HQ1 := Lib.hid (Lies.later HQ0.out hba)
        clear hba
        refine hK.out _ _ ?_ (fun hHeld => ?_)
        · exact HKS.out _ hbx4
        clear hK K
        try simp only [Act.put, List.setIfInBounds_toArray, List.set_cons_zero, List.set_cons_succ]
        refine wpAnyH_ready (rs := [3]) (by kernel_rfl) (by simp) ?_
        refine AllReadyH.cons (o := ⟨some 57, _, _, _, _, _⟩) rfl (fun K hK => ?_) (AllReadyH.nil)
        go_simp
        go_at_call 13
        refine (HRW.out _ (hbx4)).mono ?_
        rintro e x5 ⟨E1, f1, e1, E2, f2, e2, err, rfl, herr, hsv, hba⟩
        have HERR := Lib.hid herr
        have HSV := Lib.hid hsv
        clear herr hsv
        have hbx5 : Below y4.heap.size y4 x5 := (hbx4).trans (hba.mono (hbx4).size)
        have HQ2 := Lib.hid (Lies.later HQ1.out hba)
        clear hba
        refine hK.out _ _ ?_ (fun hHeld => ?_)
        · exact HKS.out _ hbx5
        clear hK K
        try simp only [Act.put, List.setIfInBounds_toArray, List.set_cons_zero, List.set_cons_succ]
        refine wpAnyH_take (i := 4) (oi := ⟨some 53, _, _, _, _, _⟩) (v := ?_) rfl (by kernel_rfl) (by kernel_rfl) (by kernel_rfl) (fun _ _ _ h => h) (Or.inl ⟨by kernel_rfl, ?_⟩) (by assumption) ?_
        rotate_left
        · (intro w' hSw; (try dsimp only at hSw); go_split_ands; go_simp; first | done | with_reducible rfl)
        try simp only [Act.put, List.setIfInBounds_toArray, List.set_cons_zero, List.set_cons_succ]
        refine wpAnyH_take (i := 5) (oi := ⟨some 58, _, _, _, _, _⟩) (v := ?_) rfl (by kernel_rfl) (by kernel_rfl) (by kernel_rfl) (fun _ _ _ h => h) (Or.inl ⟨by kernel_rfl, ?_⟩) (by assumption) ?_
        rotate_left
        · (intro w' hSw; (try dsimp only at hSw); go_split_ands; go_simp; first | done | with_reducible rfl)
        try simp only [Act.put, List.setIfInBounds_toArray, List.set_cons_zero, List.set_cons_succ]
        refine wpAnyH_take (i := 6) (oi := ⟨some 59, _, _, _, _, _⟩) (v := ?_) rfl (by kernel_rfl) (by kernel_rfl) (by kernel_rfl) (fun _ _ _ h => h) (Or.inl ⟨by kernel_rfl, ?_⟩) (by assumption) ?_
        rotate_left
        · (intro w' hSw; (try dsimp only at hSw); go_split_ands; go_simp; first | done | with_reducible rfl)
        try simp only [Act.put, List.setIfInBounds_toArray, List.set_cons_zero, List.set_cons_succ]
        refine wpAnyH_take (i := 7) (oi := ⟨some 60, _, _, _, _, _⟩) (v := ?_) rfl (by kernel_rfl) (by kernel_rfl) (by kernel_rfl) (fun _ _ _ h => h) (Or.inl ⟨by kernel_rfl, ?_⟩) (by assumption) ?_
        rotate_left
        · (intro w' hSw; (try dsimp only at hSw); go_split_ands; go_simp; first | done | with_reducible rfl)
        try simp only [Act.put, List.setIfInBounds_toArray, List.set_cons_zero, List.set_cons_succ]
        refine wpAnyH_ready (rs := [9]) (by kernel_rfl) (by simp) ?_
        refine AllReadyH.cons (o := ⟨none, _, _, _, _, _⟩) rfl (fun K hK => ?_) (AllReadyH.nil)
        rw [if_pos (by kernel_rfl)]
        refine wp_store_row _ _ _ rfl (y4.heap.size) #[.slice E1 f1 e1, .slice E2 f2 e2] rfl rfl 34 #[.slice none 0 0, .slice none 0 0] (show Lies (x5) (y4.heap.size) 34 #[.slice none 0 0, .slice none 0 0] from HQ2.out) (by kernel_rfl) rfl (by simp [Value.oneCell']) ?_
        obtain ⟨z1, hz1⟩ : ∃ X, X = (x5).setRow (y4.heap.size) #[.slice E1 f1 e1, .slice E2 f2 e2] := ⟨_, rfl⟩
        rw [← hz1]
        have HZ1 := Lib.hid hz1
        clear hz1
        have hbz : Below y4.heap.size y4 z1 := by rw [HZ1.out]; exact Sb.below_setRow (hbx5) (((Below.refl y4.heap.size y4)).size) _
        refine hK.out _ _ ?_ (fun hHeld => ?_)
        · exact HKS.out _ hbz
        clear hK K
        try simp only [Act.put, List.setIfInBounds_toArray, List.set_cons_zero, List.set_cons_succ]
        refine wpAnyH_take (i := 10) (oi := ⟨some 10, _, _, _, _, _⟩) (v := ?_) rfl (by kernel_rfl) (by kernel_rfl) (by kernel_rfl) (fun _ _ _ h => h) (Or.inl ⟨by kernel_rfl, ?_⟩) (by assumption) ?_
        rotate_left
        · (intro w' hSw; (try dsimp only at hSw); go_split_ands; go_simp; first | done | with_reducible rfl)
        try simp only [Act.put, List.setIfInBounds_toArray, List.set_cons_zero, List.set_cons_succ]
        refine wpAnyH_take (i := 11) (oi := ⟨some 11, _, _, _, _, _⟩) (v := ?_) rfl (by kernel_rfl) (by kernel_rfl) (by kernel_rfl) (fun _ _ _ h => h) (Or.inl ⟨by kernel_rfl, ?_⟩) (by assumption) ?_
        rotate_left
        · (intro w' hSw; (try dsimp only at hSw); go_split_ands; go_simp; first | done | with_reducible rfl)
        try simp only [Act.put, List.setIfInBounds_toArray, List.set_cons_zero, List.set_cons_succ]
        refine wpAnyH_done (by kernel_rfl) ?_ _
        go_wp2_with fail
        go_meet
        exact ⟨_, E1, f1, e1, E2, f2, e2, err, rfl, rfl, rfl, HERR.out, (show Lies z1 (y4.heap.size) 34 #[.slice E1 f1 e1, .slice E2 f2 e2] from by rw [HZ1.out]; exact Sb.setRow_at (show Lies (x5) (y4.heap.size) 34 #[.slice none 0 0, .slice none 0 0] from HQ2.out) _), ((Below.refl y4.heap.size y4)).size, subT_off1 (HSV.out) (show Lies (x5) (y4.heap.size) 34 #[.slice none 0 0, .slice none 0 0] from HQ2.out) (fun g h1 _ => by rw [HZ1.out]; exact Sb.setRow_other _ _ _ _ h1), hbz⟩
    case rest =>
      obtain ⟨g5, C5, p5, q5, D5, r5, s5, er5, rfl, rfl, rfl, her5, hl5, hge5, hsv5, hbx⟩ := hcut
      obtain ⟨y5, rfl⟩ : ∃ X, X = wc := ⟨_, rfl⟩
      have HER5 := Lib.hid her5
      have HL5 := Lib.hid hl5
      have HSV5 := Lib.hid hsv5
      have HL4X := Lib.hid (HL4.out.later hbx)
      have HSV4X := Lib.hid (HSV4.out.later hbx)
      clear her5 hl5 hge5 hsv5 HKS
      have HB := Lib.hid (HB.out.trans (hbx.mono HB.out.size))
      have HKA := Lib.hid (HKA.out.later hbx)
      have HKB := Lib.hid (HKB.out.later hbx)
      have a0 := HKA.out.cell 0
      have a1 := HKA.out.cell 1
      have a2 := HKA.out.cell 2
      have a3 := HKA.out.cell 3
      have a4 := HKA.out.cell 4
      have a5 := HKA.out.cell 5
      have b0 := HKB.out.cell 0
      have b1 := HKB.out.cell 1
      have b2 := HKB.out.cell 2
      have b3 := HKB.out.cell 3
      have b4 := HKB.out.cell 4
      have b5 := HKB.out.cell 5
      clear hbx
      clear HRW
      have HRW := Lib.hid (fun (X : World) (hx : Below y5.heap.size y5 X) => varR_top X u _ (HTB.out.later (HB.out.trans (hx.mono HB.out.size))) HGB.out (by omega))
      unfold noneV at HRW
      have HKS := Lib.hid (show ∀ X : World, Below y5.heap.size y5 X → (X.cell? ⟨w.heap.size, 0, none⟩ = some (.int .i64 k1) ∧ X.cell? ⟨w.heap.size, 1, none⟩ = some (.string (ba nm1)) ∧ X.cell? ⟨w.heap.size, 2, none⟩ = some (.int .i64 v1) ∧ X.cell? ⟨w.heap.size, 3, none⟩ = some (.slice A1 n1 c1) ∧ X.cell? ⟨w.heap.size, 4, none⟩ = some (.slice B1 m1 d1) ∧ X.cell? ⟨w.heap.size, 5, none⟩ = some (.int .i64 rv1)) ∧ (X.cell? ⟨w.heap.size + 1, 0, none⟩ = some (.int .i64 k2) ∧ X.cell? ⟨w.heap.size + 1, 1, none⟩ = some (.string (ba nm2)) ∧ X.cell? ⟨w.heap.size + 1, 2, none⟩ = some (.int .i64 v2) ∧ X.cell? ⟨w.heap.size + 1, 3, none⟩ = some (.slice A2 n2 c2) ∧ X.cell? ⟨w.heap.size + 1, 4, none⟩ = some (.slice B2 m2 d2) ∧ X.cell? ⟨w.heap.size + 1, 5, none⟩ = some (.int .i64 rv2)) from fun X hx => ⟨⟨(HKA.out.later hx).cell 0, (HKA.out.later hx).cell 1, (HKA.out.later hx).cell 2, (HKA.out.later hx).cell 3, (HKA.out.later hx).cell 4, (HKA.out.later hx).cell 5⟩, (HKB.out.later hx).cell 0, (HKB.out.later hx).cell 1, (HKB.out.later hx).cell 2, (HKB.out.later hx).cell 3, (HKB.out.later hx).cell 4, (HKB.out.later hx).cell 5⟩)
      go_upto_region 6 with fail
      go_cut [12, 13, 14] from 61 to 68 (fun p n e wx => ∃ (g : Nat) (E1 : Option Addr) (f1 e1 : Nat) (E2 : Option Addr) (f2 e2 : Nat) (err : Int), p = .pointer (some ⟨g, 0, none⟩) ∧ n = .int .i64 9 ∧ e = .int .i64 err ∧ (err = 0) ∧ Lies wx g 34 #[.slice E1 f1 e1, .slice E2 f2 e2] ∧ y5.heap.size ≤ g ∧ SubV wx (.agg #[.slice E1 f1 e1, .slice E2 f2 e2]) 900 (setF T0 2 u) R0 ∧ Below y5.heap.size y5 wx)
      case first =>
        clear a0 a1 a2 a3 a4 a5 b0 b1 b2 b3 b4 b5
        refine wp_region_held_drew (S := fun X => (X.cell? ⟨w.heap.size, 0, none⟩ = some (.int .i64 k1) ∧ X.cell? ⟨w.heap.size, 1, none⟩ = some (.string (ba nm1)) ∧ X.cell? ⟨w.heap.size, 2, none⟩ = some (.int .i64 v1) ∧ X.cell? ⟨w.heap.size, 3, none⟩ = some (.slice A1 n1 c1) ∧ X.cell? ⟨w.heap.size, 4, none⟩ = some (.slice B1 m1 d1) ∧ X.cell? ⟨w.heap.size, 5, none⟩ = some (.int .i64 rv1)) ∧ (X.cell? ⟨w.heap.size + 1, 0, none⟩ = some (.int .i64 k2) ∧ X.cell? ⟨w.heap.size + 1, 1, none⟩ = some (.string (ba nm2)) ∧ X.cell? ⟨w.heap.size + 1, 2, none⟩ = some (.int .i64 v2) ∧ X.cell? ⟨w.heap.size + 1, 3, none⟩ = some (.slice A2 n2 c2) ∧ X.cell? ⟨w.heap.size + 1, 4, none⟩ = some (.slice B2 m2 d2) ∧ X.cell? ⟨w.heap.size + 1, 5, none⟩ = some (.int .i64 rv2))) (by kernel_rfl) ?_ (fun hHeld => ?_)
        · exact HKS.out _ (Below.refl y5.heap.size y5).drew
        refine wpAnyH_take (i := 1) (oi := ⟨some 63, _, _, _, _, _⟩) (v := ?_) rfl (by kernel_rfl) (by kernel_rfl) (by kernel_rfl) (fun _ _ _ h => h) (Or.inl ⟨by kernel_rfl, ?_⟩) (by assumption) ?_
        rotate_left
        · (intro w' hSw; (try dsimp only at hSw); go_split_ands; go_simp; first | done | with_reducible rfl)
        try simp only [Act.put, List.setIfInBounds_toArray, List.set_cons_zero, List.set_cons_succ]
        refine wpAnyH_ready (rs := [0, 8]) (by kernel_rfl) (by simp) ?_
        refine AllReadyH.cons (o := ⟨some 62, _, _, _, _, _⟩) rfl (fun K hK => ?_) (AllReadyH.cons (o := ⟨some 12, _, _, _, _, _⟩) rfl (fun K hK => ?_) (AllReadyH.nil))
        · go_simp
          go_at_call 8
          refine (none_any _).mono ?_
          unfold noneV
          rintro e x3 ⟨rfl, hba⟩
          have hbx3 : Below y5.heap.size y5 x3 := (((Below.refl y5.heap.size y5)).drew).trans (hba.mono (((Below.refl y5.heap.size y5)).drew).size)
          clear hba
          refine hK.out _ _ ?_ (fun hHeld => ?_)
          · exact HKS.out _ hbx3
          clear hK K
          try simp only [Act.put, List.setIfInBounds_toArray, List.set_cons_zero, List.set_cons_succ]
          refine wpAnyH_ready (rs := [2, 8]) (by kernel_rfl) (by simp) ?_
          refine AllReadyH.cons (o := ⟨some 64, _, _, _, _, _⟩) rfl (fun K hK => ?_) (AllReadyH.cons (o := ⟨some 12, _, _, _, _, _⟩) rfl (fun K hK => ?_) (AllReadyH.nil))
          · go_simp
            go_at_call 14
            refine (tvar_any _ _).mono ?_
            rintro e x4 ⟨rfl, hba⟩
            have hbx4 : Below y5.heap.size y5 x4 := (hbx3).trans (hba.mono (hbx3).size)
            clear hba
            refine hK.out _ _ ?_ (fun hHeld => ?_)
            · exact HKS.out _ hbx4
            clear hK K
            try simp only [Act.put, List.setIfInBounds_toArray, List.set_cons_zero, List.set_cons_succ]
            refine wpAnyH_ready (rs := [3, 8]) (by kernel_rfl) (by simp) ?_
            refine AllReadyH.cons (o := ⟨some 65, _, _, _, _, _⟩) rfl (fun K hK => ?_) (AllReadyH.cons (o := ⟨some 12, _, _, _, _, _⟩) rfl (fun K hK => ?_) (AllReadyH.nil))
            · go_simp
              go_at_call 13
              refine (HRW.out _ (hbx4)).mono ?_
              rintro e x5 ⟨E1, f1, e1, E2, f2, e2, err, rfl, herr, hsv, hba⟩
              have HERR := Lib.hid herr
              have HSV := Lib.hid hsv
              clear herr hsv
              have hbx5 : Below y5.heap.size y5 x5 := (hbx4).trans (hba.mono (hbx4).size)
              clear hba
              refine hK.out _ _ ?_ (fun hHeld => ?_)
              · exact HKS.out _ hbx5
              clear hK K
              try simp only [Act.put, List.setIfInBounds_toArray, List.set_cons_zero, List.set_cons_succ]
              refine wpAnyH_take (i := 4) (oi := ⟨some 61, _, _, _, _, _⟩) (v := ?_) rfl (by kernel_rfl) (by kernel_rfl) (by kernel_rfl) (fun _ _ _ h => h) (Or.inl ⟨by kernel_rfl, ?_⟩) (by assumption) ?_
              rotate_left
              · (intro w' hSw; (try dsimp only at hSw); go_split_ands; go_simp; first | done | with_reducible rfl)
              try simp only [Act.put, List.setIfInBounds_toArray, List.set_cons_zero, List.set_cons_succ]
              refine wpAnyH_take (i := 5) (oi := ⟨some 66, _, _, _, _, _⟩) (v := ?_) rfl (by kernel_rfl) (by kernel_rfl) (by kernel_rfl) (fun _ _ _ h => h) (Or.inl ⟨by kernel_rfl, ?_⟩) (by assumption) ?_
              rotate_left
              · (intro w' hSw; (try dsimp only at hSw); go_split_ands; go_simp; first | done | with_reducible rfl)
              try simp only [Act.put, List.setIfInBounds_toArray, List.set_cons_zero, List.set_cons_succ]
              refine wpAnyH_take (i := 6) (oi := ⟨some 67, _, _, _, _, _⟩) (v := ?_) rfl (by kernel_rfl) (by kernel_rfl) (by kernel_rfl) (fun _ _ _ h => h) (Or.inl ⟨by kernel_rfl, ?_⟩) (by assumption) ?_
              rotate_left
              · (intro w' hSw; (try dsimp only at hSw); go_split_ands; go_simp; first | done | with_reducible rfl)
              try simp only [Act.put, List.setIfInBounds_toArray, List.set_cons_zero, List.set_cons_succ]
              refine wpAnyH_take (i := 7) (oi := ⟨some 68, _, _, _, _, _⟩) (v := ?_) rfl (by kernel_rfl) (by kernel_rfl) (by kernel_rfl) (fun _ _ _ h => h) (Or.inl ⟨by kernel_rfl, ?_⟩) (by assumption) ?_
              rotate_left
              · (intro w' hSw; (try dsimp only at hSw); go_split_ands; go_simp; first | done | with_reducible rfl)
              try simp only [Act.put, List.setIfInBounds_toArray, List.set_cons_zero, List.set_cons_succ]
              refine wpAnyH_ready (rs := [8]) (by kernel_rfl) (by simp) ?_
              refine AllReadyH.cons (o := ⟨some 12, _, _, _, _, _⟩) rfl (fun K hK => ?_) (AllReadyH.nil)
              go_simp
              refine hK.out _ _ ?_ (fun hHeld => ?_)
              · exact HKS.out _ (((hbx5).alloc (hbx5).size _))
              clear hK K
              try simp only [Act.put, List.setIfInBounds_toArray, List.set_cons_zero, List.set_cons_succ]
              refine wpAnyH_ready (rs := [9]) (by kernel_rfl) (by simp) ?_
              refine AllReadyH.cons (o := ⟨none, _, _, _, _, _⟩) rfl (fun K hK => ?_) (AllReadyH.nil)
              rw [if_pos (by kernel_rfl)]
              refine wp_store_row _ _ _ rfl (x5.heap.size) #[.slice E1 f1 e1, .slice E2 f2 e2] rfl rfl 34 #[.slice none 0 0, .slice none 0 0] (show Lies ((x5.alloc (.cells #[.slice none 0 0, .slice none 0 0] 34))) (x5.heap.size) 34 #[.slice none 0 0, .slice none 0 0] from Lies.new x5 _ _) (by kernel_rfl) rfl (by simp [Value.oneCell']) ?_
              obtain ⟨z1, hz1⟩ : ∃ X, X = ((x5.alloc (.cells #[.slice none 0 0, .slice none 0 0] 34))).setRow (x5.heap.size) #[.slice E1 f1 e1, .slice E2 f2 e2] := ⟨_, rfl⟩
              rw [← hz1]
              have HZ1 := Lib.hid hz1
              clear hz1
              have hbz : Below y5.heap.size y5 z1 := by rw [HZ1.out]; exact Sb.below_setRow (((hbx5).alloc (hbx5).size _)) ((hbx5).size) _
              refine hK.out _ _ ?_ (fun hHeld => ?_)
              · exact HKS.out _ hbz
              clear hK K
              try simp only [Act.put, List.setIfInBounds_toArray, List.set_cons_zero, List.set_cons_succ]
              refine wpAnyH_take (i := 10) (oi := ⟨some 13, _, _, _, _, _⟩) (v := ?_) rfl (by kernel_rfl) (by kernel_rfl) (by kernel_rfl) (fun _ _ _ h => h) (Or.inl ⟨by kernel_rfl, ?_⟩) (by assumption) ?_
              rotate_left
              · (intro w' hSw; (try dsimp only at hSw); go_split_ands; go_simp; first | done | with_reducible rfl)
              try simp only [Act.put, List.setIfInBounds_toArray, List.set_cons_zero, List.set_cons_succ]
              refine wpAnyH_take (i := 11) (oi := ⟨some 14, _, _, _, _, _⟩) (v := ?_) rfl (by kernel_rfl) (by kernel_rfl) (by kernel_rfl) (fun _ _ _ h => h) (Or.inl ⟨by kernel_rfl, ?_⟩) (by assumption) ?_
              rotate_left
              · (intro w' hSw; (try dsimp only at hSw); go_split_ands; go_simp; first | done | with_reducible rfl)
              try simp only [Act.put, List.setIfInBounds_toArray, List.set_cons_zero, List.set_cons_succ]
              refine wpAnyH_done (by kernel_rfl) ?_ _
              go_wp2_with fail
              go_meet
              exact ⟨_, E1, f1, e1, E2, f2, e2, err, rfl, rfl, rfl, HERR.out, (show Lies z1 (x5.heap.size) 34 #[.slice E1 f1 e1, .slice E2 f2 e2] from by rw [HZ1.out]; exact Sb.setRow_at (show Lies ((x5.alloc (.cells #[.slice none 0 0, .slice none 0 0] 34))) (x5.heap.size) 34 #[.slice none 0 0, .slice none 0 0] from Lies.new x5 _ _) _), (hbx5).size, subT_off1 (HSV.out.later (below_new x5 _)) (show Lies ((x5.alloc (.cells #[.slice none 0 0, .slice none 0 0] 34))) (x5.heap.size) 34 #[.slice none 0 0, .slice none 0 0] from Lies.new x5 _ _) (fun g h1 _ => by rw [HZ1.out]; exact Sb.setRow_other _ _ _ _ h1), hbz⟩
            · go_simp
              refine hK.out _ _ ?_ (fun hHeld => ?_)
              · exact HKS.out _ (((hbx4).alloc (hbx4).size _))
              clear hK K
              try simp only [Act.put, List.setIfInBounds_toArray, List.set_cons_zero, List.set_cons_succ]
              refine wpAnyH_ready (rs := [3]) (by kernel_rfl) (by simp) ?_
              refine AllReadyH.cons (o := ⟨some 65, _, _, _, _, _⟩) rfl (fun K hK => ?_) (AllReadyH.nil)
              go_simp
              go_at_call 13
              refine (HRW.out _ (((hbx4).alloc (hbx4).size _))).mono ?_
              rintro e x5 ⟨E1, f1, e1, E2, f2, e2, err, rfl, herr, hsv, hba⟩
              have HERR := Lib.hid herr
              have HSV := Lib.hid hsv
              clear herr hsv
              have hbx5 : Below y5.heap.size y5 x5 := (((hbx4).alloc (hbx4).size _)).trans (hba.mono (((hbx4).alloc (hbx4).size _)).size)
              have HQ2 := Lib.hid (Lies.later (show Lies ((x4.alloc (.cells #[.slice none 0 0, .slice none 0 0] 34))) (x4.heap.size) 34 #[.slice none 0 0, .slice none 0 0] from Lies.new x4 _ _) hba)
              clear hba
              refine hK.out _ _ ?_ (fun hHeld => ?_)
              · exact HKS.out _ hbx5
              clear hK K
              try simp only [Act.put, List.setIfInBounds_toArray, List.set_cons_zero, List.set_cons_succ]
              refine wpAnyH_take (i := 4) (oi := ⟨some 61, _, _, _, _, _⟩) (v := ?_) rfl (by kernel_rfl) (by kernel_rfl) (by kernel_rfl) (fun _ _ _ h => h) (Or.inl ⟨by kernel_rfl, ?_⟩) (by assumption) ?_
              rotate_left
              · (intro w' hSw; (try dsimp only at hSw); go_split_ands; go_simp; first | done | with_reducible rfl)
              try simp only [Act.put, List.setIfInBounds_toArray, List.set_cons_zero, List.set_cons_succ]
              refine wpAnyH_take (i := 5) (oi := ⟨some 66, _, _, _, _, _⟩) (v := ?_) rfl (by kernel_rfl) (by kernel_rfl) (by kernel_rfl) (fun _ _ _ h => h) (Or.inl ⟨by kernel_rfl, ?_⟩) (by assumption) ?_
              rotate_left
              · (intro w' hSw; (try dsimp only at hSw); go_split_ands; go_simp; first | done | with_reducible rfl)
              try simp only [Act.put, List.setIfInBounds_toArray, List.set_cons_zero, List.set_cons_succ]
              refine wpAnyH_take (i := 6) (oi := ⟨some 67, _, _, _, _, _⟩) (v := ?_) rfl (by kernel_rfl) (by kernel_rfl) (by kernel_rfl) (fun _ _ _ h => h) (Or.inl ⟨by kernel_rfl, ?_⟩) (by assumption) ?_
              rotate_left
              · (intro w' hSw; (try dsimp only at hSw); go_split_ands; go_simp; first | done | with_reducible rfl)
              try simp only [Act.put, List.setIfInBounds_toArray, List.set_cons_zero, List.set_cons_succ]
              refine wpAnyH_take (i := 7) (oi := ⟨some 68, _, _, _, _, _⟩) (v := ?_) rfl (by kernel_rfl) (by kernel_rfl) (by kernel_rfl) (fun _ _ _ h => h) (Or.inl ⟨by kernel_rfl, ?_⟩) (by assumption) ?_
              rotate_left
              · (intro w' hSw; (try dsimp only at hSw); go_split_ands; go_simp; first | done | with_reducible rfl)
              try simp only [Act.put, List.setIfInBounds_toArray, List.set_cons_zero, List.set_cons_succ]
              refine wpAnyH_ready (rs := [9]) (by kernel_rfl) (by simp) ?_
              refine AllReadyH.cons (o := ⟨none, _, _, _, _, _⟩) rfl (fun K hK => ?_) (AllReadyH.nil)
              rw [if_pos (by kernel_rfl)]
              refine wp_store_row _ _ _ rfl (x4.heap.size) #[.slice E1 f1 e1, .slice E2 f2 e2] rfl rfl 34 #[.slice none 0 0, .slice none 0 0] (show Lies (x5) (x4.heap.size) 34 #[.slice none 0 0, .slice none 0 0] from HQ2.out) (by kernel_rfl) rfl (by simp [Value.oneCell']) ?_
              obtain ⟨z1, hz1⟩ : ∃ X, X = (x5).setRow (x4.heap.size) #[.slice E1 f1 e1, .slice E2 f2 e2] := ⟨_, rfl⟩
              rw [← hz1]
              have HZ1 := Lib.hid hz1
              clear hz1
              have hbz : Below y5.heap.size y5 z1 := by rw [HZ1.out]; exact Sb.below_setRow (hbx5) ((hbx4).size) _
              refine hK.out _ _ ?_ (fun hHeld => ?_)
              · exact HKS.out _ hbz
              clear hK K
              try simp only [Act.put, List.setIfInBounds_toArray, List.set_cons_zero, List.set_cons_succ]
              refine wpAnyH_take (i := 10) (oi := ⟨some 13, _, _, _, _, _⟩) (v := ?_) rfl (by kernel_rfl) (by kernel_rfl) (by kernel_rfl) (fun _ _ _ h => h) (Or.inl ⟨by kernel_rfl, ?_⟩) (by assumption) ?_
              rotate_left
              · (intro w' hSw; (try dsimp only at hSw); go_split_ands; go_simp; first | done | with_reducible rfl)
              try simp only [Act.put, List.setIfInBounds_toArray, List.set_cons_zero, List.set_cons_succ]
              refine wpAnyH_take (i := 11) (oi := ⟨some 14, _, _, _, _, _⟩) (v := ?_) rfl (by kernel_rfl) (by kernel_rfl) (by kernel_rfl) (fun _ _ _ h => h) (Or.inl ⟨by kernel_rfl, ?_⟩) (by assumption) ?_
              rotate_left
              · (intro w' hSw; (try dsimp only at hSw); go_split_ands; go_simp; first | done | with_reducible rfl)
              try simp only [Act.put, List.setIfInBounds_toArray, List.set_cons_zero, List.set_cons_succ]
              refine wpAnyH_done (by kernel_rfl) ?_ _
              go_wp2_with fail
              go_meet
              exact ⟨_, E1, f1, e1, E2, f2, e2, err, rfl, rfl, rfl, HERR.out, (show Lies z1 (x4.heap.size) 34 #[.slice E1 f1 e1, .slice E2 f2 e2] from by rw [HZ1.out]; exact Sb.setRow_at (show Lies (x5) (x4.heap.size) 34 #[.slice none 0 0, .slice none 0 0] from HQ2.out) _), (hbx4).size, subT_off1 (HSV.out) (show Lies (x5) (x4.heap.size) 34 #[.slice none 0 0, .slice none 0 0] from HQ2.out) (fun g h1 _ => by rw [HZ1.out]; exact Sb.setRow_other _ _ _ _ h1), hbz⟩
          · go_simp
            refine hK.out _ _ ?_ (fun hHeld => ?_)
            · exact HKS.out _ (((hbx3).alloc (hbx3).size _))
            clear hK K
            try simp only [Act.put, List.setIfInBounds_toArray, List.set_cons_zero, List.set_cons_succ]
            refine wpAnyH_ready (rs := [2]) (by kernel_rfl) (by simp) ?_
            refine AllReadyH.cons (o := ⟨some 64, _, _, _, _, _⟩) rfl (fun K hK => ?_) (AllReadyH.nil)
            go_simp
            go_at_call 14
            refine (tvar_any _ _).mono ?_
            rintro e x4 ⟨rfl, hba⟩
            have hbx4 : Below y5.heap.size y5 x4 := (((hbx3).alloc (hbx3).size _)).trans (hba.mono (((hbx3).alloc (hbx3).size _)).size)
            have HQ1 := Lib.hid (Lies.later (show Lies ((x3.alloc (.cells #[.slice none 0 0, .slice none 0 0] 34))) (x3.heap.size) 34 #[.slice none 0 0, .slice none 0 0] from Lies.new x3 _ _) hba)
            clear hba
            refine hK.out _ _ ?_ (fun hHeld => ?_)
            · exact HKS.out _ hbx4
            clear hK K
            try simp only [Act.put, List.setIfInBounds_toArray, List.set_cons_zero, List.set_cons_succ]
            refine wpAnyH_ready (rs := [3]) (by kernel_rfl) (by simp) ?_
            refine AllReadyH.cons (o := ⟨some 65, _, _, _, _, _⟩) rfl (fun K hK => ?_) (AllReadyH.nil)
            go_simp
            go_at_call 13
            refine (HRW.out _ (hbx4)).mono ?_
            rintro e x5 ⟨E1, f1, e1, E2, f2, e2, err, rfl, herr, hsv, hba⟩
            have HERR := Lib.hid herr
            have HSV := Lib.hid hsv
            clear herr hsv
            have hbx5 : Below y5.heap.size y5 x5 := (hbx4).trans (hba.mono (hbx4).size)
            have HQ2 := Lib.hid (Lies.later HQ1.out hba)
            clear hba
            refine hK.out _ _ ?_ (fun hHeld => ?_)
            · exact HKS.out _ hbx5
            clear hK K
            try simp only [Act.put, List.setIfInBounds_toArray, List.set_cons_zero, List.set_cons_succ]
            refine wpAnyH_take (i := 4) (oi := ⟨some 61, _, _, _, _, _⟩) (v := ?_) rfl (by kernel_rfl) (by kernel_rfl) (by kernel_rfl) (fun _ _ _ h => h) (Or.inl ⟨by kernel_rfl, ?_⟩) (by assumption) ?_
            rotate_left
            · (intro w' hSw; (try dsimp only at hSw); go_split_ands; go_simp; first | done | with_reducible rfl)
            try simp only [Act.put, List.setIfInBounds_toArray, List.set_cons_zero, List.set_cons_succ]
            refine wpAnyH_take (i := 5) (oi := ⟨some 66, _, _, _, _, _⟩) (v := ?_) rfl (by kernel_rfl) (by kernel_rfl) (by kernel_rfl) (fun _ _ _ h => h) (Or.inl ⟨by kernel_rfl, ?_⟩) (by assumption) ?_
            rotate_left
            · (intro w' hSw; (try dsimp only at hSw); go_split_ands; go_simp; first | done | with_reducible rfl)
            try simp only [Act.put, List.setIfInBounds_toArray, List.set_cons_zero, List.set_cons_succ]
            refine wpAnyH_take (i := 6) (oi := ⟨some 67, _, _, _, _, _⟩) (v := ?_) rfl (by kernel_rfl) (by kernel_rfl) (by kernel_rfl) (fun _ _ _ h => h) (Or.inl ⟨by kernel_rfl, ?_⟩) (by assumption) ?_
            rotate_left
            · (intro w' hSw; (try dsimp only at hSw); go_split_ands; go_simp; first | done | with_reducible rfl)
            try simp only [Act.put, List.setIfInBounds_toArray, List.set_cons_zero, List.set_cons_succ]
            refine wpAnyH_take (i := 7) (oi := ⟨some 68, _, _, _, _, _⟩) (v := ?_) rfl (by kernel_rfl) (by kernel_rfl) (by kernel_rfl) (fun _ _ _ h => h) (Or.inl ⟨by kernel_rfl, ?_⟩) (by assumption) ?_
            rotate_left
            · (intro w' hSw; (try dsimp only at hSw); go_split_ands; go_simp; first | done | with_reducible rfl)
            try simp only [Act.put, List.setIfInBounds_toArray, List.set_cons_zero, List.set_cons_succ]
            refine wpAnyH_ready (rs := [9]) (by kernel_rfl) (by simp) ?_
            refine AllReadyH.cons (o := ⟨none, _, _, _, _, _⟩) rfl (fun K hK => ?_) (AllReadyH.nil)
            rw [if_pos (by kernel_rfl)]
            refine wp_store_row _ _ _ rfl (x3.heap.size) #[.slice E1 f1 e1, .slice E2 f2 e2] rfl rfl 34 #[.slice none 0 0, .slice none 0 0] (show Lies (x5) (x3.heap.size) 34 #[.slice none 0 0, .slice none 0 0] from HQ2.out) (by kernel_rfl) rfl (by simp [Value.oneCell']) ?_
            obtain ⟨z1, hz1⟩ : ∃ X, X = (x5).setRow (x3.heap.size) #[.slice E1 f1 e1, .slice E2 f2 e2] := ⟨_, rfl⟩
            rw [← hz1]
            have HZ1 := Lib.hid hz1
            clear hz1
            have hbz : Below y5.heap.size y5 z1 := by rw [HZ1.out]; exact Sb.below_setRow (hbx5) ((hbx3).size) _
            refine hK.out _ _ ?_ (fun hHeld => ?_)
            · exact HKS.out _ hbz
            clear hK K
            try simp only [Act.put, List.setIfInBounds_toArray, List.set_cons_zero, List.set_cons_succ]
            refine wpAnyH_take (i := 10) (oi := ⟨some 13, _, _, _, _, _⟩) (v := ?_) rfl (by kernel_rfl) (by kernel_rfl) (by kernel_rfl) (fun _ _ _ h => h) (Or.inl ⟨by kernel_rfl, ?_⟩) (by assumption) ?_
            rotate_left
            · (intro w' hSw; (try dsimp only at hSw); go_split_ands; go_simp; first | done | with_reducible rfl)
            try simp only [Act.put, List.setIfInBounds_toArray, List.set_cons_zero, List.set_cons_succ]
            refine wpAnyH_take (i := 11) (oi := ⟨some 14, _, _, _, _, _⟩) (v := ?_) rfl (by kernel_rfl) (by kernel_rfl) (by kernel_rfl) (fun _ _ _ h => h) (Or.inl ⟨by kernel_rfl, ?_⟩) (by assumption) ?_
            rotate_left
            · (intro w' hSw; (try dsimp only at hSw); go_split_ands; go_simp; first | done | with_reducible rfl)
            try simp only [Act.put, List.setIfInBounds_toArray, List.set_cons_zero, List.set_cons_succ]
            refine wpAnyH_done (by kernel_rfl) ?_ _
            go_wp2_with fail
            go_meet
            exact ⟨_, E1, f1, e1, E2, f2, e2, err, rfl, rfl, rfl, HERR.out, (show Lies z1 (x3.heap.size) 34 #[.slice E1 f1 e1, .slice E2 f2 e2] from by rw [HZ1.out]; exact Sb.setRow_at (show Lies (x5) (x3.heap.size) 34 #[.slice none 0 0, .slice none 0 0] from HQ2.out) _), (hbx3).size, subT_off1 (HSV.out) (show Lies (x5) (x3.heap.size) 34 #[.slice none 0 0, .slice none 0 0] from HQ2.out) (fun g h1 _ => by rw [HZ1.out]; exact Sb.setRow_other _ _ _ _ h1), hbz⟩
        · go_simp
          refine hK.out _ _ ?_ (fun hHeld => ?_)
          · exact HKS.out _ (((((Below.refl y5.heap.size y5)).alloc ((Below.refl y5.heap.size y5)).size _)).drew)
          clear hK K
          try simp only [Act.put, List.setIfInBounds_toArray, List.set_cons_zero, List.set_cons_succ]
          refine wpAnyH_ready (rs := [0]) (by kernel_rfl) (by simp) ?_
          refine AllReadyH.cons (o := ⟨some 62, _, _, _, _, _⟩) rfl (fun K hK => ?_) (AllReadyH.nil)
          go_simp
          go_at_call 8
          refine (none_any _).mono ?_
          unfold noneV
          rintro e x3 ⟨rfl, hba⟩
          have hbx3 : Below y5.heap.size y5 x3 := (((((Below.refl y5.heap.size y5)).alloc ((Below.refl y5.heap.size y5)).size _)).drew).trans (hba.mono (((((Below.refl y5.heap.size y5)).alloc ((Below.refl y5.heap.size y5)).size _)).drew).size)
          have HQ0 := Lib.hid (Lies.later (show Lies ((y5.alloc (.cells #[.slice none 0 0, .slice none 0 0] 34)).drew) (y5.heap.size) 34 #[.slice none 0 0, .slice none 0 0] from Lies.new y5 _ _) hba)
          clear hba
          refine hK.out _ _ ?_ (fun hHeld => ?_)
          · exact HKS.out _ hbx3
          clear hK K
          try simp only [Act.put, List.setIfInBounds_toArray, List.set_cons_zero, List.set_cons_succ]
          refine wpAnyH_ready (rs := [2]) (by kernel_rfl) (by simp) ?_
          refine AllReadyH.cons (o := ⟨some 64, _, _, _, _, _⟩) rfl (fun K hK => ?_) (AllReadyH.nil)
          go_simp
          go_at_call 14
          refine (tvar_any _ _).mono ?_
          rintro e x4 ⟨rfl, hba⟩
          have hbx4 : Below y5.heap.size y5 x4 := (hbx3).trans (hba.mono (hbx3).size)
          have HQ1 := Lib.hid (Lies.later HQ0.out hba)
          clear hba
          refine hK.out _ _ ?_ (fun hHeld => ?_)
          · exact HKS.out _ hbx4
          clear hK K
          try simp only [Act.put, List.setIfInBounds_toArray, List.set_cons_zero, List.set_cons_succ]
          refine wpAnyH_ready (rs := [3]) (by kernel_rfl) (by simp) ?_
          refine AllReadyH.cons (o := ⟨some 65, _, _, _, _, _⟩) rfl (fun K hK => ?_) (AllReadyH.nil)
          go_simp
          go_at_call 13
          refine (HRW.out _ (hbx4)).mono ?_
          rintro e x5 ⟨E1, f1, e1, E2, f2, e2, err, rfl, herr, hsv, hba⟩
          have HERR := Lib.hid herr
          have HSV := Lib.hid hsv
          clear herr hsv
          have hbx5 : Below y5.heap.size y5 x5 := (hbx4).trans (hba.mono (hbx4).size)
          have HQ2 := Lib.hid (Lies.later HQ1.out hba)
          clear hba
          refine hK.out _ _ ?_ (fun hHeld => ?_)
          · exact HKS.out _ hbx5
          clear hK K
          try simp only [Act.put, List.setIfInBounds_toArray, List.set_cons_zero, List.set_cons_succ]
          refine wpAnyH_take (i := 4) (oi := ⟨some 61, _, _, _, _, _⟩) (v := ?_) rfl (by kernel_rfl) (by kernel_rfl) (by kernel_rfl) (fun _ _ _ h => h) (Or.inl ⟨by kernel_rfl, ?_⟩) (by assumption) ?_
          rotate_left
          · (intro w' hSw; (try dsimp only at hSw); go_split_ands; go_simp; first | done | with_reducible rfl)
          try simp only [Act.put, List.setIfInBounds_toArray, List.set_cons_zero, List.set_cons_succ]
          refine wpAnyH_take (i := 5) (oi := ⟨some 66, _, _, _, _, _⟩) (v := ?_) rfl (by kernel_rfl) (by kernel_rfl) (by kernel_rfl) (fun _ _ _ h => h) (Or.inl ⟨by kernel_rfl, ?_⟩) (by assumption) ?_
          rotate_left
          · (intro w' hSw; (try dsimp only at hSw); go_split_ands; go_simp; first | done | with_reducible rfl)
          try simp only [Act.put, List.setIfInBounds_toArray, List.set_cons_zero, List.set_cons_succ]
          refine wpAnyH_take (i := 6) (oi := ⟨some 67, _, _, _, _, _⟩) (v := ?_) rfl (by kernel_rfl) (by kernel_rfl) (by kernel_rfl) (fun _ _ _ h => h) (Or.inl ⟨by kernel_rfl, ?_⟩) (by assumption) ?_
          rotate_left
          · (intro w' hSw; (try dsimp only at hSw); go_split_ands; go_simp; first | done | with_reducible rfl)
          try simp only [Act.put, List.setIfInBounds_toArray, List.set_cons_zero, List.set_cons_succ]
          refine wpAnyH_take (i := 7) (oi := ⟨some 68, _, _, _, _, _⟩) (v := ?_) rfl (by kernel_rfl) (by kernel_rfl) (by kernel_rfl) (fun _ _ _ h => h) (Or.inl ⟨by kernel_rfl, ?_⟩) (by assumption) ?_
          rotate_left
          · (intro w' hSw; (try dsimp only at hSw); go_split_ands; go_simp; first | done | with_reducible rfl)
          try simp only [Act.put, List.setIfInBounds_toArray, List.set_cons_zero, List.set_cons_succ]
          refine wpAnyH_ready (rs := [9]) (by kernel_rfl) (by simp) ?_
          refine AllReadyH.cons (o := ⟨none, _, _, _, _, _⟩) rfl (fun K hK => ?_) (AllReadyH.nil)
          rw [if_pos (by kernel_rfl)]
          refine wp_store_row _ _ _ rfl (y5.heap.size) #[.slice E1 f1 e1, .slice E2 f2 e2] rfl rfl 34 #[.slice none 0 0, .slice none 0 0] (show Lies (x5) (y5.heap.size) 34 #[.slice none 0 0, .slice none 0 0] from HQ2.out) (by kernel_rfl) rfl (by simp [Value.oneCell']) ?_
          obtain ⟨z1, hz1⟩ : ∃ X, X = (x5).setRow (y5.heap.size) #[.slice E1 f1 e1, .slice E2 f2 e2] := ⟨_, rfl⟩
          rw [← hz1]
          have HZ1 := Lib.hid hz1
          clear hz1
          have hbz : Below y5.heap.size y5 z1 := by rw [HZ1.out]; exact Sb.below_setRow (hbx5) (((Below.refl y5.heap.size y5)).size) _
          refine hK.out _ _ ?_ (fun hHeld => ?_)
          · exact HKS.out _ hbz
          clear hK K
          try simp only [Act.put, List.setIfInBounds_toArray, List.set_cons_zero, List.set_cons_succ]
          refine wpAnyH_take (i := 10) (oi := ⟨some 13, _, _, _, _, _⟩) (v := ?_) rfl (by kernel_rfl) (by kernel_rfl) (by kernel_rfl) (fun _ _ _ h => h) (Or.inl ⟨by kernel_rfl, ?_⟩) (by assumption) ?_
          rotate_left
          · (intro w' hSw; (try dsimp only at hSw); go_split_ands; go_simp; first | done | with_reducible rfl)
          try simp only [Act.put, List.setIfInBounds_toArray, List.set_cons_zero, List.set_cons_succ]
          refine wpAnyH_take (i := 11) (oi := ⟨some 14, _, _, _, _, _⟩) (v := ?_) rfl (by kernel_rfl) (by kernel_rfl) (by kernel_rfl) (fun _ _ _ h => h) (Or.inl ⟨by kernel_rfl, ?_⟩) (by assumption) ?_
          rotate_left
          · (intro w' hSw; (try dsimp only at hSw); go_split_ands; go_simp; first | done | with_reducible rfl)
          try simp only [Act.put, List.setIfInBounds_toArray, List.set_cons_zero, List.set_cons_succ]
          refine wpAnyH_done (by kernel_rfl) ?_ _
          go_wp2_with fail
          go_meet
          exact ⟨_, E1, f1, e1, E2, f2, e2, err, rfl, rfl, rfl, HERR.out, (show Lies z1 (y5.heap.size) 34 #[.slice E1 f1 e1, .slice E2 f2 e2] from by rw [HZ1.out]; exact Sb.setRow_at (show Lies (x5) (y5.heap.size) 34 #[.slice none 0 0, .slice none 0 0] from HQ2.out) _), ((Below.refl y5.heap.size y5)).size, subT_off1 (HSV.out) (show Lies (x5) (y5.heap.size) 34 #[.slice none 0 0, .slice none 0 0] from HQ2.out) (fun g h1 _ => by rw [HZ1.out]; exact Sb.setRow_other _ _ _ _ h1), hbz⟩
      case rest =>
        obtain ⟨g6, C6, p6, q6, D6, r6, s6, er6, rfl, rfl, rfl, her6, hl6, hge6, hsv6, hbx⟩ := hcut
        obtain ⟨y6, rfl⟩ : ∃ X, X = wc := ⟨_, rfl⟩
        have HER6 := Lib.hid her6
        have HL6 := Lib.hid hl6
        have HSV6 := Lib.hid hsv6
        have HL4Y := Lib.hid (HL4X.out.later hbx)
        have HL5Y := Lib.hid (HL5.out.later hbx)
        have HSV4Y := Lib.hid (HSV4X.out.later hbx)
        have HSV5Y := Lib.hid (HSV5.out.later hbx)
        clear her6 hl6 hge6 hsv6 HKS
        have HB := Lib.hid (HB.out.trans (hbx.mono HB.out.size))
        have HKA := Lib.hid (HKA.out.later hbx)
        have HKB := Lib.hid (HKB.out.later hbx)
        have a0 := HKA.out.cell 0
        have a1 := HKA.out.cell 1
        have a2 := HKA.out.cell 2
        have a3 := HKA.out.cell 3
        have a4 := HKA.out.cell 4
        have a5 := HKA.out.cell 5
        have b0 := HKB.out.cell 0
        have b1 := HKB.out.cell 1
        have b2 := HKB.out.cell 2
        have b3 := HKB.out.cell 3
        have b4 := HKB.out.cell 4
        have b5 := HKB.out.cell 5
        clear hbx
        have HL4 := Lib.hid (HL4Y.out)
        have HL5 := Lib.hid (HL5Y.out)
        obtain rfl : er5 = 0 := HER5.out
        obtain rfl : er6 = 0 := HER6.out
        have HSV4 := HSV4Y
        have HSV5 := HSV5Y
        have HK7 := Lib.hid (show ∀ X : World, Below y6.heap.size y6 X → (X.cell? ⟨w.heap.size, 0, none⟩ = some (.int .i64 k1) ∧ X.cell? ⟨w.heap.size, 1, none⟩ = some (.string (ba nm1)) ∧ X.cell? ⟨w.heap.size, 2, none⟩ = some (.int .i64 v1) ∧ X.cell? ⟨w.heap.size, 3, none⟩ = some (.slice A1 n1 c1) ∧ X.cell? ⟨w.heap.size, 4, none⟩ = some (.slice B1 m1 d1) ∧ X.cell? ⟨w.heap.size, 5, none⟩ = some (.int .i64 rv1)) ∧ (X.cell? ⟨w.heap.size + 1, 0, none⟩ = some (.int .i64 k2) ∧ X.cell? ⟨w.heap.size + 1, 1, none⟩ = some (.string (ba nm2)) ∧ X.cell? ⟨w.heap.size + 1, 2, none⟩ = some (.int .i64 v2) ∧ X.cell? ⟨w.heap.size + 1, 3, none⟩ = some (.slice A2 n2 c2) ∧ X.cell? ⟨w.heap.size + 1, 4, none⟩ = some (.slice B2 m2 d2) ∧ X.cell? ⟨w.heap.size + 1, 5, none⟩ = some (.int .i64 rv2)) ∧ (X.cell? ⟨g4, 0, none⟩ = some (.slice C4 p4 q4) ∧ X.cell? ⟨g4, 1, none⟩ = some (.slice D4 r4 s4)) ∧ (X.cell? ⟨g5, 0, none⟩ = some (.slice C5 p5 q5) ∧ X.cell? ⟨g5, 1, none⟩ = some (.slice D5 r5 s5)) ∧ (X.cell? ⟨g6, 0, none⟩ = some (.slice C6 p6 q6) ∧ X.cell? ⟨g6, 1, none⟩ = some (.slice D6 r6 s6)) from fun X hx => ⟨⟨(HKA.out.later hx).cell 0, (HKA.out.later hx).cell 1, (HKA.out.later hx).cell 2, (HKA.out.later hx).cell 3, (HKA.out.later hx).cell 4, (HKA.out.later hx).cell 5⟩, ⟨(HKB.out.later hx).cell 0, (HKB.out.later hx).cell 1, (HKB.out.later hx).cell 2, (HKB.out.later hx).cell 3, (HKB.out.later hx).cell 4, (HKB.out.later hx).cell 5⟩, ⟨(HL4.out.later hx).cell 0, (HL4.out.later hx).cell 1⟩, ⟨(HL5.out.later hx).cell 0, (HL5.out.later hx).cell 1⟩, (HL6.out.later hx).cell 0, (HL6.out.later hx).cell 1⟩)
        have HPs := Lib.hid (fun (X : World) (hx : Below y6.heap.size y6 X) => app_tv X 900 T0 1 (tvT 1) _ (HSV4.out.later hx) (by omega) (i64ok_of (by omega) (by omega)) (by unfold tvT; rw [apT0]) (by unfold tvT; rw [pcsT0]; simp [Ty.size, Ty.sizeL]))
        have HPt := Lib.hid (fun (X : World) (hx : Below y6.heap.size y6 X) => app_tv X 900 (setF T0 1 t) 1 t _ (HSV5.out.later hx) (by omega) (i64ok_of (by omega) (by omega)) (ap_set 1 t) (by rw [pcs_set]; omega))
        have HPu := Lib.hid (fun (X : World) (hx : Below y6.heap.size y6 X) => app_tv X 900 (setF T0 2 u) 2 u _ (HSV6.out.later hx) (by omega) (i64ok_of (by omega) (by omega)) (ap_set 2 u) (by rw [pcs_set]; omega))
        have HSs := Lib.hid (fun (X : World) (_ : Below y6.heap.size y6 X) (l : List Value) (hl : TRV X (tvT 1) l) => same_yes X (tvT 1) l _ (by unfold tvT; simp [Ty.size, Ty.sizeL]) hl (tv_trv X 1 (i64ok_of (by omega) (by omega))))
        have HSt := Lib.hid (fun (X : World) (hx : Below y6.heap.size y6 X) (l : List Value) (hl : TRV X t l) => same_yes X t l _ (by omega) hl (HTA.out.later (HB.out.trans (hx.mono HB.out.size))))
        have HSu := Lib.hid (fun (X : World) (hx : Below y6.heap.size y6 X) (l : List Value) (hl : TRV X u l) => same_yes X u l _ (by omega) hl (HTB.out.later (HB.out.trans (hx.mono HB.out.size))))
        clear a0 a1 a2 a3 a4 a5 b0 b1 b2 b3 b4 b5 HL4Y HL5Y HRW
        by_cases he : er4 = 0
        · subst he
          have HTU := Lib.hid (HER4.out.2 rfl)
          have HS1 := Lib.hid (fun (X : World) (hx : Below y6.heap.size y6 X) => (sameD_any t u X _ _ (by omega) (by omega) (HTA.out.later (HB.out.trans (hx.mono HB.out.size))) (HTB.out.later (HB.out.trans (hx.mono HB.out.size)))).mono (R' := fun e w' => e = .returned (.bool true) ∧ Below X.heap.size X w') (fun e w' ⟨b, h1, h2, h3⟩ => ⟨by rw [h1, show b = true from h2.2 HTU.out], h3⟩))
          go_upto_region 7 with fail
          have hbc := (Below.refl y6.heap.size y6).drew
          go_region_held3 (fun X => (X.cell? ⟨w.heap.size, 0, none⟩ = some (.int .i64 k1) ∧ X.cell? ⟨w.heap.size, 1, none⟩ = some (.string (ba nm1)) ∧ X.cell? ⟨w.heap.size, 2, none⟩ = some (.int .i64 v1) ∧ X.cell? ⟨w.heap.size, 3, none⟩ = some (.slice A1 n1 c1) ∧ X.cell? ⟨w.heap.size, 4, none⟩ = some (.slice B1 m1 d1) ∧ X.cell? ⟨w.heap.size, 5, none⟩ = some (.int .i64 rv1)) ∧ (X.cell? ⟨w.heap.size + 1, 0, none⟩ = some (.int .i64 k2) ∧ X.cell? ⟨w.heap.size + 1, 1, none⟩ = some (.string (ba nm2)) ∧ X.cell? ⟨w.heap.size + 1, 2, none⟩ = some (.int .i64 v2) ∧ X.cell? ⟨w.heap.size + 1, 3, none⟩ = some (.slice A2 n2 c2) ∧ X.cell? ⟨w.heap.size + 1, 4, none⟩ = some (.slice B2 m2 d2) ∧ X.cell? ⟨w.heap.size + 1, 5, none⟩ = some (.int .i64 rv2)) ∧ (X.cell? ⟨g4, 0, none⟩ = some (.slice C4 p4 q4) ∧ X.cell? ⟨g4, 1, none⟩ = some (.slice D4 r4 s4)) ∧ (X.cell? ⟨g5, 0, none⟩ = some (.slice C5 p5 q5) ∧ X.cell? ⟨g5, 1, none⟩ = some (.slice D5 r5 s5)) ∧ (X.cell? ⟨g6, 0, none⟩ = some (.slice C6 p6 q6) ∧ X.cell? ⟨g6, 1, none⟩ = some (.slice D6 r6 s6)))
              (with_reducible exact HK7.out _ hbc)
              (first
              | (go_at_call_of 15 (Value.agg #[.int .i64 k7, .string (ba nm7), .int .i64 v7, .slice A7 n7 c7, .slice B7 m7 d7, .int .i64 rv7]); refine (HSs.out _ hbc _ HTs.out).mono ?_; rintro e x9 ⟨rfl, hba⟩; (try have HTs := Lib.hid (HTs.out.later hba)); (try have HTt := Lib.hid (HTt.out.later hba)); (try have HTu := Lib.hid (HTu.out.later hba)); have hbc := hbc.trans (hba.mono hbc.size); clear hba)
              | (go_at_call_of 15 (Value.agg #[.int .i64 k8, .string (ba nm8), .int .i64 v8, .slice A8 n8 c8, .slice B8 m8 d8, .int .i64 rv8]); refine (HSt.out _ hbc _ HTt.out).mono ?_; rintro e x9 ⟨rfl, hba⟩; (try have HTs := Lib.hid (HTs.out.later hba)); (try have HTt := Lib.hid (HTt.out.later hba)); (try have HTu := Lib.hid (HTu.out.later hba)); have hbc := hbc.trans (hba.mono hbc.size); clear hba)
              | (go_at_call_of 15 (Value.agg #[.int .i64 k9, .string (ba nm9), .int .i64 v9, .slice A9 n9 c9, .slice B9 m9 d9, .int .i64 rv9]); refine (HSu.out _ hbc _ HTu.out).mono ?_; rintro e x9 ⟨rfl, hba⟩; (try have HTs := Lib.hid (HTs.out.later hba)); (try have HTt := Lib.hid (HTt.out.later hba)); (try have HTu := Lib.hid (HTu.out.later hba)); have hbc := hbc.trans (hba.mono hbc.size); clear hba)
              | (go_at_call_of 15 (Value.agg #[.int .i64 k1, .string (ba nm1), .int .i64 v1, .slice A1 n1 c1, .slice B1 m1 d1, .int .i64 rv1]); refine (HS1.out _ hbc).mono ?_; rintro e x9 ⟨rfl, hba⟩; (try have HTs := Lib.hid (HTs.out.later hba)); (try have HTt := Lib.hid (HTt.out.later hba)); (try have HTu := Lib.hid (HTu.out.later hba)); have hbc := hbc.trans (hba.mono hbc.size); clear hba)
              | (go_at_call 14; refine (tvar_any _ _).mono ?_; rintro e x9 ⟨rfl, hba⟩; (try have HTs := Lib.hid (HTs.out.later hba)); (try have HTt := Lib.hid (HTt.out.later hba)); (try have HTu := Lib.hid (HTu.out.later hba)); have hbc := hbc.trans (hba.mono hbc.size); clear hba)
              | (go_at_call_of 16 (Value.agg #[.slice C4 p4 q4, .slice D4 r4 s4]); refine (HPs.out _ hbc).mono ?_; rintro e x9 ⟨k7, nm7, v7, A7, n7, c7, B7, m7, d7, rv7, rfl, ht9, hba⟩; (try have HTs := Lib.hid (HTs.out.later hba)); (try have HTt := Lib.hid (HTt.out.later hba)); have HTs := Lib.hid ht9; clear ht9; have hbc := hbc.trans (hba.mono hbc.size); clear hba)
              | (go_at_call_of 16 (Value.agg #[.slice C5 p5 q5, .slice D5 r5 s5]); refine (HPt.out _ hbc).mono ?_; rintro e x9 ⟨k8, nm8, v8, A8, n8, c8, B8, m8, d8, rv8, rfl, ht9, hba⟩; (try have HTs := Lib.hid (HTs.out.later hba)); (try have HTt := Lib.hid (HTt.out.later hba)); have HTt := Lib.hid ht9; clear ht9; have hbc := hbc.trans (hba.mono hbc.size); clear hba)
              | (go_at_call_of 16 (Value.agg #[.slice C6 p6 q6, .slice D6 r6 s6]); refine (HPu.out _ hbc).mono ?_; rintro e x9 ⟨k9, nm9, v9, A9, n9, c9, B9, m9, d9, rv9, rfl, ht9, hba⟩; (try have HTs := Lib.hid (HTs.out.later hba)); (try have HTt := Lib.hid (HTt.out.later hba)); have HTu := Lib.hid ht9; clear ht9; have hbc := hbc.trans (hba.mono hbc.size); clear hba))
          go_wp2
          go_ret
          exact ⟨rfl, HB.out.trans (hbc.mono HB.out.size)⟩
        · obtain ⟨h5, hne⟩ := HER4.out.1 he
          subst h5
          have HTU := Lib.hid hne
          clear hne he
          have HS1 := Lib.hid (fun (X : World) (hx : Below y6.heap.size y6 X) => (sameD_any t u X _ _ (by omega) (by omega) (HTA.out.later (HB.out.trans (hx.mono HB.out.size))) (HTB.out.later (HB.out.trans (hx.mono HB.out.size)))).mono (R' := fun e w' => e = .returned (.bool false) ∧ Below X.heap.size X w') (fun e w' ⟨b, h1, h2, h3⟩ => ⟨by rw [h1, show b = false from Bool.eq_false_iff.2 fun h => HTU.out (h2.1 h)], h3⟩))
          go_upto_region 7 with fail
          have hbc := (Below.refl y6.heap.size y6).drew
          go_region_held3 (fun X => (X.cell? ⟨w.heap.size, 0, none⟩ = some (.int .i64 k1) ∧ X.cell? ⟨w.heap.size, 1, none⟩ = some (.string (ba nm1)) ∧ X.cell? ⟨w.heap.size, 2, none⟩ = some (.int .i64 v1) ∧ X.cell? ⟨w.heap.size, 3, none⟩ = some (.slice A1 n1 c1) ∧ X.cell? ⟨w.heap.size, 4, none⟩ = some (.slice B1 m1 d1) ∧ X.cell? ⟨w.heap.size, 5, none⟩ = some (.int .i64 rv1)) ∧ (X.cell? ⟨w.heap.size + 1, 0, none⟩ = some (.int .i64 k2) ∧ X.cell? ⟨w.heap.size + 1, 1, none⟩ = some (.string (ba nm2)) ∧ X.cell? ⟨w.heap.size + 1, 2, none⟩ = some (.int .i64 v2) ∧ X.cell? ⟨w.heap.size + 1, 3, none⟩ = some (.slice A2 n2 c2) ∧ X.cell? ⟨w.heap.size + 1, 4, none⟩ = some (.slice B2 m2 d2) ∧ X.cell? ⟨w.heap.size + 1, 5, none⟩ = some (.int .i64 rv2)) ∧ (X.cell? ⟨g4, 0, none⟩ = some (.slice C4 p4 q4) ∧ X.cell? ⟨g4, 1, none⟩ = some (.slice D4 r4 s4)) ∧ (X.cell? ⟨g5, 0, none⟩ = some (.slice C5 p5 q5) ∧ X.cell? ⟨g5, 1, none⟩ = some (.slice D5 r5 s5)) ∧ (X.cell? ⟨g6, 0, none⟩ = some (.slice C6 p6 q6) ∧ X.cell? ⟨g6, 1, none⟩ = some (.slice D6 r6 s6)))
              (with_reducible exact HK7.out _ hbc)
              (first
              | (go_at_call_of 15 (Value.agg #[.int .i64 k7, .string (ba nm7), .int .i64 v7, .slice A7 n7 c7, .slice B7 m7 d7, .int .i64 rv7]); refine (HSs.out _ hbc _ HTs.out).mono ?_; rintro e x9 ⟨rfl, hba⟩; (try have HTs := Lib.hid (HTs.out.later hba)); (try have HTt := Lib.hid (HTt.out.later hba)); (try have HTu := Lib.hid (HTu.out.later hba)); have hbc := hbc.trans (hba.mono hbc.size); clear hba)
              | (go_at_call_of 15 (Value.agg #[.int .i64 k8, .string (ba nm8), .int .i64 v8, .slice A8 n8 c8, .slice B8 m8 d8, .int .i64 rv8]); refine (HSt.out _ hbc _ HTt.out).mono ?_; rintro e x9 ⟨rfl, hba⟩; (try have HTs := Lib.hid (HTs.out.later hba)); (try have HTt := Lib.hid (HTt.out.later hba)); (try have HTu := Lib.hid (HTu.out.later hba)); have hbc := hbc.trans (hba.mono hbc.size); clear hba)
              | (go_at_call_of 15 (Value.agg #[.int .i64 k9, .string (ba nm9), .int .i64 v9, .slice A9 n9 c9, .slice B9 m9 d9, .int .i64 rv9]); refine (HSu.out _ hbc _ HTu.out).mono ?_; rintro e x9 ⟨rfl, hba⟩; (try have HTs := Lib.hid (HTs.out.later hba)); (try have HTt := Lib.hid (HTt.out.later hba)); (try have HTu := Lib.hid (HTu.out.later hba)); have hbc := hbc.trans (hba.mono hbc.size); clear hba)
              | (go_at_call_of 15 (Value.agg #[.int .i64 k1, .string (ba nm1), .int .i64 v1, .slice A1 n1 c1, .slice B1 m1 d1, .int .i64 rv1]); refine (HS1.out _ hbc).mono ?_; rintro e x9 ⟨rfl, hba⟩; (try have HTs := Lib.hid (HTs.out.later hba)); (try have HTt := Lib.hid (HTt.out.later hba)); (try have HTu := Lib.hid (HTu.out.later hba)); have hbc := hbc.trans (hba.mono hbc.size); clear hba)
              | (go_at_call 14; refine (tvar_any _ _).mono ?_; rintro e x9 ⟨rfl, hba⟩; (try have HTs := Lib.hid (HTs.out.later hba)); (try have HTt := Lib.hid (HTt.out.later hba)); (try have HTu := Lib.hid (HTu.out.later hba)); have hbc := hbc.trans (hba.mono hbc.size); clear hba)
              | (go_at_call_of 16 (Value.agg #[.slice C4 p4 q4, .slice D4 r4 s4]); refine (HPs.out _ hbc).mono ?_; rintro e x9 ⟨k7, nm7, v7, A7, n7, c7, B7, m7, d7, rv7, rfl, ht9, hba⟩; (try have HTs := Lib.hid (HTs.out.later hba)); (try have HTt := Lib.hid (HTt.out.later hba)); have HTs := Lib.hid ht9; clear ht9; have hbc := hbc.trans (hba.mono hbc.size); clear hba)
              | (go_at_call_of 16 (Value.agg #[.slice C5 p5 q5, .slice D5 r5 s5]); refine (HPt.out _ hbc).mono ?_; rintro e x9 ⟨k8, nm8, v8, A8, n8, c8, B8, m8, d8, rv8, rfl, ht9, hba⟩; (try have HTs := Lib.hid (HTs.out.later hba)); (try have HTt := Lib.hid (HTt.out.later hba)); have HTt := Lib.hid ht9; clear ht9; have hbc := hbc.trans (hba.mono hbc.size); clear hba)
              | (go_at_call_of 16 (Value.agg #[.slice C6 p6 q6, .slice D6 r6 s6]); refine (HPu.out _ hbc).mono ?_; rintro e x9 ⟨k9, nm9, v9, A9, n9, c9, B9, m9, d9, rv9, rfl, ht9, hba⟩; (try have HTs := Lib.hid (HTs.out.later hba)); (try have HTt := Lib.hid (HTt.out.later hba)); have HTu := Lib.hid ht9; clear ht9; have hbc := hbc.trans (hba.mono hbc.size); clear hba))
          go_wp2
          go_ret
          exact ⟨rfl, HB.out.trans (hbc.mono HB.out.size)⟩
end Go.Proofs.YtpbhndmfmnfeoaaGreat.Ug
