/- Two places are held to be the same; are two types the same but for what stands below them. -/
import Derived.Test.YtjeolmcjhpkcbaaDoorTyAc
import Derived.Test.YtjeolmcjhpkcbaaDoorTyT
import Derived.StillTailTactics
import Derived.Outline
namespace Go.Proofs.YtjeolmcjhpkcbaaDoor
open Go.RowKit

theorem run_eql_ptr {w : World} {x y : Addr} {r : Bool} (h : (Op.equal 59 (.pointer (some x)) (.pointer (some y))).run Tryd.prog w = .ok r w) : (binOp .eql 59 (.pointer (some x)) (.pointer (some y))).run Tryd.prog w = .ok (.bool r) w := by
  simp [binOp, h, Result.andThen]
set_option maxRecDepth 100000 in
set_option maxHeartbeats 2000000 in
theorem join_same (w : World) (b : Nat) (L : List (Addr × Addr)) (x : Addr) (hm : PMap w b L) (hx : AtCells w x) (hL : ∀ p ∈ L, AtCells w p.1) (hn : plook x L = none) :
    Calls Tryd.prog 37 #[.map (some b), .agg #[.pointer (some x), .pointer (some x)]] w fun e w' => e = .returned (.bool false) ∧ Below w.heap.size w w' := by
  obtain ⟨w0, hw0⟩ : ∃ w0, w0 = w.alloc (.cells #[.pointer (some x), .pointer (some x)] 65) := ⟨_, rfl⟩
  have hb0 : Below w.heap.size w w0 := by rw [hw0]; exact below_new w _
  have l0 : Lies w0 w.heap.size 65 #[.pointer (some x), .pointer (some x)] := by rw [hw0]; exact Lies.new w _ _
  have hm0 := hm.keep (hb0.block _ hm.lt)
  have hx0 := hx.keep (hb0.block _ hx.lt)
  have hL0 : ∀ p ∈ L, AtCells w0 p.1 := fun p hp => (hL p hp).keep (hb0.block _ (hL p hp).lt)
  have he := fun m => end_any (w0.drewN m) b L x hm0 hx0 hL0 hn
  have c0 := l0.cell 0
  have c1 := l0.cell 1
  obtain ⟨inf, hinf, hsz⟩ := size_type
  have heq : ∀ m, (binOp .eql 59 (.pointer (some x)) (.pointer (some x))).run Tryd.prog (w0.drewN m) = .ok (.bool true) (w0.drewN m) := fun m => run_eql_ptr (run_equal_ptr_same Tryd.underlying59 hinf hsz x)
  have HW := Lib.hid hw0
  have HE := Lib.hid he
  clear hw0 hm0 hm hL0 he
  go_enter Tryd.func37, Tryd.ntmps37
  go_wp2
  rw [← HW.out]
  go_quiet ((go_at_call 55; exact Calls.quiet_of_same (HE.out _)))
  go_wp2
  go_ret
  exact ⟨rfl, hb0.trans ((below_drewN _ _).mono hb0.size)⟩
set_option maxRecDepth 100000 in
set_option maxHeartbeats 2000000 in
theorem join_new (w : World) (b : Nat) (L : List (Addr × Addr)) (x y : Addr) (hxy : x ≠ y) (hm : PMap w b L) (hx : AtCells w x) (hy : AtCells w y) (hL : ∀ p ∈ L, AtCells w p.1) (hn : plook x L = none) (hn2 : plook y L = none) :
    Calls Tryd.prog 37 #[.map (some b), .agg #[.pointer (some x), .pointer (some y)]] w fun e w' => e = .returned (.bool true) ∧ PMap w' b (L ++ [(x, y)]) ∧ Bt b w w' := by
  obtain ⟨w0, hw0⟩ : ∃ w0, w0 = w.alloc (.cells #[.pointer (some x), .pointer (some y)] 65) := ⟨_, rfl⟩
  have hb0 : Below w.heap.size w w0 := by rw [hw0]; exact below_new w _
  have l0 : Lies w0 w.heap.size 65 #[.pointer (some x), .pointer (some y)] := by rw [hw0]; exact Lies.new w _ _
  have hm0 := hm.keep (hb0.block _ hm.lt)
  have hx0 := hx.keep (hb0.block _ hx.lt)
  have hy0 := hy.keep (hb0.block _ hy.lt)
  have hL0 : ∀ p ∈ L, AtCells w0 p.1 := fun p hp => (hL p hp).keep (hb0.block _ (hL p hp).lt)
  have he := fun m => end_any (w0.drewN m) b L x hm0 hx0 hL0 hn
  have he2 := fun m => end_any (w0.drewN m) b L y hm0 hy0 hL0 hn2
  have c0 := l0.cell 0
  have c1 := l0.cell 1
  obtain ⟨inf, hinf, hsz⟩ := size_type
  have heq : ∀ m, (binOp .eql 59 (.pointer (some x)) (.pointer (some y))).run Tryd.prog (w0.drewN m) = .ok (.bool false) (w0.drewN m) := fun m => run_eql_ptr (run_equal_ptr_other Tryd.underlying59 hinf hsz hxy hx0 hy0)
  have HW := Lib.hid hw0
  have HE := Lib.hid he
  have HE2 := Lib.hid he2
  have HM := Lib.hid hm0
  have HL0 := Lib.hid hL0
  clear hw0 hm0 he he2 hL0
  go_enter Tryd.func37, Tryd.ntmps37
  go_wp2
  rw [← HW.out]
  go_quiet (first | (go_at_call_of 55 (Value.pointer (some x)); exact Calls.quiet_of_same (HE.out _)) | (go_at_call_of 55 (Value.pointer (some y)); exact Calls.quiet_of_same (HE2.out _)))
  go_wp2_with (at_mapUpdate; go_loud (refine wpList_update_pm _ rfl (.tmp 18) (.tmp 19) (.tmp 20) 63 rfl rfl (PMap.keep (w' := w0.drewN nq) HM.out rfl) Tryd.underlying63 Tryd.underlying59 hinf hsz x y rfl rfl hx0 HL0.out hn ?_); intro w1 hm1 hg1)
  go_ret
  exact ⟨rfl, hm1, ((Bt.of_below hb0).trans (.of_below (below_drewN _ _))).trans (.of_grown hg1)⟩
set_option maxRecDepth 100000 in
set_option maxHeartbeats 4000000 in
/-- sameAlone at two kinds that are unlike. -/
theorem sameAlone_not (w : World) (b o b' o' : Nat) (k : Int) (nm : Str) (v : Int) (kv lv : Value) (rv : Int) (k' : Int) (nm' : Str) (v' : Int) (kv' lv' : Value) (rv' : Int) (hr : ReadsAt w ⟨b, o, none⟩ (tyC k nm v kv lv rv)) (hr' : ReadsAt w ⟨b', o', none⟩ (tyC k' nm' v' kv' lv' rv')) (hk : k ≠ k') :
    Calls Tryd.prog 38 #[.pointer (some ⟨b, o, none⟩), .pointer (some ⟨b', o', none⟩)] w fun e w' => e = .returned (.bool false) ∧ Below w.heap.size w w' := by
  obtain ⟨c0, _, _, _, _, _⟩ := reads6 hr
  obtain ⟨d0, _, _, _, _, _⟩ := reads6 hr'
  have hkb : (k == k') = false := by simpa using hk
  go_enter Tryd.func38, Tryd.ntmps38
  go_wp2
  go_quiet (fail)
  go_wp2
  go_ret
  exact ⟨rfl, below_drewN _ _⟩
set_option maxRecDepth 100000 in
set_option maxHeartbeats 4000000 in
/-- sameAlone at the same cells. -/
theorem sameAlone_same (w : World) (b o b' o' : Nat) (k : Int) (nm : Str) (v : Int) (A : Option Addr) (n q : Nat) (lv : Value) (ls : List Str) (rv : Int) (hr : ReadsAt w ⟨b, o, none⟩ (tyC k nm v (.slice A n q) lv rv)) (hr' : ReadsAt w ⟨b', o', none⟩ (tyC k nm v (.slice A n q) lv rv)) (hl : Strs w lv ls) :
    Calls Tryd.prog 38 #[.pointer (some ⟨b, o, none⟩), .pointer (some ⟨b', o', none⟩)] w fun e w' => e = .returned (.bool true) ∧ Below w.heap.size w w' := by
  obtain ⟨c0, c1, c2, c3, c4, c5⟩ := reads6 hr
  obtain ⟨d0, d1, d2, d3, d4, d5⟩ := reads6 hr'
  have hlb : ls.length ≤ 9223372036854775807 := by
    obtain ⟨_, c, _, h1, h2⟩ := hl.slice
    unfold maxLen at h2; omega
  have hsr := sameRow_any lv lv ls ls rv rv w.drew hl hl hlb hlb
  have hd : decide (rv = rv ∧ ls = ls) = true := by simp
  rw [hd] at hsr
  have HSR := Lib.hid hsr
  obtain ⟨A2, q2, rfl, _⟩ := hl.slice
  clear hsr
  go_enter Tryd.func38, Tryd.ntmps38
  go_wp2
  go_still_tail 53, (by kernel_rfl)
  change wpList _ _ _ _ _ w.drew
  go_wp2_with fail
  refine HSR.out.mono ?_
  rintro e w1 ⟨rfl, hb1⟩
  go_wp2
  go_ret
  exact ⟨rfl, (Below.refl _ w).drew.trans hb1⟩
end Go.Proofs.YtjeolmcjhpkcbaaDoor
