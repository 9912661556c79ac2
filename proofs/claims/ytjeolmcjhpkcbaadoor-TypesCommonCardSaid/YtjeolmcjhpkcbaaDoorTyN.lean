/- The small functions of Right: how many parts a kind has; names, variables, rows. -/
import Derived.Test.YtjeolmcjhpkcbaaDoorTyM
import Derived.Test.YtjeolmcjhpkcbaaDoorTyT
import Derived.Outline
import Derived.Deep.QuietTactic
import Derived.BigQuiet
namespace Go.Proofs.YtjeolmcjhpkcbaaDoor
open Go.RowKit

def cntL : List (Int × Value) := [(1, .int .i64 0), (2, .int .i64 0), (3, .int .i64 0), (4, .int .i64 0), (7, .int .i64 0), (6, .int .i64 1), (5, .int .i64 2)]
theorem bel_grown {B : Nat} {w w1 w2 : World} (h : Below B w w1) {r : Nat} (hg : w1.grownBy w2 (some r)) (hr : B ≤ r) (hB : B ≤ w1.heap.size) : Below B w w2 :=
  h.trans ⟨hg.os, hg.tape, hg.output, hg.size, fun k hk => hg.block k (by omega) (fun e => by injection e; omega)⟩
set_option maxRecDepth 100000 in
set_option maxHeartbeats 2000000 in
theorem counts_any (w : World) : Calls Tryd.prog 32 #[] w fun e w' => e = .returned (.map (some w.heap.size)) ∧ IMap w' w.heap.size cntL ∧ Below w.heap.size w w' := by
  have h0 := IMap.made w
  have hmm := @run_makeMap Tryd.prog
  have hbb := below_new w (.map #[] 0)
  have hss : w.heap.size + 1 ≤ (w.alloc (.map #[] 0)).heap.size := by simp
  go_enter Tryd.func32, Tryd.ntmps32
  go_wp2_with (refine wpList_update_imap _ rfl (.tmp 1) _ _ 52 (.inr rfl) rfl (by assumption) Tryd.underlying52 Tryd.underlying3 _ rfl rfl ?_; clear h0; intro w1 h0 g1; have hbb := bel_grown hbb g1 (Nat.le_refl _) (by omega); have hss := Nat.le_trans hss g1.size; clear g1)
  go_ret
  exact ⟨rfl, h0, hbb⟩

set_option maxRecDepth 100000 in
set_option maxHeartbeats 2000000 in
theorem nameRight_any (w : World) (b o : Nat) (k : Int) (nm : Str) (v : Int) (kv lv : Value) (rv : Int) (hr : ReadsAt w ⟨b, o, none⟩ (tyC k nm v kv lv rv)) :
    Calls Tryd.prog 61 #[.pointer (some ⟨b, o, none⟩)] w fun e w' => e = .returned (.bool ((nm != []) == (k == 4))) ∧ ∃ n, w' = w.drewN n := by
  obtain ⟨c0, c1, _, _, _, _⟩ := reads6 hr
  go_enter Tryd.func61, Tryd.ntmps61
  go_wp2
  go_quiet (fail)
  go_wp2
  go_ret
  exact ⟨ret_bool (by rw [ba_toList]; cases nm <;> rfl), nq, rfl⟩
set_option maxRecDepth 100000 in
set_option maxHeartbeats 2000000 in
theorem varRight_any (w : World) (b o : Nat) (k : Int) (nm : Str) (v : Int) (kv lv : Value) (rv : Int) (hr : ReadsAt w ⟨b, o, none⟩ (tyC k nm v kv lv rv)) :
    Calls Tryd.prog 62 #[.pointer (some ⟨b, o, none⟩)] w fun e w' => e = .returned (.bool (if k = 7 then decide (1 ≤ v) else decide (v = 0))) ∧ w' = w := by
  obtain ⟨c0, _, c2, _, _, _⟩ := reads6 hr
  by_cases hk : k = 7
  · subst hk
    go_enter Tryd.func62, Tryd.ntmps62
    go_wp2
    go_ret
    exact ⟨ret_bool (by first | rfl | simp), rfl⟩
  · go_enter Tryd.func62, Tryd.ntmps62
    go_wp2
    go_ret
    exact ⟨ret_bool (by first | rfl | simp [hk]), rfl⟩
set_option maxRecDepth 100000 in
set_option maxHeartbeats 2000000 in
theorem rowRight_any (w : World) (b o : Nat) (k : Int) (nm : Str) (v : Int) (kv lv : Value) (ls : List Str) (rv : Int) (hr : ReadsAt w ⟨b, o, none⟩ (tyC k nm v kv lv rv)) (hv : Strs w lv ls) (hb : ls.length ≤ 9223372036854775807) :
    Calls Tryd.prog 63 #[.pointer (some ⟨b, o, none⟩)] w fun e w' => e = .returned (.bool (if k = 5 then rowOk ls rv else decide (ls.length = 0) && decide (rv = 0))) ∧ Below w.heap.size w w' := by
  obtain ⟨c0, _, _, _, c4, c5⟩ := reads6 hr
  have h := rightRow_any lv ls rv w hv hb
  have H := Lib.hid h
  obtain ⟨A, c, rfl, _⟩ := hv.slice
  clear h
  by_cases hk : k = 5
  · subst hk
    go_enter Tryd.func63, Tryd.ntmps63
    go_wp2_with fail
    refine H.out.mono ?_
    rintro e w' ⟨rfl, hbl⟩
    go_wp2
    go_ret
    exact ⟨ret_bool (by simp), hbl⟩
  · by_cases hl : ls.length = 0
    · have hli : (ls.length : Int) = 0 := by omega
      go_enter Tryd.func63, Tryd.ntmps63
      go_wp2
      go_ret
      exact ⟨ret_bool (by first | rfl | simp [hk, hl]), Below.refl _ _⟩
    · have hli : ¬ (ls.length : Int) = 0 := by omega
      go_enter Tryd.func63, Tryd.ntmps63
      go_wp2
      go_ret
      exact ⟨ret_bool (by first | rfl | simp [hk, hl]), Below.refl _ _⟩

def cntOf (k : Int) : Option Nat := if k = 1 then some 0 else if k = 2 then some 0 else if k = 3 then some 0 else if k = 4 then some 0 else if k = 7 then some 0 else if k = 6 then some 1 else if k = 5 then some 2 else none
theorem look_cnt (k : Int) : look k cntL = (cntOf k).map fun c => .int .i64 (c : Int) := by
  unfold cntL cntOf
  simp only [look]
  repeat (split; · rfl)
  rfl
def cntB (k : Int) (n : Nat) : Bool := decide (cntOf k = some n)
/-- Is a type right, if what stands below it is? -/
def aloneB (k : Int) (nm : Str) (v : Int) (n : Nat) (ls : List Str) (rv : Int) : Bool :=
  cntB k n && ((nm != []) == (k == 4)) && (if k = 7 then decide (1 ≤ v) else decide (v = 0)) && (if k = 5 then rowOk ls rv else decide (ls.length = 0) && decide (rv = 0))
theorem zero_int (w : World) : (zeroValue 3).run Tryd.prog w = .ok (.int .i64 0) w := by go_simp
set_option maxRecDepth 100000 in
set_option maxHeartbeats 4000000 in
theorem alone_any (w : World) (bc : Nat) (bs : Value) (b o : Nat) (k : Int) (nm : Str) (v : Int) (kv lv : Value) (n : Nat) (ls : List Str) (rv : Int) (hm : IMap w bc cntL) (hbs : bs.oneCell' = true) (hr : ReadsAt w ⟨b, o, none⟩ (tyC k nm v kv lv rv)) (hat : AtCells w ⟨b, o, none⟩) (hk : SlOk w kv n) (hv : Strs w lv ls) (hb : ls.length ≤ 9223372036854775807) :
    Calls Tryd.prog 51 #[.agg #[.map (some bc), bs], .pointer (some ⟨b, o, none⟩)] w fun e w' => e = .returned (.bool (aloneB k nm v n ls rv)) ∧ Below w.heap.size w w' := by
  obtain ⟨w0, hw0⟩ : ∃ w0, w0 = w.alloc (.cells #[.map (some bc), bs] 57) := ⟨_, rfl⟩
  have hb0 : Below w.heap.size w w0 := by rw [hw0]; exact below_new w _
  have l0 : Lies w0 w.heap.size 57 #[.map (some bc), bs] := by rw [hw0]; exact Lies.new w _ _
  have hm0 := hm.keep (hb0.block _ hm.lt)
  have hr0 := hr.keep (hb0.block _ hat.lt)
  have hv0 := hv.later hb0
  obtain ⟨c0, c1, c2, c3, c4, c5⟩ := reads6 hr0
  obtain ⟨A, q, rfl, hq, hq2, _⟩ := hk
  have j0 := l0.cell 0
  have hlk : ∀ m, (Instr.lookup 52 (.map (some bc)) (.int .i64 k) true).run Tryd.prog (w0.drewN m) = .ok (.tuple #[(look k cntL).getD (.int .i64 0), .bool (look k cntL).isSome]) (w0.drewN m) := fun m => IMap.lookup (w := w0.drewN m) hm0 Tryd.underlying52 Tryd.underlying3 (zero_int _) k
  have HW := Lib.hid hw0
  have HR := Lib.hid hr0
  have HV := Lib.hid hv0
  clear hw0 hm hm0 hr hr0 hv hv0 hat
  rcases hn : cntOf k with _ | c
  · rw [look_cnt, hn] at hlk
    go_enter Tryd.func51, Tryd.ntmps51
    go_wp2
    rw [← HW.out]
    go_quiet (fail)
    go_wp2
    go_ret
    exact ⟨ret_bool (by unfold aloneB cntB; simp [hn]), hb0.trans ((below_drewN _ _).mono hb0.size)⟩
  · rw [look_cnt, hn] at hlk
    have HN := Lib.hid hn
    clear hn
    go_enter Tryd.func51, Tryd.ntmps51
    go_wp2
    rw [← HW.out]
    go_quiet (fail)
    have hb1 := hb0.trans ((below_drewN w0 nq).mono hb0.size)
    obtain ⟨w1, hw1⟩ : ∃ w1, w1 = w0.drewN nq := ⟨_, rfl⟩
    have hr1 : ReadsAt w1 ⟨b, o, none⟩ (tyC k nm v (.slice A n q) lv rv) := by rw [hw1]; exact HR.out
    have hv1 : Strs w1 lv ls := by rw [hw1]; exact HV.out
    have c3' : w1.cell? ⟨b, o + 3, none⟩ = some (.slice A n q) := by rw [hw1]; exact c3
    rw [← hw1] at hb1 ⊢
    clear HR HV c3 hlk hw1
    by_cases hcn : n = c
    · subst hcn
      have hN := nameRight_any w1 b o k nm v _ lv rv hr1
      have HNm := Lib.hid hN
      clear hN
      go_wp2_with fail
      refine HNm.out.mono ?_
      rintro e w2 ⟨rfl, n2, rfl⟩
      have hb2 := hb1.trans ((below_drewN w1 n2).mono hb1.size)
      have hV := varRight_any (w1.drewN n2) b o k nm v _ lv rv hr1
      have hRw := rowRight_any (w1.drewN n2) b o k nm v _ lv ls rv hr1 hv1 hb
      have HVr := Lib.hid hV
      have HRw := Lib.hid hRw
      clear hV hRw
      have hal : aloneB k nm v n ls rv = (((nm != []) == (k == 4)) && (if k = 7 then decide (1 ≤ v) else decide (v = 0)) && (if k = 5 then rowOk ls rv else decide (ls.length = 0) && decide (rv = 0))) := by
        unfold aloneB cntB
        rw [HN.out]
        simp
      generalize (if k = 5 then rowOk ls rv else decide (ls.length = 0) && decide (rv = 0)) = b3 at *
      generalize (if k = 7 then decide (1 ≤ v) else decide (v = 0)) = b2 at *
      generalize ((nm != []) == (k == 4)) = b1 at *
      have HAL := Lib.hid hal
      clear hal
      cases b1
      · go_wp2
        go_ret
        exact ⟨ret_bool (by rw [HAL.out]; rfl), hb2⟩
      · go_wp2_with fail
        refine HVr.out.mono ?_
        rintro e w3 ⟨rfl, rfl⟩
        cases b2
        · go_wp2
          go_ret
          exact ⟨ret_bool (by rw [HAL.out]; rfl), hb2⟩
        · go_wp2_with fail
          refine HRw.out.mono ?_
          rintro e w4 ⟨rfl, hb4⟩
          go_wp2
          go_ret
          exact ⟨ret_bool (by rw [HAL.out]; rfl), hb2.trans (hb4.mono hb2.size)⟩
    · have hci : ¬ (n : Int) = (c : Int) := by omega
      go_wp2
      go_ret
      refine ⟨ret_bool ?_, hb1⟩
      unfold aloneB cntB
      rw [HN.out]
      have : decide (some c = some n) = false := decide_eq_false (fun h => hcn (by injection h with h; exact h.symm))
      rw [this]
      rfl
end Go.Proofs.YtjeolmcjhpkcbaaDoor
