/- The machine of package source: values that are made; an environment looked up. -/
import Derived.Test.YtmodmojocclmaaaGreatDoorSoB
import Derived.Deep.LoopGhost
namespace Go.Proofs.YtmodmojocclmaaaGreatDoor.K
open Go Go.RowKit
namespace So

def AggEnd (l : List Value) (w : World) (e : Ending) (w' : World) : Prop := e = .returned (.agg l.toArray) ∧ Below w.heap.size w w'
set_option maxRecDepth 100000 in
set_option maxHeartbeats 4000000 in
theorem number_any (w : World) (n : Int) : Calls Tryz.prog 32 #[.int .i64 n] w (AggEnd (litL 1 n) w) := by
 go_enter Tryz.func32, Tryz.ntmps32
 go_wp2
 exact bodyPost_ret (v := .agg (litL 1 n).toArray) (by simp [results, Tryz.results32, go_sem, litL]) rfl ⟨rfl, (Below.refl _ _).alloc (Nat.le_refl _) _⟩
set_option maxRecDepth 100000 in
set_option maxHeartbeats 4000000 in
theorem truth_any (w : World) (n : Int) : Calls Tryz.prog 33 #[.int .i64 n] w (AggEnd (litL 2 n) w) := by
 go_enter Tryz.func33, Tryz.ntmps33
 go_wp2
 exact bodyPost_ret (v := .agg (litL 2 n).toArray) (by simp [results, Tryz.results33, go_sem, litL]) rfl ⟨rfl, (Below.refl _ _).alloc (Nat.le_refl _) _⟩
set_option maxRecDepth 100000 in
set_option maxHeartbeats 4000000 in
theorem ref_any (w : World) (n : Int) : Calls Tryz.prog 86 #[.int .i64 n] w (AggEnd (litL 5 n) w) := by
 go_enter Tryz.func86, Tryz.ntmps86
 go_wp2
 exact bodyPost_ret (v := .agg (litL 5 n).toArray) (by simp [results, Tryz.results86, go_sem, litL]) rfl ⟨rfl, (Below.refl _ _).alloc (Nat.le_refl _) _⟩
set_option maxRecDepth 100000 in
set_option maxHeartbeats 4000000 in
theorem unit_any (w : World) : Calls Tryz.prog 34 #[] w (AggEnd (litL 3 0) w) := by
 go_enter Tryz.func34, Tryz.ntmps34
 go_wp2
 exact bodyPost_ret (v := .agg (litL 3 0).toArray) (by simp [results, Tryz.results34, go_sem, litL]) rfl ⟨rfl, (Below.refl _ _).alloc (Nat.le_refl _) _⟩
set_option maxRecDepth 100000 in
set_option maxHeartbeats 4000000 in
theorem fun_any (w : World) (T : TypeId) (x : Value) : Calls Tryz.prog 35 #[.iface T x] w (AggEnd [.int .i64 6, .int .i64 0, .pointer none, .iface T x] w) := by
 go_enter Tryz.func35, Tryz.ntmps35
 go_wp2
 exact bodyPost_ret (v := .agg [.int .i64 6, .int .i64 0, .pointer none, .iface T x].toArray) (by simp [results, Tryz.results35, go_sem]) rfl ⟨rfl, (Below.refl _ _).alloc (Nat.le_refl _) _⟩
def ConEnd (nm : Str) (kv : Value) (w : World) (e : Ending) (w' : World) : Prop := ∃ N, e = .returned (.agg #[.int .i64 4, .int .i64 0, pt N, .nilIface]) ∧ w.heap.size ≤ N ∧ w'.heap[N]? = some (.cells [.string (ba nm), kv].toArray 172) ∧ Below w.heap.size w w'
set_option maxRecDepth 100000 in
set_option maxHeartbeats 4000000 in
theorem con_raw (w : World) (nm : Str) (A : Option Addr) (n c : Nat) : Calls Tryz.prog 58 #[.string (ba nm), .slice A n c] w (ConEnd nm (.slice A n c) w) := by
 go_enter Tryz.func58, Tryz.ntmps58
 go_wp2
 exact bodyPost_ret (v := .agg #[.int .i64 4, .int .i64 0, pt (w.heap.size + 1), .nilIface]) (by simp [results, Tryz.results58, go_sem, pt]) rfl ⟨_, rfl, by omega, heap_new_at (by simp) _, ((Below.refl _ _).alloc (Nat.le_refl _) _).alloc (by simp) _⟩
def FindEnd (H : Mem) (N : Nat) (r : Option Val) (w : World) (e : Ending) (w' : World) : Prop :=
 Below w.heap.size w w' ∧ match r with
 | some v => ∃ l, VV H N v l ∧ e = .returned (.tuple #[.agg l.toArray, .bool true])
 | none => e = .returned (.tuple #[.agg (litL 0 0).toArray, .bool false])
theorem EV.open {H : Mem} {N : Nat} {e : Env} {x : Value} (h : EV H N e x) : (e = [] ∧ x = .pointer none) ∨ ∃ nm v e' b k n c f y, e = (nm, v) :: e' ∧ x = pt b ∧ HR H b 0 [.string (ba nm), .int .i64 k, .int .i64 n, .pointer c, f, .pointer y] ∧ IfV f ∧ VV H N v [.int .i64 k, .int .i64 n, .pointer c, f] ∧ EV H N e' (.pointer y) := by
 cases h with
 | nil => exact .inl ⟨rfl, rfl⟩
 | cons nm v e b l ov hr hv he =>
  obtain ⟨k, n, c, f, rfl, hf⟩ := hv.four
  obtain ⟨y, rfl⟩ := he.ptr
  exact .inr ⟨nm, v, e, b, k, n, c, f, y, rfl, rfl, hr, hf, hv, he⟩
theorem ba_tl (l : Str) : (ba l).toList = l := by
 rw [Lib.toList_data]
 simp [ba]
theorem tl_ne {m n : Str} (h : m ≠ n) : ((ba m).toList == (ba n).toList) = false := by
 rw [ba_tl, ba_tl]
 simpa using h
theorem info_comp : (Tryz.prog.info? 68).map (fun i => i.size) = some 4 := by kernel_rfl
def FindRel (H : Mem) (N : Nat) (nm : Str) (en : Env) (w : World) (g : Nat) (x : Value) (wr : World) : Prop :=
 ∃ e', EV H N e' x ∧ find nm e' = find nm en ∧ e'.length = g ∧ wr = w
set_option maxRecDepth 100000 in
set_option maxHeartbeats 4000000 in
theorem find_any {H : Mem} {N : Nat} {w : World} (hs : Sub H w) {en : Env} {x : Value} (he : EV H N en x) (nm : Str) :
  Calls Tryz.prog 57 #[x, .string (ba nm)] w (FindEnd H N (find nm en) w) := by
 obtain ⟨a, rfl⟩ := he.ptr
 obtain ⟨w1, hw1⟩ : ∃ w1, w1 = w.alloc (.cells #[.int .i64 0, .int .i64 0, .pointer none, .nilIface] 68) := ⟨_, rfl⟩
 have hb1 : Below w.heap.size w w1 := by rw [hw1]; exact below_new w _
 have l1 : Lies w1 w.heap.size 68 (litL 0 0).toArray := by rw [hw1]; exact Lies.new w _ _
 have hs1 : Sub H w1 := fun b o hb => by
  have h1 := hs b o hb
  exact (hb1.block b (Array.getElem?_eq_some_iff.1 h1).1).trans h1
 have HW := Lib.hid hw1
 have HB := Lib.hid hb1
 have HL := Lib.hid l1
 have HS := Lib.hid hs1
 clear hw1 hb1 l1 hs1 hs
 go_enter Tryz.func57, Tryz.ntmps57
 go_wp2
 rw [← HW.out]
 go_loopg [0] en.length (fun g x wr => FindRel H N nm en w1 g x wr)
 case atStart => exact ⟨en, he, rfl, rfl, rfl⟩
 case round =>
  obtain ⟨e', he', hfe, hg, rfl⟩ := hrel
  have HF := Lib.hid hfe
  clear hfe
  rcases he'.open with ⟨rfl, rfl⟩ | ⟨m, v, r, b, k, n, c, f, y, rfl, rfl, hr, hf, hv, hr'⟩
  ·have z0 : wr.cell? ⟨w.heap.size, 0, none⟩ = some (.int .i64 0) := HL.out.cell 0
   have z1 : wr.cell? ⟨w.heap.size, 1, none⟩ = some (.int .i64 0) := HL.out.cell 1
   have z2 : wr.cell? ⟨w.heap.size, 2, none⟩ = some (.pointer none) := HL.out.cell 2
   have z3 : wr.cell? ⟨w.heap.size, 3, none⟩ = some .nilIface := HL.out.cell 3
   have f0 := HL.out.free 0
   have f1 := HL.out.free 1
   have f2 := HL.out.free 2
   have f3 := HL.out.free 3
   go_wp2
   have hst : Lies ((((wr.setCell ⟨w.heap.size, 0, none⟩ (.int .i64 0)).setCell ⟨w.heap.size, 1, none⟩ (.int .i64 0)).setCell ⟨w.heap.size, 2, none⟩ (.pointer none)).setCell ⟨w.heap.size, 3, none⟩ .nilIface) w.heap.size 68 (litL 0 0).toArray := (((HL.out.set 0 _).set 1 _).set 2 _).set 3 _
   refine bodyPost_ret (results_row_tmp rfl _ _ w.heap.size 68 _ (0, 0) _ rfl hst Tryz.underlying68 rfl info_comp) rfl ⟨?_, ?_⟩
   ·exact (((HB.out.setCell (p := ⟨w.heap.size, 0, none⟩) (Nat.le_refl _) _).setCell (p := ⟨w.heap.size, 1, none⟩) (Nat.le_refl _) _).setCell (p := ⟨w.heap.size, 2, none⟩) (Nat.le_refl _) _).setCell (p := ⟨w.heap.size, 3, none⟩) (Nat.le_refl _) _
   ·rw [← HF.out]
    rfl
  ·unfold pt
   have hb := HB.out
   have q0 := (hr 0 _ rfl).cell HS.out
   have q1 := (hr 1 _ rfl).cell HS.out
   have q2 := (hr 2 _ rfl).cell HS.out
   have q3 := (hr 3 _ rfl).cell HS.out
   have q4 := (hr 4 _ rfl).cell HS.out
   have q5 := (hr 5 _ rfl).cell HS.out
   clear hr hb
   by_cases hm : m = nm
   ·subst hm
    have z0 : wr.cell? ⟨w.heap.size, 0, none⟩ = some (.int .i64 0) := HL.out.cell 0
    have z1 : wr.cell? ⟨w.heap.size, 1, none⟩ = some (.int .i64 0) := HL.out.cell 1
    have z2 : wr.cell? ⟨w.heap.size, 2, none⟩ = some (.pointer none) := HL.out.cell 2
    have z3 : wr.cell? ⟨w.heap.size, 3, none⟩ = some .nilIface := HL.out.cell 3
    have f0 := HL.out.free 0
    have f1 := HL.out.free 1
    have f2 := HL.out.free 2
    have f3 := HL.out.free 3
    have hst : ∀ f, Lies ((((wr.setCell ⟨w.heap.size, 0, none⟩ (.int .i64 k)).setCell ⟨w.heap.size, 1, none⟩ (.int .i64 n)).setCell ⟨w.heap.size, 2, none⟩ (.pointer c)).setCell ⟨w.heap.size, 3, none⟩ f) w.heap.size 68 [.int .i64 k, .int .i64 n, .pointer c, f].toArray := fun f => (((HL.out.set 0 _).set 1 _).set 2 _).set 3 _
    have HST := Lib.hid hst
    clear hst
    rcases hf with rfl | ⟨ft, fx, rfl⟩
    all_goals
     go_wp2
     refine bodyPost_ret (results_row_tmp rfl _ _ w.heap.size 68 _ (0, 0) _ rfl (HST.out _) Tryz.underlying68 rfl info_comp) rfl ⟨?_, ?_⟩
     ·exact (((HB.out.setCell (p := ⟨w.heap.size, 0, none⟩) (Nat.le_refl _) _).setCell (p := ⟨w.heap.size, 1, none⟩) (Nat.le_refl _) _).setCell (p := ⟨w.heap.size, 2, none⟩) (Nat.le_refl _) _).setCell (p := ⟨w.heap.size, 3, none⟩) (Nat.le_refl _) _
     ·rw [← HF.out, find, if_pos rfl]
      exact ⟨_, hv, rfl⟩
   ·have hne : ((ba m).toList == (ba nm).toList) = false := tl_ne hm
    go_wp2
    go_roundg r.length
    case measure => rw [← hg]; simp
    case rel => exact ⟨r, hr', by rw [← HF.out]; simp [find, hm], rfl, rfl⟩
end So
end Go.Proofs.YtmodmojocclmaaaGreatDoor.K

/- The machine of package source: how many arguments an operator has; whether a term is whole. -/
namespace Go.Proofs.YtmodmojocclmaaaGreatDoor.K
open Go Go.RowKit
namespace So

def ArgEnd (r : Option Nat) (w : World) (e : Ending) (w' : World) : Prop := e = .returned (.tuple #[.int .i64 ((r.getD 0 : Nat) : Int), .bool r.isSome]) ∧ w = w'
theorem tl_is {m : Str} {l : List UInt8} (h : m = l) : ((ba m).toList == l) = true := by rw [ba_tl, h]; simp
theorem tl_not {m : Str} {l : List UInt8} (h : ¬ m = l) : ((ba m).toList == l) = false := by rw [ba_tl]; simpa using h
set_option maxRecDepth 100000 in
set_option maxHeartbeats 4000000 in
theorem arguments_any (w : World) (nm : Str) : Calls Tryz.prog 56 #[.string (ba nm)] w (ArgEnd (argc nm) w) := by
 unfold argc
 by_cases h0 : nm = [114, 101, 97, 100]
 ·rw [if_pos h0]
  have t0 := tl_is h0
  clear h0
  go_enter Tryz.func56, Tryz.ntmps56
  go_wp2
  go_ret2
  exact ⟨rfl, rfl⟩
 rw [if_neg h0]
 have t0 := tl_not h0
 clear h0
 by_cases h1 : nm = [112, 114, 105, 110, 116]
 ·rw [if_pos h1]
  have t1 := tl_is h1
  clear h1
  go_enter Tryz.func56, Tryz.ntmps56
  go_wp2
  go_ret2
  exact ⟨rfl, rfl⟩
 rw [if_neg h1]
 have t1 := tl_not h1
 clear h1
 by_cases h2 : nm = [114, 101, 102]
 ·rw [if_pos h2]
  have t2 := tl_is h2
  clear h2
  go_enter Tryz.func56, Tryz.ntmps56
  go_wp2
  go_ret2
  exact ⟨rfl, rfl⟩
 rw [if_neg h2]
 have t2 := tl_not h2
 clear h2
 by_cases h3 : nm = [33]
 ·rw [if_pos h3]
  have t3 := tl_is h3
  clear h3
  go_enter Tryz.func56, Tryz.ntmps56
  go_wp2
  go_ret2
  exact ⟨rfl, rfl⟩
 rw [if_neg h3]
 have t3 := tl_not h3
 clear h3
 by_cases h4 : nm = [43]
 ·rw [if_pos h4]
  have t4 := tl_is h4
  clear h4
  go_enter Tryz.func56, Tryz.ntmps56
  go_wp2
  go_ret2
  exact ⟨rfl, rfl⟩
 rw [if_neg h4]
 have t4 := tl_not h4
 clear h4
 by_cases h5 : nm = [45]
 ·rw [if_pos h5]
  have t5 := tl_is h5
  clear h5
  go_enter Tryz.func56, Tryz.ntmps56
  go_wp2
  go_ret2
  exact ⟨rfl, rfl⟩
 rw [if_neg h5]
 have t5 := tl_not h5
 clear h5
 by_cases h6 : nm = [42]
 ·rw [if_pos h6]
  have t6 := tl_is h6
  clear h6
  go_enter Tryz.func56, Tryz.ntmps56
  go_wp2
  go_ret2
  exact ⟨rfl, rfl⟩
 rw [if_neg h6]
 have t6 := tl_not h6
 clear h6
 by_cases h7 : nm = [47]
 ·rw [if_pos h7]
  have t7 := tl_is h7
  clear h7
  go_enter Tryz.func56, Tryz.ntmps56
  go_wp2
  go_ret2
  exact ⟨rfl, rfl⟩
 rw [if_neg h7]
 have t7 := tl_not h7
 clear h7
 by_cases h8 : nm = [60]
 ·rw [if_pos h8]
  have t8 := tl_is h8
  clear h8
  go_enter Tryz.func56, Tryz.ntmps56
  go_wp2
  go_ret2
  exact ⟨rfl, rfl⟩
 rw [if_neg h8]
 have t8 := tl_not h8
 clear h8
 by_cases h9 : nm = [61]
 ·rw [if_pos h9]
  have t9 := tl_is h9
  clear h9
  go_enter Tryz.func56, Tryz.ntmps56
  go_wp2
  go_ret2
  exact ⟨rfl, rfl⟩
 rw [if_neg h9]
 have t9 := tl_not h9
 clear h9
 by_cases h10 : nm = [58, 61]
 ·rw [if_pos h10]
  have t10 := tl_is h10
  clear h10
  go_enter Tryz.func56, Tryz.ntmps56
  go_wp2
  go_ret2
  exact ⟨rfl, rfl⟩
 rw [if_neg h10]
 have t10 := tl_not h10
 clear h10
 go_enter Tryz.func56, Tryz.ntmps56
 go_wp2
 go_ret2
 exact ⟨rfl, rfl⟩
end So
end Go.Proofs.YtmodmojocclmaaaGreatDoor.K

/- The machine of package source: whether a term has what its step needs. -/
namespace Go.Proofs.YtmodmojocclmaaaGreatDoor.K
open Go Go.RowKit
namespace So

def BoolEnd (b : Bool) (w : World) (e : Ending) (w' : World) : Prop := e = .returned (.bool b) ∧ w = w'
theorem complete_u (k : Int) (nm pm : Str) (n : Int) (kids : List Tm) (arms : List Arm) : complete (.mk k nm pm n kids arms) =
  (if k = 1 ∨ k = 2 ∨ k = 3 ∨ k = 4 ∨ k = 11 then true
 else if k = 5 ∨ k = 12 ∨ k = 13 then decide (1 ≤ kids.length)
 else if k = 6 ∨ k = 7 ∨ k = 8 then decide (2 ≤ kids.length)
 else if k = 9 then decide (3 ≤ kids.length)
 else if k = 10 then decide (argc nm = some kids.length)
 else if k = 14 then decide (1 ≤ kids.length) && hdOk arms
 else false) := rfl
set_option maxRecDepth 100000 in
set_option maxHeartbeats 4000000 in
theorem complete_any {H : Mem} {w : World} (hs : Sub H w) {b o : Nat} {t : Tm} (ht : TmA H b o t) : Calls Tryz.prog 28 #[ptO b o] w (BoolEnd (complete t) w) := by
 obtain ⟨av, kv, rv, rest, hr, hsl, hks, har⟩ := ht.open
 obtain ⟨k, nm, pm, n, kids, arms⟩ := t
 simp only [Tm.k, Tm.nm, Tm.pm, Tm.n, Tm.kids, Tm.arms] at hr hsl hks har
 obtain ⟨A, c, rfl, hAc, hAl, hA⟩ := hsl
 obtain ⟨⟨B, d, rfl, hBd, hBl, hB⟩, harm⟩ := har
 have q0 : w.cell? ⟨b, o, none⟩ = some (.int .i64 k) := (hr 0 _ rfl).cell hs
 have q2 : w.cell? ⟨b, o + 2, none⟩ = some (.string (ba nm)) := (hr 2 _ rfl).cell hs
 have q5 : w.cell? ⟨b, o + 5, none⟩ = some (.slice A kids.length c) := (hr 5 _ rfl).cell hs
 have q6 : w.cell? ⟨b, o + 6, none⟩ = some (.slice B arms.length d) := (hr 6 _ rfl).cell hs
 rw [complete_u]
 unfold ptO
 have HA := Lib.hid harm
 have HB := Lib.hid hB
 have HS := Lib.hid hs
 clear harm hB hA hks hr hs ht
 by_cases h1 : k = 1
 ·subst h1
  rw [if_pos (by decide)]
  go_enter Tryz.func28, Tryz.ntmps28
  go_wp2
  go_ret
  exact ⟨rfl, rfl⟩
 by_cases h2 : k = 2
 ·subst h2
  rw [if_pos (by decide)]
  go_enter Tryz.func28, Tryz.ntmps28
  go_wp2
  go_ret
  exact ⟨rfl, rfl⟩
 by_cases h3 : k = 3
 ·subst h3
  rw [if_pos (by decide)]
  go_enter Tryz.func28, Tryz.ntmps28
  go_wp2
  go_ret
  exact ⟨rfl, rfl⟩
 by_cases h4 : k = 4
 ·subst h4
  rw [if_pos (by decide)]
  go_enter Tryz.func28, Tryz.ntmps28
  go_wp2
  go_ret
  exact ⟨rfl, rfl⟩
 by_cases h11 : k = 11
 ·subst h11
  rw [if_pos (by decide)]
  go_enter Tryz.func28, Tryz.ntmps28
  go_wp2
  go_ret
  exact ⟨rfl, rfl⟩
 rw [if_neg (by omega)]
 by_cases h5 : k = 5
 ·subst h5
  rw [if_pos (by decide)]
  by_cases hl : 1 ≤ kids.length
  ·rw [decide_eq_true hl]
   have hi : (1 : Int) ≤ (kids.length : Int) := by omega
   go_enter Tryz.func28, Tryz.ntmps28
   go_wp2
   go_ret
   exact ⟨rfl, rfl⟩
  ·rw [decide_eq_false hl]
   have hi : ¬ (1 : Int) ≤ (kids.length : Int) := by omega
   go_enter Tryz.func28, Tryz.ntmps28
   go_wp2
   go_ret
   exact ⟨rfl, rfl⟩
 by_cases h12 : k = 12
 ·subst h12
  rw [if_pos (by decide)]
  by_cases hl : 1 ≤ kids.length
  ·rw [decide_eq_true hl]
   have hi : (1 : Int) ≤ (kids.length : Int) := by omega
   go_enter Tryz.func28, Tryz.ntmps28
   go_wp2
   go_ret
   exact ⟨rfl, rfl⟩
  ·rw [decide_eq_false hl]
   have hi : ¬ (1 : Int) ≤ (kids.length : Int) := by omega
   go_enter Tryz.func28, Tryz.ntmps28
   go_wp2
   go_ret
   exact ⟨rfl, rfl⟩
 by_cases h13 : k = 13
 ·subst h13
  rw [if_pos (by decide)]
  by_cases hl : 1 ≤ kids.length
  ·rw [decide_eq_true hl]
   have hi : (1 : Int) ≤ (kids.length : Int) := by omega
   go_enter Tryz.func28, Tryz.ntmps28
   go_wp2
   go_ret
   exact ⟨rfl, rfl⟩
  ·rw [decide_eq_false hl]
   have hi : ¬ (1 : Int) ≤ (kids.length : Int) := by omega
   go_enter Tryz.func28, Tryz.ntmps28
   go_wp2
   go_ret
   exact ⟨rfl, rfl⟩
 rw [if_neg (by omega)]
 by_cases h6 : k = 6
 ·subst h6
  rw [if_pos (by decide)]
  by_cases hl : 2 ≤ kids.length
  ·rw [decide_eq_true hl]
   have hi : (2 : Int) ≤ (kids.length : Int) := by omega
   go_enter Tryz.func28, Tryz.ntmps28
   go_wp2
   go_ret
   exact ⟨rfl, rfl⟩
  ·rw [decide_eq_false hl]
   have hi : ¬ (2 : Int) ≤ (kids.length : Int) := by omega
   go_enter Tryz.func28, Tryz.ntmps28
   go_wp2
   go_ret
   exact ⟨rfl, rfl⟩
 by_cases h7 : k = 7
 ·subst h7
  rw [if_pos (by decide)]
  by_cases hl : 2 ≤ kids.length
  ·rw [decide_eq_true hl]
   have hi : (2 : Int) ≤ (kids.length : Int) := by omega
   go_enter Tryz.func28, Tryz.ntmps28
   go_wp2
   go_ret
   exact ⟨rfl, rfl⟩
  ·rw [decide_eq_false hl]
   have hi : ¬ (2 : Int) ≤ (kids.length : Int) := by omega
   go_enter Tryz.func28, Tryz.ntmps28
   go_wp2
   go_ret
   exact ⟨rfl, rfl⟩
 by_cases h8 : k = 8
 ·subst h8
  rw [if_pos (by decide)]
  by_cases hl : 2 ≤ kids.length
  ·rw [decide_eq_true hl]
   have hi : (2 : Int) ≤ (kids.length : Int) := by omega
   go_enter Tryz.func28, Tryz.ntmps28
   go_wp2
   go_ret
   exact ⟨rfl, rfl⟩
  ·rw [decide_eq_false hl]
   have hi : ¬ (2 : Int) ≤ (kids.length : Int) := by omega
   go_enter Tryz.func28, Tryz.ntmps28
   go_wp2
   go_ret
   exact ⟨rfl, rfl⟩
 rw [if_neg (by omega)]
 by_cases h9 : k = 9
 ·subst h9
  rw [if_pos (by decide)]
  by_cases hl : 3 ≤ kids.length
  ·rw [decide_eq_true hl]
   have hi : (3 : Int) ≤ (kids.length : Int) := by omega
   go_enter Tryz.func28, Tryz.ntmps28
   go_wp2
   go_ret
   exact ⟨rfl, rfl⟩
  ·rw [decide_eq_false hl]
   have hi : ¬ (3 : Int) ≤ (kids.length : Int) := by omega
   go_enter Tryz.func28, Tryz.ntmps28
   go_wp2
   go_ret
   exact ⟨rfl, rfl⟩
 rw [if_neg (by omega)]
 by_cases h10 : k = 10
 ·subst h10
  rw [if_pos rfl]
  have hag := arguments_any w nm
  cases hq : argc nm with
  | none =>
   rw [hq] at hag
   have HAG := Lib.hid hag
   have hd : decide ((none : Option Nat) = some kids.length) = false := by simp
   rw [hd]
   clear hag hq hd
   go_enter Tryz.func28, Tryz.ntmps28
   go_wp2_with fail
   refine HAG.out.mono ?_
   rintro e w' ⟨rfl, rfl⟩
   go_wp2
   go_ret
   exact ⟨rfl, rfl⟩
  | some m =>
   rw [hq] at hag
   have HAG := Lib.hid hag
   by_cases hm : m = kids.length
   ·have hd : decide (some m = some kids.length) = true := by simp [hm]
    rw [hd]
    have hi : ((kids.length : Int) == (m : Int)) = true := by rw [hm]; simp
    clear hag hq hd hm
    go_enter Tryz.func28, Tryz.ntmps28
    go_wp2_with fail
    refine HAG.out.mono ?_
    rintro e w' ⟨rfl, rfl⟩
    go_wp2
    go_ret
    exact ⟨rfl, rfl⟩
   ·have hd : decide (some m = some kids.length) = false := by simp [hm]
    rw [hd]
    have hi : ((kids.length : Int) == (m : Int)) = false := by rw [beq_eq_false_iff_ne]; omega
    clear hag hq hd hm
    go_enter Tryz.func28, Tryz.ntmps28
    go_wp2_with fail
    refine HAG.out.mono ?_
    rintro e w' ⟨rfl, rfl⟩
    go_wp2
    go_ret
    exact ⟨rfl, rfl⟩
 rw [if_neg h10]
 by_cases h14 : k = 14
 ·subst h14
  rw [if_pos rfl]
  by_cases hl : 1 ≤ kids.length
  ·rw [decide_eq_true hl, Bool.true_and]
   have hi : (1 : Int) ≤ (kids.length : Int) := by omega
   cases arms with
   | nil =>
    have hz : ¬ (1 : Int) ≤ ((0 : Nat) : Int) := by decide
    go_enter Tryz.func28, Tryz.ntmps28
    go_wp2
    go_ret
    exact ⟨rfl, rfl⟩
   | cons a r =>
    obtain ⟨vv, _, hv1, hv2, _⟩ := HA.out 0 a rfl
    obtain ⟨g, go, rfl⟩ := HB.out (by simp)
    obtain ⟨V, vc, rfl, _, _, _⟩ := hv2.1
    have x1 : w.cell? ⟨g, go + 1, none⟩ = some (.slice V a.2.1.length vc) := by
     have h := hv1.cell HS.out
     simpa [blk, off] using h
    have hlen : (1 : Int) ≤ ((a :: r).length : Int) := by rw [List.length_cons]; omega
    have hlen0 : (0 : Int) < ((a :: r).length : Int) := by rw [List.length_cons]; omega
    obtain ⟨L, hL⟩ : ∃ L, L = (a :: r).length := ⟨_, rfl⟩
    rw [← hL] at hlen hlen0 q6 hBd
    have HLL := Lib.hid hL
    have HV := Lib.hid hv2
    clear hv1 hv2 hL
    by_cases hv : 1 ≤ a.2.1.length
    ·have hvi : (1 : Int) ≤ (a.2.1.length : Int) := by omega
     have ho : hdOk (a :: r) = true := by
      obtain ⟨x, y, z⟩ := a
      cases y with
      | nil => simp at hv
      | cons => rfl
     rw [ho]
     go_enter Tryz.func28, Tryz.ntmps28
     go_wp2
     go_ret
     exact ⟨rfl, rfl⟩
    ·have hvi : ¬ (1 : Int) ≤ (a.2.1.length : Int) := by omega
     have ho : hdOk (a :: r) = false := by
      obtain ⟨x, y, z⟩ := a
      cases y with
      | nil => rfl
      | cons => simp at hv
     rw [ho]
     go_enter Tryz.func28, Tryz.ntmps28
     go_wp2
     go_ret
     exact ⟨rfl, rfl⟩
  ·rw [decide_eq_false hl, Bool.false_and]
   have hi : ¬ (1 : Int) ≤ (kids.length : Int) := by omega
   go_enter Tryz.func28, Tryz.ntmps28
   go_wp2
   go_ret
   exact ⟨rfl, rfl⟩
 rw [if_neg h14]
 go_enter Tryz.func28, Tryz.ntmps28
 go_wp2
 go_ret
 exact ⟨rfl, rfl⟩
end So
end Go.Proofs.YtmodmojocclmaaaGreatDoor.K
