/- args: a list of what becomes of some types, which are still to do. -/
import Derived.Test.YtclaabnjokkbjaaMg10
import Derived.Test.YtclaabnjokkbjaaMg11
import Derived.Test.YtclaabnjokkbjaaMg08
import Derived.Laws.MakeOwn
import Derived.Outline
import Derived.StillTailTactics
import Derived.Deep.RegionHeld3
namespace Go.Proofs.Ytclaabnjokkbjaa
open Go.RowKit

set_option maxRecDepth 100000 in
theorem look_nil (w : World) (a : Addr) (n : Int) (s : Bool) : (Instr.lookup 82 (.map none) (.agg #[.pointer (some a), .int .i64 n, .bool s]) true).run Try.prog w = .ok (.tuple #[.slice none 0 0, .bool false]) w := by
  kernel_rfl
theorem eq_nil (w : World) : (binOp BinOp.neq 82 (.map none) (.map none)).run Try.prog w = .ok (.bool false) w := by
  kernel_rfl
theorem info_task : (Try.prog.info? 116).map (fun i => (i.zero, i.size, i.bytes)) = some (some (.agg #[.slice none 0 0, .slice none 0 0, .bool false]), 3, 56) := by kernel_rfl
theorem info_type : (Try.prog.info? 28).map (fun i => (i.zero, i.size, i.bytes)) = some (some (.agg zeroT), 6, 88) := by kernel_rfl
theorem made_size (z : Array Value) (n : Nat) : (madeCells z n).size = n := size_madeCells _ _
theorem run_mkT (w : World) (n : Nat) (hn : n ≤ 1000000) : (Instr.makeSlice 23 (.int .i64 (n : Int)) (.int .i64 (n : Int))).run Try.prog w = .ok (.slice (some ⟨w.heap.size, 0, none⟩) n n) (w.alloc (.cells (madeCells zeroT (n * 6)) 28)) := by
  obtain ⟨i0, hi, hz0, hz1, hz2⟩ := info_parts info_type
  have h := run_makeSlice w 23 28 i0 _ Try.underlying23 hi hz0 .i64 .i64 n n (by omega) (by omega) (by rw [hz1]; simp; omega) (by rw [hz2]; omega) (by omega)
  rw [hz1] at h
  simpa [Value.cells] using h
/-- The applier, which keeps nothing, and what it has still to do. -/
structure ApS (w : World) (p B : Nat) (vt vr td : Value) (k : Nat) (tc : List Value) : Prop where
  at_ : Lies w p 85 #[vt, vr, .map none, td]
  row : w.ownsRow B 116 3 td k tc
/-- What a turn of the applier leaves alone. -/
structure Chg (p : Nat) (td : Value) (w w' : World) : Prop where
  os : w'.os = w.os
  tape : w'.tape = w.tape
  output : w'.output = w.output
  size : w.heap.size ≤ w'.heap.size
  block : ∀ i, i < w.heap.size → i ≠ p → td.ownBlock ≠ some i → w'.heap[i]? = w.heap[i]?
theorem Chg.of_below {p : Nat} {td : Value} {w w' : World} (h : Below w.heap.size w w') : Chg p td w w' := ⟨h.os, h.tape, h.output, h.size, fun i hi _ _ => h.block i hi⟩
theorem Chg.trans {p : Nat} {td td' : Value} {a b c : World} (h : Chg p td a b) (k : Chg p td' b c) (ht : td'.ownBlock = td.ownBlock ∨ ∃ g, td'.ownBlock = some g ∧ a.heap.size ≤ g) : Chg p td a c :=
  ⟨k.os.trans h.os, k.tape.trans h.tape, k.output.trans h.output, Nat.le_trans h.size k.size, fun i hi hp hn => (k.block i (Nat.lt_of_lt_of_le hi h.size) hp (by
    rcases ht with e | ⟨g, e, hg⟩
    · rw [e]; exact hn
    · rw [e]; intro e2; injection e2 with e2; omega)).trans (h.block i hi hp hn)⟩
/-- What args leaves, if there is something to do. -/
def ArgsEnd (w : World) (p B : Nat) (vt vr td : Value) (k : Nat) (tc : List Value) (kv : Value) (n : Nat) (said : Bool) (e : Ending) (w' : World) : Prop :=
  ∃ G td' cur, e = .returned (.slice (some ⟨G, 0, none⟩) n n) ∧ w.heap.size ≤ G ∧ Lies w' G 28 cur ∧ cur.size = n * 6 ∧
    ApS w' p B vt vr td' (k + 1) (tc ++ [kv, .slice (some ⟨G, 0, none⟩) n n, .bool said]) ∧ td'.ownBlock ≠ some G ∧ (td'.ownBlock = td.ownBlock ∨ ∃ b, td'.ownBlock = some b ∧ w.heap.size ≤ b) ∧ Chg p td w w'
set_option maxRecDepth 100000 in
set_option maxHeartbeats 4000000 in
theorem args_any (w : World) (p B : Nat) (vt vr td : Value) (k : Nat) (tc : List Value) (hp : p < B) (hB : B ≤ w.heap.size) (h : ApS w p B vt vr td k tc) (hk : k ≤ 1000000) (kv : Value) (n : Nat) (hkv : SlR kv n) (h0 : 0 < n) (hn : n ≤ 1000000) (said : Bool) :
    Calls Try.prog 74 #[.pointer (some ⟨p, 0, none⟩), kv, .bool said] w (ArgsEnd w p B vt vr td k tc kv n said) := by
  obtain ⟨A, c, rfl, hc, ha⟩ := hkv.form
  obtain ⟨g, o, rfl⟩ := ha h0
  obtain ⟨hl, hrow⟩ := h
  obtain ⟨i0, hi, hz0, hz1, hz2⟩ := info_parts info_task
  have hmk := fun W => run_mkT W n hn
  obtain ⟨M, hM⟩ : ∃ M, M = madeCells zeroT (n * 6) := ⟨_, rfl⟩
  rw [← hM] at hmk
  have hMs : M.size = n * 6 := by rw [hM]; exact made_size _ _
  have hln := fun W => look_nil W ⟨g, o, none⟩ (n : Int) said
  have heq := eq_nil
  have hlp := hl.lt
  have hb1 := below_new w (.cells #[.pointer (some ⟨g, o, none⟩), .int .i64 (n : Int), .bool said] 150)
  have l1 := hl.later hb1
  have n1 := Lies.new w 150 #[.pointer (some ⟨g, o, none⟩), .int .i64 (n : Int), .bool said]
  obtain ⟨W, hW⟩ : ∃ W, W = w.alloc (.cells #[.pointer (some ⟨g, o, none⟩), .int .i64 (n : Int), .bool said] 150) := ⟨_, rfl⟩
  rw [← hW] at hb1 l1 n1
  have a2 := l1.cell 2
  have b0 := n1.cell 0
  have b1 := n1.cell 1
  have b2 := n1.cell 2
  have HW := Lib.hid hW
  have HB1 := Lib.hid hb1
  have HL1 := Lib.hid l1
  have HR := Lib.hid hrow
  have HMS := Lib.hid hMs
  clear hM hMs hl hb1 l1 hrow hkv ha hW n1
  have h0' : ((n : Int) == 0) = false := by simp; omega
  have hin : (0 : Int) < (n : Int) := by omega
  go_enter Try.func74, Try.ntmps74
  go_wp2_with fail
  rw [← HW.out]
  have hS : W.cell? ⟨p, 2, none⟩ = some (.map none) ∧ W.cell? ⟨w.heap.size, 0, none⟩ = some (.pointer (some ⟨g, o, none⟩)) ∧ W.cell? ⟨w.heap.size, 1, none⟩ = some (.int .i64 (n : Int)) ∧ W.cell? ⟨w.heap.size, 2, none⟩ = some (.bool said) := ⟨a2, b0, b1, b2⟩
  go_region_held3 (fun V => V.cell? ⟨p, 2, none⟩ = some (.map none) ∧ V.cell? ⟨w.heap.size, 0, none⟩ = some (.pointer (some ⟨g, o, none⟩)) ∧ V.cell? ⟨w.heap.size, 1, none⟩ = some (.int .i64 (n : Int)) ∧ V.cell? ⟨w.heap.size, 2, none⟩ = some (.bool said)) (exact hS) (fail)
  have l2 := HL1.out.later (below_new W (.cells M 28)).drew
  have p2 := l2.cell 2
  have p3 := l2.cell 3
  have hW1 := HL1.out.lt
  obtain ⟨At, kt, ct, rfl⟩ := own_slice HR.out
  have hX : Below w.heap.size w ((W.alloc (.cells M 28)).alloc (.cells #[.slice (some ⟨g, o, none⟩) n c, .slice (some ⟨W.heap.size, 0, none⟩) n n, .bool said] 116)).drew := ((HB1.out.alloc HB1.out.size _).alloc (by have := HB1.out.size; simp; omega) _).drew
  have lX : Lies ((W.alloc (.cells M 28)).alloc (.cells #[.slice (some ⟨g, o, none⟩) n c, .slice (some ⟨W.heap.size, 0, none⟩) n n, .bool said] 116)).drew p 85 #[vt, vr, .map none, .slice At kt ct] := (HL1.out.alloc _).alloc _
  have mX : Lies ((W.alloc (.cells M 28)).alloc (.cells #[.slice (some ⟨g, o, none⟩) n c, .slice (some ⟨W.heap.size, 0, none⟩) n n, .bool said] 116)).drew W.heap.size 28 M := (Lies.new W _ M).alloc _
  have hrX := own_later HR.out hX
  have hnw := new_cells (W.alloc (.cells M 28)) 116 [.slice (some ⟨g, o, none⟩) n c, .slice (some ⟨W.heap.size, 0, none⟩) n n, .bool said] (N := W.heap.size + 1) (by simp)
  have hone : ∀ u ∈ [Value.slice (some ⟨g, o, none⟩) n c, .slice (some ⟨W.heap.size, 0, none⟩) n n, .bool said], u.oneCell' = true := by simp [Value.oneCell']
  have hpo : ∀ q, Value.ownBlock (.slice At kt ct) = some q → B ≤ q ∧ q < w.heap.size := own_block HR.out
  have HX := Lib.hid hX
  have HLX := Lib.hid lX
  have HMX := Lib.hid mX
  have HRX := Lib.hid hrX
  have HNW := Lib.hid hnw
  have HONE := Lib.hid hone
  have HPO := Lib.hid hpo
  clear hX lX mX hrX hnw hone hpo
  go_wp2_with (at_builtin; go_loud (refine wpList_append_own_at _ rfl (.tmp 49) (.tmp 54) 83 rfl B 116 i0 _ 3 56 Try.underlying83 hi hz0 hz1 hz2 rfl (by decide) _ k tc rfl HRX.out ⟨W.heap.size + 1, 0, none⟩ 1 1 [.slice (some ⟨g, o, none⟩) n c, .slice (some ⟨W.heap.size, 0, none⟩) n n, .bool said] rfl rfl HNW.out HONE.out (by unfold maxLen; omega) (by omega) (by have := HX.out.size; omega) ?_); intro v' w5 hown hgr hnil hat; have l5 := HLX.out.grown hgr (by intro e; have := (HPO.out p e.symm).1; omega); have p5 := l5.cell 3; have f5 := l5.free 3; have lt5 := l5.lt; have HOWN := Lib.hid hown; obtain ⟨A6, k6, c6, rfl⟩ := own_slice hown; have HAT := Lib.hid hat; clear hown hnil hat)
  go_ret
  have hWs := HB1.out.size
  have hXs : ((W.alloc (.cells M 28)).alloc (.cells #[.slice (some ⟨g, o, none⟩) n c, .slice (some ⟨W.heap.size, 0, none⟩) n n, .bool said] 116)).drew.heap.size = W.heap.size + 2 := by simp
  refine ⟨W.heap.size, .slice A6 k6 c6, M, rfl, by omega, ?_, HMS.out, ⟨l5.set 3 _, ?_⟩, ?_, ?_, ?_⟩
  · exact (HMX.out.grown hgr (by intro e; have := (HPO.out _ e.symm).2; omega)).far (p := ⟨p, 3, none⟩) (by show W.heap.size ≠ p; omega) _
  · exact own_same HOWN.out fun i hi _ => Below.heap_setCell _ ⟨p, 3, none⟩ _ i (by show i ≠ p; omega)
  · intro e
    rcases HAT.out with h | h
    · rw [h] at e
      have := (HPO.out _ e).2
      omega
    · rw [h, hXs] at e
      injection e with e
      omega
  · rcases HAT.out with h | h
    · exact .inl h
    · exact .inr ⟨_, h, by rw [hXs]; omega⟩
  · refine ⟨hgr.os.trans HX.out.os, hgr.tape.trans HX.out.tape, hgr.output.trans HX.out.output, ?_, fun i h1 h2 h3 => ?_⟩
    · have := hgr.size
      have := HX.out.size
      rw [World.size_setCell]
      omega
    · exact (Below.heap_setCell _ ⟨p, 3, none⟩ _ i h2).trans ((hgr.block i (by rw [hXs]; omega) (fun e => h3 e.symm)).trans (HX.out.block i h1))
theorem args_none (w : World) (p : Nat) (kv : Value) (hkv : SlR kv 0) (said : Bool) :
    Calls Try.prog 74 #[.pointer (some ⟨p, 0, none⟩), kv, .bool said] w fun e w' => e = .returned (.slice none 0 0) ∧ w' = w := by
  obtain ⟨A, c, rfl, _, _⟩ := hkv.form
  go_enter Try.func74, Try.ntmps74
  go_wp2
  go_ret
  exact ⟨rfl, rfl⟩
end Go.Proofs.Ytclaabnjokkbjaa

/- Package scheme: later puts down two lists, which were not met. -/
namespace Go.Proofs.Ytclaabnjokkbjaa
open Go.RowKit

/-- The matcher's cells. -/
def matC (s1 s2 : Value) (l : List Value) (bk br : Nat) (v1 v2 td : Value) (bm : Nat) : Array Value :=
  (s1 :: s2 :: (l ++ [.map (some bk), .map (some br), v1, v2, td, .map (some bm)])).toArray
/-- Two lists that are to do. -/
structure Pr where
  fv : Value
  tv : Value
def prC (k : Pr) : List Value := [k.fv, k.tv]
theorem info_lists : (Try.prog.info? 129).map (fun i => (i.zero, i.size, i.bytes)) = some (some (.agg #[.slice none 0 0, .slice none 0 0]), 2, 48) := by kernel_rfl
theorem prC_len (ks : List Pr) : (ks.flatMap prC).length = ks.length * 2 := by
  induction ks with
  | nil => rfl
  | cons k r ih => rw [List.flatMap_cons, List.length_append, ih, List.length_cons]; simp [prC]; omega
/-- The matcher, what is to do, and what was met. -/
structure MtS (W : World) (p bm B : Nat) (s1 s2 : Value) (l : List Value) (bk br : Nat) (v1 v2 td : Value) (k : Nat) (tc : List Value) (L : List Nat) : Prop where
  at_ : Lies W p 97 (matC s1 s2 l bk br v1 v2 td bm)
  row : W.ownsRow B 129 2 td k tc
  met : KeyM W bm (L.map fun g => ⟨g, 0, none⟩)
/-- What later leaves alone. -/
structure Chg2 (p bm : Nat) (td : Value) (w w' : World) : Prop where
  os : w'.os = w.os
  tape : w'.tape = w.tape
  output : w'.output = w.output
  size : w.heap.size ≤ w'.heap.size
  block : ∀ i, i < w.heap.size → i ≠ p → i ≠ bm → td.ownBlock ≠ some i → w'.heap[i]? = w.heap[i]?
theorem Chg2.of_below {p bm : Nat} {td : Value} {w w' : World} (h : Below w.heap.size w w') : Chg2 p bm td w w' := ⟨h.os, h.tape, h.output, h.size, fun i hi _ _ _ => h.block i hi⟩
def LatEnd (w : World) (p bm B : Nat) (s1 s2 : Value) (l : List Value) (bk br : Nat) (v1 v2 td : Value) (k : Nat) (tc : List Value) (L : List Nat) (g : Nat) (fv tv : Value) (e : Ending) (w' : World) : Prop :=
  ∃ td', e = .returned (.tuple #[]) ∧ MtS w' p bm B s1 s2 l bk br v1 v2 td' (k + 1) (tc ++ [fv, tv]) (L ++ [g]) ∧ (td'.ownBlock = td.ownBlock ∨ ∃ b, td'.ownBlock = some b ∧ w.heap.size ≤ b) ∧ Chg2 p bm td w w'
set_option maxRecDepth 100000 in
set_option maxHeartbeats 4000000 in
theorem later_any (w : World) (p bm B : Nat) (s1 s2 : Value) (l : List Value) (hl6 : l.length = 6) (bk br : Nat) (v1 v2 td : Value) (k : Nat) (tc : List Value) (L : List Nat) (hp : p < B) (hbm : bm < B) (hpm : p ≠ bm) (hB : B ≤ w.heap.size) (h : MtS w p bm B s1 s2 l bk br v1 v2 td k tc L) (hk : k ≤ 1000000)
    (hLp : ∀ x ∈ L, x ≠ p ∧ x ≠ bm ∧ td.ownBlock ≠ some x) (g n : Nat) (hg : AtCells w ⟨g, 0, none⟩) (hgp : g ≠ p ∧ td.ownBlock ≠ some g) (hgL : g ∉ L) (h0 : 0 < n) (hn : n ≤ 1000000) (tv : Value) (m : Nat) (htv : SlR tv m) (hm : 0 < m) (hmm : m ≤ 1000000) :
    Calls Try.prog 78 #[.pointer (some ⟨p, 0, none⟩), .slice (some ⟨g, 0, none⟩) n n, tv] w (LatEnd w p bm B s1 s2 l bk br v1 v2 td k tc L g (.slice (some ⟨g, 0, none⟩) n n) tv) := by
  obtain ⟨A, c, rfl, hc, ha⟩ := htv.form
  obtain ⟨g2, o2, rfl⟩ := ha hm
  obtain ⟨hl, hrow, hmet⟩ := h
  obtain ⟨i0, hi, hz0, hz1, hz2⟩ := info_parts info_lists
  obtain ⟨x0, x1, x2, x3, x4, x5, rfl⟩ : ∃ a b c d e f, l = [a, b, c, d, e, f] := by
    match l, hl6 with
    | [a, b, c, d, e, f], _ => exact ⟨a, b, c, d, e, f, rfl⟩
  have hlp := hl.lt
  obtain ⟨W, hW⟩ : ∃ W, W = (w.alloc (.cells #[.pointer (some ⟨g, 0, none⟩), .pointer (some ⟨g2, o2, none⟩), .int .i64 (n : Int)] 154)).drew := ⟨_, rfl⟩
  have hb1 : Below w.heap.size w W := by rw [hW]; exact (below_new w _).drew
  have n1 : Lies W w.heap.size 154 #[.pointer (some ⟨g, 0, none⟩), .pointer (some ⟨g2, o2, none⟩), .int .i64 (n : Int)] := by rw [hW]; exact Lies.new w _ _
  have hsW : W.heap.size = w.heap.size + 1 := by rw [hW]; simp
  have HW := Lib.hid hW
  have HB1 := Lib.hid hb1
  have HN1 := Lib.hid n1
  have HSW := Lib.hid hsW
  have HL := Lib.hid hl
  have HR := Lib.hid hrow
  have HM := Lib.hid hmet
  have HG := Lib.hid hg
  clear hW hb1 n1 hsW hl hrow hmet hg htv ha
  have h0' : ((n : Int) == 0) = false := by simp; omega
  have hm0' : ((m : Int) == 0) = false := by simp; omega
  have hin : (0 : Int) < (n : Int) := by omega
  have him : (0 : Int) < (m : Int) := by omega
  go_enter Try.func78, Try.ntmps78
  go_wp2_with fail
  go_region_held3 (fun _ => True) (exact trivial) (fail)
  rw [← HW.out]
  have l1 := HL.out.later HB1.out
  have e13 : W.cell? ⟨p, 13, none⟩ = some (.map (some bm)) := l1.cell 13
  have b0 := HN1.out.cell 0
  have b1 := HN1.out.cell 1
  have b2 := HN1.out.cell 2
  have hKW := HM.out.later HB1.out
  have hgn : (⟨g, 0, none⟩ : Addr) ∉ L.map fun g => (⟨g, 0, none⟩ : Addr) := fun hm => by
    obtain ⟨x, hx, e⟩ := List.mem_map.1 hm
    injection e with e
    exact hgL (e ▸ hx)
  have hlk : ∀ V, Below W.heap.size W V → (Instr.lookup 94 (.map (some bm)) (.agg #[.pointer (some ⟨g, 0, none⟩), .pointer (some ⟨g2, o2, none⟩), .int .i64 (n : Int)]) true).run Try.prog V = .ok (.tuple #[.agg #[], .bool false]) V := fun V hV => (hKW.later hV).lookup _ _ _ ((HG.out.keep (HB1.out.block _ HG.out.lt)).keep (hV.block _ (Nat.lt_of_lt_of_le HG.out.lt HB1.out.size))) hgn
  have hS : ∀ V, Below W.heap.size W V → (V.cell? ⟨p, 13, none⟩ = some (.map (some bm)) ∧ V.cell? ⟨w.heap.size, 0, none⟩ = some (.pointer (some ⟨g, 0, none⟩)) ∧ V.cell? ⟨w.heap.size, 1, none⟩ = some (.pointer (some ⟨g2, o2, none⟩)) ∧ V.cell? ⟨w.heap.size, 2, none⟩ = some (.int .i64 (n : Int))) ∧ (Instr.lookup 94 (.map (some bm)) (.agg #[.pointer (some ⟨g, 0, none⟩), .pointer (some ⟨g2, o2, none⟩), .int .i64 (n : Int)]) true).run Try.prog V = .ok (.tuple #[.agg #[], .bool false]) V := fun V hV =>
    ⟨⟨(hV.cell (p := ⟨p, 13, none⟩) l1.lt).trans e13, (hV.cell (p := ⟨w.heap.size, 0, none⟩) HN1.out.lt).trans b0, (hV.cell (p := ⟨w.heap.size, 1, none⟩) HN1.out.lt).trans b1, (hV.cell (p := ⟨w.heap.size, 2, none⟩) HN1.out.lt).trans b2⟩, hlk V hV⟩
  have HS := Lib.hid hS
  have HGN := Lib.hid hgn
  clear hS hlk hKW hgn e13 b0 b1 b2 l1
  go_wp2_with fail
  go_region_held3 (fun V => (V.cell? ⟨p, 13, none⟩ = some (.map (some bm)) ∧ V.cell? ⟨w.heap.size, 0, none⟩ = some (.pointer (some ⟨g, 0, none⟩)) ∧ V.cell? ⟨w.heap.size, 1, none⟩ = some (.pointer (some ⟨g2, o2, none⟩)) ∧ V.cell? ⟨w.heap.size, 2, none⟩ = some (.int .i64 (n : Int))) ∧ (Instr.lookup 94 (.map (some bm)) (.agg #[.pointer (some ⟨g, 0, none⟩), .pointer (some ⟨g2, o2, none⟩), .int .i64 (n : Int)]) true).run Try.prog V = .ok (.tuple #[.agg #[], .bool false]) V)
    (first | with_reducible exact HS.out _ (Below.refl _ _).drew | exact HS.out _ (below_new _ _).drew) (fail)
  all_goals
    obtain ⟨X, hX⟩ : ∃ X, X = (W.alloc (.cells #[] 117)).drew := ⟨_, rfl⟩
    have hbX : Below W.heap.size W X := by rw [hX]; exact (below_new W _).drew
    have hsX : X.heap.size = W.heap.size + 1 := by rw [hX]; simp
    have HX := Lib.hid hX
    rw [← HX.out]
    have hBX : Below w.heap.size w X := HB1.out.trans (hbX.mono HB1.out.size)
    have lX := HL.out.later hBX
    have lY := HN1.out.later hbX
    have e13 : X.drew.cell? ⟨p, 13, none⟩ = some (.map (some bm)) := lX.cell 13
    have b0 : X.drew.cell? ⟨w.heap.size, 0, none⟩ = _ := lY.cell 0
    have b1 : X.drew.cell? ⟨w.heap.size, 1, none⟩ = _ := lY.cell 1
    have b2 : X.drew.cell? ⟨w.heap.size, 2, none⟩ = _ := lY.cell 2
    have hKX : KeyM X.drew bm (L.map fun g => ⟨g, 0, none⟩) := HM.out.later hBX.drew
    have hGX : AtCells X.drew ⟨g, 0, none⟩ := HG.out.keep (hBX.block _ HG.out.lt)
    have HKX := Lib.hid hKX
    have HGX := Lib.hid hGX
    have HBX := Lib.hid hBX
    have HSX := Lib.hid hsX
    clear hX hbX hsX lX lY hKX hGX hBX
    go_wp2_with fail
    go_still_tail 6, (by kernel_rfl)
    change wpList _ _ _ _ _ X.drew
    obtain ⟨At, kt, ct, rfl⟩ := own_slice HR.out
    have hpo : ∀ q, Value.ownBlock (.slice At kt ct) = some q → B ≤ q ∧ q < w.heap.size := own_block HR.out
    have HPO := Lib.hid hpo
    clear hpo
    go_wp2_with (first | (at_mapUpdate; go_loud (refine wpList_update_keys _ rfl (.tmp 38) (.tmp 39) (.tmp 40) rfl rfl HKX.out ⟨g, 0, none⟩ ⟨g2, o2, none⟩ (n : Int) rfl rfl HGX.out HGN.out ?_); intro w3 hM3 hg3 hs3; have l3 := (HL.out.later HBX.out.drew).grown hg3 (fun e => by injection e with e; omega); have e12 : w3.cell? ⟨p, 12, none⟩ = some (.slice At kt ct) := l3.cell 12; have hr3 : w3.ownsRow B 129 2 (.slice At kt ct) k tc := own_same (own_later HR.out HBX.out.drew) (fun i hi hlt => hg3.block i hlt (fun e => by injection e with e; omega)); have HM3 := Lib.hid hM3; have HG3 := Lib.hid hg3; have HS3 := Lib.hid hs3; have HL3 := Lib.hid l3; have HR3 := Lib.hid hr3; have HNW := Lib.hid (new_cells w3 129 [.slice (some ⟨g, 0, none⟩) n n, .slice (some ⟨g2, o2, none⟩) m c] (N := w3.heap.size) rfl); clear hM3 hg3 hs3 l3 hr3) | (at_builtin; go_loud (refine wpList_append_own_at _ rfl (.tmp 45) (.tmp 49) 95 rfl B 129 i0 _ 2 48 Try.underlying95 hi hz0 hz1 hz2 rfl (by decide) _ k tc rfl (own_later HR3.out (below_new w3 _)) ⟨w3.heap.size, 0, none⟩ 1 1 [.slice (some ⟨g, 0, none⟩) n n, .slice (some ⟨g2, o2, none⟩) m c] rfl rfl HNW.out (by simp [Value.oneCell']) (by unfold maxLen; omega) (by omega) (by have h1 := HBX.out.size; have h2 : w3.heap.size = X.heap.size := HS3.out; simp; omega) ?_); intro v' w5 hown hgr hnil hat; have l5 := (HL3.out.alloc _).grown hgr (by intro e; have := (HPO.out p e.symm).1; omega); have p5 := l5.cell 12; have f5 := l5.free 12; have lt5 := l5.lt; have HOWN := Lib.hid hown; obtain ⟨A6, k6, c6, rfl⟩ := own_slice hown; have HAT := Lib.hid hat; clear hown hnil hat))
    go_end0
    have h3 : w3.heap.size = X.heap.size := HS3.out
    have hx1 := HBX.out.size
    have hx2 := HSX.out
    have hx3 := HSW.out
    have hXb : ∀ i, i < w.heap.size → X.heap[i]? = w.heap[i]? := fun i hi => HBX.out.block i hi
    have h3b : ∀ i, i < X.heap.size → i ≠ bm → w3.heap[i]? = X.heap[i]? := fun i hi hn => HG3.out.block i hi (fun e => hn (Option.some.inj e))
    have h5b : ∀ i, i < w3.heap.size → Value.ownBlock (.slice At kt ct) ≠ some i → w5.heap[i]? = w3.heap[i]? := fun i hi hn => (hgr.block i (Nat.lt_of_lt_of_le hi (by simp)) (fun e => hn e.symm)).trans ((below_new w3 _).block i hi)
    have h6b : ∀ i, i ≠ p → (w5.setCell ⟨p, 12, none⟩ (.slice A6 k6 c6)).heap[i]? = w5.heap[i]? := fun i hi => Below.heap_setCell _ ⟨p, 12, none⟩ _ i hi
    refine ⟨.slice A6 k6 c6, rfl, ⟨l5.set 12 _, ?_, ?_⟩, ?_, ?_⟩
    · exact own_same HOWN.out fun i hi _ => h6b i (by omega)
    · have hmp : ∀ x ∈ L.map (fun g => (⟨g, 0, none⟩ : Addr)) ++ [⟨g, 0, none⟩], x.block ≠ p ∧ Value.ownBlock (.slice At kt ct) ≠ some x.block := fun x hx => by
        rcases List.mem_append.1 hx with hx | hx
        · obtain ⟨y, hy, rfl⟩ := List.mem_map.1 hx
          exact ⟨(hLp y hy).1, (hLp y hy).2.2⟩
        · rw [List.mem_singleton.1 hx]
          exact ⟨hgp.1, hgp.2⟩
      rw [List.map_append]
      exact HM3.out.keep ((h6b bm (fun e => hpm e.symm)).trans (h5b bm HM3.out.lt (fun e => by have := (HPO.out bm e).1; omega))) fun x hx => (h6b _ (hmp x hx).1).trans (h5b _ (HM3.out.2 x hx).lt (hmp x hx).2)
    · rcases HAT.out with h | h
      · exact .inl h
      · exact .inr ⟨_, h, by simp; omega⟩
    · refine ⟨?_, ?_, ?_, ?_, fun i h1 h2 h4 h7 => ?_⟩
      · exact (hgr.os.trans (below_new w3 _).os).trans (HG3.out.os.trans HBX.out.os)
      · exact (hgr.tape.trans (below_new w3 _).tape).trans (HG3.out.tape.trans HBX.out.tape)
      · exact (hgr.output.trans (below_new w3 _).output).trans (HG3.out.output.trans HBX.out.output)
      · have := hgr.size
        rw [World.size_setCell]
        simp at this
        omega
      · exact (h6b i h2).trans ((h5b i (by omega) h7).trans ((h3b i (by omega) h4).trans (hXb i h1)))
theorem later_none (w : World) (p : Nat) (fv tv : Value) (n m : Nat) (hf : SlR fv n) (ht : SlR tv m) (h : n = 0 ∨ m = 0) :
    Calls Try.prog 78 #[.pointer (some ⟨p, 0, none⟩), fv, tv] w fun e w' => e = .returned (.tuple #[]) ∧ w' = w := by
  obtain ⟨A, c, rfl, _, _⟩ := hf.form
  obtain ⟨A2, c2, rfl, _, _⟩ := ht.form
  by_cases h0 : n = 0
  · subst h0
    go_enter Try.func78, Try.ntmps78
    go_wp2
    refine bodyPost_ret (results_none rfl _ _ _) rfl ?_
    exact ⟨rfl, rfl⟩
  · obtain rfl : m = 0 := by omega
    have h0' : ((n : Int) == 0) = false := by simp; omega
    go_enter Try.func78, Try.ntmps78
    go_wp2
    refine bodyPost_ret (results_none rfl _ _ _) rfl ?_
    exact ⟨rfl, rfl⟩
end Go.Proofs.Ytclaabnjokkbjaa
