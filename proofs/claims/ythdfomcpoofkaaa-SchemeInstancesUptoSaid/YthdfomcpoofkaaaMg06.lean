/- args: a list of what becomes of some types, which are still to do. -/
import Derived.Test.YthdfomcpoofkaaaMg05
import Derived.Test.YthdfomcpoofkaaaMg00
import Derived.Test.YthdfomcpoofkaaaProg
import Derived.Laws.MakeOwn
import Derived.Outline
import Derived.OwnWalk
import Derived.StillTailTactics
import Derived.Deep.RegionHeld3
import Derived.Shelf.Sort.Plain
import Derived.Shelf.Slices.Equal
import Derived.Shelf.Slices.Empties2
import Derived.Laws.CopyOwn
import Derived.Sort.OwnSorted
namespace Go.Proofs.Ythdfomcpoofkaaa
open Go.RowKit

set_option maxRecDepth 100000 in
theorem look_nil (w : World) (a : Addr) (n : Int) (s : Bool) : (Instr.lookup 82 (.map none) (.agg #[.pointer (some a), .int .i64 n, .bool s]) true).run Try.prog w = .ok (.tuple #[.slice none 0 0, .bool false]) w := by
  kernel_rfl
theorem eq_nil (w : World) : (binOp BinOp.neq 82 (.map none) (.map none)).run Try.prog w = .ok (.bool false) w := by
  kernel_rfl
theorem info_task : (Try.prog.info? 116).map (fun i => (i.zero, i.size, i.bytes)) = some (some (.agg #[.slice none 0 0, .slice none 0 0, .bool false]), 3, 56) := by kernel_rfl
theorem info_type : (Try.prog.info? 28).map (fun i => (i.zero, i.size, i.bytes)) = some (some (.agg zeroT), 6, 88) := by kernel_rfl
theorem made_size (z : Array Value) (n : Nat) : (madeCells z n).size = n := size_madeCells _ _
theorem run_mkT (w : World) (n : Nat) (hn : n ≤ 1000000) : (Instr.makeSlice 23 (.int .i64 (n : Int)) (.int .i64 (n : Int))).run Try.prog w = .ok (.slice (some ⟨w.heap.size, 0, none⟩) n n) (w.alloc (.cells (madeCells zeroT (n * 6)) 28)) := by
  obtain ⟨i0, hi, hz0, hz1, hz2⟩ := info_parts info_type
  have h := run_makeSlice w 23 28 i0 _ Try.underlying23 hi hz0 .i64 .i64 n n (by omega) (by omega) (by rw [hz1]; simp; omega) (by rw [hz2]; omega) (by omega)
  rw [hz1] at h
  simpa [Value.cells] using h
/-- The applier, which keeps nothing, and what it has still to do. -/
structure ApS (w : World) (p B : Nat) (vt vr td : Value) (k : Nat) (tc : List Value) : Prop where
  at_ : Lies w p 85 #[vt, vr, .map none, td]
  row : w.ownsRow B 116 3 td k tc
/-- What a turn of the applier leaves alone. -/
structure Chg (p : Nat) (td : Value) (w w' : World) : Prop where
  os : w'.os = w.os
  tape : w'.tape = w.tape
  output : w'.output = w.output
  size : w.heap.size ≤ w'.heap.size
  block : ∀ i, i < w.heap.size → i ≠ p → td.ownBlock ≠ some i → w'.heap[i]? = w.heap[i]?
theorem Chg.of_below {p : Nat} {td : Value} {w w' : World} (h : Below w.heap.size w w') : Chg p td w w' := ⟨h.os, h.tape, h.output, h.size, fun i hi _ _ => h.block i hi⟩
theorem Chg.trans {p : Nat} {td td' : Value} {a b c : World} (h : Chg p td a b) (k : Chg p td' b c) (ht : td'.ownBlock = td.ownBlock ∨ ∃ g, td'.ownBlock = some g ∧ a.heap.size ≤ g) : Chg p td a c :=
  ⟨k.os.trans h.os, k.tape.trans h.tape, k.output.trans h.output, Nat.le_trans h.size k.size, fun i hi hp hn => (k.block i (Nat.lt_of_lt_of_le hi h.size) hp (by
    rcases ht with e | ⟨g, e, hg⟩
    · rw [e]; exact hn
    · rw [e]; intro e2; injection e2 with e2; omega)).trans (h.block i hi hp hn)⟩
/-- What args leaves, if there is something to do. -/
def ArgsEnd (w : World) (p B : Nat) (vt vr td : Value) (k : Nat) (tc : List Value) (kv : Value) (n : Nat) (said : Bool) (e : Ending) (w' : World) : Prop :=
  ∃ G td' cur, e = .returned (.slice (some ⟨G, 0, none⟩) n n) ∧ w.heap.size ≤ G ∧ Lies w' G 28 cur ∧ cur.size = n * 6 ∧
    ApS w' p B vt vr td' (k + 1) (tc ++ [kv, .slice (some ⟨G, 0, none⟩) n n, .bool said]) ∧ td'.ownBlock ≠ some G ∧ (td'.ownBlock = td.ownBlock ∨ ∃ b, td'.ownBlock = some b ∧ w.heap.size ≤ b) ∧ Chg p td w w'
set_option maxRecDepth 100000 in
set_option maxHeartbeats 4000000 in
theorem args_any (w : World) (p B : Nat) (vt vr td : Value) (k : Nat) (tc : List Value) (hp : p < B) (hB : B ≤ w.heap.size) (h : ApS w p B vt vr td k tc) (hk : k ≤ 1000000) (kv : Value) (n : Nat) (hkv : SlR kv n) (h0 : 0 < n) (hn : n ≤ 1000000) (said : Bool) :
    Calls Try.prog 74 #[.pointer (some ⟨p, 0, none⟩), kv, .bool said] w (ArgsEnd w p B vt vr td k tc kv n said) := by
  obtain ⟨A, c, rfl, hc, ha⟩ := hkv.form
  obtain ⟨g, o, rfl⟩ := ha h0
  obtain ⟨hl, hrow⟩ := h
  obtain ⟨i0, hi, hz0, hz1, hz2⟩ := info_parts info_task
  have hmk := fun W => run_mkT W n hn
  obtain ⟨M, hM⟩ : ∃ M, M = madeCells zeroT (n * 6) := ⟨_, rfl⟩
  rw [← hM] at hmk
  have hMs : M.size = n * 6 := by rw [hM]; exact made_size _ _
  have hln := fun W => look_nil W ⟨g, o, none⟩ (n : Int) said
  have heq := eq_nil
  have hlp := hl.lt
  have hb1 := below_new w (.cells #[.pointer (some ⟨g, o, none⟩), .int .i64 (n : Int), .bool said] 150)
  have l1 := hl.later hb1
  have n1 := Lies.new w 150 #[.pointer (some ⟨g, o, none⟩), .int .i64 (n : Int), .bool said]
  obtain ⟨W, hW⟩ : ∃ W, W = w.alloc (.cells #[.pointer (some ⟨g, o, none⟩), .int .i64 (n : Int), .bool said] 150) := ⟨_, rfl⟩
  rw [← hW] at hb1 l1 n1
  have a2 := l1.cell 2
  have b0 := n1.cell 0
  have b1 := n1.cell 1
  have b2 := n1.cell 2
  have HW := Lib.hid hW
  have HB1 := Lib.hid hb1
  have HL1 := Lib.hid l1
  have HR := Lib.hid hrow
  have HMS := Lib.hid hMs
  clear hM hMs hl hb1 l1 hrow hkv ha hW n1
  have h0' : ((n : Int) == 0) = false := by simp; omega
  have hin : (0 : Int) < (n : Int) := by omega
  go_enter Try.func74, Try.ntmps74
  go_wp2_with fail
  rw [← HW.out]
  have hS : W.cell? ⟨p, 2, none⟩ = some (.map none) ∧ W.cell? ⟨w.heap.size, 0, none⟩ = some (.pointer (some ⟨g, o, none⟩)) ∧ W.cell? ⟨w.heap.size, 1, none⟩ = some (.int .i64 (n : Int)) ∧ W.cell? ⟨w.heap.size, 2, none⟩ = some (.bool said) := ⟨a2, b0, b1, b2⟩
  go_region_held3 (fun V => V.cell? ⟨p, 2, none⟩ = some (.map none) ∧ V.cell? ⟨w.heap.size, 0, none⟩ = some (.pointer (some ⟨g, o, none⟩)) ∧ V.cell? ⟨w.heap.size, 1, none⟩ = some (.int .i64 (n : Int)) ∧ V.cell? ⟨w.heap.size, 2, none⟩ = some (.bool said)) (exact hS) (fail)
  have l2 := HL1.out.later (below_new W (.cells M 28)).drew
  have p2 := l2.cell 2
  have p3 := l2.cell 3
  have hW1 := HL1.out.lt
  obtain ⟨At, kt, ct, rfl⟩ := own_slice HR.out
  have hX : Below w.heap.size w ((W.alloc (.cells M 28)).alloc (.cells #[.slice (some ⟨g, o, none⟩) n c, .slice (some ⟨W.heap.size, 0, none⟩) n n, .bool said] 116)).drew := ((HB1.out.alloc HB1.out.size _).alloc (by have := HB1.out.size; simp; omega) _).drew
  have lX : Lies ((W.alloc (.cells M 28)).alloc (.cells #[.slice (some ⟨g, o, none⟩) n c, .slice (some ⟨W.heap.size, 0, none⟩) n n, .bool said] 116)).drew p 85 #[vt, vr, .map none, .slice At kt ct] := (HL1.out.alloc _).alloc _
  have mX : Lies ((W.alloc (.cells M 28)).alloc (.cells #[.slice (some ⟨g, o, none⟩) n c, .slice (some ⟨W.heap.size, 0, none⟩) n n, .bool said] 116)).drew W.heap.size 28 M := (Lies.new W _ M).alloc _
  have hrX := own_later HR.out hX
  have hnw := new_cells (W.alloc (.cells M 28)) 116 [.slice (some ⟨g, o, none⟩) n c, .slice (some ⟨W.heap.size, 0, none⟩) n n, .bool said] (N := W.heap.size + 1) (by simp)
  have hone : ∀ u ∈ [Value.slice (some ⟨g, o, none⟩) n c, .slice (some ⟨W.heap.size, 0, none⟩) n n, .bool said], u.oneCell' = true := by simp [Value.oneCell']
  have hpo : ∀ q, Value.ownBlock (.slice At kt ct) = some q → B ≤ q ∧ q < w.heap.size := own_block HR.out
  have HX := Lib.hid hX
  have HLX := Lib.hid lX
  have HMX := Lib.hid mX
  have HRX := Lib.hid hrX
  have HNW := Lib.hid hnw
  have HONE := Lib.hid hone
  have HPO := Lib.hid hpo
  clear hX lX mX hrX hnw hone hpo
  go_wp2_with (at_builtin; go_loud (refine wpList_append_own_at _ rfl (.tmp 49) (.tmp 54) 83 rfl B 116 i0 _ 3 56 Try.underlying83 hi hz0 hz1 hz2 rfl (by decide) _ k tc rfl HRX.out ⟨W.heap.size + 1, 0, none⟩ 1 1 [.slice (some ⟨g, o, none⟩) n c, .slice (some ⟨W.heap.size, 0, none⟩) n n, .bool said] rfl rfl HNW.out HONE.out (by unfold maxLen; omega) (by omega) (by have := HX.out.size; omega) ?_); intro v' w5 hown hgr hnil hat; have l5 := HLX.out.grown hgr (by intro e; have := (HPO.out p e.symm).1; omega); have p5 := l5.cell 3; have f5 := l5.free 3; have lt5 := l5.lt; have HOWN := Lib.hid hown; obtain ⟨A6, k6, c6, rfl⟩ := own_slice hown; have HAT := Lib.hid hat; clear hown hnil hat)
  go_ret
  have hWs := HB1.out.size
  have hXs : ((W.alloc (.cells M 28)).alloc (.cells #[.slice (some ⟨g, o, none⟩) n c, .slice (some ⟨W.heap.size, 0, none⟩) n n, .bool said] 116)).drew.heap.size = W.heap.size + 2 := by simp
  refine ⟨W.heap.size, .slice A6 k6 c6, M, rfl, by omega, ?_, HMS.out, ⟨l5.set 3 _, ?_⟩, ?_, ?_, ?_⟩
  · exact (HMX.out.grown hgr (by intro e; have := (HPO.out _ e.symm).2; omega)).far (p := ⟨p, 3, none⟩) (by show W.heap.size ≠ p; omega) _
  · exact own_same HOWN.out fun i hi _ => Below.heap_setCell _ ⟨p, 3, none⟩ _ i (by show i ≠ p; omega)
  · intro e
    rcases HAT.out with h | h
    · rw [h] at e
      have := (HPO.out _ e).2
      omega
    · rw [h, hXs] at e
      injection e with e
      omega
  · rcases HAT.out with h | h
    · exact .inl h
    · exact .inr ⟨_, h, by rw [hXs]; omega⟩
  · refine ⟨hgr.os.trans HX.out.os, hgr.tape.trans HX.out.tape, hgr.output.trans HX.out.output, ?_, fun i h1 h2 h3 => ?_⟩
    · have := hgr.size
      have := HX.out.size
      rw [World.size_setCell]
      omega
    · exact (Below.heap_setCell _ ⟨p, 3, none⟩ _ i h2).trans ((hgr.block i (by rw [hXs]; omega) (fun e => h3 e.symm)).trans (HX.out.block i h1))
theorem args_none (w : World) (p : Nat) (kv : Value) (hkv : SlR kv 0) (said : Bool) :
    Calls Try.prog 74 #[.pointer (some ⟨p, 0, none⟩), kv, .bool said] w fun e w' => e = .returned (.slice none 0 0) ∧ w' = w := by
  obtain ⟨A, c, rfl, _, _⟩ := hkv.form
  go_enter Try.func74, Try.ntmps74
  go_wp2
  go_ret
  exact ⟨rfl, rfl⟩
end Go.Proofs.Ythdfomcpoofkaaa

/- Package scheme: sets of numbers. -/
namespace Go.Proofs.Ythdfomcpoofkaaa
open Go.RowKit

/-- A list of numbers as it lies. -/
def IntR (w : World) (v : Value) (L : List Int) : Prop :=
  ∃ A c, v = .slice A L.length c ∧ L.length ≤ c ∧ c ≤ maxLen ∧ ∀ (i : Nat) n, L[i]? = some n → i64ok n ∧ ∃ g o, A = some ⟨g, o, none⟩ ∧ w.cell? ⟨g, o + i, none⟩ = some (.int .i64 n)
theorem IntR.nil (w : World) : IntR w (.slice none 0 0) [] := ⟨none, 0, rfl, Nat.le_refl _, by unfold maxLen; omega, fun i n h => by cases h⟩
theorem IntR.later {w w' : World} {v : Value} {L : List Int} (h : IntR w v L) (hb : Below w.heap.size w w') : IntR w' v L := by
  obtain ⟨A, c, h1, h2, h3, h4⟩ := h
  refine ⟨A, c, h1, h2, h3, fun i n hi => ?_⟩
  obtain ⟨h0, g, o, h5, h6⟩ := h4 i n hi
  exact ⟨h0, g, o, h5, (World.cell?_of_block (w := w) (a := ⟨g, o + i, none⟩) (hb.block g (World.block_lt_of_cell? w _ h6))).trans h6⟩
theorem IntR.of_own {w : World} {B : Nat} {v : Value} {L : List Int} (h : w.ownsRow B 3 1 v L.length (L.map fun i => .int .i64 i)) (hL : ∀ n ∈ L, i64ok n) : IntR w v L := by
  rcases own_cells h with ⟨rfl, h0⟩ | ⟨g, cap, rfl, h1, h2, _, h3⟩
  · obtain rfl : L = [] := List.length_eq_zero_iff.1 h0
    exact IntR.nil w
  · refine ⟨_, cap, rfl, h1, h2, fun i n hi => ⟨hL n (List.mem_of_getElem? hi), g, 0, rfl, ?_⟩⟩
    have := h3 i (.int .i64 n) (by rw [List.getElem?_map, hi]; rfl)
    rwa [Nat.zero_add]
/-- A list of numbers as a set. -/
def inG (L : List Int) : GMap := fun n => if n ∈ L then some #[] else none
theorem inG_some (L : List Int) (n : Int) : (inG L n).isSome = decide (n ∈ L) := by
  unfold inG
  by_cases h : n ∈ L <;> simp [h]
theorem inG_nil : inG [] = noG := by funext n; simp [inG, noG]
theorem inG_put (L : List Int) (n : Int) : setG (inG L) n #[] = inG (L ++ [n]) := by
  funext k
  unfold setG inG
  by_cases h : k = n
  · subst h; simp
  · simp [h]
theorem inG_take (L R : List Int) (k : Nat) (n : Int) (h : R[k]? = some n) : setG (inG (L ++ R.take k)) n #[] = inG (L ++ R.take (k + 1)) := by
  rw [inG_put, take_step R k n h, List.append_assoc]
theorem fit0 : Fit1 0 #[] := ⟨rfl, by simp⟩

set_option maxRecDepth 100000 in
set_option maxHeartbeats 2000000 in
theorem has_any (w : World) (b m : Nat) (L : List Int) (n : Int) (h : MapI w 0 b m (inG L)) (hn : i64ok n) :
    Calls Try.prog 63 #[.map (some b), .int .i64 n] w fun e w' => e = .returned (.bool (decide (n ∈ L))) ∧ Below w.heap.size w w' := by
  have hzu := zero_unit w
  have hlk := h.look Try.underlying89 hzu hn
  rw [inG_some] at hlk
  have hv : lookV (.agg #[]) (inG L n) = .agg #[] := by unfold inG; split <;> rfl
  rw [hv] at hlk
  clear hv
  go_enter Try.func63, Try.ntmps63
  go_wp2_with fail
  go_ret
  exact ⟨rfl, below_new w _⟩
end Go.Proofs.Ythdfomcpoofkaaa

/- Package scheme: later puts down two lists, which were not met. -/
namespace Go.Proofs.Ythdfomcpoofkaaa
open Go.RowKit

/-- The matcher's cells. -/
def matC (s1 s2 : Value) (l : List Value) (bk br : Nat) (v1 v2 td : Value) (bm : Nat) : Array Value :=
  (s1 :: s2 :: (l ++ [.map (some bk), .map (some br), v1, v2, td, .map (some bm)])).toArray
/-- Two lists that are to do. -/
structure Pr where
  fv : Value
  tv : Value
def prC (k : Pr) : List Value := [k.fv, k.tv]
theorem info_lists : (Try.prog.info? 129).map (fun i => (i.zero, i.size, i.bytes)) = some (some (.agg #[.slice none 0 0, .slice none 0 0]), 2, 48) := by kernel_rfl
theorem prC_len (ks : List Pr) : (ks.flatMap prC).length = ks.length * 2 := by
  induction ks with
  | nil => rfl
  | cons k r ih => rw [List.flatMap_cons, List.length_append, ih, List.length_cons]; simp [prC]; omega
/-- The matcher, what is to do, and what was met. -/
structure MtS (W : World) (p bm B : Nat) (s1 s2 : Value) (l : List Value) (bk br : Nat) (v1 v2 td : Value) (k : Nat) (tc : List Value) (L : List Nat) : Prop where
  at_ : Lies W p 97 (matC s1 s2 l bk br v1 v2 td bm)
  row : W.ownsRow B 129 2 td k tc
  met : KeyM W bm (L.map fun g => ⟨g, 0, none⟩)
/-- What later leaves alone. -/
structure Chg2 (p bm : Nat) (td : Value) (w w' : World) : Prop where
  os : w'.os = w.os
  tape : w'.tape = w.tape
  output : w'.output = w.output
  size : w.heap.size ≤ w'.heap.size
  block : ∀ i, i < w.heap.size → i ≠ p → i ≠ bm → td.ownBlock ≠ some i → w'.heap[i]? = w.heap[i]?
theorem Chg2.of_below {p bm : Nat} {td : Value} {w w' : World} (h : Below w.heap.size w w') : Chg2 p bm td w w' := ⟨h.os, h.tape, h.output, h.size, fun i hi _ _ _ => h.block i hi⟩
def LatEnd (w : World) (p bm B : Nat) (s1 s2 : Value) (l : List Value) (bk br : Nat) (v1 v2 td : Value) (k : Nat) (tc : List Value) (L : List Nat) (g : Nat) (fv tv : Value) (e : Ending) (w' : World) : Prop :=
  ∃ td', e = .returned (.tuple #[]) ∧ MtS w' p bm B s1 s2 l bk br v1 v2 td' (k + 1) (tc ++ [fv, tv]) (L ++ [g]) ∧ (td'.ownBlock = td.ownBlock ∨ ∃ b, td'.ownBlock = some b ∧ w.heap.size ≤ b) ∧ Chg2 p bm td w w'
set_option maxRecDepth 100000 in
set_option maxHeartbeats 4000000 in
theorem later_any (w : World) (p bm B : Nat) (s1 s2 : Value) (l : List Value) (hl6 : l.length = 6) (bk br : Nat) (v1 v2 td : Value) (k : Nat) (tc : List Value) (L : List Nat) (hp : p < B) (hbm : bm < B) (hpm : p ≠ bm) (hB : B ≤ w.heap.size) (h : MtS w p bm B s1 s2 l bk br v1 v2 td k tc L) (hk : k ≤ 1000000)
    (hLp : ∀ x ∈ L, x ≠ p ∧ x ≠ bm ∧ td.ownBlock ≠ some x) (g n : Nat) (hg : AtCells w ⟨g, 0, none⟩) (hgp : g ≠ p ∧ td.ownBlock ≠ some g) (hgL : g ∉ L) (h0 : 0 < n) (hn : n ≤ 1000000) (tv : Value) (m : Nat) (htv : SlR tv m) (hm : 0 < m) (hmm : m ≤ 1000000) :
    Calls Try.prog 78 #[.pointer (some ⟨p, 0, none⟩), .slice (some ⟨g, 0, none⟩) n n, tv] w (LatEnd w p bm B s1 s2 l bk br v1 v2 td k tc L g (.slice (some ⟨g, 0, none⟩) n n) tv) := by
  obtain ⟨A, c, rfl, hc, ha⟩ := htv.form
  obtain ⟨g2, o2, rfl⟩ := ha hm
  obtain ⟨hl, hrow, hmet⟩ := h
  obtain ⟨i0, hi, hz0, hz1, hz2⟩ := info_parts info_lists
  obtain ⟨x0, x1, x2, x3, x4, x5, rfl⟩ : ∃ a b c d e f, l = [a, b, c, d, e, f] := by
    match l, hl6 with
    | [a, b, c, d, e, f], _ => exact ⟨a, b, c, d, e, f, rfl⟩
  have hlp := hl.lt
  obtain ⟨W, hW⟩ : ∃ W, W = (w.alloc (.cells #[.pointer (some ⟨g, 0, none⟩), .pointer (some ⟨g2, o2, none⟩), .int .i64 (n : Int)] 154)).drew := ⟨_, rfl⟩
  have hb1 : Below w.heap.size w W := by rw [hW]; exact (below_new w _).drew
  have n1 : Lies W w.heap.size 154 #[.pointer (some ⟨g, 0, none⟩), .pointer (some ⟨g2, o2, none⟩), .int .i64 (n : Int)] := by rw [hW]; exact Lies.new w _ _
  have hsW : W.heap.size = w.heap.size + 1 := by rw [hW]; simp
  have HW := Lib.hid hW
  have HB1 := Lib.hid hb1
  have HN1 := Lib.hid n1
  have HSW := Lib.hid hsW
  have HL := Lib.hid hl
  have HR := Lib.hid hrow
  have HM := Lib.hid hmet
  have HG := Lib.hid hg
  clear hW hb1 n1 hsW hl hrow hmet hg htv ha
  have h0' : ((n : Int) == 0) = false := by simp; omega
  have hm0' : ((m : Int) == 0) = false := by simp; omega
  have hin : (0 : Int) < (n : Int) := by omega
  have him : (0 : Int) < (m : Int) := by omega
  go_enter Try.func78, Try.ntmps78
  go_wp2_with fail
  go_region_held3 (fun _ => True) (exact trivial) (fail)
  rw [← HW.out]
  have l1 := HL.out.later HB1.out
  have e13 : W.cell? ⟨p, 13, none⟩ = some (.map (some bm)) := l1.cell 13
  have b0 := HN1.out.cell 0
  have b1 := HN1.out.cell 1
  have b2 := HN1.out.cell 2
  have hKW := HM.out.later HB1.out
  have hgn : (⟨g, 0, none⟩ : Addr) ∉ L.map fun g => (⟨g, 0, none⟩ : Addr) := fun hm => by
    obtain ⟨x, hx, e⟩ := List.mem_map.1 hm
    injection e with e
    exact hgL (e ▸ hx)
  have hlk : ∀ V, Below W.heap.size W V → (Instr.lookup 94 (.map (some bm)) (.agg #[.pointer (some ⟨g, 0, none⟩), .pointer (some ⟨g2, o2, none⟩), .int .i64 (n : Int)]) true).run Try.prog V = .ok (.tuple #[.agg #[], .bool false]) V := fun V hV => (hKW.later hV).lookup _ _ _ ((HG.out.keep (HB1.out.block _ HG.out.lt)).keep (hV.block _ (Nat.lt_of_lt_of_le HG.out.lt HB1.out.size))) hgn
  have hS : ∀ V, Below W.heap.size W V → (V.cell? ⟨p, 13, none⟩ = some (.map (some bm)) ∧ V.cell? ⟨w.heap.size, 0, none⟩ = some (.pointer (some ⟨g, 0, none⟩)) ∧ V.cell? ⟨w.heap.size, 1, none⟩ = some (.pointer (some ⟨g2, o2, none⟩)) ∧ V.cell? ⟨w.heap.size, 2, none⟩ = some (.int .i64 (n : Int))) ∧ (Instr.lookup 94 (.map (some bm)) (.agg #[.pointer (some ⟨g, 0, none⟩), .pointer (some ⟨g2, o2, none⟩), .int .i64 (n : Int)]) true).run Try.prog V = .ok (.tuple #[.agg #[], .bool false]) V := fun V hV =>
    ⟨⟨(hV.cell (p := ⟨p, 13, none⟩) l1.lt).trans e13, (hV.cell (p := ⟨w.heap.size, 0, none⟩) HN1.out.lt).trans b0, (hV.cell (p := ⟨w.heap.size, 1, none⟩) HN1.out.lt).trans b1, (hV.cell (p := ⟨w.heap.size, 2, none⟩) HN1.out.lt).trans b2⟩, hlk V hV⟩
  have HS := Lib.hid hS
  have HGN := Lib.hid hgn
  clear hS hlk hKW hgn e13 b0 b1 b2 l1
  go_wp2_with fail
  go_region_held3 (fun V => (V.cell? ⟨p, 13, none⟩ = some (.map (some bm)) ∧ V.cell? ⟨w.heap.size, 0, none⟩ = some (.pointer (some ⟨g, 0, none⟩)) ∧ V.cell? ⟨w.heap.size, 1, none⟩ = some (.pointer (some ⟨g2, o2, none⟩)) ∧ V.cell? ⟨w.heap.size, 2, none⟩ = some (.int .i64 (n : Int))) ∧ (Instr.lookup 94 (.map (some bm)) (.agg #[.pointer (some ⟨g, 0, none⟩), .pointer (some ⟨g2, o2, none⟩), .int .i64 (n : Int)]) true).run Try.prog V = .ok (.tuple #[.agg #[], .bool false]) V)
    (first | with_reducible exact HS.out _ (Below.refl _ _).drew | exact HS.out _ (below_new _ _).drew) (fail)
  all_goals
    obtain ⟨X, hX⟩ : ∃ X, X = (W.alloc (.cells #[] 117)).drew := ⟨_, rfl⟩
    have hbX : Below W.heap.size W X := by rw [hX]; exact (below_new W _).drew
    have hsX : X.heap.size = W.heap.size + 1 := by rw [hX]; simp
    have HX := Lib.hid hX
    rw [← HX.out]
    have hBX : Below w.heap.size w X := HB1.out.trans (hbX.mono HB1.out.size)
    have lX := HL.out.later hBX
    have lY := HN1.out.later hbX
    have e13 : X.drew.cell? ⟨p, 13, none⟩ = some (.map (some bm)) := lX.cell 13
    have b0 : X.drew.cell? ⟨w.heap.size, 0, none⟩ = _ := lY.cell 0
    have b1 : X.drew.cell? ⟨w.heap.size, 1, none⟩ = _ := lY.cell 1
    have b2 : X.drew.cell? ⟨w.heap.size, 2, none⟩ = _ := lY.cell 2
    have hKX : KeyM X.drew bm (L.map fun g => ⟨g, 0, none⟩) := HM.out.later hBX.drew
    have hGX : AtCells X.drew ⟨g, 0, none⟩ := HG.out.keep (hBX.block _ HG.out.lt)
    have HKX := Lib.hid hKX
    have HGX := Lib.hid hGX
    have HBX := Lib.hid hBX
    have HSX := Lib.hid hsX
    clear hX hbX hsX lX lY hKX hGX hBX
    go_wp2_with fail
    go_still_tail 6, (by kernel_rfl)
    change wpList _ _ _ _ _ X.drew
    obtain ⟨At, kt, ct, rfl⟩ := own_slice HR.out
    have hpo : ∀ q, Value.ownBlock (.slice At kt ct) = some q → B ≤ q ∧ q < w.heap.size := own_block HR.out
    have HPO := Lib.hid hpo
    clear hpo
    go_wp2_with (first | (at_mapUpdate; go_loud (refine wpList_update_keys _ rfl (.tmp 38) (.tmp 39) (.tmp 40) rfl rfl HKX.out ⟨g, 0, none⟩ ⟨g2, o2, none⟩ (n : Int) rfl rfl HGX.out HGN.out ?_); intro w3 hM3 hg3 hs3; have l3 := (HL.out.later HBX.out.drew).grown hg3 (fun e => by injection e with e; omega); have e12 : w3.cell? ⟨p, 12, none⟩ = some (.slice At kt ct) := l3.cell 12; have hr3 : w3.ownsRow B 129 2 (.slice At kt ct) k tc := own_same (own_later HR.out HBX.out.drew) (fun i hi hlt => hg3.block i hlt (fun e => by injection e with e; omega)); have HM3 := Lib.hid hM3; have HG3 := Lib.hid hg3; have HS3 := Lib.hid hs3; have HL3 := Lib.hid l3; have HR3 := Lib.hid hr3; have HNW := Lib.hid (new_cells w3 129 [.slice (some ⟨g, 0, none⟩) n n, .slice (some ⟨g2, o2, none⟩) m c] (N := w3.heap.size) rfl); clear hM3 hg3 hs3 l3 hr3) | (at_builtin; go_loud (refine wpList_append_own_at _ rfl (.tmp 45) (.tmp 49) 95 rfl B 129 i0 _ 2 48 Try.underlying95 hi hz0 hz1 hz2 rfl (by decide) _ k tc rfl (own_later HR3.out (below_new w3 _)) ⟨w3.heap.size, 0, none⟩ 1 1 [.slice (some ⟨g, 0, none⟩) n n, .slice (some ⟨g2, o2, none⟩) m c] rfl rfl HNW.out (by simp [Value.oneCell']) (by unfold maxLen; omega) (by omega) (by have h1 := HBX.out.size; have h2 : w3.heap.size = X.heap.size := HS3.out; simp; omega) ?_); intro v' w5 hown hgr hnil hat; have l5 := (HL3.out.alloc _).grown hgr (by intro e; have := (HPO.out p e.symm).1; omega); have p5 := l5.cell 12; have f5 := l5.free 12; have lt5 := l5.lt; have HOWN := Lib.hid hown; obtain ⟨A6, k6, c6, rfl⟩ := own_slice hown; have HAT := Lib.hid hat; clear hown hnil hat))
    go_end0
    have h3 : w3.heap.size = X.heap.size := HS3.out
    have hx1 := HBX.out.size
    have hx2 := HSX.out
    have hx3 := HSW.out
    have hXb : ∀ i, i < w.heap.size → X.heap[i]? = w.heap[i]? := fun i hi => HBX.out.block i hi
    have h3b : ∀ i, i < X.heap.size → i ≠ bm → w3.heap[i]? = X.heap[i]? := fun i hi hn => HG3.out.block i hi (fun e => hn (Option.some.inj e))
    have h5b : ∀ i, i < w3.heap.size → Value.ownBlock (.slice At kt ct) ≠ some i → w5.heap[i]? = w3.heap[i]? := fun i hi hn => (hgr.block i (Nat.lt_of_lt_of_le hi (by simp)) (fun e => hn e.symm)).trans ((below_new w3 _).block i hi)
    have h6b : ∀ i, i ≠ p → (w5.setCell ⟨p, 12, none⟩ (.slice A6 k6 c6)).heap[i]? = w5.heap[i]? := fun i hi => Below.heap_setCell _ ⟨p, 12, none⟩ _ i hi
    refine ⟨.slice A6 k6 c6, rfl, ⟨l5.set 12 _, ?_, ?_⟩, ?_, ?_⟩
    · exact own_same HOWN.out fun i hi _ => h6b i (by omega)
    · have hmp : ∀ x ∈ L.map (fun g => (⟨g, 0, none⟩ : Addr)) ++ [⟨g, 0, none⟩], x.block ≠ p ∧ Value.ownBlock (.slice At kt ct) ≠ some x.block := fun x hx => by
        rcases List.mem_append.1 hx with hx | hx
        · obtain ⟨y, hy, rfl⟩ := List.mem_map.1 hx
          exact ⟨(hLp y hy).1, (hLp y hy).2.2⟩
        · rw [List.mem_singleton.1 hx]
          exact ⟨hgp.1, hgp.2⟩
      rw [List.map_append]
      exact HM3.out.keep ((h6b bm (fun e => hpm e.symm)).trans (h5b bm HM3.out.lt (fun e => by have := (HPO.out bm e).1; omega))) fun x hx => (h6b _ (hmp x hx).1).trans (h5b _ (HM3.out.2 x hx).lt (hmp x hx).2)
    · rcases HAT.out with h | h
      · exact .inl h
      · exact .inr ⟨_, h, by simp; omega⟩
    · refine ⟨?_, ?_, ?_, ?_, fun i h1 h2 h4 h7 => ?_⟩
      · exact (hgr.os.trans (below_new w3 _).os).trans (HG3.out.os.trans HBX.out.os)
      · exact (hgr.tape.trans (below_new w3 _).tape).trans (HG3.out.tape.trans HBX.out.tape)
      · exact (hgr.output.trans (below_new w3 _).output).trans (HG3.out.output.trans HBX.out.output)
      · have := hgr.size
        rw [World.size_setCell]
        simp at this
        omega
      · exact (h6b i h2).trans ((h5b i (by omega) h7).trans ((h3b i (by omega) h4).trans (hXb i h1)))
theorem later_none (w : World) (p : Nat) (fv tv : Value) (n m : Nat) (hf : SlR fv n) (ht : SlR tv m) (h : n = 0 ∨ m = 0) :
    Calls Try.prog 78 #[.pointer (some ⟨p, 0, none⟩), fv, tv] w fun e w' => e = .returned (.tuple #[]) ∧ w' = w := by
  obtain ⟨A, c, rfl, _, _⟩ := hf.form
  obtain ⟨A2, c2, rfl, _, _⟩ := ht.form
  by_cases h0 : n = 0
  · subst h0
    go_enter Try.func78, Try.ntmps78
    go_wp2
    refine bodyPost_ret (results_none rfl _ _ _) rfl ?_
    exact ⟨rfl, rfl⟩
  · obtain rfl : m = 0 := by omega
    have h0' : ((n : Int) == 0) = false := by simp; omega
    go_enter Try.func78, Try.ntmps78
    go_wp2
    refine bodyPost_ret (results_none rfl _ _ _) rfl ?_
    exact ⟨rfl, rfl⟩
end Go.Proofs.Ythdfomcpoofkaaa

/- The library's functions on strings as this translation bears them, laid from the shelf. -/
namespace Go.Proofs.Ythdfomcpoofkaaa
open Go.Shelf Go.Proofs
def Try.lays190_ren : Go.Shelf.Ren := ⟨fun | 190 => 86 | 125 => 91 | 258 => 90 | 128 => 102 | 129 => 103 | 302 => 93 | 303 => 94 | 304 => 95 | 305 => 96 | 306 => 97 | 307 => 98 | 308 => 99 | 309 => 100 | 310 => 101 | 333 => 104 | 329 => 105 | 330 => 106 | 334 => 107 | 335 => 108 | 336 => 109 | 344 => 110 | n => n, fun | 31 => 24 | 9 => 9 | 3 => 3 | 46 => 167 | 0 => 0 | 51 => 179 | 53 => 181 | 4 => 4 | 183 => 171 | 182 => 170 | 131 => 176 | 5 => 5 | 218 => 182 | 222 => 186 | 228 => 189 | 229 => 190 | n => n, fun | n => n⟩
theorem Try.lays190 : Go.Proofs.Lays.n190 Try.prog Try.lays190_ren := {
  mixed := by kernel_rfl
  f125 := Try.func91.trans (congrArg some (by kernel_rfl))
  f128 := Try.func102.trans (congrArg some (by kernel_rfl))
  f129 := Try.func103.trans (congrArg some (by kernel_rfl))
  f190 := Try.func86.trans (congrArg some (by kernel_rfl))
  f258 := Try.func90.trans (congrArg some (by kernel_rfl))
  f302 := Try.func93.trans (congrArg some (by kernel_rfl))
  f303 := Try.func94.trans (congrArg some (by kernel_rfl))
  f304 := Try.func95.trans (congrArg some (by kernel_rfl))
  f305 := Try.func96.trans (congrArg some (by kernel_rfl))
  f306 := Try.func97.trans (congrArg some (by kernel_rfl))
  f307 := Try.func98.trans (congrArg some (by kernel_rfl))
  f308 := Try.func99.trans (congrArg some (by kernel_rfl))
  f309 := Try.func100.trans (congrArg some (by kernel_rfl))
  f310 := Try.func101.trans (congrArg some (by kernel_rfl))
  f329 := Try.func105.trans (congrArg some (by kernel_rfl))
  f330 := Try.func106.trans (congrArg some (by kernel_rfl))
  f333 := Try.func104.trans (congrArg some (by kernel_rfl))
  f334 := Try.func107.trans (congrArg some (by kernel_rfl))
  f335 := Try.func108.trans (congrArg some (by kernel_rfl))
  f336 := Try.func109.trans (congrArg some (by kernel_rfl))
  f344 := Try.func110.trans (congrArg some (by kernel_rfl))
  t0 := Try.underlying0
  a0 := Try.isAgg0
  z0 := Try.sizeOf0
  v0 := Try.zeroValue0
  t3 := Try.underlying3
  a3 := Try.isAgg3
  z3 := Try.sizeOf3
  v3 := Try.zeroValue3
  t4 := Try.underlying4
  a4 := Try.isAgg4
  z4 := Try.sizeOf4
  v4 := Try.zeroValue4
  t5 := Try.underlying5
  a5 := Try.isAgg5
  z5 := Try.sizeOf5
  v5 := Try.zeroValue5
  t9 := Try.underlying9
  a9 := Try.isAgg9
  z9 := Try.sizeOf9
  v9 := Try.zeroValue9
  t31 := Try.underlying24
  a31 := Try.isAgg24
  z31 := Try.sizeOf24
  v31 := Try.zeroValue24
  t46 := Try.underlying167
  a46 := Try.isAgg167
  z46 := Try.sizeOf167
  v46 := Try.zeroValue167
  t51 := Try.underlying179
  a51 := Try.isAgg179
  z51 := Try.sizeOf179
  v51 := Try.zeroValue179
  t53 := Try.underlying181
  a53 := Try.isAgg181
  z53 := Try.sizeOf181
  v53 := Try.zeroValue181
  t131 := Try.underlying176
  a131 := Try.isAgg176
  z131 := Try.sizeOf176
  v131 := Try.zeroValue176
  t182 := Try.underlying170
  a182 := Try.isAgg170
  z182 := Try.sizeOf170
  v182 := Try.zeroValue170
  t183 := Try.underlying171
  a183 := Try.isAgg171
  z183 := Try.sizeOf171
  v183 := Try.zeroValue171
  t218 := Try.underlying182
  a218 := Try.isAgg182
  z218 := Try.sizeOf182
  v218 := Try.zeroValue182
  t222 := Try.underlying186
  a222 := Try.isAgg186
  z222 := Try.sizeOf186
  v222 := Try.zeroValue186
  t228 := Try.underlying189
  a228 := Try.isAgg189
  z228 := Try.sizeOf189
  v228 := Try.zeroValue189
  t229 := Try.underlying190
  a229 := Try.isAgg190
  z229 := Try.sizeOf190
  v229 := Try.zeroValue190 }
def Try.lays193_ren : Go.Shelf.Ren := ⟨fun | 193 => 89 | n => n, fun | 31 => 24 | 9 => 9 | 4 => 4 | 3 => 3 | 0 => 0 | n => n, fun | n => n⟩
theorem Try.lays193 : Go.Proofs.Lays.n193 Try.prog Try.lays193_ren := {
  mixed := by kernel_rfl
  f193 := Try.func89.trans (congrArg some (by kernel_rfl))
  t0 := Try.underlying0
  a0 := Try.isAgg0
  z0 := Try.sizeOf0
  v0 := Try.zeroValue0
  t3 := Try.underlying3
  a3 := Try.isAgg3
  z3 := Try.sizeOf3
  v3 := Try.zeroValue3
  t4 := Try.underlying4
  a4 := Try.isAgg4
  z4 := Try.sizeOf4
  v4 := Try.zeroValue4
  t9 := Try.underlying9
  a9 := Try.isAgg9
  z9 := Try.sizeOf9
  v9 := Try.zeroValue9
  t31 := Try.underlying24
  a31 := Try.isAgg24
  z31 := Try.sizeOf24
  v31 := Try.zeroValue24 }
end Go.Proofs.Ythdfomcpoofkaaa

/- Package types at rows: copied, Sorted, SameRow, on labels as they are read. -/
namespace Go.Proofs.Ythdfomcpoofkaaa.Rw
open Go.RowKit Go.Shelf Go.Sort

/-- A list of strings as it is read. -/
def Strs (w : World) (v : Value) (ls : List Str) : Prop :=
  ∃ A c, v = .slice A ls.length c ∧ ls.length ≤ c ∧ (0 < ls.length → ∃ g o, A = some ⟨g, o, none⟩ ∧ ∀ (i : Nat) s, ls[i]? = some s → w.cell? ⟨g, o + i, none⟩ = some (.string (ba s)))
theorem Strs.keep {w w' : World} {v : Value} {ls : List Str} (h : Strs w v ls) (hk : ∀ g, g < w.heap.size → w'.heap[g]? = w.heap[g]?) : Strs w' v ls := by
  obtain ⟨A, c, h1, h2, h4⟩ := h
  refine ⟨A, c, h1, h2, fun h0 => ?_⟩
  obtain ⟨g, o, h5, h6⟩ := h4 h0
  exact ⟨g, o, h5, fun i s hs => (World.cell?_of_block (w := w) (a := ⟨g, o + i, none⟩) (hk g (World.block_lt_of_cell? w _ (h6 i s hs)))).trans (h6 i s hs)⟩
theorem Strs.later {w w' : World} {v : Value} {ls : List Str} (h : Strs w v ls) (hb : Below w.heap.size w w') : Strs w' v ls := h.keep hb.block
theorem Strs.slice {w : World} {v : Value} {ls : List Str} (h : Strs w v ls) : ∃ A c, v = .slice A ls.length c ∧ ls.length ≤ c := by
  obtain ⟨A, c, h1, h2, _⟩ := h
  exact ⟨A, c, h1, h2⟩
theorem Strs.of {w : World} {v : Value} {ls : List Str} (h : StrR w v ls) : Strs w v ls := by
  rcases h.1 with ⟨rfl, h0⟩ | ⟨ad, c, rfl, h1, h2⟩
  · have : ls = [] := by simpa using h0
    subst this
    exact ⟨_, _, rfl, Nat.le_refl _, fun h => absurd h (by simp)⟩
  · have hl : (ls.map encS).length = ls.length := by simp
    rw [hl] at h1 ⊢
    refine ⟨_, c, rfl, h1, fun h0 => ?_⟩
    obtain ⟨g, o, sp⟩ := ad
    have hat : ∀ (j : Nat) s, ls[j]? = some s → w.cell? ((⟨g, o, sp⟩ : Addr).add j) = some (.string (ba s)) := fun j s hs => h2 j _ (by rw [List.getElem?_map, hs]; rfl)
    have hsp2 : sp = none := World.cell?_spot (a := ⟨g, o, sp⟩) (hat 0 _ (List.getElem?_eq_getElem h0))
    subst hsp2
    refine ⟨g, o, rfl, fun i s hs => ?_⟩
    have e : (⟨g, o, none⟩ : Addr).add i = ⟨g, o + i, none⟩ := by unfold Addr.add; split <;> simp_all
    rw [← e]
    exact hat i s hs
theorem below_drewN (w : World) (n : Nat) : Below w.heap.size w (w.drewN n) := ⟨rfl, rfl, rfl, Nat.le_refl _, fun _ _ => rfl⟩
theorem Strs.some {w : World} {v : Value} {ls : List Str} (h : Strs w v ls) (h0 : ls ≠ []) : ∃ g o c, v = .slice (some ⟨g, o, none⟩) ls.length c ∧ ls.length ≤ c ∧ ∀ (i : Nat) s, ls[i]? = some s → w.cell? ⟨g, o + i, none⟩ = some (.string (ba s)) := by
  obtain ⟨A, c, h1, h2, h4⟩ := h
  obtain ⟨g, o, rfl, h5⟩ := h4 (List.length_pos_iff.2 h0)
  exact ⟨g, o, c, h1, h2, h5⟩
theorem strs_cells {w : World} {g o : Nat} {ls : List Str} (h : ∀ (i : Nat) s, ls[i]? = some s → w.cell? ⟨g, o + i, none⟩ = some (.string (ba s))) : ∀ j, j < (ls.map ba).length → w.cell? ⟨g, o + j, none⟩ = some (.string ((ls.map ba).getD j ByteArray.empty)) := by
  intro j hj
  have hj' : j < ls.length := by simpa using hj
  rw [h j _ (List.getElem?_eq_getElem hj')]
  simp [List.getD_eq_getElem?_getD, hj']
theorem mem_ba {ls : List Str} {s : Str} : ba s ∈ ls.map ba ↔ s ∈ ls := by
  simp only [List.mem_map]
  constructor
  · rintro ⟨a, ha, he⟩
    rw [ba_eq] at he
    exact he ▸ ha
  · exact fun h => ⟨s, h, rfl⟩
theorem map_ba_eq (a b : List Str) : (a.map ba = b.map ba) = (a = b) := by
  apply propext
  refine ⟨fun h => ?_, fun h => by rw [h]⟩
  have := congrArg (List.map fun x : ByteArray => x.data.toList) h
  simpa [Function.comp_def, ba_list] using this
theorem equal_any (v u : Value) (ls ms : List Str) (w : World) (hv : Strs w v ls) (hu : Strs w u ms) (hb : ls.length ≤ 9223372036854775807) (hb2 : ms.length ≤ 9223372036854775807) :
    Calls Try.prog 89 #[v, u] w fun e w' => e = .returned (.bool (decide (ls = ms))) ∧ Below w.heap.size w w' := by
  by_cases hl : ls.length = ms.length
  · by_cases h0 : ls = []
    · subst h0
      have hm : ms = [] := List.eq_nil_of_length_eq_zero hl.symm
      subst hm
      obtain ⟨A, c, rfl, _⟩ := hv.slice
      obtain ⟨A2, c2, rfl, _⟩ := hu.slice
      refine (Any.slices_Equal_string_empty Try.lays193 A A2 c 0 c2 w (by omega)).mono ?_
      rintro e w' ⟨rfl, rfl⟩
      exact ⟨ret_bool (by simp), Below.refl _ _⟩
    · have hm0 : ms ≠ [] := by intro h; subst h; exact h0 (List.eq_nil_of_length_eq_zero hl)
      obtain ⟨g, o, c, rfl, _, hc⟩ := hv.some h0
      obtain ⟨g2, o2, c2, rfl, _, hc2⟩ := hu.some hm0
      refine (Any.slices_Equal_string Try.lays193 g o ls.length c g2 o2 ms.length c2 (ls.map ba) (ms.map ba) w (by simp) (by simp) (by omega) (by omega) (strs_cells hc) (strs_cells hc2)).mono ?_
      rintro e w' ⟨rfl, q, rfl⟩
      refine ⟨ret_bool ?_, below_drewN _ _⟩
      rw [List.take_of_length_le (by simp), List.take_of_length_le (by simp)]
      simp only [map_ba_eq]
  · obtain ⟨A, c, rfl, _⟩ := hv.slice
    obtain ⟨A2, c2, rfl, _⟩ := hu.slice
    refine (Any.slices_Equal_string_lens Try.lays193 A A2 _ c _ c2 w hl).mono ?_
    rintro e w' ⟨rfl, rfl⟩
    exact ⟨ret_bool (by rw [eq_comm, decide_eq_false_iff_not]; intro h; exact hl (by rw [h])), Below.refl _ _⟩

def rowV (v : Value) (rv : Int) : Value := .agg #[v, .int .i64 rv]
set_option maxRecDepth 100000 in
set_option maxHeartbeats 2000000 in
theorem sameRow_any (v u : Value) (ls ms : List Str) (rv ru : Int) (w : World) (hv : Strs w v ls) (hu : Strs w u ms) (hb : ls.length ≤ 9223372036854775807) (hb2 : ms.length ≤ 9223372036854775807) :
    Calls Try.prog 84 #[.agg #[v, .int .i64 rv], .agg #[u, .int .i64 ru]] w fun e w' => e = .returned (.bool (decide (rv = ru ∧ ls = ms))) ∧ Below w.heap.size w w' := by
  have hb0 := below_new w (.cells #[v, .int .i64 rv] 26)
  have hb1 := hb0.trans ((below_new (w.alloc (.cells #[v, .int .i64 rv] 26)) (.cells #[u, .int .i64 ru] 26)).mono hb0.size)
  have hs := equal_any v u ls ms _ (hv.later hb1) (hu.later hb1) hb hb2
  have HS := Lib.hid hs
  have hsz := hb1.size
  clear hs
  obtain ⟨A, c, rfl, _⟩ := hv.slice
  obtain ⟨A2, c2, rfl, _⟩ := hu.slice
  by_cases hr : rv = ru
  · subst hr
    go_enter Try.func84, Try.ntmps84
    go_wp2_with fail
    refine HS.out.mono ?_
    rintro e w1 ⟨rfl, hb2⟩
    go_wp2
    go_ret
    exact ⟨ret_bool (by simp), hb1.trans (hb2.mono hsz)⟩
  · go_enter Try.func84, Try.ntmps84
    go_wp2
    go_ret
    exact ⟨ret_bool (by simp [hr]), hb1⟩
/-- Labels in a row of the call's own. -/
def OwnS (w : World) (B : Nat) (v : Value) (ls : List Str) : Prop :=
  ∃ g cap cur, v = .slice (some ⟨g, 0, none⟩) ls.length cap ∧ B ≤ g ∧ Lies w g 9 cur ∧ ls.length ≤ cap ∧ cap ≤ maxLen ∧ cur.size = cap * 1 ∧ cur.toList.take (ls.length * 1) = ls.map encStr
theorem OwnS.own {w : World} {B : Nat} {v : Value} {ls : List Str} (h : OwnS w B v ls) : w.ownsRow B 9 1 v ls.length (ls.map encStr) := by
  obtain ⟨g, cap, cur, h1, h2, h3, h4, h5, h6, h7⟩ := h
  exact ⟨by simp, .inr ⟨g, cap, cur, h1, h2, h3, h4, h5, h6, h7⟩⟩
theorem OwnS.of {w : World} {B n : Nat} {v : Value} {ls : List Str} (h : w.ownsRow B 9 1 v n (ls.map encStr)) (hn : n = ls.length) (h0 : v ≠ .slice none 0 0) : OwnS w B v ls := by
  subst hn
  rcases h.2 with ⟨h1, _⟩ | ⟨g, cap, cur, h1, h2, h3, h4, h5, h6, h7⟩
  · exact absurd h1 h0
  · exact ⟨g, cap, cur, h1, h2, h3, h4, h5, h6, h7⟩
theorem OwnS.strs {w : World} {B : Nat} {v : Value} {ls : List Str} (h : OwnS w B v ls) : Strs w v ls := by
  have ho := h.own
  obtain ⟨g, cap, cur, rfl, h2, h3, h4, h5, h6, h7⟩ := h
  refine ⟨_, cap, rfl, h4, fun _ => ⟨g, 0, rfl, fun i s hi => ?_⟩⟩
  rcases own_cells ho with ⟨h0, _⟩ | ⟨g', cap', h0, _, _, _, hx⟩
  · cases h0
  · injection h0 with h0
    injection h0 with h0
    injection h0 with h0
    subst h0
    rw [Nat.zero_add]
    exact hx i _ (by rw [List.getElem?_map, hi]; rfl)
theorem OwnS.keep {w w' : World} {B : Nat} {v : Value} {ls : List Str} (h : OwnS w B v ls) (hs : ∀ g, B ≤ g → g < w.heap.size → w'.heap[g]? = w.heap[g]?) : OwnS w' B v ls := by
  obtain ⟨g, cap, cur, h1, h2, h3, h4, h5, h6, h7⟩ := h
  exact ⟨g, cap, cur, h1, h2, (hs g h2 h3.lt).trans h3, h4, h5, h6, h7⟩
theorem OwnS.later {w w' : World} {B : Nat} {v : Value} {ls : List Str} (h : OwnS w B v ls) (hb : Below w.heap.size w w') : OwnS w' B v ls := h.keep fun g _ hg => hb.block g hg
theorem OwnS.mono {w : World} {B B' : Nat} {v : Value} {ls : List Str} (h : OwnS w B v ls) (hB : B' ≤ B) : OwnS w B' v ls := by
  obtain ⟨g, cap, cur, h1, h2, h3⟩ := h
  exact ⟨g, cap, cur, h1, by omega, h3⟩
theorem info_str : (Try.prog.info? 9).map (fun i => (i.zero, i.size, i.bytes)) = some (some (.string ⟨#[]⟩), 1, 16) := by kernel_rfl
theorem sz_row : (Try.prog.info? 26).map (·.size) = some 2 := by kernel_rfl
theorem size_str : (Try.prog.info? 9).map (·.size) = some 1 := by kernel_rfl
theorem splice_all (cur cs : List Value) (h : cs.length = cur.length) : splice cur 0 cs = cs := by
  unfold splice
  simp [h]

theorem Addr.add0 (b o j : Nat) : (⟨b, o, none⟩ : Addr).add j = ⟨b, o + j, none⟩ := by unfold Addr.add; split <;> simp_all
/-- What a copy asks of its two ends. -/
def SrcOk (w : World) (A : Option Addr) (N : Nat) (cs : List Value) : Prop := 0 < cs.length → (some ⟨N, 0, none⟩ : Option Addr) = some ⟨N, 0, none⟩ ∧ ∃ ad, A = some ad ∧ ∀ (j : Nat) v, cs[j]? = some v → w.cell? (ad.add j) = some v
theorem src_cells {w : World} {A : Option Addr} {n c N : Nat} {ls : List Str} (hv : Strs w (.slice A n c) ls) : SrcOk w A N (ls.map encStr) := by
  intro h0
  obtain ⟨A', c', h1, _, h4⟩ := hv
  obtain ⟨g, o, h5, h6⟩ := h4 (by simpa using h0)
  injection h1 with h1
  refine ⟨rfl, ⟨g, o, none⟩, by rw [h1, h5], fun j v hj => ?_⟩
  rw [List.getElem?_map] at hj
  obtain ⟨s, hs, rfl⟩ := Option.map_eq_some_iff.1 hj
  rw [Addr.add0]
  exact h6 j s hs
theorem made_row {w : World} {B N n : Nat} {e : TypeId} {xs : List Value} (h : w.ownsRow B e 1 (.slice (some ⟨N, 0, none⟩) n n) n xs) : ∃ cur : List Value, cur.length = n ∧ w.heap[N]? = some (.cells cur.toArray e (0, 0)) := by
  rcases h.2 with ⟨h0, _⟩ | ⟨g, cap, cur, h1, _, h3, _, _, h6, _⟩
  · cases h0
  · injection h1 with h1 _ h2
    injection h1 with h1
    injection h1 with h1
    subst h1 h2
    exact ⟨cur.toList, by simpa using h6, by simpa using h3⟩

set_option maxRecDepth 100000 in
set_option maxHeartbeats 2000000 in
theorem tcopied_any (v : Value) (ls : List Str) (rv : Int) (w : World) (hv : Strs w v ls) (hb : ls.length ≤ 2000000) :
    Calls Try.prog 85 #[.agg #[v, .int .i64 rv]] w fun e w' => ∃ v', e = .returned (rowV v' rv) ∧ OwnS w' w.heap.size v' ls ∧ Below w.heap.size w w' := by
  obtain ⟨i0, hi, hz0, hz1, hz2⟩ := info_parts info_str
  have hsz0 := size_str
  have hcs : ∀ x ∈ ls.map encStr, x.oneCell' = true := by
    intro x hx
    obtain ⟨s, _, rfl⟩ := List.mem_map.1 hx
    rfl
  obtain ⟨cs, hcsd⟩ : ∃ cs, cs = ls.map encStr := ⟨_, rfl⟩
  have hcl : cs.length = ls.length := by rw [hcsd]; simp
  rw [← hcsd] at hcs
  have HCSD := Lib.hid hcsd
  have HV := Lib.hid hv
  obtain ⟨A, c, rfl, hc⟩ := hv.slice
  clear hcsd
  have l0 := (Lies.new w 26 #[.slice A ls.length c, .int .i64 rv]).alloc (.cells #[.slice none 0 0, .int .i64 0] 26)
  have k0 := Lies.new' (w.alloc (.cells #[.slice A ls.length c, .int .i64 rv] 26)) 26 #[.slice none 0 0, .int .i64 0] (N := w.heap.size + 1) (by simp)
  have hb2 : Below w.heap.size w ((w.alloc (.cells #[.slice A ls.length c, .int .i64 rv] 26)).alloc (.cells #[.slice none 0 0, .int .i64 0] 26)) := ((Below.refl _ w).alloc (Nat.le_refl _) _).alloc (by simp) _
  have hsz2 : ((w.alloc (.cells #[.slice A ls.length c, .int .i64 rv] 26)).alloc (.cells #[.slice none 0 0, .int .i64 0] 26)).heap.size = w.heap.size + 2 := by simp
  have HSZ := Lib.hid hsz2
  have HB := Lib.hid hb2
  go_enter Try.func85, Try.ntmps85
  go_wp2_with (first
    | ((refine wpList_make_full _ rfl (.tmp 6) (.tmp 6) 24 rfl w.heap.size 9 i0 (.string ⟨#[]⟩) 1 Try.underlying24 hi hz0 hz1 .i64 .i64 _ _ ls.length rfl rfl rfl rfl (by rw [hz2]; omega) (by unfold maxLen; omega) (by simp; omega) ?_); intro w1 ho1 hg1
       have l1 := l0.grown hg1 (by simp)
       have k1 := k0.grown hg1 (by simp)
       have c0 := l1.cell 0
       have c1 := l1.cell 1
       have hbg : Below w.heap.size w w1 := HB.out.grown hg1 (by rw [HSZ.out]; omega) (by simp)
       have hs1 : w.heap.size + 2 ≤ w1.heap.size := by have := hg1.size; rw [HSZ.out] at this; exact this
       rw [HSZ.out] at ho1
       obtain ⟨cur, hcur, hrow⟩ := made_row ho1
       have hsrc := src_cells (N := w.heap.size + 2) (HV.out.later hbg)
       rw [← HCSD.out] at hsrc
       have HSRC := Lib.hid hsrc
       have HROW := Lib.hid hrow
       clear ho1 l0 k0 hg1 hsrc hrow)
    | (refine wpList_copy_splice rfl (.tmp 8) (.tmp 10) 24 24 rfl 9 Try.underlying24 hsz0 _ _ _ _ _ _ rfl rfl (w.heap.size + 2) 0 cur 9 HROW.out cs (by rw [hcl]; simp) HSRC.out (by omega) hcs (w.heap.size + 2) w1 (Below.refl _ _) (Nat.le_refl _) ?_; intro w2 hg2 hbw; have l2 := l1.below hbw (by omega); have k2 := k1.below hbw (by omega); have d0 := l2.cell 0; have d1 := l2.cell 1; have e0 := k2.cell 0; have e1 := k2.cell 1; have f0 := k2.free 0; have f1 := k2.free 1))
  have k3 := (k2.set 0 (.slice (some ⟨w.heap.size + 2, 0, none⟩) ls.length ls.length)).set 1 (.int .i64 rv)
  refine bodyPost_ret (v := rowV (.slice (some ⟨w.heap.size + 2, 0, none⟩) ls.length ls.length) rv) (results_cell_row rfl _ _ (w.heap.size + 1) 26 _ (0, 0) _ rfl k3 Try.underlying26 rfl sz_row) rfl ⟨_, rfl, ?_, ?_⟩
  · refine OwnS.keep (w := w2) (B := w.heap.size + 2) ⟨w.heap.size + 2, ls.length, cs.toArray, rfl, Nat.le_refl _, ?_, Nat.le_refl _, by unfold maxLen; omega, by simp [hcl], ?_⟩ (fun g hg _ => ?_) |>.mono (by omega)
    · have := hg2.out
      rw [splice_all _ _ (by omega)] at this
      exact this
    · rw [Nat.mul_one, HCSD.out]; exact List.take_of_length_le (by simp)
    · rw [Below.heap_setCell _ _ _ _ (by show g ≠ w.heap.size + 1; omega), Below.heap_setCell _ _ _ _ (by show g ≠ w.heap.size + 1; omega)]
  · have h1 : Below w.heap.size w w2 := hbg.trans (hbw.mono (by omega))
    exact h1.trans ⟨rfl, rfl, rfl, by simp [World.setCell], fun g hg => by rw [Below.heap_setCell _ _ _ _ (by show g ≠ w.heap.size + 1; omega), Below.heap_setCell _ _ _ _ (by show g ≠ w.heap.size + 1; omega)]⟩
def sortS (ls : List Str) : List Str := ls.mergeSort fun x y => decide (x ≤ y)
theorem sortS_len (ls : List Str) : (sortS ls).length = ls.length := List.length_mergeSort _
theorem sort_any (w : World) (B : Nat) (v : Value) (ls : List Str) (h : OwnS w B v ls) (hb : ls.length ≤ 2000000) :
    Calls Try.prog 86 #[v] w fun e w' => e = .returned (.tuple #[]) ∧ OwnS w' B v (sortS ls) ∧ w.grownBy w' v.ownBlock := by
  obtain ⟨g, cap, cur, rfl, h2, h3, h4, h5, h6, h7⟩ := h
  have h7' : cur.toList.take ls.length = ls.map encStr := by rw [Nat.mul_one] at h7; exact h7
  refine (Any.slices_Sort_string Try.lays190 g 0 cap ls w (holds_of_block h3 h7') h3.lt (by omega)).mono ?_
  rintro e w' ⟨rfl, n, os, rfl⟩
  have hl := sortS_len ls
  refine ⟨rfl, OwnS.of (n := ls.length) ?_ hl.symm (by simp), ?_⟩
  · exact ownsRow_sorted hl h2 h3 h4 h5 h6
  · exact grownBy_sorted _
theorem OwnS.block {w : World} {B : Nat} {v : Value} {ls : List Str} (h : OwnS w B v ls) : ∃ g, v.ownBlock = some g ∧ B ≤ g ∧ g < w.heap.size := by
  obtain ⟨g, cap, cur, rfl, h2, h3, _⟩ := h
  exact ⟨g, rfl, h2, h3.lt⟩
theorem OwnS.slice {w : World} {B : Nat} {v : Value} {ls : List Str} (h : OwnS w B v ls) : ∃ A n c, v = .slice A n c := by
  obtain ⟨g, cap, cur, rfl, _⟩ := h
  exact ⟨_, _, _, rfl⟩

set_option maxRecDepth 100000 in
set_option maxHeartbeats 2000000 in
theorem sorted_any (v : Value) (ls : List Str) (rv : Int) (w : World) (hv : Strs w v ls) (hb : ls.length ≤ 2000000) :
    Calls Try.prog 81 #[.agg #[v, .int .i64 rv]] w fun e w' => ∃ v', e = .returned (rowV v' rv) ∧ OwnS w' w.heap.size v' (sortS ls) ∧ Below w.heap.size w w' := by
  have hb2 : Below w.heap.size w ((w.alloc (.cells #[v, .int .i64 rv] 26)).alloc (.cells #[.slice none 0 0, .int .i64 0] 26)) := ((Below.refl _ w).alloc (Nat.le_refl _) _).alloc (by simp) _
  have k0 := Lies.new' (w.alloc (.cells #[v, .int .i64 rv] 26)) 26 #[.slice none 0 0, .int .i64 0] (N := w.heap.size + 1) (by simp)
  have hsz2 : ((w.alloc (.cells #[v, .int .i64 rv] 26)).alloc (.cells #[.slice none 0 0, .int .i64 0] 26)).heap.size = w.heap.size + 2 := by simp
  have hc := tcopied_any v ls rv _ (hv.later hb2) hb
  rw [hsz2] at hc
  have HC := Lib.hid hc
  have HSZ := Lib.hid hsz2
  have HB := Lib.hid hb2
  have HK := Lib.hid k0
  clear hc k0 hb2 hsz2
  obtain ⟨A, c, rfl, _⟩ := hv.slice
  go_enter Try.func81, Try.ntmps81
  go_wp2_with fail
  refine HC.out.mono ?_
  rintro e w1 ⟨v1, rfl, ho1, hb1⟩
  have hB1 := HB.out.trans (hb1.mono (by omega))
  have k1 := HK.out.below hb1 (by omega)
  have hs1 : w.heap.size + 2 ≤ w1.heap.size := by have := hb1.size; rw [HSZ.out] at this; exact this
  have hbn := below_new w1 (.cells #[v1, .int .i64 rv] 26)
  have n1 := Lies.new w1 26 #[v1, .int .i64 rv]
  have ho2 := ho1.later hbn
  have hso := sort_any _ _ _ _ ho2 (by omega)
  have k2 := k1.later hbn
  obtain ⟨g, hg, hg1, hg2⟩ := ho1.block
  rw [hg] at hso
  obtain ⟨A1, m1, c1, rfl⟩ := ho1.slice
  unfold rowV
  have HSO := Lib.hid hso
  have HB1 := Lib.hid (hB1.trans (hbn.mono (by omega)))
  clear hso
  go_wp2_with fail
  refine HSO.out.mono ?_
  rintro e w2 ⟨rfl, ho3, hgr⟩
  have k3 := k2.grown hgr (fun e => by injection e with e; omega)
  have n3 := n1.grown hgr (fun e => by injection e with e; omega)
  have d0 := n3.cell 0
  have d1 := n3.cell 1
  have e0 := k3.cell 0
  have e1 := k3.cell 1
  have f0 := k3.free 0
  have f1 := k3.free 1
  go_wp2_with fail
  have k4 := (k3.set 0 (.slice A1 m1 c1)).set 1 (.int .i64 rv)
  have hBg : Below w.heap.size w w2 := HB1.out.grown hgr (by simp; omega) (fun k e => by injection e with e; omega)
  refine bodyPost_ret (v := rowV (.slice A1 m1 c1) rv) (results_cell_row rfl _ _ (w.heap.size + 1) 26 _ (0, 0) _ rfl k4 Try.underlying26 rfl sz_row) rfl ⟨_, rfl, ?_, ?_⟩
  · refine OwnS.mono (OwnS.keep ho3 fun g hg _ => ?_) (by omega)
    rw [Below.heap_setCell _ _ _ _ (by show g ≠ w.heap.size + 1; omega), Below.heap_setCell _ _ _ _ (by show g ≠ w.heap.size + 1; omega)]
  · exact hBg.trans ⟨rfl, rfl, rfl, by simp [World.setCell], fun g hg => by rw [Below.heap_setCell _ _ _ _ (by show g ≠ w.heap.size + 1; omega), Below.heap_setCell _ _ _ _ (by show g ≠ w.heap.size + 1; omega)]⟩
end Go.Proofs.Ythdfomcpoofkaaa.Rw
