/- args: a list of what becomes of some types, which are still to do. -/
import Derived.Test.YtpooocfogpileaaGreatSbj
import Derived.Laws.MakeOwn
import Derived.Outline
namespace Go.Proofs.YtpooocfogpileaaGreat
open Go.RowKit

set_option maxRecDepth 100000 in
theorem look_nil (w : World) (a : Addr) (n : Int) (s : Bool) : (Instr.lookup 60 (.map none) (.agg #[.pointer (some a), .int .i64 n, .bool s]) true).run Tryz.prog w = .ok (.tuple #[.slice none 0 0, .bool false]) w := by
  kernel_rfl
theorem eq_nil (w : World) : (binOp BinOp.neq 60 (.map none) (.map none)).run Tryz.prog w = .ok (.bool false) w := by
  kernel_rfl
theorem info_task : (Tryz.prog.info? 80).map (fun i => (i.zero, i.size, i.bytes)) = some (some (.agg #[.slice none 0 0, .slice none 0 0, .bool false]), 3, 56) := by kernel_rfl
theorem info_type : (Tryz.prog.info? 44).map (fun i => (i.zero, i.size, i.bytes)) = some (some (.agg zeroT), 6, 88) := by kernel_rfl
theorem made_size (z : Array Value) (n : Nat) : (madeCells z n).size = n := size_madeCells _ _
theorem run_mkT (w : World) (n : Nat) (hn : n ≤ 1000000) : (Instr.makeSlice 42 (.int .i64 (n : Int)) (.int .i64 (n : Int))).run Tryz.prog w = .ok (.slice (some ⟨w.heap.size, 0, none⟩) n n) (w.alloc (.cells (madeCells zeroT (n * 6)) 44)) := by
  obtain ⟨i0, hi, hz0, hz1, hz2⟩ := info_parts info_type
  have h := run_makeSlice w 42 44 i0 _ Tryz.underlying42 hi hz0 .i64 .i64 n n (by omega) (by omega) (by rw [hz1]; simp; omega) (by rw [hz2]; omega) (by omega)
  rw [hz1] at h
  simpa [Value.cells] using h
/-- The applier, which keeps nothing, and what it has still to do. -/
structure ApS (w : World) (p B : Nat) (vt vr td : Value) (k : Nat) (tc : List Value) : Prop where
  at_ : Lies w p 63 #[vt, vr, .map none, td]
  row : w.ownsRow B 80 3 td k tc
/-- What a turn of the applier leaves alone. -/
structure Chg (p : Nat) (td : Value) (w w' : World) : Prop where
  os : w'.os = w.os
  tape : w'.tape = w.tape
  output : w'.output = w.output
  size : w.heap.size ≤ w'.heap.size
  block : ∀ i, i < w.heap.size → i ≠ p → td.ownBlock ≠ some i → w'.heap[i]? = w.heap[i]?
theorem Chg.of_below {p : Nat} {td : Value} {w w' : World} (h : Below w.heap.size w w') : Chg p td w w' := ⟨h.os, h.tape, h.output, h.size, fun i hi _ _ => h.block i hi⟩
theorem Chg.trans {p : Nat} {td td' : Value} {a b c : World} (h : Chg p td a b) (k : Chg p td' b c) (ht : td'.ownBlock = td.ownBlock ∨ ∃ g, td'.ownBlock = some g ∧ a.heap.size ≤ g) : Chg p td a c :=
  ⟨k.os.trans h.os, k.tape.trans h.tape, k.output.trans h.output, Nat.le_trans h.size k.size, fun i hi hp hn => (k.block i (Nat.lt_of_lt_of_le hi h.size) hp (by
    rcases ht with e | ⟨g, e, hg⟩
    · rw [e]; exact hn
    · rw [e]; intro e2; injection e2 with e2; omega)).trans (h.block i hi hp hn)⟩
/-- What args leaves, if there is something to do. -/
def ArgsEnd (w : World) (p B : Nat) (vt vr td : Value) (k : Nat) (tc : List Value) (kv : Value) (n : Nat) (said : Bool) (e : Ending) (w' : World) : Prop :=
  ∃ G td' cur, e = .returned (.slice (some ⟨G, 0, none⟩) n n) ∧ w.heap.size ≤ G ∧ Lies w' G 44 cur ∧ cur.size = n * 6 ∧
    ApS w' p B vt vr td' (k + 1) (tc ++ [kv, .slice (some ⟨G, 0, none⟩) n n, .bool said]) ∧ td'.ownBlock ≠ some G ∧ (td'.ownBlock = td.ownBlock ∨ ∃ b, td'.ownBlock = some b ∧ w.heap.size ≤ b) ∧ Chg p td w w'
set_option maxRecDepth 100000 in
set_option maxHeartbeats 4000000 in
theorem args_any (w : World) (p B : Nat) (vt vr td : Value) (k : Nat) (tc : List Value) (hp : p < B) (hB : B ≤ w.heap.size) (h : ApS w p B vt vr td k tc) (hk : k ≤ 1000000) (kv : Value) (n : Nat) (hkv : SlR kv n) (h0 : 0 < n) (hn : n ≤ 1000000) (said : Bool) :
    Calls Tryz.prog 60 #[.pointer (some ⟨p, 0, none⟩), kv, .bool said] w (ArgsEnd w p B vt vr td k tc kv n said) := by
  obtain ⟨A, c, rfl, hc, ha⟩ := hkv.form
  obtain ⟨g, o, rfl⟩ := ha h0
  obtain ⟨hl, hrow⟩ := h
  obtain ⟨i0, hi, hz0, hz1, hz2⟩ := info_parts info_task
  have hmk := fun W => run_mkT W n hn
  obtain ⟨M, hM⟩ : ∃ M, M = madeCells zeroT (n * 6) := ⟨_, rfl⟩
  rw [← hM] at hmk
  have hMs : M.size = n * 6 := by rw [hM]; exact made_size _ _
  have hln := fun W => look_nil W ⟨g, o, none⟩ (n : Int) said
  have heq := eq_nil
  have hlp := hl.lt
  have hb1 := below_new w (.cells #[.pointer (some ⟨g, o, none⟩), .int .i64 (n : Int), .bool said] 131)
  have l1 := hl.later hb1
  have n1 := Lies.new w 131 #[.pointer (some ⟨g, o, none⟩), .int .i64 (n : Int), .bool said]
  obtain ⟨W, hW⟩ : ∃ W, W = w.alloc (.cells #[.pointer (some ⟨g, o, none⟩), .int .i64 (n : Int), .bool said] 131) := ⟨_, rfl⟩
  rw [← hW] at hb1 l1 n1
  have a2 := l1.cell 2
  have b0 := n1.cell 0
  have b1 := n1.cell 1
  have b2 := n1.cell 2
  have HW := Lib.hid hW
  have HB1 := Lib.hid hb1
  have HL1 := Lib.hid l1
  have HR := Lib.hid hrow
  have HMS := Lib.hid hMs
  clear hM hMs hl hb1 l1 hrow hkv ha hW n1
  have h0' : ((n : Int) == 0) = false := by simp; omega
  have hin : (0 : Int) < (n : Int) := by omega
  go_enter Tryz.func60, Tryz.ntmps60
  go_wp2_with fail
  rw [← HW.out]
  have hS : W.cell? ⟨p, 2, none⟩ = some (.map none) ∧ W.cell? ⟨w.heap.size, 0, none⟩ = some (.pointer (some ⟨g, o, none⟩)) ∧ W.cell? ⟨w.heap.size, 1, none⟩ = some (.int .i64 (n : Int)) ∧ W.cell? ⟨w.heap.size, 2, none⟩ = some (.bool said) := ⟨a2, b0, b1, b2⟩
  go_region_held3 (fun V => V.cell? ⟨p, 2, none⟩ = some (.map none) ∧ V.cell? ⟨w.heap.size, 0, none⟩ = some (.pointer (some ⟨g, o, none⟩)) ∧ V.cell? ⟨w.heap.size, 1, none⟩ = some (.int .i64 (n : Int)) ∧ V.cell? ⟨w.heap.size, 2, none⟩ = some (.bool said)) (exact hS) (fail)
  have l2 := HL1.out.later (below_new W (.cells M 44)).drew
  have p2 := l2.cell 2
  have p3 := l2.cell 3
  have hW1 := HL1.out.lt
  obtain ⟨At, kt, ct, rfl⟩ := own_slice HR.out
  have hX : Below w.heap.size w ((W.alloc (.cells M 44)).alloc (.cells #[.slice (some ⟨g, o, none⟩) n c, .slice (some ⟨W.heap.size, 0, none⟩) n n, .bool said] 80)).drew := ((HB1.out.alloc HB1.out.size _).alloc (by have := HB1.out.size; simp; omega) _).drew
  have lX : Lies ((W.alloc (.cells M 44)).alloc (.cells #[.slice (some ⟨g, o, none⟩) n c, .slice (some ⟨W.heap.size, 0, none⟩) n n, .bool said] 80)).drew p 63 #[vt, vr, .map none, .slice At kt ct] := (HL1.out.alloc _).alloc _
  have mX : Lies ((W.alloc (.cells M 44)).alloc (.cells #[.slice (some ⟨g, o, none⟩) n c, .slice (some ⟨W.heap.size, 0, none⟩) n n, .bool said] 80)).drew W.heap.size 44 M := (Lies.new W _ M).alloc _
  have hrX := own_later HR.out hX
  have hnw := new_cells (W.alloc (.cells M 44)) 80 [.slice (some ⟨g, o, none⟩) n c, .slice (some ⟨W.heap.size, 0, none⟩) n n, .bool said] (N := W.heap.size + 1) (by simp)
  have hone : ∀ u ∈ [Value.slice (some ⟨g, o, none⟩) n c, .slice (some ⟨W.heap.size, 0, none⟩) n n, .bool said], u.oneCell' = true := by simp [Value.oneCell']
  have hpo : ∀ q, Value.ownBlock (.slice At kt ct) = some q → B ≤ q ∧ q < w.heap.size := own_block HR.out
  have HX := Lib.hid hX
  have HLX := Lib.hid lX
  have HMX := Lib.hid mX
  have HRX := Lib.hid hrX
  have HNW := Lib.hid hnw
  have HONE := Lib.hid hone
  have HPO := Lib.hid hpo
  clear hX lX mX hrX hnw hone hpo
  go_wp2_with (at_builtin; go_loud (refine wpList_append_own_at _ rfl (.tmp 49) (.tmp 54) 61 rfl B 80 i0 _ 3 56 Tryz.underlying61 hi hz0 hz1 hz2 rfl (by decide) _ k tc rfl HRX.out ⟨W.heap.size + 1, 0, none⟩ 1 1 [.slice (some ⟨g, o, none⟩) n c, .slice (some ⟨W.heap.size, 0, none⟩) n n, .bool said] rfl rfl HNW.out HONE.out (by unfold maxLen; omega) (by omega) (by have := HX.out.size; omega) ?_); intro v' w5 hown hgr hnil hat; have l5 := HLX.out.grown hgr (by intro e; have := (HPO.out p e.symm).1; omega); have p5 := l5.cell 3; have f5 := l5.free 3; have lt5 := l5.lt; have HOWN := Lib.hid hown; obtain ⟨A6, k6, c6, rfl⟩ := own_slice hown; have HAT := Lib.hid hat; clear hown hnil hat)
  go_ret
  have hWs := HB1.out.size
  have hXs : ((W.alloc (.cells M 44)).alloc (.cells #[.slice (some ⟨g, o, none⟩) n c, .slice (some ⟨W.heap.size, 0, none⟩) n n, .bool said] 80)).drew.heap.size = W.heap.size + 2 := by simp
  refine ⟨W.heap.size, .slice A6 k6 c6, M, rfl, by omega, ?_, HMS.out, ⟨l5.set 3 _, ?_⟩, ?_, ?_, ?_⟩
  · exact (HMX.out.grown hgr (by intro e; have := (HPO.out _ e.symm).2; omega)).far (p := ⟨p, 3, none⟩) (by show W.heap.size ≠ p; omega) _
  · exact own_same HOWN.out fun i hi _ => Below.heap_setCell _ ⟨p, 3, none⟩ _ i (by show i ≠ p; omega)
  · intro e
    rcases HAT.out with h | h
    · rw [h] at e
      have := (HPO.out _ e).2
      omega
    · rw [h, hXs] at e
      injection e with e
      omega
  · rcases HAT.out with h | h
    · exact .inl h
    · exact .inr ⟨_, h, by rw [hXs]; omega⟩
  · refine ⟨hgr.os.trans HX.out.os, hgr.tape.trans HX.out.tape, hgr.output.trans HX.out.output, ?_, fun i h1 h2 h3 => ?_⟩
    · have := hgr.size
      have := HX.out.size
      rw [World.size_setCell]
      omega
    · exact (Below.heap_setCell _ ⟨p, 3, none⟩ _ i h2).trans ((hgr.block i (by rw [hXs]; omega) (fun e => h3 e.symm)).trans (HX.out.block i h1))
theorem args_none (w : World) (p : Nat) (kv : Value) (hkv : SlR kv 0) (said : Bool) :
    Calls Tryz.prog 60 #[.pointer (some ⟨p, 0, none⟩), kv, .bool said] w fun e w' => e = .returned (.slice none 0 0) ∧ w' = w := by
  obtain ⟨A, c, rfl, _, _⟩ := hkv.form
  go_enter Tryz.func60, Tryz.ntmps60
  go_wp2
  go_ret
  exact ⟨rfl, rfl⟩
end Go.Proofs.YtpooocfogpileaaGreat
