/- What a range over a function leaves alone; laws on rows within a round. -/
import Derived.Test.YtmodmojocclmaaaGreatDoorMg22
import Derived.RangeFuncNested
import Derived.RangeFuncBound
import Derived.RangeFuncCalls
import Derived.RangeFuncLeaves
import Derived.RangeFuncFrom
import Derived.RangeFuncBox
import Derived.Shelf.RegionOpen
import Derived.WalkKit
import Derived.OwnWalkIn
import Derived.TacticsInMore
import Derived.LoopNIn
import Derived.LoopIn
import Derived.Outline
namespace Go.Proofs.YtmodmojocclmaaaGreatDoor
open Go.RowKit Pz

structure Ku (n b : Nat) (w w' : World) : Prop where
 os : w'.os = w.os
 tape : w'.tape = w.tape
 output : w'.output = w.output
 size : w.heap.size ≤ w'.heap.size
 block : ∀ i, i < n → i ≠ b → w'.heap[i]? = w.heap[i]?
theorem Ku.refl (n b : Nat) (w : World) : Ku n b w w := ⟨rfl, rfl, rfl, Nat.le_refl _, fun _ _ _ => rfl⟩
theorem Ku.trans {n b : Nat} {A B C : World} (h : Ku n b A B) (k : Ku n b B C) : Ku n b A C :=
 ⟨k.os.trans h.os, k.tape.trans h.tape, k.output.trans h.output, Nat.le_trans h.size k.size, fun i h1 h2 => (k.block i h1 h2).trans (h.block i h1 h2)⟩
theorem Ku.alloc {n b : Nat} {A w : World} (h : Ku n b A w) (hn : n ≤ w.heap.size) (o : Obj) : Ku n b A (w.alloc o) :=
 h.trans ⟨rfl, rfl, rfl, by simp, fun i hi _ => Below.heap_alloc w o i (by omega)⟩
theorem Ku.setRow {n b : Nat} {A w : World} (h : Ku n b A w) {g : Nat} (hg : g = b ∨ n ≤ g) (cs : Array Value) : Ku n b A (w.setRow g cs) :=
 h.trans ⟨rfl, rfl, rfl, by rw [size_setRow]; exact Nat.le_refl _, fun i hi hb => heap_setRow _ _ _ _ (by omega)⟩
theorem Ku.putObj {n b : Nat} {A w : World} (h : Ku n b A w) {l : Nat} (hl : n ≤ l) (o : Obj) : Ku n b A (w.putObj l o) :=
 h.trans ⟨rfl, rfl, rfl, by simp, fun i hi hb => World.putObj_heap_other (by omega)⟩
theorem Ku.grown {n b : Nat} {A w w' : World} (h : Ku n b A w) {row : Option Nat} (hg : w.grownBy w' row) (hs : n ≤ w.heap.size) (hr : ∀ r, row = some r → n ≤ r) : Ku n b A w' :=
 h.trans ⟨hg.os, hg.tape, hg.output, hg.size, fun i hi hb => hg.block i (by omega) (fun e => by have := hr i e.symm; omega)⟩
theorem ku_b {n b : Nat} {w : World} (hn : n ≤ w.heap.size) (W : World) (l : Nat) (o o' : Obj) (hl : w.heap.size ≤ l) (_ : W.heap[l]? = some o) (_ : o.isCells = false) (_ : o.isWalk = false) : Ku n b W (W.putObj l o') :=
 (Ku.refl n b W).putObj (by omega) _
theorem Ku.own {β : Type} {n b B : Nat} {w0 : World} (hn : n ≤ w0.heap.size) (hB : n ≤ B) : OwnFrom B (fun (_ : β) W => Ku n b w0 W) :=
 fun _ X Y row hs hg hr => hs.grown hg (Nat.le_trans hn hs.size) (fun r e => by have := (hr r e).1; omega)
theorem Kp.ku {pb n b : Nat} {a w w' : World} (h : Kp pb a w) (k : Ku n b w w') (hn : a.heap.size ≤ n) (hb : a.heap.size ≤ b) : Kp pb a w' :=
 ⟨k.os.trans h.os, k.tape.trans h.tape, k.output.trans h.output, Nat.le_trans h.size k.size, fun i hi hne => (k.block i (by omega) (by omega)).trans (h.block i hi hne)⟩
theorem PA.ku {w w' : World} {pb sz n b : Nat} {s : St} (h : PA w pb sz s) (k : Ku n b w w') (hn : pb < n) (hb : pb < b) : PA w' pb sz s := by
 obtain ⟨v, hl, ht⟩ := h
 exact ⟨v, (k.block pb hn (by omega)).trans hl, ht.keep fun g hg => k.block g (by omega) (by omega)⟩

theorem OwnP.sameC {w w' : World} {P : Nat → Prop} {e : TypeId} {size n : Nat} {v : Value} {xs : List Value} (h : OwnP w P e size v n xs) (hs : ∀ g c t f, P g → w.heap[g]? = some (.cells c t f) → w'.heap[g]? = w.heap[g]?) : OwnP w' P e size v n xs := by
 refine ⟨h.1, ?_⟩
 rcases h.2 with h0 | ⟨g, cap, cur, h1, h2, h3, h4⟩
 ·exact .inl h0
 ·exact .inr ⟨g, cap, cur, h1, h2, (hs g _ _ _ h2 h3).trans h3, h4⟩
theorem HT.sameC {w w' : World} {P : Nat → Prop} {t : Tm} {cs : List Value} (h : HT w P t cs) (hs : ∀ g c t f, P g → w.heap[g]? = some (.cells c t f) → w'.heap[g]? = w.heap[g]?) : HT w' P t cs := by
 induction h with
 | mk k pos nm pm n kids arms kv av kc vv bc hk hkl _ hvl hbl ha hav _ ih1 ih2 =>
  exact .mk k pos nm pm n kids arms kv av kc vv bc ⟨hk.1, hk.2.sameC hs⟩ hkl ih1 hvl hbl ⟨ha.1, ha.2.sameC hs⟩ (fun i a v h1 h2 => (hav i a v h1 h2).sameC hs) ih2
theorem cells_kept {w w' : World} {row : Option Nat} (hg : w.grownBy w' row) (hr : ∀ r, row = some r → ∃ o : Obj, w.heap[r]? = some o ∧ o.isCells = false) {g : Nat} {c : Array Value} {t : TypeId} {f : Nat × Nat} (h : w.heap[g]? = some (.cells c t f)) : w'.heap[g]? = w.heap[g]? :=
 hg.block g (lt_of_block h) (fun e => by
  obtain ⟨o, ho, hc⟩ := hr g e.symm
  rw [h] at ho
  cases ho
  cases hc)
theorem HT.kept {w w' : World} {P : Nat → Prop} {t : Tm} {cs : List Value} (h : HT w P t cs) {row : Option Nat} (hg : w.grownBy w' row) (hr : ∀ r, row = some r → ∃ o : Obj, w.heap[r]? = some o ∧ o.isCells = false) : HT w' P t cs :=
 h.sameC fun _ _ _ _ _ hc => cells_kept hg hr hc
theorem Lies.kept {w w' : World} {g : Nat} {t : TypeId} {cs : Array Value} (h : Lies w g t cs) {row : Option Nat} (hg : w.grownBy w' row) (hr : ∀ r, row = some r → ∃ o : Obj, w.heap[r]? = some o ∧ o.isCells = false) : Lies w' g t cs :=
 (cells_kept hg hr h).trans h

section
variable {F : Fence} {n : Nat} {P : Program} {ops : Array Oper} {rest : List Oper} {o : Oper} {a : Act} {w : World} {Q : Exit → Act → World → Prop}
theorem wpListIn_ran (hg : o.guard = none) (hnd : ∀ c, o.op ≠ .defer c) (hab : o.about P w a.eval = none) {v : Value} {w' : World} (hrun : (execOp a.eval o).run P w = .ok (.value v) w') (h : wpListIn F n P ops Q rest (a.put o.dst v) w') : wpListIn F n P ops Q (o :: rest) a w := by
 refine wpListIn_plain hg fun K hK => ?_
 unfold Oper.wpIn
 refine ⟨fun f hf => (by rw [hab] at hf; cases hf), ?_⟩
 rw [Oper.semAt_plain F _ _ hnd, hrun]
 exact hK _ _ h
theorem wpListIn_row_load (hgd : o.guard = none) (ty : TypeId) (x : Operand) (ho : o.op = .load ty x)
  (g : Nat) (hx : a.eval x = .pointer (some ⟨g, 0, none⟩)) (t : TypeId) (cs : Array Value) (fr : Nat × Nat) (d : TypeDesc) (hg : w.heap[g]? = some (.cells cs t fr))
  (hu : P.underlying ty = some d) (hd : (match d with | .struct _ | .array _ _ => true | _ => false) = true) (hi : (P.info? ty).map (·.size) = some cs.size)
  (h : wpListIn F n P ops Q rest (a.put o.dst (.agg cs)) w) : wpListIn F n P ops Q (o :: rest) a w :=
 wpListIn_ran hgd (by rw [ho]; intro c hc; cases hc) (by simp [Oper.about, ho]) (v := .agg cs) (by simp [execOp, ho, hx, Instr.loadAt, Instr.sureAddr, Result.andThen, run_loadVar_row w g t ty cs fr d hg hu hd hi]) h
theorem wpListIn_row_store (hgd : o.guard = none) (ty : TypeId) (x y : Operand) (ho : o.op = .store ty x y)
  (hd : o.dst = none) (g : Nat) (cells : Array Value) (hx : a.eval x = .pointer (some ⟨g, 0, none⟩)) (hy : a.eval y = .agg cells)
  (t : TypeId) (old : Array Value) (hg : w.heap[g]? = some (.cells old t (0, 0))) (hi : (P.info? ty).map (·.size) = some cells.size)
  (hold : old.size = cells.size) (h1 : cells.all (·.oneCell') = true)
  (h : wpListIn F n P ops Q rest a (w.setRow g cells)) : wpListIn F n P ops Q (o :: rest) a w := by
 refine wpListIn_plain hgd fun K hK => ?_
 unfold Oper.wpIn
 refine ⟨fun f hf => (by simp [Oper.about, ho] at hf), ?_⟩
 rw [Oper.semAt_plain F _ _ (by rw [ho]; intro c hc; cases hc)]
 have hr := run_storeVar_row (P := P) w g t ty old cells hg hi hold h1
 simp [execOp, ho, hx, hy, Instr.storeAt, Instr.sureAddr, Result.andThen, hr]
 have := hK _ _ h
 show K (a.put o.dst undef) _
 rw [hd]
 exact this
theorem wpListIn_slice_build (hg : o.guard = none) (t e : TypeId) (len : Nat) (parts : Array (Nat × Operand)) (ho : o.op = .buildSlice t len parts)
  (cells : Array Value) (ie : TypeInfo) (z : Value)
  (hu : P.underlying t = some (.slice e)) (hie : P.info? e = some ie) (hz : ie.zero = some z) (hsmall : ¬ len * ie.size > 2 ^ 24) (hpos : ¬ len * ie.size = 0)
  (hf : Instr.fill (fun i => some (i * ie.size, ie.size)) ((Array.range (len * ie.size)).map (z.cells[· % z.cells.size]!)) (parts.map fun (i, x) => (i, a.eval x)).toList = some cells)
  (h : wpListIn F n P ops Q rest (a.put o.dst (.slice (some ⟨w.heap.size, 0, none⟩) len len)) (w.alloc (.cells cells e))) : wpListIn F n P ops Q (o :: rest) a w := by
 refine wpListIn_ran hg (by rw [ho]; intro c hc; cases hc) (by simp [Oper.about, ho]) (v := .slice (some ⟨w.heap.size, 0, none⟩) len len) (w' := w.alloc (.cells cells e)) ?_ h
 unfold execOp
 simp only [ho, Sem.run_bind, run_buildSlice w t e len _ cells ie z hu hie hz hsmall hpos hf, Result.andThen_ok]
 rfl
end
end Go.Proofs.YtmodmojocclmaaaGreatDoor

/- The library's iterator from a slice's end: its contract at words. -/
namespace Go.Proofs.YtmodmojocclmaaaGreatDoor
open Go.RowKit Pz Go.Shelf
attribute [local go_sem] Oper.semAt_some

def encW (x : Nat × Lx.Tk) : Array Value := #[.int .i64 (x.1 : Int), tkV x.2]
def nth (zs : List Lx.Tk) (i : Nat) : Lx.Tk := zs[i]?.getD ⟨0, [], 0, 0⟩
def downs (zs : List Lx.Tk) (m : Nat) : List (Nat × Lx.Tk) := (List.range m).map fun j => (zs.length - 1 - j, nth zs (zs.length - 1 - j))
theorem downs_succ (zs : List Lx.Tk) (m : Nat) : downs zs (m + 1) = downs zs m ++ [(zs.length - 1 - m, nth zs (zs.length - 1 - m))] := by simp [downs, List.range_succ]
theorem downs_length (zs : List Lx.Tk) (m : Nat) : (downs zs m).length = m := by simp [downs]
theorem downs_all (zs : List Lx.Tk) : (downs zs zs.length).map Prod.snd = zs.reverse := by
 apply List.ext_getElem
 ·simp [downs]
 ·intro i h1 h2
  have hi : i < zs.length := by simpa using h2
  simp only [downs, List.map_map, List.getElem_map, List.getElem_range, Function.comp, nth, List.getElem_reverse]
  rw [List.getElem?_eq_getElem (by omega), Option.getD_some]

set_option maxRecDepth 100000 in
set_option maxHeartbeats 2000000 in
theorem back_any (A : Option Addr) (n c : Nat) (w : World) : Calls Tryz.prog 147 #[.slice A n c] w fun e w' => e = .returned (.func (.func 153) #[] #[.pointer (some ⟨w.heap.size, 0, none⟩)]) ∧ w' = w.alloc (.cells #[.slice A n c] 88) := by
 go_enter Tryz.func147, Tryz.ntmps147
 go_wp2
 go_ret
 exact ⟨rfl, rfl⟩

set_option maxRecDepth 100000 in
set_option maxHeartbeats 2000000 in
theorem back1_in (n : Nat) (l Bs n1 b g len cap : Nat) (zs : List Lx.Tk) (hz : zs.length = len) (hcap : len ≤ cap) (hm : len ≤ 140737488351232) (hBs : Bs < n1) (hBb : Bs ≠ b) (hg : g < n1) (hgb : g ≠ b) (J Jx : List (Nat × Lx.Tk) → World → Prop)
  (hY : ∀ pre x W, J pre W → pre.length < len → YieldAt Fence.wide (n - 1) Tryz.prog l (encW x) W fun e W' =>
   (e = .returned (.bool true) ∧ J (pre ++ [x]) W' ∧ Ku n1 b W W') ∨ (e = .returned (.bool false) ∧ Jx (pre ++ [x]) W'))
  (W : World) (hs : W.cell? ⟨Bs, 0, none⟩ = some (.slice (some ⟨g, 0, none⟩) len cap))
  (hc : ∀ (i : Nat) x, zs[i]? = some x → W.cell? ⟨g, i * 4, none⟩ = some (.int .i64 (x.k : Int)) ∧ W.cell? ⟨g, i * 4 + 1, none⟩ = some (.string (ba x.t)) ∧ W.cell? ⟨g, i * 4 + 2, none⟩ = some (.int .i64 (x.n : Int)) ∧ W.cell? ⟨g, i * 4 + 3, none⟩ = some (.int .i64 (x.pos : Int)))
  (h0 : J [] W) :
  CallsIn Fence.wide n Tryz.prog 153 #[.func (.yield l) #[] #[], .pointer (some ⟨Bs, 0, none⟩)] W fun e W' => (∃ v, e = .returned v) ∧
   ((∃ ys, ys = downs zs len ∧ J ys W') ∨ (∃ pre, (∃ k, k ≤ len ∧ pre = downs zs k) ∧ Jx pre W')) := by
 have HC := Lib.hid hc
 have HY := Lib.hid hY
 have HS := Lib.hid hs
 clear hc hY
 refine callsIn_of_wp Tryz.func153 rfl trivial ?_ rfl
 simp only [Tryz.ntmps153, List.size_toArray, List.length_cons, List.length_nil, Nat.reduceAdd, Nat.reduceSub, Array.replicate_succ, Array.replicate_zero, List.push_toArray, List.append_toArray, List.nil_append, List.cons_append]
 gi_wp2
 clear hs
 gi_loopw [3] (fun i wr => ∃ k : Nat, k ≤ len ∧ i = .int .i64 ((len : Int) - 1 - k) ∧ J (downs zs k) wr ∧ Ku n1 b W wr)
  (fun i _ => (intOf i + 1).toNat)
 case atStart => exact ⟨0, Nat.zero_le _, by simp, h0, Ku.refl _ _ _⟩
 case round =>
  obtain ⟨k, hk, rfl, hJs, hnx⟩ := hrel
  have hs' : wr.cell? ⟨Bs, 0, none⟩ = some (.slice (some ⟨g, 0, none⟩) len cap) := (World.cell?_of_block (w := W) (hnx.block Bs hBs hBb)).trans HS.out
  by_cases hlt : k < len
  ·have hx : zs[len - 1 - k]? = some (nth zs (len - 1 - k)) := by
    unfold nth
    rw [List.getElem?_eq_getElem (by omega), Option.getD_some]
   obtain ⟨a0, a1, a2, a3⟩ := HC.out _ _ hx
   have e : ∀ j, wr.cell? ⟨g, j, none⟩ = W.cell? ⟨g, j, none⟩ := fun j => World.cell?_of_block (w := W) (hnx.block g hg hgb)
   rw [← e] at a0 a1 a2 a3
   clear e hx
   obtain ⟨i, hi⟩ : ∃ i, i = len - 1 - k := ⟨_, rfl⟩
   obtain ⟨x, hx⟩ : ∃ x, x = nth zs (len - 1 - k) := ⟨_, rfl⟩
   rw [← hx, ← hi] at a0 a1 a2 a3
   have hYx := HY.out _ (i, x) wr hJs (by rw [downs_length]; exact hlt)
   obtain ⟨fn, tmps, assign, body, hy, hR⟩ := hYx
   simp only [encW, tkV] at hy
   have hidx : (len : Int) - 1 - (k : Int) = (i : Int) := by omega
   have hil : i < len := by omega
   have hic : i < cap := by omega
   have HI := Lib.hid hi
   have HX := Lib.hid hx
   clear hi hx
   rw [hidx]
   gi_wp2
   refine ⟨fun h => absurd h (by decide), hR.mono ?_⟩
   rintro e W3 (⟨rfl, hJ3, hk3⟩ | ⟨rfl, hJx3⟩)
   ·gi_wp2
    go_roundw
    case rel =>
     refine ⟨k + 1, by omega, by congr 1; omega, ?_, hnx.trans hk3⟩
     rw [downs_succ, show zs.length = len from hz, ← HX.out, ← HI.out]
     exact hJ3
    case measure => (simp [intOf] <;> omega)
   ·gi_wp2
    refine bodyPost_ret (results_none rfl _ _ _) rfl ?_
    refine ⟨⟨_, rfl⟩, .inr ⟨_, ⟨k + 1, by omega, rfl⟩, ?_⟩⟩
    rw [downs_succ, show zs.length = len from hz, ← HX.out, ← HI.out]
    exact hJx3
  ·obtain rfl : k = len := by omega
   gi_wp2
   go_end0
   exact ⟨⟨_, rfl⟩, .inl ⟨_, rfl, hJs⟩⟩

set_option maxRecDepth 100000 in
set_option maxHeartbeats 1000000 in
theorem back1_nil (n : Nat) (l Bs : Nat) (A : Option Addr) (c : Nat) (J : List (Nat × Lx.Tk) → World → Prop) (W : World) (hs : W.cell? ⟨Bs, 0, none⟩ = some (.slice A 0 c)) (h0 : J [] W) :
  CallsIn Fence.wide n Tryz.prog 153 #[.func (.yield l) #[] #[], .pointer (some ⟨Bs, 0, none⟩)] W fun e W' => (∃ v, e = .returned v) ∧ J [] W' := by
 refine callsIn_of_wp Tryz.func153 rfl trivial ?_ rfl
 simp only [Tryz.ntmps153, List.size_toArray, List.length_cons, List.length_nil, Nat.reduceAdd, Nat.reduceSub, Array.replicate_succ, Array.replicate_zero, List.push_toArray, List.append_toArray, List.nil_append, List.cons_append]
 gi_wp2
 gi_loopw [3] (fun i wr => i = .int .i64 (-1) ∧ J [] wr) (fun _ _ => 0)
 case atStart => exact ⟨rfl, h0⟩
 case round =>
  obtain ⟨rfl, hJs⟩ := hrel
  gi_wp2
  go_end0
  exact ⟨⟨_, rfl⟩, hJs⟩

theorem back_stops (n : Nat) (Bs n1 b : Nat) (v : Value) (zs : List Lx.Tk) (w : World) (hm : zs.length ≤ 140737488351232) (hBs : Bs < n1) (hBb : Bs ≠ b) (hn1 : n1 ≤ w.heap.size)
  (hs : w.cell? ⟨Bs, 0, none⟩ = some v) (hv : (∃ A c, v = .slice A 0 c ∧ zs = []) ∨ ∃ g cap, v = .slice (some ⟨g, 0, none⟩) zs.length cap ∧ zs.length ≤ cap ∧ g < n1 ∧ g ≠ b ∧
   ∀ (i : Nat) x, zs[i]? = some x → w.cell? ⟨g, i * 4, none⟩ = some (.int .i64 (x.k : Int)) ∧ w.cell? ⟨g, i * 4 + 1, none⟩ = some (.string (ba x.t)) ∧ w.cell? ⟨g, i * 4 + 2, none⟩ = some (.int .i64 (x.n : Int)) ∧ w.cell? ⟨g, i * 4 + 3, none⟩ = some (.int .i64 (x.pos : Int))) :
  SeqStopsK Fence.wide n Tryz.prog 153 #[.pointer (some ⟨Bs, 0, none⟩)] encW (Ku n1 b) (fun ys => ys = downs zs zs.length) (fun pre => ∃ k, k ≤ zs.length ∧ pre = downs zs k) zs.length w := fun l J Jx W hW _ _ hY h0 => by
 have hcell : ∀ g j, g < n1 → W.cell? ⟨g, j, none⟩ = w.cell? ⟨g, j, none⟩ := fun g j hg => World.cell?_of_block (w := w) (hW.block g (by omega))
 rcases hv with ⟨A, c, rfl, rfl⟩ | ⟨g, cap, rfl, hcap, hg, hgb, hc⟩
 ·exact (back1_nil n l Bs A c J W ((hcell _ _ hBs).trans hs) h0).mono fun e W' ⟨he, hj⟩ => ⟨he, .inl ⟨_, rfl, hj⟩⟩
 ·refine back1_in n l Bs n1 b g zs.length cap zs rfl hcap hm hBs hBb hg hgb J Jx hY W ((hcell _ _ hBs).trans hs) (fun i x hx => ?_) h0
  rw [hcell _ _ hg, hcell _ _ hg, hcell _ _ hg, hcell _ _ hg]
  exact hc i x hx
end Go.Proofs.YtmodmojocclmaaaGreatDoor
