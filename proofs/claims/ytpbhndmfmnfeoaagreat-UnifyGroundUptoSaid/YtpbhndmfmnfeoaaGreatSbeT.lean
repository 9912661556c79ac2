/- The library's iterator from a slice's end, at layers; of: what a substitution says of a number. -/
import Derived.Test.YtpbhndmfmnfeoaaGreatMg01
import Derived.RangeFuncNested
import Derived.RangeFuncBound
import Derived.RangeFuncCalls
import Derived.RangeFuncLeaves
import Derived.RangeFuncFrom
import Derived.RangeFuncBox
import Derived.Shelf.RegionOpen
import Derived.WalkKit
import Derived.OwnWalkIn
import Derived.TacticsInMore
import Derived.LoopNIn
import Derived.LoopIn
import Derived.Outline
namespace Go.Proofs.YtpbhndmfmnfeoaaGreat
open Go.RowKit Go.Shelf Go.Maps
attribute [local go_sem] Oper.semAt_some

/-- A layer that lies in a world. -/
abbrev LyAt (w : World) (k : Nat) := { l : Ly // MapI w k l.1 l.2.1 l.2.2 }
def encY {α : Type} (f : α → Value) (x : Nat × α) : Array Value := #[.int .i64 (x.1 : Int), f x.2]
/-- What has come when m rounds are over. -/
def dns {α : Type} (zs : List α) (m : Nat) : List (Nat × α) := (zs.reverse.take m).zipIdx.map fun p => (zs.length - 1 - p.2, p.1)
theorem dns_length {α : Type} (zs : List α) (m : Nat) (h : m ≤ zs.length) : (dns zs m).length = m := by simp [dns]; omega
theorem dns_succ {α : Type} (zs : List α) (m : Nat) (h : m < zs.length) (x : α) (hx : zs[zs.length - 1 - m]? = some x) : dns zs (m + 1) = dns zs m ++ [(zs.length - 1 - m, x)] := by
  have h1 : zs.reverse[m]? = some x := by rw [List.getElem?_reverse h]; exact hx
  unfold dns
  rw [take_step _ _ _ h1, List.zipIdx_append, List.map_append]
  simp
  omega
theorem dns_snd {α : Type} (zs : List α) (m : Nat) : (dns zs m).map Prod.snd = zs.reverse.take m := by
  unfold dns
  rw [List.map_map]
  have : (Prod.snd ∘ fun p : α × Nat => (zs.length - 1 - p.2, p.1)) = Prod.fst := rfl
  rw [this]
  exact List.zipIdx_map_fst _ _
theorem foldl_over (n : Int) : ∀ (ls : List Ly) (g : GMap), ls.foldl (fun g l => overG g l.2.2) g n = match ls.reverse.findSome? (fun l => l.2.2 n) with | some v => some v | none => g n
  | [], g => rfl
  | l :: ls, g => by
    rw [List.foldl_cons, foldl_over n ls, List.reverse_cons, List.findSome?_append]
    cases h : ls.reverse.findSome? (fun l => l.2.2 n) with
    | some v => simp
    | none =>
      simp only [List.findSome?_cons, List.findSome?_nil, Option.none_or, overG]
      cases l.2.2 n <;> rfl
theorem lyOver_rev (n : Int) (ls : List Ly) : lyOver ls n = ls.reverse.findSome? fun l => l.2.2 n := by
  unfold lyOver
  rw [foldl_over]
  cases ls.reverse.findSome? (fun l => l.2.2 n) <;> rfl
theorem look_none {α : Type} (f : α → Ly) (n : Int) (zs : List α) (h : ∀ x ∈ dns zs zs.length, (f x.2).2.2 n = none) : lyOver (zs.map f) n = none := by
  rw [lyOver_rev, List.findSome?_eq_none_iff]
  intro l hl
  rw [List.mem_reverse, List.mem_map] at hl
  obtain ⟨z, hz, rfl⟩ := hl
  have h1 : z ∈ (dns zs zs.length).map Prod.snd := by
    rw [dns_snd, List.take_of_length_le (by simp)]
    exact List.mem_reverse.2 hz
  obtain ⟨x, hx, rfl⟩ := List.mem_map.1 h1
  exact h x hx
theorem look_some {α : Type} (f : α → Ly) (n : Int) (zs : List α) (k : Nat) (pre : List (Nat × α)) (x : Nat × α) (cs : Array Value) (he : dns zs k = pre ++ [x]) (h : ∀ y ∈ pre, (f y.2).2.2 n = none) (hx : (f x.2).2.2 n = some cs) : lyOver (zs.map f) n = some cs := by
  rw [lyOver_rev, ← List.map_reverse, List.findSome?_map]
  have h1 : zs.reverse = pre.map Prod.snd ++ [x.2] ++ zs.reverse.drop k := by
    have h2 := dns_snd zs k
    rw [he, List.map_append] at h2
    rw [show [x.2] = [x].map Prod.snd from rfl, h2, List.take_append_drop]
  rw [h1, List.append_assoc, List.findSome?_append, List.findSome?_append]
  have h3 : (pre.map Prod.snd).findSome? ((fun l : Ly => l.2.2 n) ∘ f) = none := by
    rw [List.findSome?_eq_none_iff]
    intro y hy
    obtain ⟨p, hp, rfl⟩ := List.mem_map.1 hy
    exact h p hp
  rw [h3]
  simp [hx]

namespace Sb
theorem setRow_other (w : World) (g : Nat) (cs : Array Value) (k : Nat) (h : k ≠ g) : (w.setRow g cs).heap[k]? = w.heap[k]? := by
  simp only [World.setRow, Array.getElem?_modify]
  rw [if_neg (by omega)]
theorem setRow_at {w : World} {g : Nat} {t : TypeId} {cs : Array Value} (h : Lies w g t cs) (cs' : Array Value) : Lies (w.setRow g cs') g t cs' := by
  unfold Lies at h ⊢
  simp only [World.setRow, Array.getElem?_modify, if_true, h]
  rfl
theorem setRow_far {w : World} {g g' : Nat} {t : TypeId} {cs : Array Value} (h : Lies w g t cs) (cs' : Array Value) (hne : g ≠ g') : Lies (w.setRow g' cs') g t cs := (setRow_other w g' cs' g hne).trans h
theorem below_setRow {B : Nat} {a w : World} (h : Below B a w) {g : Nat} (hg : B ≤ g) (cs : Array Value) : Below B a (w.setRow g cs) :=
  ⟨h.os, h.tape, h.output, by rw [size_setRow]; exact h.size, fun i hi => (setRow_other w g cs i (by omega)).trans (h.block i hi)⟩
theorem others_setRow {W : World} {g : Nat} {t : TypeId} {cs : Array Value} (h : Lies W g t cs) (cs' : Array Value) : KeepsOthers W (W.setRow g cs') :=
  ⟨by rw [size_setRow]; exact Nat.le_refl _, fun k o hk ho => by
    by_cases e : k = g
    · subst e; unfold Lies at h; rw [h] at hk; cases hk; cases ho
    · exact (setRow_other W g cs' k e).trans hk⟩
theorem cells_kept {w w' : World} {row : Option Nat} (hg : w.grownBy w' row) (hr : ∀ r, row = some r → ∃ o : Obj, w.heap[r]? = some o ∧ o.isCells = false) {g : Nat} {c : Array Value} {t : TypeId} {f : Nat × Nat} (h : w.heap[g]? = some (.cells c t f)) : w'.heap[g]? = w.heap[g]? :=
  hg.block g (lt_of_block h) (fun e => by
    obtain ⟨o, ho, hc⟩ := hr g e.symm
    rw [h] at ho
    cases ho
    cases hc)
theorem lies_kept {w w' : World} {g : Nat} {t : TypeId} {cs : Array Value} (h : Lies w g t cs) {row : Option Nat} (hg : w.grownBy w' row) (hr : ∀ r, row = some r → ∃ o : Obj, w.heap[r]? = some o ∧ o.isCells = false) : Lies w' g t cs :=
  (cells_kept hg hr h).trans h
section
variable {F : Fence} {n : Nat} {P : Program} {ops : Array Oper} {rest : List Oper} {o : Oper} {a : Act} {w : World} {Q : Exit → Act → World → Prop}
theorem wpListIn_ran (hg : o.guard = none) (hnd : ∀ c, o.op ≠ .defer c) (hab : o.about P w a.eval = none) {v : Value} {w' : World} (hrun : (execOp a.eval o).run P w = .ok (.value v) w') (h : wpListIn F n P ops Q rest (a.put o.dst v) w') : wpListIn F n P ops Q (o :: rest) a w := by
  refine wpListIn_plain hg fun K hK => ?_
  unfold Oper.wpIn
  refine ⟨fun f hf => (by rw [hab] at hf; cases hf), ?_⟩
  rw [Oper.semAt_plain F _ _ hnd, hrun]
  exact hK _ _ h
theorem wpListIn_row_load (hgd : o.guard = none) (ty : TypeId) (x : Operand) (ho : o.op = .load ty x)
    (g : Nat) (hx : a.eval x = .pointer (some ⟨g, 0, none⟩)) (t : TypeId) (cs : Array Value) (fr : Nat × Nat) (d : TypeDesc) (hg : w.heap[g]? = some (.cells cs t fr))
    (hu : P.underlying ty = some d) (hd : (match d with | .struct _ | .array _ _ => true | _ => false) = true) (hi : (P.info? ty).map (·.size) = some cs.size)
    (h : wpListIn F n P ops Q rest (a.put o.dst (.agg cs)) w) : wpListIn F n P ops Q (o :: rest) a w :=
  wpListIn_ran hgd (by rw [ho]; intro c hc; cases hc) (by simp [Oper.about, ho]) (v := .agg cs) (by simp [execOp, ho, hx, Instr.loadAt, Instr.sureAddr, Result.andThen, run_loadVar_row w g t ty cs fr d hg hu hd hi]) h
theorem wpListIn_row_store (hgd : o.guard = none) (ty : TypeId) (x y : Operand) (ho : o.op = .store ty x y)
    (hd : o.dst = none) (g : Nat) (cells : Array Value) (hx : a.eval x = .pointer (some ⟨g, 0, none⟩)) (hy : a.eval y = .agg cells)
    (t : TypeId) (old : Array Value) (hg : w.heap[g]? = some (.cells old t (0, 0))) (hi : (P.info? ty).map (·.size) = some cells.size)
    (hold : old.size = cells.size) (h1 : cells.all (·.oneCell') = true)
    (h : wpListIn F n P ops Q rest a (w.setRow g cells)) : wpListIn F n P ops Q (o :: rest) a w := by
  refine wpListIn_plain hgd fun K hK => ?_
  unfold Oper.wpIn
  refine ⟨fun f hf => (by simp [Oper.about, ho] at hf), ?_⟩
  rw [Oper.semAt_plain F _ _ (by rw [ho]; intro c hc; cases hc)]
  have hr := run_storeVar_row (P := P) w g t ty old cells hg hi hold h1
  simp [execOp, ho, hx, hy, Instr.storeAt, Instr.sureAddr, Result.andThen, hr]
  have := hK _ _ h
  show K (a.put o.dst undef) _
  rw [hd]
  exact this
end
theorem wpListIn_look {F : Fence} {nn : Nat} {w : World} {ops : Array Oper} {rest : List Oper} {o : Oper} {a : Act} {Q : Exit → Act → World → Prop}
    (hg : o.guard = none) (m x : Operand) (t : TypeId) (hop : o.op = Op.lookup t m x true) {e : TypeId} {s b k : Nat} {g : GMap} {z : Value} (h : MapI w s b k g) (ht : Tryz.prog.underlying t = some (.map 3 e)) (hz : (zeroValue e).run Tryz.prog w = .ok z w)
    (hm : a.eval m = .map (some b)) {n : Int} (hn : i64ok n) (hx : a.eval x = .int .i64 n)
    (hK : wpListIn F nn Tryz.prog ops Q rest (a.put o.dst (.tuple #[lookV z (g n), .bool (g n).isSome])) w) : wpListIn F nn Tryz.prog ops Q (o :: rest) a w := by
  have hrun := h.look ht hz hn
  exact wpListIn_ran hg (by rw [hop]; intro c hc; cases hc) (by simp [Oper.about, hop]) (v := .tuple #[lookV z (g n), .bool (g n).isSome]) (w' := w) (by simp [execOp, hop, hm, hx, hrun, Result.andThen]) hK
theorem results_two {P : Program} {fn : Func} {p q : Tmp} {ty tb : TypeId} (h : fn.results = #[.cell p ty, .cell q tb]) (tmps : Array Value) (w : World) (g g2 : Nat) (t : TypeId) (cs : Array Value) (fr : Nat × Nat) (d : TypeDesc) (b : Bool)
    (hp : tmps.getD p undef = .pointer (some ⟨g, 0, none⟩)) (hg : w.heap[g]? = some (.cells cs t fr)) (hu : P.underlying ty = some d) (hd : (match d with | .struct _ | .array _ _ => true | _ => false) = true) (hi : (P.info? ty).map (·.size) = some cs.size)
    (hq : tmps.getD q undef = .pointer (some ⟨g2, 0, none⟩)) (hl : (loadVar tb ⟨g2, 0, none⟩).run P w = .ok (.bool b) w) : (results fn tmps).run P w = .ok (.tuple #[.agg cs, .bool b]) w := by
  have hp' : tmps[p]?.getD undef = .pointer (some ⟨g, 0, none⟩) := by simpa using hp
  have hq' : tmps[q]?.getD undef = .pointer (some ⟨g2, 0, none⟩) := by simpa using hq
  simp [results, h, hp', hq', asAddr, run_loadVar_row w g t ty cs fr d hg hu hd hi, hl, Result.andThen]
theorem load_bool {w : World} {g : Nat} {b : Bool} (h : Lies w g 4 #[.bool b]) : (loadVar 4 ⟨g, 0, none⟩).run Tryz.prog w = .ok (.bool b) w := by
  have c0 := h.cell 0
  have hlt := h.lt
  go_simp
end Sb

set_option maxRecDepth 100000 in
set_option maxHeartbeats 2000000 in
theorem backT_any (A : Option Addr) (n c : Nat) (w : World) : Calls Tryz.prog 74 #[.slice A n c] w fun e w' => e = .returned (.func (.func 91) #[] #[.pointer (some ⟨w.heap.size, 0, none⟩)]) ∧ w' = w.alloc (.cells #[.slice A n c] 27) := by
  go_enter Tryz.func74, Tryz.ntmps74
  go_wp2
  go_ret
  exact ⟨rfl, rfl⟩

set_option maxRecDepth 100000 in
set_option maxHeartbeats 2000000 in
theorem backT1_in {α : Type} (f : α → Value) (n : Nat) (l Bs n1 : Nat) (A : Option Addr) (len cap : Nat) (zs : List α) (hz : zs.length = len) (hcap : len ≤ cap) (hm : len ≤ 1000000) (hBs : Bs < n1) (J Jx : List (Nat × α) → World → Prop)
    (hY : ∀ pre x W, J pre W → pre.length < len → YieldAt Fence.wide (n - 1) Tryz.prog l (encY f x) W fun e W' =>
      (e = .returned (.bool true) ∧ J (pre ++ [x]) W' ∧ Below n1 W W') ∨ (e = .returned (.bool false) ∧ Jx (pre ++ [x]) W'))
    (W : World) (hs : W.cell? ⟨Bs, 0, none⟩ = some (.slice A len cap))
    (hc : ∀ (i : Nat) x, zs[i]? = some x → ∃ g o, A = some ⟨g, o, none⟩ ∧ g < n1 ∧ W.cell? ⟨g, o + i, none⟩ = some (f x))
    (h0 : J [] W) :
    CallsIn Fence.wide n Tryz.prog 91 #[.func (.yield l) #[] #[], .pointer (some ⟨Bs, 0, none⟩)] W fun e W' => (∃ v, e = .returned v) ∧
      ((∃ ys, ys = dns zs len ∧ J ys W') ∨ (∃ pre, (∃ k, k ≤ len ∧ pre = dns zs k) ∧ Jx pre W')) := by
  have HC := Lib.hid hc
  have HY := Lib.hid hY
  have HS := Lib.hid hs
  clear hc hY
  refine callsIn_of_wp Tryz.func91 rfl trivial ?_ rfl
  simp only [Tryz.ntmps91, List.size_toArray, List.length_cons, List.length_nil, Nat.reduceAdd, Nat.reduceSub, Array.replicate_succ, Array.replicate_zero, List.push_toArray, List.append_toArray, List.nil_append, List.cons_append]
  gi_wp2
  clear hs
  gi_loopw [3] (fun i wr => ∃ k : Nat, k ≤ len ∧ i = .int .i64 ((len : Int) - 1 - k) ∧ J (dns zs k) wr ∧ Below n1 W wr)
    (fun i _ => (intOf i + 1).toNat)
  case atStart => exact ⟨0, Nat.zero_le _, by simp, h0, Below.refl _ _⟩
  case round =>
    obtain ⟨k, hk, rfl, hJs, hnx⟩ := hrel
    have hs' : wr.cell? ⟨Bs, 0, none⟩ = some (.slice A len cap) := (World.cell?_of_block (w := W) (hnx.block Bs hBs)).trans HS.out
    by_cases hlt : k < len
    · obtain ⟨x, hx⟩ : ∃ x, zs[len - 1 - k]? = some x := ⟨_, List.getElem?_eq_getElem (by omega)⟩
      obtain ⟨g, o, rfl, hg, a0⟩ := HC.out _ _ hx
      have e : ∀ j, wr.cell? ⟨g, j, none⟩ = W.cell? ⟨g, j, none⟩ := fun j => World.cell?_of_block (w := W) (hnx.block g hg)
      rw [← e] at a0
      have hds : dns zs (k + 1) = dns zs k ++ [(len - 1 - k, x)] := by
        have := dns_succ zs k (by omega) x (by rw [hz]; exact hx)
        rw [hz] at this
        exact this
      clear e hx
      obtain ⟨i, hi⟩ : ∃ i, i = len - 1 - k := ⟨_, rfl⟩
      rw [← hi] at a0 hds
      have hYx := HY.out _ (i, x) wr hJs (by rw [dns_length _ _ (by omega)]; exact hlt)
      obtain ⟨fn, tmps, assign, body, hy, hR⟩ := hYx
      simp only [encY] at hy
      have hidx : (len : Int) - 1 - (k : Int) = (i : Int) := by omega
      have hil : i < len := by omega
      have hic : i < cap := by omega
      have HI := Lib.hid hi
      have HD := Lib.hid hds
      clear hi hds
      rw [hidx]
      gi_wp2
      refine ⟨fun h => absurd h (by decide), hR.mono ?_⟩
      rintro e W3 (⟨rfl, hJ3, hk3⟩ | ⟨rfl, hJx3⟩)
      · gi_wp2
        go_roundw
        case rel =>
          refine ⟨k + 1, by omega, by congr 1; omega, ?_, hnx.trans hk3⟩
          rw [HD.out]
          exact hJ3
        case measure => (simp [intOf] <;> omega)
      · gi_wp2
        refine bodyPost_ret (results_none rfl _ _ _) rfl ?_
        refine ⟨⟨_, rfl⟩, .inr ⟨_, ⟨k + 1, by omega, rfl⟩, ?_⟩⟩
        rw [HD.out]
        exact hJx3
    · obtain rfl : k = len := by omega
      gi_wp2
      go_end0
      exact ⟨⟨_, rfl⟩, .inl ⟨_, rfl, hJs⟩⟩

theorem backT_stops {α : Type} (f : α → Value) (n : Nat) (Bs n1 : Nat) (A : Option Addr) (c : Nat) (zs : List α) (w : World) (hm : zs.length ≤ 1000000) (hcap : zs.length ≤ c) (hBs : Bs < n1) (hn1 : n1 ≤ w.heap.size)
    (hs : w.cell? ⟨Bs, 0, none⟩ = some (.slice A zs.length c)) (hc : ∀ (i : Nat) x, zs[i]? = some x → ∃ g o, A = some ⟨g, o, none⟩ ∧ g < n1 ∧ w.cell? ⟨g, o + i, none⟩ = some (f x)) :
    SeqStopsK Fence.wide n Tryz.prog 91 #[.pointer (some ⟨Bs, 0, none⟩)] (encY f) (Below n1) (fun ys => ys = dns zs zs.length) (fun pre => ∃ k, k ≤ zs.length ∧ pre = dns zs k) zs.length w := fun l J Jx W hW _ _ hY h0 => by
  have hcell : ∀ g j, g < n1 → W.cell? ⟨g, j, none⟩ = w.cell? ⟨g, j, none⟩ := fun g j hg => World.cell?_of_block (w := w) (hW.block g (by omega))
  refine backT1_in f n l Bs n1 A zs.length c zs rfl hcap hm hBs J Jx hY W ((hcell _ _ hBs).trans hs) (fun i x hx => ?_) h0
  obtain ⟨g, o, h1, h2, h3⟩ := hc i x hx
  exact ⟨g, o, h1, h2, (hcell _ _ h2).trans h3⟩
theorem enter_backT (args : Array Value) (w : World) : (callFunc 91 args).run Tryz.prog w = .ok (.enter 91 args) w := by go_simp

set_option maxRecDepth 100000 in
set_option maxHeartbeats 4000000 in
/-- What is said of a number. -/
theorem ofT_any (w : World) (zs : List (LyAt w 6)) (v : Value) (n : Int) (hn : i64ok n) (hv : SrcV w v (zs.map fun z => lyV z.1)) (hl : zs.length ≤ 1000000) :
    Calls Tryz.prog 59 #[.agg #[v], .int .i64 n] w fun e w' => e = .returned (.tuple #[lookV (.agg #[.int .i64 0, .string ⟨#[]⟩, .int .i64 0, .slice none 0 0, .slice none 0 0, .int .i64 0]) (lyOver (zs.map (·.1)) n), .bool (lyOver (zs.map (·.1)) n).isSome]) ∧ Below w.heap.size w w' := by
  obtain ⟨A, c, rfl, hc, hcell⟩ := hv.form (by simpa using hl)
  rw [List.length_map] at hc ⊢
  have HC := Lib.hid hcell
  clear hcell hv
  obtain ⟨W0, hW0⟩ : ∃ W0, W0 = (((((w.alloc (Obj.cells #[Value.slice A zs.length c] 29)).alloc (Obj.cells #[Value.int IntKind.i64 n] 3)).alloc (Obj.cells #[.int .i64 0, .string ⟨#[]⟩, .int .i64 0, .slice none 0 0, .slice none 0 0, .int .i64 0] 44)).alloc (Obj.cells #[Value.bool false] 4)).alloc (Obj.cells #[Value.slice A zs.length c] 27)) := ⟨_, rfl⟩
  have hb0 : Below w.heap.size w W0 := by rw [hW0]; exact (((((Below.refl _ w).alloc (Nat.le_refl _) _).alloc (by simp) _).alloc (by simp; omega) _).alloc (by simp; omega) _).alloc (by simp; omega) _
  have hz0 : W0.heap.size = w.heap.size + 5 := by rw [hW0]; simp
  have hs0 : W0.cell? ⟨w.heap.size + 4, 0, none⟩ = some (.slice A zs.length c) := by rw [hW0]; exact (Lies.new' _ _ #[Value.slice A zs.length c] (N := w.heap.size + 4) (by simp)).cell 0
  have hn0 : Lies W0 (w.heap.size + 1) 3 #[.int .i64 n] := by rw [hW0]; exact (((Lies.new' _ _ #[Value.int IntKind.i64 n] (N := w.heap.size + 1) (by simp)).alloc _).alloc _).alloc _
  have ht0 : Lies W0 (w.heap.size + 2) 44 #[.int .i64 0, .string ⟨#[]⟩, .int .i64 0, .slice none 0 0, .slice none 0 0, .int .i64 0] := by rw [hW0]; exact ((Lies.new' _ _ _ (N := w.heap.size + 2) (by simp)).alloc _).alloc _
  have hf0 : Lies W0 (w.heap.size + 3) 4 #[.bool false] := by rw [hW0]; exact (Lies.new' _ _ _ (N := w.heap.size + 3) (by simp)).alloc _
  have HB0 := Lib.hid hb0
  have HZ0 := Lib.hid hz0
  have HN0 := Lib.hid hn0
  have HT0 := Lib.hid ht0
  have HF0 := Lib.hid hf0
  have HS0 := Lib.hid hs0
  have hcw : ∀ (i : Nat) x, zs[i]? = some x → ∃ g o, A = some ⟨g, o, none⟩ ∧ g < w.heap.size + 5 ∧ W0.cell? ⟨g, o + i, none⟩ = some (lyV x.1) := by
    intro i x hx
    obtain ⟨g, o, h1, h2⟩ := HC.out i (lyV x.1) (by rw [List.getElem?_map, hx]; rfl)
    have h3 := World.block_lt_of_cell? w _ h2
    exact ⟨g, o, h1, Nat.lt_of_lt_of_le h3 (by omega), (hb0.cell (p := ⟨g, o + i, none⟩) h3).trans h2⟩
  have HCW := Lib.hid hcw
  clear hb0 hz0 hn0 ht0 hf0 hs0 hcw
  refine callsIn_wide (n := 9) |>.1 (callsIn_of_wp_marks Tryz.func59 rfl trivial ?_ rfl)
  refine wpIn_wide.2 ?_
  simp only [Tryz.ntmps59, List.size_toArray, List.length_cons, List.length_nil, Nat.reduceAdd, Nat.reduceSub, Array.replicate_succ, Array.replicate_zero, List.push_toArray, List.append_toArray, List.nil_append, List.cons_append]
  go_wp2_with (first | (go_at_call 74; refine (backT_any _ _ _ _).mono ?_; rintro e w5 ⟨rfl, rfl⟩))
  rw [← hW0]
  have HW0 := Lib.hid hW0
  clear hW0
  refine wpIn_wide (n := 9) |>.1 ?_
  refine wpIn_rangeFunc_ownF (F := Fence.wide) (n := 9) rfl (by decide) (gf := 91) (lb := #[.pointer (some ⟨w.heap.size + 4, 0, none⟩)]) rfl trivial enter_backT
    (backT_stops (fun z : LyAt w 6 => lyV z.1) 8 (w.heap.size + 4) (w.heap.size + 5) A c zs W0 hl hc (by omega) (by rw [HZ0.out]; exact Nat.le_refl _) HS0.out HCW.out) Below.trans (belowK_b (by rw [HZ0.out]; exact Nat.le_refl _)) (Below.refl _ _) (fun _ => rfl)
    (fun pre W => (∀ y ∈ pre, y.2.1.2.2 n = none) ∧ Below (w.heap.size + 5) W0 W)
    (fun c pre W => c = .ret ∧ (∃ p x cs, pre = p ++ [x] ∧ (∀ y ∈ p, y.2.1.2.2 n = none) ∧ x.2.1.2.2 n = some cs ∧ cs.size = 6 ∧ Lies W (w.heap.size + 2) 44 cs ∧ Lies W (w.heap.size + 3) 4 #[.bool true]) ∧ Below w.heap.size w W)
    (fun pre X Y row h hg hr => ⟨h.1, h.2.grown hg (by have := h.2.size; rw [HZ0.out] at this; exact this) (fun k e => by have := (hr k e).1; rw [HZ0.out] at this; exact this)⟩)
    (fun c pre X Y row h hg hr => by
      obtain ⟨h1, ⟨p, x, cs, h2, h3, h4, h4', h5, h6⟩, h7⟩ := h
      have hr' : ∀ r, row = some r → ∃ o : Obj, X.heap[r]? = some o ∧ o.isCells = false := fun r e => (hr r e).2
      exact ⟨h1, ⟨p, x, cs, h2, h3, h4, h4', Sb.lies_kept h5 hg hr', Sb.lies_kept h6 hg hr'⟩, h7.grown hg h7.size (fun k e => by have := (hr k e).1; rw [HZ0.out] at this; omega)⟩)
    ⟨fun y hy => (by cases hy), Below.refl _ _⟩
    (fun x => { tmps := #[Value.agg #[Value.slice A zs.length c], Value.int IntKind.i64 n, Value.pointer (some { block := w.heap.size, off := 0 }), Value.pointer (some { block := w.heap.size + 1, off := 0 }), Value.pointer (some { block := w.heap.size + 1 + 1, off := 0 }), Value.pointer (some { block := w.heap.size + 1 + 1 + 1, off := 0 }), undef, lyV x.2.1, undef, undef, undef,
          Value.pointer (some { block := w.heap.size, off := 0 }), Value.slice A zs.length c, Value.func (Fn.func 91) #[] #[Value.pointer (some { block := w.heap.size + 1 + 1 + 1 + 1, off := 0 })], .int .i64 (x.1 : Int), lyV x.2.1, undef, undef, undef, undef, undef, undef, undef, undef, undef], defers := [] }) ?assign ?body ?done ?stop
  case assign =>
    intro l2 x W K hK
    dsimp only [encY]
    unfold lyV at hK ⊢
    gi_wp2
    exact hK
  case body =>
    rintro l2 pre x W ⟨hpre, hB⟩ hlt
    have hBw : Below w.heap.size w W := HB0.out.trans (hB.mono (by omega))
    have hM : MapI W 6 x.2.1.1 x.2.1.2.1 x.2.1.2.2 := x.2.2.later hBw
    have hnw := hB.block (w.heap.size + 1) (by omega)
    have hn1 : Lies W (w.heap.size + 1) 3 #[.int .i64 n] := hnw.trans HN0.out
    have cn := hn1.cell 0
    have ht1 : Lies W (w.heap.size + 2) 44 #[.int .i64 0, .string ⟨#[]⟩, .int .i64 0, .slice none 0 0, .slice none 0 0, .int .i64 0] := (hB.block (w.heap.size + 2) (by omega)).trans HT0.out
    have hf1 : Lies W (w.heap.size + 3) 4 #[.bool false] := (hB.block (w.heap.size + 3) (by omega)).trans HF0.out
    have hsW := hB.size
    rw [HZ0.out] at hsW
    have hx := hM.look Tryz.underlying129 (zero_T W) hn
    cases hg : x.2.1.2.2 n with
    | none =>
      have HP := Lib.hid hpre
      have HG := Lib.hid hg
      clear hpre
      unfold lyV
      rw [hg] at hx
      simp only [lookV, Option.isSome_none] at hx
      generalize x.2.1.1 = bb at hx hM
      clear hM hg
      gi_wp2
      refine ⟨KeepsOthers.alloc _ _, (Below.refl _ _).alloc hsW _, fun y hy => ?_, hB.alloc hsW _⟩
      rcases List.mem_append.1 hy with hy | hy
      · exact HP.out y hy
      · rw [List.mem_singleton.1 hy]; exact HG.out
    | some cs =>
      have hfit := hM.fit hn hg
      have hsc := hfit.1
      have hoc := hfit.2
      have HP := Lib.hid hpre
      clear hpre hfit
      have lz := Lies.new W 44 #[.int .i64 0, .string ⟨#[]⟩, .int .i64 0, .slice none 0 0, .slice none 0 0, .int .i64 0]
      have ht2 : Lies (W.alloc (.cells cs 44)) (w.heap.size + 2) 44 #[.int .i64 0, .string ⟨#[]⟩, .int .i64 0, .slice none 0 0, .slice none 0 0, .int .i64 0] := ht1.alloc _
      have hf2 : Lies ((W.alloc (.cells cs 44)).setRow (w.heap.size + 2) cs) (w.heap.size + 3) 4 #[.bool false] := Sb.setRow_far (hf1.alloc _) _ (by omega)
      have fb := hf2.free 0
      have cb := hf2.cell 0
      have hlt3 := hf2.lt
      have HF2 := Lib.hid hf2
      have HT1 := Lib.hid ht1
      have HG := Lib.hid hg
      unfold lyV
      rw [hg] at hx
      simp only [lookV, Option.isSome_some] at hx
      generalize x.2.1.1 = bb at hx hM
      clear hM hg ht1 hf1 hf2
      gi_wp2_with (first | (refine Sb.wpListIn_row_store rfl 44 (.tmp 8) (.tmp 20) rfl rfl W.heap.size cs rfl rfl 44 _ lz (by rw [size_T, hsc]) (by rw [hsc]; rfl) hoc ?_; rw [World.setRow_alloc_new]) | (refine Sb.wpListIn_row_load rfl 44 (.tmp 8) rfl _ rfl 44 cs (0, 0) _ (Lies.new W 44 _) Tryz.underlying44 rfl (by rw [size_T, hsc]) ?_) | (refine Sb.wpListIn_row_store rfl 44 (.tmp 4) (.tmp 23) rfl rfl (w.heap.size + 2) cs rfl rfl 44 _ ht2 (by rw [size_T, hsc]) (by rw [hsc]; rfl) hoc ?_))
      refine ⟨((KeepsOthers.alloc W _).trans (Sb.others_setRow (HT1.out.alloc _) _)).trans (KeepsOthers.setCell _ _ _), rfl, ⟨pre, x, cs, rfl, HP.out, HG.out, hsc, ?_, ?_⟩, ?_⟩
      · exact (Sb.setRow_at (HT1.out.alloc _) cs).far (p := ⟨w.heap.size + 1 + 1 + 1, 0, none⟩) (by simp) _
      · exact HF2.out.set 0 (.bool true)
      · exact (Sb.below_setRow (hBw.alloc (by omega) _) (by omega) cs).setCell (p := ⟨w.heap.size + 1 + 1 + 1, 0, none⟩) (by simp; omega) _
  case done =>
    rintro D ys W hD rfl ⟨hpre, hB⟩ hDD
    have hlook := look_none (fun z : LyAt w 6 => z.1) n zs hpre
    rw [HZ0.out] at hD
    have ht1 : Lies W (w.heap.size + 2) 44 #[.int .i64 0, .string ⟨#[]⟩, .int .i64 0, .slice none 0 0, .slice none 0 0, .int .i64 0] := (hB.block (w.heap.size + 2) (by omega)).trans HT0.out
    have hf1 : Lies W (w.heap.size + 3) 4 #[.bool false] := (hB.block (w.heap.size + 3) (by omega)).trans HF0.out
    have hsW := hB.size
    rw [HZ0.out] at hsW
    have hBw : Below w.heap.size w W := HB0.out.trans (hB.mono (by omega))
    have ht2 : Lies (W.alloc (.cells #[.int .i64 0, .string ⟨#[]⟩, .int .i64 0, .slice none 0 0, .slice none 0 0, .int .i64 0] 44)) (w.heap.size + 2) 44 #[.int .i64 0, .string ⟨#[]⟩, .int .i64 0, .slice none 0 0, .slice none 0 0, .int .i64 0] := ht1.alloc _
    have hf2 : Lies ((W.alloc (.cells #[.int .i64 0, .string ⟨#[]⟩, .int .i64 0, .slice none 0 0, .slice none 0 0, .int .i64 0] 44)).setRow (w.heap.size + 2) #[.int .i64 0, .string ⟨#[]⟩, .int .i64 0, .slice none 0 0, .slice none 0 0, .int .i64 0]) (w.heap.size + 3) 4 #[.bool false] := Sb.setRow_far (hf1.alloc _) _ (by omega)
    have fb := hf2.free 0
    have cb := hf2.cell 0
    have hlt3 := hf2.lt
    have HLK := Lib.hid hlook
    have HF2 := Lib.hid hf2
    have HT1 := Lib.hid ht1
    have HDD := Lib.hid hDD
    clear ht1 hf1 hf2 hpre hlook hDD
    go_wp2_with (first | (refine wpList_load_row rfl 44 (.tmp 10) rfl _ rfl 44 _ (0, 0) _ (Lies.new W 44 _) Tryz.underlying44 rfl (by rw [size_T]; rfl) ?_) | (refine wpList_store_rowTo rfl 44 (.tmp 4) (.tmp 24) rfl rfl (w.heap.size + 2) #[.int .i64 0, .string ⟨#[]⟩, .int .i64 0, .slice none 0 0, .slice none 0 0, .int .i64 0] rfl rfl 44 _ ht2 (by rw [size_T]; rfl) rfl (by kernel_rfl) ?_))
    have hDD2 : (((W.alloc (.cells #[.int .i64 0, .string ⟨#[]⟩, .int .i64 0, .slice none 0 0, .slice none 0 0, .int .i64 0] 44)).setRow (w.heap.size + 2) #[.int .i64 0, .string ⟨#[]⟩, .int .i64 0, .slice none 0 0, .slice none 0 0, .int .i64 0]).setCell ⟨w.heap.size + 1 + 1 + 1, 0, none⟩ (.bool false)).heap[D]? = some (.deferred (some [])) := by
      have hDW := (Array.getElem?_eq_some_iff.1 HDD.out).1
      refine (Below.heap_setCell _ ⟨w.heap.size + 1 + 1 + 1, 0, none⟩ _ D (by simp; omega)).trans ((Sb.setRow_other _ _ _ D (by omega)).trans ((Below.heap_alloc _ _ D hDW).trans HDD.out))
    refine ⟨by simp, .inl ⟨_, _, rfl, run_takeDeferred hDD2, ?_⟩⟩
    have g2 := (Sb.setRow_at (HT1.out.alloc (.cells #[.int .i64 0, .string ⟨#[]⟩, .int .i64 0, .slice none 0 0, .slice none 0 0, .int .i64 0] 44)) #[.int .i64 0, .string ⟨#[]⟩, .int .i64 0, .slice none 0 0, .slice none 0 0, .int .i64 0]).far (p := ⟨w.heap.size + 1 + 1 + 1, 0, none⟩) (by simp) (.bool false)
    have g3 := HF2.out.set 0 (.bool false)
    have p2 := (World.putObj_heap_other (o := (.deferred none)) (r := D) (by omega)).trans g2
    have p3 := (World.putObj_heap_other (o := (.deferred none)) (r := D) (by omega)).trans g3
    refine ⟨.tuple #[.agg #[.int .i64 0, .string ⟨#[]⟩, .int .i64 0, .slice none 0 0, .slice none 0 0, .int .i64 0], .bool false], Sb.results_two rfl _ _ (w.heap.size + 2) (w.heap.size + 3) 44 #[.int .i64 0, .string ⟨#[]⟩, .int .i64 0, .slice none 0 0, .slice none 0 0, .int .i64 0] (0, 0) _ false rfl p2 Tryz.underlying44 rfl (by rw [size_T]; rfl) rfl (Sb.load_bool p3), ?_, ?_⟩
    · have h := HLK.out
      rw [h]
      rfl
    · exact ((Sb.below_setRow (hBw.alloc (by omega) _) (by omega) _).setCell (p := ⟨w.heap.size + 1 + 1 + 1, 0, none⟩) (by simp; omega) _).grown (grownBy_putObj' _ D _) (by simp; omega) (fun k e => by cases e; omega)
  case stop =>
    rintro D c pre W hD ⟨k, hk, rfl⟩ ⟨rfl, ⟨p, x, cs, he, hp, hx, hsc, h5, h6⟩, hBw⟩ hDD
    have hlook := look_some (fun z : LyAt w 6 => z.1) n zs k p x cs he hp hx
    have HLK := Lib.hid hlook
    have H5 := Lib.hid h5
    have H6 := Lib.hid h6
    rw [HZ0.out] at hD
    clear hlook he hp hx h5 h6
    gi_wp2
    refine ⟨by simp, .inl ⟨_, _, rfl, run_takeDeferred hDD, ?_⟩⟩
    have p2 := (World.putObj_heap_other (o := (.deferred none)) (r := D) (by omega)).trans H5.out
    have p3 := (World.putObj_heap_other (o := (.deferred none)) (r := D) (by omega)).trans H6.out
    refine ⟨.tuple #[.agg cs, .bool true], Sb.results_two rfl _ _ (w.heap.size + 2) (w.heap.size + 3) 44 cs (0, 0) _ true rfl p2 Tryz.underlying44 rfl (by rw [size_T, hsc]) rfl (Sb.load_bool p3), ?_, ?_⟩
    · have h := HLK.out
      rw [h]
      rfl
    · exact hBw.grown (grownBy_putObj' _ D _) hBw.size (fun k e => by cases e; omega)
end Go.Proofs.YtpbhndmfmnfeoaaGreat
