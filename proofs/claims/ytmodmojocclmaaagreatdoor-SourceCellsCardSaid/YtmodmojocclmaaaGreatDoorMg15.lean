/- The machine of package source: frames are put back: the library's iterator from a slice's end, at parts. -/
import Derived.Test.YtmodmojocclmaaaGreatDoorMg14
import Derived.RangeFuncNested
import Derived.RangeFuncBound
import Derived.RangeFuncCalls
import Derived.RangeFuncLeaves
import Derived.RangeFuncFrom
import Derived.RangeFuncBox
import Derived.Shelf.RegionOpen
import Derived.WalkKit
import Derived.OwnWalkIn
import Derived.TacticsInMore
import Derived.LoopNIn
import Derived.LoopIn
import Derived.Outline
import Derived.Maps.AppendAt
import Derived.OwnWalk
namespace Go.Proofs.YtmodmojocclmaaaGreatDoor.K
open Go.RowKit Go.Shelf
attribute [local go_sem] Oper.semAt_some
namespace So

structure Kb (n b : Nat) (w w' : World) : Prop where
 os : w'.os = w.os
 tape : w'.tape = w.tape
 output : w'.output = w.output
 size : w.heap.size ≤ w'.heap.size
 block : ∀ i, i < n → i ≠ b → w'.heap[i]? = w.heap[i]?
theorem Kb.refl (n b : Nat) (w : World) : Kb n b w w := ⟨rfl, rfl, rfl, Nat.le_refl _, fun _ _ _ => rfl⟩
theorem Kb.trans {n b : Nat} {A B C : World} (h : Kb n b A B) (k : Kb n b B C) : Kb n b A C :=
 ⟨k.os.trans h.os, k.tape.trans h.tape, k.output.trans h.output, Nat.le_trans h.size k.size, fun i h1 h2 => (k.block i h1 h2).trans (h.block i h1 h2)⟩
theorem Kb.alloc {n b : Nat} {A w : World} (h : Kb n b A w) (hn : n ≤ w.heap.size) (o : Obj) : Kb n b A (w.alloc o) :=
 h.trans ⟨rfl, rfl, rfl, by simp, fun i hi _ => Below.heap_alloc w o i (by omega)⟩
theorem Kb.putObj {n b : Nat} {A w : World} (h : Kb n b A w) {l : Nat} (hl : n ≤ l) (o : Obj) : Kb n b A (w.putObj l o) :=
 h.trans ⟨rfl, rfl, rfl, by simp, fun i hi hb => World.putObj_heap_other (by omega)⟩
theorem Kb.grown {n b : Nat} {A w w' : World} (h : Kb n b A w) {row : Option Nat} (hg : w.grownBy w' row) (hs : n ≤ w.heap.size) (hr : ∀ r, row = some r → n ≤ r) : Kb n b A w' :=
 h.trans ⟨hg.os, hg.tape, hg.output, hg.size, fun i hi hb => hg.block i (by omega) (fun e => by have := hr i e.symm; omega)⟩
theorem kb_b {n b : Nat} {w : World} (hn : n ≤ w.heap.size) (W : World) (l : Nat) (o o' : Obj) (hl : w.heap.size ≤ l) (_ : W.heap[l]? = some o) (_ : o.isCells = false) (_ : o.isWalk = false) : Kb n b W (W.putObj l o') :=
 (Kb.refl n b W).putObj (by omega) _
theorem Kb.bt {n b : Nat} {A w w' : World} (h : Kb n b A w) (k : Bt b w w') (hn : n ≤ w.heap.size) : Kb n b A w' := h.trans ⟨k.os, k.tape, k.output, k.size, fun i hi hb => k.block i (by omega) hb⟩

abbrev PP := Option Addr × Option Addr
def encP {α : Type} (f : α → PP) (x : Nat × α) : Array Value := #[.int .i64 (x.1 : Int), .agg #[.pointer (f x.2).1, .pointer (f x.2).2]]
def dnP {α : Type} (zs : List α) (m : Nat) : List (Nat × α) := (zs.reverse.take m).zipIdx.map fun p => (zs.length - 1 - p.2, p.1)
theorem dnP_length {α : Type} (zs : List α) (m : Nat) (h : m ≤ zs.length) : (dnP zs m).length = m := by simp [dnP]; omega
theorem dnP_succ {α : Type} (zs : List α) (m : Nat) (h : m < zs.length) (x : α) (hx : zs[zs.length - 1 - m]? = some x) : dnP zs (m + 1) = dnP zs m ++ [(zs.length - 1 - m, x)] := by
 unfold dnP
 have h1 : zs.reverse[m]? = some x := by rw [List.getElem?_reverse h]; exact hx
 rw [take_step _ _ _ h1, List.zipIdx_append]
 simp
 omega
theorem dnP_snd {α : Type} (zs : List α) (m : Nat) : (dnP zs m).map Prod.snd = zs.reverse.take m := by
 unfold dnP
 rw [List.map_map]
 rw [show (Prod.snd ∘ fun p : α × Nat => (zs.length - 1 - p.2, p.1)) = Prod.fst from rfl]
 simp [List.zipIdx_map_fst]
set_option maxRecDepth 100000 in
set_option maxHeartbeats 2000000 in
theorem backP_any (A : Option Addr) (n c : Nat) (w : World) : Calls Tryz.prog 197 #[.slice A n c] w fun e w' => e = .returned (.func (.func 198) #[] #[.pointer (some ⟨w.heap.size, 0, none⟩)]) ∧ w' = w.alloc (.cells #[.slice A n c] 292) := by
 go_enter Tryz.func197, Tryz.ntmps197
 go_wp2
 go_ret
 exact ⟨rfl, rfl⟩

set_option maxRecDepth 100000 in
set_option maxHeartbeats 2000000 in
theorem backP1_in {α : Type} (f : α → PP) (n : Nat) (l Bs n1 b : Nat) (A : Option Addr) (len cap : Nat) (zs : List α) (hz : zs.length = len) (hcap : len ≤ cap) (hm : len ≤ 2000000) (hBs : Bs < n1) (hBb : Bs ≠ b) (J Jx : List (Nat × α) → World → Prop)
  (hY : ∀ pre x W, J pre W → pre.length < len → YieldAt Fence.wide (n - 1) Tryz.prog l (encP f x) W fun e W' =>
   (e = .returned (.bool true) ∧ J (pre ++ [x]) W' ∧ Kb n1 b W W') ∨ (e = .returned (.bool false) ∧ Jx (pre ++ [x]) W'))
  (W : World) (hs : W.cell? ⟨Bs, 0, none⟩ = some (.slice A len cap))
  (hc : ∀ (i : Nat) x, zs[i]? = some x → ∃ g o, A = some ⟨g, o, none⟩ ∧ g < n1 ∧ g ≠ b ∧ W.cell? ⟨g, o + i * 2, none⟩ = some (.pointer (f x).1) ∧ W.cell? ⟨g, o + i * 2 + 1, none⟩ = some (.pointer (f x).2))
  (h0 : J [] W) :
  CallsIn Fence.wide n Tryz.prog 198 #[.func (.yield l) #[] #[], .pointer (some ⟨Bs, 0, none⟩)] W fun e W' => (∃ v, e = .returned v) ∧
   ((∃ ys, ys = dnP zs len ∧ J ys W') ∨ (∃ pre, (∃ k, k ≤ len ∧ pre = dnP zs k) ∧ Jx pre W')) := by
 have HC := Lib.hid hc
 have HY := Lib.hid hY
 have HS := Lib.hid hs
 clear hc hY
 refine callsIn_of_wp Tryz.func198 rfl trivial ?_ rfl
 simp only [Tryz.ntmps198, List.size_toArray, List.length_cons, List.length_nil, Nat.reduceAdd, Nat.reduceSub, Array.replicate_succ, Array.replicate_zero, List.push_toArray, List.append_toArray, List.nil_append, List.cons_append]
 gi_wp2
 clear hs
 gi_loopw [3] (fun i wr => ∃ k : Nat, k ≤ len ∧ i = .int .i64 ((len : Int) - 1 - k) ∧ J (dnP zs k) wr ∧ Kb n1 b W wr)
  (fun i _ => (intOf i + 1).toNat)
 case atStart => exact ⟨0, Nat.zero_le _, by simp, h0, Kb.refl _ _ _⟩
 case round =>
  obtain ⟨k, hk, rfl, hJs, hnx⟩ := hrel
  have hs' : wr.cell? ⟨Bs, 0, none⟩ = some (.slice A len cap) := (World.cell?_of_block (w := W) (hnx.block Bs hBs hBb)).trans HS.out
  by_cases hlt : k < len
  ·obtain ⟨x, hx⟩ : ∃ x, zs[len - 1 - k]? = some x := ⟨_, List.getElem?_eq_getElem (by omega)⟩
   obtain ⟨g, o, rfl, hg, hgb, a0, a1⟩ := HC.out _ _ hx
   have e : ∀ j, wr.cell? ⟨g, j, none⟩ = W.cell? ⟨g, j, none⟩ := fun j => World.cell?_of_block (w := W) (hnx.block g hg hgb)
   rw [← e] at a0 a1
   have hds : dnP zs (k + 1) = dnP zs k ++ [(len - 1 - k, x)] := by
    have := dnP_succ zs k (by omega) x (by rw [hz]; exact hx)
    rw [hz] at this
    exact this
   clear e hx
   obtain ⟨i, hi⟩ : ∃ i, i = len - 1 - k := ⟨_, rfl⟩
   rw [← hi] at a0 a1 hds
   have hYx := HY.out _ (i, x) wr hJs (by rw [dnP_length _ _ (by omega)]; exact hlt)
   obtain ⟨fn, tmps, assign, body, hy, hR⟩ := hYx
   simp only [encP] at hy
   have hidx : (len : Int) - 1 - (k : Int) = (i : Int) := by omega
   have hil : i < len := by omega
   have hic : i < cap := by omega
   have HI := Lib.hid hi
   have HD := Lib.hid hds
   clear hi hds
   rw [hidx]
   gi_wp2
   refine ⟨fun h => absurd h (by decide), hR.mono ?_⟩
   rintro e W3 (⟨rfl, hJ3, hk3⟩ | ⟨rfl, hJx3⟩)
   ·gi_wp2
    go_roundw
    case rel =>
     refine ⟨k + 1, by omega, by congr 1; omega, ?_, hnx.trans hk3⟩
     rw [HD.out]
     exact hJ3
    case measure => (simp [intOf] <;> omega)
   ·gi_wp2
    refine bodyPost_ret (results_none rfl _ _ _) rfl ?_
    refine ⟨⟨_, rfl⟩, .inr ⟨_, ⟨k + 1, by omega, rfl⟩, ?_⟩⟩
    rw [HD.out]
    exact hJx3
  ·obtain rfl : k = len := by omega
   gi_wp2
   go_end0
   exact ⟨⟨_, rfl⟩, .inl ⟨_, rfl, hJs⟩⟩
theorem backP_stops {α : Type} (f : α → PP) (n : Nat) (Bs n1 b : Nat) (A : Option Addr) (c : Nat) (zs : List α) (w : World) (hm : zs.length ≤ 2000000) (hcap : zs.length ≤ c) (hBs : Bs < n1) (hBb : Bs ≠ b) (hn1 : n1 ≤ w.heap.size)
  (hs : w.cell? ⟨Bs, 0, none⟩ = some (.slice A zs.length c)) (hc : ∀ (i : Nat) x, zs[i]? = some x → ∃ g o, A = some ⟨g, o, none⟩ ∧ g < n1 ∧ g ≠ b ∧ w.cell? ⟨g, o + i * 2, none⟩ = some (.pointer (f x).1) ∧ w.cell? ⟨g, o + i * 2 + 1, none⟩ = some (.pointer (f x).2)) :
  SeqStopsK Fence.wide n Tryz.prog 198 #[.pointer (some ⟨Bs, 0, none⟩)] (encP f) (Kb n1 b) (fun ys => ys = dnP zs zs.length) (fun pre => ∃ k, k ≤ zs.length ∧ pre = dnP zs k) zs.length w := fun l J Jx W hW _ _ hY h0 => by
 have hcell : ∀ g j, g < n1 → W.cell? ⟨g, j, none⟩ = w.cell? ⟨g, j, none⟩ := fun g j hg => World.cell?_of_block (w := w) (hW.block g (by omega))
 refine backP1_in f n l Bs n1 b A zs.length c zs rfl hcap hm hBs hBb J Jx hY W ((hcell _ _ hBs).trans hs) (fun i x hx => ?_) h0
 obtain ⟨g, o, h1, h2, h2', h3, h4⟩ := hc i x hx
 exact ⟨g, o, h1, h2, h2', (hcell _ _ h2).trans h3, (hcell _ _ h2).trans h4⟩
theorem enter_backP (args : Array Value) (w : World) : (callFunc 198 args).run Tryz.prog w = .ok (.enter 198 args) w := by go_simp
end So
end Go.Proofs.YtmodmojocclmaaaGreatDoor.K

/- The machine of package source: frames are put back. -/
namespace Go.Proofs.YtmodmojocclmaaaGreatDoor.K
open Go.RowKit Go.Shelf
attribute [local go_sem] Oper.semAt_some
namespace So

def putL (l : List Part) (s : St) : St := l.foldl (fun s p => { s.encl p.2 with above := p.1 }) s
theorem putL_all (parts : List Part) (s : St) : putL parts.reverse s = { s with above := (put parts s.above s.hs).1, hs := (put parts s.above s.hs).2 } := by
 induction parts with
 | nil => rfl
 | cons p r ih =>
  unfold putL at ih ⊢
  rw [List.reverse_cons, List.foldl_append, ih]
  rfl
theorem putL_snoc (l : List Part) (p : Part) (s : St) : putL (l ++ [p]) s = { (putL l s).encl p.2 with above := p.1 } := by
 unfold putL
 rw [List.foldl_append]
 rfl
theorem putL_cells (l : List Part) (s : St) : (putL l s).cells = s.cells := by
 induction l generalizing s with
 | nil => rfl
 | cons p r ih =>
  show (putL r _).cells = _
  rw [ih]
  rfl
abbrev PtAt (H : Mem) (N : Nat) := { z : Part × PP // FsV H N z.1.1 (.pointer z.2.1) ∧ HdV H N z.1.2.1 z.1.2.2 (.pointer z.2.2) }
theorem parts_at {H : Mem} {N : Nat} : ∀ (parts : List Part) (av hv : Nat → Value), (∀ (i : Nat) p, parts[i]? = some p → FsV H N p.1 (av i)) → (∀ (i : Nat) p, parts[i]? = some p → HdV H N p.2.1 p.2.2 (hv i)) →
  ∃ zs : List (PtAt H N), zs.map (fun z => z.1.1) = parts ∧ ∀ (i : Nat) z, zs[i]? = some z → av i = .pointer z.1.2.1 ∧ hv i = .pointer z.1.2.2
 | [], _, _, _, _ => ⟨[], rfl, fun i z h => by simp at h⟩
 | p :: r, av, hv, hf, hh => by
  obtain ⟨zs, h1, h2⟩ := parts_at r (fun i => av (i + 1)) (fun i => hv (i + 1)) (fun i q hq => hf (i + 1) q (by simpa using hq)) (fun i q hq => hh (i + 1) q (by simpa using hq))
  have f0 := hf 0 p rfl
  have g0 := hh 0 p rfl
  obtain ⟨a, ha⟩ := f0.ptr
  obtain ⟨b, hb⟩ := g0.ptr
  rw [ha] at f0
  rw [hb] at g0
  refine ⟨⟨(p, a, some ⟨b, 0, none⟩), f0, g0⟩ :: zs, by simp [h1], fun i z hz => ?_⟩
  match i, hz with
  | 0, hz =>
   obtain rfl : _ = z := by simpa using hz
   exact ⟨ha, hb⟩
  | i + 1, hz => exact h2 i z (by simpa using hz)
section
variable {w0 : World} {mb : Nat} {H : Mem} {s : St} {w : World}
theorem MS.kept (h : MS w0 mb H s w) {w' : World} {row : Option Nat} (hg : w.grownBy w' row) (hr : ∀ r, row = some r → H r = none ∧ ∃ o : Obj, w.heap[r]? = some o ∧ o.isCells = false) : MS w0 mb H s w' := by
 obtain ⟨tv, ev, v0, v1, v2, v3, fv, hv, cv, iv, lv, h⟩ := h
 have hcell : ∀ {g : Nat} {cs : Array Value} {t : TypeId} {f : Nat × Nat}, w.heap[g]? = some (.cells cs t f) → w'.heap[g]? = w.heap[g]? := fun {g cs t f} hc => hg.block g (Array.getElem?_eq_some_iff.1 hc).1 (fun e => by
  obtain ⟨_, o, ho, hn⟩ := hr g e.symm
  rw [hc] at ho
  cases ho
  cases hn)
 have hown : ∀ {lo n sz : Nat} {e : TypeId} {v : Value} {xs : List Value}, w.ownsRow lo e sz v n xs → w'.ownsRow lo e sz v n xs := fun {lo n sz e v xs} ho => by
  refine ⟨ho.1, ?_⟩
  rcases ho.2 with h0 | ⟨g, cap, cur, h1, h2, h3, h4⟩
  ·exact .inl h0
  ·exact .inr ⟨g, cap, cur, h1, h2, (hcell h3).trans h3, h4⟩
 have hc := h.core
 refine ⟨tv, ev, v0, v1, v2, v3, fv, hv, cv, iv, lv, ⟨hg.os.trans hc.os, hg.tape.trans hc.tape, hg.output.trans hc.output, hc.base, fun b o hb => (hg.block b (hc.dom b o hb) (fun e => by rw [(hr b e.symm).1] at hb; cases hb)).trans (hc.sub b o hb), fun b o hb => Nat.lt_of_lt_of_le (hc.dom b o hb) hg.size, hc.old, hc.free, ?_, ⟨hown hc.ts.1, hc.ts.2⟩, hc.ne⟩, (hcell h.lies).trans h.lies, h.at_, h.above, h.hs, h.input⟩
 obtain ⟨⟨ls, h1, h2, h3⟩, h4⟩ := hc.cs
 exact ⟨⟨ls, h1, hown h2, h3⟩, h4⟩
theorem MR.put1 {tv ev v0 v1 v2 v3 fv hv cv iv lv : Value} {w w2 : World} (h : MR w0 mb H s tv ev v0 v1 v2 v3 fv hv cv iv lv w) {p : Part} {a b : Option Addr} (hf : FsV H s.cells.length p.1 (.pointer a)) (hh : HdV H s.cells.length p.2.1 p.2.2 (.pointer b)) (hb : Bt mb w w2)
  (hl : Lies w2 mb 75 (mC tv ev v0 v1 v2 v3 (.pointer none) (pt w.heap.size) cv iv lv s.out s.steps s.konts)) (hn : w2.heap[w.heap.size]? = some (.cells [.pointer b, fv, hv].toArray 124)) :
  MLe H (ins H w.heap.size (.cells [.pointer b, fv, hv].toArray 124)) ∧ MS w0 mb (ins H w.heap.size (.cells [.pointer b, fv, hv].toArray 124)) { s.encl p.2 with above := p.1 } (w2.setCell ⟨mb, 6, none⟩ (.pointer a)) := by
 obtain ⟨k1, k2⟩ := h.core.bt1 hb (Nat.le_refl _) hn h.lt
 exact ⟨k1, _, _, _, _, _, _, _, _, _, _, _, k2.set 6 _, hl.set 6 _, h.at_.le k1 (Nat.le_refl _), hf.le k1 (Nat.le_refl _), .cons p.2 s.above s.hs w.heap.size _ _ _ (ins_row H _ _ _) (hh.le k1 (Nat.le_refl _)) (h.above.le k1 (Nat.le_refl _)) (h.hs.le k1 (Nat.le_refl _)), h.input.le k1⟩
end
theorem bt_others {b : Nat} {w w' : World} (h : Bt b w w') (hb : ∃ cs t f, w.heap[b]? = some (.cells cs t f)) : KeepsOthers w w' := ⟨h.size, fun k o hk ho => by
 refine (h.block k (Array.getElem?_eq_some_iff.1 hk).1 fun e => ?_).trans hk
 obtain ⟨cs, t, f, hc⟩ := hb
 rw [e, hc] at hk
 cases hk
 cases ho⟩
def PutI (w0 : World) (mb : Nat) (H : Mem) (s : St) (n1 : Nat) (W0 : World) (pre : List (Nat × PtAt H s.cells.length)) (W : World) : Prop :=
 ∃ H', MLe H H' ∧ (∀ b o, n1 ≤ b → H' b = some o → o.isCells = true) ∧ MS w0 mb H' (putL (pre.map fun x => x.2.1.1) s) W ∧ Kb n1 mb W0 W
theorem putI_own {w0 : World} {mb : Nat} {H : Mem} {s : St} {n1 : Nat} {W0 : World} (h0 : n1 ≤ W0.heap.size) : OwnFrom n1 (PutI w0 mb H s n1 W0) := fun pre X Y row ⟨H', h1, h2, h3, h4⟩ hg hr =>
 ⟨H', h1, h2, h3.kept hg (fun r e => by
  obtain ⟨hn, o, ho, hc⟩ := hr r e
  refine ⟨?_, o, ho, hc⟩
  cases hq : H' r with
  | none => rfl
  | some o' =>
   have h5 := h2 r o' hn hq
   have h6 := h3.sub r o' hq
   rw [h6] at ho
   cases ho
   rw [h5] at hc
   cases hc), h4.grown hg (Nat.le_trans h0 h4.size) (fun r e => (hr r e).1)⟩
set_option maxRecDepth 100000 in
set_option maxHeartbeats 8000000 in
theorem put_any {w0 : World} {mb : Nat} {H : Mem} {s : St} {w : World} (h : MS w0 mb H s w) {parts : List Part} {sv : Value} {av hv : Nat → Value} (hs : Sl sv parts.length) (hl : ∀ i, i < parts.length → HR H (blk sv) (off sv + i * 2) [av i, hv i])
  (hf : ∀ (i : Nat) p, parts[i]? = some p → FsV H s.cells.length p.1 (av i)) (hh : ∀ (i : Nat) p, parts[i]? = some p → HdV H s.cells.length p.2.1 p.2.2 (hv i)) :
  Calls Tryz.prog 196 #[.pointer (some ⟨mb, 6, none⟩), sv] w (MEnd w0 mb H { s with above := (put parts s.above s.hs).1, hs := (put parts s.above s.hs).2 }) := by
 obtain ⟨zs, hz1, hz2⟩ := parts_at parts av hv hf hh
 obtain ⟨A, c, rfl, hc, hlb, hA⟩ := hs
 have hzl : parts.length = zs.length := by rw [← hz1, List.length_map]
 rw [hzl] at hc hlb hA hl ⊢
 obtain ⟨W0, hW0⟩ : ∃ W0, W0 = (w.alloc (.cells #[.pointer (some ⟨mb, 6, none⟩)] 120)).alloc (.cells #[.slice A zs.length c] 292) := ⟨_, rfl⟩
 have hb0 : Below w.heap.size w W0 := by rw [hW0]; exact (below_new w _).trans ((below_new _ _).mono (by simp))
 have hz0 : W0.heap.size = w.heap.size + 2 := by rw [hW0]; simp
 have hs0 : W0.cell? ⟨w.heap.size + 1, 0, none⟩ = some (.slice A zs.length c) := by rw [hW0]; exact (Lies.new' _ _ #[Value.slice A zs.length c] (N := w.heap.size + 1) (by simp)).cell 0
 have hp0 : Lies W0 w.heap.size 120 #[.pointer (some ⟨mb, 6, none⟩)] := by rw [hW0]; exact (Lies.new w _ _).alloc _
 have hmw := h.lt
 have hcz : ∀ (i : Nat) (x : PtAt H s.cells.length), zs[i]? = some x → ∃ g o, A = some ⟨g, o, none⟩ ∧ g < w.heap.size + 2 ∧ g ≠ mb ∧ W0.cell? ⟨g, o + i * 2, none⟩ = some (.pointer x.1.2.1) ∧ W0.cell? ⟨g, o + i * 2 + 1, none⟩ = some (.pointer x.1.2.2) := fun i x hx => by
  have hi := (List.getElem?_eq_some_iff.1 hx).1
  obtain ⟨g, o, rfl⟩ := hA (by omega)
  obtain ⟨e1, e2⟩ := hz2 i x hx
  have r := hl i hi
  rw [e1, e2] at r
  have c1 : HC H ⟨g, o + i * 2, none⟩ (.pointer x.1.2.1) := r 0 _ rfl
  have c2 : HC H ⟨g, o + i * 2 + 1, none⟩ (.pointer x.1.2.2) := r 1 _ rfl
  have hm0 := h.later hb0
  obtain ⟨ob, hob, _⟩ := c1
  have hob : H g = some ob := hob
  have hgl := World.block_lt_of_cell? w _ (c2.cell h.sub)
  have hgl : g < w.heap.size := hgl
  refine ⟨g, o, rfl, by omega, fun e => ?_, (r 0 _ rfl).cell hm0.sub, c2.cell hm0.sub⟩
  obtain ⟨_, _, _, _, _, _, _, _, _, _, _, hq⟩ := h
  have := hq.core.free
  rw [← e, hob] at this
  cases this
 have hI0 : PutI w0 mb H s (w.heap.size + 2) W0 [] W0 := ⟨H, MLe.refl H, fun b o h1 h2 => by
  obtain ⟨_, _, _, _, _, _, _, _, _, _, _, hq⟩ := h
  have := hq.core.dom b o h2
  omega, h.later hb0, Kb.refl _ _ _⟩
 have hfin : putL ((dnP zs zs.length).map fun x => x.2.1.1) s = { s with above := (put parts s.above s.hs).1, hs := (put parts s.above s.hs).2 } := by
  rw [← putL_all, ← hz1, show (fun x : Nat × PtAt H s.cells.length => x.2.1.1) = (fun z : PtAt H s.cells.length => z.1.1) ∘ Prod.snd from rfl, ← List.map_map, dnP_snd, List.take_of_length_le (by simp), List.map_reverse]
 have HFIN := Lib.hid hfin
 have HI0 := Lib.hid hI0
 have HCZ := Lib.hid hcz
 have HS0 := Lib.hid hs0
 have HP0 := Lib.hid hp0
 have HZ0 := Lib.hid hz0
 have HW := Lib.hid hW0
 have HLB := Lib.hid hlb
 have HCC := Lib.hid hc
 clear h hf hh hz1 hz2 hzl hl hA hb0 hz0 hs0 hp0 hcz hI0 hfin hW0
 refine callsIn_wide (n := 9) |>.1 (callsIn_of_wp_marks Tryz.func196 rfl trivial ?_ rfl)
 refine wpIn_wide.2 ?_
 simp only [Tryz.ntmps196, List.size_toArray, List.length_cons, List.length_nil, Nat.reduceAdd, Nat.reduceSub, Array.replicate_succ, Array.replicate_zero, List.push_toArray, List.append_toArray, List.nil_append, List.cons_append]
 go_wp2_with (first | (go_at_call 197; refine (backP_any _ _ _ _).mono ?_; rintro e w5 ⟨rfl, rfl⟩))
 rw [← HW.out]
 refine wpIn_wide (n := 9) |>.1 ?_
 refine wpIn_rangeFunc_ownH (F := Fence.wide) (n := 9) rfl (by decide) (gf := 198) (lb := #[.pointer (some ⟨w.heap.size + 1, 0, none⟩)]) rfl trivial enter_backP
  (backP_stops (fun z : PtAt H s.cells.length => z.1.2) 8 (w.heap.size + 1) (w.heap.size + 2) mb A c zs W0 HLB.out HCC.out (by omega) (by omega) (by rw [HZ0.out]; exact Nat.le_refl _) HS0.out HCZ.out) Kb.trans (kb_b (by rw [HZ0.out]; exact Nat.le_refl _)) (Below.refl _ _) (fun _ => rfl)
  (PutI w0 mb H s (w.heap.size + 2) W0) (fun _ _ _ => False) (by rw [HZ0.out]; exact putI_own (by rw [HZ0.out]; exact Nat.le_refl _)) (fun _ _ _ _ _ h _ _ => h) HI0.out
  (fun x a' W => ∃ B6, w.heap.size + 2 ≤ B6 ∧ Lies W B6 296 #[.pointer x.2.1.2.1, .pointer x.2.1.2.2] ∧ a' = { tmps := #[.pointer (some ⟨mb, 6, none⟩), .slice A zs.length c, .pointer (some ⟨w.heap.size, 0, none⟩), undef, undef, .pointer (some ⟨B6, 0, none⟩), .slice A zs.length c, Value.func (Fn.func 198) #[] #[Value.pointer (some { block := w.heap.size + 1, off := 0 })], .int .i64 (x.1 : Int), .agg #[.pointer x.2.1.2.1, .pointer x.2.1.2.2], undef, undef, undef, undef, undef, undef, undef, undef, undef], defers := [] })
  (fun x a' _ X Y row ⟨B6, h1, h2, h3⟩ hg hr => ⟨B6, h1, (hg.block B6 h2.lt (fun e => by
   obtain ⟨_, o, ho, hc⟩ := hr B6 e.symm
   have h2' : X.heap[B6]? = some _ := h2
   rw [h2'] at ho
   cases ho
   cases hc)).trans h2, h3⟩) ?assign ?body ?done ?stop
 case stop => exact fun D c pre W _ _ h _ => h.elim
 case assign =>
  intro l2 pre x W K hi hK
  have hszW : w.heap.size + 2 ≤ W.heap.size := by have h4 := hi.choose_spec.2.2.2.size; rw [HZ0.out] at h4; exact h4
  dsimp only [encP]
  gi_wp2
  exact hK _ _ ((KeepsOthers.alloc _ _).from _) ((Kb.refl _ _ _).alloc hszW _) ((putI_own (by rw [HZ0.out]; exact Nat.le_refl _)).alloc _ hi) ⟨W.heap.size, hszW, Lies.new _ _ _, rfl⟩
 case body =>
  rintro l2 pre ⟨xi, ⟨⟨p, za, zb⟩, hzf, hzh⟩⟩ a' W hl2 ⟨r, hr⟩ ⟨H', hk', hcl, ⟨tv, ev, v0, v1, v2, v3, fv, hv', cv, iv, lv, hm⟩, hKb⟩ ⟨B6, hB6, hw6, rfl⟩ hlt
  obtain ⟨fa, rfl⟩ := hm.above.ptr
  obtain ⟨ha, rfl⟩ := hm.hs.ptr
  have hszW : w.heap.size + 2 ≤ W.heap.size := by have h4 := hKb.size; rw [HZ0.out] at h4; exact h4
  have hpW : Lies W w.heap.size 120 #[.pointer (some ⟨mb, 6, none⟩)] := (hKb.block w.heap.size (by omega) (by omega)).trans HP0.out
  have c2 := hpW.cell 0
  have b0 : W.cell? ⟨B6, 0, none⟩ = some (.pointer za) := hw6.cell 0
  have b1 : W.cell? ⟨B6, 1, none⟩ = some (.pointer zb) := hw6.cell 1
  have hb6 := hw6.lt
  have hen := encl_raw W mb tv ev v0 v1 v2 v3 (.pointer fa) (.pointer ha) cv iv lv _ _ _ zb fa ha rfl rfl hm.lies
  have HEN := Lib.hid (CallsIn.inRound l2 ((callsIn_wide (n := 9 - 1 - 1 - 1)).2 hen))
  have HM := Lib.hid hm
  have HK' := Lib.hid hk'
  have HCL := Lib.hid hcl
  have HKB := Lib.hid hKb
  have HPW := Lib.hid hpW
  have HW6 := Lib.hid hw6
  have HZF := Lib.hid hzf
  have HZH := Lib.hid hzh
  clear hm hk' hcl hKb hpW hen
  gi_wp2_with fail
  refine ⟨trivial, HEN.out.mono ?_⟩
  rintro e W3 ⟨rfl, hbt, hl3, hn3⟩
  have c2' : W3.cell? ⟨w.heap.size, 0, none⟩ = some (.pointer (some ⟨mb, 6, none⟩)) := (World.cell?_of_block (w := W) (a := ⟨w.heap.size, 0, none⟩) (hbt.block _ HPW.out.lt (by show w.heap.size ≠ mb; omega))).trans c2
  have b0' : W3.cell? ⟨B6, 0, none⟩ = some (.pointer za) := (World.cell?_of_block (w := W) (a := ⟨B6, 0, none⟩) (hbt.block _ hb6 (by show B6 ≠ mb; omega))).trans b0
  have m6 : W3.cell? ⟨mb, 6, none⟩ = some (.pointer none) := hl3.cell 6
  have f6 := hl3.free 6
  have HBT := Lib.hid hbt
  have HL3 := Lib.hid hl3
  have HN3 := Lib.hid hn3
  clear hbt hl3 hn3
  gi_wp2
  obtain ⟨k1, k2⟩ := HM.out.put1 (p := p) (by rw [putL_cells]; exact HZF.out.le HK'.out (Nat.le_refl _)) (by rw [putL_cells]; exact HZH.out.le HK'.out (Nat.le_refl _)) HBT.out HL3.out HN3.out
  have hbt2 := HBT.out.set 6 (.pointer za)
  refine ⟨(bt_others hbt2 ⟨_, _, _, HM.out.lies⟩).from _, (Kb.refl _ _ _).bt hbt2 hszW, ⟨_, HK'.out.trans k1, fun b o h1 h2 => ?_, by rw [List.map_append, List.map_cons, List.map_nil, putL_snoc]; exact k2, HKB.out.bt hbt2 hszW⟩⟩
  unfold ins at h2
  split at h2
  ·cases h2; rfl
  ·exact HCL.out b o h1 h2
 case done =>
  rintro D ys W hD rfl ⟨H', hk', hcl, hm, hKb⟩ hDD
  rw [HFIN.out] at hm
  have HM := Lib.hid hm
  have HK' := Lib.hid hk'
  have HDD := Lib.hid hDD
  have HCL := Lib.hid hcl
  clear hm hk' hcl hKb hDD
  rw [HZ0.out] at hD
  refine ⟨by simp, .inl ⟨_, _, rfl, run_takeDeferred HDD.out, ⟨.tuple #[], results_none rfl _ _ _, rfl, H', HK'.out, HM.out.kept (grownBy_putObj' W D _) fun r e => ?_⟩⟩⟩
  obtain rfl : D = r := by injection e
  refine ⟨?_, _, HDD.out, rfl⟩
  cases hq : H' D with
  | none => rfl
  | some o' =>
   have h5 := HCL.out D o' hD hq
   have h6 := HM.out.sub D o' hq
   rw [HDD.out] at h6
   cases h6
   cases h5
end So
end Go.Proofs.YtmodmojocclmaaaGreatDoor.K

/- The machine of package source: a function is called. -/
namespace Go.Proofs.YtmodmojocclmaaaGreatDoor.K
open Go Go.RowKit
namespace So

set_option maxRecDepth 100000 in
set_option maxHeartbeats 4000000 in
theorem res_call {w0 : World} {mb : Nat} {H : Mem} {s : St} {w : World} (h : MS w0 mb H s w) {v : Val} {l : List Value} (hv : VV H s.cells.length v l) {parts : List Part} {sv : Value} {av hv' : Nat → Value} (hs : Sl sv parts.length) (hl : ∀ i, i < parts.length → HR H (blk sv) (off sv + i * 2) [av i, hv' i])
  (hfs : ∀ (i : Nat) p, parts[i]? = some p → FsV H s.cells.length p.1 (av i)) (hh : ∀ (i : Nat) p, parts[i]? = some p → HdV H s.cells.length p.2.1 p.2.2 (hv' i)) :
  Calls Tryz.prog 195 #[sv, pt mb, .agg l.toArray] w (MEnd w0 mb H (callV (.res parts) v s)) := by
 have e : callV (.res parts) v s = { s.has v with above := (put parts s.above s.hs).1, hs := (put parts s.above s.hs).2 } := rfl
 rw [e]
 clear e
 obtain ⟨k, n, c, f, rfl, hf⟩ := hv.four
 have hkp := h.alloc (boxO k n c f)
 have hbx : HR (ins H w.heap.size (boxO k n c f)) w.heap.size 0 [.int .i64 k, .int .i64 n, .pointer c, f] := ins_row _ _ _ _
 have hsu : ∀ (H' : Mem) (S : St) (W : World), MLe H H' → MS w0 mb H' S W → Sub H W := fun H' S W k m b o hb => m.sub b o (k b o hb)
 obtain ⟨H1, hH1⟩ : ∃ H1, H1 = ins H w.heap.size (boxO k n c f) := ⟨_, rfl⟩
 rw [← hH1] at hkp hbx
 obtain ⟨k1, hm⟩ := hkp
 clear hH1
 have hv1 := hv.le k1 (Nat.le_refl s.cells.length)
 obtain ⟨W, hW⟩ : ∃ W, W = w.alloc (boxO k n c f) := ⟨_, rfl⟩
 rw [← hW] at hm
 have p0 := (hbx 0 _ rfl).cell hm.sub
 have p1 := (hbx 1 _ rfl).cell hm.sub
 have p2 := (hbx 2 _ rfl).cell hm.sub
 have p3 := (hbx 3 _ rfl).cell hm.sub
 have HW := Lib.hid hW
 have hpu := put_any hm hs (fun i hi => (hl i hi).le k1) (fun i p hp => (hfs i p hp).le k1 (Nat.le_refl _)) (fun i p hp => (hh i p hp).le k1 (Nat.le_refl _))
 have hs1 : ∀ V, Sub H1 V → V.cell? ⟨w.heap.size, 0, none⟩ = some (.int .i64 k) ∧ V.cell? ⟨w.heap.size, 1, none⟩ = some (.int .i64 n) ∧ V.cell? ⟨w.heap.size, 2, none⟩ = some (.pointer c) ∧ V.cell? ⟨w.heap.size, 3, none⟩ = some f := fun V hV => ⟨(hbx 0 _ rfl).cell hV, (hbx 1 _ rfl).cell hV, (hbx 2 _ rfl).cell hV, (hbx 3 _ rfl).cell hV⟩
 rw [hW] at hpu
 have HPU := Lib.hid hpu
 have HSS := Lib.hid hs1
 have K1 := Lib.hid k1
 have HV1 := Lib.hid hv1
 obtain ⟨A, c', rfl, _, _, _⟩ := hs
 clear h hv hm hv1 hsu k1 hbx hW hl hfs hh hpu hs1
 unfold pt boxO at *
 rcases hf with rfl | ⟨ft, fx, rfl⟩
 ·go_enter Tryz.func195, Tryz.ntmps195
  go_wp2_with fail
  refine HPU.out.mono ?_
  rintro e w3 ⟨rfl, H3, k3, m3⟩
  obtain ⟨q0, q1, q2, q3⟩ := HSS.out w3 (fun x y hx => m3.sub x y (k3 _ _ hx))
  have HAN := Lib.hid (answer_any m3 (HV1.out.le k3 (Nat.le_refl _)))
  have K3 := Lib.hid k3
  clear k3 m3
  go_wp2_with fail
  refine HAN.out.mono ?_
  rintro e w4 ⟨rfl, H4, k4, m4⟩
  go_wp2
  go_end0
  exact ⟨rfl, H4, (K1.out.trans K3.out).trans k4, m4⟩
 ·go_enter Tryz.func195, Tryz.ntmps195
  go_wp2_with fail
  refine HPU.out.mono ?_
  rintro e w3 ⟨rfl, H3, k3, m3⟩
  obtain ⟨q0, q1, q2, q3⟩ := HSS.out w3 (fun x y hx => m3.sub x y (k3 _ _ hx))
  have HAN := Lib.hid (answer_any m3 (HV1.out.le k3 (Nat.le_refl _)))
  have K3 := Lib.hid k3
  clear k3 m3
  go_wp2_with fail
  refine HAN.out.mono ?_
  rintro e w4 ⟨rfl, H4, k4, m4⟩
  go_wp2
  go_end0
  exact ⟨rfl, H4, (K1.out.trans K3.out).trans k4, m4⟩
set_option maxRecDepth 100000 in
set_option maxHeartbeats 4000000 in
theorem take_fn_stuck {w0 : World} {mb : Nat} {H : Mem} {s : St} {w : World} (h : MS w0 mb H s w) {v : Val} {l : List Value} (hv : VV H s.cells.length v l) {f : Val} {fb : Nat} {lf : List Value} (hr : HR H fb 0 lf) (hvf : VV H s.cells.length f lf) (hk : kV f ≠ 6) :
  Calls Tryz.prog 194 #[pt fb, pt mb, .agg l.toArray] w (MEnd w0 mb H (s.ends 4)) := by
 obtain ⟨n2, c2, f2, rfl, _⟩ := hvf.kind
 obtain ⟨k2, hk2⟩ : ∃ k2, k2 = kV f := ⟨_, rfl⟩
 rw [← hk2] at hk hr
 have hne : (k2 == 6) = false := by rw [beq_eq_false_iff_ne]; exact hk
 obtain ⟨k, n, c, f', rfl, hf⟩ := hv.four
 have g0 := ((hr 0 _ rfl).cell (h.later (below_new w (boxO k n c f'))).sub)
 have HE := Lib.hid (end_any (h.later (below_new w (boxO k n c f'))) 4)
 clear h hv hr hvf hk2 hk
 unfold pt boxO at *
 rcases hf with rfl | ⟨ft, fx, rfl⟩
 ·go_enter Tryz.func194, Tryz.ntmps194
  go_wp2_with fail
  refine HE.out.mono ?_
  rintro e w4 ⟨rfl, H4, k4, m4⟩
  go_wp2
  exact bodyPost_ret (results_none rfl _ _ _) rfl ⟨rfl, H4, k4, m4⟩
 ·go_enter Tryz.func194, Tryz.ntmps194
  go_wp2_with fail
  refine HE.out.mono ?_
  rintro e w4 ⟨rfl, H4, k4, m4⟩
  go_wp2
  exact bodyPost_ret (results_none rfl _ _ _) rfl ⟨rfl, H4, k4, m4⟩
theorem VV.cloOpen {H : Mem} {N : Nat} {own param : Str} {body : Tm} {env : Env} {l : List Value} (h : VV H N (.clo own param body env) l) : ∃ cb tb to ev, HR H cb 0 [.string (ba own), .string (ba param), ptO tb to, ev] ∧ TmA H tb to body ∧ EV H N env ev ∧ l = [.int .i64 6, .int .i64 0, .pointer none, .iface 104 (pt cb)] := by
 cases h with
 | clo _ _ _ _ b tb to ev hr ht he => exact ⟨b, tb, to, ev, hr, ht, he, rfl⟩
theorem VV.resOpen {H : Mem} {N : Nat} {parts : List Part} {l : List Value} (h : VV H N (.res parts) l) : ∃ (sv : Value) (av hv : Nat → Value), Sl sv parts.length ∧ (∀ i, i < parts.length → HR H (blk sv) (off sv + i * 2) [av i, hv i]) ∧ (∀ (i : Nat) p, parts[i]? = some p → FsV H N p.1 (av i)) ∧ (∀ (i : Nat) p, parts[i]? = some p → HdV H N p.2.1 p.2.2 (hv i)) ∧ l = [.int .i64 6, .int .i64 0, .pointer none, .iface 292 sv] := by
 cases h with
 | res _ sv av hv hs hl hf hh => exact ⟨sv, av, hv, hs, hl, hf, hh, rfl⟩
set_option maxRecDepth 100000 in
set_option maxHeartbeats 4000000 in
theorem take_fn_clo {w0 : World} {mb : Nat} {H : Mem} {s : St} {w : World} (h : MS w0 mb H s w) {v : Val} {l : List Value} (hv : VV H s.cells.length v l) {own param : Str} {body : Tm} {env : Env} {fb : Nat} {lf : List Value} (hr : HR H fb 0 lf) (hvf : VV H s.cells.length (.clo own param body env) lf) :
  Calls Tryz.prog 194 #[pt fb, pt mb, .agg l.toArray] w (MEnd w0 mb H (callV (.clo own param body env) v s)) := by
 have hvf0 := hvf
 obtain ⟨cb, tb, to, ev, hcr, hct, hce, rfl⟩ := hvf.cloOpen
 obtain ⟨k, n, c, f, rfl, hf⟩ := hv.four
 have hkp := h.alloc (boxO k n c f)
 have hbx : HR (ins H w.heap.size (boxO k n c f)) w.heap.size 0 [.int .i64 k, .int .i64 n, .pointer c, f] := ins_row _ _ _ _
 have hsu : ∀ (H' : Mem) (S : St) (W : World), MLe H H' → MS w0 mb H' S W → Sub H W := fun H' S W k m b o hb => m.sub b o (k b o hb)
 obtain ⟨H1, hH1⟩ : ∃ H1, H1 = ins H w.heap.size (boxO k n c f) := ⟨_, rfl⟩
 rw [← hH1] at hkp hbx
 obtain ⟨k1, hm⟩ := hkp
 clear hH1
 have hv1 := hv.le k1 (Nat.le_refl s.cells.length)
 obtain ⟨W, hW⟩ : ∃ W, W = w.alloc (boxO k n c f) := ⟨_, rfl⟩
 rw [← hW] at hm
 have p0 := (hbx 0 _ rfl).cell hm.sub
 have p1 := (hbx 1 _ rfl).cell hm.sub
 have p2 := (hbx 2 _ rfl).cell hm.sub
 have p3 := (hbx 3 _ rfl).cell hm.sub
 have HW := Lib.hid hW
 have g0 := ((hr 0 _ rfl).le k1).cell hm.sub
 have g3 := ((hr 3 _ rfl).le k1).cell hm.sub
 have u0 := g0
 rw [hW] at u0
 have hcall : Calls Tryz.prog 180 #[pt cb, pt mb, .agg #[.int .i64 k, .int .i64 n, .pointer c, f]] W.drew (MEnd w0 mb H1 (callV (.clo own param body env) v s)) := by
  by_cases ho : own = []
  ·have e : callV (.clo own param body env) v s = s.goes body ((param, v) :: env) := by show s.goes body ((param, v) :: (if own = [] then env else (own, .clo own param body env) :: env)) = _; rw [if_pos ho]
   rw [e]
   exact take_clo0 hm.drew hv1 (hcr.le k1) (hct.le k1) (hce.le k1 (Nat.le_refl _)) ho
  ·have e : callV (.clo own param body env) v s = s.goes body ((param, v) :: (own, .clo own param body env) :: env) := by show s.goes body ((param, v) :: (if own = [] then env else (own, .clo own param body env) :: env)) = _; rw [if_neg ho]
   rw [e]
   exact take_clo1 hm.drew hv1 (hcr.le k1) (hct.le k1) (hce.le k1 (Nat.le_refl _)) ho
 have HM : ∀ W : World, (method 403 104 (.pointer (some ⟨cb, 0, none⟩)) "brocade/source.call").run Tryz.prog W = .ok (180, .pointer (some ⟨cb, 0, none⟩)) W := fun W => by kernel_rfl
 have HC := Lib.hid hcall
 have K1 := Lib.hid k1
 clear h hv hm hv1 hsu k1 hbx hW hr hcall hvf hvf0 hcr hct hce
 unfold pt boxO at *
 rcases hf with rfl | ⟨ft, fx, rfl⟩
 ·go_enter Tryz.func194, Tryz.ntmps194
  go_wp2_with fail
  rw [← HW.out]
  go_wp2_with fail
  go_still_tail 7, (by kernel_rfl)
  change wpList _ _ _ _ _ W.drew
  go_wp2_with fail
  refine HC.out.mono ?_
  rintro e w4 ⟨rfl, H4, k4, m4⟩
  go_wp2
  go_end0
  exact ⟨rfl, H4, K1.out.trans k4, m4⟩
 ·go_enter Tryz.func194, Tryz.ntmps194
  go_wp2_with fail
  rw [← HW.out]
  go_wp2_with fail
  go_still_tail 7, (by kernel_rfl)
  change wpList _ _ _ _ _ W.drew
  go_wp2_with fail
  refine HC.out.mono ?_
  rintro e w4 ⟨rfl, H4, k4, m4⟩
  go_wp2
  go_end0
  exact ⟨rfl, H4, K1.out.trans k4, m4⟩
set_option maxRecDepth 100000 in
set_option maxHeartbeats 4000000 in
theorem take_fn_res {w0 : World} {mb : Nat} {H : Mem} {s : St} {w : World} (h : MS w0 mb H s w) {v : Val} {l : List Value} (hv : VV H s.cells.length v l) {parts : List Part} {fb : Nat} {lf : List Value} (hr : HR H fb 0 lf) (hvf : VV H s.cells.length (.res parts) lf) :
  Calls Tryz.prog 194 #[pt fb, pt mb, .agg l.toArray] w (MEnd w0 mb H (callV (.res parts) v s)) := by
 have hvf0 := hvf
 obtain ⟨sv, av, hv', hss, hsl, hsf, hsh, rfl⟩ := hvf.resOpen
 obtain ⟨k, n, c, f, rfl, hf⟩ := hv.four
 have hkp := h.alloc (boxO k n c f)
 have hbx : HR (ins H w.heap.size (boxO k n c f)) w.heap.size 0 [.int .i64 k, .int .i64 n, .pointer c, f] := ins_row _ _ _ _
 have hsu : ∀ (H' : Mem) (S : St) (W : World), MLe H H' → MS w0 mb H' S W → Sub H W := fun H' S W k m b o hb => m.sub b o (k b o hb)
 obtain ⟨H1, hH1⟩ : ∃ H1, H1 = ins H w.heap.size (boxO k n c f) := ⟨_, rfl⟩
 rw [← hH1] at hkp hbx
 obtain ⟨k1, hm⟩ := hkp
 clear hH1
 have hv1 := hv.le k1 (Nat.le_refl s.cells.length)
 obtain ⟨W, hW⟩ : ∃ W, W = w.alloc (boxO k n c f) := ⟨_, rfl⟩
 rw [← hW] at hm
 have p0 := (hbx 0 _ rfl).cell hm.sub
 have p1 := (hbx 1 _ rfl).cell hm.sub
 have p2 := (hbx 2 _ rfl).cell hm.sub
 have p3 := (hbx 3 _ rfl).cell hm.sub
 have HW := Lib.hid hW
 have g0 := ((hr 0 _ rfl).le k1).cell hm.sub
 have g3 := ((hr 3 _ rfl).le k1).cell hm.sub
 have u0 := g0
 rw [hW] at u0
 have hcall : Calls Tryz.prog 195 #[sv, pt mb, .agg #[.int .i64 k, .int .i64 n, .pointer c, f]] W.drew (MEnd w0 mb H1 (callV (.res parts) v s)) :=
  res_call hm.drew hv1 hss (fun i hi => (hsl i hi).le k1) (fun i p hp => (hsf i p hp).le k1 (Nat.le_refl _)) (fun i p hp => (hsh i p hp).le k1 (Nat.le_refl _))
 have HM : ∀ W : World, (method 403 292 sv "brocade/source.call").run Tryz.prog W = .ok (195, sv) W := fun W => by kernel_rfl
 have HC := Lib.hid hcall
 have K1 := Lib.hid k1
 clear h hv hm hv1 hsu k1 hbx hW hr hcall hvf hvf0 hss hsl hsf hsh
 unfold pt boxO at *
 rcases hf with rfl | ⟨ft, fx, rfl⟩
 ·go_enter Tryz.func194, Tryz.ntmps194
  go_wp2_with fail
  rw [← HW.out]
  go_wp2_with fail
  go_still_tail 7, (by kernel_rfl)
  change wpList _ _ _ _ _ W.drew
  go_wp2_with fail
  refine HC.out.mono ?_
  rintro e w4 ⟨rfl, H4, k4, m4⟩
  go_wp2
  go_end0
  exact ⟨rfl, H4, K1.out.trans k4, m4⟩
 ·go_enter Tryz.func194, Tryz.ntmps194
  go_wp2_with fail
  rw [← HW.out]
  go_wp2_with fail
  go_still_tail 7, (by kernel_rfl)
  change wpList _ _ _ _ _ W.drew
  go_wp2_with fail
  refine HC.out.mono ?_
  rintro e w4 ⟨rfl, H4, k4, m4⟩
  go_wp2
  go_end0
  exact ⟨rfl, H4, K1.out.trans k4, m4⟩
end So
end Go.Proofs.YtmodmojocclmaaaGreatDoor.K

/- The machine of package source: what a handler does for an operation. -/
namespace Go.Proofs.YtmodmojocclmaaaGreatDoor.K
open Go Go.RowKit
namespace So

def ClEnd (op : Str) (arms : List Arm) (rv : Value) (w : World) (e : Ending) (w' : World) : Prop :=
 w = w' ∧ ((∃ (i : Nat) (c : Arm), clause op arms = some c ∧ arms[i]? = some c ∧ c.2.1.length = 2 ∧ e = .returned (ptO (blk rv) (off rv + i * 23))) ∨ (clause op arms = none ∧ e = .returned (.pointer none)))
theorem armFor_no {nm : Str} {n : Nat} {arms : List Arm} {i : Nat} {a : Arm} (h : arms[i]? = some a) (hn : ¬ (a.1 = nm ∧ a.2.1.length = n)) : armFor nm n (arms.drop i) = armFor nm n (arms.drop (i + 1)) := by
 have hi := (List.getElem?_eq_some_iff.1 h).1
 rw [List.drop_eq_getElem_cons hi]
 have : arms[i] = a := (List.getElem?_eq_some_iff.1 h).2
 rw [this, armFor, if_neg hn]
theorem armFor_yes {nm : Str} {n : Nat} {arms : List Arm} {i : Nat} {a : Arm} (h : arms[i]? = some a) (hn : a.1 = nm ∧ a.2.1.length = n) : armFor nm n (arms.drop i) = some a := by
 have hi := (List.getElem?_eq_some_iff.1 h).1
 rw [List.drop_eq_getElem_cons hi]
 have : arms[i] = a := (List.getElem?_eq_some_iff.1 h).2
 rw [this, armFor, if_pos hn]
def ClRel (op : Str) (arms : List Arm) (w : World) (x : Value) (wr : World) : Prop := ∃ i : Nat, i ≤ arms.length ∧ x = .int .i64 (i : Int) ∧ clause op arms = armFor op 2 (arms.drop (max i 1)) ∧ wr = w
set_option maxRecDepth 100000 in
set_option maxHeartbeats 4000000 in
theorem clause_any {H : Mem} {w : World} (hs : Sub H w) {hb : Nat} {rv ev : Value} {arms : List Arm} (hr : HR H hb 0 [rv, ev]) (hA : ArmsA H arms rv) (op : Str) :
  Calls Tryz.prog 182 #[pt hb, .string (ba op)] w (ClEnd op arms rv w) := by
 obtain ⟨⟨A, d, rfl, hd, hal, hAA⟩, harm⟩ := hA
 have g0 : w.cell? ⟨hb, 0, none⟩ = some (.slice A arms.length d) := (hr 0 _ rfl).cell hs
 have hab : (arms.length : Int) ≤ 2000000 := by omega
 have HS := Lib.hid hs
 have HAA := Lib.hid hAA
 have HARM := Lib.hid harm
 clear hs hr hAA harm
 unfold pt
 go_enter Tryz.func182, Tryz.ntmps182
 go_wp2
 go_loopw [12] (fun x wr => ClRel op arms w x wr) (fun x _ => arms.length - (intOf x).toNat)
 case atStart => exact ⟨0, Nat.zero_le _, rfl, by simp [clause], rfl⟩
 case round =>
  obtain ⟨i, hi, rfl, hcl, rfl⟩ := hrel
  have HCL := Lib.hid hcl
  clear hcl
  by_cases hlt : i < arms.length
  ·obtain ⟨a, hai⟩ : ∃ a, arms[i]? = some a := ⟨_, List.getElem?_eq_getElem hlt⟩
   obtain ⟨ag, ao, rfl⟩ := HAA.out (by omega)
   obtain ⟨vv, hn, hv, ⟨⟨V, vc, rfl, _, hvl, _⟩, _⟩, _⟩ := HARM.out i a hai
   have a0 : wr.cell? ⟨ag, ao + i * 23, none⟩ = some (.string (ba a.1)) := hn.cell HS.out
   have a1 : wr.cell? ⟨ag, ao + i * 23 + 1, none⟩ = some (.slice V a.2.1.length vc) := hv.cell HS.out
   have hid : i < d := by omega
   have hii : (i : Int) < (arms.length : Int) := by omega
   have HAI := Lib.hid hai
   clear hn hv hai
   by_cases h0 : 0 < i
   ·have h0i : (0 : Int) < (i : Int) := by omega
    have hmx : max i 1 = i := by omega
    have HMX := Lib.hid hmx
    clear hmx
    by_cases h1 : a.1 = op
    ·have t1 : ((ba a.1).toList == (ba op).toList) = true := by rw [h1]; simp
     by_cases h2 : a.2.1.length = 2
     ·have t2 : ((a.2.1.length : Int) == 2) = true := by rw [h2]; rfl
      have H2 := Lib.hid h2
      have H1 := Lib.hid h1
      clear h1 h2
      go_wp2
      go_ret
      refine ⟨rfl, .inl ⟨i, a, ?_, HAI.out, H2.out, rfl⟩⟩
      rw [HCL.out, HMX.out]
      exact armFor_yes HAI.out ⟨H1.out, H2.out⟩
     ·have t2 : ((a.2.1.length : Int) == 2) = false := by rw [beq_eq_false_iff_ne]; omega
      have H2 := Lib.hid h2
      clear h1 h2
      go_wp2
      go_roundw
      case rel => exact ⟨i + 1, by omega, by go_num, by rw [HCL.out, HMX.out, show max (i + 1) 1 = i + 1 by omega]; exact armFor_no HAI.out (fun h => H2.out h.2), rfl⟩
      case measure => (simp [intOf] <;> omega)
    ·have t1 : ((ba a.1).toList == (ba op).toList) = false := tl_ne h1
     have H1 := Lib.hid h1
     clear h1
     go_wp2
     go_roundw
     case rel => exact ⟨i + 1, by omega, by go_num, by rw [HCL.out, HMX.out, show max (i + 1) 1 = i + 1 by omega]; exact armFor_no HAI.out (fun h => H1.out h.1), rfl⟩
     case measure => (simp [intOf] <;> omega)
   ·obtain rfl : i = 0 := by omega
    have h0d : decide ((0 : Int) < ((0 : Nat) : Int)) = false := by decide
    go_wp2
    go_roundw
    case rel => exact ⟨1, by omega, rfl, by rw [HCL.out]; rfl, rfl⟩
    case measure => (simp [intOf] <;> omega)
  ·obtain rfl : i = arms.length := by omega
   go_wp2
   go_ret
   refine ⟨rfl, .inr ⟨?_, rfl⟩⟩
   rw [HCL.out, List.drop_eq_nil_of_le (by omega)]
   rfl
end So
end Go.Proofs.YtmodmojocclmaaaGreatDoor.K

/- The machine of package source: frames are taken off, down to a handler. -/
namespace Go.Proofs.YtmodmojocclmaaaGreatDoor.K
open Go Go.RowKit
namespace So

def ClAt (H : Mem) (cb co : Nat) (c : Arm) : Prop := ∃ vv, HC H ⟨cb, co + 1, none⟩ vv ∧ StrsH H vv c.2.1 ∧ TmA H cb (co + 2) c.2.2 ∧ c.2.1.length = 2
theorem ClAt.le {H H' : Mem} (k : MLe H H') {cb co : Nat} {c : Arm} (h : ClAt H cb co c) : ClAt H' cb co c := by
 obtain ⟨vv, h1, h2, h3, h4⟩ := h
 exact ⟨vv, h1.le k, h2.le k, h3.le k, h4⟩
def PartsAt (H : Mem) (N : Nat) (ps : List Part) (zs : List PP) : Prop := zs.length = ps.length ∧ ∀ (i : Nat) p z, ps[i]? = some p → zs[i]? = some z → FsV H N p.1 (.pointer z.1) ∧ HdV H N p.2.1 p.2.2 (.pointer z.2)
def ppL (zs : List PP) : List Value := (zs.map fun z => [Value.pointer z.1, Value.pointer z.2]).flatten
theorem ppL_snoc (zs : List PP) (a b : Option Addr) : ppL (zs ++ [(a, b)]) = ppL zs ++ [.pointer a, .pointer b] := by simp [ppL]
theorem ppL_get {zs : List PP} {i : Nat} {z : PP} (h : zs[i]? = some z) : (ppL zs)[i * 2]? = some (.pointer z.1) ∧ (ppL zs)[i * 2 + 1]? = some (.pointer z.2) := by
 have hm : (zs.map fun z => [Value.pointer z.1, Value.pointer z.2])[i]? = some [.pointer z.1, .pointer z.2] := by rw [List.getElem?_map, h]; rfl
 have hall : ∀ l ∈ (zs.map fun z => [Value.pointer z.1, Value.pointer z.2]), l.length = 2 := fun l hl => by
  obtain ⟨z, _, rfl⟩ := List.mem_map.1 hl
  rfl
 exact ⟨flat_idx 2 _ hall i 0 _ _ hm rfl, flat_idx 2 _ hall i 1 _ _ hm rfl⟩
theorem PartsAt.snoc {H : Mem} {N : Nat} {ps : List Part} {zs : List PP} (h : PartsAt H N ps zs) {p : Part} {a b : Option Addr} (hf : FsV H N p.1 (.pointer a)) (hh : HdV H N p.2.1 p.2.2 (.pointer b)) : PartsAt H N (ps ++ [p]) (zs ++ [(a, b)]) := by
 refine ⟨by simp [h.1], fun i q z hq hz => ?_⟩
 by_cases hi : i < ps.length
 ·rw [List.getElem?_append_left hi] at hq
  rw [List.getElem?_append_left (by rw [h.1]; exact hi)] at hz
  exact h.2 i q z hq hz
 ·obtain rfl : i = ps.length := by
   have := (List.getElem?_eq_some_iff.1 hq).1
   simp at this; omega
  rw [List.getElem?_append_right (Nat.le_refl _)] at hq
  rw [List.getElem?_append_right (by rw [h.1]; exact Nat.le_refl _), h.1] at hz
  simp at hq hz
  subst hq hz
  exact ⟨hf, hh⟩
def CutYes (w0 : World) (mb : Nat) (H : Mem) (s : St) (ps : List Part) (h : Hd) (c : Arm) (be : List Frame) (hs : List (Hd × List Frame)) (sv : Value) (cb co : Nat) (w' : World) : Prop :=
 ∃ H' zs, MLe H H' ∧ MS w0 mb H' { s with above := be, hs := hs } w' ∧ Sl sv ps.length ∧ (∀ (i : Nat) z, zs[i]? = some z → HR H' (blk sv) (off sv + i * 2) [.pointer z.1, .pointer z.2]) ∧ PartsAt H' s.cells.length ps zs ∧ (∃ ps' ab, ps = ps' ++ [(ab, h)]) ∧ ClAt H' cb co c
def CutEnd (w0 : World) (mb : Nat) (H : Mem) (s : St) (op : Str) (e : Ending) (w' : World) : Prop :=
 (cut op s.above s.hs [] = none ∧ e = .returned (.tuple #[.slice none 0 0, .pointer none]) ∧ MS w0 mb H s w') ∨
 ∃ ps h c be hs sv cb co, cut op s.above s.hs [] = some (ps, h, c, be, hs) ∧ e = .returned (.tuple #[sv, ptO cb co]) ∧ CutYes w0 mb H s ps h c be hs sv cb co w'
def CutRel (H : Mem) (N : Nat) (op : Str) (R : Option (List Part × Hd × Arm × List Frame × List (Hd × List Frame))) (tot : Nat) (w : World) (g : Nat) (tv lp : Value) (wr : World) : Prop :=
 ∃ (ab : List Frame) (rest : List (Hd × List Frame)) (acc : List Part) (L : Nat) (fa ha : Option Addr) (zs : List PP), R = cut op ab rest acc ∧ rest.length = g ∧ acc.length + rest.length = tot ∧ lp = pt L ∧ w.heap.size ≤ L ∧ Lies wr L 72 #[.pointer fa, .pointer ha] ∧ FsV H N ab (.pointer fa) ∧ HsV H N rest (.pointer ha) ∧
  wr.ownsRow w.heap.size 296 2 tv acc.length (ppL zs) ∧ PartsAt H N acc zs ∧ Below w.heap.size w wr
theorem MR.cutTo {w0 : World} {mb : Nat} {H : Mem} {s : St} {tv ev v0 v1 v2 v3 fv hv cv iv lv : Value} {w : World} (h : MR w0 mb H s tv ev v0 v1 v2 v3 fv hv cv iv lv w) {be : List Frame} {hs : List (Hd × List Frame)} {a b : Value} (hf : FsV H s.cells.length be a) (hh : HsV H s.cells.length hs b) :
  MS w0 mb H { s with above := be, hs := hs } ((w.setCell ⟨mb, 6, none⟩ a).setCell ⟨mb, 7, none⟩ b) :=
 ⟨_, _, _, _, _, _, _, _, _, _, _, (h.core.set 6 a).set 7 b, (h.lies.set 6 a).set 7 b, h.at_, hf, hh, h.input⟩
theorem MR.keep {w0 : World} {mb : Nat} {H : Mem} {s : St} {tv ev v0 v1 v2 v3 fv hv cv iv lv : Value} {w w' : World} (h : MR w0 mb H s tv ev v0 v1 v2 v3 fv hv cv iv lv w) (hb : Below w.heap.size w w') {n : Nat} {o : Obj} (hn : w.heap.size ≤ n) (ho : w'.heap[n]? = some o) :
  MLe H (ins H n o) ∧ MR w0 mb (ins H n o) s tv ev v0 v1 v2 v3 fv hv cv iv lv w' := by
 obtain ⟨k1, k2⟩ := h.core.bt1 (Bt.of_below hb) hn ho h.lt
 exact ⟨k1, k2, h.lies.later hb, h.at_.le k1 (Nat.le_refl _), h.above.le k1 (Nat.le_refl _), h.hs.le k1 (Nat.le_refl _), h.input.le k1⟩
theorem HsV.open {H : Mem} {N : Nat} {r : List (Hd × List Frame)} {x : Value} (h : HsV H N r x) : (r = [] ∧ x = .pointer none) ∨ ∃ hd fs r' b hb fa oa, r = (hd, fs) :: r' ∧ x = pt b ∧ HR H b 0 [pt hb, .pointer fa, .pointer oa] ∧ HdV H N hd.1 hd.2 (pt hb) ∧ FsV H N fs (.pointer fa) ∧ HsV H N r' (.pointer oa) := by
 cases h with
 | nil => exact .inl ⟨rfl, rfl⟩
 | cons h fs r b hv fv ov hr hh hf ht =>
  obtain ⟨hb, rfl⟩ := hh.ptr
  obtain ⟨fa, rfl⟩ := hf.ptr
  obtain ⟨oa, rfl⟩ := ht.ptr
  exact .inr ⟨h, fs, r, b, hb, fa, oa, rfl, rfl, hr, hh, hf, ht⟩
theorem HdV.open {H : Mem} {N : Nat} {a : List Arm} {e : Env} {b : Nat} (h : HdV H N a e (pt b)) : ∃ rv ev, HR H b 0 [rv, ev] ∧ ArmsA H a rv ∧ hdOk a = true ∧ EV H N e ev := by
 generalize hx : pt b = x at h
 cases h with
 | mk _ _ b' rv ev hr ha ho he =>
  have hx' : pt b = pt b' := hx
  unfold pt at hx'
  injection hx' with h1
  injection h1 with h2
  injection h2 with h3
  subst h3
  exact ⟨rv, ev, hr, ha, ho, he⟩
theorem info_part : (Tryz.prog.info? 296).map (fun i => (i.zero, i.size, i.bytes)) = some (some (.agg #[.pointer none, .pointer none]), 2, 16) := by kernel_rfl
theorem info_p : ∃ i, Tryz.prog.info? 296 = some i ∧ i.zero = some (.agg #[.pointer none, .pointer none]) ∧ i.size = 2 ∧ i.bytes = 16 := by
 have h := info_part
 cases hq : Tryz.prog.info? 296 with
 | none => rw [hq] at h; cases h
 | some i =>
  rw [hq] at h
  simp only [Option.map_some, Option.some.injEq, Prod.mk.injEq] at h
  exact ⟨i, rfl, h.1, h.2.1, h.2.2⟩
theorem cl_at {H : Mem} {arms : List Arm} {rv : Value} (h : ArmsA H arms rv) {i : Nat} {c : Arm} (hi : arms[i]? = some c) (h2 : c.2.1.length = 2) : ClAt H (blk rv) (off rv + i * 23) c := by
 obtain ⟨vv, _, h3, h4, h5⟩ := h.2 i c hi
 exact ⟨vv, h3, h4, h5, h2⟩
theorem cut_yes {w0 : World} {mb : Nat} {H : Mem} {s : St} {tv ev v0 v1 v2 v3 fv hv cv iv lv : Value} {w w3 : World} (h : MR w0 mb H s tv ev v0 v1 v2 v3 fv hv cv iv lv w) (hb : Below w.heap.size w w3) {V : Option Addr} {n' c' : Nat} {acc : List Part} {zs : List PP} {fa fb oa : Option Addr} {hb' : Nat}
  (hown : w3.ownsRow w.heap.size 296 2 (.slice V n' c') (acc.length + 1) (ppL zs ++ [.pointer fa, .pointer (some ⟨hb', 0, none⟩)])) (hpa : PartsAt H s.cells.length acc zs) {ab fs : List Frame} {hd : Hd} {r' : List (Hd × List Frame)} (hfs : FsV H s.cells.length ab (.pointer fa)) (hhd : HdV H s.cells.length hd.1 hd.2 (pt hb'))
  (hf : FsV H s.cells.length fs (.pointer fb)) (hr : HsV H s.cells.length r' (.pointer oa)) (hn : acc.length ≤ 1000000) {cb co : Nat} {c : Arm} (hc : ClAt H cb co c) :
  CutYes w0 mb H s (acc ++ [(ab, hd)]) hd c fs r' (.slice V n' c') cb co ((w3.setCell ⟨mb, 6, none⟩ (.pointer fb)).setCell ⟨mb, 7, none⟩ (.pointer oa)) := by
 rcases hown.2 with ⟨_, h0⟩ | ⟨g, cap, cur, h1, h2, h3, h4, h5, h6, h7⟩
 ·omega
 ·injection h1 with e1 e2 e3
  subst e1 e2 e3
  obtain ⟨k1, k2⟩ := h.keep hb h2 h3
  have hlen : (acc ++ [(ab, hd)]).length = acc.length + 1 := by simp
  have hcell : ∀ j u, (ppL (zs ++ [(fa, some ⟨hb', 0, none⟩)]))[j]? = some u → HC (ins H g (.cells cur 296 (0, 0))) ⟨g, j, none⟩ u := fun j u hu => ⟨_, ins_same _ _ _, fun W hW => by
   have hl : Lies W g 296 cur := hW
   rw [hl.cell, ← Array.getElem?_toList]
   rw [ppL_snoc, ← h7, List.getElem?_take] at hu
   split at hu
   ·exact hu
   ·cases hu⟩
  refine ⟨_, zs ++ [(fa, some ⟨hb', 0, none⟩)], k1, k2.cutTo (hf.le k1 (Nat.le_refl _)) (hr.le k1 (Nat.le_refl _)), ⟨_, _, by rw [hlen], by rw [hlen]; exact h4, by rw [hlen]; omega, fun _ => ⟨_, _, rfl⟩⟩, fun i z hz j u hu => ?_, ?_, ⟨acc, ab, rfl⟩, hc.le k1⟩
  ·obtain ⟨p1, p2⟩ := ppL_get hz
   simp only [blk, off, Nat.zero_add]
   match j, hu with
   | 0, hu => obtain rfl : Value.pointer z.1 = u := (by simpa using hu); exact hcell _ _ p1
   | 1, hu => obtain rfl : Value.pointer z.2 = u := (by simpa using hu); exact hcell _ _ p2
   | j + 2, hu => simp at hu
  ·have hp := hpa.snoc (p := (ab, hd)) hfs hhd
   exact ⟨hp.1, fun i p z h8 h9 => ⟨(hp.2 i p z h8 h9).1.le k1 (Nat.le_refl _), (hp.2 i p z h8 h9).2.le k1 (Nat.le_refl _)⟩⟩
set_option maxRecDepth 100000 in
set_option maxHeartbeats 8000000 in
theorem cut_any {w0 : World} {mb : Nat} {H : Mem} {s : St} {w : World} (h : MS w0 mb H s w) (op : Str) (hb : s.hs.length ≤ 1000000) :
  Calls Tryz.prog 189 #[.pointer (some ⟨mb, 6, none⟩), .string (ba op)] w (CutEnd w0 mb H s op) := by
 obtain ⟨i0, hi, hz0, hz1, hz2⟩ := info_p
 obtain ⟨tv, ev, v0, v1, v2, v3, fv, hv, cv, iv, lv, h⟩ := h
 obtain ⟨fa0, rfl⟩ := h.above.ptr
 obtain ⟨ha0, rfl⟩ := h.hs.ptr
 have z6 : w.cell? ⟨mb, 6, none⟩ = some (.pointer fa0) := h.lies.cell 6
 have z7 : w.cell? ⟨mb, 7, none⟩ = some (.pointer ha0) := h.lies.cell 7
 obtain ⟨R, hR⟩ : ∃ R, R = cut op s.above s.hs [] := ⟨_, rfl⟩
 have hmw := h.lt
 have HM := Lib.hid h
 have HR := Lib.hid hR
 have HBN := Lib.hid hb
 clear h hR hb
 go_enter Tryz.func189, Tryz.ntmps189
 go_wp2
 go_loopg [6, 7] s.hs.length (fun g tv lp wr => CutRel H s.cells.length op R s.hs.length w g tv lp wr)
 case atStart => exact ⟨s.above, s.hs, [], w.heap.size, fa0, ha0, [], HR.out, rfl, by simp, rfl, Nat.le_refl _, Lies.new w _ _, HM.out.above, HM.out.hs, World.ownsRow_nil _ _ _ _, ⟨rfl, fun i p z h => by simp at h⟩, below_new w _⟩
 case round =>
  obtain ⟨ab, rest, acc, L, fa, ha, zs, hcut, hg, htot, rfl, hL, hl, hfs, hhs, hown, hpa, hB⟩ := hrel
  have HCUT := Lib.hid hcut
  have HG := Lib.hid hg
  have HTOT := Lib.hid htot
  have HLL := Lib.hid hl
  have HFS := Lib.hid hfs
  have HOWN := Lib.hid hown
  have HPA := Lib.hid hpa
  have HB := Lib.hid hB
  have HBN2 := Lib.hid (show acc.length ≤ 1000000 by have := HBN.out; omega)
  have l0 : wr.cell? ⟨L, 0, none⟩ = some (.pointer fa) := hl.cell 0
  have l1 : wr.cell? ⟨L, 1, none⟩ = some (.pointer ha) := hl.cell 1
  clear hcut hg htot hl hfs hown hpa hB z6 z7
  unfold pt
  rcases hhs.open with ⟨rfl, h0⟩ | ⟨hd, fs, r', b, hb, fa2, oa2, rfl, h0, hr, hhd, hf2, hr2⟩
  ·obtain rfl : ha = none := by injection h0
   go_wp2
   go_ret2
   refine .inl ⟨?_, rfl, ⟨_, _, _, _, _, _, _, _, _, _, _, HM.out.later HB.out⟩⟩
   rw [← HR.out, HCUT.out]
   rfl
  ·obtain rfl : ha = some ⟨b, 0, none⟩ := by injection h0
   clear h0
   obtain ⟨rv, ev', hrh, hAh, hoh, heh⟩ := hhd.open
   obtain ⟨hdA, hdE⟩ := hd
   have hsub : Sub H wr := (HM.out.later HB.out).core.sub
   have q0 : wr.cell? ⟨b, 0, none⟩ = some (pt hb) := (hr 0 _ rfl).cell hsub
   have hLne : ∀ q, u6.ownBlock = some q → L ≠ q := fun q hq e => by
    rcases HOWN.out.2 with ⟨h1, _⟩ | ⟨g', cap, cur, h1, _, h3, _⟩
    ·rw [h1] at hq; cases hq
    ·rw [h1] at hq
     obtain rfl : g' = q := by simpa [Value.ownBlock] using hq
     have h4 : wr.heap[L]? = some _ := HLL.out
     rw [e, h3] at h4
     have h5 : (296 : Nat) = 72 := congrArg (fun o => match o with | some (.cells _ t _) => t | _ => 0) h4
     exact absurd h5 (by decide)
   have hob := own_block HOWN.out
   have hLl := HLL.out.lt
   have hBs := HB.out.size
   have hones : ∀ u ∈ [Value.pointer fa, Value.pointer (some ⟨hb, 0, none⟩)], u.oneCell' = true := fun u hu => by
    simp only [List.mem_cons, List.not_mem_nil, or_false] at hu
    rcases hu with rfl | rfl <;> rfl
   have hstep : ∀ (v' : Value) (w3 : World), (wr.alloc (.cells #[.pointer fa, .pointer (some ⟨hb, 0, none⟩)] 296)).grownBy w3 u6.ownBlock → Below w.heap.size w w3 ∧ Lies w3 L 72 #[.pointer fa, .pointer (some ⟨b, 0, none⟩)] := fun v' w3 hgr => by
    refine ⟨(HB.out.alloc (by omega) _).grown hgr (by simp; omega) (fun k hk => (hob k hk).1), ?_⟩
    exact (hgr.block L (by simp; omega) (fun e => hLne L e.symm rfl)).trans (HLL.out.alloc _)
   have HSTEP := Lib.hid hstep
   have HRH := Lib.hid hrh
   have HAH := Lib.hid hAh
   have HR0 := Lib.hid hr
   have HF2 := Lib.hid hf2
   have HR2 := Lib.hid hr2
   have HHD := Lib.hid hhd
   have HONES := Lib.hid hones
   have hbn := HBN2.out
   clear hsub hob hstep hrh hAh hr hf2 hr2 hhd hLne hones hoh heh
   unfold pt at q0
   go_wp2_with (at_builtin; go_loud (refine wpList_append_own_at _ rfl (.tmp 26) (.tmp 31) 292 rfl w.heap.size 296 i0 (.agg #[.pointer none, .pointer none]) 2 16 Tryz.underlying292 hi hz0 hz1 hz2 rfl (by decide) _ acc.length (ppL zs) rfl (own_later HOWN.out (below_new wr (.cells #[.pointer fa, .pointer (some ⟨hb, 0, none⟩)] 296))) ⟨wr.heap.size, 0, none⟩ 1 1 [.pointer fa, .pointer (some ⟨hb, 0, none⟩)] rfl rfl (new_cells _ _ _ rfl) HONES.out (by unfold maxLen; omega) (by omega) (by simp; omega) ?_))
   intro v' w3 hown3 hgr3 hnn hat3
   obtain ⟨hb3, hl3⟩ := HSTEP.out v' w3 hgr3
   have hm3 := HM.out.later hb3
   have hs3 := hm3.core.sub
   have y0 : w3.cell? ⟨L, 0, none⟩ = some (.pointer fa) := hl3.cell 0
   have y1 : w3.cell? ⟨L, 1, none⟩ = some (.pointer (some ⟨b, 0, none⟩)) := hl3.cell 1
   have q1 : w3.cell? ⟨b, 1, none⟩ = some (.pointer fa2) := (HR0.out 1 _ rfl).cell hs3
   have q2 : w3.cell? ⟨b, 2, none⟩ = some (.pointer oa2) := (HR0.out 2 _ rfl).cell hs3
   have m6 : w3.cell? ⟨mb, 6, none⟩ = some (.pointer fa0) := hm3.lies.cell 6
   have m7 : w3.cell? ⟨mb, 7, none⟩ = some (.pointer ha0) := hm3.lies.cell 7
   have n6 := hm3.lies.free 6
   have n7 := hm3.lies.free 7
   have hL3 := hl3.lt
   have HCA := Lib.hid (clause_any hs3 HRH.out HAH.out op)
   have HM3 := Lib.hid hm3
   have HOWN3 := Lib.hid hown3
   have HB3 := Lib.hid hb3
   have HL3 := Lib.hid hl3
   obtain ⟨V, n', c', rfl⟩ := own_slice hown3
   clear hown3 hgr3 hnn hat3 hb3 hl3 hm3 hs3 l0 l1 q0
   go_wp2_with fail
   refine HCA.out.mono ?_
   rintro e w4 ⟨rfl, ⟨i, c, hc1, hc2, hc3, rfl⟩ | ⟨hc1, rfl⟩⟩
   ·have HC1 := Lib.hid hc1
    have HC2 := Lib.hid hc2
    have HC3 := Lib.hid hc3
    clear hc1 hc2 hc3
    unfold ptO
    go_wp2
    go_ret2
    refine .inr ⟨acc ++ [(ab, (hdA, hdE))], (hdA, hdE), c, fs, r', _, blk rv, off rv + i * 23, ?_, rfl, ?_⟩
    ·rw [← HR.out, HCUT.out, cut, HC1.out]
    ·exact cut_yes HM.out HB3.out HOWN3.out HPA.out HFS.out HHD.out HF2.out HR2.out HBN2.out (cl_at HAH.out HC2.out HC3.out)
   ·have HC1 := Lib.hid hc1
    clear hc1
    have hbl : b < w3.heap.size := World.block_lt_of_cell? w3 _ q1
    have qa1 : (w3.alloc (.cells #[.pointer fa, .pointer (some ⟨b, 0, none⟩)] 72)).cell? ⟨b, 1, none⟩ = some (.pointer fa2) := ((below_new w3 _).cell (p := ⟨b, 1, none⟩) hbl).trans q1
    have qa2 : (w3.alloc (.cells #[.pointer fa, .pointer (some ⟨b, 0, none⟩)] 72)).cell? ⟨b, 2, none⟩ = some (.pointer oa2) := ((below_new w3 _).cell (p := ⟨b, 2, none⟩) hbl).trans q2
    go_wp2
    go_roundg r'.length
    case measure => rw [← HG.out]; simp
    case rel =>
     refine ⟨fs, r', acc ++ [(ab, (hdA, hdE))], w3.heap.size, fa2, oa2, zs ++ [(fa, some ⟨hb, 0, none⟩)], ?_, rfl, ?_, rfl, HB3.out.size, Lies.new w3 _ _, HF2.out, HR2.out, ?_, HPA.out.snoc (p := (ab, (hdA, hdE))) (b := some ⟨hb, 0, none⟩) HFS.out HHD.out, ?_⟩
     ·rw [HCUT.out, cut, HC1.out]
     ·rw [← HTOT.out, List.length_append, List.length_cons, List.length_cons, List.length_nil]; omega
     ·rw [ppL_snoc, List.length_append, List.length_cons, List.length_nil]
      exact own_later HOWN3.out (below_new w3 _)
     ·exact HB3.out.alloc HB3.out.size _
end So
end Go.Proofs.YtmodmojocclmaaaGreatDoor.K
