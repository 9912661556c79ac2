/- The machine of package source: frames are put back: the library's iterator from a slice's end, at parts. -/
import Derived.Test.YtfkakmafedhgdaaGreatDoorSoW
import Derived.RangeFuncNested
import Derived.RangeFuncBound
import Derived.RangeFuncCalls
import Derived.RangeFuncLeaves
import Derived.RangeFuncFrom
import Derived.RangeFuncBox
import Derived.Shelf.RegionOpen
import Derived.WalkKit
import Derived.OwnWalkIn
import Derived.TacticsInMore
import Derived.LoopNIn
import Derived.LoopIn
import Derived.Outline
namespace Go.Proofs.YtfkakmafedhgdaaGreatDoor.K
open Go.RowKit Go.Shelf
attribute [local go_sem] Oper.semAt_some
namespace So

/-- Whatever lay ahead of n lies as it lay, but for block b. -/
structure Kb (n b : Nat) (w w' : World) : Prop where
  os : w'.os = w.os
  tape : w'.tape = w.tape
  output : w'.output = w.output
  size : w.heap.size ≤ w'.heap.size
  block : ∀ i, i < n → i ≠ b → w'.heap[i]? = w.heap[i]?
theorem Kb.refl (n b : Nat) (w : World) : Kb n b w w := ⟨rfl, rfl, rfl, Nat.le_refl _, fun _ _ _ => rfl⟩
theorem Kb.trans {n b : Nat} {A B C : World} (h : Kb n b A B) (k : Kb n b B C) : Kb n b A C :=
  ⟨k.os.trans h.os, k.tape.trans h.tape, k.output.trans h.output, Nat.le_trans h.size k.size, fun i h1 h2 => (k.block i h1 h2).trans (h.block i h1 h2)⟩
theorem Kb.alloc {n b : Nat} {A w : World} (h : Kb n b A w) (hn : n ≤ w.heap.size) (o : Obj) : Kb n b A (w.alloc o) :=
  h.trans ⟨rfl, rfl, rfl, by simp, fun i hi _ => Below.heap_alloc w o i (by omega)⟩
theorem Kb.putObj {n b : Nat} {A w : World} (h : Kb n b A w) {l : Nat} (hl : n ≤ l) (o : Obj) : Kb n b A (w.putObj l o) :=
  h.trans ⟨rfl, rfl, rfl, by simp, fun i hi hb => World.putObj_heap_other (by omega)⟩
theorem Kb.grown {n b : Nat} {A w w' : World} (h : Kb n b A w) {row : Option Nat} (hg : w.grownBy w' row) (hs : n ≤ w.heap.size) (hr : ∀ r, row = some r → n ≤ r) : Kb n b A w' :=
  h.trans ⟨hg.os, hg.tape, hg.output, hg.size, fun i hi hb => hg.block i (by omega) (fun e => by have := hr i e.symm; omega)⟩
theorem kb_b {n b : Nat} {w : World} (hn : n ≤ w.heap.size) (W : World) (l : Nat) (o o' : Obj) (hl : w.heap.size ≤ l) (_ : W.heap[l]? = some o) (_ : o.isCells = false) (_ : o.isWalk = false) : Kb n b W (W.putObj l o') :=
  (Kb.refl n b W).putObj (by omega) _
theorem Kb.bt {n b : Nat} {A w w' : World} (h : Kb n b A w) (k : Bt b w w') (hn : n ≤ w.heap.size) : Kb n b A w' := h.trans ⟨k.os, k.tape, k.output, k.size, fun i hi hb => k.block i (by omega) hb⟩

abbrev PP := Option Addr × Option Addr
def encP {α : Type} (f : α → PP) (x : Nat × α) : Array Value := #[.int .i64 (x.1 : Int), .agg #[.pointer (f x.2).1, .pointer (f x.2).2]]
/-- What has come when m rounds are over. -/
def dnP {α : Type} (zs : List α) (m : Nat) : List (Nat × α) := (zs.reverse.take m).zipIdx.map fun p => (zs.length - 1 - p.2, p.1)
theorem dnP_length {α : Type} (zs : List α) (m : Nat) (h : m ≤ zs.length) : (dnP zs m).length = m := by simp [dnP]; omega
theorem dnP_succ {α : Type} (zs : List α) (m : Nat) (h : m < zs.length) (x : α) (hx : zs[zs.length - 1 - m]? = some x) : dnP zs (m + 1) = dnP zs m ++ [(zs.length - 1 - m, x)] := by
  unfold dnP
  have h1 : zs.reverse[m]? = some x := by rw [List.getElem?_reverse h]; exact hx
  rw [take_step _ _ _ h1, List.zipIdx_append]
  simp
  omega
theorem dnP_snd {α : Type} (zs : List α) (m : Nat) : (dnP zs m).map Prod.snd = zs.reverse.take m := by
  unfold dnP
  rw [List.map_map]
  rw [show (Prod.snd ∘ fun p : α × Nat => (zs.length - 1 - p.2, p.1)) = Prod.fst from rfl]
  simp [List.zipIdx_map_fst]
set_option maxRecDepth 100000 in
set_option maxHeartbeats 2000000 in
theorem backP_any (A : Option Addr) (n c : Nat) (w : World) : Calls Tryz.prog 197 #[.slice A n c] w fun e w' => e = .returned (.func (.func 198) #[] #[.pointer (some ⟨w.heap.size, 0, none⟩)]) ∧ w' = w.alloc (.cells #[.slice A n c] 292) := by
  go_enter Tryz.func197, Tryz.ntmps197
  go_wp2
  go_ret
  exact ⟨rfl, rfl⟩

set_option maxRecDepth 100000 in
set_option maxHeartbeats 2000000 in
theorem backP1_in {α : Type} (f : α → PP) (n : Nat) (l Bs n1 b : Nat) (A : Option Addr) (len cap : Nat) (zs : List α) (hz : zs.length = len) (hcap : len ≤ cap) (hm : len ≤ 2000000) (hBs : Bs < n1) (hBb : Bs ≠ b) (J Jx : List (Nat × α) → World → Prop)
    (hY : ∀ pre x W, J pre W → pre.length < len → YieldAt Fence.wide (n - 1) Tryz.prog l (encP f x) W fun e W' =>
      (e = .returned (.bool true) ∧ J (pre ++ [x]) W' ∧ Kb n1 b W W') ∨ (e = .returned (.bool false) ∧ Jx (pre ++ [x]) W'))
    (W : World) (hs : W.cell? ⟨Bs, 0, none⟩ = some (.slice A len cap))
    (hc : ∀ (i : Nat) x, zs[i]? = some x → ∃ g o, A = some ⟨g, o, none⟩ ∧ g < n1 ∧ g ≠ b ∧ W.cell? ⟨g, o + i * 2, none⟩ = some (.pointer (f x).1) ∧ W.cell? ⟨g, o + i * 2 + 1, none⟩ = some (.pointer (f x).2))
    (h0 : J [] W) :
    CallsIn Fence.wide n Tryz.prog 198 #[.func (.yield l) #[] #[], .pointer (some ⟨Bs, 0, none⟩)] W fun e W' => (∃ v, e = .returned v) ∧
      ((∃ ys, ys = dnP zs len ∧ J ys W') ∨ (∃ pre, (∃ k, k ≤ len ∧ pre = dnP zs k) ∧ Jx pre W')) := by
  have HC := Lib.hid hc
  have HY := Lib.hid hY
  have HS := Lib.hid hs
  clear hc hY
  refine callsIn_of_wp Tryz.func198 rfl trivial ?_ rfl
  simp only [Tryz.ntmps198, List.size_toArray, List.length_cons, List.length_nil, Nat.reduceAdd, Nat.reduceSub, Array.replicate_succ, Array.replicate_zero, List.push_toArray, List.append_toArray, List.nil_append, List.cons_append]
  gi_wp2
  clear hs
  gi_loopw [3] (fun i wr => ∃ k : Nat, k ≤ len ∧ i = .int .i64 ((len : Int) - 1 - k) ∧ J (dnP zs k) wr ∧ Kb n1 b W wr)
    (fun i _ => (intOf i + 1).toNat)
  case atStart => exact ⟨0, Nat.zero_le _, by simp, h0, Kb.refl _ _ _⟩
  case round =>
    obtain ⟨k, hk, rfl, hJs, hnx⟩ := hrel
    have hs' : wr.cell? ⟨Bs, 0, none⟩ = some (.slice A len cap) := (World.cell?_of_block (w := W) (hnx.block Bs hBs hBb)).trans HS.out
    by_cases hlt : k < len
    · obtain ⟨x, hx⟩ : ∃ x, zs[len - 1 - k]? = some x := ⟨_, List.getElem?_eq_getElem (by omega)⟩
      obtain ⟨g, o, rfl, hg, hgb, a0, a1⟩ := HC.out _ _ hx
      have e : ∀ j, wr.cell? ⟨g, j, none⟩ = W.cell? ⟨g, j, none⟩ := fun j => World.cell?_of_block (w := W) (hnx.block g hg hgb)
      rw [← e] at a0 a1
      have hds : dnP zs (k + 1) = dnP zs k ++ [(len - 1 - k, x)] := by
        have := dnP_succ zs k (by omega) x (by rw [hz]; exact hx)
        rw [hz] at this
        exact this
      clear e hx
      obtain ⟨i, hi⟩ : ∃ i, i = len - 1 - k := ⟨_, rfl⟩
      rw [← hi] at a0 a1 hds
      have hYx := HY.out _ (i, x) wr hJs (by rw [dnP_length _ _ (by omega)]; exact hlt)
      obtain ⟨fn, tmps, assign, body, hy, hR⟩ := hYx
      simp only [encP] at hy
      have hidx : (len : Int) - 1 - (k : Int) = (i : Int) := by omega
      have hil : i < len := by omega
      have hic : i < cap := by omega
      have HI := Lib.hid hi
      have HD := Lib.hid hds
      clear hi hds
      rw [hidx]
      gi_wp2
      refine ⟨fun h => absurd h (by decide), hR.mono ?_⟩
      rintro e W3 (⟨rfl, hJ3, hk3⟩ | ⟨rfl, hJx3⟩)
      · gi_wp2
        go_roundw
        case rel =>
          refine ⟨k + 1, by omega, by congr 1; omega, ?_, hnx.trans hk3⟩
          rw [HD.out]
          exact hJ3
        case measure => (simp [intOf] <;> omega)
      · gi_wp2
        refine bodyPost_ret (results_none rfl _ _ _) rfl ?_
        refine ⟨⟨_, rfl⟩, .inr ⟨_, ⟨k + 1, by omega, rfl⟩, ?_⟩⟩
        rw [HD.out]
        exact hJx3
    · obtain rfl : k = len := by omega
      gi_wp2
      go_end0
      exact ⟨⟨_, rfl⟩, .inl ⟨_, rfl, hJs⟩⟩
theorem backP_stops {α : Type} (f : α → PP) (n : Nat) (Bs n1 b : Nat) (A : Option Addr) (c : Nat) (zs : List α) (w : World) (hm : zs.length ≤ 2000000) (hcap : zs.length ≤ c) (hBs : Bs < n1) (hBb : Bs ≠ b) (hn1 : n1 ≤ w.heap.size)
    (hs : w.cell? ⟨Bs, 0, none⟩ = some (.slice A zs.length c)) (hc : ∀ (i : Nat) x, zs[i]? = some x → ∃ g o, A = some ⟨g, o, none⟩ ∧ g < n1 ∧ g ≠ b ∧ w.cell? ⟨g, o + i * 2, none⟩ = some (.pointer (f x).1) ∧ w.cell? ⟨g, o + i * 2 + 1, none⟩ = some (.pointer (f x).2)) :
    SeqStopsK Fence.wide n Tryz.prog 198 #[.pointer (some ⟨Bs, 0, none⟩)] (encP f) (Kb n1 b) (fun ys => ys = dnP zs zs.length) (fun pre => ∃ k, k ≤ zs.length ∧ pre = dnP zs k) zs.length w := fun l J Jx W hW _ _ hY h0 => by
  have hcell : ∀ g j, g < n1 → W.cell? ⟨g, j, none⟩ = w.cell? ⟨g, j, none⟩ := fun g j hg => World.cell?_of_block (w := w) (hW.block g (by omega))
  refine backP1_in f n l Bs n1 b A zs.length c zs rfl hcap hm hBs hBb J Jx hY W ((hcell _ _ hBs).trans hs) (fun i x hx => ?_) h0
  obtain ⟨g, o, h1, h2, h2', h3, h4⟩ := hc i x hx
  exact ⟨g, o, h1, h2, h2', (hcell _ _ h2).trans h3, (hcell _ _ h2).trans h4⟩
theorem enter_backP (args : Array Value) (w : World) : (callFunc 198 args).run Tryz.prog w = .ok (.enter 198 args) w := by go_simp
end So
end Go.Proofs.YtfkakmafedhgdaaGreatDoor.K

/- The machine of package source: frames are put back. -/
namespace Go.Proofs.YtfkakmafedhgdaaGreatDoor.K
open Go.RowKit Go.Shelf
attribute [local go_sem] Oper.semAt_some
namespace So

/-- Parts put back, one by one, the lowest first. -/
def putL (l : List Part) (s : St) : St := l.foldl (fun s p => { s.encl p.2 with above := p.1 }) s
theorem putL_all (parts : List Part) (s : St) : putL parts.reverse s = { s with above := (put parts s.above s.hs).1, hs := (put parts s.above s.hs).2 } := by
  induction parts with
  | nil => rfl
  | cons p r ih =>
    unfold putL at ih ⊢
    rw [List.reverse_cons, List.foldl_append, ih]
    rfl
theorem putL_snoc (l : List Part) (p : Part) (s : St) : putL (l ++ [p]) s = { (putL l s).encl p.2 with above := p.1 } := by
  unfold putL
  rw [List.foldl_append]
  rfl
theorem putL_cells (l : List Part) (s : St) : (putL l s).cells = s.cells := by
  induction l generalizing s with
  | nil => rfl
  | cons p r ih =>
    show (putL r _).cells = _
    rw [ih]
    rfl
/-- A part, and where it lies. -/
abbrev PtAt (H : Mem) (N : Nat) := { z : Part × PP // FsV H N z.1.1 (.pointer z.2.1) ∧ HdV H N z.1.2.1 z.1.2.2 (.pointer z.2.2) }
theorem parts_at {H : Mem} {N : Nat} : ∀ (parts : List Part) (av hv : Nat → Value), (∀ (i : Nat) p, parts[i]? = some p → FsV H N p.1 (av i)) → (∀ (i : Nat) p, parts[i]? = some p → HdV H N p.2.1 p.2.2 (hv i)) →
    ∃ zs : List (PtAt H N), zs.map (fun z => z.1.1) = parts ∧ ∀ (i : Nat) z, zs[i]? = some z → av i = .pointer z.1.2.1 ∧ hv i = .pointer z.1.2.2
  | [], _, _, _, _ => ⟨[], rfl, fun i z h => by simp at h⟩
  | p :: r, av, hv, hf, hh => by
    obtain ⟨zs, h1, h2⟩ := parts_at r (fun i => av (i + 1)) (fun i => hv (i + 1)) (fun i q hq => hf (i + 1) q (by simpa using hq)) (fun i q hq => hh (i + 1) q (by simpa using hq))
    have f0 := hf 0 p rfl
    have g0 := hh 0 p rfl
    obtain ⟨a, ha⟩ := f0.ptr
    obtain ⟨b, hb⟩ := g0.ptr
    rw [ha] at f0
    rw [hb] at g0
    refine ⟨⟨(p, a, some ⟨b, 0, none⟩), f0, g0⟩ :: zs, by simp [h1], fun i z hz => ?_⟩
    match i, hz with
    | 0, hz =>
      obtain rfl : _ = z := by simpa using hz
      exact ⟨ha, hb⟩
    | i + 1, hz => exact h2 i z (by simpa using hz)
section
variable {w0 : World} {mb : Nat} {H : Mem} {s : St} {w : World}
/-- Where a block turns that is none of cells. -/
theorem MS.kept (h : MS w0 mb H s w) {w' : World} {row : Option Nat} (hg : w.grownBy w' row) (hr : ∀ r, row = some r → H r = none ∧ ∃ o : Obj, w.heap[r]? = some o ∧ o.isCells = false) : MS w0 mb H s w' := by
  obtain ⟨tv, ev, v0, v1, v2, v3, fv, hv, cv, iv, lv, h⟩ := h
  have hcell : ∀ {g : Nat} {cs : Array Value} {t : TypeId} {f : Nat × Nat}, w.heap[g]? = some (.cells cs t f) → w'.heap[g]? = w.heap[g]? := fun {g cs t f} hc => hg.block g (Array.getElem?_eq_some_iff.1 hc).1 (fun e => by
    obtain ⟨_, o, ho, hn⟩ := hr g e.symm
    rw [hc] at ho
    cases ho
    cases hn)
  have hown : ∀ {lo n sz : Nat} {e : TypeId} {v : Value} {xs : List Value}, w.ownsRow lo e sz v n xs → w'.ownsRow lo e sz v n xs := fun {lo n sz e v xs} ho => by
    refine ⟨ho.1, ?_⟩
    rcases ho.2 with h0 | ⟨g, cap, cur, h1, h2, h3, h4⟩
    · exact .inl h0
    · exact .inr ⟨g, cap, cur, h1, h2, (hcell h3).trans h3, h4⟩
  have hc := h.core
  refine ⟨tv, ev, v0, v1, v2, v3, fv, hv, cv, iv, lv, ⟨hg.os.trans hc.os, hg.tape.trans hc.tape, hg.output.trans hc.output, hc.base, fun b o hb => (hg.block b (hc.dom b o hb) (fun e => by rw [(hr b e.symm).1] at hb; cases hb)).trans (hc.sub b o hb), fun b o hb => Nat.lt_of_lt_of_le (hc.dom b o hb) hg.size, hc.old, hc.free, ?_, ⟨hown hc.ts.1, hc.ts.2⟩, hc.ne⟩, (hcell h.lies).trans h.lies, h.at_, h.above, h.hs, h.input⟩
  obtain ⟨⟨ls, h1, h2, h3⟩, h4⟩ := hc.cs
  exact ⟨⟨ls, h1, hown h2, h3⟩, h4⟩
/-- A part is put on. -/
theorem MR.put1 {tv ev v0 v1 v2 v3 fv hv cv iv lv : Value} {w w2 : World} (h : MR w0 mb H s tv ev v0 v1 v2 v3 fv hv cv iv lv w) {p : Part} {a b : Option Addr} (hf : FsV H s.cells.length p.1 (.pointer a)) (hh : HdV H s.cells.length p.2.1 p.2.2 (.pointer b)) (hb : Bt mb w w2)
    (hl : Lies w2 mb 75 (mC tv ev v0 v1 v2 v3 (.pointer none) (pt w.heap.size) cv iv lv s.out s.steps s.konts)) (hn : w2.heap[w.heap.size]? = some (.cells [.pointer b, fv, hv].toArray 124)) :
    MLe H (ins H w.heap.size (.cells [.pointer b, fv, hv].toArray 124)) ∧ MS w0 mb (ins H w.heap.size (.cells [.pointer b, fv, hv].toArray 124)) { s.encl p.2 with above := p.1 } (w2.setCell ⟨mb, 6, none⟩ (.pointer a)) := by
  obtain ⟨k1, k2⟩ := h.core.bt1 hb (Nat.le_refl _) hn h.lt
  exact ⟨k1, _, _, _, _, _, _, _, _, _, _, _, k2.set 6 _, hl.set 6 _, h.at_.le k1 (Nat.le_refl _), hf.le k1 (Nat.le_refl _), .cons p.2 s.above s.hs w.heap.size _ _ _ (ins_row H _ _ _) (hh.le k1 (Nat.le_refl _)) (h.above.le k1 (Nat.le_refl _)) (h.hs.le k1 (Nat.le_refl _)), h.input.le k1⟩
end
theorem bt_others {b : Nat} {w w' : World} (h : Bt b w w') (hb : ∃ cs t f, w.heap[b]? = some (.cells cs t f)) : KeepsOthers w w' := ⟨h.size, fun k o hk ho => by
  refine (h.block k (Array.getElem?_eq_some_iff.1 hk).1 fun e => ?_).trans hk
  obtain ⟨cs, t, f, hc⟩ := hb
  rw [e, hc] at hk
  cases hk
  cases ho⟩
def PutI (w0 : World) (mb : Nat) (H : Mem) (s : St) (n1 : Nat) (W0 : World) (pre : List (Nat × PtAt H s.cells.length)) (W : World) : Prop :=
  ∃ H', MLe H H' ∧ (∀ b o, n1 ≤ b → H' b = some o → o.isCells = true) ∧ MS w0 mb H' (putL (pre.map fun x => x.2.1.1) s) W ∧ Kb n1 mb W0 W
theorem putI_own {w0 : World} {mb : Nat} {H : Mem} {s : St} {n1 : Nat} {W0 : World} (h0 : n1 ≤ W0.heap.size) : OwnFrom n1 (PutI w0 mb H s n1 W0) := fun pre X Y row ⟨H', h1, h2, h3, h4⟩ hg hr =>
  ⟨H', h1, h2, h3.kept hg (fun r e => by
    obtain ⟨hn, o, ho, hc⟩ := hr r e
    refine ⟨?_, o, ho, hc⟩
    cases hq : H' r with
    | none => rfl
    | some o' =>
      have h5 := h2 r o' hn hq
      have h6 := h3.sub r o' hq
      rw [h6] at ho
      cases ho
      rw [h5] at hc
      cases hc), h4.grown hg (Nat.le_trans h0 h4.size) (fun r e => (hr r e).1)⟩
set_option maxRecDepth 100000 in
set_option maxHeartbeats 8000000 in
theorem put_any {w0 : World} {mb : Nat} {H : Mem} {s : St} {w : World} (h : MS w0 mb H s w) {parts : List Part} {sv : Value} {av hv : Nat → Value} (hs : Sl sv parts.length) (hl : ∀ i, i < parts.length → HR H (blk sv) (off sv + i * 2) [av i, hv i])
    (hf : ∀ (i : Nat) p, parts[i]? = some p → FsV H s.cells.length p.1 (av i)) (hh : ∀ (i : Nat) p, parts[i]? = some p → HdV H s.cells.length p.2.1 p.2.2 (hv i)) :
    Calls Tryz.prog 196 #[.pointer (some ⟨mb, 6, none⟩), sv] w (MEnd w0 mb H { s with above := (put parts s.above s.hs).1, hs := (put parts s.above s.hs).2 }) := by
  obtain ⟨zs, hz1, hz2⟩ := parts_at parts av hv hf hh
  obtain ⟨A, c, rfl, hc, hlb, hA⟩ := hs
  have hzl : parts.length = zs.length := by rw [← hz1, List.length_map]
  rw [hzl] at hc hlb hA hl ⊢
  obtain ⟨W0, hW0⟩ : ∃ W0, W0 = (w.alloc (.cells #[.pointer (some ⟨mb, 6, none⟩)] 120)).alloc (.cells #[.slice A zs.length c] 292) := ⟨_, rfl⟩
  have hb0 : Below w.heap.size w W0 := by rw [hW0]; exact (below_new w _).trans ((below_new _ _).mono (by simp))
  have hz0 : W0.heap.size = w.heap.size + 2 := by rw [hW0]; simp
  have hs0 : W0.cell? ⟨w.heap.size + 1, 0, none⟩ = some (.slice A zs.length c) := by rw [hW0]; exact (Lies.new' _ _ #[Value.slice A zs.length c] (N := w.heap.size + 1) (by simp)).cell 0
  have hp0 : Lies W0 w.heap.size 120 #[.pointer (some ⟨mb, 6, none⟩)] := by rw [hW0]; exact (Lies.new w _ _).alloc _
  have hmw := h.lt
  have hcz : ∀ (i : Nat) (x : PtAt H s.cells.length), zs[i]? = some x → ∃ g o, A = some ⟨g, o, none⟩ ∧ g < w.heap.size + 2 ∧ g ≠ mb ∧ W0.cell? ⟨g, o + i * 2, none⟩ = some (.pointer x.1.2.1) ∧ W0.cell? ⟨g, o + i * 2 + 1, none⟩ = some (.pointer x.1.2.2) := fun i x hx => by
    have hi := (List.getElem?_eq_some_iff.1 hx).1
    obtain ⟨g, o, rfl⟩ := hA (by omega)
    obtain ⟨e1, e2⟩ := hz2 i x hx
    have r := hl i hi
    rw [e1, e2] at r
    have c1 : HC H ⟨g, o + i * 2, none⟩ (.pointer x.1.2.1) := r 0 _ rfl
    have c2 : HC H ⟨g, o + i * 2 + 1, none⟩ (.pointer x.1.2.2) := r 1 _ rfl
    have hm0 := h.later hb0
    obtain ⟨ob, hob, _⟩ := c1
    have hob : H g = some ob := hob
    have hgl := World.block_lt_of_cell? w _ (c2.cell h.sub)
    have hgl : g < w.heap.size := hgl
    refine ⟨g, o, rfl, by omega, fun e => ?_, (r 0 _ rfl).cell hm0.sub, c2.cell hm0.sub⟩
    obtain ⟨_, _, _, _, _, _, _, _, _, _, _, hq⟩ := h
    have := hq.core.free
    rw [← e, hob] at this
    cases this
  have hI0 : PutI w0 mb H s (w.heap.size + 2) W0 [] W0 := ⟨H, MLe.refl H, fun b o h1 h2 => by
    obtain ⟨_, _, _, _, _, _, _, _, _, _, _, hq⟩ := h
    have := hq.core.dom b o h2
    omega, h.later hb0, Kb.refl _ _ _⟩
  have hfin : putL ((dnP zs zs.length).map fun x => x.2.1.1) s = { s with above := (put parts s.above s.hs).1, hs := (put parts s.above s.hs).2 } := by
    rw [← putL_all, ← hz1, show (fun x : Nat × PtAt H s.cells.length => x.2.1.1) = (fun z : PtAt H s.cells.length => z.1.1) ∘ Prod.snd from rfl, ← List.map_map, dnP_snd, List.take_of_length_le (by simp), List.map_reverse]
  have HFIN := Lib.hid hfin
  have HI0 := Lib.hid hI0
  have HCZ := Lib.hid hcz
  have HS0 := Lib.hid hs0
  have HP0 := Lib.hid hp0
  have HZ0 := Lib.hid hz0
  have HW := Lib.hid hW0
  have HLB := Lib.hid hlb
  have HCC := Lib.hid hc
  clear h hf hh hz1 hz2 hzl hl hA hb0 hz0 hs0 hp0 hcz hI0 hfin hW0
  refine callsIn_wide (n := 9) |>.1 (callsIn_of_wp_marks Tryz.func196 rfl trivial ?_ rfl)
  refine wpIn_wide.2 ?_
  simp only [Tryz.ntmps196, List.size_toArray, List.length_cons, List.length_nil, Nat.reduceAdd, Nat.reduceSub, Array.replicate_succ, Array.replicate_zero, List.push_toArray, List.append_toArray, List.nil_append, List.cons_append]
  go_wp2_with (first | (go_at_call 197; refine (backP_any _ _ _ _).mono ?_; rintro e w5 ⟨rfl, rfl⟩))
  rw [← HW.out]
  refine wpIn_wide (n := 9) |>.1 ?_
  refine wpIn_rangeFunc_ownH (F := Fence.wide) (n := 9) rfl (by decide) (gf := 198) (lb := #[.pointer (some ⟨w.heap.size + 1, 0, none⟩)]) rfl trivial enter_backP
    (backP_stops (fun z : PtAt H s.cells.length => z.1.2) 8 (w.heap.size + 1) (w.heap.size + 2) mb A c zs W0 HLB.out HCC.out (by omega) (by omega) (by rw [HZ0.out]; exact Nat.le_refl _) HS0.out HCZ.out) Kb.trans (kb_b (by rw [HZ0.out]; exact Nat.le_refl _)) (Below.refl _ _) (fun _ => rfl)
    (PutI w0 mb H s (w.heap.size + 2) W0) (fun _ _ _ => False) (by rw [HZ0.out]; exact putI_own (by rw [HZ0.out]; exact Nat.le_refl _)) (fun _ _ _ _ _ h _ _ => h) HI0.out
    (fun x a' W => ∃ B6, w.heap.size + 2 ≤ B6 ∧ Lies W B6 296 #[.pointer x.2.1.2.1, .pointer x.2.1.2.2] ∧ a' = { tmps := #[.pointer (some ⟨mb, 6, none⟩), .slice A zs.length c, .pointer (some ⟨w.heap.size, 0, none⟩), undef, undef, .pointer (some ⟨B6, 0, none⟩), .slice A zs.length c, Value.func (Fn.func 198) #[] #[Value.pointer (some { block := w.heap.size + 1, off := 0 })], .int .i64 (x.1 : Int), .agg #[.pointer x.2.1.2.1, .pointer x.2.1.2.2], undef, undef, undef, undef, undef, undef, undef, undef, undef], defers := [] })
    (fun x a' _ X Y row ⟨B6, h1, h2, h3⟩ hg hr => ⟨B6, h1, (hg.block B6 h2.lt (fun e => by
      obtain ⟨_, o, ho, hc⟩ := hr B6 e.symm
      have h2' : X.heap[B6]? = some _ := h2
      rw [h2'] at ho
      cases ho
      cases hc)).trans h2, h3⟩) ?assign ?body ?done ?stop
  case stop => exact fun D c pre W _ _ h _ => h.elim
  case assign =>
    intro l2 pre x W K hi hK
    have hszW : w.heap.size + 2 ≤ W.heap.size := by have h4 := hi.choose_spec.2.2.2.size; rw [HZ0.out] at h4; exact h4
    dsimp only [encP]
    gi_wp2
    exact hK _ _ ((KeepsOthers.alloc _ _).from _) ((Kb.refl _ _ _).alloc hszW _) ((putI_own (by rw [HZ0.out]; exact Nat.le_refl _)).alloc _ hi) ⟨W.heap.size, hszW, Lies.new _ _ _, rfl⟩
  case body =>
    rintro l2 pre ⟨xi, ⟨⟨p, za, zb⟩, hzf, hzh⟩⟩ a' W hl2 ⟨r, hr⟩ ⟨H', hk', hcl, ⟨tv, ev, v0, v1, v2, v3, fv, hv', cv, iv, lv, hm⟩, hKb⟩ ⟨B6, hB6, hw6, rfl⟩ hlt
    obtain ⟨fa, rfl⟩ := hm.above.ptr
    obtain ⟨ha, rfl⟩ := hm.hs.ptr
    have hszW : w.heap.size + 2 ≤ W.heap.size := by have h4 := hKb.size; rw [HZ0.out] at h4; exact h4
    have hpW : Lies W w.heap.size 120 #[.pointer (some ⟨mb, 6, none⟩)] := (hKb.block w.heap.size (by omega) (by omega)).trans HP0.out
    have c2 := hpW.cell 0
    have b0 : W.cell? ⟨B6, 0, none⟩ = some (.pointer za) := hw6.cell 0
    have b1 : W.cell? ⟨B6, 1, none⟩ = some (.pointer zb) := hw6.cell 1
    have hb6 := hw6.lt
    have hen := encl_raw W mb tv ev v0 v1 v2 v3 (.pointer fa) (.pointer ha) cv iv lv _ _ _ zb fa ha rfl rfl hm.lies
    have HEN := Lib.hid (CallsIn.inRound l2 ((callsIn_wide (n := 9 - 1 - 1 - 1)).2 hen))
    have HM := Lib.hid hm
    have HK' := Lib.hid hk'
    have HCL := Lib.hid hcl
    have HKB := Lib.hid hKb
    have HPW := Lib.hid hpW
    have HW6 := Lib.hid hw6
    have HZF := Lib.hid hzf
    have HZH := Lib.hid hzh
    clear hm hk' hcl hKb hpW hen
    gi_wp2_with fail
    refine ⟨trivial, HEN.out.mono ?_⟩
    rintro e W3 ⟨rfl, hbt, hl3, hn3⟩
    have c2' : W3.cell? ⟨w.heap.size, 0, none⟩ = some (.pointer (some ⟨mb, 6, none⟩)) := (World.cell?_of_block (w := W) (a := ⟨w.heap.size, 0, none⟩) (hbt.block _ HPW.out.lt (by show w.heap.size ≠ mb; omega))).trans c2
    have b0' : W3.cell? ⟨B6, 0, none⟩ = some (.pointer za) := (World.cell?_of_block (w := W) (a := ⟨B6, 0, none⟩) (hbt.block _ hb6 (by show B6 ≠ mb; omega))).trans b0
    have m6 : W3.cell? ⟨mb, 6, none⟩ = some (.pointer none) := hl3.cell 6
    have f6 := hl3.free 6
    have HBT := Lib.hid hbt
    have HL3 := Lib.hid hl3
    have HN3 := Lib.hid hn3
    clear hbt hl3 hn3
    gi_wp2
    obtain ⟨k1, k2⟩ := HM.out.put1 (p := p) (by rw [putL_cells]; exact HZF.out.le HK'.out (Nat.le_refl _)) (by rw [putL_cells]; exact HZH.out.le HK'.out (Nat.le_refl _)) HBT.out HL3.out HN3.out
    have hbt2 := HBT.out.set 6 (.pointer za)
    refine ⟨(bt_others hbt2 ⟨_, _, _, HM.out.lies⟩).from _, (Kb.refl _ _ _).bt hbt2 hszW, ⟨_, HK'.out.trans k1, fun b o h1 h2 => ?_, by rw [List.map_append, List.map_cons, List.map_nil, putL_snoc]; exact k2, HKB.out.bt hbt2 hszW⟩⟩
    unfold ins at h2
    split at h2
    · cases h2; rfl
    · exact HCL.out b o h1 h2
  case done =>
    rintro D ys W hD rfl ⟨H', hk', hcl, hm, hKb⟩ hDD
    rw [HFIN.out] at hm
    have HM := Lib.hid hm
    have HK' := Lib.hid hk'
    have HDD := Lib.hid hDD
    have HCL := Lib.hid hcl
    clear hm hk' hcl hKb hDD
    rw [HZ0.out] at hD
    refine ⟨by simp, .inl ⟨_, _, rfl, run_takeDeferred HDD.out, ⟨.tuple #[], results_none rfl _ _ _, rfl, H', HK'.out, HM.out.kept (grownBy_putObj' W D _) fun r e => ?_⟩⟩⟩
    obtain rfl : D = r := by injection e
    refine ⟨?_, _, HDD.out, rfl⟩
    cases hq : H' D with
    | none => rfl
    | some o' =>
      have h5 := HCL.out D o' hD hq
      have h6 := HM.out.sub D o' hq
      rw [HDD.out] at h6
      cases h6
      cases h5
end So
end Go.Proofs.YtfkakmafedhgdaaGreatDoor.K
