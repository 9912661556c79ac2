/- The machine of package source: contracts of what writes its cells. -/
import Derived.Test.YtmodmojocclmaaaGreatDoorMg05
import Derived.Test.YtmodmojocclmaaaGreatDoorMg03
import Derived.WalkKit
import Derived.BigRegion
import Derived.Deep.MidRow
namespace Go.Proofs.YtmodmojocclmaaaGreatDoor.K
open Go Go.RowKit
theorem Bt.set {b : Nat} {w w' : World} (h : Bt b w w') (i : Nat) (v : Value) : Bt b w (w'.setCell ⟨b, i, none⟩ v) :=
 ⟨h.os, h.tape, h.output, by simpa using h.size, fun j h1 h2 => (Below.heap_setCell w' _ v j (by simpa using h2)).trans (h.block j h1 h2)⟩
theorem Bt.alloc {b : Nat} {w w' : World} (h : Bt b w w') (o : Obj) : Bt b w (w'.alloc o) :=
 ⟨h.os, h.tape, h.output, by have := h.size; simp; omega, fun j h1 h2 => (Below.heap_alloc w' o j (Nat.lt_of_lt_of_le h1 h.size)).trans (h.block j h1 h2)⟩
theorem Bt.drew {b : Nat} {w w' : World} (h : Bt b w w') : Bt b w w'.drew := ⟨h.os, h.tape, h.output, h.size, h.block⟩
theorem Lies.drew {w : World} {g : Nat} {t : TypeId} {cs : Array Value} (h : Lies w g t cs) : Lies w.drew g t cs := h
theorem heap_new_at {X : World} {n : Nat} (h : X.heap.size = n) (o : Obj) : (X.alloc o).heap[n]? = some o := by subst h; exact heap_alloc_new X o
namespace So

section
variable {w0 : World} {mb : Nat} {H : Mem} {cv lv : Value} {cells : List Val} {trace : List Int} {w : World}
theorem Core.bt (h : Core w0 mb H cv lv cells trace w) {w' : World} (hb : Bt mb w w') : Core w0 mb H cv lv cells trace w' := by
 have hne : ∀ b o, H b = some o → b ≠ mb := fun b o hx e => by rw [e, h.free] at hx; cases hx
 refine ⟨hb.os.trans h.os, hb.tape.trans h.tape, hb.output.trans h.output, h.base, fun b x hx => (hb.block b (h.dom _ _ hx) (hne b x hx)).trans (h.sub b x hx), fun b x hx => Nat.lt_of_lt_of_le (h.dom b x hx) hb.size, h.old, h.free, ?_, ?_, h.ne⟩
 ·obtain ⟨⟨ls, h1, h2, h3⟩, h4⟩ := h.cs
  exact ⟨⟨ls, h1, own_same h2 fun g hg hl => hb.block g hl (by omega), h3⟩, h4⟩
 ·exact ⟨own_same h.ts.1 fun g hg hl => hb.block g hl (by omega), h.ts.2⟩
end
section
variable {w0 : World} {mb : Nat} {H : Mem} {cv lv : Value} {cells : List Val} {trace : List Int} {w : World}
theorem Core.bt1 (h : Core w0 mb H cv lv cells trace w) {w' : World} (hb : Bt mb w w') {n : Nat} {o : Obj} (hn : w.heap.size ≤ n) (ho : w'.heap[n]? = some o) (hm : mb < w.heap.size) : MLe H (ins H n o) ∧ Core w0 mb (ins H n o) cv lv cells trace w' := by
 have hf : H n = none := by
  cases hq : H n with
  | none => rfl
  | some x => exact absurd (h.dom _ _ hq) (by omega)
 have hle := ins_le o hf
 have k := h.bt hb
 have hlt : n < w'.heap.size := (Array.getElem?_eq_some_iff.1 ho).1
 refine ⟨hle, k.os, k.tape, k.output, k.base, fun b x hx => ?_, fun b x hx => ?_, fun b hb' => ?_, ?_, ?_, ?_, k.ne⟩
 ·unfold ins at hx
  by_cases he : b = n
  ·subst he; rw [if_pos rfl] at hx; rw [← hx]; exact ho
  ·rw [if_neg he] at hx; exact k.sub b x hx
 ·unfold ins at hx
  by_cases he : b = n
  ·omega
  ·rw [if_neg he] at hx; exact k.dom b x hx
 ·have := h.base
  unfold ins
  rw [if_neg (by omega)]
  exact h.old b hb'
 ·unfold ins; rw [if_neg (by omega)]; exact h.free
 ·obtain ⟨⟨ls, h1, h2, h3⟩, h4⟩ := k.cs
  obtain ⟨⟨ls', _, h2', _⟩, _⟩ := h.cs
  refine ⟨⟨ls, h1, h2, fun i x u hx hu => (h3 i x u hx hu).le hle (Nat.le_refl _)⟩, fun b hb' => ?_⟩
  have := (own_lt h2' hb').2
  unfold ins; rw [if_neg (by omega)]; exact h4 b hb'
 ·have := fun b hb' => (own_lt h.ts.1 (b := b) hb').2
  refine ⟨k.ts.1, fun b hb' => ?_⟩
  have := this b hb'
  unfold ins; rw [if_neg (by omega)]; exact k.ts.2 b hb'
end
theorem FV.iface {H : Mem} {N : Nat} {f : Frame} {x : Value} (h : FV H N f x) : ∃ t b, x = .iface t (pt b) := by cases h <;> exact ⟨_, _, rfl⟩
theorem EV.ptr {H : Mem} {N : Nat} {e : Env} {x : Value} (h : EV H N e x) : ∃ a, x = .pointer a := by cases h <;> exact ⟨_, rfl⟩
theorem FsV.ptr {H : Mem} {N : Nat} {e : List Frame} {x : Value} (h : FsV H N e x) : ∃ a, x = .pointer a := by cases h <;> exact ⟨_, rfl⟩
theorem HsV.ptr {H : Mem} {N : Nat} {e : List (Hd × List Frame)} {x : Value} (h : HsV H N e x) : ∃ a, x = .pointer a := by cases h <;> exact ⟨_, rfl⟩
theorem HdV.ptr {H : Mem} {N : Nat} {a : List Arm} {e : Env} {x : Value} (h : HdV H N a e x) : ∃ b, x = pt b := by cases h; exact ⟨_, rfl⟩
theorem AtV.ptr {H : Mem} {N : Nat} {a : Option (Tm × Env)} {v : Val} {tv ev : Value} {l : List Value} (h : AtV H N a v tv ev l) : ∃ x, tv = .pointer x := by
 unfold AtV at h
 split at h
 ·obtain ⟨⟨b, o, rfl, _⟩, _⟩ := h; exact ⟨_, rfl⟩
 ·exact ⟨_, h.1⟩
theorem AtV.le {H H' : Mem} {N N' : Nat} (hk : MLe H H') (hN : N ≤ N') {a : Option (Tm × Env)} {v : Val} {tv ev : Value} {l : List Value} (h : AtV H N a v tv ev l) : AtV H' N' a v tv ev l := by
 unfold AtV at h ⊢
 split at h
 ·obtain ⟨⟨b, o, rfl, h1⟩, h2, h3, h4⟩ := h
  exact ⟨⟨b, o, rfl, h1.le hk⟩, h2.le hk hN, h3, h4⟩
 ·exact ⟨h.1, h.2.le hk hN⟩

set_option maxRecDepth 100000 in
set_option maxHeartbeats 4000000 in
theorem answer_raw (w : World) (mb : Nat) (tv ev v0 v1 v2 v3 fv hv cv iv lv : Value) (out : Int) (st ko : Nat) (k n : Int) (c : Option Addr) (f : Value) (hf : IfV f)
  (hl : Lies w mb 75 (mC tv ev v0 v1 v2 v3 fv hv cv iv lv out st ko)) :
  Calls Tryz.prog 31 #[pt mb, .agg #[.int .i64 k, .int .i64 n, .pointer c, f]] w fun e w' => e = .returned (.tuple #[]) ∧ Bt mb w w' ∧ Lies w' mb 75 (mC (.pointer none) (.pointer none) (.int .i64 k) (.int .i64 n) (.pointer c) f fv hv cv iv lv out st ko) := by
 have z0 : w.cell? ⟨mb, 0, none⟩ = some tv := hl.cell 0
 have z1 : w.cell? ⟨mb, 1, none⟩ = some ev := hl.cell 1
 have z2 : w.cell? ⟨mb, 2, none⟩ = some v0 := hl.cell 2
 have z3 : w.cell? ⟨mb, 3, none⟩ = some v1 := hl.cell 3
 have z4 : w.cell? ⟨mb, 4, none⟩ = some v2 := hl.cell 4
 have z5 : w.cell? ⟨mb, 5, none⟩ = some v3 := hl.cell 5
 have z6 : w.cell? ⟨mb, 6, none⟩ = some fv := hl.cell 6
 have z7 : w.cell? ⟨mb, 7, none⟩ = some hv := hl.cell 7
 have f0 := hl.free 0
 have f1 := hl.free 1
 have f2 := hl.free 2
 have f3 := hl.free 3
 have f4 := hl.free 4
 have f5 := hl.free 5
 have f6 := hl.free 6
 have f7 := hl.free 7
 have hlt := hl.lt
 have HL := Lib.hid hl
 clear hl
 unfold pt
 rcases hf with rfl | ⟨ft, fx, rfl⟩
 all_goals
  go_enter Tryz.func31, Tryz.ntmps31
  go_wp2
  go_region
  all_goals
   go_end0
   exact ⟨rfl, (((((((Bt.refl _ _).set 0 _).set 1 _).set 2 _).set 3 _).set 4 _).set 5 _).alloc _ |>.drew, ((((((HL.out.set 0 _).set 1 _).set 2 _).set 3 _).set 4 _).set 5 _).alloc _⟩
set_option maxRecDepth 100000 in
set_option maxHeartbeats 4000000 in
theorem at_raw (w : World) (mb : Nat) (tv ev v0 v1 v2 v3 fv hv cv iv lv : Value) (out : Int) (st ko : Nat) (t en : Option Addr)
  (hl : Lies w mb 75 (mC tv ev v0 v1 v2 v3 fv hv cv iv lv out st ko)) :
  Calls Tryz.prog 36 #[pt mb, .pointer t, .pointer en] w fun e w' => e = .returned (.tuple #[]) ∧ Bt mb w w' ∧ Lies w' mb 75 (mC (.pointer t) (.pointer en) v0 v1 v2 v3 fv hv cv iv lv out st ko) := by
 have z0 : w.cell? ⟨mb, 0, none⟩ = some tv := hl.cell 0
 have z1 : w.cell? ⟨mb, 1, none⟩ = some ev := hl.cell 1
 have z2 : w.cell? ⟨mb, 2, none⟩ = some v0 := hl.cell 2
 have z3 : w.cell? ⟨mb, 3, none⟩ = some v1 := hl.cell 3
 have z4 : w.cell? ⟨mb, 4, none⟩ = some v2 := hl.cell 4
 have z5 : w.cell? ⟨mb, 5, none⟩ = some v3 := hl.cell 5
 have z6 : w.cell? ⟨mb, 6, none⟩ = some fv := hl.cell 6
 have z7 : w.cell? ⟨mb, 7, none⟩ = some hv := hl.cell 7
 have f0 := hl.free 0
 have f1 := hl.free 1
 have f2 := hl.free 2
 have f3 := hl.free 3
 have f4 := hl.free 4
 have f5 := hl.free 5
 have f6 := hl.free 6
 have f7 := hl.free 7
 have hlt := hl.lt
 have HL := Lib.hid hl
 clear hl
 unfold pt
 all_goals
  go_enter Tryz.func36, Tryz.ntmps36
  go_wp2
  go_end0
  exact ⟨rfl, ((Bt.refl _ _).set 0 _).set 1 _, (HL.out.set 0 _).set 1 _⟩
set_option maxRecDepth 100000 in
set_option maxHeartbeats 4000000 in
theorem end_raw (w : World) (mb : Nat) (tv ev v0 v1 v2 v3 fv hv cv iv lv : Value) (out : Int) (st ko : Nat) (o : Int)
  (hl : Lies w mb 75 (mC tv ev v0 v1 v2 v3 fv hv cv iv lv out st ko)) :
  Calls Tryz.prog 29 #[pt mb, .int .i64 o] w fun e w' => e = .returned (.tuple #[]) ∧ Bt mb w w' ∧ Lies w' mb 75 (mC tv ev v0 v1 v2 v3 fv hv cv iv lv o st ko) := by
 have z0 : w.cell? ⟨mb, 0, none⟩ = some tv := hl.cell 0
 have z1 : w.cell? ⟨mb, 1, none⟩ = some ev := hl.cell 1
 have z2 : w.cell? ⟨mb, 2, none⟩ = some v0 := hl.cell 2
 have z3 : w.cell? ⟨mb, 3, none⟩ = some v1 := hl.cell 3
 have z4 : w.cell? ⟨mb, 4, none⟩ = some v2 := hl.cell 4
 have z5 : w.cell? ⟨mb, 5, none⟩ = some v3 := hl.cell 5
 have z6 : w.cell? ⟨mb, 6, none⟩ = some fv := hl.cell 6
 have z7 : w.cell? ⟨mb, 7, none⟩ = some hv := hl.cell 7
 have f0 := hl.free 0
 have f1 := hl.free 1
 have f2 := hl.free 2
 have f3 := hl.free 3
 have f4 := hl.free 4
 have f5 := hl.free 5
 have f6 := hl.free 6
 have f7 := hl.free 7
 have hlt := hl.lt
 have HL := Lib.hid hl
 clear hl
 have z11 : w.cell? ⟨mb, 11, none⟩ = some (.int .i64 out) := HL.out.cell 11
 have f11 := HL.out.free 11
 unfold pt
 all_goals
  go_enter Tryz.func29, Tryz.ntmps29
  go_wp2
  go_end0
  exact ⟨rfl, (Bt.refl _ _).set 11 _, HL.out.set 11 _⟩
set_option maxRecDepth 100000 in
set_option maxHeartbeats 4000000 in
theorem push_raw (w : World) (mb : Nat) (tv ev v0 v1 v2 v3 fv hv cv iv lv : Value) (out : Int) (st ko : Nat) (T : TypeId) (x : Value) (a : Option Addr) (hf : fv = .pointer a)
  (hl : Lies w mb 75 (mC tv ev v0 v1 v2 v3 fv hv cv iv lv out st ko)) :
  Calls Tryz.prog 40 #[.pointer (some ⟨mb, 6, none⟩), .iface T x] w fun e w' => e = .returned (.tuple #[]) ∧ Bt mb w w' ∧ Lies w' mb 75 (mC tv ev v0 v1 v2 v3 (pt w.heap.size) hv cv iv lv out st ko) ∧ w'.heap[w.heap.size]? = some (.cells [.iface T x, fv].toArray 122) := by
 have z0 : w.cell? ⟨mb, 0, none⟩ = some tv := hl.cell 0
 have z1 : w.cell? ⟨mb, 1, none⟩ = some ev := hl.cell 1
 have z2 : w.cell? ⟨mb, 2, none⟩ = some v0 := hl.cell 2
 have z3 : w.cell? ⟨mb, 3, none⟩ = some v1 := hl.cell 3
 have z4 : w.cell? ⟨mb, 4, none⟩ = some v2 := hl.cell 4
 have z5 : w.cell? ⟨mb, 5, none⟩ = some v3 := hl.cell 5
 have z6 : w.cell? ⟨mb, 6, none⟩ = some fv := hl.cell 6
 have z7 : w.cell? ⟨mb, 7, none⟩ = some hv := hl.cell 7
 have f0 := hl.free 0
 have f1 := hl.free 1
 have f2 := hl.free 2
 have f3 := hl.free 3
 have f4 := hl.free 4
 have f5 := hl.free 5
 have f6 := hl.free 6
 have f7 := hl.free 7
 have hlt := hl.lt
 have HL := Lib.hid hl
 clear hl
 subst hf
 unfold pt
 all_goals
  go_enter Tryz.func40, Tryz.ntmps40
  go_wp2
  go_end0
  exact ⟨rfl, ((Bt.refl _ _).set 6 _).alloc _, (HL.out.set 6 _).alloc _, heap_new_at (by simp) _⟩
set_option maxRecDepth 100000 in
set_option maxHeartbeats 4000000 in
theorem encl_raw (w : World) (mb : Nat) (tv ev v0 v1 v2 v3 fv hv cv iv lv : Value) (out : Int) (st ko : Nat) (h : Option Addr) (a b : Option Addr) (hf : fv = .pointer a) (hh : hv = .pointer b)
  (hl : Lies w mb 75 (mC tv ev v0 v1 v2 v3 fv hv cv iv lv out st ko)) :
  Calls Tryz.prog 39 #[.pointer (some ⟨mb, 6, none⟩), .pointer h] w fun e w' => e = .returned (.tuple #[]) ∧ Bt mb w w' ∧ Lies w' mb 75 (mC tv ev v0 v1 v2 v3 (.pointer none) (pt w.heap.size) cv iv lv out st ko) ∧ w'.heap[w.heap.size]? = some (.cells [.pointer h, fv, hv].toArray 124) := by
 have z0 : w.cell? ⟨mb, 0, none⟩ = some tv := hl.cell 0
 have z1 : w.cell? ⟨mb, 1, none⟩ = some ev := hl.cell 1
 have z2 : w.cell? ⟨mb, 2, none⟩ = some v0 := hl.cell 2
 have z3 : w.cell? ⟨mb, 3, none⟩ = some v1 := hl.cell 3
 have z4 : w.cell? ⟨mb, 4, none⟩ = some v2 := hl.cell 4
 have z5 : w.cell? ⟨mb, 5, none⟩ = some v3 := hl.cell 5
 have z6 : w.cell? ⟨mb, 6, none⟩ = some fv := hl.cell 6
 have z7 : w.cell? ⟨mb, 7, none⟩ = some hv := hl.cell 7
 have f0 := hl.free 0
 have f1 := hl.free 1
 have f2 := hl.free 2
 have f3 := hl.free 3
 have f4 := hl.free 4
 have f5 := hl.free 5
 have f6 := hl.free 6
 have f7 := hl.free 7
 have hlt := hl.lt
 have HL := Lib.hid hl
 clear hl
 subst hf hh
 unfold pt
 all_goals
  go_enter Tryz.func39, Tryz.ntmps39
  go_wp2
  go_end0
  exact ⟨rfl, (((Bt.refl _ _).set 6 _).set 7 _).alloc _, ((HL.out.set 6 _).set 7 _).alloc _, heap_new_at (by simp) _⟩
end So
end Go.Proofs.YtmodmojocclmaaaGreatDoor.K
