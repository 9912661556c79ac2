/- Contracts of the library's searches in a slice of texts, or of numbers. -/
import Derived.Test.YtmodmojocclmaaaGreatDoorMg02
import Derived.Test.YtmodmojocclmaaaGreatDoorMg00
import Derived.Test.YtmodmojocclmaaaGreatDoorMg01
import Derived.Outline
import Derived.Deep.QuietTactic
import Derived.BigQuiet
namespace Go.Proofs.YtmodmojocclmaaaGreatDoor
open Go.RowKit

def Sl (w : World) (v : Value) (ts : List (List UInt8)) : Prop :=
 ∃ g o c, v = .slice (some ⟨g, o, none⟩) ts.length c ∧ ts.length ≤ c ∧ ts.length ≤ 1000 ∧ ∀ i t, ts[i]? = some t → w.cell? ⟨g, o + i, none⟩ = some (.string (ba t))
def Il (w : World) (v : Value) (ts : List Nat) : Prop :=
 ∃ g o c, v = .slice (some ⟨g, o, none⟩) ts.length c ∧ ts.length ≤ c ∧ ts.length ≤ 1000 ∧ ∀ (i t : Nat), ts[i]? = some t → w.cell? ⟨g, o + i, none⟩ = some (.int .i64 (t : Int))

def IdxEnd (b : Bool) (w : World) (e : Ending) (w' : World) : Prop := ∃ n : Int, e = .returned (.int .i64 n) ∧ decide (0 ≤ n) = b ∧ w = w'

theorem ba_toList (l : List UInt8) : (ba l).toList = l := by rw [Lib.toList_data]; simp [ba]

theorem not_in_snoc {α : Type} [BEq α] [LawfulBEq α] (l : List α) (x y : α) (k : Nat) (hk : l[k]? = some y) (h : (l.take k).contains x = false) (hne : y ≠ x) : (l.take (k + 1)).contains x = false := by
 have hk' : k < l.length := (List.getElem?_eq_some_iff.1 hk).1
 rw [List.take_succ_eq_append_getElem hk']
 have : l[k] = y := (List.getElem?_eq_some_iff.1 hk).2
 simp only [List.contains_eq_mem, List.mem_append, List.mem_singleton, this, decide_eq_false_iff_not] at h ⊢
 rintro (h1 | h1)
 ·exact h h1
 ·exact hne h1.symm
theorem in_of_get {α : Type} [BEq α] [LawfulBEq α] (l : List α) (x : α) (k : Nat) (hk : l[k]? = some x) : l.contains x = true := by
 simp only [List.contains_eq_mem, decide_eq_true_eq]
 exact List.mem_of_getElem? hk

set_option maxHeartbeats 400000 in
theorem indexI_any (v : Value) (ts : List Nat) (x : Nat) (w : World) (h : Il w v ts) :
  Calls Tryz.prog 113 #[v, .int .i64 (x : Int)] w (IdxEnd (ts.contains x) w) := by
 obtain ⟨g, o, c, rfl, hc, hm, hcell⟩ := h
 have HC := Lib.hid hcell
 clear hcell
 generalize hb : ts.contains x = b
 have HB := Lib.hid hb
 clear hb
 go_enter Tryz.func113, Tryz.ntmps113
 go_wp2
 go_loop [8] (fun i => ∃ k : Nat, k ≤ ts.length ∧ i = .int .i64 k ∧ (ts.take k).contains x = false) (fun i => ts.length - (intOf i).toNat)
 case atStart => exact ⟨0, Nat.zero_le _, rfl, by simp⟩
 case round =>
  obtain ⟨k, hk, rfl, hr⟩ := hrel
  have HR := Lib.hid hr
  clear hr
  by_cases hlt : k < ts.length
  ·have hc2 : k < c := by omega
   obtain ⟨y, hy⟩ : ∃ y, ts[k]? = some y := ⟨_, List.getElem?_eq_getElem hlt⟩
   have hcell := HC.out k y hy
   have HY := Lib.hid hy
   clear hy
   by_cases hxy : x = y
   ·subst hxy
    go_wp2
    go_ret
    exact ⟨(k : Int), rfl, by rw [← HB.out, in_of_get _ _ _ HY.out]; simp, rfl⟩
   ·have hne : ((x : Int) == (y : Int)) = false := by simpa using fun h : (x : Int) = (y : Int) => hxy (by omega)
    go_wp2
    go_round
    case rel => exact ⟨k + 1, by omega, by go_num, not_in_snoc _ _ _ _ HY.out HR.out (fun h => hxy h.symm)⟩
    case measure => simp [intOf]; omega
  ·go_wp2
   go_ret
   have hr := HR.out
   rw [List.take_of_length_le (by omega)] at hr
   exact ⟨_, rfl, by rw [← HB.out, hr]; rfl, rfl⟩

set_option maxHeartbeats 400000 in
theorem indexS_any (v : Value) (ts : List (List UInt8)) (x : List UInt8) (w : World) (h : Sl w v ts) :
  Calls Tryz.prog 99 #[v, .string (ba x)] w (IdxEnd (ts.contains x) w) := by
 obtain ⟨g, o, c, rfl, hc, hm, hcell⟩ := h
 have HC := Lib.hid hcell
 clear hcell
 generalize hb : ts.contains x = b
 have HB := Lib.hid hb
 clear hb
 go_enter Tryz.func99, Tryz.ntmps99
 go_wp2
 go_loop [8] (fun i => ∃ k : Nat, k ≤ ts.length ∧ i = .int .i64 k ∧ (ts.take k).contains x = false) (fun i => ts.length - (intOf i).toNat)
 case atStart => exact ⟨0, Nat.zero_le _, rfl, by simp⟩
 case round =>
  obtain ⟨k, hk, rfl, hr⟩ := hrel
  have HR := Lib.hid hr
  clear hr
  by_cases hlt : k < ts.length
  ·have hc2 : k < c := by omega
   obtain ⟨y, hy⟩ : ∃ y, ts[k]? = some y := ⟨_, List.getElem?_eq_getElem hlt⟩
   have hcell := HC.out k y hy
   have HY := Lib.hid hy
   clear hy
   by_cases hxy : x = y
   ·subst hxy
    go_wp2
    go_ret
    exact ⟨(k : Int), rfl, by rw [← HB.out, in_of_get _ _ _ HY.out]; simp, rfl⟩
   ·have hne : ((ba x).toList == (ba y).toList) = false := by simpa [ba_toList] using hxy
    go_wp2
    go_round
    case rel => exact ⟨k + 1, by omega, by go_num, not_in_snoc _ _ _ _ HY.out HR.out (fun h => hxy h.symm)⟩
    case measure => simp [intOf]; omega
  ·go_wp2
   go_ret
   have hr := HR.out
   rw [List.take_of_length_le (by omega)] at hr
   exact ⟨_, rfl, by rw [← HB.out, hr]; rfl, rfl⟩

set_option maxHeartbeats 400000 in
theorem containsI_any (v : Value) (ts : List Nat) (x : Nat) (w : World) (h : Il w v ts) :
  Calls Tryz.prog 98 #[v, .int .i64 (x : Int)] w fun e w' => e = .returned (.bool (ts.contains x)) ∧ w = w' := by
 generalize hb : ts.contains x = b
 have hi := indexI_any v ts x w h
 rw [hb] at hi
 have HI := Lib.hid hi
 clear hi hb
 go_enter Tryz.func98, Tryz.ntmps98
 go_wp2_with fail
 refine HI.out.mono ?_
 rintro e w' ⟨n, rfl, hn, rfl⟩
 go_wp2
 go_ret
 exact ⟨rfl, rfl⟩
set_option maxHeartbeats 400000 in
theorem containsS_any (v : Value) (ts : List (List UInt8)) (x : List UInt8) (w : World) (h : Sl w v ts) :
  Calls Tryz.prog 72 #[v, .string (ba x)] w fun e w' => e = .returned (.bool (ts.contains x)) ∧ w = w' := by
 generalize hb : ts.contains x = b
 have hi := indexS_any v ts x w h
 rw [hb] at hi
 have HI := Lib.hid hi
 clear hi hb
 go_enter Tryz.func72, Tryz.ntmps72
 go_wp2_with fail
 refine HI.out.mono ?_
 rintro e w' ⟨n, rfl, hn, rfl⟩
 go_wp2
 go_ret
 exact ⟨rfl, rfl⟩
end Go.Proofs.YtmodmojocclmaaaGreatDoor

/- Where the parser is, in memory; contracts of the methods of the row of words. -/
namespace Go.Proofs.YtmodmojocclmaaaGreatDoor
open Go.RowKit Pz

def Tw (w : World) (B : Nat) (v : Value) (ws : List Lx.Tk) : Prop :=
 ∃ A c, v = .slice A ws.length c ∧ ws.length ≤ c ∧ c ≤ 9223372036854775807 ∧ (0 < ws.length → ∃ g o, A = some ⟨g, o, none⟩ ∧ g < B ∧ ∀ (i : Nat) (x : Lx.Tk), ws[i]? = some x →
  w.cell? ⟨g, o + i * 4, none⟩ = some (.int .i64 (x.k : Int)) ∧ w.cell? ⟨g, o + i * 4 + 1, none⟩ = some (.string (ba x.t)) ∧ w.cell? ⟨g, o + i * 4 + 2, none⟩ = some (.int .i64 (x.n : Int)) ∧ w.cell? ⟨g, o + i * 4 + 3, none⟩ = some (.int .i64 (x.pos : Int)))
def PA (w : World) (pb sz : Nat) (s : St) : Prop :=
 ∃ v, Lies w pb 94 #[v, .int .i64 (sz : Int), .int .i64 (s.wi : Int), .int .i64 (s.at_ : Int), .int .i64 (s.er : Int)] ∧ Tw w pb v s.ws
abbrev Kp (pb : Nat) (w w' : World) : Prop := w.grownBy w' (some pb)

theorem Kp.refl (pb : Nat) (w : World) : Kp pb w w := ⟨rfl, rfl, rfl, Nat.le_refl _, fun _ _ _ => rfl⟩
theorem Kp.trans {pb : Nat} {a b c : World} (h : Kp pb a b) (k : Kp pb b c) : Kp pb a c :=
 ⟨k.os.trans h.os, k.tape.trans h.tape, k.output.trans h.output, Nat.le_trans h.size k.size, fun i hi hne => (k.block i (Nat.lt_of_lt_of_le hi h.size) hne).trans (h.block i hi hne)⟩
theorem Kp.drewN {pb : Nat} {a w : World} (h : Kp pb a w) (n : Nat) : Kp pb a (w.drewN n) := ⟨h.os, h.tape, h.output, h.size, h.block⟩
theorem Kp.drew {pb : Nat} {a w : World} (h : Kp pb a w) : Kp pb a w.drew := ⟨h.os, h.tape, h.output, h.size, h.block⟩
theorem Kp.alloc {pb : Nat} {a w : World} (h : Kp pb a w) (o : Obj) : Kp pb a (w.alloc o) :=
 ⟨h.os, h.tape, h.output, Nat.le_trans h.size (by simp), fun i hi hne => (Below.heap_alloc w o i (Nat.lt_of_lt_of_le hi h.size)).trans (h.block i hi hne)⟩
theorem Kp.setCell {pb : Nat} {a w : World} (h : Kp pb a w) {p : Addr} (hp : p.block = pb ∨ a.heap.size ≤ p.block) (u : Value) : Kp pb a (w.setCell p u) :=
 ⟨h.os, h.tape, h.output, by simpa [World.setCell] using h.size, fun i hi hne => (Below.heap_setCell w p u i (by
  rintro rfl
  rcases hp with hp | hp
  ·exact hne (by rw [hp])
  ·omega)).trans (h.block i hi hne)⟩
theorem Kp.below {pb : Nat} {a w w' : World} (h : Kp pb a w) {B : Nat} (hb : Below B w w') (hB : a.heap.size ≤ B) : Kp pb a w' :=
 ⟨hb.os.trans h.os, hb.tape.trans h.tape, hb.output.trans h.output, Nat.le_trans h.size hb.size, fun i hi hne => (hb.block i (by omega)).trans (h.block i hi hne)⟩
theorem Kp.lies {pb : Nat} {w w' : World} (h : Kp pb w w') {g : Nat} {t : TypeId} {cs : Array Value} (hl : Lies w g t cs) (hg : g ≠ pb) : Lies w' g t cs := hl.grown h (fun e => hg (by injection e))
theorem Kp.cell {pb : Nat} {w w' : World} (h : Kp pb w w') {p : Addr} {v : Value} (hc : w.cell? p = some v) (hg : p.block ≠ pb) : w'.cell? p = some v :=
 (World.cell?_of_block (w := w) (h.block p.block (World.block_lt_of_cell? w p hc) (fun e => hg (by injection e)))).trans hc

theorem Tw.keep {w w' : World} {B : Nat} {v : Value} {ws : List Lx.Tk} (h : Tw w B v ws) (hk : ∀ g, g < B → w'.heap[g]? = w.heap[g]?) : Tw w' B v ws := by
 obtain ⟨A, c, h1, h2, h2', h3⟩ := h
 refine ⟨A, c, h1, h2, h2', fun h0 => ?_⟩
 obtain ⟨g, o, h4, h5, h6⟩ := h3 h0
 refine ⟨g, o, h4, h5, fun i x hx => ?_⟩
 have hh : ∀ j, w'.cell? ⟨g, j, none⟩ = w.cell? ⟨g, j, none⟩ := fun j => World.cell?_of_block (w := w) (hk g h5)
 rw [hh, hh, hh, hh]
 exact h6 i x hx
theorem PA.lt {w : World} {pb sz : Nat} {s : St} (h : PA w pb sz s) : pb < w.heap.size := by
 obtain ⟨v, hl, _⟩ := h; exact hl.lt
theorem PA.below {w w' : World} {pb sz : Nat} {s : St} (h : PA w pb sz s) (hb : Below w.heap.size w w') : PA w' pb sz s := by
 have hlt := h.lt
 obtain ⟨v, hl, ht⟩ := h
 exact ⟨v, hl.later hb, ht.keep fun g hg => hb.block g (by omega)⟩
theorem PA.alloc {w : World} {pb sz : Nat} {s : St} (h : PA w pb sz s) (o : Obj) : PA (w.alloc o) pb sz s := h.below ((Below.refl _ _).alloc (Nat.le_refl _) _)
theorem PA.drewN {w : World} {pb sz : Nat} {s : St} (h : PA w pb sz s) (n : Nat) : PA (w.drewN n) pb sz s := h
theorem PA.far {w : World} {pb sz : Nat} {s : St} (h : PA w pb sz s) {p : Addr} (hp : pb < p.block) (u : Value) : PA (w.setCell p u) pb sz s := by
 obtain ⟨v, hl, ht⟩ := h
 exact ⟨v, hl.far (by omega) u, ht.keep fun g hg => Below.heap_setCell _ _ _ _ (by omega)⟩
theorem Lies.set {w : World} {g : Nat} {t : TypeId} {cs : Array Value} (h : Lies w g t cs) (i : Nat) (u : Value) : Lies (w.setCell ⟨g, i, none⟩ u) g t (cs.setIfInBounds i u) := by
 unfold Lies at h ⊢
 simp only [World.setCell, Array.getElem?_modify, if_true, h]
 rfl

structure Pv (w : World) (pb sz : Nat) (s : St) (v : Value) : Prop where
 c0 : w.cell? ⟨pb, 0, none⟩ = some v
 c1 : w.cell? ⟨pb, 1, none⟩ = some (.int .i64 (sz : Int))
 c2 : w.cell? ⟨pb, 2, none⟩ = some (.int .i64 (s.wi : Int))
 c3 : w.cell? ⟨pb, 3, none⟩ = some (.int .i64 (s.at_ : Int))
 c4 : w.cell? ⟨pb, 4, none⟩ = some (.int .i64 (s.er : Int))
 fr : ∀ i, w.frozen? ⟨pb, i, none⟩ = false
theorem PA.open {w : World} {pb sz : Nat} {s : St} (h : PA w pb sz s) : ∃ v, Pv w pb sz s v ∧ Tw w pb v s.ws ∧ Lies w pb 94 #[v, .int .i64 (sz : Int), .int .i64 (s.wi : Int), .int .i64 (s.at_ : Int), .int .i64 (s.er : Int)] := by
 obtain ⟨v, hl, ht⟩ := h
 exact ⟨v, ⟨hl.cell 0, hl.cell 1, hl.cell 2, hl.cell 3, hl.cell 4, hl.free⟩, ht, hl⟩

theorem Tw.nil {w : World} {B : Nat} {v : Value} {ws : List Lx.Tk} (h : Tw w B v ws) (h0 : ws = []) : ∃ A c, v = .slice A 0 c := by
 obtain ⟨A, c, h1, _⟩ := h
 subst h0
 exact ⟨A, c, h1⟩
theorem Tw.cons {w : World} {B : Nat} {v : Value} {x : Lx.Tk} {r : List Lx.Tk} (h : Tw w B v (x :: r)) : ∃ g o c, v = .slice (some ⟨g, o, none⟩) (r.length + 1) c ∧ r.length + 1 ≤ c ∧ c ≤ 9223372036854775807 ∧ g < B ∧
  (w.cell? ⟨g, o, none⟩ = some (.int .i64 (x.k : Int)) ∧ w.cell? ⟨g, o + 1, none⟩ = some (.string (ba x.t)) ∧ w.cell? ⟨g, o + 2, none⟩ = some (.int .i64 (x.n : Int)) ∧ w.cell? ⟨g, o + 3, none⟩ = some (.int .i64 (x.pos : Int))) ∧
  ∀ A, (r = [] ∨ A = some ⟨g, o + 4, none⟩) → Tw w B (.slice A r.length (c - 1)) r := by
 obtain ⟨A, c, h1, h2, h2', h3⟩ := h
 obtain ⟨g, o, h4, h5, h6⟩ := h3 (by simp)
 simp only [List.length_cons] at h1 h2
 refine ⟨g, o, c, by rw [h1, h4], h2, h2', h5, by simpa using h6 0 x rfl, fun A hA => ⟨A, c - 1, rfl, by omega, by omega, fun h0 => ?_⟩⟩
 rcases hA with rfl | rfl
 ·simp at h0
 ·refine ⟨g, o + 4, rfl, h5, fun i y hy => ?_⟩
  have := h6 (i + 1) y (by simpa using hy)
  rw [show o + (i + 1) * 4 = o + 4 + i * 4 by omega] at this
  exact this

theorem isOf_nil {ks : List Nat} {s : St} (h : s.ws = []) : isOf ks s = false := by unfold isOf; rw [h]
theorem isOf_cons {ks : List Nat} {s : St} {x : Lx.Tk} {r : List Lx.Tk} (h : s.ws = x :: r) : isOf ks s = ks.contains x.k := by unfold isOf; rw [h]

set_option maxHeartbeats 800000 in
theorem isOf_any (v : Value) (ks : List Nat) (w : World) (pb sz : Nat) (s : St) (hp : PA w pb sz s) (hv : Il w v ks) :
  Calls Tryz.prog 71 #[.pointer (some ⟨pb, 0, none⟩), v] w fun e w' => e = .returned (.bool (isOf ks s)) ∧ w = w' := by
 obtain ⟨V, pv, hT, _⟩ := hp.open
 obtain ⟨c0, _, _, _, _, _⟩ := pv
 rcases hw : s.ws with _ | ⟨x, r⟩
 ·rw [isOf_nil hw]
  rw [hw] at hT
  obtain ⟨A, c, rfl⟩ := hT.nil rfl
  clear hT hp hw
  go_enter Tryz.func71, Tryz.ntmps71
  go_wp2
  go_ret
  exact ⟨rfl, rfl⟩
 ·rw [isOf_cons hw]
  rw [hw] at hT
  obtain ⟨g, o, c, rfl, hc, hm, _, ⟨a0, _, _, _⟩, _⟩ := hT.cons
  clear hT hp hw
  generalize hb : ks.contains x.k = b
  have hcon := containsI_any v ks x.k
  rw [hb] at hcon
  have HC := Lib.hid hcon
  clear hcon hb
  have h1 : (0 : Int) < (r.length : Int) + 1 := by omega
  have h2 : 0 < c := by omega
  go_enter Tryz.func71, Tryz.ntmps71
  go_wp2_with (go_at_call 98; refine (HC.out _ hv).mono ?_; rintro e w' ⟨rfl, rfl⟩)
  go_ret
  exact ⟨rfl, rfl⟩
end Go.Proofs.YtmodmojocclmaaaGreatDoor

/- Contracts of the methods of the row of words, second part. -/
namespace Go.Proofs.YtmodmojocclmaaaGreatDoor
open Go.RowKit Pz

theorem isT_nil {ts : List Str} {s : St} (h : s.ws = []) : isT ts s = false := by unfold isT; rw [h]
theorem isT_cons {ts : List Str} {s : St} {x : Lx.Tk} {r : List Lx.Tk} (h : s.ws = x :: r) : isT ts s = ((x.k == 4 || x.k == 5) && ts.contains x.t) := by unfold isT; rw [h]
theorem kinds45 (k : Nat) : [4, 5].contains k = (k == 4 || k == 5) := by
 rw [Bool.eq_iff_iff]; simp
theorem Il.new {w : World} {t : TypeId} {N : Nat} (ks : List Nat) (hN : w.heap.size = N) (hl : ks.length ≤ 1000) (n c : Nat) (hn : n = ks.length) (hc : c = ks.length) : Il (w.alloc (.cells (ks.map fun (k : Nat) => Value.int .i64 (k : Int)).toArray t)) (.slice (some ⟨N, 0, none⟩) n c) ks := by
 subst hn hc
 refine ⟨N, 0, _, rfl, Nat.le_refl _, hl, fun i k hk => ?_⟩
 have h := (Lies.new' w t (ks.map fun (k : Nat) => Value.int .i64 (k : Int)).toArray hN).cell (0 + i)
 rw [h]
 simp [hk]
theorem Sl.new {w : World} {t : TypeId} {N : Nat} (ts : List Str) (hN : w.heap.size = N) (hl : ts.length ≤ 1000) (n c : Nat) (hn : n = ts.length) (hc : c = ts.length) : Sl (w.alloc (.cells (ts.map fun k => Value.string (ba k)).toArray t)) (.slice (some ⟨N, 0, none⟩) n c) ts := by
 subst hn hc
 refine ⟨N, 0, _, rfl, Nat.le_refl _, hl, fun i k hk => ?_⟩
 have h := (Lies.new' w t (ts.map fun k => Value.string (ba k)).toArray hN).cell (0 + i)
 rw [h]
 simp [hk]
theorem Sl.later {w w' : World} {v : Value} {ts : List Str} (h : Sl w v ts) (hb : Below w.heap.size w w') : Sl w' v ts := by
 obtain ⟨g, o, c, h1, h2, h3, h4⟩ := h
 exact ⟨g, o, c, h1, h2, h3, fun i t ht => (hb.cell (p := ⟨g, o + i, none⟩) (World.block_lt_of_cell? w _ (h4 i t ht))).trans (h4 i t ht)⟩
theorem Il.later {w w' : World} {v : Value} {ts : List Nat} (h : Il w v ts) (hb : Below w.heap.size w w') : Il w' v ts := by
 obtain ⟨g, o, c, h1, h2, h3, h4⟩ := h
 exact ⟨g, o, c, h1, h2, h3, fun i t ht => (hb.cell (p := ⟨g, o + i, none⟩) (World.block_lt_of_cell? w _ (h4 i t ht))).trans (h4 i t ht)⟩
theorem below_new (w : World) (o : Obj) : Below w.heap.size w (w.alloc o) := (Below.refl _ _).alloc (Nat.le_refl _) _

set_option maxHeartbeats 800000 in
theorem is_any (v : Value) (ts : List Str) (w : World) (pb sz : Nat) (s : St) (hp : PA w pb sz s) (hv : Sl w v ts) :
  Calls Tryz.prog 48 #[.pointer (some ⟨pb, 0, none⟩), v] w fun e w' => e = .returned (.bool (isT ts s)) ∧ Below w.heap.size w w' := by
 have hI := fun t => Il.new (w := w) (t := t) [4, 5] rfl (by decide) 2 2 rfl rfl
 obtain ⟨V, pv, hT, _⟩ := hp.open
 rcases hw : s.ws with _ | ⟨x, r⟩
 ·rw [isT_nil hw]
  have HW := Lib.hid (isOf_nil (ks := [4, 5]) hw)
  clear hw hT pv
  go_enter Tryz.func48, Tryz.ntmps48
  go_wp2_with (go_at_call 71; refine (isOf_any _ [4, 5] _ pb sz s (hp.alloc _) (hI _)).mono ?_; rintro e w' ⟨rfl, rfl⟩; rw [HW.out])
  go_ret
  exact ⟨rfl, below_new _ _⟩
 ·rw [isT_cons hw]
  have HW := isOf_cons (ks := [4, 5]) hw
  rw [kinds45] at HW
  rw [hw] at hT
  obtain ⟨g, o, c, rfl, hc, _, _, ⟨_, a1, _, _⟩, _⟩ := hT.cons
  obtain ⟨c0, _, _, _, _, _⟩ := pv
  have c0' := fun o => cell_alloc w o c0
  have a1' := fun o => cell_alloc w o a1
  clear hT hw c0 a1
  have h2 : 0 < c := by omega
  have h1 : (0 : Int) < (r.length : Int) + 1 := by omega
  cases hk : (x.k == 4 || x.k == 5)
  ·rw [hk] at HW
   have HW := Lib.hid HW
   clear hk
   go_enter Tryz.func48, Tryz.ntmps48
   go_wp2_with (go_at_call 71; refine (isOf_any _ [4, 5] _ pb sz s (hp.alloc _) (hI _)).mono ?_; rintro e w' ⟨rfl, rfl⟩; rw [HW.out])
   go_ret
   exact ⟨rfl, below_new _ _⟩
  ·rw [hk] at HW
   have HW := Lib.hid HW
   clear hk
   have hcon := fun w => containsS_any v ts x.t w
   generalize ts.contains x.t = b at hcon
   have HC := Lib.hid hcon
   clear hcon
   go_enter Tryz.func48, Tryz.ntmps48
   go_wp2_with (first | (go_at_call 71; refine (isOf_any _ [4, 5] _ pb sz s (hp.alloc _) (hI _)).mono ?_; rintro e w' ⟨rfl, rfl⟩; rw [HW.out]) | (go_at_call 72; refine (HC.out _ (hv.later (below_new _ _))).mono ?_; rintro e w' ⟨rfl, rfl⟩))
   go_ret
   exact ⟨rfl, below_new _ _⟩

set_option maxHeartbeats 800000 in
theorem where_any (w : World) (pb sz : Nat) (s : St) (hp : PA w pb sz s) :
  Calls Tryz.prog 81 #[.pointer (some ⟨pb, 0, none⟩)] w fun e w' => e = .returned (.int .i64 (whr sz s : Nat)) ∧ w = w' := by
 obtain ⟨V, pv, hT, _⟩ := hp.open
 obtain ⟨c0, c1, _, _, _, _⟩ := pv
 rcases hw : s.ws with _ | ⟨x, r⟩
 ·rw [show whr sz s = sz by unfold whr; rw [hw]]
  rw [hw] at hT
  obtain ⟨A, c, rfl⟩ := hT.nil rfl
  clear hT hp hw
  go_enter Tryz.func81, Tryz.ntmps81
  go_wp2
  go_ret
  exact ⟨rfl, rfl⟩
 ·rw [show whr sz s = x.pos by unfold whr; rw [hw]]
  rw [hw] at hT
  obtain ⟨g, o, c, rfl, hc, hm, _, ⟨_, _, _, a3⟩, _⟩ := hT.cons
  clear hT hp hw
  have h2 : 0 < c := by omega
  have h1 : ((r.length : Int) + 1 == 0) = false := by simp; omega
  go_enter Tryz.func81, Tryz.ntmps81
  go_wp2
  go_ret
  exact ⟨rfl, rfl⟩

structure Goes (pb sz : Nat) (w : World) (s' : St) (w' : World) : Prop where
 pa : PA w' pb sz s'
 kp : Kp pb w w'

theorem put_words {w : World} {pb sz : Nat} {s : St} {v v' : Value} {ws : List Lx.Tk} (hL : Lies w pb 94 #[v, .int .i64 (sz : Int), .int .i64 (s.wi : Int), .int .i64 (s.at_ : Int), .int .i64 (s.er : Int)]) (hT : Tw w pb v' ws) :
  PA (w.setCell ⟨pb, 0, none⟩ v') pb sz { s with ws := ws } := by
 have h := hL.set 0 v'
 exact ⟨v', h, hT.keep fun g hg => Below.heap_setCell _ _ _ _ (by show g ≠ pb; omega)⟩
theorem goes_put {w : World} {pb sz : Nat} {s : St} {v v' : Value} {x : Lx.Tk} {r : List Lx.Tk} (hL : Lies w pb 94 #[v, .int .i64 (sz : Int), .int .i64 (s.wi : Int), .int .i64 (s.at_ : Int), .int .i64 (s.er : Int)]) (hw : s.ws = x :: r) (hT : Tw w pb v' r) :
  PA (w.setCell ⟨pb, 0, none⟩ v') pb sz (take s) := by
 have h := put_words hL hT
 have e : ({ s with ws := r } : St) = take s := by unfold take; rw [hw]; rfl
 rw [e] at h
 exact h

set_option maxHeartbeats 800000 in
theorem take_any (w : World) (pb sz : Nat) (s : St) (hp : PA w pb sz s) (x : Lx.Tk) (r : List Lx.Tk) (hw : s.ws = x :: r) :
  Calls Tryz.prog 73 #[.pointer (some ⟨pb, 0, none⟩)] w fun e w' => e = .returned (tkV x) ∧ Goes pb sz w (take s) w' := by
 have hlt := hp.lt
 obtain ⟨V, pv, hT, hL⟩ := hp.open
 obtain ⟨c0, _, _, _, _, fr⟩ := pv
 rw [hw] at hT
 obtain ⟨g, o, c, rfl, hc, hm, hg, ⟨a0, a1, a2, a3⟩, hrest⟩ := hT.cons
 have b0 := fun o => cell_alloc w o c0
 have b1 := fun o o' => cell_alloc (w.alloc o) o' (b0 o)
 have d0 := fun o => cell_alloc w o a0
 have d1 := fun o => cell_alloc w o a1
 have d2 := fun o => cell_alloc w o a2
 have d3 := fun o => cell_alloc w o a3
 have hk : ∀ (A : Option Addr) (c' : Nat), (r = [] ∨ A = some ⟨g, o + 4, none⟩) → c' = c - 1 → ∀ o1 o2, Goes pb sz w (take s) (((w.setCell ⟨pb, 0, none⟩ (.slice A r.length c')).alloc o1).alloc o2) := by
  rintro A c' hA rfl o1 o2
  exact ⟨((goes_put hL hw (hrest A hA)).alloc o1).alloc o2, (((Kp.refl pb w).setCell (.inl rfl) _).alloc o1).alloc o2⟩
 have HK := Lib.hid hk
 clear hT hw a0 a1 a2 a3 c0 hk hL hrest hp
 have h2 : 0 < c := by omega
 go_enter Tryz.func73, Tryz.ntmps73
 go_wp2
 all_goals refine bodyPost_ret (v := tkV x) (by simp [results, Tryz.results73, go_sem, tkV]) rfl ⟨rfl, ?_⟩
 ·exact HK.out _ _ (.inl (List.eq_nil_of_length_eq_zero (by omega))) (by omega) _ _
 ·exact HK.out _ _ (.inr rfl) rfl _ _
end Go.Proofs.YtmodmojocclmaaaGreatDoor

/- Contracts of the parser's small steps: what takes a word, what fails. -/
namespace Go.Proofs.YtmodmojocclmaaaGreatDoor
open Go.RowKit Pz

theorem Goes.refl {w : World} {pb sz : Nat} {s : St} (h : PA w pb sz s) : Goes pb sz w s w := ⟨h, Kp.refl _ _⟩
theorem Goes.trans {w w1 w2 : World} {pb sz : Nat} {s s' : St} (h : Goes pb sz w s w1) (k : Goes pb sz w1 s' w2) : Goes pb sz w s' w2 := ⟨k.pa, h.kp.trans k.kp⟩
theorem Goes.below {w w1 w2 : World} {pb sz : Nat} {s : St} (h : Goes pb sz w s w1) (hb : Below w1.heap.size w1 w2) : Goes pb sz w s w2 := ⟨h.pa.below hb, h.kp.below hb h.kp.size⟩
theorem Goes.from {w w1 w2 : World} {pb sz : Nat} {s s' : St} (hp : PA w pb sz s) (hb : Below w.heap.size w w1) (h : Goes pb sz w1 s' w2) : Goes pb sz w s' w2 := (((Goes.refl hp).below hb).trans h)
theorem Sl.kp {w w' : World} {v : Value} {ts : List Str} {pb : Nat} (h : Sl w v ts) (hk : Kp pb w w') (hne : ∀ g o n c, v = .slice (some ⟨g, o, none⟩) n c → g ≠ pb) : Sl w' v ts := by
 obtain ⟨g, o, c, h1, h2, h3, h4⟩ := h
 exact ⟨g, o, c, h1, h2, h3, fun i t ht => hk.cell (h4 i t ht) (hne g o _ _ h1)⟩

set_option maxHeartbeats 800000 in
theorem takeIf_yes (v : Value) (ts : List Str) (w : World) (pb sz : Nat) (s : St) (hp : PA w pb sz s) (hv : Sl w v ts) (h : isT ts s = true) :
  Calls Tryz.prog 49 #[.pointer (some ⟨pb, 0, none⟩), v] w fun e w' => e = .returned (.bool true) ∧ Goes pb sz w (take s) w' := by
 have hi := is_any v ts w pb sz s hp hv
 rw [h] at hi
 have HI := Lib.hid hi
 have hws : ∃ x r, s.ws = x :: r := by
  have := isT_pos h
  match s.ws, this with
  | x :: r, _ => exact ⟨x, r, rfl⟩
 obtain ⟨x, r, hw⟩ := hws
 have HW := Lib.hid hw
 clear hi h hw
 go_enter Tryz.func49, Tryz.ntmps49
 go_wp2_with fail
 refine HI.out.mono ?_
 rintro e w1 ⟨rfl, hb⟩
 go_wp2_with fail
 refine (take_any _ pb sz s (hp.below hb) x r HW.out).mono ?_
 rintro e w2 ⟨rfl, hg⟩
 unfold tkV
 go_wp2_with fail
 go_ret
 exact ⟨rfl, Goes.from hp hb hg⟩
set_option maxHeartbeats 800000 in
theorem takeIf_no (v : Value) (ts : List Str) (w : World) (pb sz : Nat) (s : St) (hp : PA w pb sz s) (hv : Sl w v ts) (h : isT ts s = false) :
  Calls Tryz.prog 49 #[.pointer (some ⟨pb, 0, none⟩), v] w fun e w' => e = .returned (.bool false) ∧ Below w.heap.size w w' := by
 have hi := is_any v ts w pb sz s hp hv
 rw [h] at hi
 have HI := Lib.hid hi
 clear hi h
 go_enter Tryz.func49, Tryz.ntmps49
 go_wp2_with fail
 refine HI.out.mono ?_
 rintro e w1 ⟨rfl, hb⟩
 go_wp2_with fail
 go_ret
 exact ⟨rfl, hb⟩

set_option maxHeartbeats 400000 in
theorem drop_any (w : World) (pb : Nat) (v : Value) (h : w.cell? ⟨pb, 0, none⟩ = some v) (hf : w.frozen? ⟨pb, 0, none⟩ = false) :
  Calls Tryz.prog 82 #[.pointer (some ⟨pb, 0, none⟩)] w fun e w' => e = .returned (.tuple #[]) ∧ w.setCell ⟨pb, 0, none⟩ (.slice none 0 0) = w' := by
 go_enter Tryz.func82, Tryz.ntmps82
 go_wp2
 go_end0
 exact ⟨rfl, rfl⟩
set_option maxHeartbeats 800000 in
theorem fail_any (er : Nat) (w : World) (pb sz : Nat) (s : St) (hp : PA w pb sz s) :
  Calls Tryz.prog 54 #[.pointer (some ⟨pb, 0, none⟩), .int .i64 (er : Int)] w fun e w' => e = .returned (.tuple #[]) ∧ Goes pb sz w (fail sz er s) w' := by
 have hp0 := hp
 obtain ⟨V, pv, hT, hL⟩ := hp.open
 obtain ⟨c0, c1, c2, c3, c4, fr⟩ := pv
 by_cases h : s.er = 0
 ·have hz : ((s.er : Int) == 0) = true := by simp [h]
  have he : fail sz er s = { ws := [], wi := s.wi, at_ := whr sz s, er := er } := by unfold fail; rw [if_pos h]
  rw [he]
  have hk : Goes pb sz w { ws := [], wi := s.wi, at_ := whr sz s, er := er } (((w.setCell ⟨pb, 3, none⟩ (.int .i64 (whr sz s : Nat))).setCell ⟨pb, 4, none⟩ (.int .i64 (er : Int))).setCell ⟨pb, 0, none⟩ (.slice none 0 0)) := by
   refine ⟨⟨.slice none 0 0, ((hL.set 3 _).set 4 _).set 0 _, ⟨none, 0, rfl, Nat.le_refl _, Nat.zero_le _, fun h0 => absurd h0 (by simp)⟩⟩, (((Kp.refl pb w).setCell (.inl rfl) _).setCell (.inl rfl) _).setCell (.inl rfl) _⟩
  have HK := Lib.hid hk
  have g0 : ((w.setCell ⟨pb, 3, none⟩ (.int .i64 (whr sz s : Nat))).setCell ⟨pb, 4, none⟩ (.int .i64 (er : Int))).cell? ⟨pb, 0, none⟩ = some V := ((hL.set 3 _).set 4 _).cell 0
  have g1 : ((w.setCell ⟨pb, 3, none⟩ (.int .i64 (whr sz s : Nat))).setCell ⟨pb, 4, none⟩ (.int .i64 (er : Int))).frozen? ⟨pb, 0, none⟩ = false := ((hL.set 3 _).set 4 _).free 0
  have hd := drop_any _ pb V g0 g1
  have HD := Lib.hid hd
  clear hk he h hT hL hp c1 c2 hd g0 g1
  go_enter Tryz.func54, Tryz.ntmps54
  go_wp2_with (first | (go_at_call 81; refine (where_any _ pb sz s hp0).mono ?_; rintro e w' ⟨rfl, rfl⟩) | (go_at_call 82; refine HD.out.mono ?_; rintro e w' ⟨rfl, rfl⟩))
  go_end0
  exact ⟨rfl, HK.out⟩
 ·have hz : ((s.er : Int) == 0) = false := by simp [h]
  rw [show fail sz er s = s by unfold fail; rw [if_neg h]]
  clear h hT hL hp
  go_enter Tryz.func54, Tryz.ntmps54
  go_wp2_with fail
  go_end0
  exact ⟨rfl, Goes.refl hp0⟩
end Go.Proofs.YtmodmojocclmaaaGreatDoor

/- Contracts of the parser's small steps, second part: what must stand there, and names. -/
namespace Go.Proofs.YtmodmojocclmaaaGreatDoor
open Go.RowKit Pz

theorem must_snoc (sz : Nat) (ts : List Str) (t : Str) : ∀ s, must sz (ts ++ [t]) s = must1 sz t (must sz ts s) := by
 induction ts with
 | nil => intro s; rfl
 | cons a ts ih => intro s; exact ih _
theorem must_take (sz : Nat) (ts : List Str) (k : Nat) (t : Str) (h : ts[k]? = some t) (s : St) : must sz (ts.take (k + 1)) s = must1 sz t (must sz (ts.take k) s) := by
 have hk : k < ts.length := (List.getElem?_eq_some_iff.1 h).1
 rw [List.take_succ_eq_append_getElem hk, must_snoc, (List.getElem?_eq_some_iff.1 h).2]
theorem must1_yes {sz : Nat} {t : Str} {s : St} (h : isT [t] s = true) : must1 sz t s = take s := by unfold must1; rw [if_pos h]
theorem must1_no {sz : Nat} {t : Str} {s : St} (h : isT [t] s = false) : must1 sz t s = fail sz 3 s := by unfold must1; rw [h]; rfl
def Off (pb : Nat) (v : Value) : Prop := ∀ g o n c, v = .slice (some ⟨g, o, none⟩) n c → g ≠ pb
theorem Off.new {pb N n c : Nat} (h : pb < N) : Off pb (.slice (some ⟨N, 0, none⟩) n c) := by
 intro g o n' c' he
 injection he with he _ _
 injection he with he
 injection he with he _ _
 omega

def MustRel (pb sz : Nat) (w : World) (s : St) (ts : List Str) (i : Value) (wr : World) : Prop :=
 ∃ k : Nat, k ≤ ts.length ∧ i = .int .i64 k ∧ Goes pb sz w (must sz (ts.take k) s) wr
set_option maxHeartbeats 1600000 in
theorem must_any (v : Value) (ts : List Str) (w : World) (pb sz : Nat) (s : St) (hp : PA w pb sz s) (hv : Sl w v ts) (hoff : Off pb v) :
  Calls Tryz.prog 51 #[.pointer (some ⟨pb, 0, none⟩), v] w fun e w' => e = .returned (.tuple #[]) ∧ Goes pb sz w (must sz ts s) w' := by
 have hv0 := hv
 obtain ⟨g, o, c, rfl, hc, hm, hcell⟩ := hv
 have HC := Lib.hid hcell
 clear hcell
 have hgn : g ≠ pb := hoff _ _ _ _ rfl
 go_enter Tryz.func51, Tryz.ntmps51
 go_wp2
 go_loopw [8] (fun i wr => MustRel pb sz w s ts i wr) (fun i _ => ts.length - (intOf i).toNat)
 case atStart => exact ⟨0, Nat.zero_le _, rfl, Goes.refl hp⟩
 case round =>
  rename_i wr
  obtain ⟨k, hk, rfl, hG⟩ := hrel
  by_cases hlt : k < ts.length
  ·have hc2 : k < c := by omega
   obtain ⟨t, ht⟩ : ∃ t, ts[k]? = some t := ⟨_, List.getElem?_eq_getElem hlt⟩
   have hcell : wr.cell? ⟨g, o + k, none⟩ = some (.string (ba t)) := hG.kp.cell (HC.out k t ht) hgn
   have hms := must_take sz ts k t ht s
   have HM := Lib.hid hms
   clear ht hms
   generalize must sz (ts.take k) s = s1 at hG HM
   have hS := Sl.new (w := wr) (t := 9) [t] rfl (by simp) 1 1 rfl rfl
   have hb := below_new wr (.cells #[.string (ba t)] 9)
   have hpa := hG.pa.below hb
   cases hT : isT [t] s1
   ·have hf := takeIf_no _ [t] _ pb sz s1 hpa hS hT
    rw [must1_no hT] at HM
    have HF := Lib.hid hf
    clear hf hT hS
    go_wp2_with fail
    refine HF.out.mono ?_
    rintro e w2 ⟨rfl, hb2⟩
    go_wp2_with fail
    refine (fail_any 3 _ pb sz s1 (hpa.below hb2)).mono ?_
    rintro e w3 ⟨rfl, hg3⟩
    go_wp2_with fail
    go_roundw
    case rel => exact ⟨k + 1, by omega, by go_num, by rw [HM.out]; exact ((hG.below hb).below hb2).trans hg3⟩
    case measure => simp [intOf] <;> omega
   ·have hf := takeIf_yes _ [t] _ pb sz s1 hpa hS hT
    rw [must1_yes hT] at HM
    have HF := Lib.hid hf
    clear hf hT hS
    go_wp2_with fail
    refine HF.out.mono ?_
    rintro e w2 ⟨rfl, hg2⟩
    go_wp2_with fail
    go_roundw
    case rel => exact ⟨k + 1, by omega, by go_num, by rw [HM.out]; exact (hG.below hb).trans hg2⟩
    case measure => simp [intOf] <;> omega
  ·go_wp2
   go_end0
   have hr : ts.take k = ts := List.take_of_length_le (by omega)
   rw [hr] at hG
   exact ⟨rfl, hG⟩

theorem tok_field1 (a b c d : Value) (w : World) : (Instr.field 130 (.agg #[a, b, c, d]) 1).run Tryz.prog w = .ok b w := by kernel_rfl
theorem tok_field2 (a b c d : Value) (w : World) : (Instr.field 130 (.agg #[a, b, c, d]) 2).run Tryz.prog w = .ok c w := by kernel_rfl
theorem name_yes {sz : Nat} {ks : List Nat} {s : St} (h : isOf ks s = true) : name sz ks s = ((hd s).t, take s) := by unfold name; rw [if_pos h]
theorem name_no {sz : Nat} {ks : List Nat} {s : St} (h : isOf ks s = false) : name sz ks s = ([], fail sz 3 s) := by unfold name; rw [h]; rfl
theorem hd_cons {s : St} {x : Lx.Tk} {r : List Lx.Tk} (h : s.ws = x :: r) : hd s = x := by unfold hd; rw [h]
theorem ws_cons {s : St} (h : 0 < s.ws.length) : ∃ x r, s.ws = x :: r := by
 match s.ws, h with
 | x :: r, _ => exact ⟨x, r, rfl⟩
set_option maxHeartbeats 800000 in
theorem pname_any (v : Value) (ks : List Nat) (w : World) (pb sz : Nat) (s : St) (hp : PA w pb sz s) (hv : Il w v ks) :
  Calls Tryz.prog 100 #[.pointer (some ⟨pb, 0, none⟩), v] w fun e w' => e = .returned (.string (ba (name sz ks s).1)) ∧ Goes pb sz w (name sz ks s).2 w' := by
 have hi := isOf_any v ks w pb sz s hp hv
 cases h : isOf ks s
 ·rw [name_no h]
  rw [h] at hi
  have HI := Lib.hid hi
  clear hi h
  go_enter Tryz.func100, Tryz.ntmps100
  go_wp2_with fail
  refine HI.out.mono ?_
  rintro e w1 ⟨rfl, rfl⟩
  go_wp2_with fail
  refine (fail_any 3 _ pb sz s hp).mono ?_
  rintro e w3 ⟨rfl, hg3⟩
  go_wp2_with fail
  go_ret
  exact ⟨rfl, hg3⟩
 ·obtain ⟨x, r, hw⟩ := ws_cons (isOf_pos h)
  rw [name_yes h, hd_cons hw]
  rw [h] at hi
  have HI := Lib.hid hi
  have HW := Lib.hid hw
  clear hi h hw
  have hfld := tok_field1
  go_enter Tryz.func100, Tryz.ntmps100
  go_wp2_with fail
  refine HI.out.mono ?_
  rintro e w1 ⟨rfl, rfl⟩
  go_wp2_with fail
  refine (take_any _ pb sz s hp x r HW.out).mono ?_
  rintro e w3 ⟨rfl, hg3⟩
  unfold tkV
  go_wp2_with fail
  go_ret
  exact ⟨rfl, hg3⟩
set_option maxHeartbeats 800000 in
theorem small_any (w : World) (pb sz : Nat) (s : St) (hp : PA w pb sz s) :
  Calls Tryz.prog 101 #[.pointer (some ⟨pb, 0, none⟩)] w fun e w' => e = .returned (.string (ba (name sz [2] s).1)) ∧ Goes pb sz w (name sz [2] s).2 w' := by
 have hI := fun t => Il.new (w := w) (t := t) [2] rfl (by decide) 1 1 rfl rfl
 have hn := fun t => pname_any _ [2] _ pb sz s (hp.alloc (.cells _ t)) (hI t)
 generalize name sz [2] s = r at hn ⊢
 have HN := Lib.hid hn
 clear hn hI
 go_enter Tryz.func101, Tryz.ntmps101
 go_wp2_with fail
 refine (HN.out _).mono ?_
 rintro e w3 ⟨rfl, hg3⟩
 go_wp2_with fail
 go_ret
 exact ⟨rfl, Goes.from hp (below_new _ _) hg3⟩
set_option maxHeartbeats 800000 in
theorem large_any (w : World) (pb sz : Nat) (s : St) (hp : PA w pb sz s) :
  Calls Tryz.prog 74 #[.pointer (some ⟨pb, 0, none⟩)] w fun e w' => e = .returned (.string (ba (name sz [3] s).1)) ∧ Goes pb sz w (name sz [3] s).2 w' := by
 have hI := fun t => Il.new (w := w) (t := t) [3] rfl (by decide) 1 1 rfl rfl
 have hn := fun t => pname_any _ [3] _ pb sz s (hp.alloc (.cells _ t)) (hI t)
 generalize name sz [3] s = r at hn ⊢
 have HN := Lib.hid hn
 clear hn hI
 go_enter Tryz.func74, Tryz.ntmps74
 go_wp2_with fail
 refine (HN.out _).mono ?_
 rintro e w3 ⟨rfl, hg3⟩
 go_wp2_with fail
 go_ret
 exact ⟨rfl, Goes.from hp (below_new _ _) hg3⟩
end Go.Proofs.YtmodmojocclmaaaGreatDoor
