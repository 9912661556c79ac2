/- Contracts of the small functions of package lex, second part. -/
import Derived.Test.YtmodmojocclmaaaGreatDoorMg00
import Derived.Deep.QuietTactic
import Derived.BigQuiet
namespace Go.Proofs.YtmodmojocclmaaaGreatDoor
open Go.RowKit

set_option maxHeartbeats 800000 in
theorem keyword_any (s : ByteArray) (w : World) :
  Calls Tryz.prog 93 #[.string s] w fun e w' => e = .returned (.bool (Lx.kwB s.toList)) ∧ w = w' := by
 go_enter Tryz.func93, Tryz.ntmps93
 go_wp2
 all_goals first | (exfalso; simp_all; done) | (go_ret; exact ⟨ret_bool (by simp only [Lx.kwB, *]; rfl), rfl⟩)

theorem isPrefixOf_take (l m : List UInt8) : m.isPrefixOf l = (decide (m.length ≤ l.length) && l.take m.length == m) := by
 rw [Bool.eq_iff_iff]
 simp only [List.isPrefixOf_iff_prefix, Bool.and_eq_true, decide_eq_true_eq, beq_iff_eq]
 constructor
 ·intro h; exact ⟨h.length_le, (List.prefix_iff_eq_take.1 h).symm⟩
 ·rintro ⟨_, h⟩; exact List.prefix_iff_eq_take.2 h.symm

set_option maxHeartbeats 400000 in
theorem hasPrefix_any (s d : ByteArray) (w : World) (_hs : s.size ≤ 140737488351232) (_hd : d.size ≤ 1000) :
  Calls Tryz.prog 94 #[.string s, .string d] w fun e w' => e = .returned (.bool (Lx.preB d.data.toList s.data.toList)) ∧ w = w' := by
 have hp := Lib.hid (isPrefixOf_take s.data.toList d.data.toList)
 by_cases h : d.size ≤ s.size
 ·go_enter Tryz.func94, Tryz.ntmps94
  go_wp2_with go_in
  go_ret
  refine ⟨ret_bool ?_, rfl⟩
  rw [Lx.preB, hp.out]
  simp [h, Lib.toList_data]
 ·go_enter Tryz.func94, Tryz.ntmps94
  go_wp2_with go_in
  go_ret
  refine ⟨ret_bool ?_, rfl⟩
  rw [Lx.preB, hp.out]
  simp [h]

set_option maxHeartbeats 400000 in
theorem ahead1_some (s d : ByteArray) (p q : Addr) (w : World) (hs : s.size ≤ 140737488351232) (hd : d.size ≤ 1000) (hq : w.cell? q = some (.func (.func 90) #[] #[.pointer (some p)])) (hp : w.cell? p = some (.string d))
  (h : 0 < s.size) :
  Calls Tryz.prog 91 #[.string s, .pointer (some q)] w fun e w' => e = .returned (.bool (Lx.inB d.data.toList s[0])) ∧ ∃ n, w' = w.drewN n := by
 have h0 : (0:Int) < (s.size : Int) := by omega
 have he : s.toList.isEmpty = false := by rw [Lib.toList_data]; cases hh : s.data.toList with
  | nil => exfalso; have : s.data.toList.length = s.size := (by simp); rw [hh] at this; simp at this; omega
  | cons a b => rfl
 go_enter Tryz.func91, Tryz.ntmps91
 go_wp2
 go_quiet ((go_at_call 90; exact Calls.quiet_of_same ((within1_any _ d p _ (by exact hp) hd).mono fun e w' h => ⟨h.1, h.2.symm⟩)))
 go_wp2
 go_ret
 exact ⟨rfl, _, rfl⟩
set_option maxHeartbeats 400000 in
theorem ahead1_none (s : ByteArray) (q : Addr) (w : World) (h : s.size = 0) :
  Calls Tryz.prog 91 #[.string s, .pointer (some q)] w fun e w' => e = .returned (.bool false) ∧ ∃ n, w' = w.drewN n := by
 have he : s.toList.isEmpty = true := by
  rw [Lib.toList_data, List.isEmpty_iff]; apply List.eq_nil_of_length_eq_zero; simpa using h
 go_enter Tryz.func91, Tryz.ntmps91
 go_wp2
 go_quiet (fail)
 go_wp2
 go_ret
 exact ⟨rfl, _, rfl⟩

set_option maxHeartbeats 400000 in
theorem signKind1_any (s d : ByteArray) (p : Addr) (w : World) (hs : s.size ≤ 140737488351232) (hd : d.size ≤ 1000) (hp : w.cell? p = some (.string d)) :
  Calls Tryz.prog 95 #[.string s, .pointer (some p)] w fun e w' => e = .returned (.bool (Lx.preB d.data.toList s.data.toList)) ∧ w = w' := by
 go_enter Tryz.func95, Tryz.ntmps95
 go_wp2_with (go_at_call 94; refine (hasPrefix_any s d _ hs hd).mono ?_; rintro e w' ⟨rfl, rfl⟩)
 go_ret
 exact ⟨rfl, rfl⟩

theorem cell_alloc (w : World) (o : Obj) {a : Addr} {v : Value} (h : w.cell? a = some v) : (w.alloc o).cell? a = some v := by
 rw [World.cell?_alloc_lt w o a (World.block_lt_of_cell? w a h)]; exact h
set_option maxHeartbeats 400000 in
theorem signKind2_any (s d : ByteArray) (g : Nat) (p : Addr) (w : World) (_hd : d.size ≤ 1000) (hp : w.cell? p = some (.string d))
  (k n at_ : Int) (t : ByteArray)
  (h0 : w.cell? ⟨g, 0, none⟩ = some (.int .i64 k)) (h1 : w.cell? ⟨g, 1, none⟩ = some (.string t)) (h2 : w.cell? ⟨g, 2, none⟩ = some (.int .i64 n)) (h3 : w.cell? ⟨g, 3, none⟩ = some (.int .i64 at_)) :
  Calls Tryz.prog 96 #[.string s, .pointer (some ⟨g, 0, none⟩), .pointer (some p)] w fun e w' => e = .returned (.tuple #[.agg #[.int .i64 k, .string t, .int .i64 n, .int .i64 at_], .int .i64 (d.size : Int), .bool true]) ∧ Below w.heap.size w w' := by
 have c0 := fun o => cell_alloc w o h0
 have c1 := fun o => cell_alloc w o h1
 have c2 := fun o => cell_alloc w o h2
 have c3 := fun o => cell_alloc w o h3
 have cp := fun o => cell_alloc w o hp
 go_enter Tryz.func96, Tryz.ntmps96
 go_wp2
 go_region
 all_goals (go_wp2; exact bodyPost_ret (v := .tuple #[.agg #[.int .i64 k, .string t, .int .i64 n, .int .i64 at_], .int .i64 (d.size : Int), .bool true]) (by simp [results, Tryz.results96, go_sem]) rfl ⟨rfl, ((Below.refl _ _).alloc (Nat.le_refl _) _).drew⟩)
end Go.Proofs.YtmodmojocclmaaaGreatDoor

/- Plain facts on Pz: what is read of the first words of a program that can be read. -/
namespace Go.Proofs.YtmodmojocclmaaaGreatDoor
namespace Pz
open Lx

def Over (sz : Nat) (s : St) : Prop := s.ws = [] ∧ (s.er = 0 ∨ (s.er = 3 ∧ s.at_ = sz) ∨ s.er = 6)
def Sy (s s' : St) : Prop := s.er = 0 ∧ s'.er = 0 ∧ s.wi = s'.wi ∧ ∃ r, s.ws = s'.ws ++ r

structure Cg {α : Type} (sz' : Nat) (f f' : St → α × St) : Prop where
 bad : ∀ s, s.er ≠ 0 → (f s).2.er ≠ 0
 over : ∀ s, Over sz' s → Over sz' (f' s).2
 step : ∀ s s', Sy s s' → (f s).2.er = 0 → Sy (f s).2 (f' s').2 ∨ Over sz' (f' s').2
structure Cu (sz' : Nat) (f f' : St → St) : Prop where
 bad : ∀ s, s.er ≠ 0 → (f s).er ≠ 0
 over : ∀ s, Over sz' s → Over sz' (f' s)
 step : ∀ s s', Sy s s' → (f s).er = 0 → Sy (f s) (f' s') ∨ Over sz' (f' s')

theorem Cg.ok {α : Type} {sz' : Nat} {f f' : St → α × St} (h : Cg sz' f f') {s : St} (he : (f s).2.er = 0) : s.er = 0 := by
 by_cases h0 : s.er = 0
 ·exact h0
 ·exact absurd he (h.bad s h0)
theorem Cu.ok {sz' : Nat} {f f' : St → St} (h : Cu sz' f f') {s : St} (he : (f s).er = 0) : s.er = 0 := by
 by_cases h0 : s.er = 0
 ·exact h0
 ·exact absurd he (h.bad s h0)
theorem Cu.then {sz' : Nat} {f f' g g' : St → St} (h : Cu sz' f f') (k : Cu sz' g g') : Cu sz' (fun s => g (f s)) (fun s => g' (f' s)) where
 bad := fun s h0 => k.bad _ (h.bad s h0)
 over := fun s h0 => k.over _ (h.over s h0)
 step := fun s s' hs he => by
  rcases h.step s s' hs (k.ok he) with h1 | h1
  ·exact k.step _ _ h1 he
  ·exact .inr (k.over _ h1)
theorem Cg.snd {α : Type} {sz' : Nat} {f f' : St → α × St} (h : Cg sz' f f') : Cu sz' (fun s => (f s).2) (fun s => (f' s).2) := ⟨h.bad, h.over, h.step⟩
theorem Cg.of {α : Type} {sz' : Nat} {f f' : St → α × St} (h : Cu sz' (fun s => (f s).2) (fun s => (f' s).2)) : Cg sz' f f' := ⟨h.bad, h.over, h.step⟩

theorem Over.isT {sz : Nat} {s : St} (h : Over sz s) (ts : List Str) : isT ts s = false := isT_none (by rw [h.1]; rfl)
theorem Over.isOf {sz : Nat} {s : St} (h : Over sz s) (ks : List Nat) : isOf ks s = false := isOf_none (by rw [h.1]; rfl)
theorem Over.pre {sz : Nat} {s : St} (h : Over sz s) : pre s = false := pre_none (by rw [h.1]; rfl)
theorem Over.take {sz : Nat} {s : St} (h : Over sz s) : Over sz (take s) := ⟨by unfold Pz.take; simp [h.1], h.2⟩
theorem Over.fail {sz e : Nat} {s : St} (h : Over sz s) (he : e = 3 ∨ e = 6) : Over sz (fail sz e s) := by
 unfold Pz.fail
 split
 ·refine ⟨rfl, ?_⟩
  rcases he with rfl | rfl
  ·exact .inr (.inl ⟨rfl, by unfold whr; rw [h.1]⟩)
  ·exact .inr (.inr rfl)
 ·exact h
theorem Over.must1 {sz : Nat} {t : Str} {s : St} (h : Over sz s) : Over sz (must1 sz t s) := by
 unfold Pz.must1
 rw [if_neg (by rw [h.isT]; decide)]
 exact h.fail (.inl rfl)
theorem Over.must {sz : Nat} (ts : List Str) : ∀ {s : St}, Over sz s → Over sz (must sz ts s) := by
 induction ts with
 | nil => exact fun h => h
 | cons t ts ih => exact fun h => ih h.must1
theorem Over.wi {sz : Nat} {s : St} (h : Over sz s) (n : Nat) : Over sz { s with wi := n } := h

theorem Sy.over {sz : Nat} {s s' : St} (h : Sy s s') (h0 : s'.ws = []) : Over sz s' := ⟨h0, .inl h.2.1⟩
theorem Sy.isT {s s' : St} (h : Sy s s') (h0 : s'.ws ≠ []) (ts : List Str) : isT ts s' = isT ts s := by
 obtain ⟨_, _, _, r, hr⟩ := h
 unfold Pz.isT
 rcases hw : s'.ws with _ | ⟨t, u⟩
 ·exact absurd hw h0
 ·rw [hr, hw]; rfl
theorem Sy.isOf {s s' : St} (h : Sy s s') (h0 : s'.ws ≠ []) (ts : List Nat) : isOf ts s' = isOf ts s := by
 obtain ⟨_, _, _, r, hr⟩ := h
 unfold Pz.isOf
 rcases hw : s'.ws with _ | ⟨t, u⟩
 ·exact absurd hw h0
 ·rw [hr, hw]; rfl
theorem Sy.pre {s s' : St} (h : Sy s s') (h0 : s'.ws ≠ []) : pre s' = pre s := by unfold Pz.pre; rw [h.isT h0, h.isOf h0]
theorem Sy.take {s s' : St} (h : Sy s s') (h0 : s'.ws ≠ []) : Sy (take s) (take s') := by
 obtain ⟨h1, h2, h3, r, hr⟩ := h
 refine ⟨h1, h2, h3, r, ?_⟩
 unfold Pz.take
 rcases hw : s'.ws with _ | ⟨t, u⟩
 ·exact absurd hw h0
 ·rw [hw] at hr; simp [hr]
theorem Sy.len {s s' : St} (h : Sy s s') : s'.ws.length ≤ s.ws.length := by
 obtain ⟨_, _, _, r, hr⟩ := h
 rw [hr]; simp
theorem fail_bad (sz e : Nat) (s : St) (h : e ≠ 0) : (fail sz e s).er ≠ 0 := by
 unfold fail; split
 ·exact h
 ·assumption
theorem must1_bad (sz : Nat) (t : Str) (s : St) (h : s.er ≠ 0) : (must1 sz t s).er ≠ 0 := by
 unfold must1; split
 ·exact h
 ·exact fail_bad _ _ _ (by decide)

section
variable {sz sz' : Nat}
theorem cu_must1 (t : Str) : Cu sz' (must1 sz t) (must1 sz' t) where
 bad := fun s h => must1_bad sz t s h
 over := fun s h => h.must1
 step := fun s s' h he => by
  by_cases h0 : s'.ws = []
  ·exact .inr (h.over h0).must1
  ·have e := h.isT h0 [t]
   unfold must1 at he ⊢
   rw [e]
   split
   ·exact .inl (h.take h0)
   ·rename_i hn
    rw [if_neg hn] at he
    exact absurd he (fail_bad _ _ _ (by decide))
theorem cu_must (ts : List Str) : Cu sz' (must sz ts) (must sz' ts) := by
 induction ts with
 | nil => exact ⟨fun _ h => h, fun _ h => h, fun _ _ h _ => .inl h⟩
 | cons t ts ih => exact (cu_must1 t).then ih
theorem cg_name (ks : List Nat) : Cg sz' (name sz ks) (name sz' ks) where
 bad := fun s h => by
  unfold name; split
  ·exact h
  ·exact fail_bad _ _ _ (by decide)
 over := fun s h => by
  unfold name
  rw [if_neg (by rw [h.isOf]; decide)]
  exact h.fail (.inl rfl)
 step := fun s s' h he => by
  by_cases h0 : s'.ws = []
  ·refine .inr ?_
   have h1 := h.over (sz := sz') h0
   unfold name
   rw [if_neg (by rw [h1.isOf]; decide)]
   exact h1.fail (.inl rfl)
  ·have e := h.isOf h0 ks
   unfold name at he ⊢
   rw [e]
   split
   ·exact .inl (h.take h0)
   ·rename_i hn
    rw [if_neg hn] at he
    exact absurd he (fail_bad _ _ _ (by decide))

theorem bad_more {α : Type} {f : St → α × St} (hf : ∀ s, s.er ≠ 0 → (f s).2.er ≠ 0) (b : Str) : ∀ n s, s.er ≠ 0 → (more f b n s).2.er ≠ 0 := by
 intro n
 induction n with
 | zero => exact fun _ h => h
 | succ n ih =>
  intro s h
  unfold more; split
  ·exact ih _ (hf _ h)
  ·exact h
theorem over_more {α : Type} {f : St → α × St} (b : Str) (n : Nat) {s : St} (h : Over sz' s) : Over sz' (more f b n s).2 := by
 cases n with
 | zero => exact h
 | succ n => unfold more; rw [if_neg (by rw [h.isT]; decide)]; exact h
theorem step_more {α : Type} {f f' : St → α × St} (hf : Cg sz' f f') (b : Str) : ∀ n s s', Sy s s' → (more f b n s).2.er = 0 → Sy (more f b n s).2 (more f' b n s').2 ∨ Over sz' (more f' b n s').2 := by
 intro n
 induction n with
 | zero => exact fun _ _ h _ => .inl h
 | succ n ih =>
  intro s s' h he
  by_cases h0 : s'.ws = []
  ·exact .inr (over_more b (n + 1) (h.over h0))
  ·have e := h.isT h0 [b]
   unfold more at he ⊢
   rw [e]
   split
   ·rename_i hy
    rw [if_pos hy] at he
    dsimp only at he
    have he2 : (f (take s)).2.er = 0 := by
     by_cases h1 : (f (take s)).2.er = 0
     ·exact h1
     ·exact absurd he (bad_more hf.bad b n _ h1)
    rcases hf.step _ _ (h.take h0) he2 with h2 | h2
    ·exact ih _ _ h2 he
    ·exact .inr (over_more b n h2)
   ·exact .inl h
theorem cg_moreAll {α : Type} {f f' : St → α × St} (hf : Cg sz' f f') (hn : Nice f') (b : Str) : Cg sz' (fun s => more f b s.ws.length s) (fun s => more f' b s.ws.length s) where
 bad := fun s h => bad_more hf.bad b _ s h
 over := fun s h => over_more b _ h
 step := fun s s' h he => by
  have := step_more hf b s.ws.length s s' h he
  rw [more_fuel hn b s.ws.length s'.ws.length s' h.len (Nat.le_refl _)] at this
  exact this
theorem cg_list {α : Type} {f f' : St → α × St} (hf : Cg sz' f f') (hn : Nice f') (o b c : Str) : Cg sz' (list sz f o b c) (list sz' f' o b c) where
 bad := fun s h => by
  unfold list
  dsimp only
  split
  ·exact must1_bad _ _ _ (must1_bad _ _ _ h)
  ·exact must1_bad _ _ _ (bad_more hf.bad b _ _ (hf.bad _ (must1_bad _ _ _ h)))
 over := fun s h => by
  unfold list
  dsimp only
  have h1 := h.must1 (t := o)
  rw [if_neg (by rw [h1.isT]; decide)]
  exact (over_more b _ (hf.over _ h1)).must1
 step := fun s s' h he => by
  unfold list at he ⊢
  dsimp only at he ⊢
  have hm : (must1 sz o s).er = 0 := by
   by_cases h1 : (must1 sz o s).er = 0
   ·exact h1
   ·refine absurd he ?_
    split
    ·exact must1_bad _ _ _ h1
    ·exact must1_bad _ _ _ (bad_more hf.bad b _ _ (hf.bad _ h1))
  have ho : ∀ t : St, Over sz' t → Over sz' (if isT [c] t = true then (([] : List α), must1 sz' c t) else ((f' t).1 :: (more f' b (f' t).2.ws.length (f' t).2).1, must1 sz' c (more f' b (f' t).2.ws.length (f' t).2).2)).2 := by
   intro t ht
   rw [if_neg (by rw [ht.isT]; decide)]
   exact (over_more b _ (hf.over _ ht)).must1
  rcases (cu_must1 (sz := sz) (sz' := sz') o).step s s' h hm with h1 | h1
  ·by_cases h0 : (must1 sz' o s').ws = []
   ·exact .inr (ho _ (h1.over h0))
   ·have e := h1.isT h0 [c]
    rw [e]
    split
    ·rename_i hy
     rw [if_pos hy] at he
     exact (cu_must1 c).step _ _ h1 he
    ·rename_i hy
     rw [if_neg hy] at he
     have hall := (hf.snd.then (cg_moreAll hf hn b).snd).then (cu_must1 (sz := sz) (sz' := sz') c)
     exact hall.step _ _ h1 he
  ·exact .inr (ho _ h1)
end

section
variable {sz sz' : Nat} {ex ex' : St → Tm × St} (hx : Cg sz' ex ex') (hn : Nice ex')
include hx
theorem cg_behind : ∀ ts, Cg sz' (behind sz ex ts) (behind sz' ex' ts) := by
 intro ts
 induction ts with
 | nil => exact ⟨fun _ h => h, fun _ h => h, fun _ _ h _ => .inl h⟩
 | cons t ts ih => exact Cg.of (((cu_must1 t).then hx.snd).then ih.snd)
theorem cg_does (nm nm' : Str) (vs vs' : List Str) : Cg sz' (does sz ex nm vs) (does sz' ex' nm' vs') := Cg.of ((cu_must1 tArrow).then hx.snd)
omit hx in
theorem bad_vars : ∀ n s, s.er ≠ 0 → (vars n s).2.er ≠ 0 := by
 intro n
 induction n with
 | zero => exact fun _ h => h
 | succ n ih =>
  intro s h
  unfold vars; split
  ·exact ih _ h
  ·exact h
omit hx in
theorem over_vars (n : Nat) {s : St} (h : Over sz' s) : Over sz' (vars n s).2 := by
 cases n with
 | zero => exact h
 | succ n => unfold vars; rw [if_neg (by rw [h.isOf]; decide)]; exact h
omit hx in
theorem step_vars : ∀ n s s', Sy s s' → Sy (vars n s).2 (vars n s').2 ∨ Over sz' (vars n s').2 := by
 intro n
 induction n with
 | zero => exact fun _ _ h => .inl h
 | succ n ih =>
  intro s s' h
  by_cases h0 : s'.ws = []
  ·exact .inr (over_vars (n + 1) (h.over h0))
  ·have e := h.isOf h0 [2]
   unfold vars
   rw [e]
   split
   ·exact ih _ _ (h.take h0)
   ·exact .inl h
omit hx in
theorem cg_varsAll : Cg sz' (fun s => vars s.ws.length s) (fun s => vars s.ws.length s) where
 bad := fun s h => bad_vars _ s h
 over := fun s h => over_vars _ h
 step := fun s s' h _ => by
  have := step_vars (sz' := sz') s.ws.length s s' h
  rw [vars_fuel s.ws.length s'.ws.length s' h.len (Nat.le_refl _)] at this
  exact this
theorem cg_way : Cg sz' (way sz ex) (way sz' ex') :=
 Cg.of (((cg_name [3]).snd.then cg_varsAll.snd).then (cg_does hx [] [] [] []).snd)
include hn in
theorem cg_ways : Cg sz' (ways sz ex) (ways sz' ex') := cg_list (cg_way hx) (nice_way hn) _ _ _
theorem cg_clause : Cg sz' (clause sz ex) (clause sz' ex') :=
 Cg.of ((((cg_name [2]).snd.then (cg_name [2]).snd).then (cg_name [2]).snd).then (cg_does hx [] [] [] []).snd)
include hn in
theorem cg_clauses : Cg sz' (clauses sz ex) (clauses sz' ex') :=
 Cg.of (((((cu_must [tLb, tReturn]).then (cg_name [2]).snd).then (cg_does hx [] [] [] []).snd).then (cg_moreAll (cg_clause hx) (nice_clause hn) tSemi).snd).then (cu_must1 tRb))
omit hx in
theorem Cg.ask {α : Type} {f f' g g' : St → α × St} (q : St → Bool) (hq0 : ∀ s, Over sz' s → q s = false) (hq : ∀ s s', Sy s s' → s'.ws ≠ [] → q s' = q s)
  (hf : ∀ s, q s = true → s.er ≠ 0 → (f s).2.er ≠ 0) (hfs : ∀ s s', Sy s s' → s'.ws ≠ [] → q s = true → (f s).2.er = 0 → Sy (f s).2 (f' s').2 ∨ Over sz' (f' s').2) (hg : Cg sz' g g') :
  Cg sz' (fun s => if q s = true then f s else g s) (fun s => if q s = true then f' s else g' s) where
 bad := fun s h => by
  show (if q s = true then f s else g s).2.er ≠ 0
  split
  ·exact hf s ‹_› h
  ·exact hg.bad s h
 over := fun s h => by
  show Over sz' (if q s = true then f' s else g' s).2
  rw [if_neg (by rw [hq0 s h]; decide)]
  exact hg.over s h
 step := fun s s' h he => by
  have he : (if q s = true then f s else g s).2.er = 0 := he
  show Sy (if q s = true then f s else g s).2 (if q s' = true then f' s' else g' s').2 ∨ Over sz' (if q s' = true then f' s' else g' s').2
  by_cases h0 : s'.ws = []
  ·right
   have h1 := h.over (sz := sz') h0
   rw [if_neg (by rw [hq0 _ h1]; decide)]
   exact hg.over _ h1
  ·have e := hq s s' h h0
   rw [e]
   split
   ·rename_i hy
    rw [if_pos hy] at he
    exact hfs s s' h h0 hy he
   ·rename_i hy
    rw [if_neg hy] at he
    exact hg.step s s' h he
omit hx in
theorem Cg.askTake {α : Type} {f f' g g' : St → α × St} (q : St → Bool) (hq0 : ∀ s, Over sz' s → q s = false) (hq : ∀ s s', Sy s s' → s'.ws ≠ [] → q s' = q s)
  {k k' : St → St} (hk : Cu sz' k k') (hfk : ∀ s, (f s).2 = k (take s)) (hfk' : ∀ s, (f' s).2 = k' (take s)) (hg : Cg sz' g g') :
  Cg sz' (fun s => if q s = true then f s else g s) (fun s => if q s = true then f' s else g' s) := by
 refine Cg.ask q hq0 hq (fun s _ h => by rw [hfk]; exact hk.bad _ h) (fun s s' h h0 _ he => ?_) hg
 rw [hfk] at he ⊢
 rw [hfk']
 exact hk.step _ _ (h.take h0) he
omit hx in
theorem cu_id : Cu sz' (fun s => s) (fun s => s) := ⟨fun _ h => h, fun _ h => h, fun _ _ h _ => .inl h⟩
include hn in
theorem cg_fields : Cg sz' (fields sz ex) (fields sz' ex') := by
 unfold fields
 have hl := cg_list (sz := sz) hx hn tOpen tComma tShut
 exact Cg.ask (fun s => isT [tOpen] s) (fun s h => h.isT _) (fun s s' h h0 => h.isT h0 _) (fun s _ h => hl.bad s h) (fun s s' h _ _ he => hl.step s s' h he) ⟨fun _ h => h, fun _ h => h, fun _ _ h _ => .inl h⟩
theorem cg_bracketed (a a' : Nat) : Cg sz' (bracketed sz ex a) (bracketed sz' ex' a') := by
 unfold bracketed
 exact Cg.askTake (fun s => isT [tShut] s) (fun s h => h.isT _) (fun s s' h h0 => h.isT h0 _) cu_id (fun _ => rfl) (fun _ => rfl) (Cg.of (hx.snd.then (cu_must1 tShut)))
end
end Pz
end Go.Proofs.YtmodmojocclmaaaGreatDoor

/- What is read of the first words of a program: terms, programs. -/
namespace Go.Proofs.YtmodmojocclmaaaGreatDoor
namespace Pz
open Lx
section
variable {sz sz' : Nat} {ex ex' : St → Tm × St} (hx : Cg sz' ex ex') (hn : Nice ex) (hn' : Nice ex')
include hx

include hn' in
theorem bad_atom : ∀ s, s.er ≠ 0 → (atom sz ex s).2.er ≠ 0 := by
 intro s h
 unfold atom
 dsimp only
 repeat' split
 all_goals first | exact h | exact (cg_fields (sz := sz) (sz' := sz') hx hn').bad _ h | exact (cu_must (sz := sz) (sz' := sz') _).bad _ h | exact (cg_bracketed (sz := sz) (sz' := sz') hx (whr sz s) 0).bad (take s) h
omit hx in
theorem over_atom {s : St} (h : Over sz' s) : atom sz' ex' s = (none, s) := by
 unfold atom
 dsimp only
 rw [h.isOf, h.isOf, h.isOf, h.isT, h.isT, h.isT, h.isT]
 rfl
include hn' in
theorem step_atom {s s' : St} (h : Sy s s') (he : (atom sz ex s).2.er = 0) :
  (Sy (atom sz ex s).2 (atom sz' ex' s').2 ∧ ((atom sz ex s).1.isSome = (atom sz' ex' s').1.isSome)) ∨ Over sz' (atom sz' ex' s').2 := by
 by_cases h0 : s'.ws = []
 ·right
  rw [over_atom (h.over h0)]
  exact h.over h0
 ·unfold atom at he ⊢
  dsimp only at he ⊢
  rw [h.isOf h0, h.isOf h0, h.isOf h0, h.isT h0, h.isT h0, h.isT h0, h.isT h0]
  have ht := h.take h0
  split
  ·exact .inl ⟨ht, rfl⟩
  rename_i hn1; rw [if_neg hn1] at he
  split
  ·exact .inl ⟨ht, rfl⟩
  rename_i hn1; rw [if_neg hn1] at he
  split
  ·exact .inl ⟨ht, rfl⟩
  rename_i hn1; rw [if_neg hn1] at he
  split
  ·exact .inl ⟨ht, rfl⟩
  rename_i hn1; rw [if_neg hn1] at he
  split
  ·rename_i hy; rw [if_pos hy] at he
   rcases (cg_fields (sz := sz) hx hn').step _ _ ht he with h1 | h1
   ·exact .inl ⟨h1, rfl⟩
   ·exact .inr h1
  rename_i hn1; rw [if_neg hn1] at he
  split
  ·rename_i hy; rw [if_pos hy] at he
   rcases (cu_must (sz := sz) [tOpen, tShut]).step _ _ ht he with h1 | h1
   ·exact .inl ⟨h1, rfl⟩
   ·exact .inr h1
  rename_i hn1; rw [if_neg hn1] at he
  split
  ·rename_i hy; rw [if_pos hy] at he
   rcases (cg_bracketed (sz := sz) hx (whr sz s) (whr sz' s')).step _ _ ht he with h1 | h1
   ·exact .inl ⟨h1, rfl⟩
   ·exact .inr h1
  ·exact .inl ⟨h, rfl⟩
include hn' in
theorem bad_appMore : ∀ n f s, s.er ≠ 0 → (appMore sz ex n f s).2.er ≠ 0 := by
 intro n
 induction n with
 | zero => exact fun _ _ h => h
 | succ n ih =>
  intro f s h
  have ha := bad_atom (sz := sz) hx hn' s h
  unfold appMore
  rcases hA : atom sz ex s with ⟨_ | t, s1⟩
  ·rw [hA] at ha; exact ha
  ·rw [hA] at ha; exact ih _ _ ha
omit hx in
theorem over_appMore (n : Nat) (f : Tm) {s : St} (h : Over sz' s) : Over sz' (appMore sz' ex' n f s).2 := by
 cases n with
 | zero => exact h
 | succ n => unfold appMore; rw [over_atom h]; exact h
include hn' in
theorem step_appMore : ∀ n f f' s s', Sy s s' → (appMore sz ex n f s).2.er = 0 → Sy (appMore sz ex n f s).2 (appMore sz' ex' n f' s').2 ∨ Over sz' (appMore sz' ex' n f' s').2 := by
 intro n
 induction n with
 | zero => exact fun _ _ _ _ h _ => .inl h
 | succ n ih =>
  intro f f' s s' h he
  have hb := bad_appMore (sz := sz) hx hn' n
  have hst := step_atom (sz := sz) (sz' := sz') hx hn' h
  unfold appMore at he ⊢
  rcases hA : atom sz ex s with ⟨_ | t, s1⟩
  ·rw [hA] at he hst
   rcases hst he with ⟨h1, h2⟩ | h1
   ·rcases hB : atom sz' ex' s' with ⟨_ | t', s1'⟩
    ·rw [hB] at h1; exact .inl h1
    ·rw [hB] at h2; cases h2
   ·rcases hB : atom sz' ex' s' with ⟨_ | t', s1'⟩
    ·rw [hB] at h1; exact .inr h1
    ·rw [hB] at h1; exact .inr (over_appMore n _ h1)
  ·rw [hA] at he hst
   have he1 : s1.er = 0 := by
    by_cases h1 : s1.er = 0
    ·exact h1
    ·exact absurd he (hb _ _ h1)
   rcases hst he1 with ⟨h1, h2⟩ | h1
   ·rcases hB : atom sz' ex' s' with ⟨_ | t', s1'⟩
    ·rw [hB] at h2; cases h2
    ·rw [hB] at h1; exact ih _ _ _ _ h1 he
   ·rcases hB : atom sz' ex' s' with ⟨_ | t', s1'⟩
    ·rw [hB] at h1; exact .inr h1
    ·rw [hB] at h1; exact .inr (over_appMore n _ h1)
include hn' in
theorem cg_app : Cg sz' (app sz ex) (app sz' ex') where
 bad := fun s h => by
  have ha := bad_atom (sz := sz) hx hn' s h
  unfold app
  rcases hA : atom sz ex s with ⟨_ | t, s1⟩
  ·rw [hA] at ha; exact fail_bad _ _ _ (by decide)
  ·rw [hA] at ha; exact bad_appMore hx hn' _ _ _ ha
 over := fun s h => by
  unfold app
  rw [over_atom h]
  exact h.fail (.inl rfl)
 step := fun s s' h he => by
  have hst := step_atom (sz := sz) (sz' := sz') hx hn' h
  unfold app at he ⊢
  rcases hA : atom sz ex s with ⟨_ | t, s1⟩
  ·rw [hA] at he
   exact absurd he (fail_bad _ _ _ (by decide))
  ·rw [hA] at he hst
   have he1 : s1.er = 0 := by
    by_cases h1 : s1.er = 0
    ·exact h1
    ·exact absurd he (bad_appMore hx hn' _ _ _ h1)
   rcases hst he1 with ⟨h1, h2⟩ | h1
   ·rcases hB : atom sz' ex' s' with ⟨_ | t', s1'⟩
    ·rw [hB] at h2; cases h2
    ·rw [hB] at h1
     have h3 := step_appMore (sz := sz) (sz' := sz') hx hn' (s1.ws.length + 1) t t' s1 s1' h1 he
     rw [appMore_fuel hn' (s1.ws.length + 1) (s1'.ws.length + 1) t' s1' (by have := h1.len; dsimp only at this; omega) (by omega)] at h3
     exact h3
   ·rcases hB : atom sz' ex' s' with ⟨_ | t', s1'⟩
    ·rw [hB] at h1; exact .inr (Over.fail h1 (.inl rfl))
    ·rw [hB] at h1; exact .inr (over_appMore _ _ h1)
omit hx in
theorem bad_ahead : ∀ n s, s.er ≠ 0 → (ahead n s).2.er ≠ 0 := by
 intro n
 induction n with
 | zero => exact fun _ h => h
 | succ n ih =>
  intro s h
  unfold ahead; split
  ·exact ih _ h
  ·exact h
omit hx in
theorem over_ahead (n : Nat) {s : St} (h : Over sz' s) : Over sz' (ahead n s).2 := by
 cases n with
 | zero => exact h
 | succ n => unfold ahead; rw [if_neg (by rw [h.pre]; decide)]; exact h
omit hx in
theorem step_ahead : ∀ n s s', Sy s s' → Sy (ahead n s).2 (ahead n s').2 ∨ Over sz' (ahead n s').2 := by
 intro n
 induction n with
 | zero => exact fun _ _ h => .inl h
 | succ n ih =>
  intro s s' h
  by_cases h0 : s'.ws = []
  ·exact .inr (over_ahead (n + 1) (h.over h0))
  ·have e := h.pre h0
   unfold ahead
   rw [e]
   split
   ·exact ih _ _ (h.take h0)
   ·exact .inl h
omit hx in
theorem cg_aheadAll : Cg sz' (fun s => ahead s.ws.length s) (fun s => ahead s.ws.length s) where
 bad := fun s h => bad_ahead _ s h
 over := fun s h => over_ahead _ h
 step := fun s s' h _ => by
  have := step_ahead (sz' := sz') s.ws.length s s' h
  rw [ahead_fuel s.ws.length s'.ws.length s' h.len (Nat.le_refl _)] at this
  exact this
include hn' in
theorem cg_unary : Cg sz' (unary sz ex) (unary sz' ex') := Cg.of (cg_aheadAll.snd.then (cg_app hx hn').snd)
omit hx in
theorem cu_take_of {f f' : St → Tm × St} (h : Cg sz' f f') {s s' : St} (hs : Sy s s') (h0 : s'.ws ≠ []) (he : (f (take s)).2.er = 0) : Sy (f (take s)).2 (f' (take s')).2 ∨ Over sz' (f' (take s')).2 := h.step _ _ (hs.take h0) he
omit hx in
theorem cg_once {f f' : St → Tm × St} (hf : Cg sz' f f') (ss : List Str) : Cg sz' (once f ss) (once f' ss) where
 bad := fun s h => by
  have h1 := hf.bad s h
  unfold once; split
  ·exact hf.bad _ h1
  ·exact h1
 over := fun s h => by
  have h1 := hf.over s h
  unfold once
  rw [if_neg (by rw [h1.isT]; decide)]
  exact h1
 step := fun s s' h he => by
  have he1 : (f s).2.er = 0 := by
   by_cases h1 : (f s).2.er = 0
   ·exact h1
   ·refine absurd he ?_
    unfold once; split
    ·exact hf.bad _ h1
    ·exact h1
  rcases hf.step s s' h he1 with h1 | h1
  ·by_cases h0 : (f' s').2.ws = []
   ·right
    have h2 := h1.over (sz := sz') h0
    unfold once
    rw [if_neg (by rw [h2.isT]; decide)]
    exact h2
   ·have e := h1.isT h0 ss
    unfold once at he ⊢
    rw [e]
    split
    ·rename_i hy; rw [if_pos hy] at he
     exact cu_take_of hf h1 h0 he
    ·exact .inl h1
  ·right
   unfold once
   rw [if_neg (by rw [h1.isT]; decide)]
   exact h1
omit hx in
theorem bad_oftenMore {f : St → Tm × St} (hf : ∀ s, s.er ≠ 0 → (f s).2.er ≠ 0) (ss : List Str) : ∀ n l s, s.er ≠ 0 → (oftenMore f ss n l s).2.er ≠ 0 := by
 intro n
 induction n with
 | zero => exact fun _ _ h => h
 | succ n ih =>
  intro l s h
  unfold oftenMore; split
  ·exact ih _ _ (hf _ h)
  ·exact h
omit hx in
theorem over_oftenMore {f : St → Tm × St} (ss : List Str) (n : Nat) (l : Tm) {s : St} (h : Over sz' s) : Over sz' (oftenMore f ss n l s).2 := by
 cases n with
 | zero => exact h
 | succ n => unfold oftenMore; rw [if_neg (by rw [h.isT]; decide)]; exact h
omit hx in
theorem step_oftenMore {f f' : St → Tm × St} (hf : Cg sz' f f') (ss : List Str) : ∀ n l l' s s', Sy s s' → (oftenMore f ss n l s).2.er = 0 → Sy (oftenMore f ss n l s).2 (oftenMore f' ss n l' s').2 ∨ Over sz' (oftenMore f' ss n l' s').2 := by
 intro n
 induction n with
 | zero => exact fun _ _ _ _ h _ => .inl h
 | succ n ih =>
  intro l l' s s' h he
  by_cases h0 : s'.ws = []
  ·exact .inr (over_oftenMore ss (n + 1) _ (h.over h0))
  ·have e := h.isT h0 ss
   unfold oftenMore at he ⊢
   rw [e]
   split
   ·rename_i hy; rw [if_pos hy] at he
    have he1 : (both f l s).2.er = 0 := by
     by_cases h1 : (both f l s).2.er = 0
     ·exact h1
     ·exact absurd he (bad_oftenMore hf.bad ss _ _ _ h1)
    rcases cu_take_of hf h h0 he1 with h1 | h1
    ·exact ih _ _ _ _ h1 he
    ·exact .inr (over_oftenMore ss n _ h1)
   ·exact .inl h
omit hx in
theorem cg_often {f f' : St → Tm × St} (hf : Cg sz' f f') (hn : Nice f') (ss : List Str) : Cg sz' (often f ss) (often f' ss) where
 bad := fun s h => bad_oftenMore hf.bad ss _ _ _ (hf.bad s h)
 over := fun s h => over_oftenMore ss _ _ (hf.over s h)
 step := fun s s' h he => by
  unfold often at he ⊢
  have he1 : (f s).2.er = 0 := by
   by_cases h1 : (f s).2.er = 0
   ·exact h1
   ·exact absurd he (bad_oftenMore hf.bad ss _ _ _ h1)
  rcases hf.step s s' h he1 with h1 | h1
  ·have h2 := step_oftenMore hf ss _ (f s).1 (f' s').1 _ _ h1 he
   rw [oftenMore_fuel hn ss (f s).2.ws.length (f' s').2.ws.length _ _ h1.len (Nat.le_refl _)] at h2
   exact h2
  ·exact .inr (over_oftenMore ss _ _ h1)
include hn' in
theorem cg_assign : Cg sz' (assign sz ex) (assign sz' ex') :=
 cg_once (cg_once (cg_often (cg_often (cg_unary hx hn') (nice_unary hn') _) (nice_prod hn') _) _) _
include hn' in
theorem cg_exprHere : Cg sz' (exprHere sz ex) (exprHere sz' ex') := by
 have hb := fun ts => cg_behind (sz := sz) hx ts
 have c1 : Cu sz' (fun s => (behind sz ex [tArrow] (name sz [2] s).2).2) (fun s => (behind sz' ex' [tArrow] (name sz' [2] s).2).2) := (cg_name [2]).snd.then (hb [tArrow]).snd
 have c2 : Cu sz' (fun s => (behind sz ex [tEq, tIn] (name sz [2] s).2).2) (fun s => (behind sz' ex' [tEq, tIn] (name sz' [2] s).2).2) := (cg_name [2]).snd.then (hb [tEq, tIn]).snd
 have c3 : Cu sz' (fun s => (behind sz ex [tEq, tIn] (name sz [2] (name sz [2] s).2).2).2) (fun s => (behind sz' ex' [tEq, tIn] (name sz' [2] (name sz' [2] s).2).2).2) := ((cg_name [2]).snd.then (cg_name [2]).snd).then (hb [tEq, tIn]).snd
 have c4 : Cu sz' (fun s => (ways sz ex (behind sz ex [tMatch] s).2).2) (fun s => (ways sz' ex' (behind sz' ex' [tMatch] s).2).2) := (hb [tMatch]).snd.then (cg_ways hx hn').snd
 have c5 : Cu sz' (fun s => (clauses sz ex (ex (name sz [3] s).2).2).2) (fun s => (clauses sz' ex' (ex' (name sz' [3] s).2).2).2) := ((cg_name [3]).snd.then hx.snd).then (cg_clauses hx hn').snd
 have hq0 : ∀ ts s, Over sz' s → isT ts s = false := fun ts s h => h.isT ts
 have hq : ∀ ts s s', Sy s s' → s'.ws ≠ [] → isT ts s' = isT ts s := fun ts s s' h h0 => h.isT h0 ts
 unfold exprHere
 dsimp only
 refine Cg.askTake (fun s => isT [tFun] s) (hq0 _) (hq _) c1 (fun _ => rfl) (fun _ => rfl) ?_
 refine Cg.askTake (fun s => isT [tLet] s) (hq0 _) (hq _) c2 (fun _ => rfl) (fun _ => rfl) ?_
 refine Cg.askTake (fun s => isT [tRec] s) (hq0 _) (hq _) c3 (fun _ => rfl) (fun _ => rfl) ?_
 refine Cg.ask (fun s => isT [tIf] s) (hq0 _) (hq _) (fun s _ h => (hb [tIf, tThen, tElse]).bad s h) (fun s s' h _ _ he => (hb [tIf, tThen, tElse]).step s s' h he) ?_
 refine Cg.ask (fun s => isT [tMatch] s) (hq0 _) (hq _) (fun s _ h => c4.bad s h) (fun s s' h _ _ he => c4.step s s' h he) ?_
 exact Cg.askTake (fun s => isT [tHandle] s) (hq0 _) (hq _) c5 (fun _ => rfl) (fun _ => rfl) (cg_assign hx hn')
include hn' in
theorem cg_exprStep : Cg sz' (exprStep sz ex) (exprStep sz' ex') where
 bad := fun s h => by
  unfold exprStep; dsimp only; split
  ·exact fail_bad _ _ _ (by decide)
  ·exact (cg_exprHere (sz := sz) hx hn').bad { s with wi := s.wi + 1 } h
 over := fun s h => by
  unfold exprStep; dsimp only; split
  ·exact h.fail (.inr rfl)
  ·exact (cg_exprHere (sz := sz) hx hn').over { s with wi := s.wi + 1 } h
 step := fun s s' h he => by
  have hwi : s.wi = s'.wi := h.2.2.1
  unfold exprStep at he ⊢
  dsimp only at he ⊢
  split
  ·rename_i hy
   rw [if_pos (by omega)] at he
   exact absurd he (fail_bad _ _ _ (by decide))
  ·rename_i hy
   rw [if_neg (by omega)] at he ⊢
   have hs : Sy { s with wi := s.wi + 1 } { s' with wi := s'.wi + 1 } := ⟨h.1, h.2.1, by show s.wi + 1 = s'.wi + 1; omega, h.2.2.2⟩
   rcases (cg_exprHere (sz := sz) hx hn').step _ _ hs he with h1 | h1
   ·exact .inl ⟨h1.1, h1.2.1, by show _ - 1 = _ - 1; rw [h1.2.2.1], h1.2.2.2⟩
   ·exact .inr h1
end
theorem cg_expr (sz sz' : Nat) : ∀ n, Cg sz' (expr sz n) (expr sz' n)
 | 0 => ⟨fun _ h => h, fun _ h => h, fun _ _ h _ => .inl h⟩
 | n + 1 => cg_exprStep (cg_expr sz sz' n) (nice_expr sz' n)

section
variable {sz sz' : Nat}
end
end Pz
end Go.Proofs.YtmodmojocclmaaaGreatDoor

/- Plain facts on Pz: a term that was read has no more parts than twice its words. -/
namespace Go.Proofs.YtmodmojocclmaaaGreatDoor
namespace Pz
open Lx

mutual
def Tm.size : Tm → Nat
 | .mk _ _ _ _ _ kids arms => 1 + (sizeL kids + sizeA arms)
def sizeL : List Tm → Nat
 | [] => 0
 | t :: r => t.size + sizeL r
def sizeA : List (Str × List Str × Tm) → Nat
 | [] => 0
 | a :: r => a.2.2.size + sizeA r
end

def Wt {α : Type} (n : Nat) (wt : α → Nat) (f : St → α × St) : Prop := ∀ s, s.ws.length < n → (f s).2.er = 0 → wt (f s).1 + 2 * (f s).2.ws.length ≤ 2 * s.ws.length
def w1 (t : Tm) : Nat := t.size + 1
def wA (a : Arm) : Nat := a.2.2.size + 1
theorem must1_ok {sz : Nat} {t : Str} {s : St} (h : (must1 sz t s).er = 0) : must1 sz t s = take s ∧ (take s).ws.length + 1 = s.ws.length ∧ isT [t] s = true := by
 unfold must1 at h ⊢
 split
 ·rename_i hy
  exact ⟨rfl, take_lt (isT_pos hy), hy⟩
 ·rename_i hn
  rw [if_neg hn] at h
  exact absurd h (fail_bad _ _ _ (by decide))
def Bad {α : Type} (f : St → α × St) : Prop := ∀ s, s.er ≠ 0 → (f s).2.er ≠ 0
theorem Bad.ok {α : Type} {f : St → α × St} (h : Bad f) {s : St} (he : (f s).2.er = 0) : s.er = 0 := by
 by_cases h0 : s.er = 0
 ·exact h0
 ·exact absurd he (h s h0)
theorem must1_er {sz : Nat} {t : Str} {s : St} (he : (must1 sz t s).er = 0) : s.er = 0 := by
 by_cases h0 : s.er = 0
 ·exact h0
 ·exact absurd he (must1_bad _ _ _ h0)

def wtL {α : Type} (wt : α → Nat) : List α → Nat
 | [] => 0
 | a :: r => wt a + wtL wt r
theorem wt_more {α : Type} {wt : α → Nat} {m : Nat} {f : St → α × St} (hf : Wt m wt f) (hb : Bad f) (hn : Nice f) (b : Str) : ∀ n, Wt m (wtL wt) (more f b n) := by
 intro n
 induction n with
 | zero => intro s _ _; simp [more, wtL]
 | succ n ih =>
  intro s hs he
  unfold more at he ⊢
  split
  ·rename_i hy
   rw [if_pos hy] at he
   have h3 := take_lt (isT_pos hy)
   have h4 := (hn (take s)).1
   have h1 := ih _ (by omega) he
   have h2 := hf _ (by omega) (Bad.ok (bad_more hb b n) he)
   simp only [wtL]
   omega
  ·simp [wtL]
theorem wt_list {α : Type} {wt : α → Nat} {m : Nat} {f : St → α × St} (hf : Wt m wt f) (hb : Bad f) (hn : Nice f) (sz : Nat) (o b c : Str) : Wt m (wtL wt) (list sz f o b c) := by
 intro s hs he
 unfold list at he ⊢
 dsimp only at he ⊢
 have h2 := (le_must1 sz o s).1
 split
 ·rename_i hy
  rw [if_pos hy] at he
  have h1 := (le_must1 sz c (must1 sz o s)).1
  simp only [wtL]
  omega
 ·rename_i hy
  rw [if_neg hy] at he
  dsimp only at he ⊢
  have e2 := must1_er he
  have h5 := (hn (must1 sz o s)).1
  have h1 := wt_more hf hb hn b _ _ (by omega) e2
  have h2 := hf _ (by omega) (Bad.ok (bad_more hb b _) e2)
  have h3 := (le_must1 sz c (more f b (f (must1 sz o s)).2.ws.length (f (must1 sz o s)).2).2).1
  simp only [wtL]
  omega
theorem sizeL_wt : ∀ l : List Tm, wtL w1 l = sizeL l + l.length
 | [] => by simp [wtL, sizeL]
 | t :: r => by simp [wtL, sizeL, sizeL_wt r, w1]; omega
theorem sizeA_wt : ∀ l : List Arm, wtL wA l = sizeA l + l.length
 | [] => by simp [wtL, sizeA]
 | t :: r => by simp [wtL, sizeA, sizeA_wt r, wA]; omega

section
variable {sz n : Nat} {ex : St → Tm × St} (hx : Wt n w1 ex) (hn : Nice ex) (hc : Cg sz ex ex)
include hx hn hc
theorem wt_behind : ∀ ts s, (∀ t, ts[0]? = some t → (must1 sz t s).ws.length < n) → (behind sz ex ts s).2.er = 0 → sizeL (behind sz ex ts s).1 + 3 * ts.length + 2 * (behind sz ex ts s).2.ws.length ≤ 2 * s.ws.length := by
 intro ts
 induction ts with
 | nil => intro s _ _; simp [behind, sizeL]
 | cons t ts ih =>
  intro s hs he
  have hs0 := hs t rfl
  unfold behind at he ⊢
  have h0 := (hn (must1 sz t s)).1
  have h1 := ih _ (fun t' _ => by have := (le_must1 sz t' (ex (must1 sz t s)).2).1; omega) he
  have e1 := Bad.ok ((cg_behind (sz := sz) hc ts).bad) he
  have h2 := hx _ hs0 e1
  obtain ⟨h3, h4, _⟩ := must1_ok (Bad.ok hc.bad e1)
  rw [← h3] at h4
  simp only [sizeL, List.length_cons, w1] at h2 ⊢
  omega
theorem wt_does (nm : Str) (vs : List Str) : Wt n wA (does sz ex nm vs) := by
 have _hn := hn
 have _hc := hc
 intro s hs he
 unfold does at he ⊢
 dsimp only at he ⊢
 have h3 := (le_must1 sz tArrow s).1
 have h2 := hx _ (by omega) he
 unfold wA
 unfold w1 at h2
 show (ex (must1 sz tArrow s)).1.size + 1 + _ ≤ _
 omega
theorem wt_way : Wt n wA (way sz ex) := by
 intro s hs he
 unfold way at he ⊢
 dsimp only at he ⊢
 have h2 := (nice_vars (name sz [3] s).2.ws.length (name sz [3] s).2).1
 have h3 := (nice_name sz [3] s).1
 have h1 := wt_does hx hn hc _ _ _ (by omega) he
 omega
theorem wt_ways : Wt n sizeA (ways sz ex) := by
 intro s hs he
 have := wt_list (wt_way hx hn hc) ((cg_way (sz := sz) hc).bad) (nice_way hn) sz tLb tSemi tRb s hs he
 rw [sizeA_wt] at this
 unfold ways
 omega
theorem wt_clause : Wt n wA (clause sz ex) := by
 intro s hs he
 unfold clause at he ⊢
 dsimp only at he ⊢
 have h2 := (nice_name sz [2] (name sz [2] (name sz [2] s).2).2).1
 have h3 := (nice_name sz [2] (name sz [2] s).2).1
 have h4 := (nice_name sz [2] s).1
 have h1 := wt_does hx hn hc _ _ _ (by omega) he
 omega
theorem wt_clauses : Wt n sizeA (clauses sz ex) := by
 intro s hs he
 unfold clauses at he ⊢
 dsimp only at he ⊢
 have e1 := must1_er he
 have h3 := (nice_name sz [2] (must sz [tLb, tReturn] s)).1
 have h4 := (le_must sz [tLb, tReturn] s).1
 have h6 := (nice_does (sz := sz) hn tReturn [(name sz [2] (must sz [tLb, tReturn] s)).1] (name sz [2] (must sz [tLb, tReturn] s)).2).1
 have h1 := wt_more (wt_clause hx hn hc) ((cg_clause (sz := sz) hc).bad) (nice_clause hn) tSemi _ _ (by omega) e1
 have e2 := Bad.ok (bad_more ((cg_clause (sz := sz) hc).bad) tSemi _) e1
 have h2 := wt_does hx hn hc _ _ _ (by omega) e2
 have h5 := (le_must1 sz tRb (more (clause sz ex) tSemi (does sz ex tReturn [(name sz [2] (must sz [tLb, tReturn] s)).1] (name sz [2] (must sz [tLb, tReturn] s)).2).2.ws.length (does sz ex tReturn [(name sz [2] (must sz [tLb, tReturn] s)).1] (name sz [2] (must sz [tLb, tReturn] s)).2).2).2).1
 rw [sizeA_wt] at h1
 simp only [sizeA]
 unfold wA at h2
 omega
theorem wt_fields : Wt n sizeL (fields sz ex) := by
 intro s hs he
 unfold fields at he ⊢
 split
 ·rename_i hy
  rw [if_pos hy] at he
  have := wt_list hx hc.bad hn sz tOpen tComma tShut s hs he
  rw [sizeL_wt] at this
  omega
 ·simp [sizeL]
theorem wt_bracketed (a : Nat) (s : St) (hs : s.ws.length < n) (he : (bracketed sz ex a s).2.er = 0) : (bracketed sz ex a s).1.size + 1 + 2 * (bracketed sz ex a s).2.ws.length ≤ 2 * s.ws.length := by
 have _hn := hn
 have _hc := hc
 unfold bracketed at he ⊢
 split
 ·rename_i hy
  have := take_lt (isT_pos hy)
  simp only [Tm.size, sizeL, sizeA]
  omega
 ·rename_i hy
  rw [if_neg hy] at he
  dsimp only at he ⊢
  have h1 := hx _ hs (must1_er he)
  have h2 := (le_must1 sz tShut (ex s).2).1
  unfold w1 at h1
  omega
theorem wt_atom {s s1 : St} {t : Tm} (hs : s.ws.length < n + 1) (h : atom sz ex s = (some t, s1)) (he : s1.er = 0) : t.size + 1 + 2 * s1.ws.length ≤ 2 * s.ws.length := by
 unfold atom at h
 dsimp only at h
 repeat' split at h
 all_goals (injection h with h1 h2)
 all_goals (try cases h1)
 all_goals subst h2
 all_goals (first | (have hp := isOf_pos ‹isOf _ s = true›; have ht := take_lt hp) | (have hp := isT_pos ‹isT _ s = true›; have ht := take_lt hp))
 all_goals first
  | (simp only [Tm.size, sizeL, sizeA]; omega)
  | (have h5 := wt_fields hx hn hc (take s) (by omega) he; simp only [Tm.size, sizeA]; omega)
  | (have h5 := (le_must sz [tOpen, tShut] (take s)).1; simp only [Tm.size, sizeL, sizeA]; omega)
  | (have h5 := wt_bracketed hx hn hc (whr sz s) (take s) (by omega) he; omega)
theorem wt_appMore : ∀ k f s, s.ws.length < n + 1 → (appMore sz ex k f s).2.er = 0 → (appMore sz ex k f s).1.size + 2 * (appMore sz ex k f s).2.ws.length ≤ f.size + 2 * s.ws.length := by
 intro k
 induction k with
 | zero => intro f s _ _; simp [appMore]
 | succ k ih =>
  intro f s hs he
  unfold appMore at he ⊢
  rcases hA : atom sz ex s with ⟨_ | t, s1⟩
  ·have := atom_none hA
   subst this
   dsimp only
   omega
  ·rw [hA] at he
   dsimp only at he ⊢
   have h3 := atom_some (sz := sz) hn hA
   have h1 := ih _ _ (by omega) he
   have e1 := Bad.ok (bad_appMore (sz := sz) hc hn k _) he
   have h2 := wt_atom hx hn hc hs hA e1
   simp only [Tm.size, sizeL, sizeA] at h1
   omega
theorem wt_app : Wt (n + 1) w1 (app sz ex) := by
 intro s hs he
 unfold app at he ⊢
 rcases hA : atom sz ex s with ⟨_ | t, s1⟩
 ·rw [hA] at he
  exact absurd he (fail_bad _ _ _ (by decide))
 ·rw [hA] at he
  dsimp only at he ⊢
  have h3 := atom_some (sz := sz) hn hA
  have h1 := wt_appMore hx hn hc _ _ _ (by omega) he
  have e1 := Bad.ok (bad_appMore (sz := sz) hc hn _ _) he
  have h2 := wt_atom hx hn hc hs hA e1
  unfold w1
  omega
omit hx hn hc in
theorem ahead_len : ∀ k s, (ahead k s).1.length + (ahead k s).2.ws.length = s.ws.length := by
 intro k
 induction k with
 | zero => intro s; simp [ahead]
 | succ k ih =>
  intro s
  unfold ahead
  split
  ·rename_i hy
   have h1 := ih (take s)
   have h2 := take_lt (pre_pos hy)
   simp only [List.length_cons]
   omega
  ·simp
omit hx hn hc in
theorem wrap_size (l : List Tk) (t : Tm) : (l.foldr wrap t).size = l.length + t.size := by
 induction l with
 | nil => simp
 | cons x l ih =>
  simp only [List.foldr_cons, wrap, Tm.size, sizeL, sizeA, ih, List.length_cons]
  omega
theorem wt_unary : Wt (n + 1) w1 (unary sz ex) := by
 intro s hs he
 unfold unary at he ⊢
 dsimp only at he ⊢
 have h1 := ahead_len s.ws.length s
 have h2 := wt_app hx hn hc _ (by omega) he
 unfold w1 at h2 ⊢
 rw [wrap_size]
 omega
omit hx hn hc in
theorem wt_both {m : Nat} {f : St → Tm × St} (hf : Wt m w1 f) (l : Tm) (s : St) (hs : s.ws.length < m) (h0 : 0 < s.ws.length) (he : (both f l s).2.er = 0) : (both f l s).1.size + 2 * (both f l s).2.ws.length ≤ l.size + 2 * s.ws.length := by
 unfold both at he ⊢
 dsimp only at he ⊢
 have h1 := take_lt h0
 have h2 := hf _ (by omega) he
 unfold w1 at h2
 simp only [Tm.size, sizeL, sizeA]
 omega
omit hx hn hc in
theorem wt_once {m : Nat} {f : St → Tm × St} (hf : Wt m w1 f) (hb : Bad f) (hnf : Nice f) (ss : List Str) : Wt m w1 (once f ss) := by
 intro s hs he
 have h3 := (hnf s).1
 unfold once at he ⊢
 split
 ·rename_i hy
  rw [if_pos hy] at he
  have h1 := wt_both hf _ _ (by omega) (isT_pos hy) he
  have h2 := hf _ hs (by
   by_cases h1 : (f s).2.er = 0
   ·exact h1
   ·exact absurd he (hb _ h1))
  unfold w1 at h2 ⊢
  omega
 ·rename_i hy
  rw [if_neg hy] at he
  exact hf _ hs he
omit hx hn hc in
theorem wt_oftenMore {m : Nat} {f : St → Tm × St} (hf : Wt m w1 f) (hb : Bad f) (hnf : Nice f) (ss : List Str) : ∀ k l s, s.ws.length < m → (oftenMore f ss k l s).2.er = 0 → (oftenMore f ss k l s).1.size + 2 * (oftenMore f ss k l s).2.ws.length ≤ l.size + 2 * s.ws.length := by
 intro k
 induction k with
 | zero => intro l s _ _; simp [oftenMore]
 | succ k ih =>
  intro l s hs he
  unfold oftenMore at he ⊢
  split
  ·rename_i hy
   rw [if_pos hy] at he
   have h3 := (nice_both hnf l s).1
   have h1 := ih _ _ (by omega) he
   have h2 := wt_both hf l s hs (isT_pos hy) (Bad.ok (bad_oftenMore hb ss k _) he)
   omega
  ·simp
omit hx hn hc in
theorem wt_often {m : Nat} {f : St → Tm × St} (hf : Wt m w1 f) (hb : Bad f) (hnf : Nice f) (ss : List Str) : Wt m w1 (often f ss) := by
 intro s hs he
 have h3 := (hnf s).1
 unfold often at he ⊢
 have h1 := wt_oftenMore hf hb hnf ss _ _ _ (by omega) he
 have h2 := hf _ hs (Bad.ok (bad_oftenMore hb ss _ _) he)
 unfold w1 at h2 ⊢
 omega
theorem wt_assign : Wt (n + 1) w1 (assign sz ex) := by
 have b1 := cg_unary (sz := sz) hc hn
 have b2 := cg_often (sz' := sz) b1 (nice_unary hn) [tStar, tSlash]
 have b3 := cg_often (sz' := sz) b2 (nice_prod hn) [tPlus, tMinus]
 have b4 := cg_once (sz' := sz) b3 [tLess, tEq]
 exact wt_once (wt_once (wt_often (wt_often (wt_unary hx hn hc) b1.bad (nice_unary hn) _) b2.bad (nice_prod hn) _) b3.bad (nice_sum hn) _) b4.bad (nice_cmp hn) _
theorem wt_exprHere : Wt (n + 1) w1 (exprHere sz ex) := by
 intro s hs he
 have h2 := (nice_name sz [2] (take s)).1
 have h3 := (nice_name sz [2] (name sz [2] (take s)).2).1
 have h4 := (nice_name sz [3] (take s)).1
 have h5 := (hn (name sz [3] (take s)).2).1
 unfold exprHere at he ⊢
 dsimp only at he ⊢
 split
 ·rename_i hy; rw [if_pos hy] at he
  have h1 := take_lt (isT_pos hy)
  have h6 := wt_behind hx hn hc [tArrow] _ (fun t' _ => by have := (le_must1 sz t' (name sz [2] (take s)).2).1; omega) he
  simp only [w1, Tm.size, sizeA, List.length_cons, List.length_nil] at h6 ⊢
  omega
 rename_i hy; rw [if_neg hy] at he
 split
 ·rename_i hy; rw [if_pos hy] at he
  have h1 := take_lt (isT_pos hy)
  have h6 := wt_behind hx hn hc [tEq, tIn] _ (fun t' _ => by have := (le_must1 sz t' (name sz [2] (take s)).2).1; omega) he
  simp only [w1, Tm.size, sizeA, List.length_cons, List.length_nil] at h6 ⊢
  omega
 rename_i hy; rw [if_neg hy] at he
 split
 ·rename_i hy; rw [if_pos hy] at he
  have h1 := take_lt (isT_pos hy)
  have h6 := wt_behind hx hn hc [tEq, tIn] _ (fun t' _ => by have := (le_must1 sz t' (name sz [2] (name sz [2] (take s)).2).2).1; omega) he
  simp only [w1, Tm.size, sizeA, List.length_cons, List.length_nil] at h6 ⊢
  omega
 rename_i hy; rw [if_neg hy] at he
 split
 ·rename_i hy; rw [if_pos hy] at he
  have h7 := must1_lt (sz := sz) hy
  have h6 := wt_behind hx hn hc [tIf, tThen, tElse] s (fun t' ht => by
   have e : t' = tIf := by simpa using ht.symm
   rw [e]; omega) he
  simp only [w1, Tm.size, sizeA, List.length_cons, List.length_nil] at h6 ⊢
  omega
 rename_i hy; rw [if_neg hy] at he
 split
 ·rename_i hy; rw [if_pos hy] at he
  have h7 := must1_lt (sz := sz) hy
  have h8 : (behind sz ex [tMatch] s).2.ws.length < n := by
   have := (hn (must1 sz tMatch s)).1
   simp only [behind]
   omega
  have h9 := wt_ways hx hn hc _ h8 he
  have h6 := wt_behind hx hn hc [tMatch] s (fun t' ht => by
   have e : t' = tMatch := by simpa using ht.symm
   rw [e]; omega) (Bad.ok ((cg_ways (sz := sz) hc hn).bad) he)
  simp only [w1, Tm.size, List.length_cons, List.length_nil] at h6 ⊢
  omega
 rename_i hy; rw [if_neg hy] at he
 split
 ·rename_i hy; rw [if_pos hy] at he
  have h1 := take_lt (isT_pos hy)
  have h9 := wt_clauses hx hn hc _ (by omega) he
  have h6 := hx _ (by omega) (Bad.ok ((cg_clauses (sz := sz) hc hn).bad) he)
  simp only [w1, Tm.size, sizeL] at h6 ⊢
  omega
 rename_i hy; rw [if_neg hy] at he
 exact wt_assign hx hn hc s hs he
theorem wt_exprStep : Wt (n + 1) w1 (exprStep sz ex) := by
 intro s hs he
 unfold exprStep at he ⊢
 dsimp only at he ⊢
 split
 ·rename_i hy; rw [if_pos hy] at he
  exact absurd he (fail_bad _ _ _ (by decide))
 ·rename_i hy; rw [if_neg hy] at he
  exact wt_exprHere hx hn hc { s with wi := s.wi + 1 } hs he
end
theorem wt_expr (sz : Nat) : ∀ n, Wt n w1 (expr sz n)
 | 0 => fun s hs _ => by omega
 | n + 1 => wt_exprStep (wt_expr sz n) (nice_expr sz n) (cg_expr sz sz n)
theorem nice_decls (sz : Nat) : ∀ n es ds, Nice (decls sz n es ds) := by
 intro n
 induction n with
 | zero => intro es ds s; exact Le.refl _
 | succ n ih =>
  intro es ds s
  unfold decls
  split
  ·split
   ·exact ((le_take s).trans (nice_effect sz _)).trans (ih _ _ _)
   ·exact ((le_must1 sz tData s).trans (nice_data sz _)).trans (ih _ _ _)
  ·exact Le.refl _
theorem size_program (sz : Nat) (ws : List Tk) (h : (program sz ⟨ws, 0, 0, 0⟩).2.er = 0) : (program sz ⟨ws, 0, 0, 0⟩).1.body.size ≤ 2 * ws.length := by
 unfold program at h ⊢
 dsimp only at h ⊢
 split at h
 ·exact absurd h (fail_bad _ _ _ (by decide))
 ·have h1 := wt_expr sz ((decls sz ws.length [] [] ⟨ws, 0, 0, 0⟩).2.ws.length + 1) _ (by omega) h
  have h2 := (nice_decls sz ws.length [] [] ⟨ws, 0, 0, 0⟩).1
  unfold w1 at h1
  dsimp only at h2
  omega
end Pz
end Go.Proofs.YtmodmojocclmaaaGreatDoor
