/- Contracts of the small functions of package lex, second part. -/
import Derived.Test.YtgffhjcnfjgpnaaDoorWalkA
import Derived.Deep.QuietTactic
import Derived.BigQuiet
namespace Go.Proofs.YtgffhjcnfjgpnaaDoor
open Go.RowKit

set_option maxHeartbeats 800000 in
theorem keyword_any (s : ByteArray) (w : World) :
    Calls Tryd.prog 33 #[.string s] w fun e w' => e = .returned (.bool (Lx.kwB s.toList)) ∧ w = w' := by
  go_enter Tryd.func33, Tryd.ntmps33
  go_wp2
  all_goals first | (exfalso; simp_all; done) | (go_ret; exact ⟨ret_bool (by simp only [Lx.kwB, *]; rfl), rfl⟩)

theorem isPrefixOf_take (l m : List UInt8) : m.isPrefixOf l = (decide (m.length ≤ l.length) && l.take m.length == m) := by
  rw [Bool.eq_iff_iff]
  simp only [List.isPrefixOf_iff_prefix, Bool.and_eq_true, decide_eq_true_eq, beq_iff_eq]
  constructor
  · intro h; exact ⟨h.length_le, (List.prefix_iff_eq_take.1 h).symm⟩
  · rintro ⟨_, h⟩; exact List.prefix_iff_eq_take.2 h.symm

set_option maxHeartbeats 400000 in
theorem hasPrefix_any (s d : ByteArray) (w : World) (_hs : s.size ≤ 140737488351232) (_hd : d.size ≤ 1000) :
    Calls Tryd.prog 34 #[.string s, .string d] w fun e w' => e = .returned (.bool (Lx.preB d.data.toList s.data.toList)) ∧ w = w' := by
  have hp := Lib.hid (isPrefixOf_take s.data.toList d.data.toList)
  by_cases h : d.size ≤ s.size
  · go_enter Tryd.func34, Tryd.ntmps34
    go_wp2_with go_in
    go_ret
    refine ⟨ret_bool ?_, rfl⟩
    rw [Lx.preB, hp.out]
    simp [h, Lib.toList_data]
  · go_enter Tryd.func34, Tryd.ntmps34
    go_wp2_with go_in
    go_ret
    refine ⟨ret_bool ?_, rfl⟩
    rw [Lx.preB, hp.out]
    simp [h]

set_option maxHeartbeats 400000 in
theorem ahead1_some (s d : ByteArray) (p q : Addr) (w : World) (hs : s.size ≤ 140737488351232) (hd : d.size ≤ 1000) (hq : w.cell? q = some (.func (.func 30) #[] #[.pointer (some p)])) (hp : w.cell? p = some (.string d))
    (h : 0 < s.size) :
    Calls Tryd.prog 31 #[.string s, .pointer (some q)] w fun e w' => e = .returned (.bool (Lx.inB d.data.toList s[0])) ∧ ∃ n, w' = w.drewN n := by
  have h0 : (0:Int) < (s.size : Int) := by omega
  have he : s.toList.isEmpty = false := by rw [Lib.toList_data]; cases hh : s.data.toList with
    | nil => exfalso; have : s.data.toList.length = s.size := by simp
             rw [hh] at this; simp at this; omega
    | cons a b => rfl
  go_enter Tryd.func31, Tryd.ntmps31
  go_wp2
  go_quiet ((go_at_call 30; exact Calls.quiet_of_same ((within1_any _ d p _ (by exact hp) hd).mono fun e w' h => ⟨h.1, h.2.symm⟩)))
  go_wp2
  go_ret
  exact ⟨rfl, _, rfl⟩
set_option maxHeartbeats 400000 in
theorem ahead1_none (s : ByteArray) (q : Addr) (w : World) (h : s.size = 0) :
    Calls Tryd.prog 31 #[.string s, .pointer (some q)] w fun e w' => e = .returned (.bool false) ∧ ∃ n, w' = w.drewN n := by
  have he : s.toList.isEmpty = true := by
    rw [Lib.toList_data, List.isEmpty_iff]; apply List.eq_nil_of_length_eq_zero; simpa using h
  go_enter Tryd.func31, Tryd.ntmps31
  go_wp2
  go_quiet (fail)
  go_wp2
  go_ret
  exact ⟨rfl, _, rfl⟩

set_option maxHeartbeats 400000 in
theorem signKind1_any (s d : ByteArray) (p : Addr) (w : World) (hs : s.size ≤ 140737488351232) (hd : d.size ≤ 1000) (hp : w.cell? p = some (.string d)) :
    Calls Tryd.prog 35 #[.string s, .pointer (some p)] w fun e w' => e = .returned (.bool (Lx.preB d.data.toList s.data.toList)) ∧ w = w' := by
  go_enter Tryd.func35, Tryd.ntmps35
  go_wp2_with (go_at_call 34; refine (hasPrefix_any s d _ hs hd).mono ?_; rintro e w' ⟨rfl, rfl⟩)
  go_ret
  exact ⟨rfl, rfl⟩

theorem cell_alloc (w : World) (o : Obj) {a : Addr} {v : Value} (h : w.cell? a = some v) : (w.alloc o).cell? a = some v := by
  rw [World.cell?_alloc_lt w o a (World.block_lt_of_cell? w a h)]; exact h
set_option maxHeartbeats 400000 in
theorem signKind2_any (s d : ByteArray) (g : Nat) (p : Addr) (w : World) (_hd : d.size ≤ 1000) (hp : w.cell? p = some (.string d))
    (k n at_ : Int) (t : ByteArray)
    (h0 : w.cell? ⟨g, 0, none⟩ = some (.int .i64 k)) (h1 : w.cell? ⟨g, 1, none⟩ = some (.string t)) (h2 : w.cell? ⟨g, 2, none⟩ = some (.int .i64 n)) (h3 : w.cell? ⟨g, 3, none⟩ = some (.int .i64 at_)) :
    Calls Tryd.prog 36 #[.string s, .pointer (some ⟨g, 0, none⟩), .pointer (some p)] w fun e w' => e = .returned (.tuple #[.agg #[.int .i64 k, .string t, .int .i64 n, .int .i64 at_], .int .i64 (d.size : Int), .bool true]) ∧ Below w.heap.size w w' := by
  have c0 := fun o => cell_alloc w o h0
  have c1 := fun o => cell_alloc w o h1
  have c2 := fun o => cell_alloc w o h2
  have c3 := fun o => cell_alloc w o h3
  have cp := fun o => cell_alloc w o hp
  go_enter Tryd.func36, Tryd.ntmps36
  go_wp2
  go_region
  all_goals (go_wp2; exact bodyPost_ret (v := .tuple #[.agg #[.int .i64 k, .string t, .int .i64 n, .int .i64 at_], .int .i64 (d.size : Int), .bool true]) (by simp [results, Tryd.results36, go_sem]) rfl ⟨rfl, ((Below.refl _ _).alloc (Nat.le_refl _) _).drew⟩)
end Go.Proofs.YtgffhjcnfjgpnaaDoor
