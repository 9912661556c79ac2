/- Contracts of the small functions of package lex. -/
import Derived.Test.YtgffhjcnfjgpnaaDoorProg
import Derived.Test.YtgffhjcnfjgpnaaDoorSpec
import Derived.WalkKit
import Derived.WalkSpells
import Derived.WalkLawsBesides
import Derived.Lib.Hide
namespace Go.Proofs.YtgffhjcnfjgpnaaDoor
open Go.RowKit

theorem drop_two (s : ByteArray) (k : Nat) (h : k + 1 < s.size) : s.data.toList.drop k = s[k] :: s[k+1] :: s.data.toList.drop (k + 2) := by
  have h1 : k + 1 < s.data.toList.length := by simpa using h
  rw [List.drop_eq_getElem_cons (by omega), List.drop_eq_getElem_cons h1]
  rfl

theorem inB_hit (s : ByteArray) (k : Nat) (c : UInt8) (h : k + 1 < s.size) (h1 : s[k].toNat ≤ c.toNat) (h2 : c.toNat ≤ s[k+1].toNat) : Lx.inB (s.data.toList.drop k) c = true := by
  rw [drop_two s k h]; simp [Lx.inB, h1, h2]
theorem inB_miss (s : ByteArray) (k : Nat) (c : UInt8) (h : k + 1 < s.size) (h1 : ¬ (s[k].toNat ≤ c.toNat ∧ c.toNat ≤ s[k+1].toNat)) : Lx.inB (s.data.toList.drop k) c = Lx.inB (s.data.toList.drop (k + 2)) c := by
  rw [drop_two s k h]
  simp only [Lx.inB]
  have h2 : (decide (s[k].toNat ≤ c.toNat) && decide (c.toNat ≤ s[k+1].toNat)) = false := by
    rw [Bool.eq_false_iff]; intro h; simp at h; exact h1 h
  rw [h2]; rfl
theorem inB_end (l : List UInt8) (c : UInt8) (h : l.length ≤ 1) : Lx.inB l c = false := by
  match l, h with
  | [], _ => rfl
  | [_], _ => rfl
theorem ret_bool {a b : Bool} (h : a = b) : Ending.returned (.bool a) = .returned (.bool b) := by rw [h]
theorem ret_int {k : IntKind} {a b : Int} (h : a = b) : Ending.returned (.int k a) = .returned (.int k b) := by rw [h]

set_option maxHeartbeats 400000 in
/-- within's closure: does the byte lie in one of the ranges? -/
theorem within1_any (c : UInt8) (s : ByteArray) (p : Addr) (w : World) (hc : w.cell? p = some (.string s)) (hs : s.size ≤ 1000) :
    Calls Tryd.prog 30 #[.int .u8 (c.toNat : Int), .pointer (some p)] w fun e w' => e = .returned (.bool (Lx.inB s.data.toList c)) ∧ w = w' := by
  go_enter Tryd.func30, Tryd.ntmps30
  go_wp2
  go_loop [4] (fun i => ∃ k : Nat, k ≤ s.size + 1 ∧ i = .int .i64 k ∧ Lx.inB s.data.toList c = Lx.inB (s.data.toList.drop k) c) (fun i => s.size + 1 - (intOf i).toNat)
  case atStart => exact ⟨0, Nat.zero_le _, rfl, by simp⟩
  case round =>
    obtain ⟨k, hk, rfl, hr⟩ := hrel
    have HR := Lib.hid hr
    clear hr
    by_cases hlt : k + 1 < s.size
    · have h0 : k < s.size := by omega
      go_wp2
      · go_ret
        exact ⟨ret_bool (by rw [HR.out, inB_hit s k c hlt ‹_› ‹_›]), rfl⟩
      all_goals
        go_round
        case rel => exact ⟨k + 2, by omega, by go_num, by rw [HR.out]; exact inB_miss s k c hlt (by omega)⟩
        case measure => simp [intOf]; omega
    · go_wp2
      go_ret
      exact ⟨ret_bool (by rw [HR.out, inB_end _ _ (by simp; omega)]), rfl⟩

theorem spanN_le (p : UInt8 → Bool) (l : List UInt8) : Lx.spanN p l ≤ l.length := by
  induction l with
  | nil => simp [Lx.spanN]
  | cons c r ih => simp only [Lx.spanN]; split <;> simp <;> omega
theorem drop_one (s : ByteArray) (k : Nat) (h : k < s.size) : s.data.toList.drop k = s[k] :: s.data.toList.drop (k + 1) := by
  rw [List.drop_eq_getElem_cons (by simpa using h)]
  rfl
theorem spanN_hit (s : ByteArray) (p : UInt8 → Bool) (k : Nat) (h : k < s.size) (h1 : p s[k] = true) : Lx.spanN p (s.data.toList.drop k) = Lx.spanN p (s.data.toList.drop (k + 1)) + 1 := by
  rw [drop_one s k h, Lx.spanN, if_pos h1]
theorem spanN_miss (s : ByteArray) (p : UInt8 → Bool) (k : Nat) (h : k < s.size) (h1 : p s[k] = false) : Lx.spanN p (s.data.toList.drop k) = 0 := by
  rw [drop_one s k h, Lx.spanN, h1]; rfl

set_option maxHeartbeats 400000 in
/-- span: how many bytes at the beginning pass a test of within's make. -/
theorem span_any (s : ByteArray) (d : ByteArray) (p : Addr) (w : World) (hc : w.cell? p = some (.string d)) (hd : d.size ≤ 1000) (hs : s.size ≤ 140737488351232) :
    Calls Tryd.prog 24 #[.string s, .func (.func 30) #[] #[.pointer (some p)]] w fun e w' => e = .returned (.int .i64 (Lx.spanN (Lx.inB d.data.toList) s.data.toList : Nat)) ∧ w = w' := by
  go_enter Tryd.func24, Tryd.ntmps24
  go_wp2
  go_loop [5] (fun i => ∃ k : Nat, k ≤ s.size ∧ i = .int .i64 k ∧ Lx.spanN (Lx.inB d.data.toList) s.data.toList = k + Lx.spanN (Lx.inB d.data.toList) (s.data.toList.drop k)) (fun i => s.size - (intOf i).toNat)
  case atStart => exact ⟨0, Nat.zero_le _, rfl, by simp⟩
  case round =>
    obtain ⟨k, hk, rfl, hr⟩ := hrel
    have HR := Lib.hid hr
    clear hr
    by_cases hlt : k < s.size
    · by_cases hb : Lx.inB d.data.toList s[k] = true
      · have HB := Lib.hid hb
        clear hb
        go_wp2_with (go_at_call 30; refine (within1_any _ d p _ hc hd).mono ?_; rintro e w' ⟨rfl, rfl⟩; rw [HB.out])
        go_round
        case rel => exact ⟨k + 1, by omega, by go_num, by rw [HR.out, spanN_hit s _ k hlt HB.out]; omega⟩
        case measure => simp [intOf]; omega
      · have HB := Lib.hid (Bool.eq_false_iff.2 hb)
        clear hb
        go_wp2_with (go_at_call 30; refine (within1_any _ d p _ hc hd).mono ?_; rintro e w' ⟨rfl, rfl⟩; rw [HB.out])
        go_ret
        exact ⟨ret_int (by rw [HR.out, spanN_miss s _ k hlt HB.out]; simp), rfl⟩
    · go_wp2
      go_ret
      exact ⟨ret_int (by rw [HR.out, List.drop_of_length_le (by simp; omega)]; simp [Lx.spanN]), rfl⟩
end Go.Proofs.YtgffhjcnfjgpnaaDoor
