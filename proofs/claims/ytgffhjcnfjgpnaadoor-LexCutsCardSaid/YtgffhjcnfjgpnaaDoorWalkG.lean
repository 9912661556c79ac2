/- Contracts of package lex, seventh part: blanks and notes. -/
import Derived.Test.YtgffhjcnfjgpnaaDoorWalkF
namespace Go.Proofs.YtgffhjcnfjgpnaaDoor
open Go.RowKit

theorem skip_true (r : List UInt8) : Lx.skipN true r = Lx.spanN Lx.noLf r + Lx.skipN false (r.drop (Lx.spanN Lx.noLf r)) := by
  induction r with
  | nil => simp [Lx.skipN, Lx.spanN]
  | cons c r ih =>
    by_cases h : c.toNat = 10
    · simp [Lx.skipN, Lx.spanN, Lx.noLf, h]
    · have : Lx.noLf c = true := by simp [Lx.noLf, h]
      simp only [Lx.skipN, Lx.spanN, this, if_neg h, if_true, List.drop_succ_cons]
      omega
theorem skip_note (c : UInt8) (r : List UInt8) (h : c.toNat = 35) : Lx.skipN false (c :: r) = Lx.spanN Lx.noLf (c :: r) + Lx.skipN false ((c :: r).drop (Lx.spanN Lx.noLf (c :: r))) := by
  have h1 : Lx.noLf c = true := by simp [Lx.noLf, h]
  have h2 : ¬ (c.toNat = 32 ∨ c.toNat = 9 ∨ c.toNat = 13 ∨ c.toNat = 10) := by omega
  simp only [Lx.skipN, Lx.spanN, h1, if_neg h2, if_pos h, if_true, List.drop_succ_cons, skip_true r]
  omega
theorem skip_blank (c : UInt8) (r : List UInt8) (h : c.toNat = 32 ∨ c.toNat = 9 ∨ c.toNat = 13 ∨ c.toNat = 10) : Lx.skipN false (c :: r) = 1 + Lx.skipN false r := by
  simp only [Lx.skipN, if_pos h]
theorem skip_else (c : UInt8) (r : List UInt8) (h : ¬ (c.toNat = 32 ∨ c.toNat = 9 ∨ c.toNat = 13 ∨ c.toNat = 10)) (h2 : ¬ c.toNat = 35) : Lx.skipN false (c :: r) = 0 := by
  simp only [Lx.skipN, if_neg h, if_neg h2]
theorem indexByte_lf (l : List UInt8) : Lib.indexByte l 10 = if Lx.spanN Lx.noLf l < l.length then (Lx.spanN Lx.noLf l : Int) else -1 := by
  induction l with
  | nil => rfl
  | cons c r ih =>
    by_cases h : c = 10
    · subst h; simp [Lib.indexByte, Lx.spanN, Lx.noLf]
    · have hn : ¬ c.toNat = 10 := fun e => h (UInt8.toNat_inj.1 e)
      have : Lx.noLf c = true := by simp [Lx.noLf, hn]
      have hb : (c == 10) = false := by simpa using h
      simp only [Lib.indexByte, hb, ih, Lx.spanN, this, if_true, List.length_cons]
      by_cases h2 : Lx.spanN Lx.noLf r < r.length
      · simp only [if_pos h2]
        have h3 : ¬ ((Lx.spanN Lx.noLf r : Int) == -1) = true := by simp
        simp [h2]
      · simp [h2]

set_option maxHeartbeats 1000000 in
theorem note_any (s : ByteArray) (w : World) (_hs : s.size ≤ 140737488351232) :
    Calls Tryd.prog 28 #[.string s] w fun e w' => e = .returned (.int .i64 (Lx.spanN Lx.noLf s.data.toList : Nat)) ∧ w = w' := by
  have hi := indexByte_lf s.data.toList
  have hle := spanN_le Lx.noLf s.data.toList
  have hsz : s.data.toList.length = s.size := by simp
  rw [hsz] at hi hle
  by_cases h : Lx.spanN Lx.noLf s.data.toList < s.size
  · rw [if_pos h] at hi
    have HI := Lib.hid hi
    clear hi hsz
    go_enter Tryd.func28, Tryd.ntmps28
    go_wp2_with (go_at_call 37; refine (Tryd.strings_IndexByte s 10 _).mono ?_; rintro e w' ⟨rfl, hw⟩; subst hw; rw [show (10 : Int).toNat.toUInt8 = 10 from rfl, HI.out])
    go_ret
    exact ⟨rfl, rfl⟩
  · rw [if_neg h] at hi
    have HI := Lib.hid hi
    clear hi hsz
    go_enter Tryd.func28, Tryd.ntmps28
    go_wp2_with (go_at_call 37; refine (Tryd.strings_IndexByte s 10 _).mono ?_; rintro e w' ⟨rfl, hw⟩; subst hw; rw [show (10 : Int).toNat.toUInt8 = 10 from rfl, HI.out])
    go_ret
    exact ⟨ret_int (by omega), rfl⟩

def noteAt (s : ByteArray) (k : Nat) : Nat := Lx.spanN Lx.noLf (s.data.toList.drop k)
theorem noteN_le (s : ByteArray) (k : Nat) (hk : k ≤ s.size) : k + noteAt s k ≤ s.size := by
  have := spanN_le Lx.noLf (s.data.toList.drop k)
  simp at this
  unfold noteAt
  omega
theorem bl_of {c : UInt8} (n : Int) (h : ((c.toNat : Int) == n) = true) (hn : n = 32 ∨ n = 9 ∨ n = 13 ∨ n = 10) : c.toNat = 32 ∨ c.toNat = 9 ∨ c.toNat = 13 ∨ c.toNat = 10 := by
  simp at h; omega
theorem nb_of {c : UInt8} (h1 : ((c.toNat : Int) == 32) = false) (h2 : ((c.toNat : Int) == 9) = false) (h3 : ((c.toNat : Int) == 13) = false) (h4 : ((c.toNat : Int) == 10) = false) : ¬ (c.toNat = 32 ∨ c.toNat = 9 ∨ c.toNat = 13 ∨ c.toNat = 10) := by
  simp at h1 h2 h3 h4; omega
theorem nt_of {c : UInt8} (h : ((c.toNat : Int) == 35) = true) : c.toNat = 35 := by simp at h; omega
theorem nn_of {c : UInt8} (h : ((c.toNat : Int) == 35) = false) : ¬ c.toNat = 35 := by simp at h; omega
theorem note_pos (s : ByteArray) (k : Nat) (hk : k < s.size) (h : s[k].toNat = 35) : 0 < noteAt s k := by
  unfold noteAt
  rw [drop_one s k hk]
  have : Lx.noLf s[k] = true := by simp [Lx.noLf, h]
  simp [Lx.spanN, this]
theorem note_at (s : ByteArray) (k : Nat) (w : World) (hs : s.size ≤ 140737488351232) :
    Calls Tryd.prog 28 #[.string (s.extract k s.size)] w fun e w' => e = .returned (.int .i64 (noteAt s k : Nat)) ∧ w = w' := by
  have h := note_any (s.extract k s.size) w (by simp; omega)
  have e2 : (s.extract k s.size).data.toList = s.data.toList.drop k := by
    rw [Lib.extract_data]; exact List.take_of_length_le (by simp)
  rw [e2] at h
  exact h
def SkipEnd (s : ByteArray) (a : Nat) (w : World) (e : Ending) (w' : World) : Prop := e = .returned (.int .i64 ((a + Lx.skipN false (s.data.toList.drop a) : Nat) : Int)) ∧ w = w'
set_option maxHeartbeats 2000000 in
theorem skip_any (s : ByteArray) (a : Nat) (w : World) (hs : s.size ≤ 140737488351232) (ha : a ≤ s.size) :
    Calls Tryd.prog 15 #[.string s, .int .i64 (a : Int)] w (SkipEnd s a w) := by
  go_enter Tryd.func15, Tryd.ntmps15
  go_wp2
  go_loop [1] (fun i => ∃ k : Nat, k ≤ s.size ∧ i = .int .i64 k ∧ a + Lx.skipN false (s.data.toList.drop a) = k + Lx.skipN false (s.data.toList.drop k)) (fun i => s.size - (intOf i).toNat)
  case atStart => exact ⟨a, ha, rfl, rfl⟩
  case round =>
    obtain ⟨k, hk, rfl, hr⟩ := hrel
    have HR := Lib.hid hr
    clear hr
    by_cases hlt : k < s.size
    · have HD := Lib.hid (drop_one s k hlt)
      have hn := noteN_le s k hk
      go_wp2_with (go_at_call 28; refine (note_at s k _ hs).mono ?_; rintro e w' ⟨rfl, rfl⟩)
      · go_round
        case rel => exact ⟨k + 1, by omega, by go_num, by rw [HR.out, HD.out, skip_blank _ _ (bl_of 32 (by assumption) (by decide))]; omega⟩
        case measure => simp [intOf]; omega
      · go_round
        case rel => exact ⟨k + 1, by omega, by go_num, by rw [HR.out, HD.out, skip_blank _ _ (bl_of 9 (by assumption) (by decide))]; omega⟩
        case measure => simp [intOf]; omega
      · go_round
        case rel => exact ⟨k + 1, by omega, by go_num, by rw [HR.out, HD.out, skip_blank _ _ (bl_of 13 (by assumption) (by decide))]; omega⟩
        case measure => simp [intOf]; omega
      · go_round
        case rel => exact ⟨k + 1, by omega, by go_num, by rw [HR.out, HD.out, skip_blank _ _ (bl_of 10 (by assumption) (by decide))]; omega⟩
        case measure => simp [intOf]; omega
      · have hp := note_pos s k hlt (nt_of (by assumption))
        go_round
        case rel => exact ⟨k + noteAt s k, by omega, by go_num, by
          have e := skip_note s[k] (s.data.toList.drop (k + 1)) (nt_of (by assumption))
          rw [← HD.out, List.drop_drop] at e
          rw [HR.out, e]
          unfold noteAt
          omega⟩
        case measure => simp [intOf]; omega
      · go_ret
        exact ⟨ret_int (by have := HR.out; rw [this, HD.out, skip_else _ _ (nb_of (by assumption) (by assumption) (by assumption) (by assumption)) (nn_of (by assumption))]; simp), rfl⟩
    · go_wp2
      go_ret
      exact ⟨ret_int (by have := HR.out; rw [this, List.drop_of_length_le (by simp; omega)]; simp [Lx.skipN]), rfl⟩
end Go.Proofs.YtgffhjcnfjgpnaaDoor
