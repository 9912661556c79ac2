/- Contracts of package lex, third part: what makes the table, and what reads a number or a name. -/
import Derived.Test.YtgffhjcnfjgpnaaDoorWalkB
import Derived.Test.YtgffhjcnfjgpnaaDoorShelf
import Derived.Laws.EntriesVeiled
namespace Go.Proofs.YtgffhjcnfjgpnaaDoor
open Go.RowKit

def ba (l : List UInt8) : ByteArray := ⟨l.toArray⟩
theorem extract_ba (s : ByteArray) (a b : Nat) : s.extract a b = ba ((s.data.toList.drop a).take (b - a)) := by
  rw [ba, ← Lib.extract_data]
theorem extract_ba0 (s : ByteArray) (b : Nat) : s.extract 0 b = ba (s.data.toList.take b) := by
  rw [extract_ba]; simp
def tkV (x : Lx.Tk) : Value := .agg #[.int .i64 (x.k : Int), .string (ba x.t), .int .i64 (x.n : Int), .int .i64 (x.pos : Int)]
def zeroV : Value := .agg #[.int .i64 0, .string ⟨#[]⟩, .int .i64 0, .int .i64 0]
/-- What a reader answers. -/
def resV : Option (Lx.Tk × Nat) → Value
  | some (x, m) => .tuple #[tkV x, .int .i64 (m : Int), .bool true]
  | none => .tuple #[zeroV, .int .i64 0, .bool false]

set_option maxHeartbeats 400000 in
theorem within_any (s : ByteArray) (w : World) :
    Calls Tryd.prog 20 #[.string s] w fun e w' => e = .returned (.func (.func 30) #[] #[.pointer (some ⟨w.heap.size, 0, none⟩)]) ∧ w' = w.alloc (.cells #[.string s] 9) := by
  go_enter Tryd.func20, Tryd.ntmps20
  go_wp2
  go_ret
  exact ⟨rfl, rfl⟩

set_option maxHeartbeats 400000 in
theorem ahead_any (p : Addr) (w : World) :
    Calls Tryd.prog 21 #[.func (.func 30) #[] #[.pointer (some p)]] w fun e w' => e = .returned (.func (.func 31) #[] #[.pointer (some ⟨w.heap.size, 0, none⟩)]) ∧ w' = w.alloc (.cells #[.func (.func 30) #[] #[.pointer (some p)]] 53) := by
  go_enter Tryd.func21, Tryd.ntmps21
  go_wp2
  go_ret
  exact ⟨rfl, rfl⟩

def signF1 (N : Nat) : Value := .func (.func 35) #[] #[.pointer (some ⟨N, 0, none⟩)]
def signF2 (N : Nat) : Value := .func (.func 36) #[] #[.pointer (some ⟨N + 1 + 1, 0, none⟩), .pointer (some ⟨N, 0, none⟩)]
set_option maxHeartbeats 400000 in
theorem signKind_any (s : ByteArray) (w : World) :
    Calls Tryd.prog 27 #[.string s] w fun e w' => e = .returned (.agg #[signF1 w.heap.size, signF2 w.heap.size]) ∧
      w' = ((w.alloc (.cells #[.string s] 9)).alloc (.cells #[signF1 w.heap.size, signF2 w.heap.size] 61)).alloc (.cells #[.int .i64 5, .string s, .int .i64 0, .int .i64 0] 31) := by
  go_enter Tryd.func27, Tryd.ntmps27
  go_wp2
  exact bodyPost_ret (v := .agg #[signF1 w.heap.size, signF2 w.heap.size]) (by simp [results, Tryd.results27, go_sem, signF1, signF2]) rfl ⟨rfl, by simp [signF1, signF2]⟩

theorem capB_s (s : ByteArray) (n : Nat) (h : 0 < n) (hs : n ≤ s.size) (hx : 0 < (s.extract 0 n).size) : Lx.capB s.data.toList = (decide (65 ≤ (s.extract 0 n)[0].toNat) && decide ((s.extract 0 n)[0].toNat ≤ 90)) := by
  have e : (s.extract 0 n)[0] = s[0] := by simp [ByteArray.getElem_extract]
  rw [e]
  have h0 : 0 < s.size := by omega
  have := drop_one s 0 h0
  simp only [List.drop_zero] at this
  rw [this]
  rfl
def NameEnd (l : List UInt8) (n : Nat) (w : World) (e : Ending) (w' : World) : Prop := e = .returned (resV (Lx.nameF l n)) ∧ Below w.heap.size w w'
set_option maxHeartbeats 3000000 in
theorem name_any (s : ByteArray) (n : Nat) (w : World) (h0 : 0 < n) (hs : n ≤ s.size) (hl : s.size ≤ 140737488351232) :
    Calls Tryd.prog 26 #[.string s, .int .i64 (n : Int)] w (NameEnd s.data.toList n w) := by
  have HX := Lib.hid (extract_ba0 s n)
  by_cases hn : 60 < n
  · go_enter Tryd.func26, Tryd.ntmps26
    go_wp2
    exact bodyPost_ret (v := resV none) (by simp [results, Tryd.results26, go_sem, resV, zeroV]) rfl ⟨by rw [Lx.nameF, if_pos hn], ((Below.refl _ _).alloc (Nat.le_refl _) _)⟩
  have hx : 0 < (s.extract 0 n).size := by simp; omega
  have HC := Lib.hid (capB_s s n h0 hs hx)
  by_cases hc1 : 65 ≤ (s.extract 0 n)[0].toNat ∧ (s.extract 0 n)[0].toNat ≤ 90
  · obtain ⟨hc1, hc2⟩ := hc1
    go_enter Tryd.func26, Tryd.ntmps26
    go_wp2
    exact bodyPost_ret (v := .tuple #[tkV ⟨3, s.data.toList.take n, 0, 0⟩, .int .i64 n, .bool true]) (by simp [results, Tryd.results26, go_sem, tkV, HX.out]) rfl ⟨by rw [Lx.nameF, if_neg hn, HC.out, if_pos (by simp [hc1, hc2])]; rfl, ((Below.refl _ _).alloc (Nat.le_refl _) _)⟩
  have HN : Hid (Lx.capB s.data.toList = false) := by rw [HC.out, Bool.eq_false_iff]; intro h; simp at h; exact hc1 h
  have e1 : (s.extract 0 n).toList = s.data.toList.take n := by rw [Lib.toList_data, Lib.extract_data]; simp
  have e2 : (s.extract n s.size).data.toList = s.data.toList.drop n := by
    rw [Lib.extract_data]; exact List.take_of_length_le (by simp)
  by_cases hk : Lx.kwB (s.data.toList.take n) = true
  · have HK : Hid (Lx.kwB (s.extract 0 n).toList = true) := by rw [e1]; exact hk
    have hk2 := Lib.hid hk
    clear hk e1 e2
    by_cases hd1 : 65 ≤ (s.extract 0 n)[0].toNat
    all_goals
      go_enter Tryd.func26, Tryd.ntmps26
      go_wp2_with (go_at_call 33; refine (keyword_any _ _).mono ?_; rintro e w' ⟨rfl, rfl⟩; rw [HK.out])
      exact bodyPost_ret (v := .tuple #[tkV ⟨4, s.data.toList.take n, 0, 0⟩, .int .i64 n, .bool true]) (by simp [results, Tryd.results26, go_sem, tkV, HX.out]) rfl ⟨by rw [Lx.nameF, if_neg hn, HN.out, if_neg (by simp), if_pos hk2.out]; rfl, ((Below.refl _ _).alloc (Nat.le_refl _) _)⟩
  have HK : Hid (Lx.kwB (s.extract 0 n).toList = false) := by rw [e1]; exact Bool.eq_false_iff.2 hk
  have hk2 := Lib.hid hk
  clear hk e1
  by_cases hb : Lx.preB [33] (s.data.toList.drop n) = true
  · have HB : Hid (Lx.preB (⟨#[33]⟩ : ByteArray).data.toList (s.extract n s.size).data.toList = true) := by rw [e2]; exact hb
    have hb2 := Lib.hid hb
    clear hb e2
    by_cases hd1 : 65 ≤ (s.extract 0 n)[0].toNat
    all_goals
      go_enter Tryd.func26, Tryd.ntmps26
      go_wp2_with (first | (go_at_call 33; refine (keyword_any _ _).mono ?_; rintro e w' ⟨rfl, rfl⟩; rw [HK.out]) | (go_at_call 34; refine (hasPrefix_any _ _ _ (by simp; omega) (by decide)).mono ?_; rintro e w' ⟨rfl, rfl⟩; rw [HB.out]))
      exact bodyPost_ret (v := .tuple #[tkV ⟨6, s.data.toList.take n, 0, 0⟩, .int .i64 ((n + 1 : Nat) : Int), .bool true]) (by simp [results, Tryd.results26, go_sem, tkV, HX.out]) rfl ⟨by rw [Lx.nameF, if_neg hn, HN.out, if_neg (by simp), if_neg hk2.out, if_pos hb2.out]; rfl, ((Below.refl _ _).alloc (Nat.le_refl _) _)⟩
  · have HB : Hid (Lx.preB (⟨#[33]⟩ : ByteArray).data.toList (s.extract n s.size).data.toList = false) := by rw [e2]; exact Bool.eq_false_iff.2 hb
    have hb2 := Lib.hid hb
    clear hb e2
    by_cases hd1 : 65 ≤ (s.extract 0 n)[0].toNat
    all_goals
      go_enter Tryd.func26, Tryd.ntmps26
      go_wp2_with (first | (go_at_call 33; refine (keyword_any _ _).mono ?_; rintro e w' ⟨rfl, rfl⟩; rw [HK.out]) | (go_at_call 34; refine (hasPrefix_any _ _ _ (by simp; omega) (by decide)).mono ?_; rintro e w' ⟨rfl, rfl⟩; rw [HB.out]))
      exact bodyPost_ret (v := .tuple #[tkV ⟨2, s.data.toList.take n, 0, 0⟩, .int .i64 n, .bool true]) (by simp [results, Tryd.results26, go_sem, tkV, HX.out]) rfl ⟨by rw [Lx.nameF, if_neg hn, HN.out, if_neg (by simp), if_neg hk2.out, if_neg hb2.out]; rfl, ((Below.refl _ _).alloc (Nat.le_refl _) _)⟩
end Go.Proofs.YtgffhjcnfjgpnaaDoor
