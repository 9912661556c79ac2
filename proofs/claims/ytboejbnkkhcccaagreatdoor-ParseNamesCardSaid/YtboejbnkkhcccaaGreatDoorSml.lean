/- The contract of Small: whether a text is a small name. -/
import Derived.Test.YtboejbnkkhcccaaGreatDoorNm
import Derived.Test.YtboejbnkkhcccaaGreatDoorGbLexA
import Derived.Outline
namespace Go.Proofs.YtboejbnkkhcccaaGreatDoor
open Go.RowKit

theorem u8_all (p q : UInt8 → Bool) (h : (List.range 256).all (fun n => p (UInt8.ofNat n) == q (UInt8.ofNat n)) = true) (c : UInt8) : p c = q c := by
  have h1 := List.all_eq_true.1 h c.toNat (by have := c.toNat_lt; simp only [List.mem_range]; omega)
  simpa using h1
def hasC (l : List UInt8) (c : UInt8) : Bool := l.contains c
theorem contains_drop (s : ByteArray) (k : Nat) (c : UInt8) (h : k < s.size) : hasC (s.data.toList.drop k) c = ((c == s[k]) || hasC (s.data.toList.drop (k + 1)) c) := by
  unfold hasC
  rw [drop_one s k h, List.contains_cons]
set_option maxHeartbeats 400000 in
theorem in_any (c : UInt8) (s : ByteArray) (w : World) (hs : s.size ≤ 1000) :
    Calls Tryz.prog 30 #[.int .u8 (c.toNat : Int), .string s] w fun e w' => e = .returned (.bool (hasC s.data.toList c)) ∧ w = w' := by
  go_enter Tryz.func30, Tryz.ntmps30
  go_wp2
  go_loop [5] (fun i => ∃ k : Nat, k ≤ s.size ∧ i = .int .i64 k ∧ hasC s.data.toList c = hasC (s.data.toList.drop k) c) (fun i => s.size - (intOf i).toNat)
  case atStart => exact ⟨0, Nat.zero_le _, rfl, by simp⟩
  case round =>
    obtain ⟨k, hk, rfl, hr⟩ := hrel
    have HR := Lib.hid hr
    clear hr
    by_cases hlt : k < s.size
    · have hcd := contains_drop s k c hlt
      have HCD := Lib.hid hcd
      clear hcd
      by_cases hc : c = s[k]
      · have hc2 : (c.toNat : Int) = (s[k].toNat : Int) := by rw [hc]
        have h3 : ((s[k].toNat : Int) == (c.toNat : Int)) = true := by simp [hc2]
        have HC := Lib.hid hc
        clear hc hc2
        go_wp2
        go_ret
        exact ⟨ret_bool (by rw [HR.out, HCD.out, HC.out]; simp), rfl⟩
      · have hc2 : ¬ c.toNat = s[k].toNat := fun e => hc (UInt8.toNat_inj.1 e)
        have h3 : ((s[k].toNat : Int) == (c.toNat : Int)) = false := by simp; omega
        have h4 : (c == s[k]) = false := by simpa using hc
        have H4 := Lib.hid h4
        clear hc hc2 h4
        go_wp2
        go_round
        case rel => exact ⟨k + 1, by omega, by go_num, by rw [HR.out, HCD.out, H4.out]; rfl⟩
        case measure => simp [intOf]; omega
    · go_wp2
      go_ret
      exact ⟨ret_bool (by rw [HR.out, List.drop_of_length_le (by simp; omega)]; rfl), rfl⟩
def larB (c : UInt8) : Bool := Lx.inB [65, 90] c
def smaB (c : UInt8) : Bool := Lx.inB [97, 122, 95, 95] c
def digB' (c : UInt8) : Bool := Lx.inB Lx.digs c
set_option maxRecDepth 100000 in
theorem in_dig (c : UInt8) (w : World) : Calls Tryz.prog 30 #[.int .u8 (c.toNat : Int), .string ⟨#[48, 49, 50, 51, 52, 53, 54, 55, 56, 57]⟩] w fun e w' => e = .returned (.bool (digB' c)) ∧ w = w' :=
  (in_any c _ w (by decide)).mono fun _ _ ⟨he, hw⟩ => ⟨he.trans (ret_bool (u8_all (fun c => hasC [48, 49, 50, 51, 52, 53, 54, 55, 56, 57] c) digB' (by kernel_rfl) c)), hw⟩
set_option maxRecDepth 100000 in
theorem in_lar (c : UInt8) (w : World) : Calls Tryz.prog 30 #[.int .u8 (c.toNat : Int), .string ⟨#[65, 66, 67, 68, 69, 70, 71, 72, 73, 74, 75, 76, 77, 78, 79, 80, 81, 82, 83, 84, 85, 86, 87, 88, 89, 90]⟩] w fun e w' => e = .returned (.bool (larB c)) ∧ w = w' :=
  (in_any c _ w (by decide)).mono fun _ _ ⟨he, hw⟩ => ⟨he.trans (ret_bool (u8_all (fun c => hasC [65, 66, 67, 68, 69, 70, 71, 72, 73, 74, 75, 76, 77, 78, 79, 80, 81, 82, 83, 84, 85, 86, 87, 88, 89, 90] c) larB (by kernel_rfl) c)), hw⟩
set_option maxRecDepth 100000 in
theorem in_sma (c : UInt8) (w : World) : Calls Tryz.prog 30 #[.int .u8 (c.toNat : Int), .string ⟨#[97, 98, 99, 100, 101, 102, 103, 104, 105, 106, 107, 108, 109, 110, 111, 112, 113, 114, 115, 116, 117, 118, 119, 120, 121, 122, 95]⟩] w fun e w' => e = .returned (.bool (smaB c)) ∧ w = w' :=
  (in_any c _ w (by decide)).mono fun _ _ ⟨he, hw⟩ => ⟨he.trans (ret_bool (u8_all (fun c => hasC [97, 98, 99, 100, 101, 102, 103, 104, 105, 106, 107, 108, 109, 110, 111, 112, 113, 114, 115, 116, 117, 118, 119, 120, 121, 122, 95] c) smaB (by kernel_rfl) c)), hw⟩
set_option maxRecDepth 100000 in
theorem inss_or (c : UInt8) : Lx.inB Lx.inss c = (digB' c || (larB c || smaB c)) := u8_all (Lx.inB Lx.inss) (fun c => digB' c || (larB c || smaB c)) (by kernel_rfl) c
theorem insAll_drop (s : ByteArray) (k : Nat) (h : k < s.size) : insAll (s.data.toList.drop k) = (Lx.inB Lx.inss s[k] && insAll (s.data.toList.drop (k + 1))) := by
  rw [drop_one s k h]; rfl
set_option maxHeartbeats 800000 in
theorem nameS_any (s : ByteArray) (w : World) (hs : s.size ≤ 1000) :
    Calls Tryz.prog 29 #[.string s] w fun e w' => e = .returned (.bool (nameB s.data.toList)) ∧ w = w' := by
  by_cases h0 : 0 < s.size
  · have hne : s.toList.isEmpty = false := by
      rw [Lib.toList_data]
      have : s.data.toList ≠ [] := by intro e; have h2 := congrArg List.length e; simp only [List.length_nil, Array.length_toList] at h2; have h3 : s.size = s.data.size := rfl; omega
      cases hl : s.data.toList with
      | nil => exact absurd hl this
      | cons a b => rfl
    have hne2 : (!s.toList.isEmpty) = true := by rw [hne]; rfl
    have hn : nameB s.data.toList = (!(digB' s[0]) && insAll s.data.toList) := by
      have := drop_one s 0 h0
      rw [List.drop_zero] at this
      rw [this]
      rfl
    have HN := Lib.hid hn
    clear hn
    cases hd : digB' s[0] with
    | true =>
      have HD := Lib.hid hd
      clear hd
      go_enter Tryz.func29, Tryz.ntmps29
      go_wp2_with ((with_reducible refine (in_dig _ _).mono ?_); rintro e w' ⟨rfl, rfl⟩; rw [HD.out])
      go_ret
      exact ⟨ret_bool (by rw [HN.out, HD.out]; rfl), rfl⟩
    | false =>
      have HD := Lib.hid hd
      clear hd
      go_enter Tryz.func29, Tryz.ntmps29
      go_wp2_with ((with_reducible refine (in_dig _ _).mono ?_); rintro e w' ⟨rfl, rfl⟩; rw [HD.out])
      go_loop [3] (fun i => ∃ k : Nat, k ≤ s.size ∧ i = .int .i64 k ∧ insAll s.data.toList = insAll (s.data.toList.drop k)) (fun i => s.size - (intOf i).toNat)
      case atStart => exact ⟨0, Nat.zero_le _, rfl, by simp⟩
      case round =>
        obtain ⟨k, hk, rfl, hr⟩ := hrel
        have HR := Lib.hid hr
        clear hr
        by_cases hlt : k < s.size
        · have hid := insAll_drop s k hlt
          rw [inss_or] at hid
          have HID := Lib.hid hid
          clear hid
          cases h1 : digB' s[k] with
          | true =>
            have H1 := Lib.hid h1
            clear h1
            go_wp2_with ((with_reducible refine (in_dig _ _).mono ?_); rintro e w' ⟨rfl, rfl⟩; rw [H1.out])
            go_round
            case rel => exact ⟨k + 1, by omega, by go_num, by rw [HR.out, HID.out, H1.out]; rfl⟩
            case measure => simp [intOf]; omega
          | false =>
            cases h2 : larB s[k] with
            | true =>
              have H1 := Lib.hid h1
              have H2 := Lib.hid h2
              clear h1 h2
              go_wp2_with (first | ((with_reducible refine (in_dig _ _).mono ?_); rintro e w' ⟨rfl, rfl⟩; rw [H1.out]) | ((with_reducible refine (in_lar _ _).mono ?_); rintro e w' ⟨rfl, rfl⟩; rw [H2.out]))
              go_round
              case rel => exact ⟨k + 1, by omega, by go_num, by rw [HR.out, HID.out, H1.out, H2.out]; rfl⟩
              case measure => simp [intOf]; omega
            | false =>
              cases h3 : smaB s[k] with
              | true =>
                have H1 := Lib.hid h1
                have H2 := Lib.hid h2
                have H3 := Lib.hid h3
                clear h1 h2 h3
                go_wp2_with (first | ((with_reducible refine (in_dig _ _).mono ?_); rintro e w' ⟨rfl, rfl⟩; rw [H1.out]) | ((with_reducible refine (in_lar _ _).mono ?_); rintro e w' ⟨rfl, rfl⟩; rw [H2.out]) | ((with_reducible refine (in_sma _ _).mono ?_); rintro e w' ⟨rfl, rfl⟩; rw [H3.out]))
                go_round
                case rel => exact ⟨k + 1, by omega, by go_num, by rw [HR.out, HID.out, H1.out, H2.out, H3.out]; rfl⟩
                case measure => simp [intOf]; omega
              | false =>
                have H1 := Lib.hid h1
                have H2 := Lib.hid h2
                have H3 := Lib.hid h3
                clear h1 h2 h3
                go_wp2_with (first | ((with_reducible refine (in_dig _ _).mono ?_); rintro e w' ⟨rfl, rfl⟩; rw [H1.out]) | ((with_reducible refine (in_lar _ _).mono ?_); rintro e w' ⟨rfl, rfl⟩; rw [H2.out]) | ((with_reducible refine (in_sma _ _).mono ?_); rintro e w' ⟨rfl, rfl⟩; rw [H3.out]))
                go_ret
                exact ⟨ret_bool (by rw [HN.out, HR.out, HID.out, H1.out, H2.out, H3.out]; simp), rfl⟩
        · go_wp2
          go_ret
          exact ⟨ret_bool (by rw [HN.out, HD.out, HR.out, List.drop_of_length_le (by simp; omega)]; rfl), rfl⟩
  · obtain rfl : s = ⟨#[]⟩ := by
      obtain ⟨⟨l⟩⟩ := s
      cases l with
      | nil => rfl
      | cons a b => simp [ByteArray.size] at h0
    go_enter Tryz.func29, Tryz.ntmps29
    go_wp2
    go_ret
    exact ⟨rfl, rfl⟩
end Go.Proofs.YtboejbnkkhcccaaGreatDoor
