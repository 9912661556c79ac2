/- The contract of digits: a number as text. -/
import Derived.Test.YtboejbnkkhcccaaGreatDoorSha
import Derived.Test.YtboejbnkkhcccaaGreatDoorGoNest
import Derived.Test.YtboejbnkkhcccaaGreatDoorGdText
import Derived.Lib.AtoiErrMem
import Derived.Outline
namespace Go.Proofs.YtboejbnkkhcccaaGreatDoor
open Go.RowKit

theorem dgF_len : ∀ (f n : Nat), (dgF f n).length ≤ f
  | 0, _ => Nat.le_refl _
  | f + 1, n => by
    have := dgF_len f (n / 10)
    unfold dgF
    rw [List.length_append, List.length_singleton]
    split
    · omega
    · simp
theorem conv_sb (s : ByteArray) (w : World) : (convert 9 22 (.string s)).run Tryz.prog w = .ok (.slice (some ⟨w.heap.size, 0, none⟩) s.size (grownCap w s.size 0 5)) (Lib.bytesWorld w 5 s) :=
  Lib.run_convert_string_bytes w 9 22 5 s Tryz.underlying9 Tryz.underlying22 Tryz.underlying5
theorem Bs.bytes (w : World) (l : List UInt8) (n : Nat) (hn : n = (ba l).size) : Bs (Lib.bytesWorld w 5 (ba l)) (.slice (some ⟨w.heap.size, 0, none⟩) n (grownCap w n 0 5)) l := by
  subst hn
  have hs := ba_size l
  refine ⟨_, _, by rw [hs], by have h1 := grownCap_ge w (ba l).size 0 5; have h2 := grownCap_ge w l.length 0 5; omega, fun _ => ⟨_, rfl, fun j hj => ?_⟩⟩
  have e : (⟨w.heap.size, 0, none⟩ : Addr).add j = ⟨w.heap.size, j, none⟩ := by unfold Addr.add; split <;> simp_all
  rw [e, Lib.bytesWorld_cell w 5 (ba l) j (by omega), ba_list]
  simp [List.getD, List.getElem?_eq_getElem hj]
theorem ba_app2 (a b : List UInt8) : ba a ++ ba b = ba (a ++ b) := by
  apply ByteArray.ext
  apply Array.toList_inj.1
  simp [ba]

set_option maxRecDepth 100000 in
set_option maxHeartbeats 2000000 in
theorem digits_any : ∀ (f n : Nat), n < 10 ^ f → f ≤ 15 → 0 < f → ∀ w, Calls Tryz.prog 17 #[.int .i64 (n : Int)] w fun e w' => e = .returned (.string (ba (dgF f n))) ∧ Below w.heap.size w w' := by
  intro f
  induction f with
  | zero => intro n _ _ h; omega
  | succ f ih =>
    intro n hn hf _ w
    have hn2 : n < 10 ^ 15 := Nat.lt_of_lt_of_le hn (Nat.pow_le_pow_right (by decide) hf)
    have hn3 : n < 1000000000000000 := by simpa using hn2
    have hn4 : 10 ≤ n → n / 10 < 10 ^ f := fun _ => by rw [Nat.pow_succ] at hn; omega
    have HN4 := Lib.hid hn4
    clear hn4
    have hm : (n : Int).tmod 10 = ((n % 10 : Nat) : Int) := rfl
    have hd : (n : Int).tdiv 10 = ((n / 10 : Nat) : Int) := rfl
    have hr : n % 10 < 10 := Nat.mod_lt _ (by decide)
    generalize hq : n % 10 = r at hm hr
    go_enter Tryz.func17, Tryz.ntmps17
    have hu : (UInt8.ofNat (48 + r)).toNat = 48 + r := by simp; omega
    have hcv := conv_bs (Bs.lit w [UInt8.ofNat (48 + r)] #[.int .u8 (48 + (r : Int))] (0, 0) (N := w.heap.size) (n := 1) rfl rfl (by simp only [List.map_cons, List.map_nil, hu]; rfl))
    have hb := below_new w (.cells #[.int .u8 (48 + (r : Int))] 5)
    have hs1 := ba_size [UInt8.ofNat (48 + r)]
    rw [List.length_singleton] at hs1
    have hdf : dgF (f + 1) n = (if 10 ≤ n then dgF f (n / 10) else []) ++ [UInt8.ofNat (48 + r)] := by rw [← hq]; rfl
    have HDF := Lib.hid hdf
    clear hdf hu hn hn2
    generalize hX : [UInt8.ofNat (48 + r)] = X at *
    clear hX
    by_cases h10 : 10 ≤ n
    · have hf0 : 0 < f := by
        rcases Nat.eq_zero_or_pos f with rfl | h
        · have h1 := HN4.out h10
          rw [Nat.pow_zero] at h1
          omega
        · exact h
      have hl := dgF_len f (n / 10)
      have hls := ba_size (dgF f (n / 10))
      have hih := ih (n / 10) (HN4.out h10) (by omega) hf0 (w.alloc (.cells #[.int .u8 (48 + (r : Int))] 5))
      have HIH := Lib.hid hih
      clear hih ih
      go_wp2_with fail
      refine HIH.out.mono ?_
      rintro e w2 ⟨rfl, hb2⟩
      go_wp2_with fail
      go_ret
      exact ⟨by rw [HDF.out, if_pos h10]; rfl, hb.trans (hb2.mono hb.size)⟩
    · go_wp2_with fail
      go_ret
      exact ⟨by rw [HDF.out, if_neg h10]; rfl, hb⟩
end Go.Proofs.YtboejbnkkhcccaaGreatDoor
