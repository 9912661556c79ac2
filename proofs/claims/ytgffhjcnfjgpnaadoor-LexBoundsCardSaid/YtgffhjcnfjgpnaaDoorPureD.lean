/- Plain facts on numbers in digits, and on long names. -/
import Derived.Test.YtgffhjcnfjgpnaaDoorPureC
namespace Go.Proofs.YtgffhjcnfjgpnaaDoor

theorem accN_add (D : List UInt8) : ∀ a, accN a D = a * 10 ^ D.length + accN 0 D := by
  induction D with
  | nil => intro a; simp [accN]
  | cons c r ih =>
    intro a
    have e1 : accN a (c :: r) = accN (a * 10 + (c.toNat - 48)) r := rfl
    have e2 : accN 0 (c :: r) = accN (0 * 10 + (c.toNat - 48)) r := rfl
    rw [e1, e2, ih (a * 10 + (c.toNat - 48)), ih (0 * 10 + (c.toNat - 48)), List.length_cons, Nat.pow_succ, Nat.zero_mul, Nat.zero_add, Nat.add_mul, Nat.mul_assoc, Nat.mul_comm 10 (10 ^ r.length), Nat.add_assoc]
theorem valN_cons (c : UInt8) (D : List UInt8) : Lx.valN (c :: D) = (c.toNat - 48) * 10 ^ D.length + Lx.valN D := by
  have e : Lx.valN (c :: D) = accN (0 * 10 + (c.toNat - 48)) D := rfl
  rw [e, accN_add, Nat.zero_mul, Nat.zero_add]
  rfl
theorem ten_bound {n V X : Nat} (hX : 0 < X) (h : X * 10 ^ n ≤ V) (hV : V < 9223372036854775808) : n ≤ 18 := by
  rcases Nat.lt_or_ge 18 n with hn | hn
  · have h1 : 10 ^ 19 ≤ 10 ^ n := Nat.pow_le_pow_right (by decide) hn
    have h2 : 10 ^ n ≤ X * 10 ^ n := Nat.le_mul_of_pos_left _ hX
    have h3 : (10 : Nat) ^ 19 = 10000000000000000000 := by decide
    omega
  · exact hn
theorem span_full (p : UInt8 → Bool) (l : List UInt8) (h : ∀ c ∈ l, p c = true) : Lx.spanN p l = l.length := by
  induction l with
  | nil => rfl
  | cons c r ih => rw [Lx.spanN, if_pos (h c (by simp)), ih (fun d hd => h d (by simp [hd])), List.length_cons]
theorem lexR_one {l : List UInt8} {x : Lx.Tk} (hl : l.length ≤ 1000) (h : firstF l = some (x, l.length)) : lexR l = ([atPos x 0], 0, 0) := by
  obtain ⟨c, u, e, hs⟩ := first_head h
  have hk : sk l = 0 := by rw [e]; exact sk_head u hs
  have k := Lexes.word 0 l x l.length [] none (by rw [hk]; exact h) (.done _ _ (by rw [hk]; simp [sk, Lx.skipN]))
  rw [hk] at k
  exact lexR_ok (by omega) k
theorem lexR_zero {l : List UInt8} {c : UInt8} {u : List UInt8} (e : l = c :: u) (hs : sepB c = false) (hl : l.length ≤ 1000) (h : firstF l = none) : lexR l = ([], 0, 2) := by
  have hk : sk l = 0 := by rw [e]; exact sk_head u hs
  have k := Lexes.err 0 l (by rw [hk, e]; simp) (by rw [hk]; exact h)
  rw [hk] at k
  exact lexR_err (by omega) k
theorem lex_digits (D : List UInt8) (h : ∀ c ∈ D, digB c) (hne : D ≠ []) (hv : Lx.valN D < 9223372036854775808) (hl : D.length ≤ 1000) : lexR D = ([⟨1, D, Lx.valN D, 0⟩], 0, 0) := by
  have hd : digN D = D.length := span_full _ D fun c hc => (inB_digs c).2 (h c hc)
  have hb : begF 0 D = true := by
    cases D with
    | nil => exact absurd rfl hne
    | cons c r => exact (inB_digs c).2 (h c (by simp))
  have hf : firstF D = some (⟨1, D, Lx.valN D, 0⟩, D.length) := by
    rw [firstF_hit D 0 (by decide) (fun j hj => absurd hj (by omega)) hb]
    simp only [readF, Lx.numF, hd, List.take_length]
    rw [if_pos hv]
  exact lexR_one hl hf
def headC (great : Bool) : UInt8 := if great then 65 else 97
def nameL (great : Bool) (k : Nat) : List UInt8 := headC great :: List.replicate k 120
theorem lex_name (great : Bool) (k : Nat) (hk : k ≤ 200) : lexR (nameL great k) = if k < 60 then ([⟨if great then 3 else 2, nameL great k, 0, 0⟩], 0, 0) else ([], 0, 2) := by
  have hlen : (nameL great k).length = k + 1 := by simp [nameL]
  have hi : insN (nameL great k) = k + 1 := by
    rw [← hlen]
    refine span_full _ _ fun c hc => ?_
    simp only [nameL, List.mem_cons, List.mem_replicate] at hc
    rcases hc with rfl | ⟨_, rfl⟩
    · cases great <;> decide
    · decide
  have h0 : begF 0 (nameL great k) = false := by cases great <;> rfl
  have h1 : begF 1 (nameL great k) = true := by cases great <;> rfl
  have hno : ∀ j, j < 1 → begF j (nameL great k) = false := fun j hj => by
    obtain rfl : j = 0 := by omega
    exact h0
  have hf := firstF_hit (nameL great k) 1 (by decide) hno h1
  simp only [readF, hi, Lx.nameF] at hf
  have ht : (nameL great k).take (k + 1) = nameL great k := List.take_of_length_le (by omega)
  have hdr : (nameL great k).drop (k + 1) = [] := List.drop_of_length_le (by omega)
  rw [ht, hdr] at hf
  by_cases h60 : k < 60
  · rw [if_pos h60]
    rw [if_neg (by omega)] at hf
    cases great with
    | true =>
      have hc : Lx.capB (nameL true k) = true := by rfl
      rw [if_pos hc] at hf
      rw [← hlen] at hf
      exact lexR_one (by omega) hf
    | false =>
      have hc : Lx.capB (nameL false k) = false := by rfl
      have hkw : Lx.kwB (nameL false k) = false := by simp [Lx.kwB, nameL, headC]
      rw [hc, hkw] at hf
      rw [← hlen] at hf
      exact lexR_one (by omega) hf
  · rw [if_neg h60]
    rw [if_pos (by omega)] at hf
    exact lexR_zero rfl (by cases great <;> decide) (by omega) hf
theorem lex_great : lexR [57, 50, 50, 51, 51, 55, 50, 48, 51, 54, 56, 53, 52, 55, 55, 53, 56, 48, 56] = ([], 0, 2) := by kernel_rfl
end Go.Proofs.YtgffhjcnfjgpnaaDoor
