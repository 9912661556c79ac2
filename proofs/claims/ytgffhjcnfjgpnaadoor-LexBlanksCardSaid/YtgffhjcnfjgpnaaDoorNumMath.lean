/- Digits as a number: what ParseInt says of them (plain facts on lists). -/
import Derived.Test.YtgffhjcnfjgpnaaDoorSpec
import Derived.Lib.ParseIntB
namespace Go.Proofs.YtgffhjcnfjgpnaaDoor

def digB (c : UInt8) : Prop := 48 ≤ c.toNat ∧ c.toNat ≤ 57
theorem inB_digs (c : UInt8) : Lx.inB Lx.digs c = true ↔ digB c := by
  simp [Lx.inB, Lx.digs, digB]
def accN (a : Nat) (l : List UInt8) : Nat := l.foldl (fun a c => a * 10 + (c.toNat - 48)) a
theorem accN_ge (l : List UInt8) : ∀ a, a ≤ accN a l := by
  induction l with
  | nil => intro a; exact Nat.le_refl _
  | cons c r ih => intro a; exact Nat.le_trans (by omega) (ih (a * 10 + (c.toNat - 48)))
theorem parseUintM_digits (l : List UInt8) (hl : ∀ c ∈ l, digB c) : ∀ a, a ≤ 18446744073709551615 →
    Lib.parseUintM 18446744073709551615 a l = if accN a l ≤ 18446744073709551615 then .ok (accN a l) else .range := by
  induction l with
  | nil => intro a ha; simp [Lib.parseUintM, accN, ha]
  | cons c r ih =>
    intro a ha
    have hc := hl c (by simp)
    have hg := accN_ge r (a * 10 + (c.toNat - 48))
    have e : accN a (c :: r) = accN (a * 10 + (c.toNat - 48)) r := rfl
    rw [Lib.parseUintM, if_pos (show 48 ≤ c.toNat ∧ c.toNat ≤ 57 from hc), e]
    by_cases h1 : 1844674407370955162 ≤ a
    · rw [if_pos h1, if_neg (by omega)]
    · rw [if_neg h1]
      by_cases h2 : 18446744073709551615 < a * 10 + (c.toNat - 48)
      · rw [if_pos h2, if_neg (by omega)]
      · rw [if_neg h2, ih (fun c hc => hl c (by simp [hc])) _ (by omega)]
theorem parse_ok (l : List UInt8) (hn : l ≠ []) (hl : ∀ c ∈ l, digB c) (hv : Lx.valN l < 9223372036854775808) : Lib.parseIntB 64 l = .ok (Lx.valN l : Int) := by
  match l, hn with
  | c :: r, _ =>
    have hc := hl c (by simp)
    unfold digB at hc
    have ha : accN 0 (c :: r) = Lx.valN (c :: r) := rfl
    have hp := parseUintM_digits (c :: r) hl 0 (by omega)
    rw [ha, if_pos (by omega)] at hp
    have h1 : ¬ (c.toNat = 43 ∨ c.toNat = 45) := by omega
    have h2 : ¬ c.toNat = 45 := by omega
    have hu : Lib.parseUintB 64 (if c.toNat = 43 ∨ c.toNat = 45 then r else c :: r) = .ok (Lx.valN (c :: r)) := by
      rw [if_neg h1, Lib.parseUintB, if_neg (by simp)]; exact hp
    simp only [Lib.parseIntB]
    rw [hu]
    simp only [h2]
    rw [if_neg (by simp; omega), if_neg (by simp)]
    simp
theorem parse_range (l : List UInt8) (hn : l ≠ []) (hl : ∀ c ∈ l, digB c) (hv : ¬ Lx.valN l < 9223372036854775808) : Lib.parseIntB 64 l = .range := by
  match l, hn with
  | c :: r, _ =>
    have hc := hl c (by simp)
    unfold digB at hc
    have ha : accN 0 (c :: r) = Lx.valN (c :: r) := rfl
    have hp := parseUintM_digits (c :: r) hl 0 (by omega)
    rw [ha] at hp
    have h1 : ¬ (c.toNat = 43 ∨ c.toNat = 45) := by omega
    have h2 : ¬ c.toNat = 45 := by omega
    by_cases h3 : Lx.valN (c :: r) ≤ 18446744073709551615
    · have hu : Lib.parseUintB 64 (if c.toNat = 43 ∨ c.toNat = 45 then r else c :: r) = .ok (Lx.valN (c :: r)) := by
        rw [if_neg h1, Lib.parseUintB, if_neg (by simp)]; rw [if_pos h3] at hp; exact hp
      simp only [Lib.parseIntB]
      rw [hu]
      simp only [h2]
      rw [if_pos (by simp; omega)]
    · have hu : Lib.parseUintB 64 (if c.toNat = 43 ∨ c.toNat = 45 then r else c :: r) = .range := by
        rw [if_neg h1, Lib.parseUintB, if_neg (by simp)]; rw [if_neg h3] at hp; exact hp
      simp only [Lib.parseIntB]
      rw [hu]
end Go.Proofs.YtgffhjcnfjgpnaaDoor
