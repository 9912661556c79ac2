/- A function from a variable to it. -/
import Derived.Test.YtgheaaljnmkclaaSbSh
namespace Go.Proofs.Ytgheaaljnmkclaa
open Go.RowKit

def tv9 : Ty := .mk 7 [] 9 [] [] 0
def tfun9 : Ty := .mk 5 [] 0 [tv9, tv9] [] 0
def tfunU (u : Ty) : Ty := .mk 5 [] 0 [u, u] [] 0
theorem ap_fun9 (T : Int → Option Ty) (u : Ty) : apT (setF T 9 u) tfun9 = tfunU u := by simp [tfun9, tv9, tfunU, apT, apTL, insT, setF]
theorem pcs_fun9 (T : Int → Option Ty) (u : Ty) (h : u.size ≤ 100) : pcsT (setF T 9 u) tfun9 ≤ 1000 := by
  simp [tfun9, tv9, pcsT, pcsTL, insT, setF]
  omega
theorem rf_fun9 (T : Int → Option Ty) (R : Int → Option (List Str × Int)) (u : Ty) : rowsFree R (setF T 9 u) tfun9 := by
  simp [tfun9, tv9, rowsFree, rowsFreeL, insT, setF]
theorem fun9_trv {V : World} {g : Nat} (h : Lies V g 28 #[.int .i64 7, .string (ba []), .int .i64 9, .slice none 0 0, .slice none 0 0, .int .i64 0, .int .i64 7, .string (ba []), .int .i64 9, .slice none 0 0, .slice none 0 0, .int .i64 0]) :
    TRV V tfun9 [.int .i64 5, .string (ba []), .int .i64 0, .slice (some ⟨g, 0, none⟩) 2 2, .slice none 0 0, .int .i64 0] := by
  refine ⟨_, _, rfl, .inr ⟨_, 2, rfl, by simp, fun _ => rfl⟩, ⟨.inl ⟨rfl, rfl⟩, Nat.zero_le _⟩, ⟨i64ok_of (by omega) (by omega), i64ok_of (by omega) (by omega), i64ok_of (by omega) (by omega)⟩, fun i t hi => ?_⟩
  have h9 := leaf_trv V 7 9 (i64ok_of (by omega) (by omega)) (i64ok_of (by omega) (by omega))
  match i, hi with
  | 0, hi =>
    simp at hi
    subst hi
    refine h9.at_ rfl (fun j u hu => ?_)
    show V.cell? ⟨g, 0 + 0 * 6 + j, none⟩ = some u
    rw [show 0 + 0 * 6 + j = j by omega, h.cell j]
    have hj := (List.getElem?_eq_some_iff.1 hu).1
    simp at hj
    match j, hj, hu with
    | 0, _, hu | 1, _, hu | 2, _, hu | 3, _, hu | 4, _, hu | 5, _, hu => simpa using hu
  | 1, hi =>
    simp at hi
    subst hi
    refine h9.at_ rfl (fun j u hu => ?_)
    show V.cell? ⟨g, 0 + 1 * 6 + j, none⟩ = some u
    rw [show 0 + 1 * 6 + j = 6 + j by omega, h.cell (6 + j)]
    have hj := (List.getElem?_eq_some_iff.1 hu).1
    simp at hj
    match j, hj, hu with
    | 0, _, hu | 1, _, hu | 2, _, hu | 3, _, hu | 4, _, hu | 5, _, hu => simpa using hu
  | i + 2, hi => simp at hi
/-- Its two sides. -/
theorem funU_open {V : World} {u : Ty} {l : List Value} (h : TRV V (tfunU u) l) : ∃ g o c B m d, l = [.int .i64 5, .string (ba []), .int .i64 0, .slice (some ⟨g, o, none⟩) 2 c, .slice B m d, .int .i64 0] ∧ 2 ≤ c ∧ ∃ x y, TRV V u x ∧ TRV V u y ∧ ReadsAt V ⟨g, o, none⟩ x ∧ ReadsAt V ⟨g, o + 6, none⟩ y := by
  obtain ⟨kv, lv, rfl, hsl, hst, _, hks⟩ := h
  obtain ⟨B, c4, rfl, _, _⟩ := hst.form
  rcases hsl with ⟨_, h0⟩ | ⟨ad, c, rfl, hc, hsp⟩
  · simp at h0
  obtain ⟨g, o, sp⟩ := ad
  have := hsp (by simp)
  simp only at this
  subst this
  obtain ⟨x, _, hx, hxt⟩ := (hks 0 u rfl).open
  obtain ⟨y, _, hy, hyt⟩ := (hks 1 u rfl).open
  refine ⟨g, o, c, B, _, c4, rfl, by simpa using hc, x, y, hxt, hyt, ?_, ?_⟩
  · simpa [kidAt] using hx
  · simpa [kidAt] using hy
end Go.Proofs.Ytgheaaljnmkclaa
