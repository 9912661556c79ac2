/- Types without variables that are right; rows without variables; where the kids of a tree lie. -/
import Derived.Test.YtpbhndmfmnfeoaaGreatUnGs
import Derived.Test.YtpbhndmfmnfeoaaGreatMg25
import Derived.Test.YtpbhndmfmnfeoaaGreatUnP
import Derived.Test.YtpbhndmfmnfeoaaGreatSiSf
import Derived.Test.YtpbhndmfmnfeoaaGreatMg15
import Derived.Outline
namespace Go.Proofs.YtpbhndmfmnfeoaaGreat.Ug
open Go.RowKit Si Sf

theorem str_trans : ∀ a b c : Str, decide (a ≤ b) = true → decide (b ≤ c) = true → decide (a ≤ c) = true := by
  intro a b c h1 h2
  exact decide_eq_true (List.le_trans (of_decide_eq_true h1) (of_decide_eq_true h2))
theorem str_total : ∀ a b : Str, (decide (a ≤ b) || decide (b ≤ a)) = true := by
  intro a b
  rcases List.le_total a b with h | h <;> simp [h]
theorem sort_pair (ls : List Str) : (Rw.sortS ls).Pairwise (· ≤ ·) := by
  have := List.pairwise_mergeSort str_trans str_total ls
  exact this.imp fun h => of_decide_eq_true h
/-- Rows in order that have as many of each label are one. -/
theorem row_eq {a b : List Str} (ha : Rw.sortS a = a) (hb : Rw.sortS b = b) (h : ∀ s, a.count s = b.count s) : a = b :=
  List.Perm.eq_of_pairwise (fun _ _ _ _ h1 h2 => List.le_antisymm h1 h2) (ha ▸ sort_pair a) (hb ▸ sort_pair b) (List.perm_iff_count.2 h)
mutual
/-- Right, and without variables. -/
def gr : Ty → Prop
  | .mk k nm v kids ls rv => (k ≠ 7 ∧ rv = 0 ∧ Rw.sortS ls = ls ∧ (∀ s ∈ ls, s.length ≤ maxLen) ∧ (k = 5 → nm = [] ∧ v = 0 ∧ kids.length = 2) ∧ (k = 6 → nm = [] ∧ v = 0 ∧ kids.length = 1 ∧ ls = [])) ∧ grL kids
def grL : List Ty → Prop
  | [] => True
  | t :: r => gr t ∧ grL r
end
theorem grL_mem : ∀ {l : List Ty}, grL l → ∀ t ∈ l, gr t
  | _ :: _, h, _, .head _ => h.1
  | _ :: _, h, _, .tail _ hm => grL_mem h.2 _ hm
theorem rows_res {la lb : List Str} (ha : Rw.sortS la = la) (hb : Rw.sortS lb = lb) (nx : Int) : (la = lb → rowsRes la lb 0 0 nx = some (R0, nx)) ∧ (la ≠ lb → rowsRes la lb 0 0 nx = none) := by
  constructor
  · rintro rfl
    unfold rowsRes
    have h1 : moreL la la = [] := (moreL_nil la la).2 fun s => Nat.le_refl _
    rw [if_pos ⟨h1, h1⟩]
    simp [endsF]
  · intro hne
    unfold rowsRes
    rw [if_neg, if_pos (.inr (.inr rfl))]
    rintro ⟨h1, h2⟩
    have h3 := (moreL_nil la lb).1 h1
    have h4 := (moreL_nil lb la).1 h2
    exact hne (row_eq ha hb fun s => Nat.le_antisymm (h3 s) (h4 s))
/-- Where a kid of a tree lies, and what it is. -/
theorem kid_at {s : Nat} {X : World} {k : Int} {nm : Str} {v : Int} {kids : List Ty} {ls : List Str} {rv : Int} {k' : Int} {nm' : Str} {v' : Int} {A : Option Addr} {n c : Nat} {lv : Value} {rv' : Int}
    (h : TFV X (.mk k nm v kids ls rv) (tyC k' nm' v' (.slice A n c) lv rv')) (hb : TFV (blank (fun b => b < s) X) (.mk k nm v kids ls rv) (tyC k' nm' v' (.slice A n c) lv rv')) (i : Nat) (t : Ty) (ht : kids[i]? = some t) :
    ∃ g o, A = some ⟨g, o, none⟩ ∧ n = kids.length ∧ n ≤ c ∧ s ≤ g ∧ ∃ k1 nm1 v1 A1 n1 c1 B1 m1 d1 rv1, TRV X t [.int .i64 k1, .string (ba nm1), .int .i64 v1, .slice A1 n1 c1, .slice B1 m1 d1, .int .i64 rv1] ∧
      ReadsAt X ⟨g, o + i * 6, none⟩ [.int .i64 k1, .string (ba nm1), .int .i64 v1, .slice A1 n1 c1, .slice B1 m1 d1, .int .i64 rv1] := by
  obtain ⟨kv, lv2, e, hsl, _, _, hk⟩ := h
  obtain ⟨kv3, lv3, e3, _, _, _, hk3⟩ := hb
  unfold tyC at e e3
  simp only [List.cons.injEq] at e e3
  obtain ⟨_, _, _, rfl, _⟩ := e
  obtain ⟨_, _, _, rfl, _⟩ := e3
  have hi := (List.getElem?_eq_some_iff.1 ht).1
  obtain ⟨A', c', e4, hc, hA⟩ := hsl.slr.form
  injection e4 with e5 e6 e7
  subst e5 e6 e7
  obtain ⟨g, o, rfl⟩ := hA (by omega)
  obtain ⟨l, _, hr, htv⟩ := (hk i t ht).tr.open
  obtain ⟨l3, _, hy, _⟩ := TBk.open (tb_of (hk3 i t ht))
  obtain ⟨k1, nm1, v1, A1, n1, c1, B1, m1, d1, rv1, rfl⟩ := htv.form
  exact ⟨g, o, rfl, rfl, hc, by have h9 := hy.1; change ¬ g < s at h9; omega, _, _, _, _, _, _, _, _, _, _, htv, hr⟩
theorem kept_blank_s {s : Nat} {w X : World} (h : Kept (fun b => b < s) w X) : Kept (fun b => b < s) w (blank (fun b => b < s) X) :=
  ⟨by rw [blank_size]; exact h.1, fun b hb hn => (blank_at (X := fun b => b < s) (w := X) hn).trans (h.2 b hb hn)⟩
end Go.Proofs.YtpbhndmfmnfeoaaGreat.Ug
