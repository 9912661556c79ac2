/- What calls of package subst answer, where nothing of what is there will be written. -/
import Derived.Test.YtgheaaljnmkclaaSbuT
import Derived.Test.YtgheaaljnmkclaaSbuR
import Derived.Test.YtgheaaljnmkclaaSbq
import Derived.Test.YtgheaaljnmkclaaSbL
import Derived.Test.YtgheaaljnmkclaaSbv
import Derived.Outline
namespace Go.Proofs.Ytgheaaljnmkclaa
open Go.RowKit

def noB : Nat → Prop := fun _ => False
theorem SubV.noB {w : World} {v : Value} {m : Nat} {T : Int → Option Ty} {R : Int → Option (List Str × Int)} (h : SubV w v m T R) : SubV (blank noB w) v m T R :=
  h.keepL fun _ _ => blank_at (fun h => h)
theorem SubV.shape {w : World} {v : Value} {m : Nat} {T : Int → Option Ty} {R : Int → Option (List Str × Int)} (h : SubV w v m T R) : ∃ A1 n1 c1 A2 n2 c2, v = .agg #[.slice A1 n1 c1, .slice A2 n2 c2] := by
  obtain ⟨vt, vr, gt, gr, rfl, h1, h2, _⟩ := h
  obtain ⟨A1, n1, c1, rfl⟩ := h1.one
  obtain ⟨A2, n2, c2, rfl⟩ := h2.one
  exact ⟨_, _, _, _, _, _, rfl⟩
theorem TRV.form {w : World} {t : Ty} {l : List Value} (h : TRV w t l) : ∃ k nm v A3 n3 c3 A4 n4 c4 rv, l = [.int .i64 k, .string (ba nm), .int .i64 v, .slice A3 n3 c3, .slice A4 n4 c4, .int .i64 rv] := by
  obtain ⟨k, nm, v, kids, ls, rv⟩ := t
  obtain ⟨A3, n3, c3, A4, n4, c4, rfl⟩ := h.shape
  exact ⟨_, _, _, _, _, _, _, _, _, _, rfl⟩
theorem RwV.form {w : World} {r : List Str × Int} {l : List Value} (h : RwV w r l) : ∃ A n c rv, l = [.slice A n c, .int .i64 rv] := by
  obtain ⟨lv, rfl, h2, _⟩ := h
  obtain ⟨A, c, rfl, _⟩ := h2.form
  exact ⟨_, _, _, _, rfl⟩
theorem setT0 {w : World} {sv : Value} {m : Nat} {T : Int → Option Ty} {R : Int → Option (List Str × Int)} (hs : SubV w sv m T R) (hm : m ≤ 1000) (n : Int) (hn : i64ok n) (t : Ty) (l : List Value) (ht : TRV w t l) (hsz : t.size ≤ 1000) :
    Calls Try.prog 8 #[sv, .int .i64 n, .agg l.toArray] w fun e w' => ∃ A1 n1 c1 A2 n2 c2, e = .returned (.agg #[.slice A1 n1 c1, .slice A2 n2 c2]) ∧ SubV w' (.agg #[.slice A1 n1 c1, .slice A2 n2 c2]) (m + 1) (setF T n t) R ∧ Below w.heap.size w w' := by
  refine (setType_any noB w sv m T R hs.noB hm n hn t l ht hsz).mono ?_
  rintro e w' ⟨sv', rfl, h1, h2⟩
  have h3 := h1 w' ⟨Nat.le_refl _, fun _ _ _ => rfl⟩
  obtain ⟨A1, n1, c1, A2, n2, c2, rfl⟩ := h3.shape
  exact ⟨_, _, _, _, _, _, rfl, h3, h2⟩
theorem setR0 {w : World} {sv : Value} {m : Nat} {T : Int → Option Ty} {R : Int → Option (List Str × Int)} (hs : SubV w sv m T R) (hm : m ≤ 1000) (n : Int) (hn : i64ok n) (ls : List Str) (rv : Int) (l : List Value) (hr : RwV w (ls, rv) l) :
    Calls Try.prog 9 #[sv, .int .i64 n, .agg l.toArray] w fun e w' => ∃ A1 n1 c1 A2 n2 c2, e = .returned (.agg #[.slice A1 n1 c1, .slice A2 n2 c2]) ∧ SubV w' (.agg #[.slice A1 n1 c1, .slice A2 n2 c2]) (m + 1) T (setF R n (ls, rv)) ∧ Below w.heap.size w w' := by
  refine (setRow_any noB w sv m T R hs.noB hm n hn ls rv l hr).mono ?_
  rintro e w' ⟨sv', rfl, h1, h2⟩
  have h3 := h1 w' ⟨Nat.le_refl _, fun _ _ _ => rfl⟩
  obtain ⟨A1, n1, c1, A2, n2, c2, rfl⟩ := h3.shape
  exact ⟨_, _, _, _, _, _, rfl, h3, h2⟩
theorem typ0 {w : World} {sv : Value} {m : Nat} {T : Int → Option Ty} {R : Int → Option (List Str × Int)} (hs : SubV w sv m T R) (hm : m ≤ 1000000) (n : Int) (hn : i64ok n) (hsz : ∀ t, T n = some t → t.size ≤ 1000) :
    Calls Try.prog 10 #[sv, .int .i64 n] w fun e w' => ∃ k nm v A3 n3 c3 A4 n4 c4 rv, e = .returned (.tuple #[.agg #[.int .i64 k, .string (ba nm), .int .i64 v, .slice A3 n3 c3, .slice A4 n4 c4, .int .i64 rv], .bool (T n).isSome]) ∧
      TRV w' ((T n).getD zTy) [.int .i64 k, .string (ba nm), .int .i64 v, .slice A3 n3 c3, .slice A4 n4 c4, .int .i64 rv] ∧ Below w.heap.size w w' := by
  refine (type_any w sv m T R hs hm n hn hsz).mono ?_
  rintro e w' ⟨l, rfl, h1, h2⟩
  obtain ⟨k, nm, v, A3, n3, c3, A4, n4, c4, rv, rfl⟩ := h1.form
  exact ⟨_, _, _, _, _, _, _, _, _, _, rfl, h1, h2⟩
theorem row0 {w : World} {sv : Value} {m : Nat} {T : Int → Option Ty} {R : Int → Option (List Str × Int)} (hs : SubV w sv m T R) (hm : m ≤ 1000000) (n : Int) (hn : i64ok n) :
    Calls Try.prog 11 #[sv, .int .i64 n] w fun e w' => ∃ A1 n1 c1 rv, e = .returned (.tuple #[.agg #[.slice A1 n1 c1, .int .i64 rv], .bool (R n).isSome]) ∧ RwV w' ((R n).getD zRw) [.slice A1 n1 c1, .int .i64 rv] ∧ Below w.heap.size w w' := by
  refine (row_any w sv m T R hs hm n hn).mono ?_
  rintro e w' ⟨l, rfl, h1, h2⟩
  obtain ⟨A1, n1, c1, rv, rfl⟩ := h1.form
  exact ⟨_, _, _, _, rfl, h1, h2⟩
theorem app0 {w : World} {sv : Value} {m : Nat} {T : Int → Option Ty} {R : Int → Option (List Str × Int)} (hs : SubV w sv m T R) (hm : m ≤ 1000000) (t : Ty) (l : List Value) (ht : TRV w t l) (hrf : rowsFree R T t) (hp : pcsT T t ≤ 1000) :
    Calls Try.prog 16 #[sv, .agg l.toArray] w fun e w' => ∃ k nm v A3 n3 c3 A4 n4 c4 rv, e = .returned (.agg #[.int .i64 k, .string (ba nm), .int .i64 v, .slice A3 n3 c3, .slice A4 n4 c4, .int .i64 rv]) ∧
      TRV w' (apT T t) [.int .i64 k, .string (ba nm), .int .i64 v, .slice A3 n3 c3, .slice A4 n4 c4, .int .i64 rv] ∧ Below w.heap.size w w' := by
  refine (apply_any w sv m T R hs hm t l ht hrf hp).mono ?_
  rintro e w' ⟨l, rfl, h1, h2⟩
  have h3 := (h1 w' ⟨Nat.le_refl _, fun _ _ _ => rfl⟩).trv
  obtain ⟨k, nm, v, A3, n3, c3, A4, n4, c4, rv, rfl⟩ := h3.form
  exact ⟨_, _, _, _, _, _, _, _, _, _, rfl, h3, h2⟩
theorem zTy_trv (w : World) : TRV w zTy [.int .i64 0, .string (ba []), .int .i64 0, .slice none 0 0, .slice none 0 0, .int .i64 0] :=
  ⟨_, _, rfl, .inl ⟨rfl, rfl⟩, ⟨.inl ⟨rfl, rfl⟩, Nat.zero_le _⟩, ⟨i64ok_of (by omega) (by omega), i64ok_of (by omega) (by omega), i64ok_of (by omega) (by omega)⟩, fun i t h => by simp at h⟩
end Go.Proofs.Ytgheaaljnmkclaa
