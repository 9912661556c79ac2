/- What calls of package subst answer, where nothing of what is there will be written. -/
import Derived.Test.YthdfomcpoofkaaaMg13
import Derived.Test.YthdfomcpoofkaaaMg14
import Derived.Test.YthdfomcpoofkaaaMg12
import Derived.Test.YthdfomcpoofkaaaMg16
import Derived.Test.YthdfomcpoofkaaaScH
import Derived.Test.YthdfomcpoofkaaaMg18
import Derived.Test.YthdfomcpoofkaaaSiM
import Derived.Test.YthdfomcpoofkaaaMg05
import Derived.Test.YthdfomcpoofkaaaMg15
import Derived.Outline
namespace Go.Proofs.Ythdfomcpoofkaaa
open Go.RowKit

def noB : Nat → Prop := fun _ => False
theorem SubV.noB {w : World} {v : Value} {m : Nat} {T : Int → Option Ty} {R : Int → Option (List Str × Int)} (h : SubV w v m T R) : SubV (blank noB w) v m T R :=
  h.keepL fun _ _ => blank_at (fun h => h)
theorem SubV.shape {w : World} {v : Value} {m : Nat} {T : Int → Option Ty} {R : Int → Option (List Str × Int)} (h : SubV w v m T R) : ∃ A1 n1 c1 A2 n2 c2, v = .agg #[.slice A1 n1 c1, .slice A2 n2 c2] := by
  obtain ⟨vt, vr, gt, gr, rfl, h1, h2, _⟩ := h
  obtain ⟨A1, n1, c1, rfl⟩ := h1.one
  obtain ⟨A2, n2, c2, rfl⟩ := h2.one
  exact ⟨_, _, _, _, _, _, rfl⟩
theorem TRV.form {w : World} {t : Ty} {l : List Value} (h : TRV w t l) : ∃ k nm v A3 n3 c3 A4 n4 c4 rv, l = [.int .i64 k, .string (ba nm), .int .i64 v, .slice A3 n3 c3, .slice A4 n4 c4, .int .i64 rv] := by
  obtain ⟨k, nm, v, kids, ls, rv⟩ := t
  obtain ⟨A3, n3, c3, A4, n4, c4, rfl⟩ := h.shape
  exact ⟨_, _, _, _, _, _, _, _, _, _, rfl⟩
theorem RwV.form {w : World} {r : List Str × Int} {l : List Value} (h : RwV w r l) : ∃ A n c rv, l = [.slice A n c, .int .i64 rv] := by
  obtain ⟨lv, rfl, h2, _⟩ := h
  obtain ⟨A, c, rfl, _⟩ := h2.form
  exact ⟨_, _, _, _, rfl⟩
theorem setT0 {w : World} {sv : Value} {m : Nat} {T : Int → Option Ty} {R : Int → Option (List Str × Int)} (hs : SubV w sv m T R) (hm : m ≤ 1000) (n : Int) (hn : i64ok n) (t : Ty) (l : List Value) (ht : TRV w t l) (hsz : t.size ≤ 1000) :
    Calls Try.prog 11 #[sv, .int .i64 n, .agg l.toArray] w fun e w' => ∃ A1 n1 c1 A2 n2 c2, e = .returned (.agg #[.slice A1 n1 c1, .slice A2 n2 c2]) ∧ SubV w' (.agg #[.slice A1 n1 c1, .slice A2 n2 c2]) (m + 1) (setF T n t) R ∧ Below w.heap.size w w' := by
  refine (setType_any noB w sv m T R hs.noB hm n hn t l ht hsz).mono ?_
  rintro e w' ⟨sv', rfl, h1, h2⟩
  have h3 := h1 w' ⟨Nat.le_refl _, fun _ _ _ => rfl⟩
  obtain ⟨A1, n1, c1, A2, n2, c2, rfl⟩ := h3.shape
  exact ⟨_, _, _, _, _, _, rfl, h3, h2⟩
theorem setR0 {w : World} {sv : Value} {m : Nat} {T : Int → Option Ty} {R : Int → Option (List Str × Int)} (hs : SubV w sv m T R) (hm : m ≤ 1000) (n : Int) (hn : i64ok n) (ls : List Str) (rv : Int) (l : List Value) (hr : RwV w (ls, rv) l) :
    Calls Try.prog 12 #[sv, .int .i64 n, .agg l.toArray] w fun e w' => ∃ A1 n1 c1 A2 n2 c2, e = .returned (.agg #[.slice A1 n1 c1, .slice A2 n2 c2]) ∧ SubV w' (.agg #[.slice A1 n1 c1, .slice A2 n2 c2]) (m + 1) T (setF R n (ls, rv)) ∧ Below w.heap.size w w' := by
  refine (setRow_any noB w sv m T R hs.noB hm n hn ls rv l hr).mono ?_
  rintro e w' ⟨sv', rfl, h1, h2⟩
  have h3 := h1 w' ⟨Nat.le_refl _, fun _ _ _ => rfl⟩
  obtain ⟨A1, n1, c1, A2, n2, c2, rfl⟩ := h3.shape
  exact ⟨_, _, _, _, _, _, rfl, h3, h2⟩
theorem typ0 {w : World} {sv : Value} {m : Nat} {T : Int → Option Ty} {R : Int → Option (List Str × Int)} (hs : SubV w sv m T R) (hm : m ≤ 1000000) (n : Int) (hn : i64ok n) (hsz : ∀ t, T n = some t → t.size ≤ 1000) :
    Calls Try.prog 13 #[sv, .int .i64 n] w fun e w' => ∃ k nm v A3 n3 c3 A4 n4 c4 rv, e = .returned (.tuple #[.agg #[.int .i64 k, .string (ba nm), .int .i64 v, .slice A3 n3 c3, .slice A4 n4 c4, .int .i64 rv], .bool (T n).isSome]) ∧
      TRV w' ((T n).getD zTy) [.int .i64 k, .string (ba nm), .int .i64 v, .slice A3 n3 c3, .slice A4 n4 c4, .int .i64 rv] ∧ Below w.heap.size w w' := by
  refine (type_any w sv m T R hs hm n hn hsz).mono ?_
  rintro e w' ⟨l, rfl, h1, h2⟩
  obtain ⟨k, nm, v, A3, n3, c3, A4, n4, c4, rv, rfl⟩ := h1.form
  exact ⟨_, _, _, _, _, _, _, _, _, _, rfl, h1, h2⟩
theorem row0 {w : World} {sv : Value} {m : Nat} {T : Int → Option Ty} {R : Int → Option (List Str × Int)} (hs : SubV w sv m T R) (hm : m ≤ 1000000) (n : Int) (hn : i64ok n) :
    Calls Try.prog 14 #[sv, .int .i64 n] w fun e w' => ∃ A1 n1 c1 rv, e = .returned (.tuple #[.agg #[.slice A1 n1 c1, .int .i64 rv], .bool (R n).isSome]) ∧ RwV w' ((R n).getD zRw) [.slice A1 n1 c1, .int .i64 rv] ∧ Below w.heap.size w w' := by
  refine (row_any w sv m T R hs hm n hn).mono ?_
  rintro e w' ⟨l, rfl, h1, h2⟩
  obtain ⟨A1, n1, c1, rv, rfl⟩ := h1.form
  exact ⟨_, _, _, _, rfl, h1, h2⟩
theorem app0 {w : World} {sv : Value} {m : Nat} {T : Int → Option Ty} {R : Int → Option (List Str × Int)} (hs : SubV w sv m T R) (hm : m ≤ 1000000) (t : Ty) (l : List Value) (ht : TRV w t l) (hrf : rowsFree R T t) (hp : pcsT T t ≤ 1000) :
    Calls Try.prog 19 #[sv, .agg l.toArray] w fun e w' => ∃ k nm v A3 n3 c3 A4 n4 c4 rv, e = .returned (.agg #[.int .i64 k, .string (ba nm), .int .i64 v, .slice A3 n3 c3, .slice A4 n4 c4, .int .i64 rv]) ∧
      TRV w' (apT T t) [.int .i64 k, .string (ba nm), .int .i64 v, .slice A3 n3 c3, .slice A4 n4 c4, .int .i64 rv] ∧ Below w.heap.size w w' := by
  refine (apply_any w sv m T R hs hm t l ht hrf hp).mono ?_
  rintro e w' ⟨l, rfl, h1, h2⟩
  have h3 := (h1 w' ⟨Nat.le_refl _, fun _ _ _ => rfl⟩).trv
  obtain ⟨k, nm, v, A3, n3, c3, A4, n4, c4, rv, rfl⟩ := h3.form
  exact ⟨_, _, _, _, _, _, _, _, _, _, rfl, h3, h2⟩
theorem zTy_trv (w : World) : TRV w zTy [.int .i64 0, .string (ba []), .int .i64 0, .slice none 0 0, .slice none 0 0, .int .i64 0] :=
  ⟨_, _, rfl, .inl ⟨rfl, rfl⟩, ⟨.inl ⟨rfl, rfl⟩, Nat.zero_le _⟩, ⟨i64ok_of (by omega) (by omega), i64ok_of (by omega) (by omega), i64ok_of (by omega) (by omega)⟩, fun i t h => by simp at h⟩
end Go.Proofs.Ythdfomcpoofkaaa

/- The law's own makers of types. -/
namespace Go.Proofs.Ythdfomcpoofkaaa
open Go.RowKit

def tvT8 (n : Int) : Ty := .mk 7 [] n [] [] 0
def intT8 : Ty := .mk 1 [] 0 [] [] 0
def fnT8 (a b : Ty) : Ty := .mk 5 [] 0 [a, b] [] 0
theorem i64s (n : Int) (h : -9223372036854775808 ≤ n) (h2 : n ≤ 9223372036854775807) : i64ok n := i64ok_of h h2
theorem leaf_tfv (w : World) (k n : Int) (hk : i64ok k) (hn : i64ok n) : TFV w (.mk k [] n [] [] 0) [.int .i64 k, .string ⟨#[]⟩, .int .i64 n, .slice none 0 0, .slice none 0 0, .int .i64 0] :=
  ⟨.slice none 0 0, .slice none 0 0, rfl, .inl ⟨rfl, rfl⟩, ⟨.inl ⟨rfl, rfl⟩, by simp⟩, ⟨hk, hn, i64s 0 (by omega) (by omega)⟩, fun i t h => by simp at h⟩
theorem TFV.atF {w : World} {t : Ty} {l : List Value} (h : TFV w t l) {a : Addr} (h0 : a.spot = none) (hat : AtCells w a) (hr : ReadsAt w a l) : TF w a t := by
  obtain ⟨k, nm, v, kids, ls, rv⟩ := t
  obtain ⟨kv, lv, rfl, h1, h2, h3, h4⟩ := h
  exact .mk a k nm v kids ls rv kv lv h0 hat hr h1 h2 h3 h4
set_option maxRecDepth 100000 in
theorem tvar8_any (w : World) (n : Int) : Calls Try.prog 43 #[.int .i64 n] w fun e w' => e = .returned (.agg #[.int .i64 7, .string ⟨#[]⟩, .int .i64 n, .slice none 0 0, .slice none 0 0, .int .i64 0]) ∧ Below w.heap.size w w' := by
  go_enter Try.func43, Try.ntmps43
  go_wp2
  refine bodyPost_ret (results_cell_row rfl _ _ w.heap.size 28 _ (0, 0) _ rfl (Lies.new w 28 #[.int .i64 7, .string ⟨#[]⟩, .int .i64 n, .slice none 0 0, .slice none 0 0, .int .i64 0]) Try.underlying28 rfl (by kernel_rfl)) rfl ?_
  exact ⟨rfl, below_new w _⟩
set_option maxRecDepth 100000 in
set_option maxHeartbeats 8000000 in
theorem fun8_any (w : World) (ta tb : Ty) (la lb : List Value) (ha : TFV w ta la) (hb : TFV w tb lb) :
    Calls Try.prog 44 #[.agg la.toArray, .agg lb.toArray] w fun e w' => ∃ l g, l = [.int .i64 5, .string ⟨#[]⟩, .int .i64 0, .slice (some ⟨g, 0, none⟩) 2 2, .slice none 0 0, .int .i64 0] ∧ e = .returned (.agg l.toArray) ∧ TFV w' (fnT8 ta tb) l ∧ Below w.heap.size w w' := by
  have ha0 := ha
  have hb0 := hb
  obtain ⟨k1, nm1, v1, k1s, l1s, r1⟩ := ta
  obtain ⟨k2, nm2, v2, k2s, l2s, r2⟩ := tb
  obtain ⟨A1, n1, c1, B1, m1, d1, rfl⟩ := ha.trv.shape
  obtain ⟨A2, n2, c2, B2, m2, d2, rfl⟩ := hb.trv.shape
  have HA := Lib.hid ha0
  have HB := Lib.hid hb0
  unfold tyC
  clear ha hb ha0 hb0
  go_enter Try.func44, Try.ntmps44
  go_wp2_with fail
  obtain ⟨Y, hY⟩ : ∃ Y, Y = (((w.alloc (.cells #[.int .i64 k1, .string (ba nm1), .int .i64 v1, .slice A1 n1 c1, .slice B1 m1 d1, .int .i64 r1] 28)).alloc (.cells #[.int .i64 k2, .string (ba nm2), .int .i64 v2, .slice A2 n2 c2, .slice B2 m2 d2, .int .i64 r2] 28)).alloc (.cells #[.int .i64 5, .string ⟨#[]⟩, .int .i64 0, .slice (some ⟨w.heap.size + 1 + 1 + 1, 0, none⟩) 2 2, .slice none 0 0, .int .i64 0] 28)) := ⟨_, rfl⟩
  have hsY : Y.heap.size = w.heap.size + 1 + 1 + 1 := by rw [hY]; simp
  have hbY : Below w.heap.size w Y := by rw [hY]; exact (((Below.refl _ w).alloc (Nat.le_refl _) _).alloc (by simp) _).alloc (by simp; omega) _
  have hlY : Lies Y (w.heap.size + 1 + 1) 28 #[.int .i64 5, .string ⟨#[]⟩, .int .i64 0, .slice (some ⟨w.heap.size + 1 + 1 + 1, 0, none⟩) 2 2, .slice none 0 0, .int .i64 0] := by rw [hY]; exact Lies.new' _ _ _ (by simp)
  rw [← hY]
  clear hY
  obtain ⟨Z, hZ⟩ : ∃ Z, Z = Y.alloc (.cells #[.int .i64 k1, .string (ba nm1), .int .i64 v1, .slice A1 n1 c1, .slice B1 m1 d1, .int .i64 r1, .int .i64 k2, .string (ba nm2), .int .i64 v2, .slice A2 n2 c2, .slice B2 m2 d2, .int .i64 r2] 28) := ⟨_, rfl⟩
  have hbZ : Below w.heap.size w Z := by rw [hZ]; exact hbY.trans ((below_new Y _).mono hbY.size)
  have hlZ : Lies Z (w.heap.size + 1 + 1 + 1) 28 #[.int .i64 k1, .string (ba nm1), .int .i64 v1, .slice A1 n1 c1, .slice B1 m1 d1, .int .i64 r1, .int .i64 k2, .string (ba nm2), .int .i64 v2, .slice A2 n2 c2, .slice B2 m2 d2, .int .i64 r2] := by rw [hZ, ← hsY]; exact Lies.new _ _ _
  have hkZ : Lies Z (w.heap.size + 1 + 1) 28 #[.int .i64 5, .string ⟨#[]⟩, .int .i64 0, .slice (some ⟨w.heap.size + 1 + 1 + 1, 0, none⟩) 2 2, .slice none 0 0, .int .i64 0] := by rw [hZ]; exact hlY.later (below_new Y _)
  rw [← hZ]
  refine bodyPost_ret (results_cell_row rfl _ _ (w.heap.size + 1 + 1) 28 _ (0, 0) _ rfl hkZ Try.underlying28 rfl (by kernel_rfl)) rfl ?_
  refine ⟨_, w.heap.size + 1 + 1 + 1, rfl, rfl, ⟨_, _, rfl, .inr ⟨w.heap.size + 1 + 1 + 1, rfl, by simp, ⟨_, _, hlZ⟩⟩, ⟨.inl ⟨rfl, rfl⟩, by simp⟩, ⟨i64s 5 (by omega) (by omega), i64s 0 (by omega) (by omega), i64s 0 (by omega) (by omega)⟩, fun i t ht => ?_⟩, hbZ⟩
  have hcell := hlZ.cell
  match i, ht with
  | 0, ht =>
    have e : t = Ty.mk k1 nm1 v1 k1s l1s r1 := by simpa using ht.symm
    subst e
    refine (HA.out.keep hbZ.block).atF rfl ⟨_, _, hlZ⟩ fun j u hu => ?_
    have hj := (List.getElem?_eq_some_iff.1 hu).1
    have hj : j < 6 := hj
    show Z.cell? ⟨w.heap.size + 1 + 1 + 1, 0 + 0 * 6 + j, none⟩ = some u
    rw [show 0 + 0 * 6 + j = j by omega, hcell]
    match j, hj, hu with
    | 0, _, hu => exact hu
    | 1, _, hu => exact hu
    | 2, _, hu => exact hu
    | 3, _, hu => exact hu
    | 4, _, hu => exact hu
    | 5, _, hu => exact hu
  | 1, ht =>
    have e : t = Ty.mk k2 nm2 v2 k2s l2s r2 := by simpa using ht.symm
    subst e
    refine (HB.out.keep hbZ.block).atF rfl ⟨_, _, hlZ⟩ fun j u hu => ?_
    have hj := (List.getElem?_eq_some_iff.1 hu).1
    have hj : j < 6 := hj
    show Z.cell? ⟨w.heap.size + 1 + 1 + 1, 0 + 1 * 6 + j, none⟩ = some u
    rw [hcell]
    match j, hj, hu with
    | 0, _, hu => exact hu
    | 1, _, hu => exact hu
    | 2, _, hu => exact hu
    | 3, _, hu => exact hu
    | 4, _, hu => exact hu
    | 5, _, hu => exact hu
  | i + 2, ht => simp at ht
end Go.Proofs.Ythdfomcpoofkaaa

/- Package scheme: what Fresh says of the bound variables, and what becomes of a type by it. -/
namespace Go.Proofs.Ythdfomcpoofkaaa.Si
open Go.RowKit

/-- Variables have the next numbers. -/
def frT : List Int → Int → (Int → Option Ty) → Int → Option Ty
  | [], _, T => T
  | a :: r, n, T => frT r (n + 1) (setF T a (tvT8 n))
def frR : List Int → Int → (Int → Option (List Str × Int)) → Int → Option (List Str × Int)
  | [], _, Q => Q
  | a :: r, n, Q => frR r (n + 1) (setF Q a ([], n))
theorem frT_snoc : ∀ (l : List Int) (n : Int) (T : Int → Option Ty) (a : Int), frT (l ++ [a]) n T = setF (frT l n T) a (tvT8 (n + l.length))
  | [], n, T, a => by simp [frT]
  | b :: r, n, T, a => by
    rw [List.cons_append, frT, frT_snoc r, frT, List.length_cons]
    rw [show n + 1 + (r.length : Int) = n + ((r.length + 1 : Nat) : Int) by omega]
theorem frR_snoc : ∀ (l : List Int) (n : Int) (Q : Int → Option (List Str × Int)) (a : Int), frR (l ++ [a]) n Q = setF (frR l n Q) a ([], n + l.length)
  | [], n, Q, a => by simp [frR]
  | b :: r, n, Q, a => by
    rw [List.cons_append, frR, frR_snoc r, frR, List.length_cons]
    rw [show n + 1 + (r.length : Int) = n + ((r.length + 1 : Nat) : Int) by omega]
theorem frT_no : ∀ (l : List Int) (n : Int) (T : Int → Option Ty) (x : Int), x ∉ l → frT l n T x = T x
  | [], _, _, _, _ => rfl
  | a :: r, n, T, x, h => by
    rw [frT, frT_no r _ _ x (fun hm => h (List.mem_cons_of_mem _ hm))]
    exact if_neg fun e => h (by rw [e]; exact List.mem_cons_self ..)
theorem frR_no : ∀ (l : List Int) (n : Int) (Q : Int → Option (List Str × Int)) (x : Int), x ∉ l → frR l n Q x = Q x
  | [], _, _, _, _ => rfl
  | a :: r, n, Q, x, h => by
    rw [frR, frR_no r _ _ x (fun hm => h (List.mem_cons_of_mem _ hm))]
    exact if_neg fun e => h (by rw [e]; exact List.mem_cons_self ..)
theorem frT_in : ∀ (l : List Int) (n : Int) (T : Int → Option Ty) (x : Int), x ∈ l → ∃ k : Nat, k < l.length ∧ frT l n T x = some (tvT8 (n + k))
  | [], _, _, _, h => by cases h
  | a :: r, n, T, x, h => by
    by_cases hr : x ∈ r
    · obtain ⟨k, hk, e⟩ := frT_in r (n + 1) (setF T a (tvT8 n)) x hr
      exact ⟨k + 1, by simp; omega, by rw [frT, e, show n + 1 + (k : Int) = n + ((k + 1 : Nat) : Int) by omega]⟩
    · have e : x = a := by
        rcases List.mem_cons.1 h with e | h
        · exact e
        · exact absurd h hr
      refine ⟨0, by simp, ?_⟩
      rw [frT, frT_no r _ _ x hr]
      rw [show n + ((0 : Nat) : Int) = n by omega]
      exact if_pos e
theorem frR_in : ∀ (l : List Int) (n : Int) (Q : Int → Option (List Str × Int)) (x : Int), x ∈ l → ∃ k : Nat, k < l.length ∧ frR l n Q x = some ([], n + k)
  | [], _, _, _, h => by cases h
  | a :: r, n, Q, x, h => by
    by_cases hr : x ∈ r
    · obtain ⟨k, hk, e⟩ := frR_in r (n + 1) (setF Q a ([], n)) x hr
      exact ⟨k + 1, by simp; omega, by rw [frR, e, show n + 1 + (k : Int) = n + ((k + 1 : Nat) : Int) by omega]⟩
    · have e : x = a := by
        rcases List.mem_cons.1 h with e | h
        · exact e
        · exact absurd h hr
      refine ⟨0, by simp, ?_⟩
      rw [frR, frR_no r _ _ x hr]
      rw [show n + ((0 : Nat) : Int) = n by omega]
      exact if_pos e
/-- What stands in the stead of bound variables, by what a substitution says. -/
def insOf (K R : List Int) (T : Int → Option Ty) (Q : Int → Option (List Str × Int)) : Ins :=
  ⟨K, R, fun n => (T n).getD (.mk 7 [] n [] [] 0), fun n => (Q n).getD ([], n)⟩
/-- Of others than bound variables nothing is said. -/
structure Only (K R : List Int) (T : Int → Option Ty) (Q : Int → Option (List Str × Int)) : Prop where
  t : ∀ n, n ∉ K → T n = none
  r : ∀ n, n ∉ R → Q n = none
mutual
/-- All rows are in order; a type variable has nothing else. -/
def nice : Ty → Prop
  | .mk k nm _ kids ls rv => Rw.sortS ls = ls ∧ (k = 7 → nm = [] ∧ kids = [] ∧ ls = [] ∧ rv = 0) ∧ niceL kids
def niceL : List Ty → Prop
  | [] => True
  | t :: r => nice t ∧ niceL r
end
mutual
theorem ap_ins {K R : List Int} {T : Int → Option Ty} {Q : Int → Option (List Str × Int)} (ho : Only K R T Q) (h0 : (0 : Int) ∉ R) : ∀ t, nice t → Ri.apT ⟨T, Q⟩ t = ins (insOf K R T Q) t
  | .mk k nm v kids ls rv, hn => by
    rw [nice] at hn
    obtain ⟨hs, h7, hk⟩ := hn
    have hrow : apR Q (ls, rv) = rwI (insOf K R T Q) (ls, rv) := by
      unfold apR rwI insR insOf
      simp only
      by_cases hr0 : rv = 0
      · rw [if_pos hr0, if_neg (fun h => h0 (hr0 ▸ h))]
      · rw [if_neg hr0]
        by_cases hR : rv ∈ R
        · rw [if_pos hR]
          cases hq : Q rv with
          | none => simp [hs]
          | some x => rfl
        · rw [if_neg hR, ho.r rv hR]
    rw [Ri.apT, ins, ap_insL ho h0 kids hk, hrow]
    unfold insT
    by_cases hk7 : k = 7
    · rw [if_pos hk7]
      by_cases hK : v ∈ K
      · rw [if_pos ⟨hk7, hK⟩]
        simp only [insOf]
        cases hT : T v with
        | none =>
          obtain ⟨rfl, rfl, rfl, rfl⟩ := h7 hk7
          have hr : rwI (insOf K R T Q) ([], 0) = ([], 0) := if_neg h0
          unfold insOf at hr
          simp only [insL, Option.getD_none, hr, hk7]
        | some u => rfl
      · rw [if_neg (fun h => hK h.2)]
        simp only [ho.t v hK]
    · rw [if_neg hk7, if_neg (fun h => hk7 h.1)]
theorem ap_insL {K R : List Int} {T : Int → Option Ty} {Q : Int → Option (List Str × Int)} (ho : Only K R T Q) (h0 : (0 : Int) ∉ R) : ∀ l, niceL l → Ri.apTL ⟨T, Q⟩ l = insL (insOf K R T Q) l
  | [], _ => rfl
  | t :: r, hn => by
    rw [niceL] at hn
    rw [Ri.apTL, insL, ap_ins ho h0 t hn.1, ap_insL ho h0 r hn.2]
end
mutual
/-- Where all stays what it is, all does. -/
theorem ins_id (K R : List Int) : ∀ t, nice t → ins (insOf K R T0 R0) t = t
  | .mk k nm v kids ls rv, hn => by
    rw [nice] at hn
    obtain ⟨hs, h7, hk⟩ := hn
    rw [ins, ins_idL K R kids hk]
    have hrow : rwI (insOf K R T0 R0) (ls, rv) = (ls, rv) := by
      unfold rwI insOf
      simp only [R0, Option.getD_none, List.append_nil, hs]
      split <;> rfl
    rw [hrow]
    by_cases h : k = 7 ∧ v ∈ (insOf K R T0 R0).K
    · rw [if_pos h]
      obtain ⟨rfl, rfl, rfl, rfl⟩ := h7 h.1
      rw [h.1]
      rfl
    · rw [if_neg h]
theorem ins_idL (K R : List Int) : ∀ l, niceL l → insL (insOf K R T0 R0) l = l
  | [], _ => rfl
  | t :: r, hn => by
    rw [niceL] at hn
    rw [insL, ins_id K R t hn.1, ins_idL K R r hn.2]
end
end Go.Proofs.Ythdfomcpoofkaaa.Si

/- The reference's Vars: what it answers; what is closed stays. -/
namespace Go.Proofs.Ythdfomcpoofkaaa
open Go.RowKit

def withL (L : List Int) (n : Int) : List Int := if n ∈ L then L else L ++ [n]
abbrev LL2 := List Int × List Int
def varsF (k rv : Int) (f : Bool) (s : LL2) : LL2 := if f = true ∧ k = 5 ∧ 0 < rv then (s.1, withL s.2 rv) else s
mutual
def varsT : Ty → LL2 → LL2
  | .mk k _ v kids _ rv, s => varsTL k rv true kids (if k = 7 then (withL s.1 v, s.2) else s)
def varsTL (k rv : Int) (f : Bool) : List Ty → LL2 → LL2
  | [], s => s
  | t :: r, s => varsTL k rv false r (varsF k rv f (varsT t s))
end
theorem withL_len (L : List Int) (n : Int) : (withL L n).length ≤ L.length + 1 := by unfold withL; split <;> simp
theorem withL_mem (L : List Int) (n : Int) : n ∈ withL L n := by unfold withL; split <;> simp_all
theorem withL_sub {L : List Int} {n x : Int} (h : x ∈ L) : x ∈ withL L n := by unfold withL; split <;> simp_all
theorem withL_all {L : List Int} {n : Int} {P : Int → Prop} (h : ∀ x ∈ L, P x) (hn : P n) : ∀ x ∈ withL L n, P x := by
  intro x hx
  unfold withL at hx
  split at hx
  · exact h x hx
  · rcases List.mem_append.1 hx with hx | hx
    · exact h x hx
    · rw [List.mem_singleton.1 hx]; exact hn
theorem varsF_len (k rv : Int) (f : Bool) (s : LL2) : (varsF k rv f s).1.length ≤ s.1.length + 1 ∧ (varsF k rv f s).2.length ≤ s.2.length + 1 := by
  unfold varsF
  split
  · exact ⟨by simp, withL_len _ _⟩
  · exact ⟨by omega, by omega⟩
theorem varsF_false (k rv : Int) (s : LL2) : varsF k rv false s = s := if_neg (by simp)
theorem varsF_fst (k rv : Int) (f : Bool) (s : LL2) : (varsF k rv f s).1 = s.1 := by unfold varsF; split <;> rfl
mutual
theorem varsT_len : ∀ (t : Ty) (s : LL2), (varsT t s).1.length ≤ s.1.length + t.size ∧ (varsT t s).2.length ≤ s.2.length + t.size
  | .mk k nm v kids ls rv, s => by
    have h1 := varsTL_len k rv true kids (if k = 7 then (withL s.1 v, s.2) else s)
    have h2 := withL_len s.1 v
    simp only [varsT, Ty.size]
    have e1 : (if k = 7 then (withL s.1 v, s.2) else s).1.length ≤ s.1.length + 1 := by split <;> simp [h2]
    have e3 : (if true = true then 1 else 0 : Nat) = 1 := rfl
    rw [e3] at h1
    have e2 : (if k = 7 then (withL s.1 v, s.2) else s).2.length ≤ s.2.length := by split <;> simp
    omega
theorem varsTL_len (k rv : Int) : ∀ (f : Bool) (l : List Ty) (s : LL2), (varsTL k rv f l s).1.length ≤ s.1.length + Ty.sizeL l ∧ (varsTL k rv f l s).2.length ≤ s.2.length + Ty.sizeL l + (if f = true then 1 else 0)
  | f, [], s => by simp [varsTL, Ty.sizeL]
  | f, t :: r, s => by
    have h1 := varsT_len t s
    have h3 := varsTL_len k rv false r (varsF k rv f (varsT t s))
    have h4 := varsF_fst k rv f (varsT t s)
    have h2 := (varsF_len k rv f (varsT t s)).2
    simp only [varsTL, Ty.sizeL]
    rw [h4] at h3
    simp only [Bool.false_eq_true, if_false] at h3
    cases f
    · rw [varsF_false] at h3 ⊢
      simp
      omega
    · simp
      omega
end
theorem varsTL_snoc (k rv : Int) (t : Ty) : ∀ (l : List Ty) (f : Bool) (s : LL2), varsTL k rv f (l ++ [t]) s = varsF k rv (f && l.isEmpty) (varsT t (varsTL k rv f l s))
  | [], f, s => by simp [varsTL]
  | u :: r, f, s => by
    simp only [List.cons_append, varsTL, varsTL_snoc k rv t r, List.isEmpty_cons, Bool.and_false, Bool.false_and]
mutual
theorem varsT_all {P : Int → Prop} : ∀ (t : Ty) (s : LL2), (∀ x ∈ s.1, x ∈ (varsT t s).1) ∧ ∀ x ∈ s.2, x ∈ (varsT t s).2
  | .mk k nm v kids ls rv, s => by
    have h1 := varsTL_all (P := P) k rv true kids (if k = 7 then (withL s.1 v, s.2) else s)
    simp only [varsT]
    refine ⟨fun x hx => h1.1 x ?_, fun x hx => h1.2 x ?_⟩
    · split
      · exact withL_sub hx
      · exact hx
    · split <;> exact hx
theorem varsTL_all {P : Int → Prop} (k rv : Int) : ∀ (f : Bool) (l : List Ty) (s : LL2), (∀ x ∈ s.1, x ∈ (varsTL k rv f l s).1) ∧ ∀ x ∈ s.2, x ∈ (varsTL k rv f l s).2
  | f, [], s => ⟨fun _ h => h, fun _ h => h⟩
  | f, t :: r, s => by
    have h1 := varsT_all (P := P) t s
    have h3 := varsTL_all (P := P) k rv false r (varsF k rv f (varsT t s))
    have h4 := varsF_fst k rv f (varsT t s)
    simp only [varsTL]
    refine ⟨fun x hx => h3.1 x (by rw [h4]; exact h1.1 x hx), fun x hx => h3.2 x ?_⟩
    unfold varsF
    split
    · exact withL_sub (h1.2 x hx)
    · exact h1.2 x hx
end
/-- No label comes ahead of the one before it. -/
def RiseS (ls : List Str) : Prop := ∀ (i : Nat) a b, ls[i]? = some a → ls[i + 1]? = some b → ¬ b < a
mutual
/-- What is right has no row variable but at a function, and its labels in order. -/
def RightP : Ty → Prop
  | .mk k _ _ kids ls rv => ((rv = 0 ∨ (k = 5 ∧ kids.length = 2 ∧ 0 ≤ rv)) ∧ RiseS ls) ∧ RightPL kids
def RightPL : List Ty → Prop
  | [] => True
  | t :: r => RightP t ∧ RightPL r
end
theorem RightPL_iff : ∀ l : List Ty, RightPL l ↔ ∀ t ∈ l, RightP t
  | [] => by simp [RightPL]
  | t :: r => by simp [RightPL, RightPL_iff r]
mutual
theorem closed_ap {T : Int → Option Ty} {R : Int → Option (List Str × Int)} : ∀ (t : Ty) (s : LL2), RightP t → (∀ x ∈ (varsT t s).1, T x = none) → (∀ x ∈ (varsT t s).2, R x = none) → apT T t = t ∧ pcsT T t = t.size ∧ rowsFree R T t
  | .mk k nm v kids ls rv, s, hR, hT, hRr => by
    simp only [RightP] at hR
    simp only [varsT] at hT hRr
    have hins : insT T k v = none := by
      unfold insT
      split
      · rename_i hk
        refine hT v ((varsTL_all (P := fun _ => True) k rv true kids _).1 v ?_)
        rw [if_pos hk]
        exact withL_mem _ _
      · rfl
    obtain ⟨h1, h2, h3⟩ := closed_apL kids _ hR.2 (k := k) (rv := rv) (f := true) hT hRr
    refine ⟨by simp only [apT, hins, h1], by simp only [pcsT, hins, h2, Ty.size], ?_⟩
    simp only [rowsFree]
    refine .inr ⟨?_, h3⟩
    rcases hR.1.1 with h | ⟨hk, hl, h0⟩
    · exact .inl h
    · rcases Int.lt_or_eq_of_le h0 with h | h
      · match kids, hl with
        | t :: r, _ =>
          refine .inr (hRr rv ?_)
          simp only [varsTL]
          refine (varsTL_all (P := fun _ => True) k rv false r _).2 rv ?_
          unfold varsF
          rw [if_pos ⟨rfl, hk, h⟩]
          exact withL_mem _ _
      · exact .inl h.symm
theorem closed_apL {T : Int → Option Ty} {R : Int → Option (List Str × Int)} {k rv : Int} : ∀ (l : List Ty) (s : LL2), RightPL l → ∀ {f : Bool}, (∀ x ∈ (varsTL k rv f l s).1, T x = none) → (∀ x ∈ (varsTL k rv f l s).2, R x = none) → apTL T l = l ∧ pcsTL T l = Ty.sizeL l ∧ rowsFreeL R T l
  | [], s, _, f, _, _ => ⟨rfl, rfl, trivial⟩
  | t :: r, s, hR, f, hT, hRr => by
    simp only [RightPL] at hR
    simp only [varsTL] at hT hRr
    obtain ⟨h1, h2, h3⟩ := closed_ap t s hR.1 (fun x hx => hT x ((varsTL_all (P := fun _ => True) k rv false r _).1 x (by rw [varsF_fst]; exact hx)))
      (fun x hx => hRr x ((varsTL_all (P := fun _ => True) k rv false r _).2 x (by unfold varsF; split; exact withL_sub hx; exact hx)))
    obtain ⟨h4, h5, h6⟩ := closed_apL r _ hR.2 (f := false) hT hRr
    exact ⟨by simp only [apTL, h1, h4], by simp only [pcsTL, Ty.sizeL, h2, h5], by simp only [rowsFreeL]; exact ⟨h3, h6⟩⟩
end
end Go.Proofs.Ythdfomcpoofkaaa

/- What the reference's Vars answers, as sets; how many are bound and free. -/
namespace Go.Proofs.Ythdfomcpoofkaaa
open Go.RowKit

theorem withL_iff (L : List Int) (n x : Int) : x ∈ withL L n ↔ x ∈ L ∨ x = n := by
  unfold withL
  split
  · rename_i h
    exact ⟨.inl, fun h2 => h2.elim id fun e => e ▸ h⟩
  · simp
theorem withL_nod {L : List Int} (n : Int) (h : L.Nodup) : (withL L n).Nodup := by
  unfold withL
  split
  · exact h
  · rename_i hn
    rw [List.nodup_append]
    exact ⟨h, by simp, fun a ha b hb e => by rw [List.mem_singleton.1 hb] at e; exact hn (e ▸ ha)⟩
mutual
/-- Rows stand at functions alone. -/
def fnRow : Ty → Prop
  | .mk k _ _ kids _ rv => (k ≠ 5 → rv = 0) ∧ 0 ≤ rv ∧ fnRowL kids
def fnRowL : List Ty → Prop
  | [] => True
  | t :: r => fnRow t ∧ fnRowL r
end
mutual
theorem varsT_K : ∀ (t : Ty) (s : LL2) (n : Int), n ∈ (varsT t s).1 ↔ n ∈ s.1 ∨ inK t n
  | .mk k nm v kids ls rv, s, n => by
    simp only [varsT, inK]
    rw [varsTL_K k rv true kids _ n]
    by_cases hk : k = 7
    · simp only [hk, if_true, withL_iff, true_and]
      constructor
      · rintro ((h | h) | h)
        · exact .inl h
        · exact .inr (.inl h)
        · exact .inr (.inr h)
      · rintro (h | h | h)
        · exact .inl (.inl h)
        · exact .inl (.inr h)
        · exact .inr h
    · simp only [hk, if_false, false_and, false_or]
theorem varsTL_K (k rv : Int) : ∀ (f : Bool) (l : List Ty) (s : LL2) (n : Int), n ∈ (varsTL k rv f l s).1 ↔ n ∈ s.1 ∨ inKL l n
  | f, [], s, n => by simp [varsTL, inKL]
  | f, t :: r, s, n => by
    simp only [varsTL, inKL]
    rw [varsTL_K k rv false r _ n, varsF_fst, varsT_K t s n]
    exact ⟨fun h => by rcases h with (h | h) | h <;> simp [h], fun h => by rcases h with h | h | h <;> simp [h]⟩
end
theorem varsF_R (k rv : Int) (f : Bool) (s : LL2) (n : Int) (h1 : k ≠ 5 → rv = 0) (h2 : 0 ≤ rv) : n ∈ (varsF k rv f s).2 ↔ n ∈ s.2 ∨ (f = true ∧ rv ≠ 0 ∧ n = rv) := by
  unfold varsF
  split
  · rename_i h
    rw [withL_iff]
    exact ⟨fun h3 => h3.imp id fun e => ⟨h.1, by omega, e⟩, fun h3 => h3.imp id fun e => e.2.2⟩
  · rename_i h
    refine ⟨.inl, fun h3 => h3.elim id fun e => absurd ⟨e.1, ?_, ?_⟩ h⟩
    · exact Decidable.byContradiction fun hk => e.2.1 (h1 hk)
    · have := e.2.1; omega
mutual
theorem varsT_R : ∀ (t : Ty) (s : LL2) (n : Int), fnRow t → (n ∈ (varsT t s).2 ↔ n ∈ s.2 ∨ inR t n)
  | .mk k nm v kids ls rv, s, n, h => by
    obtain ⟨h1, h2, h3⟩ := h
    simp only [varsT, inR]
    have e : (if k = 7 then (withL s.1 v, s.2) else s).2 = s.2 := by split <;> rfl
    rw [varsTL_R k rv h1 h2 true kids _ n h3, e]
    exact ⟨fun h => by rcases h with h | ⟨_, h4, h5, h6⟩ | h
                       · exact .inl h
                       · exact .inr (.inl ⟨h4, h5, h6⟩)
                       · exact .inr (.inr h),
      fun h => by rcases h with h | ⟨h4, h5, h6⟩ | h
                  · exact .inl h
                  · exact .inr (.inl ⟨rfl, h4, h5, h6⟩)
                  · exact .inr (.inr h)⟩
theorem varsTL_R (k rv : Int) (h1 : k ≠ 5 → rv = 0) (h2 : 0 ≤ rv) : ∀ (f : Bool) (l : List Ty) (s : LL2) (n : Int), fnRowL l → (n ∈ (varsTL k rv f l s).2 ↔ n ∈ s.2 ∨ (f = true ∧ rv ≠ 0 ∧ n = rv ∧ l ≠ []) ∨ inRL l n)
  | f, [], s, n, _ => by simp [varsTL, inRL]
  | f, t :: r, s, n, h => by
    obtain ⟨h3, h4⟩ := h
    simp only [varsTL, inRL]
    rw [varsTL_R k rv h1 h2 false r _ n h4, varsF_R k rv f _ n h1 h2, varsT_R t s n h3]
    simp
    constructor
    · intro h
      rcases h with ((h | h) | h) | h
      all_goals simp_all
    · intro h
      rcases h with h | h | h | h
      all_goals simp_all
end
mutual
theorem varsT_nod : ∀ (t : Ty) (s : LL2), s.1.Nodup → s.2.Nodup → (varsT t s).1.Nodup ∧ (varsT t s).2.Nodup
  | .mk k nm v kids ls rv, s, h1, h2 => by
    simp only [varsT]
    refine varsTL_nod k rv true kids _ ?_ ?_
    · split
      · exact withL_nod v h1
      · exact h1
    · split
      · exact h2
      · exact h2
theorem varsTL_nod (k rv : Int) : ∀ (f : Bool) (l : List Ty) (s : LL2), s.1.Nodup → s.2.Nodup → (varsTL k rv f l s).1.Nodup ∧ (varsTL k rv f l s).2.Nodup
  | f, [], s, h1, h2 => by simp only [varsTL]; exact ⟨h1, h2⟩
  | f, t :: r, s, h1, h2 => by
    simp only [varsTL]
    obtain ⟨h3, h4⟩ := varsT_nod t s h1 h2
    refine varsTL_nod k rv false r _ ?_ ?_
    · rw [varsF_fst]; exact h3
    · unfold varsF
      split
      · exact withL_nod rv h4
      · exact h4
end
/-- As many are free and bound as stand there. -/
theorem count_split (K S X : List Int) (hK : K.Nodup) (hS : S.Nodup) (hX : X.Nodup) (h1 : ∀ n ∈ S, n ∈ K) (h2 : ∀ n, n ∈ K ↔ n ∈ X) : (lessL K S).length + S.length = X.length := by
  have h3 : (lessL K S ++ S).Nodup := by
    rw [List.nodup_append]
    refine ⟨hK.sublist List.filter_sublist, hS, fun a ha b hb e => ?_⟩
    unfold lessL at ha
    have := (List.mem_filter.1 ha).2
    simp at this
    exact this (e ▸ hb)
  have h4 : ∀ n, n ∈ lessL K S ++ S ↔ n ∈ X := fun n => by
    rw [List.mem_append, ← h2 n]
    unfold lessL
    rw [List.mem_filter]
    by_cases hn : n ∈ S
    · simp [hn, h1 n hn]
    · simp [hn]
  have h5 := (List.perm_ext_iff_of_nodup h3 hX).2 h4
  have := h5.length_eq
  rw [List.length_append] at this
  exact this
mutual
/-- Of right types rows stand at functions alone. -/
theorem RightP.fn : ∀ t : Ty, RightP t → fnRow t
  | .mk k nm v kids ls rv, h => by
    simp only [RightP] at h
    simp only [fnRow]
    obtain ⟨⟨h1, _⟩, h2⟩ := h
    refine ⟨fun hk => ?_, ?_, RightPL.fn kids h2⟩
    · rcases h1 with h1 | h1
      · exact h1
      · exact absurd h1.1 hk
    · rcases h1 with h1 | h1
      · omega
      · exact h1.2.2
theorem RightPL.fn : ∀ l : List Ty, RightPL l → fnRowL l
  | [], _ => trivial
  | t :: r, h => ⟨RightP.fn t h.1, RightPL.fn r h.2⟩
end
end Go.Proofs.Ythdfomcpoofkaaa
