/- Right types, as the matcher wants them; what it tells where nothing is bound. -/
import Derived.Test.YtclaabnjokkbjaaMg11
import Derived.Test.YtclaabnjokkbjaaScMi
import Derived.Test.YtclaabnjokkbjaaScH
import Derived.Test.YtclaabnjokkbjaaMg23
import Derived.Test.YtclaabnjokkbjaaMg24
import Derived.Test.YtclaabnjokkbjaaMg19
import Derived.Test.YtclaabnjokkbjaaMg27
import Derived.Outline
namespace Go.Proofs.Ytclaabnjokkbjaa
open Go.RowKit

theorem rise_pairwise : ∀ ls : List Str, RiseS ls → ls.Pairwise fun a b => decide (a ≤ b) = true
  | [], _ => .nil
  | [a], _ => by simp
  | a :: b :: r, h => by
    have h1 : RiseS (b :: r) := fun i x y hx hy => h (i + 1) x y (by simpa using hx) (by simpa using hy)
    have ih := rise_pairwise (b :: r) h1
    have hab : a ≤ b := List.not_lt.1 (h 0 a b rfl rfl)
    refine .cons (fun x hx => ?_) ih
    rcases List.mem_cons.1 hx with rfl | hx
    · simpa using hab
    · have := (List.pairwise_cons.1 ih).1 x hx
      exact decide_eq_true (List.le_trans hab (of_decide_eq_true this))
theorem rise_sort {ls : List Str} (h : RiseS ls) : Rw.sortS ls = ls := by
  unfold Rw.sortS
  exact List.mergeSort_of_pairwise (rise_pairwise ls h)
mutual
theorem RightP.srt : ∀ t : Ty, RightP t → srtT t
  | .mk k nm v kids ls rv, h => by
    simp only [RightP] at h
    exact ⟨rise_sort h.1.2, RightPL.srt kids h.2⟩
theorem RightPL.srt : ∀ l : List Ty, RightPL l → srtL l
  | [], _ => trivial
  | t :: r, h => ⟨RightP.srt t h.1, RightPL.srt r h.2⟩
end
mutual
theorem pm_nil : ∀ t u : Ty, pm [] t u = true ↔ t = u
  | .mk k nm v kids ls rv, .mk k' nm' v' kids' ls' rv' => by
    have h := pmL_nil kids kids'
    simp only [pm, hdM, List.not_mem_nil, and_false, if_false, decide_false, Bool.false_or, Bool.and_eq_true, decide_eq_true_eq, Ty.mk.injEq]
    constructor
    · rintro ⟨⟨h1, h2, h3, h4, h5, h6⟩, h7⟩
      exact ⟨h1, h2, h3, h.1 h7, h6, h5⟩
    · rintro ⟨h1, h2, h3, h4, h5, h6⟩
      exact ⟨⟨h1, h2, h3, by rw [h4], h6, h5⟩, h.2 h4⟩
theorem pmL_nil : ∀ l m : List Ty, pmL [] l m = true ↔ l = m
  | [], [] => by simp [pmL]
  | [], u :: s => by simp [pmL]
  | t :: r, [] => by simp [pmL]
  | t :: r, u :: s => by
    simp only [pmL, Bool.and_eq_true, pm_nil t u, pmL_nil r s, List.cons.injEq]
end
/-- A list of bare schemes that the call made; each type lives in blocks of its own. -/
def EnvX (w : World) (B : Nat) (v : Value) (E : List Ty) (xs : List (List Value)) : Prop :=
  xs.length = E.length ∧ w.ownsRow B 62 8 v E.length (xs.flatMap fun l => .slice none 0 0 :: .slice none 0 0 :: l) ∧ (∀ l ∈ xs, l.length = 6) ∧ ∀ (i : Nat) t l, E[i]? = some t → xs[i]? = some l →
    ∃ s e, e ≤ w.heap.size ∧ (∀ b, v.ownBlock = some b → b < s ∨ e ≤ b) ∧ ∀ w'', w.heap.size ≤ w''.heap.size → (∀ b, s ≤ b → b < e → w''.heap[b]? = w.heap[b]?) → TFV w'' t l
def EnvO (w : World) (B : Nat) (v : Value) (E : List Ty) : Prop := ∃ xs, EnvX w B v E xs
theorem flat8 (xs : List (List Value)) (h : ∀ l ∈ xs, l.length = 6) : (xs.flatMap fun l => Value.slice none 0 0 :: .slice none 0 0 :: l).length = xs.length * 8 := by
  induction xs with
  | nil => rfl
  | cons x r ih =>
    rw [List.flatMap_cons, List.length_append, ih fun l hl => h l (List.mem_cons_of_mem _ hl)]
    have := h x (List.mem_cons_self ..)
    simp only [List.length_cons]
    omega
theorem flat8_get (xs : List (List Value)) (h : ∀ l ∈ xs, l.length = 6) (i : Nat) (l : List Value) (hi : xs[i]? = some l) (j : Nat) (q : Value) (hq : (Value.slice none 0 0 :: .slice none 0 0 :: l)[j]? = some q) : (xs.flatMap fun l => Value.slice none 0 0 :: .slice none 0 0 :: l)[i * 8 + j]? = some q := by
  induction xs generalizing i with
  | nil => simp at hi
  | cons x r ih =>
    have hx := h x (List.mem_cons_self ..)
    rw [List.flatMap_cons]
    cases i with
    | zero =>
      have e : x = l := by simpa using hi
      subst e
      have hj := (List.getElem?_eq_some_iff.1 hq).1
      rw [Nat.zero_mul, Nat.zero_add, List.getElem?_append_left hj]
      exact hq
    | succ i =>
      rw [List.getElem?_append_right (by simp only [List.length_cons]; omega)]
      have := ih (fun l hl => h l (List.mem_cons_of_mem _ hl)) i (by simpa using hi)
      rw [show (i + 1) * 8 + j - (Value.slice none 0 0 :: Value.slice none 0 0 :: x).length = i * 8 + j by simp only [List.length_cons]; omega]
      exact this
theorem EnvO.env {w : World} {B : Nat} {v : Value} {E : List Ty} (h : EnvO w B v E) : EnvB w v E := by
  obtain ⟨xs, h1, h2, h3, h4⟩ := h
  have hc := h2.2
  rcases hc with ⟨h5, h6⟩ | ⟨g, cap, cur, rfl, hb, hh, hcap, _, _, _⟩
  · have hE : E = [] := List.eq_nil_of_length_eq_zero h6
    subst hE
    exact ⟨none, 0, h5, Nat.le_refl _, fun i t ht => by simp at ht⟩
  · refine ⟨_, cap, rfl, hcap, fun i t ht => ?_⟩
    have hi := (List.getElem?_eq_some_iff.1 ht).1
    obtain ⟨l, hl⟩ : ∃ l, xs[i]? = some l := ⟨_, List.getElem?_eq_getElem (by omega)⟩
    obtain ⟨s, e, h8, _, h9⟩ := h4 i t l ht hl
    refine ⟨g, 0, l, rfl, h9 w (Nat.le_refl _) (fun _ _ _ => rfl), fun j q hq => ?_⟩
    have h7 := h2.cells (g := g) rfl (i * 8 + j) q (flat8_get xs h3 i l hl j q hq)
    rwa [show (⟨g, 0, none⟩ : Addr).add (i * 8 + j) = ⟨g, 0 + i * 8 + j, none⟩ by unfold Addr.add; split <;> simp_all] at h7
theorem EnvO.later {w w' : World} {B : Nat} {v : Value} {E : List Ty} (h : EnvO w B v E) (hb : Below w.heap.size w w') : EnvO w' B v E := by
  obtain ⟨xs, h1, h2, h3, h4⟩ := h
  refine ⟨xs, h1, own_later h2 hb, h3, fun i t l ht hl => ?_⟩
  obtain ⟨s, e, h5, h6, h7⟩ := h4 i t l ht hl
  exact ⟨s, e, Nat.le_trans h5 hb.size, h6, fun w'' hs hk => h7 w'' (Nat.le_trans hb.size hs) fun b hb1 hb2 => (hk b hb1 hb2).trans (hb.block b (by omega))⟩
theorem own_n {w : World} {B : Nat} {e : TypeId} {size n c m : Nat} {A : Option Addr} {xs : List Value} (h : w.ownsRow B e size (.slice A n c) m xs) : n = m := by
  rcases h.2 with ⟨h1, h2⟩ | ⟨g, cap, cur, h1, _⟩
  · cases h1; exact h2.symm
  · cases h1; rfl
/-- One more. -/
theorem EnvO.add {y y4 w5 : World} {B : Nat} {v v' : Value} {E : List Ty} {u : Ty} {l : List Value} {s : Nat} {xs : List (List Value)} (h : EnvX y B v E xs) (hl : l.length = 6) (ht : ∀ w'', Kept (fun b => b < s) y w'' → TFV w'' u l) (hy : Below y.heap.size y y4)
    (hg : y4.grownBy w5 v.ownBlock) (hat : v'.ownBlock = v.ownBlock ∨ v'.ownBlock = some y4.heap.size) (ho : w5.ownsRow B 62 8 v' (E.length + 1) ((xs.flatMap fun l => .slice none 0 0 :: .slice none 0 0 :: l) ++ (.slice none 0 0 :: .slice none 0 0 :: l))) (hvs : ∀ b, v.ownBlock = some b → b < s) : EnvO w5 B v' (E ++ [u]) := by
  obtain ⟨h1, h2, h3, h4⟩ := h
  have hys := hy.size
  have hgs := hg.size
  have hkeep : ∀ b, b < y.heap.size → v.ownBlock ≠ some b → w5.heap[b]? = y.heap[b]? := fun b hb hn => (hg.block b (by omega) (fun e => hn e.symm)).trans (hy.block b hb)
  refine ⟨xs ++ [l], by simp [h1], ?_, fun x hx => ?_, fun i t lx hi hli => ?_⟩
  · rw [List.flatMap_append]
    simpa using ho
  · rcases List.mem_append.1 hx with hx | hx
    · exact h3 x hx
    · rw [List.mem_singleton.1 hx]; exact hl
  · by_cases hlt : i < E.length
    · rw [List.getElem?_append_left hlt] at hi
      rw [List.getElem?_append_left (by omega)] at hli
      obtain ⟨s1, e1, h5, h6, h7⟩ := h4 i t lx hi hli
      refine ⟨s1, e1, by omega, fun b hb => ?_, fun w'' hs hk => h7 w'' (by omega) fun b hb1 hb2 => (hk b hb1 hb2).trans (hkeep b (by omega) fun e => by rcases h6 b e with h | h <;> omega)⟩
      rcases hat with hat | hat
      · exact h6 b (hat ▸ hb)
      · rw [hat] at hb; injection hb with hb; omega
    · have hlt2 := (List.getElem?_eq_some_iff.1 hi).1
      simp only [List.length_append, List.length_cons, List.length_nil] at hlt2
      obtain rfl : i = E.length := by omega
      rw [List.getElem?_append_right (Nat.le_refl _)] at hi
      rw [← h1, List.getElem?_append_right (Nat.le_refl _)] at hli
      simp only [Nat.sub_self, List.getElem?_cons_zero, Option.some.injEq] at hi hli
      subst hi hli
      refine ⟨s, y.heap.size, by omega, fun b hb => ?_, fun w'' hs hk => ht w'' ⟨by omega, fun b hb hn => (hk b (by omega) hb).trans (hkeep b hb fun e => hn (hvs b e))⟩⟩
      rcases hat with hat | hat
      · exact .inl (hvs b (hat ▸ hb))
      · rw [hat] at hb; injection hb with hb; omega
theorem EnvO.nil (w : World) (B : Nat) : EnvO w B (.slice none 0 0) [] := ⟨[], rfl, World.ownsRow_nil _ _ _ _, fun l hl => (by cases hl), fun i t l ht => by simp at ht⟩
theorem info_scheme : (Try.prog.info? 62).map (fun i => (i.size, i.bytes)) = some (8, 136) := by kernel_rfl
end Go.Proofs.Ytclaabnjokkbjaa

/- What calls of package subst answer, where nothing of what is there will be written. -/
namespace Go.Proofs.Ytclaabnjokkbjaa
open Go.RowKit

def noB : Nat → Prop := fun _ => False
theorem SubV.noB {w : World} {v : Value} {m : Nat} {T : Int → Option Ty} {R : Int → Option (List Str × Int)} (h : SubV w v m T R) : SubV (blank noB w) v m T R :=
  h.keepL fun _ _ => blank_at (fun h => h)
theorem SubV.shape {w : World} {v : Value} {m : Nat} {T : Int → Option Ty} {R : Int → Option (List Str × Int)} (h : SubV w v m T R) : ∃ A1 n1 c1 A2 n2 c2, v = .agg #[.slice A1 n1 c1, .slice A2 n2 c2] := by
  obtain ⟨vt, vr, gt, gr, rfl, h1, h2, _⟩ := h
  obtain ⟨A1, n1, c1, rfl⟩ := h1.one
  obtain ⟨A2, n2, c2, rfl⟩ := h2.one
  exact ⟨_, _, _, _, _, _, rfl⟩
theorem TRV.form {w : World} {t : Ty} {l : List Value} (h : TRV w t l) : ∃ k nm v A3 n3 c3 A4 n4 c4 rv, l = [.int .i64 k, .string (ba nm), .int .i64 v, .slice A3 n3 c3, .slice A4 n4 c4, .int .i64 rv] := by
  obtain ⟨k, nm, v, kids, ls, rv⟩ := t
  obtain ⟨A3, n3, c3, A4, n4, c4, rfl⟩ := h.shape
  exact ⟨_, _, _, _, _, _, _, _, _, _, rfl⟩
theorem RwV.form {w : World} {r : List Str × Int} {l : List Value} (h : RwV w r l) : ∃ A n c rv, l = [.slice A n c, .int .i64 rv] := by
  obtain ⟨lv, rfl, h2, _⟩ := h
  obtain ⟨A, c, rfl, _⟩ := h2.form
  exact ⟨_, _, _, _, rfl⟩
theorem setT0 {w : World} {sv : Value} {m : Nat} {T : Int → Option Ty} {R : Int → Option (List Str × Int)} (hs : SubV w sv m T R) (hm : m ≤ 1000) (n : Int) (hn : i64ok n) (t : Ty) (l : List Value) (ht : TRV w t l) (hsz : t.size ≤ 1000) :
    Calls Try.prog 11 #[sv, .int .i64 n, .agg l.toArray] w fun e w' => ∃ A1 n1 c1 A2 n2 c2, e = .returned (.agg #[.slice A1 n1 c1, .slice A2 n2 c2]) ∧ SubV w' (.agg #[.slice A1 n1 c1, .slice A2 n2 c2]) (m + 1) (setF T n t) R ∧ Below w.heap.size w w' := by
  refine (setType_any noB w sv m T R hs.noB hm n hn t l ht hsz).mono ?_
  rintro e w' ⟨sv', rfl, h1, h2⟩
  have h3 := h1 w' ⟨Nat.le_refl _, fun _ _ _ => rfl⟩
  obtain ⟨A1, n1, c1, A2, n2, c2, rfl⟩ := h3.shape
  exact ⟨_, _, _, _, _, _, rfl, h3, h2⟩
theorem setR0 {w : World} {sv : Value} {m : Nat} {T : Int → Option Ty} {R : Int → Option (List Str × Int)} (hs : SubV w sv m T R) (hm : m ≤ 1000) (n : Int) (hn : i64ok n) (ls : List Str) (rv : Int) (l : List Value) (hr : RwV w (ls, rv) l) :
    Calls Try.prog 12 #[sv, .int .i64 n, .agg l.toArray] w fun e w' => ∃ A1 n1 c1 A2 n2 c2, e = .returned (.agg #[.slice A1 n1 c1, .slice A2 n2 c2]) ∧ SubV w' (.agg #[.slice A1 n1 c1, .slice A2 n2 c2]) (m + 1) T (setF R n (ls, rv)) ∧ Below w.heap.size w w' := by
  refine (setRow_any noB w sv m T R hs.noB hm n hn ls rv l hr).mono ?_
  rintro e w' ⟨sv', rfl, h1, h2⟩
  have h3 := h1 w' ⟨Nat.le_refl _, fun _ _ _ => rfl⟩
  obtain ⟨A1, n1, c1, A2, n2, c2, rfl⟩ := h3.shape
  exact ⟨_, _, _, _, _, _, rfl, h3, h2⟩
theorem typ0 {w : World} {sv : Value} {m : Nat} {T : Int → Option Ty} {R : Int → Option (List Str × Int)} (hs : SubV w sv m T R) (hm : m ≤ 1000000) (n : Int) (hn : i64ok n) (hsz : ∀ t, T n = some t → t.size ≤ 1000) :
    Calls Try.prog 13 #[sv, .int .i64 n] w fun e w' => ∃ k nm v A3 n3 c3 A4 n4 c4 rv, e = .returned (.tuple #[.agg #[.int .i64 k, .string (ba nm), .int .i64 v, .slice A3 n3 c3, .slice A4 n4 c4, .int .i64 rv], .bool (T n).isSome]) ∧
      TRV w' ((T n).getD zTy) [.int .i64 k, .string (ba nm), .int .i64 v, .slice A3 n3 c3, .slice A4 n4 c4, .int .i64 rv] ∧ Below w.heap.size w w' := by
  refine (type_any w sv m T R hs hm n hn hsz).mono ?_
  rintro e w' ⟨l, rfl, h1, h2⟩
  obtain ⟨k, nm, v, A3, n3, c3, A4, n4, c4, rv, rfl⟩ := h1.form
  exact ⟨_, _, _, _, _, _, _, _, _, _, rfl, h1, h2⟩
theorem row0 {w : World} {sv : Value} {m : Nat} {T : Int → Option Ty} {R : Int → Option (List Str × Int)} (hs : SubV w sv m T R) (hm : m ≤ 1000000) (n : Int) (hn : i64ok n) :
    Calls Try.prog 14 #[sv, .int .i64 n] w fun e w' => ∃ A1 n1 c1 rv, e = .returned (.tuple #[.agg #[.slice A1 n1 c1, .int .i64 rv], .bool (R n).isSome]) ∧ RwV w' ((R n).getD zRw) [.slice A1 n1 c1, .int .i64 rv] ∧ Below w.heap.size w w' := by
  refine (row_any w sv m T R hs hm n hn).mono ?_
  rintro e w' ⟨l, rfl, h1, h2⟩
  obtain ⟨A1, n1, c1, rv, rfl⟩ := h1.form
  exact ⟨_, _, _, _, rfl, h1, h2⟩
theorem app0 {w : World} {sv : Value} {m : Nat} {T : Int → Option Ty} {R : Int → Option (List Str × Int)} (hs : SubV w sv m T R) (hm : m ≤ 1000000) (t : Ty) (l : List Value) (ht : TRV w t l) (hrf : rowsFree R T t) (hp : pcsT T t ≤ 1000) :
    Calls Try.prog 19 #[sv, .agg l.toArray] w fun e w' => ∃ k nm v A3 n3 c3 A4 n4 c4 rv, e = .returned (.agg #[.int .i64 k, .string (ba nm), .int .i64 v, .slice A3 n3 c3, .slice A4 n4 c4, .int .i64 rv]) ∧
      TRV w' (apT T t) [.int .i64 k, .string (ba nm), .int .i64 v, .slice A3 n3 c3, .slice A4 n4 c4, .int .i64 rv] ∧ Below w.heap.size w w' := by
  refine (apply_any w sv m T R hs hm t l ht hrf hp).mono ?_
  rintro e w' ⟨l, rfl, h1, h2⟩
  have h3 := (h1 w' ⟨Nat.le_refl _, fun _ _ _ => rfl⟩).trv
  obtain ⟨k, nm, v, A3, n3, c3, A4, n4, c4, rv, rfl⟩ := h3.form
  exact ⟨_, _, _, _, _, _, _, _, _, _, rfl, h3, h2⟩
theorem zTy_trv (w : World) : TRV w zTy [.int .i64 0, .string (ba []), .int .i64 0, .slice none 0 0, .slice none 0 0, .int .i64 0] :=
  ⟨_, _, rfl, .inl ⟨rfl, rfl⟩, ⟨.inl ⟨rfl, rfl⟩, Nat.zero_le _⟩, ⟨i64ok_of (by omega) (by omega), i64ok_of (by omega) (by omega), i64ok_of (by omega) (by omega)⟩, fun i t h => by simp at h⟩
end Go.Proofs.Ytclaabnjokkbjaa

/- The law's own makers of types. -/
namespace Go.Proofs.Ytclaabnjokkbjaa
open Go.RowKit

def tvT8 (n : Int) : Ty := .mk 7 [] n [] [] 0
def intT8 : Ty := .mk 1 [] 0 [] [] 0
def fnT8 (a b : Ty) : Ty := .mk 5 [] 0 [a, b] [] 0
theorem i64s (n : Int) (h : -9223372036854775808 ≤ n) (h2 : n ≤ 9223372036854775807) : i64ok n := i64ok_of h h2
theorem leaf_tfv (w : World) (k n : Int) (hk : i64ok k) (hn : i64ok n) : TFV w (.mk k [] n [] [] 0) [.int .i64 k, .string ⟨#[]⟩, .int .i64 n, .slice none 0 0, .slice none 0 0, .int .i64 0] :=
  ⟨.slice none 0 0, .slice none 0 0, rfl, .inl ⟨rfl, rfl⟩, ⟨.inl ⟨rfl, rfl⟩, by simp⟩, ⟨hk, hn, i64s 0 (by omega) (by omega)⟩, fun i t h => by simp at h⟩
theorem TFV.atF {w : World} {t : Ty} {l : List Value} (h : TFV w t l) {a : Addr} (h0 : a.spot = none) (hat : AtCells w a) (hr : ReadsAt w a l) : TF w a t := by
  obtain ⟨k, nm, v, kids, ls, rv⟩ := t
  obtain ⟨kv, lv, rfl, h1, h2, h3, h4⟩ := h
  exact .mk a k nm v kids ls rv kv lv h0 hat hr h1 h2 h3 h4
set_option maxRecDepth 100000 in
theorem tvar8_any (w : World) (n : Int) : Calls Try.prog 43 #[.int .i64 n] w fun e w' => e = .returned (.agg #[.int .i64 7, .string ⟨#[]⟩, .int .i64 n, .slice none 0 0, .slice none 0 0, .int .i64 0]) ∧ Below w.heap.size w w' := by
  go_enter Try.func43, Try.ntmps43
  go_wp2
  refine bodyPost_ret (results_cell_row rfl _ _ w.heap.size 28 _ (0, 0) _ rfl (Lies.new w 28 #[.int .i64 7, .string ⟨#[]⟩, .int .i64 n, .slice none 0 0, .slice none 0 0, .int .i64 0]) Try.underlying28 rfl (by kernel_rfl)) rfl ?_
  exact ⟨rfl, below_new w _⟩
set_option maxRecDepth 100000 in
set_option maxHeartbeats 8000000 in
theorem fun8_any (w : World) (ta tb : Ty) (la lb : List Value) (ha : TFV w ta la) (hb : TFV w tb lb) :
    Calls Try.prog 44 #[.agg la.toArray, .agg lb.toArray] w fun e w' => ∃ l g, l = [.int .i64 5, .string ⟨#[]⟩, .int .i64 0, .slice (some ⟨g, 0, none⟩) 2 2, .slice none 0 0, .int .i64 0] ∧ e = .returned (.agg l.toArray) ∧ TFV w' (fnT8 ta tb) l ∧ Below w.heap.size w w' := by
  have ha0 := ha
  have hb0 := hb
  obtain ⟨k1, nm1, v1, k1s, l1s, r1⟩ := ta
  obtain ⟨k2, nm2, v2, k2s, l2s, r2⟩ := tb
  obtain ⟨A1, n1, c1, B1, m1, d1, rfl⟩ := ha.trv.shape
  obtain ⟨A2, n2, c2, B2, m2, d2, rfl⟩ := hb.trv.shape
  have HA := Lib.hid ha0
  have HB := Lib.hid hb0
  unfold tyC
  clear ha hb ha0 hb0
  go_enter Try.func44, Try.ntmps44
  go_wp2_with fail
  obtain ⟨Y, hY⟩ : ∃ Y, Y = (((w.alloc (.cells #[.int .i64 k1, .string (ba nm1), .int .i64 v1, .slice A1 n1 c1, .slice B1 m1 d1, .int .i64 r1] 28)).alloc (.cells #[.int .i64 k2, .string (ba nm2), .int .i64 v2, .slice A2 n2 c2, .slice B2 m2 d2, .int .i64 r2] 28)).alloc (.cells #[.int .i64 5, .string ⟨#[]⟩, .int .i64 0, .slice (some ⟨w.heap.size + 1 + 1 + 1, 0, none⟩) 2 2, .slice none 0 0, .int .i64 0] 28)) := ⟨_, rfl⟩
  have hsY : Y.heap.size = w.heap.size + 1 + 1 + 1 := by rw [hY]; simp
  have hbY : Below w.heap.size w Y := by rw [hY]; exact (((Below.refl _ w).alloc (Nat.le_refl _) _).alloc (by simp) _).alloc (by simp; omega) _
  have hlY : Lies Y (w.heap.size + 1 + 1) 28 #[.int .i64 5, .string ⟨#[]⟩, .int .i64 0, .slice (some ⟨w.heap.size + 1 + 1 + 1, 0, none⟩) 2 2, .slice none 0 0, .int .i64 0] := by rw [hY]; exact Lies.new' _ _ _ (by simp)
  rw [← hY]
  clear hY
  obtain ⟨Z, hZ⟩ : ∃ Z, Z = Y.alloc (.cells #[.int .i64 k1, .string (ba nm1), .int .i64 v1, .slice A1 n1 c1, .slice B1 m1 d1, .int .i64 r1, .int .i64 k2, .string (ba nm2), .int .i64 v2, .slice A2 n2 c2, .slice B2 m2 d2, .int .i64 r2] 28) := ⟨_, rfl⟩
  have hbZ : Below w.heap.size w Z := by rw [hZ]; exact hbY.trans ((below_new Y _).mono hbY.size)
  have hlZ : Lies Z (w.heap.size + 1 + 1 + 1) 28 #[.int .i64 k1, .string (ba nm1), .int .i64 v1, .slice A1 n1 c1, .slice B1 m1 d1, .int .i64 r1, .int .i64 k2, .string (ba nm2), .int .i64 v2, .slice A2 n2 c2, .slice B2 m2 d2, .int .i64 r2] := by rw [hZ, ← hsY]; exact Lies.new _ _ _
  have hkZ : Lies Z (w.heap.size + 1 + 1) 28 #[.int .i64 5, .string ⟨#[]⟩, .int .i64 0, .slice (some ⟨w.heap.size + 1 + 1 + 1, 0, none⟩) 2 2, .slice none 0 0, .int .i64 0] := by rw [hZ]; exact hlY.later (below_new Y _)
  rw [← hZ]
  refine bodyPost_ret (results_cell_row rfl _ _ (w.heap.size + 1 + 1) 28 _ (0, 0) _ rfl hkZ Try.underlying28 rfl (by kernel_rfl)) rfl ?_
  refine ⟨_, w.heap.size + 1 + 1 + 1, rfl, rfl, ⟨_, _, rfl, .inr ⟨w.heap.size + 1 + 1 + 1, rfl, by simp, ⟨_, _, hlZ⟩⟩, ⟨.inl ⟨rfl, rfl⟩, by simp⟩, ⟨i64s 5 (by omega) (by omega), i64s 0 (by omega) (by omega), i64s 0 (by omega) (by omega)⟩, fun i t ht => ?_⟩, hbZ⟩
  have hcell := hlZ.cell
  match i, ht with
  | 0, ht =>
    have e : t = Ty.mk k1 nm1 v1 k1s l1s r1 := by simpa using ht.symm
    subst e
    refine (HA.out.keep hbZ.block).atF rfl ⟨_, _, hlZ⟩ fun j u hu => ?_
    have hj := (List.getElem?_eq_some_iff.1 hu).1
    have hj : j < 6 := hj
    show Z.cell? ⟨w.heap.size + 1 + 1 + 1, 0 + 0 * 6 + j, none⟩ = some u
    rw [show 0 + 0 * 6 + j = j by omega, hcell]
    match j, hj, hu with
    | 0, _, hu => exact hu
    | 1, _, hu => exact hu
    | 2, _, hu => exact hu
    | 3, _, hu => exact hu
    | 4, _, hu => exact hu
    | 5, _, hu => exact hu
  | 1, ht =>
    have e : t = Ty.mk k2 nm2 v2 k2s l2s r2 := by simpa using ht.symm
    subst e
    refine (HB.out.keep hbZ.block).atF rfl ⟨_, _, hlZ⟩ fun j u hu => ?_
    have hj := (List.getElem?_eq_some_iff.1 hu).1
    have hj : j < 6 := hj
    show Z.cell? ⟨w.heap.size + 1 + 1 + 1, 0 + 1 * 6 + j, none⟩ = some u
    rw [hcell]
    match j, hj, hu with
    | 0, _, hu => exact hu
    | 1, _, hu => exact hu
    | 2, _, hu => exact hu
    | 3, _, hu => exact hu
    | 4, _, hu => exact hu
    | 5, _, hu => exact hu
  | i + 2, ht => simp at ht
end Go.Proofs.Ytclaabnjokkbjaa
