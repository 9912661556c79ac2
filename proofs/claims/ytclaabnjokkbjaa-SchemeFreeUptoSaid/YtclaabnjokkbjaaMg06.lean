/- Types that are read; what a substitution says; what becomes of a type. -/
import Derived.Test.YtclaabnjokkbjaaSbeT
import Derived.Test.YtclaabnjokkbjaaSbeR
import Derived.Test.YtclaabnjokkbjaaMg00
import Derived.Outline
namespace Go.Proofs.Ytclaabnjokkbjaa
open Go.RowKit

def encS (s : Str) : Value := .string (ba s)
/-- Strings that are read. -/
def StrR (w : World) (v : Value) (ls : List Str) : Prop := SrcV w v (ls.map encS) ∧ ls.length ≤ 2000000
/-- A list's value. -/
def SlR (v : Value) (n : Nat) : Prop := (v = .slice none 0 0 ∧ n = 0) ∨ ∃ ad c, v = .slice (some ad) n c ∧ n ≤ c ∧ (0 < n → ad.spot = none)
def oks (k v rv : Int) : Prop := i64ok k ∧ i64ok v ∧ i64ok rv
/-- A type is read at an address. -/
inductive TR (w : World) : Addr → Ty → Prop
  | mk (a : Addr) (k : Int) (nm : Str) (v : Int) (kids : List Ty) (ls : List Str) (rv : Int) (kv lv : Value) (h0 : a.spot = none) (hr : ReadsAt w a (tyC k nm v kv lv rv))
      (hk : SlR kv kids.length) (hl : StrR w lv ls) (hi : oks k v rv) (hks : ∀ (i : Nat) t, kids[i]? = some t → TR w (kidAt kv i) t) : TR w a (.mk k nm v kids ls rv)
/-- A type's cells. -/
def TRV (w : World) (t : Ty) (l : List Value) : Prop :=
  match t with
  | .mk k nm v kids ls rv => ∃ kv lv, l = tyC k nm v kv lv rv ∧ SlR kv kids.length ∧ StrR w lv ls ∧ oks k v rv ∧ ∀ (i : Nat) t, kids[i]? = some t → TR w (kidAt kv i) t
/-- A row's cells. -/
def RwV (w : World) (r : List Str × Int) (l : List Value) : Prop := ∃ lv, l = [lv, .int .i64 r.2] ∧ StrR w lv r.1 ∧ i64ok r.2
theorem StrR.keep {w w' : World} {v : Value} {ls : List Str} (h : StrR w v ls) (hk : ∀ g, g < w.heap.size → w'.heap[g]? = w.heap[g]?) : StrR w' v ls := ⟨h.1.keep hk, h.2⟩
theorem reads_block {w : World} {a : Addr} {l : List Value} (h : ReadsAt w a l) (h0 : 0 < l.length) : a.block < w.heap.size := by
  have := h 0 (l[0]'h0) (List.getElem?_eq_getElem h0)
  exact World.block_lt_of_cell? w ⟨a.block, a.off + 0, none⟩ this
theorem TR.keep {w w' : World} (hk : ∀ g, g < w.heap.size → w'.heap[g]? = w.heap[g]?) {a : Addr} {t : Ty} (h : TR w a t) : TR w' a t := by
  induction h with
  | mk a k nm v kids ls rv kv lv h0 hr hsl hl hi _ ih =>
    exact .mk a k nm v kids ls rv kv lv h0 (hr.keep (hk _ (reads_block hr (by simp [tyC])))) hsl (hl.keep hk) hi ih
theorem TR.later {w w' : World} {a : Addr} {t : Ty} (h : TR w a t) (hb : Below w.heap.size w w') : TR w' a t := h.keep hb.block
theorem TRV.keep {w w' : World} (hk : ∀ g, g < w.heap.size → w'.heap[g]? = w.heap[g]?) {t : Ty} {l : List Value} (h : TRV w t l) : TRV w' t l := by
  obtain ⟨k, nm, v, kids, ls, rv⟩ := t
  obtain ⟨kv, lv, h1, h2, h3, h4, h5⟩ := h
  exact ⟨kv, lv, h1, h2, h3.keep hk, h4, fun i t ht => (h5 i t ht).keep hk⟩
theorem TRV.later {w w' : World} {t : Ty} {l : List Value} (h : TRV w t l) (hb : Below w.heap.size w w') : TRV w' t l := h.keep hb.block
theorem TRV.at_ {w : World} {t : Ty} {l : List Value} (h : TRV w t l) {a : Addr} (h0 : a.spot = none) (hr : ReadsAt w a l) : TR w a t := by
  obtain ⟨k, nm, v, kids, ls, rv⟩ := t
  obtain ⟨kv, lv, rfl, h1, h2, h3, h4⟩ := h
  exact .mk a k nm v kids ls rv kv lv h0 hr h1 h2 h3 h4
theorem TR.open {w : World} {a : Addr} {t : Ty} (h : TR w a t) : ∃ l, a.spot = none ∧ ReadsAt w a l ∧ TRV w t l := by
  cases h with
  | mk _ k nm v kids ls rv kv lv h0 hr hk hl hi hks => exact ⟨_, h0, hr, kv, lv, rfl, hk, hl, hi, hks⟩
theorem TRV.len {w : World} {t : Ty} {l : List Value} (h : TRV w t l) : l.length = 6 := by
  obtain ⟨k, nm, v, kids, ls, rv⟩ := t
  obtain ⟨kv, lv, rfl, _⟩ := h
  rfl
theorem StrR.one {w : World} {v : Value} {ls : List Str} (h : StrR w v ls) : v.oneCell' = true := by
  rcases h.1 with ⟨rfl, _⟩ | ⟨_, _, rfl, _⟩ <;> rfl
theorem SlR.one {v : Value} {n : Nat} (h : SlR v n) : v.oneCell' = true := by
  rcases h with ⟨rfl, _⟩ | ⟨_, _, rfl, _⟩ <;> rfl
theorem TRV.fit {w : World} {t : Ty} {l : List Value} (h : TRV w t l) : Fit1 6 l.toArray := by
  have hl := h.len
  obtain ⟨k, nm, v, kids, ls, rv⟩ := t
  obtain ⟨kv, lv, rfl, h1, h2, _⟩ := h
  refine ⟨by simpa using hl, ?_⟩
  simp [tyC, Value.oneCell']
  exact ⟨h1.one, h2.one⟩
theorem RwV.keep {w w' : World} (hk : ∀ g, g < w.heap.size → w'.heap[g]? = w.heap[g]?) {r : List Str × Int} {l : List Value} (h : RwV w r l) : RwV w' r l := by
  obtain ⟨lv, h1, h2, h3⟩ := h
  exact ⟨lv, h1, h2.keep hk, h3⟩

/-- What is said of a variable, if a type is one. -/
def insT (T : Int → Option Ty) (k v : Int) : Option Ty := if k = 7 then T v else none
mutual
/-- A type with what is said in the stead of its variables. -/
def apT (T : Int → Option Ty) : Ty → Ty
  | .mk k nm v kids ls rv => match insT T k v with | some u => u | none => .mk k nm v (apTL T kids) ls rv
def apTL (T : Int → Option Ty) : List Ty → List Ty
  | [] => []
  | t :: r => apT T t :: apTL T r
end
mutual
/-- How many pieces that has. -/
def pcsT (T : Int → Option Ty) : Ty → Nat
  | .mk k _ v kids _ _ => match insT T k v with | some u => u.size | none => 1 + pcsTL T kids
def pcsTL (T : Int → Option Ty) : List Ty → Nat
  | [] => 0
  | t :: r => pcsT T t + pcsTL T r
end
mutual
/-- Nothing is said of the variables of its rows. -/
def rowsFree (R : Int → Option (List Str × Int)) (T : Int → Option Ty) : Ty → Prop
  | .mk k _ v kids _ rv => (insT T k v).isSome = true ∨ ((rv = 0 ∨ R rv = none) ∧ rowsFreeL R T kids)
def rowsFreeL (R : Int → Option (List Str × Int)) (T : Int → Option Ty) : List Ty → Prop
  | [] => True
  | t :: r => rowsFree R T t ∧ rowsFreeL R T r
end
def T0 : Int → Option Ty := fun _ => none
def R0 : Int → Option (List Str × Int) := fun _ => none
theorem insT0 (k v : Int) : insT T0 k v = none := by unfold insT T0; split <;> rfl
theorem apTL_map (T : Int → Option Ty) : ∀ l, apTL T l = l.map (apT T)
  | [] => rfl
  | t :: r => by simp only [apTL, List.map_cons, apTL_map T r]
mutual
theorem apT0 : ∀ t, apT T0 t = t
  | .mk k nm v kids ls rv => by simp only [apT, insT0, apTL0 kids]
theorem apTL0 : ∀ l, apTL T0 l = l
  | [] => rfl
  | t :: r => by simp only [apTL, apT0 t, apTL0 r]
end
mutual
theorem pcsT0 : ∀ t, pcsT T0 t = t.size
  | .mk k nm v kids ls rv => by simp only [pcsT, insT0, pcsTL0 kids, Ty.size]
theorem pcsTL0 : ∀ l, pcsTL T0 l = Ty.sizeL l
  | [] => rfl
  | t :: r => by simp only [pcsTL, pcsT0 t, pcsTL0 r, Ty.sizeL]
end
mutual
theorem rowsFree0 (T : Int → Option Ty) : ∀ t, rowsFree R0 T t
  | .mk k nm v kids ls rv => by simp only [rowsFree]; exact .inr ⟨.inr rfl, rowsFreeL0 T kids⟩
theorem rowsFreeL0 (T : Int → Option Ty) : ∀ l, rowsFreeL R0 T l
  | [] => trivial
  | t :: r => ⟨rowsFree0 T t, rowsFreeL0 T r⟩
end

/-- A list of layers says g; m of them, with m numbers, at most. -/
def SaidV (w : World) (k : Nat) (v : Value) (m : Nat) (g : GMap) : Prop :=
  ∃ zs : List Ly, SrcV w v (zs.map lyV) ∧ (∀ l ∈ zs, MapI w k l.1 l.2.1 l.2.2) ∧ lySum zs ≤ m ∧ zs.length ≤ m ∧ ∀ n, i64ok n → lyOver zs n = g n
/-- What is said, as types. -/
def TM (w : World) (T : Int → Option Ty) (g : GMap) : Prop := ∀ n, i64ok n → match T n with | none => g n = none | some t => ∃ l, g n = some l.toArray ∧ TRV w t l
/-- What is said, as rows. -/
def RM (w : World) (R : Int → Option (List Str × Int)) (g : GMap) : Prop := ∀ n, i64ok n → match R n with | none => g n = none | some r => ∃ l, g n = some l.toArray ∧ RwV w r l
/-- A substitution: what it says of type variables, and of row variables. -/
def SubV (w : World) (v : Value) (m : Nat) (T : Int → Option Ty) (R : Int → Option (List Str × Int)) : Prop :=
  ∃ vt vr gt gr, v = .agg #[vt, vr] ∧ SaidV w 6 vt m gt ∧ SaidV w 2 vr m gr ∧ TM w T gt ∧ RM w R gr
theorem SaidV.keep {w w' : World} {k m : Nat} {v : Value} {g : GMap} (h : SaidV w k v m g) (hk : ∀ g, g < w.heap.size → w'.heap[g]? = w.heap[g]?) : SaidV w' k v m g := by
  obtain ⟨zs, h1, h2, h3, h4, h5⟩ := h
  exact ⟨zs, h1.keep hk, fun l hl => (h2 l hl).keep (hk _ (h2 l hl).lt), h3, h4, h5⟩
theorem TM.keep {w w' : World} {T : Int → Option Ty} {g : GMap} (h : TM w T g) (hk : ∀ g, g < w.heap.size → w'.heap[g]? = w.heap[g]?) : TM w' T g := by
  intro n hn
  have h1 := h n hn
  cases hT : T n with
  | none => rw [hT] at h1; exact h1
  | some t =>
    rw [hT] at h1
    obtain ⟨l, h2, h3⟩ := h1
    exact ⟨l, h2, h3.keep hk⟩
theorem RM.keep {w w' : World} {R : Int → Option (List Str × Int)} {g : GMap} (h : RM w R g) (hk : ∀ g, g < w.heap.size → w'.heap[g]? = w.heap[g]?) : RM w' R g := by
  intro n hn
  have h1 := h n hn
  cases hT : R n with
  | none => rw [hT] at h1; exact h1
  | some t =>
    rw [hT] at h1
    obtain ⟨l, h2, h3⟩ := h1
    exact ⟨l, h2, h3.keep hk⟩
theorem SubV.keep {w w' : World} {v : Value} {m : Nat} {T : Int → Option Ty} {R : Int → Option (List Str × Int)} (h : SubV w v m T R) (hk : ∀ g, g < w.heap.size → w'.heap[g]? = w.heap[g]?) : SubV w' v m T R := by
  obtain ⟨vt, vr, gt, gr, h1, h2, h3, h4, h5⟩ := h
  exact ⟨vt, vr, gt, gr, h1, h2.keep hk, h3.keep hk, h4.keep hk, h5.keep hk⟩
theorem SubV.later {w w' : World} {v : Value} {m : Nat} {T : Int → Option Ty} {R : Int → Option (List Str × Int)} (h : SubV w v m T R) (hb : Below w.heap.size w w') : SubV w' v m T R := h.keep hb.block
theorem SaidV.none (w : World) (k m : Nat) : SaidV w k (.slice none 0 0) m noG := ⟨[], .inl ⟨rfl, rfl⟩, fun _ h => (by cases h), Nat.zero_le _, Nat.zero_le _, fun _ _ => rfl⟩
def noneV : Value := .agg #[.slice none 0 0, .slice none 0 0]
theorem SubV.none (w : World) (m : Nat) : SubV w noneV m T0 R0 := ⟨_, _, noG, noG, rfl, .none w 6 m, .none w 2 m, fun _n _ => rfl, fun _n _ => rfl⟩
theorem SubV.mono {w : World} {v : Value} {m m' : Nat} {T : Int → Option Ty} {R : Int → Option (List Str × Int)} (h : SubV w v m T R) (hm : m ≤ m') : SubV w v m' T R := by
  obtain ⟨vt, vr, gt, gr, h1, ⟨zs, a1, a2, a3, a4, a5⟩, ⟨ys, b1, b2, b3, b4, b5⟩, h4, h5⟩ := h
  exact ⟨vt, vr, gt, gr, h1, ⟨zs, a1, a2, by omega, by omega, a5⟩, ⟨ys, b1, b2, by omega, by omega, b5⟩, h4, h5⟩

set_option maxRecDepth 100000 in
theorem none_any (w : World) : Calls Try.prog 25 #[] w fun e w' => e = .returned noneV ∧ Below w.heap.size w w' := by
  have n0 := Lies.new w 38 #[.slice none 0 0, .slice none 0 0]
  have hb := below_new w (.cells #[.slice none 0 0, .slice none 0 0] 38)
  unfold noneV
  go_enter Try.func25, Try.ntmps25
  go_wp2
  refine bodyPost_ret (results_cell_row rfl _ _ w.heap.size 38 _ (0, 0) _ rfl n0 Try.underlying38 rfl (by kernel_rfl)) rfl ?_
  exact ⟨rfl, hb⟩
end Go.Proofs.Ytclaabnjokkbjaa

/- The reference's Vars: what it answers; what is closed stays. -/
namespace Go.Proofs.Ytclaabnjokkbjaa
open Go.RowKit

def withL (L : List Int) (n : Int) : List Int := if n ∈ L then L else L ++ [n]
abbrev LL2 := List Int × List Int
def varsF (k rv : Int) (f : Bool) (s : LL2) : LL2 := if f = true ∧ k = 5 ∧ 0 < rv then (s.1, withL s.2 rv) else s
mutual
def varsT : Ty → LL2 → LL2
  | .mk k _ v kids _ rv, s => varsTL k rv true kids (if k = 7 then (withL s.1 v, s.2) else s)
def varsTL (k rv : Int) (f : Bool) : List Ty → LL2 → LL2
  | [], s => s
  | t :: r, s => varsTL k rv false r (varsF k rv f (varsT t s))
end
theorem withL_len (L : List Int) (n : Int) : (withL L n).length ≤ L.length + 1 := by unfold withL; split <;> simp
theorem withL_mem (L : List Int) (n : Int) : n ∈ withL L n := by unfold withL; split <;> simp_all
theorem withL_sub {L : List Int} {n x : Int} (h : x ∈ L) : x ∈ withL L n := by unfold withL; split <;> simp_all
theorem withL_all {L : List Int} {n : Int} {P : Int → Prop} (h : ∀ x ∈ L, P x) (hn : P n) : ∀ x ∈ withL L n, P x := by
  intro x hx
  unfold withL at hx
  split at hx
  · exact h x hx
  · rcases List.mem_append.1 hx with hx | hx
    · exact h x hx
    · rw [List.mem_singleton.1 hx]; exact hn
theorem varsF_len (k rv : Int) (f : Bool) (s : LL2) : (varsF k rv f s).1.length ≤ s.1.length + 1 ∧ (varsF k rv f s).2.length ≤ s.2.length + 1 := by
  unfold varsF
  split
  · exact ⟨by simp, withL_len _ _⟩
  · exact ⟨by omega, by omega⟩
theorem varsF_false (k rv : Int) (s : LL2) : varsF k rv false s = s := if_neg (by simp)
theorem varsF_fst (k rv : Int) (f : Bool) (s : LL2) : (varsF k rv f s).1 = s.1 := by unfold varsF; split <;> rfl
mutual
theorem varsT_len : ∀ (t : Ty) (s : LL2), (varsT t s).1.length ≤ s.1.length + t.size ∧ (varsT t s).2.length ≤ s.2.length + t.size
  | .mk k nm v kids ls rv, s => by
    have h1 := varsTL_len k rv true kids (if k = 7 then (withL s.1 v, s.2) else s)
    have h2 := withL_len s.1 v
    simp only [varsT, Ty.size]
    have e1 : (if k = 7 then (withL s.1 v, s.2) else s).1.length ≤ s.1.length + 1 := by split <;> simp [h2]
    have e3 : (if true = true then 1 else 0 : Nat) = 1 := rfl
    rw [e3] at h1
    have e2 : (if k = 7 then (withL s.1 v, s.2) else s).2.length ≤ s.2.length := by split <;> simp
    omega
theorem varsTL_len (k rv : Int) : ∀ (f : Bool) (l : List Ty) (s : LL2), (varsTL k rv f l s).1.length ≤ s.1.length + Ty.sizeL l ∧ (varsTL k rv f l s).2.length ≤ s.2.length + Ty.sizeL l + (if f = true then 1 else 0)
  | f, [], s => by simp [varsTL, Ty.sizeL]
  | f, t :: r, s => by
    have h1 := varsT_len t s
    have h3 := varsTL_len k rv false r (varsF k rv f (varsT t s))
    have h4 := varsF_fst k rv f (varsT t s)
    have h2 := (varsF_len k rv f (varsT t s)).2
    simp only [varsTL, Ty.sizeL]
    rw [h4] at h3
    simp only [Bool.false_eq_true, if_false] at h3
    cases f
    · rw [varsF_false] at h3 ⊢
      simp
      omega
    · simp
      omega
end
theorem varsTL_snoc (k rv : Int) (t : Ty) : ∀ (l : List Ty) (f : Bool) (s : LL2), varsTL k rv f (l ++ [t]) s = varsF k rv (f && l.isEmpty) (varsT t (varsTL k rv f l s))
  | [], f, s => by simp [varsTL]
  | u :: r, f, s => by
    simp only [List.cons_append, varsTL, varsTL_snoc k rv t r, List.isEmpty_cons, Bool.and_false, Bool.false_and]
mutual
theorem varsT_all {P : Int → Prop} : ∀ (t : Ty) (s : LL2), (∀ x ∈ s.1, x ∈ (varsT t s).1) ∧ ∀ x ∈ s.2, x ∈ (varsT t s).2
  | .mk k nm v kids ls rv, s => by
    have h1 := varsTL_all (P := P) k rv true kids (if k = 7 then (withL s.1 v, s.2) else s)
    simp only [varsT]
    refine ⟨fun x hx => h1.1 x ?_, fun x hx => h1.2 x ?_⟩
    · split
      · exact withL_sub hx
      · exact hx
    · split <;> exact hx
theorem varsTL_all {P : Int → Prop} (k rv : Int) : ∀ (f : Bool) (l : List Ty) (s : LL2), (∀ x ∈ s.1, x ∈ (varsTL k rv f l s).1) ∧ ∀ x ∈ s.2, x ∈ (varsTL k rv f l s).2
  | f, [], s => ⟨fun _ h => h, fun _ h => h⟩
  | f, t :: r, s => by
    have h1 := varsT_all (P := P) t s
    have h3 := varsTL_all (P := P) k rv false r (varsF k rv f (varsT t s))
    have h4 := varsF_fst k rv f (varsT t s)
    simp only [varsTL]
    refine ⟨fun x hx => h3.1 x (by rw [h4]; exact h1.1 x hx), fun x hx => h3.2 x ?_⟩
    unfold varsF
    split
    · exact withL_sub (h1.2 x hx)
    · exact h1.2 x hx
end
/-- No label comes ahead of the one before it. -/
def RiseS (ls : List Str) : Prop := ∀ (i : Nat) a b, ls[i]? = some a → ls[i + 1]? = some b → ¬ b < a
mutual
/-- What is right has no row variable but at a function, and its labels in order. -/
def RightP : Ty → Prop
  | .mk k _ _ kids ls rv => ((rv = 0 ∨ (k = 5 ∧ kids.length = 2 ∧ 0 ≤ rv)) ∧ RiseS ls) ∧ RightPL kids
def RightPL : List Ty → Prop
  | [] => True
  | t :: r => RightP t ∧ RightPL r
end
theorem RightPL_iff : ∀ l : List Ty, RightPL l ↔ ∀ t ∈ l, RightP t
  | [] => by simp [RightPL]
  | t :: r => by simp [RightPL, RightPL_iff r]
mutual
theorem closed_ap {T : Int → Option Ty} {R : Int → Option (List Str × Int)} : ∀ (t : Ty) (s : LL2), RightP t → (∀ x ∈ (varsT t s).1, T x = none) → (∀ x ∈ (varsT t s).2, R x = none) → apT T t = t ∧ pcsT T t = t.size ∧ rowsFree R T t
  | .mk k nm v kids ls rv, s, hR, hT, hRr => by
    simp only [RightP] at hR
    simp only [varsT] at hT hRr
    have hins : insT T k v = none := by
      unfold insT
      split
      · rename_i hk
        refine hT v ((varsTL_all (P := fun _ => True) k rv true kids _).1 v ?_)
        rw [if_pos hk]
        exact withL_mem _ _
      · rfl
    obtain ⟨h1, h2, h3⟩ := closed_apL kids _ hR.2 (k := k) (rv := rv) (f := true) hT hRr
    refine ⟨by simp only [apT, hins, h1], by simp only [pcsT, hins, h2, Ty.size], ?_⟩
    simp only [rowsFree]
    refine .inr ⟨?_, h3⟩
    rcases hR.1.1 with h | ⟨hk, hl, h0⟩
    · exact .inl h
    · rcases Int.lt_or_eq_of_le h0 with h | h
      · match kids, hl with
        | t :: r, _ =>
          refine .inr (hRr rv ?_)
          simp only [varsTL]
          refine (varsTL_all (P := fun _ => True) k rv false r _).2 rv ?_
          unfold varsF
          rw [if_pos ⟨rfl, hk, h⟩]
          exact withL_mem _ _
      · exact .inl h.symm
theorem closed_apL {T : Int → Option Ty} {R : Int → Option (List Str × Int)} {k rv : Int} : ∀ (l : List Ty) (s : LL2), RightPL l → ∀ {f : Bool}, (∀ x ∈ (varsTL k rv f l s).1, T x = none) → (∀ x ∈ (varsTL k rv f l s).2, R x = none) → apTL T l = l ∧ pcsTL T l = Ty.sizeL l ∧ rowsFreeL R T l
  | [], s, _, f, _, _ => ⟨rfl, rfl, trivial⟩
  | t :: r, s, hR, f, hT, hRr => by
    simp only [RightPL] at hR
    simp only [varsTL] at hT hRr
    obtain ⟨h1, h2, h3⟩ := closed_ap t s hR.1 (fun x hx => hT x ((varsTL_all (P := fun _ => True) k rv false r _).1 x (by rw [varsF_fst]; exact hx)))
      (fun x hx => hRr x ((varsTL_all (P := fun _ => True) k rv false r _).2 x (by unfold varsF; split; exact withL_sub hx; exact hx)))
    obtain ⟨h4, h5, h6⟩ := closed_apL r _ hR.2 (f := false) hT hRr
    exact ⟨by simp only [apTL, h1, h4], by simp only [pcsTL, Ty.sizeL, h2, h5], by simp only [rowsFreeL]; exact ⟨h3, h6⟩⟩
end
end Go.Proofs.Ytclaabnjokkbjaa

/- Whether a place is met for the first time. -/
namespace Go.Proofs.Ytclaabnjokkbjaa
open Go.RowKit

def addU (M : List Addr) (d : Addr) : List Addr := if d ∈ M then M else M ++ [d]
def ptrV (a : Addr) : Value := .pointer (some a)
theorem mem_addU {M : List Addr} {d x : Addr} : x ∈ addU M d ↔ x ∈ M ∨ x = d := by
  unfold addU
  split
  · constructor
    · exact .inl
    · rintro (h | rfl) <;> assumption
  · simp
theorem mem_addUs {x : Addr} : ∀ (l M : List Addr), x ∈ l.foldl addU M ↔ x ∈ M ∨ x ∈ l
  | [], M => by simp
  | d :: l, M => by
    rw [List.foldl_cons, mem_addUs l, mem_addU]
    simp [or_assoc]
theorem sub_addUs : ∀ (l M : List Addr), (l.foldl addU M).Sublist (M ++ l)
  | [], M => by simp
  | d :: l, M => by
    rw [List.foldl_cons]
    refine (sub_addUs l (addU M d)).trans ?_
    unfold addU
    split
    · exact List.Sublist.append (List.Sublist.refl _) (List.sublist_cons_self _ _)
    · rw [List.append_assoc]; exact List.Sublist.refl _
theorem len_addUs (l M : List Addr) : (l.foldl addU M).length ≤ M.length + l.length := by
  have := (sub_addUs l M).length_le
  simpa using this
theorem zero_unit (w : World) : (zeroValue 117).run Try.prog w = .ok (.agg #[]) w := by go_simp
theorem info_ptr : (Try.prog.info? 125).map (fun i => (i.zero, i.size, i.bytes)) = some (some (.pointer none), 1, 8) := by kernel_rfl
theorem info_ty : (Try.prog.info? 28).map (fun i => i.size) = some 6 := by kernel_rfl
theorem size_type : ∃ inf, Try.prog.info? 28 = some inf ∧ inf.size ≠ 0 := by
  have h := info_ty
  cases hq : Try.prog.info? 28 with
  | none => rw [hq] at h; cases h
  | some ie =>
    rw [hq] at h
    simp only [Option.map_some, Option.some.injEq] at h
    exact ⟨ie, rfl, by omega⟩
/-- The set of places in a block. -/
def Sn (w : World) (b : Nat) (M : List Addr) : Prop := PtrSet w (.agg #[]) b M ∧ ∀ x ∈ M, AtCells w x
theorem Sn.lt {w : World} {b : Nat} {M : List Addr} (h : Sn w b M) : b < w.heap.size := h.1.lt
theorem Sn.keep {w w' : World} {b : Nat} {M : List Addr} (h : Sn w b M) (hk : ∀ g, g < w.heap.size → w'.heap[g]? = w.heap[g]?) : Sn w' b M :=
  ⟨h.1.keep (hk _ h.1.lt), fun x hx => (h.2 x hx).keep (hk _ (h.2 x hx).lt)⟩
theorem Sn.made (w : World) : Sn (w.alloc (.map #[] 0)) w.heap.size [] := ⟨PtrSet.made w _, fun x hx => by cases hx⟩
/-- Nothing but a block has turned. -/
structure Bt (b : Nat) (w w' : World) : Prop where
  os : w'.os = w.os
  tape : w'.tape = w.tape
  output : w'.output = w.output
  size : w.heap.size ≤ w'.heap.size
  block : ∀ i, i < w.heap.size → i ≠ b → w'.heap[i]? = w.heap[i]?
theorem Bt.refl (b : Nat) (w : World) : Bt b w w := ⟨rfl, rfl, rfl, Nat.le_refl _, fun _ _ _ => rfl⟩
theorem Bt.trans {b : Nat} {A B C : World} (h : Bt b A B) (k : Bt b B C) : Bt b A C :=
  ⟨k.os.trans h.os, k.tape.trans h.tape, k.output.trans h.output, Nat.le_trans h.size k.size, fun i h1 h2 => (k.block i (Nat.lt_of_lt_of_le h1 h.size) h2).trans (h.block i h1 h2)⟩
theorem Bt.of_below {b : Nat} {w w' : World} (h : Below w.heap.size w w') : Bt b w w' := ⟨h.os, h.tape, h.output, h.size, fun i hi _ => h.block i hi⟩
theorem Bt.of_grown {b : Nat} {w w' : World} (h : w.grownBy w' (some b)) : Bt b w w' := ⟨h.os, h.tape, h.output, h.size, fun i hi hn => h.block i hi (fun e => hn (by injection e))⟩
theorem Bt.below {b B : Nat} {w w' : World} (h : Bt b w w') (hb : B ≤ b) (hB : B ≤ w.heap.size) : Below B w w' := ⟨h.os, h.tape, h.output, h.size, fun i hi => h.block i (by omega) (by omega)⟩
theorem Bt.atc {b : Nat} {w w' : World} (h : Bt b w w') (hm : ∃ es c, w.heap[b]? = some (.map es c)) {a : Addr} (ha : AtCells w a) : AtCells w' a := by
  refine ha.keep (h.block _ ha.lt fun e => ?_)
  obtain ⟨c, t, hc⟩ := ha
  obtain ⟨es, k, hm⟩ := hm
  rw [e, hm] at hc
  cases hc

set_option maxRecDepth 100000 in
set_option maxHeartbeats 2000000 in
/-- first: a place goes into the set; was it not there? -/
theorem first_any (w : World) (b : Nat) (M : List Addr) (d : Addr) (hs : Sn w b M) (hd : AtCells w d) :
    Calls Try.prog 75 #[.map (some b), .pointer (some d)] w fun e w' => e = .returned (.bool (decide (d ∉ M))) ∧ Sn w' b (addU M d) ∧ Bt b w w' := by
  obtain ⟨inf, hinf, hsz⟩ := size_type
  obtain ⟨h3, hM'⟩ := hs
  have hzu := zero_unit w
  have hb := below_new w (.cells #[] 117)
  by_cases hm : d ∈ M
  · have hdec : decide (d ∈ M) = true := decide_eq_true hm
    go_enter Try.func75, Try.ntmps75
    go_wp2_with (first | (at_lookup; refine wpList_lookup_ptr _ rfl (.tmp 8) (.tmp 9) 119 rfl rfl h3 Try.underlying119 Try.underlying125 hinf hsz hzu d rfl hd hM' ?_; rw [hdec]))
    go_ret
    unfold addU
    rw [if_pos hm]
    exact ⟨ret_bool (by simp [hm]), Sn.keep ⟨h3, hM'⟩ hb.block, .of_below hb⟩
  · have hdec : decide (d ∈ M) = false := decide_eq_false hm
    have h3b := h3.keep (hb.block b h3.lt)
    have hd2 : AtCells (w.alloc (.cells #[] 117)) d := hd.keep (hb.block _ hd.lt)
    have hM2 : ∀ x ∈ M, AtCells (w.alloc (.cells #[] 117)) x := fun x hx => (hM' x hx).keep (hb.block _ (hM' x hx).lt)
    go_enter Try.func75, Try.ntmps75
    go_wp2_with (first | (at_lookup; refine wpList_lookup_ptr _ rfl (.tmp 8) (.tmp 9) 119 rfl rfl h3 Try.underlying119 Try.underlying125 hinf hsz hzu d rfl hd hM' ?_; rw [hdec]) | (at_mapUpdate; go_loud (refine wpList_update_ptr _ rfl (.tmp 14) (.tmp 15) (.tmp 16) 119 rfl rfl h3b Try.underlying119 Try.underlying125 hinf hsz d rfl rfl hd2 hM2 hm ?_); intro w1 hs1 hg1))
    go_ret
    unfold addU
    rw [if_neg hm]
    have hbt : Bt b w w1 := (Bt.of_below hb).trans (.of_grown hg1)
    obtain ⟨es, clock, hmb, _⟩ := h3
    refine ⟨ret_bool (by simp [hm]), ⟨hs1, fun x hx => ?_⟩, hbt⟩
    rcases List.mem_append.1 hx with hx | hx
    · exact hbt.atc ⟨_, _, hmb⟩ (hM' x hx)
    · rw [List.mem_singleton.1 hx]
      exact hbt.atc ⟨_, _, hmb⟩ hd
end Go.Proofs.Ytclaabnjokkbjaa
