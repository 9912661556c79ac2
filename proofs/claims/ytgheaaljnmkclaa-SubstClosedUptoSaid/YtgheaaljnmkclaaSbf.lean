/- Types that are read; what a substitution says; what becomes of a type. -/
import Derived.Test.YtgheaaljnmkclaaSbeT
import Derived.Test.YtgheaaljnmkclaaSbeR
import Derived.Outline
namespace Go.Proofs.Ytgheaaljnmkclaa
open Go.RowKit

def encS (s : Str) : Value := .string (ba s)
/-- Strings that are read. -/
def StrR (w : World) (v : Value) (ls : List Str) : Prop := SrcV w v (ls.map encS) ∧ ls.length ≤ 2000000
/-- A list's value. -/
def SlR (v : Value) (n : Nat) : Prop := (v = .slice none 0 0 ∧ n = 0) ∨ ∃ ad c, v = .slice (some ad) n c ∧ n ≤ c ∧ (0 < n → ad.spot = none)
def oks (k v rv : Int) : Prop := i64ok k ∧ i64ok v ∧ i64ok rv
/-- A type is read at an address. -/
inductive TR (w : World) : Addr → Ty → Prop
  | mk (a : Addr) (k : Int) (nm : Str) (v : Int) (kids : List Ty) (ls : List Str) (rv : Int) (kv lv : Value) (h0 : a.spot = none) (hr : ReadsAt w a (tyC k nm v kv lv rv))
      (hk : SlR kv kids.length) (hl : StrR w lv ls) (hi : oks k v rv) (hks : ∀ (i : Nat) t, kids[i]? = some t → TR w (kidAt kv i) t) : TR w a (.mk k nm v kids ls rv)
/-- A type's cells. -/
def TRV (w : World) (t : Ty) (l : List Value) : Prop :=
  match t with
  | .mk k nm v kids ls rv => ∃ kv lv, l = tyC k nm v kv lv rv ∧ SlR kv kids.length ∧ StrR w lv ls ∧ oks k v rv ∧ ∀ (i : Nat) t, kids[i]? = some t → TR w (kidAt kv i) t
/-- A row's cells. -/
def RwV (w : World) (r : List Str × Int) (l : List Value) : Prop := ∃ lv, l = [lv, .int .i64 r.2] ∧ StrR w lv r.1 ∧ i64ok r.2
theorem StrR.keep {w w' : World} {v : Value} {ls : List Str} (h : StrR w v ls) (hk : ∀ g, g < w.heap.size → w'.heap[g]? = w.heap[g]?) : StrR w' v ls := ⟨h.1.keep hk, h.2⟩
theorem reads_block {w : World} {a : Addr} {l : List Value} (h : ReadsAt w a l) (h0 : 0 < l.length) : a.block < w.heap.size := by
  have := h 0 (l[0]'h0) (List.getElem?_eq_getElem h0)
  exact World.block_lt_of_cell? w ⟨a.block, a.off + 0, none⟩ this
theorem TR.keep {w w' : World} (hk : ∀ g, g < w.heap.size → w'.heap[g]? = w.heap[g]?) {a : Addr} {t : Ty} (h : TR w a t) : TR w' a t := by
  induction h with
  | mk a k nm v kids ls rv kv lv h0 hr hsl hl hi _ ih =>
    exact .mk a k nm v kids ls rv kv lv h0 (hr.keep (hk _ (reads_block hr (by simp [tyC])))) hsl (hl.keep hk) hi ih
theorem TR.later {w w' : World} {a : Addr} {t : Ty} (h : TR w a t) (hb : Below w.heap.size w w') : TR w' a t := h.keep hb.block
theorem TRV.keep {w w' : World} (hk : ∀ g, g < w.heap.size → w'.heap[g]? = w.heap[g]?) {t : Ty} {l : List Value} (h : TRV w t l) : TRV w' t l := by
  obtain ⟨k, nm, v, kids, ls, rv⟩ := t
  obtain ⟨kv, lv, h1, h2, h3, h4, h5⟩ := h
  exact ⟨kv, lv, h1, h2, h3.keep hk, h4, fun i t ht => (h5 i t ht).keep hk⟩
theorem TRV.later {w w' : World} {t : Ty} {l : List Value} (h : TRV w t l) (hb : Below w.heap.size w w') : TRV w' t l := h.keep hb.block
theorem TRV.at_ {w : World} {t : Ty} {l : List Value} (h : TRV w t l) {a : Addr} (h0 : a.spot = none) (hr : ReadsAt w a l) : TR w a t := by
  obtain ⟨k, nm, v, kids, ls, rv⟩ := t
  obtain ⟨kv, lv, rfl, h1, h2, h3, h4⟩ := h
  exact .mk a k nm v kids ls rv kv lv h0 hr h1 h2 h3 h4
theorem TR.open {w : World} {a : Addr} {t : Ty} (h : TR w a t) : ∃ l, a.spot = none ∧ ReadsAt w a l ∧ TRV w t l := by
  cases h with
  | mk _ k nm v kids ls rv kv lv h0 hr hk hl hi hks => exact ⟨_, h0, hr, kv, lv, rfl, hk, hl, hi, hks⟩
theorem TRV.len {w : World} {t : Ty} {l : List Value} (h : TRV w t l) : l.length = 6 := by
  obtain ⟨k, nm, v, kids, ls, rv⟩ := t
  obtain ⟨kv, lv, rfl, _⟩ := h
  rfl
theorem StrR.one {w : World} {v : Value} {ls : List Str} (h : StrR w v ls) : v.oneCell' = true := by
  rcases h.1 with ⟨rfl, _⟩ | ⟨_, _, rfl, _⟩ <;> rfl
theorem SlR.one {v : Value} {n : Nat} (h : SlR v n) : v.oneCell' = true := by
  rcases h with ⟨rfl, _⟩ | ⟨_, _, rfl, _⟩ <;> rfl
theorem TRV.fit {w : World} {t : Ty} {l : List Value} (h : TRV w t l) : Fit1 6 l.toArray := by
  have hl := h.len
  obtain ⟨k, nm, v, kids, ls, rv⟩ := t
  obtain ⟨kv, lv, rfl, h1, h2, _⟩ := h
  refine ⟨by simpa using hl, ?_⟩
  simp [tyC, Value.oneCell']
  exact ⟨h1.one, h2.one⟩
theorem RwV.keep {w w' : World} (hk : ∀ g, g < w.heap.size → w'.heap[g]? = w.heap[g]?) {r : List Str × Int} {l : List Value} (h : RwV w r l) : RwV w' r l := by
  obtain ⟨lv, h1, h2, h3⟩ := h
  exact ⟨lv, h1, h2.keep hk, h3⟩

/-- What is said of a variable, if a type is one. -/
def insT (T : Int → Option Ty) (k v : Int) : Option Ty := if k = 7 then T v else none
mutual
/-- A type with what is said in the stead of its variables. -/
def apT (T : Int → Option Ty) : Ty → Ty
  | .mk k nm v kids ls rv => match insT T k v with | some u => u | none => .mk k nm v (apTL T kids) ls rv
def apTL (T : Int → Option Ty) : List Ty → List Ty
  | [] => []
  | t :: r => apT T t :: apTL T r
end
mutual
/-- How many pieces that has. -/
def pcsT (T : Int → Option Ty) : Ty → Nat
  | .mk k _ v kids _ _ => match insT T k v with | some u => u.size | none => 1 + pcsTL T kids
def pcsTL (T : Int → Option Ty) : List Ty → Nat
  | [] => 0
  | t :: r => pcsT T t + pcsTL T r
end
mutual
/-- Nothing is said of the variables of its rows. -/
def rowsFree (R : Int → Option (List Str × Int)) (T : Int → Option Ty) : Ty → Prop
  | .mk k _ v kids _ rv => (insT T k v).isSome = true ∨ ((rv = 0 ∨ R rv = none) ∧ rowsFreeL R T kids)
def rowsFreeL (R : Int → Option (List Str × Int)) (T : Int → Option Ty) : List Ty → Prop
  | [] => True
  | t :: r => rowsFree R T t ∧ rowsFreeL R T r
end
def T0 : Int → Option Ty := fun _ => none
def R0 : Int → Option (List Str × Int) := fun _ => none
theorem insT0 (k v : Int) : insT T0 k v = none := by unfold insT T0; split <;> rfl
theorem apTL_map (T : Int → Option Ty) : ∀ l, apTL T l = l.map (apT T)
  | [] => rfl
  | t :: r => by simp only [apTL, List.map_cons, apTL_map T r]
mutual
theorem apT0 : ∀ t, apT T0 t = t
  | .mk k nm v kids ls rv => by simp only [apT, insT0, apTL0 kids]
theorem apTL0 : ∀ l, apTL T0 l = l
  | [] => rfl
  | t :: r => by simp only [apTL, apT0 t, apTL0 r]
end
mutual
theorem pcsT0 : ∀ t, pcsT T0 t = t.size
  | .mk k nm v kids ls rv => by simp only [pcsT, insT0, pcsTL0 kids, Ty.size]
theorem pcsTL0 : ∀ l, pcsTL T0 l = Ty.sizeL l
  | [] => rfl
  | t :: r => by simp only [pcsTL, pcsT0 t, pcsTL0 r, Ty.sizeL]
end
mutual
theorem rowsFree0 (T : Int → Option Ty) : ∀ t, rowsFree R0 T t
  | .mk k nm v kids ls rv => by simp only [rowsFree]; exact .inr ⟨.inr rfl, rowsFreeL0 T kids⟩
theorem rowsFreeL0 (T : Int → Option Ty) : ∀ l, rowsFreeL R0 T l
  | [] => trivial
  | t :: r => ⟨rowsFree0 T t, rowsFreeL0 T r⟩
end

/-- A list of layers says g; m of them, with m numbers, at most. -/
def SaidV (w : World) (k : Nat) (v : Value) (m : Nat) (g : GMap) : Prop :=
  ∃ zs : List Ly, SrcV w v (zs.map lyV) ∧ (∀ l ∈ zs, MapI w k l.1 l.2.1 l.2.2) ∧ lySum zs ≤ m ∧ zs.length ≤ m ∧ ∀ n, i64ok n → lyOver zs n = g n
/-- What is said, as types. -/
def TM (w : World) (T : Int → Option Ty) (g : GMap) : Prop := ∀ n, i64ok n → match T n with | none => g n = none | some t => ∃ l, g n = some l.toArray ∧ TRV w t l
/-- What is said, as rows. -/
def RM (w : World) (R : Int → Option (List Str × Int)) (g : GMap) : Prop := ∀ n, i64ok n → match R n with | none => g n = none | some r => ∃ l, g n = some l.toArray ∧ RwV w r l
/-- A substitution: what it says of type variables, and of row variables. -/
def SubV (w : World) (v : Value) (m : Nat) (T : Int → Option Ty) (R : Int → Option (List Str × Int)) : Prop :=
  ∃ vt vr gt gr, v = .agg #[vt, vr] ∧ SaidV w 6 vt m gt ∧ SaidV w 2 vr m gr ∧ TM w T gt ∧ RM w R gr
theorem SaidV.keep {w w' : World} {k m : Nat} {v : Value} {g : GMap} (h : SaidV w k v m g) (hk : ∀ g, g < w.heap.size → w'.heap[g]? = w.heap[g]?) : SaidV w' k v m g := by
  obtain ⟨zs, h1, h2, h3, h4, h5⟩ := h
  exact ⟨zs, h1.keep hk, fun l hl => (h2 l hl).keep (hk _ (h2 l hl).lt), h3, h4, h5⟩
theorem TM.keep {w w' : World} {T : Int → Option Ty} {g : GMap} (h : TM w T g) (hk : ∀ g, g < w.heap.size → w'.heap[g]? = w.heap[g]?) : TM w' T g := by
  intro n hn
  have h1 := h n hn
  cases hT : T n with
  | none => rw [hT] at h1; exact h1
  | some t =>
    rw [hT] at h1
    obtain ⟨l, h2, h3⟩ := h1
    exact ⟨l, h2, h3.keep hk⟩
theorem RM.keep {w w' : World} {R : Int → Option (List Str × Int)} {g : GMap} (h : RM w R g) (hk : ∀ g, g < w.heap.size → w'.heap[g]? = w.heap[g]?) : RM w' R g := by
  intro n hn
  have h1 := h n hn
  cases hT : R n with
  | none => rw [hT] at h1; exact h1
  | some t =>
    rw [hT] at h1
    obtain ⟨l, h2, h3⟩ := h1
    exact ⟨l, h2, h3.keep hk⟩
theorem SubV.keep {w w' : World} {v : Value} {m : Nat} {T : Int → Option Ty} {R : Int → Option (List Str × Int)} (h : SubV w v m T R) (hk : ∀ g, g < w.heap.size → w'.heap[g]? = w.heap[g]?) : SubV w' v m T R := by
  obtain ⟨vt, vr, gt, gr, h1, h2, h3, h4, h5⟩ := h
  exact ⟨vt, vr, gt, gr, h1, h2.keep hk, h3.keep hk, h4.keep hk, h5.keep hk⟩
theorem SubV.later {w w' : World} {v : Value} {m : Nat} {T : Int → Option Ty} {R : Int → Option (List Str × Int)} (h : SubV w v m T R) (hb : Below w.heap.size w w') : SubV w' v m T R := h.keep hb.block
theorem SaidV.none (w : World) (k m : Nat) : SaidV w k (.slice none 0 0) m noG := ⟨[], .inl ⟨rfl, rfl⟩, fun _ h => (by cases h), Nat.zero_le _, Nat.zero_le _, fun _ _ => rfl⟩
def noneV : Value := .agg #[.slice none 0 0, .slice none 0 0]
theorem SubV.none (w : World) (m : Nat) : SubV w noneV m T0 R0 := ⟨_, _, noG, noG, rfl, .none w 6 m, .none w 2 m, fun _n _ => rfl, fun _n _ => rfl⟩
theorem SubV.mono {w : World} {v : Value} {m m' : Nat} {T : Int → Option Ty} {R : Int → Option (List Str × Int)} (h : SubV w v m T R) (hm : m ≤ m') : SubV w v m' T R := by
  obtain ⟨vt, vr, gt, gr, h1, ⟨zs, a1, a2, a3, a4, a5⟩, ⟨ys, b1, b2, b3, b4, b5⟩, h4, h5⟩ := h
  exact ⟨vt, vr, gt, gr, h1, ⟨zs, a1, a2, by omega, by omega, a5⟩, ⟨ys, b1, b2, by omega, by omega, b5⟩, h4, h5⟩

set_option maxRecDepth 100000 in
theorem none_any (w : World) : Calls Try.prog 17 #[] w fun e w' => e = .returned noneV ∧ Below w.heap.size w w' := by
  have n0 := Lies.new w 38 #[.slice none 0 0, .slice none 0 0]
  have hb := below_new w (.cells #[.slice none 0 0, .slice none 0 0] 38)
  unfold noneV
  go_enter Try.func17, Try.ntmps17
  go_wp2
  refine bodyPost_ret (results_cell_row rfl _ _ w.heap.size 38 _ (0, 0) _ rfl n0 Try.underlying38 rfl (by kernel_rfl)) rfl ?_
  exact ⟨rfl, hb⟩
end Go.Proofs.Ytgheaaljnmkclaa
