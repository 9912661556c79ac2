/- Types that are read; what a substitution says; what becomes of a type. -/
import Derived.Test.YtpbhndmfmnfeoaaGreatSbeT
import Derived.Test.YtpbhndmfmnfeoaaGreatSbeR
import Derived.Outline
import Derived.Deep.RegionHeld3
namespace Go.Proofs.YtpbhndmfmnfeoaaGreat
open Go.RowKit

def encS (s : Str) : Value := .string (ba s)
/-- Strings that are read. -/
def StrR (w : World) (v : Value) (ls : List Str) : Prop := SrcV w v (ls.map encS) ∧ ls.length ≤ 2000000
/-- A list's value. -/
def SlR (v : Value) (n : Nat) : Prop := (v = .slice none 0 0 ∧ n = 0) ∨ ∃ ad c, v = .slice (some ad) n c ∧ n ≤ c ∧ (0 < n → ad.spot = none)
def oks (k v rv : Int) : Prop := i64ok k ∧ i64ok v ∧ i64ok rv
/-- A type is read at an address. -/
inductive TR (w : World) : Addr → Ty → Prop
  | mk (a : Addr) (k : Int) (nm : Str) (v : Int) (kids : List Ty) (ls : List Str) (rv : Int) (kv lv : Value) (h0 : a.spot = none) (hr : ReadsAt w a (tyC k nm v kv lv rv))
      (hk : SlR kv kids.length) (hl : StrR w lv ls) (hi : oks k v rv) (hks : ∀ (i : Nat) t, kids[i]? = some t → TR w (kidAt kv i) t) : TR w a (.mk k nm v kids ls rv)
/-- A type's cells. -/
def TRV (w : World) (t : Ty) (l : List Value) : Prop :=
  match t with
  | .mk k nm v kids ls rv => ∃ kv lv, l = tyC k nm v kv lv rv ∧ SlR kv kids.length ∧ StrR w lv ls ∧ oks k v rv ∧ ∀ (i : Nat) t, kids[i]? = some t → TR w (kidAt kv i) t
/-- A row's cells. -/
def RwV (w : World) (r : List Str × Int) (l : List Value) : Prop := ∃ lv, l = [lv, .int .i64 r.2] ∧ StrR w lv r.1 ∧ i64ok r.2
theorem StrR.keep {w w' : World} {v : Value} {ls : List Str} (h : StrR w v ls) (hk : ∀ g, g < w.heap.size → w'.heap[g]? = w.heap[g]?) : StrR w' v ls := ⟨h.1.keep hk, h.2⟩
theorem reads_block {w : World} {a : Addr} {l : List Value} (h : ReadsAt w a l) (h0 : 0 < l.length) : a.block < w.heap.size := by
  have := h 0 (l[0]'h0) (List.getElem?_eq_getElem h0)
  exact World.block_lt_of_cell? w ⟨a.block, a.off + 0, none⟩ this
theorem TR.keep {w w' : World} (hk : ∀ g, g < w.heap.size → w'.heap[g]? = w.heap[g]?) {a : Addr} {t : Ty} (h : TR w a t) : TR w' a t := by
  induction h with
  | mk a k nm v kids ls rv kv lv h0 hr hsl hl hi _ ih =>
    exact .mk a k nm v kids ls rv kv lv h0 (hr.keep (hk _ (reads_block hr (by simp [tyC])))) hsl (hl.keep hk) hi ih
theorem TR.later {w w' : World} {a : Addr} {t : Ty} (h : TR w a t) (hb : Below w.heap.size w w') : TR w' a t := h.keep hb.block
theorem TRV.keep {w w' : World} (hk : ∀ g, g < w.heap.size → w'.heap[g]? = w.heap[g]?) {t : Ty} {l : List Value} (h : TRV w t l) : TRV w' t l := by
  obtain ⟨k, nm, v, kids, ls, rv⟩ := t
  obtain ⟨kv, lv, h1, h2, h3, h4, h5⟩ := h
  exact ⟨kv, lv, h1, h2, h3.keep hk, h4, fun i t ht => (h5 i t ht).keep hk⟩
theorem TRV.later {w w' : World} {t : Ty} {l : List Value} (h : TRV w t l) (hb : Below w.heap.size w w') : TRV w' t l := h.keep hb.block
theorem TRV.at_ {w : World} {t : Ty} {l : List Value} (h : TRV w t l) {a : Addr} (h0 : a.spot = none) (hr : ReadsAt w a l) : TR w a t := by
  obtain ⟨k, nm, v, kids, ls, rv⟩ := t
  obtain ⟨kv, lv, rfl, h1, h2, h3, h4⟩ := h
  exact .mk a k nm v kids ls rv kv lv h0 hr h1 h2 h3 h4
theorem TR.open {w : World} {a : Addr} {t : Ty} (h : TR w a t) : ∃ l, a.spot = none ∧ ReadsAt w a l ∧ TRV w t l := by
  cases h with
  | mk _ k nm v kids ls rv kv lv h0 hr hk hl hi hks => exact ⟨_, h0, hr, kv, lv, rfl, hk, hl, hi, hks⟩
theorem TRV.len {w : World} {t : Ty} {l : List Value} (h : TRV w t l) : l.length = 6 := by
  obtain ⟨k, nm, v, kids, ls, rv⟩ := t
  obtain ⟨kv, lv, rfl, _⟩ := h
  rfl
theorem StrR.one {w : World} {v : Value} {ls : List Str} (h : StrR w v ls) : v.oneCell' = true := by
  rcases h.1 with ⟨rfl, _⟩ | ⟨_, _, rfl, _⟩ <;> rfl
theorem SlR.one {v : Value} {n : Nat} (h : SlR v n) : v.oneCell' = true := by
  rcases h with ⟨rfl, _⟩ | ⟨_, _, rfl, _⟩ <;> rfl
theorem TRV.fit {w : World} {t : Ty} {l : List Value} (h : TRV w t l) : Fit1 6 l.toArray := by
  have hl := h.len
  obtain ⟨k, nm, v, kids, ls, rv⟩ := t
  obtain ⟨kv, lv, rfl, h1, h2, _⟩ := h
  refine ⟨by simpa using hl, ?_⟩
  simp [tyC, Value.oneCell']
  exact ⟨h1.one, h2.one⟩
theorem RwV.keep {w w' : World} (hk : ∀ g, g < w.heap.size → w'.heap[g]? = w.heap[g]?) {r : List Str × Int} {l : List Value} (h : RwV w r l) : RwV w' r l := by
  obtain ⟨lv, h1, h2, h3⟩ := h
  exact ⟨lv, h1, h2.keep hk, h3⟩

/-- What is said of a variable, if a type is one. -/
def insT (T : Int → Option Ty) (k v : Int) : Option Ty := if k = 7 then T v else none
mutual
/-- A type with what is said in the stead of its variables. -/
def apT (T : Int → Option Ty) : Ty → Ty
  | .mk k nm v kids ls rv => match insT T k v with | some u => u | none => .mk k nm v (apTL T kids) ls rv
def apTL (T : Int → Option Ty) : List Ty → List Ty
  | [] => []
  | t :: r => apT T t :: apTL T r
end
mutual
/-- How many pieces that has. -/
def pcsT (T : Int → Option Ty) : Ty → Nat
  | .mk k _ v kids _ _ => match insT T k v with | some u => u.size | none => 1 + pcsTL T kids
def pcsTL (T : Int → Option Ty) : List Ty → Nat
  | [] => 0
  | t :: r => pcsT T t + pcsTL T r
end
mutual
/-- Nothing is said of the variables of its rows. -/
def rowsFree (R : Int → Option (List Str × Int)) (T : Int → Option Ty) : Ty → Prop
  | .mk k _ v kids _ rv => (insT T k v).isSome = true ∨ ((rv = 0 ∨ R rv = none) ∧ rowsFreeL R T kids)
def rowsFreeL (R : Int → Option (List Str × Int)) (T : Int → Option Ty) : List Ty → Prop
  | [] => True
  | t :: r => rowsFree R T t ∧ rowsFreeL R T r
end
def T0 : Int → Option Ty := fun _ => none
def R0 : Int → Option (List Str × Int) := fun _ => none
theorem insT0 (k v : Int) : insT T0 k v = none := by unfold insT T0; split <;> rfl
theorem apTL_map (T : Int → Option Ty) : ∀ l, apTL T l = l.map (apT T)
  | [] => rfl
  | t :: r => by simp only [apTL, List.map_cons, apTL_map T r]
mutual
theorem apT0 : ∀ t, apT T0 t = t
  | .mk k nm v kids ls rv => by simp only [apT, insT0, apTL0 kids]
theorem apTL0 : ∀ l, apTL T0 l = l
  | [] => rfl
  | t :: r => by simp only [apTL, apT0 t, apTL0 r]
end
mutual
theorem pcsT0 : ∀ t, pcsT T0 t = t.size
  | .mk k nm v kids ls rv => by simp only [pcsT, insT0, pcsTL0 kids, Ty.size]
theorem pcsTL0 : ∀ l, pcsTL T0 l = Ty.sizeL l
  | [] => rfl
  | t :: r => by simp only [pcsTL, pcsT0 t, pcsTL0 r, Ty.sizeL]
end
mutual
theorem rowsFree0 (T : Int → Option Ty) : ∀ t, rowsFree R0 T t
  | .mk k nm v kids ls rv => by simp only [rowsFree]; exact .inr ⟨.inr rfl, rowsFreeL0 T kids⟩
theorem rowsFreeL0 (T : Int → Option Ty) : ∀ l, rowsFreeL R0 T l
  | [] => trivial
  | t :: r => ⟨rowsFree0 T t, rowsFreeL0 T r⟩
end

/-- A list of layers says g; m of them, with m numbers, at most. -/
def SaidV (w : World) (k : Nat) (v : Value) (m : Nat) (g : GMap) : Prop :=
  ∃ zs : List Ly, SrcV w v (zs.map lyV) ∧ (∀ l ∈ zs, MapI w k l.1 l.2.1 l.2.2) ∧ lySum zs ≤ m ∧ zs.length ≤ m ∧ ∀ n, i64ok n → lyOver zs n = g n
/-- What is said, as types. -/
def TM (w : World) (T : Int → Option Ty) (g : GMap) : Prop := ∀ n, i64ok n → match T n with | none => g n = none | some t => ∃ l, g n = some l.toArray ∧ TRV w t l
/-- What is said, as rows. -/
def RM (w : World) (R : Int → Option (List Str × Int)) (g : GMap) : Prop := ∀ n, i64ok n → match R n with | none => g n = none | some r => ∃ l, g n = some l.toArray ∧ RwV w r l
/-- A substitution: what it says of type variables, and of row variables. -/
def SubV (w : World) (v : Value) (m : Nat) (T : Int → Option Ty) (R : Int → Option (List Str × Int)) : Prop :=
  ∃ vt vr gt gr, v = .agg #[vt, vr] ∧ SaidV w 6 vt m gt ∧ SaidV w 2 vr m gr ∧ TM w T gt ∧ RM w R gr
theorem SaidV.keep {w w' : World} {k m : Nat} {v : Value} {g : GMap} (h : SaidV w k v m g) (hk : ∀ g, g < w.heap.size → w'.heap[g]? = w.heap[g]?) : SaidV w' k v m g := by
  obtain ⟨zs, h1, h2, h3, h4, h5⟩ := h
  exact ⟨zs, h1.keep hk, fun l hl => (h2 l hl).keep (hk _ (h2 l hl).lt), h3, h4, h5⟩
theorem TM.keep {w w' : World} {T : Int → Option Ty} {g : GMap} (h : TM w T g) (hk : ∀ g, g < w.heap.size → w'.heap[g]? = w.heap[g]?) : TM w' T g := by
  intro n hn
  have h1 := h n hn
  cases hT : T n with
  | none => rw [hT] at h1; exact h1
  | some t =>
    rw [hT] at h1
    obtain ⟨l, h2, h3⟩ := h1
    exact ⟨l, h2, h3.keep hk⟩
theorem RM.keep {w w' : World} {R : Int → Option (List Str × Int)} {g : GMap} (h : RM w R g) (hk : ∀ g, g < w.heap.size → w'.heap[g]? = w.heap[g]?) : RM w' R g := by
  intro n hn
  have h1 := h n hn
  cases hT : R n with
  | none => rw [hT] at h1; exact h1
  | some t =>
    rw [hT] at h1
    obtain ⟨l, h2, h3⟩ := h1
    exact ⟨l, h2, h3.keep hk⟩
theorem SubV.keep {w w' : World} {v : Value} {m : Nat} {T : Int → Option Ty} {R : Int → Option (List Str × Int)} (h : SubV w v m T R) (hk : ∀ g, g < w.heap.size → w'.heap[g]? = w.heap[g]?) : SubV w' v m T R := by
  obtain ⟨vt, vr, gt, gr, h1, h2, h3, h4, h5⟩ := h
  exact ⟨vt, vr, gt, gr, h1, h2.keep hk, h3.keep hk, h4.keep hk, h5.keep hk⟩
theorem SubV.later {w w' : World} {v : Value} {m : Nat} {T : Int → Option Ty} {R : Int → Option (List Str × Int)} (h : SubV w v m T R) (hb : Below w.heap.size w w') : SubV w' v m T R := h.keep hb.block
theorem SaidV.none (w : World) (k m : Nat) : SaidV w k (.slice none 0 0) m noG := ⟨[], .inl ⟨rfl, rfl⟩, fun _ h => (by cases h), Nat.zero_le _, Nat.zero_le _, fun _ _ => rfl⟩
def noneV : Value := .agg #[.slice none 0 0, .slice none 0 0]
theorem SubV.none (w : World) (m : Nat) : SubV w noneV m T0 R0 := ⟨_, _, noG, noG, rfl, .none w 6 m, .none w 2 m, fun _n _ => rfl, fun _n _ => rfl⟩
theorem SubV.mono {w : World} {v : Value} {m m' : Nat} {T : Int → Option Ty} {R : Int → Option (List Str × Int)} (h : SubV w v m T R) (hm : m ≤ m') : SubV w v m' T R := by
  obtain ⟨vt, vr, gt, gr, h1, ⟨zs, a1, a2, a3, a4, a5⟩, ⟨ys, b1, b2, b3, b4, b5⟩, h4, h5⟩ := h
  exact ⟨vt, vr, gt, gr, h1, ⟨zs, a1, a2, by omega, by omega, a5⟩, ⟨ys, b1, b2, by omega, by omega, b5⟩, h4, h5⟩

set_option maxRecDepth 100000 in
theorem none_any (w : World) : Calls Tryz.prog 8 #[] w fun e w' => e = .returned noneV ∧ Below w.heap.size w w' := by
  have n0 := Lies.new w 34 #[.slice none 0 0, .slice none 0 0]
  have hb := below_new w (.cells #[.slice none 0 0, .slice none 0 0] 34)
  unfold noneV
  go_enter Tryz.func8, Tryz.ntmps8
  go_wp2
  refine bodyPost_ret (results_cell_row rfl _ _ w.heap.size 34 _ (0, 0) _ rfl n0 Tryz.underlying34 rfl (by kernel_rfl)) rfl ?_
  exact ⟨rfl, hb⟩
end Go.Proofs.YtpbhndmfmnfeoaaGreat

/- copiedRow, and what is said of a type or a row. -/
namespace Go.Proofs.YtpbhndmfmnfeoaaGreat
open Go.RowKit

theorem encS_one (ls : List Str) : ∀ q ∈ ls.map encS, q.oneCell' = true := by
  intro q hq
  obtain ⟨s, _, rfl⟩ := List.mem_map.1 hq
  rfl
/-- The labels in a row of the call's own. -/
def OwnL (w : World) (B : Nat) (v : Value) (ls : List Str) : Prop := w.ownsRow B 9 1 v ls.length (ls.map encS)
theorem OwnL.str {w : World} {B : Nat} {v : Value} {ls : List Str} (h : OwnL w B v ls) (hb : ls.length ≤ 2000000) : StrR w v ls := ⟨own_row_src h, hb⟩
theorem concat1_any (lv : Value) (ls : List Str) (w w' : World) (hv : StrR w lv ls) (hb : Below w.heap.size w w') (b : Nat) (hl : Lies w' b 22 #[lv]) :
    Calls Tryz.prog 46 #[.slice (some ⟨b, 0, none⟩) 1 1] w' fun e w2 => ∃ v, e = .returned v ∧ OwnL w2 w'.heap.size v ls ∧ Below w'.heap.size w' w2 := by
  have hlen := hv.2
  refine (concatS_any [(lv, ls.map encS)] b 1 w' hl (Nat.le_refl 1) (fun p hp => ?_) (fun p hp => ?_) (by simp; omega) (by simp)).mono ?_
  · rw [List.mem_singleton.1 hp]
    exact hv.1.later hb
  · rw [List.mem_singleton.1 hp]
    exact encS_one ls
  · rintro e w2 ⟨v, rfl, ho, hb2⟩
    refine ⟨v, rfl, ?_, hb2⟩
    simp at ho
    unfold OwnL
    simpa using ho
set_option maxRecDepth 100000 in
set_option maxHeartbeats 4000000 in
theorem copiedRow_any (lv : Value) (ls : List Str) (rv : Int) (w : World) (hv : StrR w lv ls) :
    Calls Tryz.prog 27 #[.agg #[lv, .int .i64 rv]] w fun e w' => ∃ v', e = .returned (.agg #[v', .int .i64 rv]) ∧ OwnL w' w.heap.size v' ls ∧ Below w.heap.size w w' := by
  have hb1 := below_new w (.cells #[lv, .int .i64 rv] 24)
  have hb2 := hb1.alloc (by simp) (.cells #[.slice none 0 0, .int .i64 0] 24)
  have n0 := (Lies.new w 24 #[lv, .int .i64 rv]).alloc (.cells #[.slice none 0 0, .int .i64 0] 24)
  have n1 := Lies.new' (w.alloc (.cells #[lv, .int .i64 rv] 24)) 24 #[.slice none 0 0, .int .i64 0] (N := w.heap.size + 1) (by simp)
  have hco := concat1_any lv ls w
  have HC := Lib.hid hco
  have HV := Lib.hid hv
  obtain ⟨A, n, c, rfl⟩ : ∃ A n c, lv = .slice A n c := by rcases hv.1 with ⟨rfl, _⟩ | ⟨_, _, rfl, _⟩ <;> exact ⟨_, _, _, rfl⟩
  clear hco hv
  go_enter Tryz.func27, Tryz.ntmps27
  obtain ⟨W, hW⟩ : ∃ W, W = (w.alloc (.cells #[.slice A n c, .int .i64 rv] 24)).alloc (.cells #[.slice none 0 0, .int .i64 0] 24) := ⟨_, rfl⟩
  go_wp2
  rw [← hW] at n0 n1 hb2 ⊢
  have c0 := n0.cell 0
  have c1 := n0.cell 1
  have HN1 := Lib.hid n1
  have HN0 := Lib.hid n0
  have HB2 := Lib.hid hb2
  clear hW n1 hb1 hb2 n0
  have hS : W.cell? ⟨w.heap.size, 0, none⟩ = some (.slice A n c) ∧ W.cell? ⟨w.heap.size, 1, none⟩ = some (.int .i64 rv) ∧ Below w.heap.size w W := ⟨c0, c1, HB2.out⟩
  have hk : ∀ v v' : World, (v.cell? ⟨w.heap.size, 0, none⟩ = some (.slice A n c) ∧ v.cell? ⟨w.heap.size, 1, none⟩ = some (.int .i64 rv) ∧ Below w.heap.size w v) → v'.heap[w.heap.size]? = v.heap[w.heap.size]? → Below w.heap.size v v' → (v'.cell? ⟨w.heap.size, 0, none⟩ = some (.slice A n c) ∧ v'.cell? ⟨w.heap.size, 1, none⟩ = some (.int .i64 rv) ∧ Below w.heap.size w v') := fun v v' h hb hb2 => by
    exact ⟨(World.cell?_of_block (w := v) (a := ⟨w.heap.size, 0, none⟩) hb).trans h.1, (World.cell?_of_block (w := v) (a := ⟨w.heap.size, 1, none⟩) hb).trans h.2.1, h.2.2.trans hb2⟩
  have HK := Lib.hid hk
  clear hk
  have hltW := HN0.out.lt
  have hbB : Below W.heap.size W (W.alloc (.cells #[.slice A n c] 22)).drew := (below_new W _).drew
  have hlB : Lies (W.alloc (.cells #[.slice A n c] 22)).drew W.heap.size 22 #[.slice A n c] := Lies.new W _ _
  have hcc := HC.out (W.alloc (.cells #[.slice A n c] 22)).drew HV.out ((HB2.out.trans (hbB.mono HB2.out.size))) W.heap.size hlB
  have HCC := Lib.hid hcc
  have hsB : W.heap.size ≤ (W.alloc (.cells #[.slice A n c] 22)).drew.heap.size := hbB.size
  clear hcc
  go_region_held3 (fun w' => w'.cell? ⟨w.heap.size, 0, none⟩ = some (.slice A n c) ∧ w'.cell? ⟨w.heap.size, 1, none⟩ = some (.int .i64 rv) ∧ Below w.heap.size w w')
    (first | exact HK.out _ _ hS rfl (Below.refl _ _).drew | exact HK.out _ _ hS (hbB.block _ hltW) (hbB.mono HB2.out.size) | exact HK.out _ _ hS (hb5.block _ hltW) (hb5.mono HB2.out.size) | exact HK.out _ _ hS ((q6.block _ (Nat.lt_succ_self _)).trans (hb5.block _ hltW)) ((hb5.mono HB2.out.size).trans (q6.mono (Nat.le_succ _))))
    (first | (go_at_call 46; refine HCC.out.mono ?_; rintro e w5 ⟨v', rfl, ho, hb4⟩; have HO := Lib.hid ho; obtain ⟨A2, k2, c2, rfl⟩ := own_slice ho; clear ho; have hb5 : Below W.heap.size W w5 := hbB.trans (hb4.mono hsB); have n5 := HN1.out.later hb5; have d0 := n5.cell 0; have d1 := n5.cell 1; have e0 := n5.free 0; have e1 := n5.free 1; have l5 := n5.lt; have q6 : Below (w.heap.size + 1) w5 ((w5.setCell ⟨w.heap.size + 1, 0, none⟩ (.slice A2 k2 c2)).setCell ⟨w.heap.size + 1, 1, none⟩ (.int .i64 rv)) := ((Below.refl _ _).setCell (p := ⟨w.heap.size + 1, 0, none⟩) (Nat.le_refl _) _).setCell (p := ⟨w.heap.size + 1, 1, none⟩) (Nat.le_refl _) _))
  have n6 := (n5.set 0 (.slice A2 k2 c2)).set 1 (.int .i64 rv)
  go_wp2
  refine bodyPost_ret (v := .agg #[.slice A2 k2 c2, .int .i64 rv]) (results_cell_row rfl _ _ (w.heap.size + 1) 24 _ (0, 0) _ rfl n6 Tryz.underlying24 rfl size_R) rfl ?_
  refine ⟨_, rfl, ?_, ((HB2.out.trans (hb5.mono HB2.out.size)).trans (q6.mono (Nat.le_succ _)))⟩
  have hWs := HB2.out.size
  refine own_mono (own_same HO.out fun g hg hlt => ?_) (by omega)
  have hne : g ≠ w.heap.size + 1 := by have := HN1.out.lt; omega
  exact (Below.heap_setCell _ ⟨w.heap.size + 1, 1, none⟩ _ g hne).trans (Below.heap_setCell _ ⟨w.heap.size + 1, 0, none⟩ _ g hne)
end Go.Proofs.YtpbhndmfmnfeoaaGreat

/- What is said of a type, if that is a variable; of a row. -/
namespace Go.Proofs.YtpbhndmfmnfeoaaGreat
open Go.RowKit

theorem Sb.results_ct {P : Program} {fn : Func} {p q : Tmp} {ty : TypeId} (h : fn.results = #[.cell p ty, .tmp q]) (tmps : Array Value) (w : World) (g : Nat) (t : TypeId) (cs : Array Value) (fr : Nat × Nat) (d : TypeDesc)
    (hp : tmps.getD p undef = .pointer (some ⟨g, 0, none⟩)) (hg : w.heap[g]? = some (.cells cs t fr)) (hu : P.underlying ty = some d) (hd : (match d with | .struct _ | .array _ _ => true | _ => false) = true) (hi : (P.info? ty).map (·.size) = some cs.size)
    {a : Value} (hq : tmps.getD q undef = a) : (results fn tmps).run P w = .ok (.tuple #[.agg cs, a]) w := by
  have hp' : tmps[p]?.getD undef = .pointer (some ⟨g, 0, none⟩) := by simpa using hp
  have hq' : tmps[q]?.getD undef = a := by simpa using hq
  simp [results, h, hp', hq', asAddr, run_loadVar_row w g t ty cs fr d hg hu hd hi]
def zeroT : Array Value := #[.int .i64 0, .string ⟨#[]⟩, .int .i64 0, .slice none 0 0, .slice none 0 0, .int .i64 0]
def zeroR : Array Value := #[.slice none 0 0, .int .i64 0]
theorem ofT_said (w : World) (v : Value) (m : Nat) (g : GMap) (n : Int) (h : SaidV w 6 v m g) (hn : i64ok n) (hm : m ≤ 1000000) :
    Calls Tryz.prog 59 #[.agg #[v], .int .i64 n] w fun e w' => e = .returned (.tuple #[lookV (.agg zeroT) (g n), .bool (g n).isSome]) ∧ Below w.heap.size w w' := by
  obtain ⟨zs, h1, h2, h3, h4, h5⟩ := h
  have hc := ofT_any w (zs.attach.map fun z => (⟨z.1, h2 z.1 z.2⟩ : LyAt w 6)) v n hn (by rw [List.map_map]; have h6 := List.attach_map_subtype_val zs; rw [← h6, List.map_map] at h1; exact h1) (by simp; omega)
  have e : (zs.attach.map fun z => (⟨z.1, h2 z.1 z.2⟩ : LyAt w 6)).map (·.1) = zs := by rw [List.map_map]; exact List.attach_map_subtype_val zs
  rw [e, h5 n hn] at hc
  exact hc
theorem ofR_said (w : World) (v : Value) (m : Nat) (g : GMap) (n : Int) (h : SaidV w 2 v m g) (hn : i64ok n) (hm : m ≤ 1000000) :
    Calls Tryz.prog 26 #[.agg #[v], .int .i64 n] w fun e w' => e = .returned (.tuple #[lookV (.agg zeroR) (g n), .bool (g n).isSome]) ∧ Below w.heap.size w w' := by
  obtain ⟨zs, h1, h2, h3, h4, h5⟩ := h
  have hc := ofR_any w (zs.attach.map fun z => (⟨z.1, h2 z.1 z.2⟩ : LyAt w 2)) v n hn (by rw [List.map_map]; have h6 := List.attach_map_subtype_val zs; rw [← h6, List.map_map] at h1; exact h1) (by simp; omega)
  have e : (zs.attach.map fun z => (⟨z.1, h2 z.1 z.2⟩ : LyAt w 2)).map (·.1) = zs := by rw [List.map_map]; exact List.attach_map_subtype_val zs
  rw [e, h5 n hn] at hc
  exact hc
theorem SaidV.one {w : World} {k m : Nat} {v : Value} {g : GMap} (h : SaidV w k v m g) : ∃ A n c, v = .slice A n c := by
  obtain ⟨zs, h1, _⟩ := h
  rcases h1 with ⟨rfl, _⟩ | ⟨_, _, rfl, _⟩ <;> exact ⟨_, _, _, rfl⟩
/-- What is answered where something may be said of a variable. -/
def InsEnd (w : World) (o : Option Ty) (e : Ending) (w' : World) : Prop :=
  (match o with | some u => ∃ l, e = .returned (.tuple #[.agg l.toArray, .bool true]) ∧ TRV w' u l | none => e = .returned (.tuple #[.agg zeroT, .bool false])) ∧ Below w.heap.size w w'
/-- .. where what is said was read in an elder world. -/
def InsEndB (w0 w : World) (o : Option Ty) (e : Ending) (w' : World) : Prop :=
  (match o with | some u => ∃ l, e = .returned (.tuple #[.agg l.toArray, .bool true]) ∧ TRV w0 u l | none => e = .returned (.tuple #[.agg zeroT, .bool false])) ∧ Below w.heap.size w w'
set_option maxRecDepth 100000 in
set_option maxHeartbeats 4000000 in
theorem insTb_any (w0 wt w : World) (vt vr : Value) (m : Nat) (T : Int → Option Ty) (gt : GMap) (hst : SaidV w 6 vt m gt) (hsr : ∃ A n c, vr = .slice A n c) (htm : TM w0 T gt) (hm : m ≤ 1000000) (k : Int) (nm : Str) (v : Int) (kids : List Ty) (ls : List Str) (rv : Int) (l : List Value) (ht : TRV wt (.mk k nm v kids ls rv) l) :
    Calls Tryz.prog 43 #[.agg #[vt, vr], .agg l.toArray] w (InsEndB w0 w (insT T k v)) := by
  obtain ⟨kv, lv, rfl, hkv, hlv, hok, _⟩ := ht
  obtain ⟨A1, n1, c1, rfl⟩ := hst.one
  obtain ⟨A2, n2, c2, rfl⟩ := hsr
  obtain ⟨A3, n3, c3, rfl⟩ : ∃ A n c, kv = .slice A n c := by rcases hkv with ⟨rfl, _⟩ | ⟨_, _, rfl, _⟩ <;> exact ⟨_, _, _, rfl⟩
  obtain ⟨A4, n4, c4, rfl⟩ : ∃ A n c, lv = .slice A n c := by rcases hlv.1 with ⟨rfl, _⟩ | ⟨_, _, rfl, _⟩ <;> exact ⟨_, _, _, rfl⟩
  unfold tyC
  obtain ⟨W, hW⟩ : ∃ W, W = ((w.alloc (.cells #[.slice A1 n1 c1, .slice A2 n2 c2] 34)).alloc (.cells #[.int .i64 k, .string (ba nm), .int .i64 v, .slice A3 n3 c3, .slice A4 n4 c4, .int .i64 rv] 44)).alloc (.cells #[.int .i64 0, .string ⟨#[]⟩, .int .i64 0, .slice none 0 0, .slice none 0 0, .int .i64 0] 44) := ⟨_, rfl⟩
  have hb : Below w.heap.size w W := by rw [hW]; exact (((Below.refl _ w).alloc (Nat.le_refl _) _).alloc (by simp) _).alloc (by simp; omega) _
  have n2' : Lies W (w.heap.size + 2) 44 zeroT := by rw [hW]; exact Lies.new' _ _ _ (by simp)
  have hof := ofT_said W (.slice A1 n1 c1) m gt v (hst.keep hb.block) hok.2.1 hm
  have HW := Lib.hid hW
  have HB := Lib.hid hb
  have HN2 := Lib.hid n2'
  have HO := Lib.hid hof
  have HTM := Lib.hid htm
  have HOK := Lib.hid hok
  clear hof hW hb n2' hst htm hlv hkv hok
  by_cases h7 : k = 7
  · subst h7
    unfold zeroT at HN2
    have hsome : gt v = none ∨ ∃ cs, gt v = some cs := by cases gt v <;> simp
    go_enter Tryz.func43, Tryz.ntmps43
    go_wp2_with fail
    rw [← HW.out]
    refine HO.out.mono ?_
    rintro e w1 ⟨rfl, hb1⟩
    have n3' := HN2.out.later hb1
    have hb2 : Below w.heap.size w w1 := HB.out.trans (hb1.mono HB.out.size)
    have htv := HTM.out v HOK.out.2.1
    have hlt := HN2.out.lt
    rcases hsome with hg | ⟨cs, hg⟩
    · rw [hg]
      have hT : T v = none := by
        cases hT : T v with
        | none => rfl
        | some t => rw [hT] at htv; obtain ⟨l, h1, _⟩ := htv; rw [hg] at h1; cases h1
      have HT := Lib.hid hT
      have HB2 := Lib.hid hb2
      unfold zeroT lookV
      clear htv hg hT hb2
      go_wp2_with (first | (refine wpList_store_rowTo rfl 44 (.tmp 4) (.tmp 15) rfl rfl (w.heap.size + 2) zeroT rfl rfl 44 _ n3' (by rw [size_T]; rfl) rfl (by kernel_rfl) ?_))
      refine bodyPost_ret (Sb.results_ct rfl _ _ (w.heap.size + 2) 44 zeroT (0, 0) _ rfl (Sb.setRow_at n3' _) Tryz.underlying44 rfl (by rw [size_T]; rfl) rfl) rfl ?_
      unfold InsEndB insT
      rw [if_pos rfl, HT.out]
      exact ⟨rfl, Sb.below_setRow HB2.out (by omega) _⟩
    · rw [hg]
      cases hT : T v with
      | none => rw [hT] at htv; rw [hg] at htv; cases htv
      | some t =>
        rw [hT] at htv
        obtain ⟨l, h1, h2⟩ := htv
        rw [hg] at h1
        injection h1 with h1
        subst h1
        have hfit := h2.fit
        have hsc := hfit.1
        have hoc := hfit.2
        have HT := Lib.hid hT
        have HB2 := Lib.hid hb2
        have H2 := Lib.hid h2
        unfold lookV
        clear hg hT hb2 h2 hfit
        go_wp2_with (first | (refine wpList_store_rowTo rfl 44 (.tmp 4) (.tmp 15) rfl rfl (w.heap.size + 2) l.toArray rfl rfl 44 _ n3' (by rw [size_T, hsc]) (by rw [hsc]; rfl) hoc ?_))
        refine bodyPost_ret (Sb.results_ct rfl _ _ (w.heap.size + 2) 44 l.toArray (0, 0) _ rfl (Sb.setRow_at n3' _) Tryz.underlying44 rfl (by rw [size_T, hsc]) rfl) rfl ?_
        unfold InsEndB insT
        rw [if_pos rfl, HT.out]
        have hbs := Sb.below_setRow HB2.out (by omega : w.heap.size ≤ w.heap.size + 2) l.toArray
        exact ⟨⟨l, rfl, H2.out⟩, hbs⟩
  · have h7' : (k == 7) = false := by simp [h7]
    unfold zeroT at HN2
    have n3' := HN2.out
    go_enter Tryz.func43, Tryz.ntmps43
    go_wp2_with fail
    rw [← HW.out]
    refine bodyPost_ret (Sb.results_ct rfl _ _ (w.heap.size + 2) 44 zeroT (0, 0) _ rfl n3' Tryz.underlying44 rfl (by rw [size_T]; rfl) rfl) rfl ?_
    unfold InsEndB insT
    rw [if_neg h7]
    exact ⟨rfl, HB.out⟩
theorem insT_any (w : World) (sv : Value) (m : Nat) (T : Int → Option Ty) (R : Int → Option (List Str × Int)) (hs : SubV w sv m T R) (hm : m ≤ 1000000) (k : Int) (nm : Str) (v : Int) (kids : List Ty) (ls : List Str) (rv : Int) (l : List Value) (ht : TRV w (.mk k nm v kids ls rv) l) :
    Calls Tryz.prog 43 #[sv, .agg l.toArray] w (InsEnd w (insT T k v)) := by
  obtain ⟨vt, vr, gt, gr, rfl, hst, hsr, htm, hrm⟩ := hs
  refine (insTb_any w w w vt vr m T gt hst hsr.one htm hm k nm v kids ls rv l ht).mono fun e w' h => ?_
  obtain ⟨h1, h2⟩ := h
  refine ⟨?_, h2⟩
  cases hi : insT T k v with
  | none => rw [hi] at h1; exact h1
  | some u =>
    rw [hi] at h1
    obtain ⟨l, h3, h4⟩ := h1
    exact ⟨l, h3, h4.later h2⟩
end Go.Proofs.YtpbhndmfmnfeoaaGreat

/- What is said of a row's variable; ApplyRow where nothing is. -/
namespace Go.Proofs.YtpbhndmfmnfeoaaGreat
open Go.RowKit

/-- What is said of a row's variable; a closed row has none. -/
def insR (R : Int → Option (List Str × Int)) (rv : Int) : Option (List Str × Int) := if rv = 0 then none else R rv
/-- What is answered where something may be said of a row's variable. -/
def InsREnd (w : World) (o : Option (List Str × Int)) (e : Ending) (w' : World) : Prop :=
  (match o with | some u => ∃ l, e = .returned (.tuple #[.agg l.toArray, .bool true]) ∧ RwV w' u l | none => e = .returned (.tuple #[.agg zeroR, .bool false])) ∧ Below w.heap.size w w'
theorem RwV.fit {w : World} {r : List Str × Int} {l : List Value} (h : RwV w r l) : Fit1 2 l.toArray := by
  obtain ⟨lv, rfl, h1, _⟩ := h
  refine ⟨rfl, ?_⟩
  simp [Value.oneCell']
  exact h1.one
theorem RwV.later {w w' : World} {r : List Str × Int} {l : List Value} (h : RwV w r l) (hb : Below w.heap.size w w') : RwV w' r l := h.keep hb.block
set_option maxRecDepth 100000 in
set_option maxHeartbeats 4000000 in
theorem insR_any (w : World) (sv : Value) (m : Nat) (T : Int → Option Ty) (R : Int → Option (List Str × Int)) (hs : SubV w sv m T R) (hm : m ≤ 1000000) (lv : Value) (ls : List Str) (rv : Int) (hlv : StrR w lv ls) (hrv : i64ok rv) :
    Calls Tryz.prog 47 #[sv, .agg #[lv, .int .i64 rv]] w (InsREnd w (insR R rv)) := by
  obtain ⟨vt, vr, gt, gr, rfl, hst, hsr, htm, hrm⟩ := hs
  obtain ⟨A1, n1, c1, rfl⟩ := hst.one
  obtain ⟨A2, n2, c2, rfl⟩ := hsr.one
  obtain ⟨A4, n4, c4, rfl⟩ : ∃ A n c, lv = .slice A n c := by rcases hlv.1 with ⟨rfl, _⟩ | ⟨_, _, rfl, _⟩ <;> exact ⟨_, _, _, rfl⟩
  obtain ⟨W, hW⟩ : ∃ W, W = ((w.alloc (.cells #[.slice A1 n1 c1, .slice A2 n2 c2] 34)).alloc (.cells #[.slice A4 n4 c4, .int .i64 rv] 24)).alloc (.cells #[.slice none 0 0, .int .i64 0] 24) := ⟨_, rfl⟩
  have hb : Below w.heap.size w W := by rw [hW]; exact (((Below.refl _ w).alloc (Nat.le_refl _) _).alloc (by simp) _).alloc (by simp; omega) _
  have n2' : Lies W (w.heap.size + 2) 24 zeroR := by rw [hW]; exact Lies.new' _ _ _ (by simp)
  have hof := ofR_said W (.slice A2 n2 c2) m gr rv (hsr.keep hb.block) hrv hm
  have HW := Lib.hid hW
  have HB := Lib.hid hb
  have HN2 := Lib.hid n2'
  have HO := Lib.hid hof
  have HRM := Lib.hid hrm
  have HOK := Lib.hid hrv
  clear hof hW hb n2' hst hsr htm hrm hlv hrv
  by_cases h7 : rv = 0
  · subst h7
    unfold zeroR at HN2
    have n3' := HN2.out
    go_enter Tryz.func47, Tryz.ntmps47
    go_wp2_with fail
    rw [← HW.out]
    refine bodyPost_ret (Sb.results_ct rfl _ _ (w.heap.size + 2) 24 zeroR (0, 0) _ rfl n3' Tryz.underlying24 rfl (by rw [size_R]; rfl) rfl) rfl ?_
    unfold InsREnd insR
    rw [if_pos rfl]
    exact ⟨rfl, HB.out⟩
  · have h7' : (rv == 0) = false := by simp [h7]
    unfold zeroR at HN2
    have hsome : gr rv = none ∨ ∃ cs, gr rv = some cs := by cases gr rv <;> simp
    go_enter Tryz.func47, Tryz.ntmps47
    go_wp2_with fail
    rw [← HW.out]
    refine HO.out.mono ?_
    rintro e w1 ⟨rfl, hb1⟩
    have n3' := HN2.out.later hb1
    have hb2 : Below w.heap.size w w1 := HB.out.trans (hb1.mono HB.out.size)
    have htv := HRM.out rv HOK.out
    have hlt := HN2.out.lt
    rcases hsome with hg | ⟨cs, hg⟩
    · rw [hg]
      have hT : R rv = none := by
        cases hT : R rv with
        | none => rfl
        | some t => rw [hT] at htv; obtain ⟨l, h1, _⟩ := htv; rw [hg] at h1; cases h1
      have HT := Lib.hid hT
      have HB2 := Lib.hid hb2
      unfold zeroR lookV
      clear htv hg hT hb2
      go_wp2_with (first | (refine wpList_store_rowTo rfl 24 (.tmp 4) (.tmp 15) rfl rfl (w.heap.size + 2) zeroR rfl rfl 24 _ n3' (by rw [size_R]; rfl) rfl (by kernel_rfl) ?_))
      refine bodyPost_ret (Sb.results_ct rfl _ _ (w.heap.size + 2) 24 zeroR (0, 0) _ rfl (Sb.setRow_at n3' _) Tryz.underlying24 rfl (by rw [size_R]; rfl) rfl) rfl ?_
      unfold InsREnd insR
      rw [if_neg h7, HT.out]
      exact ⟨rfl, Sb.below_setRow HB2.out (by omega) _⟩
    · rw [hg]
      cases hT : R rv with
      | none => rw [hT] at htv; rw [hg] at htv; cases htv
      | some t =>
        rw [hT] at htv
        obtain ⟨l, h1, h2⟩ := htv
        rw [hg] at h1
        injection h1 with h1
        subst h1
        have hfit := h2.fit
        have hsc := hfit.1
        have hoc := hfit.2
        have HT := Lib.hid hT
        have HB2 := Lib.hid hb2
        have H2 := Lib.hid h2
        unfold lookV
        clear hg hT hb2 h2 hfit
        go_wp2_with (first | (refine wpList_store_rowTo rfl 24 (.tmp 4) (.tmp 15) rfl rfl (w.heap.size + 2) l.toArray rfl rfl 24 _ n3' (by rw [size_R, hsc]) (by rw [hsc]; rfl) hoc ?_))
        refine bodyPost_ret (Sb.results_ct rfl _ _ (w.heap.size + 2) 24 l.toArray (0, 0) _ rfl (Sb.setRow_at n3' _) Tryz.underlying24 rfl (by rw [size_R, hsc]) rfl) rfl ?_
        unfold InsREnd insR
        rw [if_neg h7, HT.out]
        have hbs := Sb.below_setRow HB2.out (by omega : w.heap.size ≤ w.heap.size + 2) l.toArray
        exact ⟨⟨l, rfl, H2.out.later hbs⟩, hbs⟩

set_option maxRecDepth 100000 in
set_option maxHeartbeats 4000000 in
/-- A row of whose variable nothing is said is copied. -/
theorem applyRow_any (w : World) (sv : Value) (m : Nat) (T : Int → Option Ty) (R : Int → Option (List Str × Int)) (hs : SubV w sv m T R) (hm : m ≤ 1000000) (lv : Value) (ls : List Str) (rv : Int) (hlv : StrR w lv ls) (hrv : i64ok rv) (hno : insR R rv = none) :
    Calls Tryz.prog 28 #[sv, .agg #[lv, .int .i64 rv]] w fun e w' => ∃ v', e = .returned (.agg #[v', .int .i64 rv]) ∧ OwnL w' w.heap.size v' ls ∧ Below w.heap.size w w' := by
  have hs0 := hs
  have hlv0 := hlv
  obtain ⟨vt, vr, gt, gr, rfl, hst, hsr, _, _⟩ := hs
  obtain ⟨A1, n1, c1, rfl⟩ := hst.one
  obtain ⟨A2, n2, c2, rfl⟩ := hsr.one
  obtain ⟨A4, n4, c4, rfl⟩ : ∃ A n c, lv = .slice A n c := by rcases hlv.1 with ⟨rfl, _⟩ | ⟨_, _, rfl, _⟩ <;> exact ⟨_, _, _, rfl⟩
  obtain ⟨W, hW⟩ : ∃ W, W = ((w.alloc (.cells #[.slice A1 n1 c1, .slice A2 n2 c2] 34)).alloc (.cells #[.slice A4 n4 c4, .int .i64 rv] 24)).alloc (.cells #[.slice none 0 0, .int .i64 0] 24) := ⟨_, rfl⟩
  have hb : Below w.heap.size w W := by rw [hW]; exact (((Below.refl _ w).alloc (Nat.le_refl _) _).alloc (by simp) _).alloc (by simp; omega) _
  have k1 : Lies W (w.heap.size + 1) 24 #[.slice A4 n4 c4, .int .i64 rv] := by rw [hW]; exact (Lies.new' _ _ _ (by simp)).alloc _
  have k2 : Lies W (w.heap.size + 2) 24 zeroR := by rw [hW]; exact Lies.new' _ _ _ (by simp)
  have hins := insR_any W _ m T R (hs0.later hb) hm _ ls rv (hlv0.keep hb.block) hrv
  rw [hno] at hins
  have HW := Lib.hid hW
  have HB := Lib.hid hb
  have HI := Lib.hid hins
  have HK1 := Lib.hid k1
  have HK2 := Lib.hid k2
  have HLV := Lib.hid hlv0
  clear hins hW hb k1 k2 hst hsr hs0 hlv hlv0 hno
  go_enter Tryz.func28, Tryz.ntmps28
  go_wp2_with fail
  rw [← HW.out]
  refine HI.out.mono ?_
  rintro e w1 ⟨rfl, hb1⟩
  have hb2 : Below w.heap.size w w1 := HB.out.trans (hb1.mono HB.out.size)
  have j1 := HK1.out.later hb1
  have j2 := HK2.out.later hb1
  have hbz := below_new w1 (.cells zeroR 24)
  have i1 := j1.later hbz
  have i2 := j2.later hbz
  have c0 := i1.cell 0
  have c1' := i1.cell 1
  have hcp := copiedRow_any (.slice A4 n4 c4) ls rv _ (HLV.out.keep (hb2.trans (hbz.mono hb2.size)).block)
  have HCP := Lib.hid hcp
  have HB2 := Lib.hid hb2
  have HBZ := Lib.hid hbz
  have HI2 := Lib.hid i2
  have hltw := HK2.out.lt
  unfold zeroR at HCP HBZ HI2 c0 c1' ⊢
  clear hcp hb2 hbz i1 i2 j1 j2
  go_wp2_with fail
  refine HCP.out.mono ?_
  rintro e w3 ⟨v3, rfl, ho3, hb3⟩
  have n3 := HI2.out.later hb3
  have d0 := n3.cell 0
  have d1 := n3.cell 1
  have e0 := n3.free 0
  have e1 := n3.free 1
  have l3 := n3.lt
  have HO3 := Lib.hid ho3
  obtain ⟨A5, n5, c5, rfl⟩ := own_slice ho3
  clear ho3
  go_wp2_with fail
  refine bodyPost_ret (v := .agg #[.slice A5 n5 c5, .int .i64 rv]) (results_cell_row rfl _ _ (w.heap.size + 2) 24 _ (0, 0) _ rfl ((n3.set 0 (.slice A5 n5 c5)).set 1 (.int .i64 rv)) Tryz.underlying24 rfl size_R) rfl ?_
  have hBw1 := HB2.out.size
  have hB3 : Below w.heap.size w w3 := (HB2.out.trans (HBZ.out.mono HB2.out.size)).trans (hb3.mono (by have := HBZ.out.size; omega))
  refine ⟨_, rfl, ?_, (hB3.setCell (p := ⟨w.heap.size + 2, 0, none⟩) (by simp) _).setCell (p := ⟨w.heap.size + 2, 1, none⟩) (by simp) _⟩
  refine own_mono (own_same HO3.out fun g hg hlt => ?_) (by have := HBZ.out.size; omega)
  have hne : g ≠ w.heap.size + 2 := by have := HI2.out.lt; omega
  exact (Below.heap_setCell _ ⟨w.heap.size + 2, 1, none⟩ _ g hne).trans (Below.heap_setCell _ ⟨w.heap.size + 2, 0, none⟩ _ g hne)
end Go.Proofs.YtpbhndmfmnfeoaaGreat
