/- Package scheme: Instance. -/
import Derived.Test.YthdfomcpoofkaaaScMc
import Derived.Test.YthdfomcpoofkaaaMg24
import Derived.Test.YthdfomcpoofkaaaScH
import Derived.Outline
namespace Go.Proofs.Ythdfomcpoofkaaa
open Go.RowKit

/-- What Instance asks of a scheme's type and of another one. -/
structure InstOK (A : List Int) (t u : Ty) : Prop where
  small : t.size ≤ 900
  smallU : u.size ≤ 1000
  srt : srtT t
  occ : ∀ n ∈ A, occ n t ≤ 1
theorem inst_tail (w x z : World) (p bm bk br : Nat) (s1 s2 : Value) (A : List Int) (t u : Ty) {l lu : List Value} (ht : TFV w t l) (hu : TRV w u lu) (htree : ∃ N0, Tree1 N0 l w) (hok : InstOK A t u) (hsz : z.heap.size = x.heap.size) (hoz : ∀ g, g ≠ p → z.heap[g]? = x.heap[g]?) (hxl : ∃ c, Lies x p 97 c)
    (hl : Lies z p 97 (matC s1 s2 l bk br (.slice none 0 0) (.slice none 0 0) (.slice none 0 0) bm))
    (hA : MapI x 0 bk A.length (inG A)) (hB : MapI x 0 br 0 (inG [])) (hM : KeyM x bm []) (hlow : w.heap.size ≤ p ∧ p < x.heap.size ∧ w.heap.size ≤ bk ∧ w.heap.size ≤ bm ∧ w.heap.size ≤ br) (hne : bm ≠ bk ∧ bm ≠ br) (hbel : Below w.heap.size w z) :
    Calls Try.prog 51 #[.pointer (some ⟨p, 0, none⟩), .agg lu.toArray] z fun e w' => e = .returned (.bool (pm A t u)) ∧ Below w.heap.size w w' := by
  obtain ⟨l1, l2, l3, l4, l5⟩ := hlow
  obtain ⟨N0, htree⟩ := htree
  have a1 := hA.lt
  have b1 := hB.lt
  have m1' := hM.lt
  obtain ⟨cx, hxl⟩ := hxl
  have hxl : x.heap[p]? = _ := hxl
  have e1 : p ≠ bm := fun e => by
    obtain ⟨es, c, h⟩ := hM.isMap
    rw [← e, hxl] at h
    cases h
  have e2 : p ≠ bk := fun e => by
    obtain ⟨es, c, h, _⟩ := hA.isMap
    rw [← e, hxl] at h
    cases h
  have e3 : p ≠ br := fun e => by
    obtain ⟨es, c, h, _⟩ := hB.isMap
    rw [← e, hxl] at h
    cases h
  refine becomes_any (w0 := w) (p := p) (bm := bm) (bk := bk) (br := br) (B := z.heap.size) (s1 := s1) (s2 := s2) (K := A) ⟨⟨by omega, by omega⟩, ⟨by omega, by omega⟩, ⟨by omega, by omega⟩, ⟨by omega, by omega⟩, e1, e2, e3, hne.1, hne.2⟩ ht htree hu ⟨⟨.slice none 0 0, .slice none 0 0, .slice none 0 0, ⟨hl, World.ownsRow_nil _ _ _ _, hM.keep (hoz bm (fun e => e1 e.symm)) (fun x hx => by cases hx)⟩, SubV.none _ _⟩, ⟨_, hA.keep (hoz bk (fun e => e2 e.symm))⟩, hB.keep (hoz br (fun e => e3 e.symm)), hbel, Nat.le_refl _, fun x hx => by cases hx⟩ hok.small hok.smallU hok.srt hok.occ
theorem instance_any (w : World) (v1 v2 : Value) (A : List Int) (t u : Ty) (l lu : List Value) (h1 : IntR w v1 A) (hA : A.length ≤ 100000000) (h2 : IntR w v2 []) (ht : TFV w t l) (htree : ∃ N0, Tree1 N0 l w) (hu : TRV w u lu) (hok : InstOK A t u) :
    Calls Try.prog 27 #[schemeV v1 v2 l, .agg lu.toArray] w fun e w' => e = .returned (.bool (pm A t u)) ∧ Below w.heap.size w w' :=
  instance_core w v1 v2 A [] _ t u l lu h1 hA h2 (by simp) ht.trv hu fun x z p bm bk br s1 s2 hsz hoz hxl hl hA' hB' hM hlow hne hbel => inst_tail w x z p bm bk br s1 s2 A t u ht hu htree hok hsz hoz hxl hl hA' hB' hM hlow hne hbel
end Go.Proofs.Ythdfomcpoofkaaa

/- Right types, as the matcher wants them; what it tells where nothing is bound. -/
namespace Go.Proofs.Ythdfomcpoofkaaa
open Go.RowKit

theorem rise_pairwise : ∀ ls : List Str, RiseS ls → ls.Pairwise fun a b => decide (a ≤ b) = true
  | [], _ => .nil
  | [a], _ => by simp
  | a :: b :: r, h => by
    have h1 : RiseS (b :: r) := fun i x y hx hy => h (i + 1) x y (by simpa using hx) (by simpa using hy)
    have ih := rise_pairwise (b :: r) h1
    have hab : a ≤ b := List.not_lt.1 (h 0 a b rfl rfl)
    refine .cons (fun x hx => ?_) ih
    rcases List.mem_cons.1 hx with rfl | hx
    · simpa using hab
    · have := (List.pairwise_cons.1 ih).1 x hx
      exact decide_eq_true (List.le_trans hab (of_decide_eq_true this))
theorem rise_sort {ls : List Str} (h : RiseS ls) : Rw.sortS ls = ls := by
  unfold Rw.sortS
  exact List.mergeSort_of_pairwise (rise_pairwise ls h)
mutual
theorem RightP.srt : ∀ t : Ty, RightP t → srtT t
  | .mk k nm v kids ls rv, h => by
    simp only [RightP] at h
    exact ⟨rise_sort h.1.2, RightPL.srt kids h.2⟩
theorem RightPL.srt : ∀ l : List Ty, RightPL l → srtL l
  | [], _ => trivial
  | t :: r, h => ⟨RightP.srt t h.1, RightPL.srt r h.2⟩
end
mutual
theorem pm_nil : ∀ t u : Ty, pm [] t u = true ↔ t = u
  | .mk k nm v kids ls rv, .mk k' nm' v' kids' ls' rv' => by
    have h := pmL_nil kids kids'
    simp only [pm, hdM, List.not_mem_nil, and_false, if_false, decide_false, Bool.false_or, Bool.and_eq_true, decide_eq_true_eq, Ty.mk.injEq]
    constructor
    · rintro ⟨⟨h1, h2, h3, h4, h5, h6⟩, h7⟩
      exact ⟨h1, h2, h3, h.1 h7, h6, h5⟩
    · rintro ⟨h1, h2, h3, h4, h5, h6⟩
      exact ⟨⟨h1, h2, h3, by rw [h4], h6, h5⟩, h.2 h4⟩
theorem pmL_nil : ∀ l m : List Ty, pmL [] l m = true ↔ l = m
  | [], [] => by simp [pmL]
  | [], u :: s => by simp [pmL]
  | t :: r, [] => by simp [pmL]
  | t :: r, u :: s => by
    simp only [pmL, Bool.and_eq_true, pm_nil t u, pmL_nil r s, List.cons.injEq]
end
/-- A list of bare schemes that the call made; each type lives in blocks of its own. -/
def EnvX (w : World) (B : Nat) (v : Value) (E : List Ty) (xs : List (List Value)) : Prop :=
  xs.length = E.length ∧ w.ownsRow B 62 8 v E.length (xs.flatMap fun l => .slice none 0 0 :: .slice none 0 0 :: l) ∧ (∀ l ∈ xs, l.length = 6) ∧ ∀ (i : Nat) t l, E[i]? = some t → xs[i]? = some l →
    ∃ s e, e ≤ w.heap.size ∧ (∀ b, v.ownBlock = some b → b < s ∨ e ≤ b) ∧ ∀ w'', w.heap.size ≤ w''.heap.size → (∀ b, s ≤ b → b < e → w''.heap[b]? = w.heap[b]?) → TFV w'' t l
def EnvO (w : World) (B : Nat) (v : Value) (E : List Ty) : Prop := ∃ xs, EnvX w B v E xs
theorem flat8 (xs : List (List Value)) (h : ∀ l ∈ xs, l.length = 6) : (xs.flatMap fun l => Value.slice none 0 0 :: .slice none 0 0 :: l).length = xs.length * 8 := by
  induction xs with
  | nil => rfl
  | cons x r ih =>
    rw [List.flatMap_cons, List.length_append, ih fun l hl => h l (List.mem_cons_of_mem _ hl)]
    have := h x (List.mem_cons_self ..)
    simp only [List.length_cons]
    omega
theorem flat8_get (xs : List (List Value)) (h : ∀ l ∈ xs, l.length = 6) (i : Nat) (l : List Value) (hi : xs[i]? = some l) (j : Nat) (q : Value) (hq : (Value.slice none 0 0 :: .slice none 0 0 :: l)[j]? = some q) : (xs.flatMap fun l => Value.slice none 0 0 :: .slice none 0 0 :: l)[i * 8 + j]? = some q := by
  induction xs generalizing i with
  | nil => simp at hi
  | cons x r ih =>
    have hx := h x (List.mem_cons_self ..)
    rw [List.flatMap_cons]
    cases i with
    | zero =>
      have e : x = l := by simpa using hi
      subst e
      have hj := (List.getElem?_eq_some_iff.1 hq).1
      rw [Nat.zero_mul, Nat.zero_add, List.getElem?_append_left hj]
      exact hq
    | succ i =>
      rw [List.getElem?_append_right (by simp only [List.length_cons]; omega)]
      have := ih (fun l hl => h l (List.mem_cons_of_mem _ hl)) i (by simpa using hi)
      rw [show (i + 1) * 8 + j - (Value.slice none 0 0 :: Value.slice none 0 0 :: x).length = i * 8 + j by simp only [List.length_cons]; omega]
      exact this
theorem EnvO.env {w : World} {B : Nat} {v : Value} {E : List Ty} (h : EnvO w B v E) : EnvB w v E := by
  obtain ⟨xs, h1, h2, h3, h4⟩ := h
  have hc := h2.2
  rcases hc with ⟨h5, h6⟩ | ⟨g, cap, cur, rfl, hb, hh, hcap, _, _, _⟩
  · have hE : E = [] := List.eq_nil_of_length_eq_zero h6
    subst hE
    exact ⟨none, 0, h5, Nat.le_refl _, fun i t ht => by simp at ht⟩
  · refine ⟨_, cap, rfl, hcap, fun i t ht => ?_⟩
    have hi := (List.getElem?_eq_some_iff.1 ht).1
    obtain ⟨l, hl⟩ : ∃ l, xs[i]? = some l := ⟨_, List.getElem?_eq_getElem (by omega)⟩
    obtain ⟨s, e, h8, _, h9⟩ := h4 i t l ht hl
    refine ⟨g, 0, l, rfl, h9 w (Nat.le_refl _) (fun _ _ _ => rfl), fun j q hq => ?_⟩
    have h7 := h2.cells (g := g) rfl (i * 8 + j) q (flat8_get xs h3 i l hl j q hq)
    rwa [show (⟨g, 0, none⟩ : Addr).add (i * 8 + j) = ⟨g, 0 + i * 8 + j, none⟩ by unfold Addr.add; split <;> simp_all] at h7
theorem EnvO.later {w w' : World} {B : Nat} {v : Value} {E : List Ty} (h : EnvO w B v E) (hb : Below w.heap.size w w') : EnvO w' B v E := by
  obtain ⟨xs, h1, h2, h3, h4⟩ := h
  refine ⟨xs, h1, own_later h2 hb, h3, fun i t l ht hl => ?_⟩
  obtain ⟨s, e, h5, h6, h7⟩ := h4 i t l ht hl
  exact ⟨s, e, Nat.le_trans h5 hb.size, h6, fun w'' hs hk => h7 w'' (Nat.le_trans hb.size hs) fun b hb1 hb2 => (hk b hb1 hb2).trans (hb.block b (by omega))⟩
theorem own_n {w : World} {B : Nat} {e : TypeId} {size n c m : Nat} {A : Option Addr} {xs : List Value} (h : w.ownsRow B e size (.slice A n c) m xs) : n = m := by
  rcases h.2 with ⟨h1, h2⟩ | ⟨g, cap, cur, h1, _⟩
  · cases h1; exact h2.symm
  · cases h1; rfl
/-- One more. -/
theorem EnvO.add {y y4 w5 : World} {B : Nat} {v v' : Value} {E : List Ty} {u : Ty} {l : List Value} {s : Nat} {xs : List (List Value)} (h : EnvX y B v E xs) (hl : l.length = 6) (ht : ∀ w'', Kept (fun b => b < s) y w'' → TFV w'' u l) (hy : Below y.heap.size y y4)
    (hg : y4.grownBy w5 v.ownBlock) (hat : v'.ownBlock = v.ownBlock ∨ v'.ownBlock = some y4.heap.size) (ho : w5.ownsRow B 62 8 v' (E.length + 1) ((xs.flatMap fun l => .slice none 0 0 :: .slice none 0 0 :: l) ++ (.slice none 0 0 :: .slice none 0 0 :: l))) (hvs : ∀ b, v.ownBlock = some b → b < s) : EnvO w5 B v' (E ++ [u]) := by
  obtain ⟨h1, h2, h3, h4⟩ := h
  have hys := hy.size
  have hgs := hg.size
  have hkeep : ∀ b, b < y.heap.size → v.ownBlock ≠ some b → w5.heap[b]? = y.heap[b]? := fun b hb hn => (hg.block b (by omega) (fun e => hn e.symm)).trans (hy.block b hb)
  refine ⟨xs ++ [l], by simp [h1], ?_, fun x hx => ?_, fun i t lx hi hli => ?_⟩
  · rw [List.flatMap_append]
    simpa using ho
  · rcases List.mem_append.1 hx with hx | hx
    · exact h3 x hx
    · rw [List.mem_singleton.1 hx]; exact hl
  · by_cases hlt : i < E.length
    · rw [List.getElem?_append_left hlt] at hi
      rw [List.getElem?_append_left (by omega)] at hli
      obtain ⟨s1, e1, h5, h6, h7⟩ := h4 i t lx hi hli
      refine ⟨s1, e1, by omega, fun b hb => ?_, fun w'' hs hk => h7 w'' (by omega) fun b hb1 hb2 => (hk b hb1 hb2).trans (hkeep b (by omega) fun e => by rcases h6 b e with h | h <;> omega)⟩
      rcases hat with hat | hat
      · exact h6 b (hat ▸ hb)
      · rw [hat] at hb; injection hb with hb; omega
    · have hlt2 := (List.getElem?_eq_some_iff.1 hi).1
      simp only [List.length_append, List.length_cons, List.length_nil] at hlt2
      obtain rfl : i = E.length := by omega
      rw [List.getElem?_append_right (Nat.le_refl _)] at hi
      rw [← h1, List.getElem?_append_right (Nat.le_refl _)] at hli
      simp only [Nat.sub_self, List.getElem?_cons_zero, Option.some.injEq] at hi hli
      subst hi hli
      refine ⟨s, y.heap.size, by omega, fun b hb => ?_, fun w'' hs hk => ht w'' ⟨by omega, fun b hb hn => (hk b (by omega) hb).trans (hkeep b hb fun e => hn (hvs b e))⟩⟩
      rcases hat with hat | hat
      · exact .inl (hvs b (hat ▸ hb))
      · rw [hat] at hb; injection hb with hb; omega
theorem EnvO.nil (w : World) (B : Nat) : EnvO w B (.slice none 0 0) [] := ⟨[], rfl, World.ownsRow_nil _ _ _ _, fun l hl => (by cases hl), fun i t l ht => by simp at ht⟩
theorem info_scheme : (Try.prog.info? 62).map (fun i => (i.size, i.bytes)) = some (8, 136) := by kernel_rfl
end Go.Proofs.Ythdfomcpoofkaaa
