/- What gathers the variables of a type that came in: some of those that stand there, each once. -/
import Derived.Test.YtclaabnjokkbjaaMg07
import Derived.Test.YtclaabnjokkbjaaMg08
import Derived.Test.YtclaabnjokkbjaaMg09
import Derived.Test.YtclaabnjokkbjaaMg10
import Derived.Test.YtclaabnjokkbjaaMg06
import Derived.StillTailTactics
import Derived.Outline
import Derived.Laws.StructEq
namespace Go.Proofs.Ytclaabnjokkbjaa
open Go.RowKit

mutual
/-- A type variable that stands in a type. -/
def inK : Ty → Int → Prop
  | .mk k _ v kids _ _, n => (k = 7 ∧ n = v) ∨ inKL kids n
def inKL : List Ty → Int → Prop
  | [], _ => False
  | t :: r, n => inK t n ∨ inKL r n
end
mutual
/-- A row variable that stands in a type. -/
def inR : Ty → Int → Prop
  | .mk _ _ _ kids _ rv, n => (rv ≠ 0 ∧ n = rv ∧ kids ≠ []) ∨ inRL kids n
def inRL : List Ty → Int → Prop
  | [], _ => False
  | t :: r, n => inR t n ∨ inRL r n
end
theorem inKL_get : ∀ (l : List Ty) (i : Nat) t n, l[i]? = some t → inK t n → inKL l n
  | [], i, t, _, h, _ => by simp at h
  | u :: r, 0, t, n, h, h2 => by
    have : u = t := by simpa using h
    exact .inl (this ▸ h2)
  | u :: r, i + 1, t, n, h, h2 => .inr (inKL_get r i t n (by simpa using h) h2)
theorem inRL_get : ∀ (l : List Ty) (i : Nat) t n, l[i]? = some t → inR t n → inRL l n
  | [], i, t, _, h, _ => by simp at h
  | u :: r, 0, t, n, h, h2 => by
    have : u = t := by simpa using h
    exact .inl (this ▸ h2)
  | u :: r, i + 1, t, n, h, h2 => .inr (inRL_get r i t n (by simpa using h) h2)
/-- Some numbers more, each once. -/
structure Ext1 (P : Int → Prop) (s : Nat) (K K' : List Int) : Prop where
  mem : ∀ n ∈ K', n ∈ K ∨ P n
  sup : ∀ n ∈ K, n ∈ K'
  len : K'.length ≤ K.length + s
  nod : K.Nodup → K'.Nodup
  ok : (∀ n ∈ K, i64ok n) → ∀ n ∈ K', i64ok n
theorem Ext1.refl (P : Int → Prop) (K : List Int) : Ext1 P 0 K K := ⟨fun _ h => .inl h, fun _ h => h, Nat.le_refl _, id, id⟩
theorem Ext1.trans {P : Int → Prop} {s s' : Nat} {A B C : List Int} (h : Ext1 P s A B) (k : Ext1 P s' B C) : Ext1 P (s + s') A C :=
  ⟨fun n hn => (k.mem n hn).elim (fun h' => h.mem n h') .inr, fun n hn => k.sup n (h.sup n hn), by have := h.len; have := k.len; omega, fun hn => k.nod (h.nod hn), fun ho => k.ok (h.ok ho)⟩
theorem Ext1.mono {P P' : Int → Prop} {s s' : Nat} {A B : List Int} (h : Ext1 P s A B) (hp : ∀ n, P n → P' n) (hs : s ≤ s') : Ext1 P' s' A B :=
  ⟨fun n hn => (h.mem n hn).imp id (hp n), h.sup, by have := h.len; omega, h.nod, h.ok⟩
theorem Ext1.add {P : Int → Prop} (K : List Int) (n : Int) (hp : P n) (ho : i64ok n) : Ext1 P 1 K (addN K n) := by
  unfold addN
  split
  · exact (Ext1.refl P K).mono (fun _ h => h) (by omega)
  · rename_i hn
    refine ⟨fun m hm => ?_, fun m hm => by simp [hm], by simp, fun hk => ?_, fun hk m hm => ?_⟩
    · rcases List.mem_append.1 hm with h | h
      · exact .inl h
      · rw [List.mem_singleton.1 h]; exact .inr hp
    · rw [List.nodup_append]
      exact ⟨hk, by simp, fun a ha b hb e => by rw [List.mem_singleton.1 hb] at e; exact hn (e ▸ ha)⟩
    · rcases List.mem_append.1 hm with h | h
      · exact hk m h
      · rw [List.mem_singleton.1 h]; exact ho
/-- A type that came in, where it lies. -/
inductive TW (w : World) : Addr → Ty → Prop
  | mk (a : Addr) (k : Int) (nm : Str) (v : Int) (kids : List Ty) (ls : List Str) (rv : Int) (kv lv : Value) (h0 : a.spot = none) (hat : AtC w w.heap.size a) (hr : ReadsAt w a (tyC k nm v kv lv rv))
      (hk : SlR kv kids.length) (hi : oks k v rv) (hks : ∀ (i : Nat) t, kids[i]? = some t → TW w (kidAt kv i) t) : TW w a (.mk k nm v kids ls rv)
theorem own_blk {w w' : World} {B : Nat} {e : TypeId} {size n : Nat} {v : Value} {xs : List Value} (h : w.ownsRow B e size v n xs) (hs : ∀ q, v.ownBlock = some q → w'.heap[q]? = w.heap[q]?) : w'.ownsRow B e size v n xs := by
  refine ⟨h.1, ?_⟩
  rcases h.2 with h0 | ⟨g, cap, cur, h1, h2, h3, h4⟩
  · exact .inl h0
  · exact .inr ⟨g, cap, cur, h1, h2, (hs g (by rw [h1]; rfl)).trans h3, h4⟩
def gD (bs b1 : Nat) (v1 : Value) (b2 : Nat) (v2 : Value) : Array Value := #[.map (some bs), .map (some b1), v1, .map (some b2), v2]
/-- Where the gathering stands. -/
structure GW (w0 : World) (bs b1 b2 bg B : Nat) (K R : List Int) (W : World) : Prop where
  own : ∃ A1 k1 c1 A2 k2 c2, Lies W bg 123 (gD bs b1 (.slice A1 k1 c1) b2 (.slice A2 k2 c2)) ∧ OwnI W B (.slice A1 k1 c1) K ∧ OwnI W B (.slice A2 k2 c2) R ∧
    ∀ q, Value.ownBlock (.slice A1 k1 c1) = some q → Value.ownBlock (.slice A2 k2 c2) ≠ some q
  seen : ∃ m, Bag W w0.heap.size (.agg #[]) bs m
  mapK : IMap W b1 (setL K)
  mapR : IMap W b2 (setL R)
  below : Below w0.heap.size w0 W
  room : B ≤ W.heap.size
theorem GW.drew {w0 : World} {bs b1 b2 bg B : Nat} {K R : List Int} {W : World} (h : GW w0 bs b1 b2 bg B K R W) : GW w0 bs b1 b2 bg B K R W.drew := by
  obtain ⟨⟨A1, k1, c1, A2, k2, c2, h1, h2, h3, h4⟩, ⟨m, h5⟩, h6, h7, h8, h9⟩ := h
  exact ⟨⟨A1, k1, c1, A2, k2, c2, h1, h2, h3, h4⟩, ⟨m, h5.keep (fun _ _ => rfl)⟩, h6, h7, h8.trans ⟨rfl, rfl, rfl, Nat.le_refl _, fun _ _ => rfl⟩, h9⟩
/-- The blocks of the gathering. -/
structure GB (w0 : World) (bs b1 b2 bg B : Nat) : Prop where
  s : w0.heap.size ≤ bs ∧ bs < B
  k : w0.heap.size ≤ b1 ∧ b1 < B
  r : w0.heap.size ≤ b2 ∧ b2 < B
  g : w0.heap.size ≤ bg ∧ bg < B
  ne : bs ≠ b1 ∧ bs ≠ b2 ∧ bs ≠ bg ∧ b1 ≠ b2 ∧ b1 ≠ bg ∧ b2 ≠ bg

set_option maxRecDepth 100000 in
set_option maxHeartbeats 4000000 in
/-- A type variable goes in. -/
theorem addK_any {w0 : World} {bs b1 b2 bg B : Nat} (hb : GB w0 bs b1 b2 bg B) {K R : List Int} {W : World} (hG : GW w0 bs b1 b2 bg B K R W) (n : Int) (hK : K.length ≤ 100000000) :
    Calls Try.prog 76 #[.pointer (some ⟨bg, 1, none⟩), .int .i64 n] W fun e W' => e = .returned (.tuple #[]) ∧ GW w0 bs b1 b2 bg B (addN K n) R W' := by
  obtain ⟨⟨A1, k1, c1, A2, k2, c2, h1, h2, h3, h4⟩, ⟨m, h5⟩, h6, h7, h8, h9⟩ := hG
  obtain ⟨⟨s1, s2⟩, ⟨s3, s4⟩, ⟨s5, s6⟩, ⟨s7, s8⟩, n1, n2, n3, n4, n5, n6⟩ := hb
  have hc := numAdd2_any W bg 1 b1 B _ K A1 k1 c1 n h1 rfl rfl h6 h2 s4 s8 n5 hK h9
  refine hc.mono ?_
  rintro e W' ⟨rfl, A, k, c, hl, hm, hown, hnew, hfr⟩
  have hA1 : ∀ q, Value.ownBlock (.slice A1 k1 c1) = some q → B ≤ q := fun q hq => (own_block h2 q hq).1
  have hA2 : ∀ q, Value.ownBlock (.slice A2 k2 c2) = some q → B ≤ q ∧ q < W.heap.size := fun q hq => own_block h3 q hq
  have far : ∀ g, g < B → g ≠ b1 → g ≠ bg → W'.heap[g]? = W.heap[g]? := fun g hg e1 e2 => hfr.block g (by omega) (by
    rintro (h | h | h)
    · exact e1 h
    · exact e2 h
    · have := hA1 g h; omega)
  have keepo : OwnI W' B (.slice A2 k2 c2) R := own_blk h3 fun q hq => hfr.block q (hA2 q hq).2 (by
    rintro (h | h | h)
    · have := (hA2 q hq).1; omega
    · have := (hA2 q hq).1; omega
    · exact h4 q h hq)
  have hnq : ∀ q, Value.ownBlock (.slice A k c) = some q → Value.ownBlock (.slice A2 k2 c2) ≠ some q := fun q hq hq2 => by
    rcases hnew with h | ⟨q', h, hh⟩
    · rw [h] at hq
      exact h4 q hq hq2
    · rw [hh] at hq
      injection hq with hq
      have := (hA2 q hq2).2
      omega
  refine ⟨rfl, ⟨A, k, c, A2, k2, c2, hl, hown, keepo, hnq⟩, ⟨m, h5.keepB (far _ s2 (by omega) (by omega)) fun g hg => far g (by omega) (by omega) (by omega)⟩, hm, h7.keep (far _ s6 (by omega) (by omega)), ?_, Nat.le_trans h9 hfr.size⟩
  exact h8.trans ⟨hfr.os, hfr.tape, hfr.output, hfr.size, fun g hg => far g (by omega) (by omega) (by omega)⟩
set_option maxRecDepth 100000 in
set_option maxHeartbeats 4000000 in
/-- A row variable goes in. -/
theorem addR_any {w0 : World} {bs b1 b2 bg B : Nat} (hb : GB w0 bs b1 b2 bg B) {K R : List Int} {W : World} (hG : GW w0 bs b1 b2 bg B K R W) (n : Int) (hK : R.length ≤ 100000000) :
    Calls Try.prog 76 #[.pointer (some ⟨bg, 3, none⟩), .int .i64 n] W fun e W' => e = .returned (.tuple #[]) ∧ GW w0 bs b1 b2 bg B K (addN R n) W' := by
  obtain ⟨⟨A1, k1, c1, A2, k2, c2, h1, h2, h3, h4⟩, ⟨m, h5⟩, h6, h7, h8, h9⟩ := hG
  obtain ⟨⟨s1, s2⟩, ⟨s3, s4⟩, ⟨s5, s6⟩, ⟨s7, s8⟩, n1, n2, n3, n4, n5, n6⟩ := hb
  have hc := numAdd2_any W bg 3 b2 B _ R A2 k2 c2 n h1 rfl rfl h7 h3 s6 s8 n6 hK h9
  refine hc.mono ?_
  rintro e W' ⟨rfl, A, k, c, hl, hm, hown, hnew, hfr⟩
  have hA1 : ∀ q, Value.ownBlock (.slice A2 k2 c2) = some q → B ≤ q := fun q hq => (own_block h3 q hq).1
  have hA2 : ∀ q, Value.ownBlock (.slice A1 k1 c1) = some q → B ≤ q ∧ q < W.heap.size := fun q hq => own_block h2 q hq
  have far : ∀ g, g < B → g ≠ b2 → g ≠ bg → W'.heap[g]? = W.heap[g]? := fun g hg e1 e2 => hfr.block g (by omega) (by
    rintro (h | h | h)
    · exact e1 h
    · exact e2 h
    · have := hA1 g h; omega)
  have keepo : OwnI W' B (.slice A1 k1 c1) K := own_blk h2 fun q hq => hfr.block q (hA2 q hq).2 (by
    rintro (h | h | h)
    · have := (hA2 q hq).1; omega
    · have := (hA2 q hq).1; omega
    · exact h4 q hq h)
  have hnq : ∀ q, Value.ownBlock (.slice A k c) = some q → Value.ownBlock (.slice A1 k1 c1) ≠ some q := fun q hq hq2 => by
    rcases hnew with h | ⟨q', h, hh⟩
    · rw [h] at hq
      exact h4 q hq2 hq
    · rw [hh] at hq
      injection hq with hq
      have := (hA2 q hq2).2
      omega
  refine ⟨rfl, ⟨A1, k1, c1, A, k, c, hl, keepo, hown, fun q h1 h2 => hnq q h2 h1⟩, ⟨m, h5.keepB (far _ s2 (by omega) (by omega)) fun g hg => far g (by omega) (by omega) (by omega)⟩, h6.keep (far _ s4 (by omega) (by omega)), hm, ?_, Nat.le_trans h9 hfr.size⟩
  exact h8.trans ⟨hfr.os, hfr.tape, hfr.output, hfr.size, fun g hg => far g (by omega) (by omega) (by omega)⟩
end Go.Proofs.Ytclaabnjokkbjaa

/- What the reference's Vars answers, as sets; how many are bound and free. -/
namespace Go.Proofs.Ytclaabnjokkbjaa
open Go.RowKit

theorem withL_iff (L : List Int) (n x : Int) : x ∈ withL L n ↔ x ∈ L ∨ x = n := by
  unfold withL
  split
  · rename_i h
    exact ⟨.inl, fun h2 => h2.elim id fun e => e ▸ h⟩
  · simp
theorem withL_nod {L : List Int} (n : Int) (h : L.Nodup) : (withL L n).Nodup := by
  unfold withL
  split
  · exact h
  · rename_i hn
    rw [List.nodup_append]
    exact ⟨h, by simp, fun a ha b hb e => by rw [List.mem_singleton.1 hb] at e; exact hn (e ▸ ha)⟩
mutual
/-- Rows stand at functions alone. -/
def fnRow : Ty → Prop
  | .mk k _ _ kids _ rv => (k ≠ 5 → rv = 0) ∧ 0 ≤ rv ∧ fnRowL kids
def fnRowL : List Ty → Prop
  | [] => True
  | t :: r => fnRow t ∧ fnRowL r
end
mutual
theorem varsT_K : ∀ (t : Ty) (s : LL2) (n : Int), n ∈ (varsT t s).1 ↔ n ∈ s.1 ∨ inK t n
  | .mk k nm v kids ls rv, s, n => by
    simp only [varsT, inK]
    rw [varsTL_K k rv true kids _ n]
    by_cases hk : k = 7
    · simp only [hk, if_true, withL_iff, true_and]
      constructor
      · rintro ((h | h) | h)
        · exact .inl h
        · exact .inr (.inl h)
        · exact .inr (.inr h)
      · rintro (h | h | h)
        · exact .inl (.inl h)
        · exact .inl (.inr h)
        · exact .inr h
    · simp only [hk, if_false, false_and, false_or]
theorem varsTL_K (k rv : Int) : ∀ (f : Bool) (l : List Ty) (s : LL2) (n : Int), n ∈ (varsTL k rv f l s).1 ↔ n ∈ s.1 ∨ inKL l n
  | f, [], s, n => by simp [varsTL, inKL]
  | f, t :: r, s, n => by
    simp only [varsTL, inKL]
    rw [varsTL_K k rv false r _ n, varsF_fst, varsT_K t s n]
    exact ⟨fun h => by rcases h with (h | h) | h <;> simp [h], fun h => by rcases h with h | h | h <;> simp [h]⟩
end
theorem varsF_R (k rv : Int) (f : Bool) (s : LL2) (n : Int) (h1 : k ≠ 5 → rv = 0) (h2 : 0 ≤ rv) : n ∈ (varsF k rv f s).2 ↔ n ∈ s.2 ∨ (f = true ∧ rv ≠ 0 ∧ n = rv) := by
  unfold varsF
  split
  · rename_i h
    rw [withL_iff]
    exact ⟨fun h3 => h3.imp id fun e => ⟨h.1, by omega, e⟩, fun h3 => h3.imp id fun e => e.2.2⟩
  · rename_i h
    refine ⟨.inl, fun h3 => h3.elim id fun e => absurd ⟨e.1, ?_, ?_⟩ h⟩
    · exact Decidable.byContradiction fun hk => e.2.1 (h1 hk)
    · have := e.2.1; omega
mutual
theorem varsT_R : ∀ (t : Ty) (s : LL2) (n : Int), fnRow t → (n ∈ (varsT t s).2 ↔ n ∈ s.2 ∨ inR t n)
  | .mk k nm v kids ls rv, s, n, h => by
    obtain ⟨h1, h2, h3⟩ := h
    simp only [varsT, inR]
    have e : (if k = 7 then (withL s.1 v, s.2) else s).2 = s.2 := by split <;> rfl
    rw [varsTL_R k rv h1 h2 true kids _ n h3, e]
    exact ⟨fun h => by rcases h with h | ⟨_, h4, h5, h6⟩ | h
                       · exact .inl h
                       · exact .inr (.inl ⟨h4, h5, h6⟩)
                       · exact .inr (.inr h),
      fun h => by rcases h with h | ⟨h4, h5, h6⟩ | h
                  · exact .inl h
                  · exact .inr (.inl ⟨rfl, h4, h5, h6⟩)
                  · exact .inr (.inr h)⟩
theorem varsTL_R (k rv : Int) (h1 : k ≠ 5 → rv = 0) (h2 : 0 ≤ rv) : ∀ (f : Bool) (l : List Ty) (s : LL2) (n : Int), fnRowL l → (n ∈ (varsTL k rv f l s).2 ↔ n ∈ s.2 ∨ (f = true ∧ rv ≠ 0 ∧ n = rv ∧ l ≠ []) ∨ inRL l n)
  | f, [], s, n, _ => by simp [varsTL, inRL]
  | f, t :: r, s, n, h => by
    obtain ⟨h3, h4⟩ := h
    simp only [varsTL, inRL]
    rw [varsTL_R k rv h1 h2 false r _ n h4, varsF_R k rv f _ n h1 h2, varsT_R t s n h3]
    simp
    constructor
    · intro h
      rcases h with ((h | h) | h) | h
      all_goals simp_all
    · intro h
      rcases h with h | h | h | h
      all_goals simp_all
end
mutual
theorem varsT_nod : ∀ (t : Ty) (s : LL2), s.1.Nodup → s.2.Nodup → (varsT t s).1.Nodup ∧ (varsT t s).2.Nodup
  | .mk k nm v kids ls rv, s, h1, h2 => by
    simp only [varsT]
    refine varsTL_nod k rv true kids _ ?_ ?_
    · split
      · exact withL_nod v h1
      · exact h1
    · split
      · exact h2
      · exact h2
theorem varsTL_nod (k rv : Int) : ∀ (f : Bool) (l : List Ty) (s : LL2), s.1.Nodup → s.2.Nodup → (varsTL k rv f l s).1.Nodup ∧ (varsTL k rv f l s).2.Nodup
  | f, [], s, h1, h2 => by simp only [varsTL]; exact ⟨h1, h2⟩
  | f, t :: r, s, h1, h2 => by
    simp only [varsTL]
    obtain ⟨h3, h4⟩ := varsT_nod t s h1 h2
    refine varsTL_nod k rv false r _ ?_ ?_
    · rw [varsF_fst]; exact h3
    · unfold varsF
      split
      · exact withL_nod rv h4
      · exact h4
end
/-- As many are free and bound as stand there. -/
theorem count_split (K S X : List Int) (hK : K.Nodup) (hS : S.Nodup) (hX : X.Nodup) (h1 : ∀ n ∈ S, n ∈ K) (h2 : ∀ n, n ∈ K ↔ n ∈ X) : (lessL K S).length + S.length = X.length := by
  have h3 : (lessL K S ++ S).Nodup := by
    rw [List.nodup_append]
    refine ⟨hK.sublist List.filter_sublist, hS, fun a ha b hb e => ?_⟩
    unfold lessL at ha
    have := (List.mem_filter.1 ha).2
    simp at this
    exact this (e ▸ hb)
  have h4 : ∀ n, n ∈ lessL K S ++ S ↔ n ∈ X := fun n => by
    rw [List.mem_append, ← h2 n]
    unfold lessL
    rw [List.mem_filter]
    by_cases hn : n ∈ S
    · simp [hn, h1 n hn]
    · simp [hn]
  have h5 := (List.perm_ext_iff_of_nodup h3 hX).2 h4
  have := h5.length_eq
  rw [List.length_append] at this
  exact this
mutual
/-- Of right types rows stand at functions alone. -/
theorem RightP.fn : ∀ t : Ty, RightP t → fnRow t
  | .mk k nm v kids ls rv, h => by
    simp only [RightP] at h
    simp only [fnRow]
    obtain ⟨⟨h1, _⟩, h2⟩ := h
    refine ⟨fun hk => ?_, ?_, RightPL.fn kids h2⟩
    · rcases h1 with h1 | h1
      · exact h1
      · exact absurd h1.1 hk
    · rcases h1 with h1 | h1
      · omega
      · exact h1.2.2
theorem RightPL.fn : ∀ l : List Ty, RightPL l → fnRowL l
  | [], _ => trivial
  | t :: r, h => ⟨RightP.fn t h.1, RightPL.fn r h.2⟩
end
end Go.Proofs.Ytclaabnjokkbjaa

/- A map of the call's own whose keys are two pointers and a number: what is not met by the first one of these is not found. -/
namespace Go.Proofs.Ytclaabnjokkbjaa
open Go Go.MapKept Go.ChangeMaps Go.RowKit

/-- A key. -/
def keyP (a b : Addr) (n : Int) : Value := .agg #[.pointer (some a), .pointer (some b), .int .i64 n]
/-- The map in block b has keys whose first pointers stand in L. -/
def KeyM (w : World) (b : Nat) (L : List Addr) : Prop :=
  (∃ es clock, w.heap[b]? = some (.map es clock) ∧ ∀ e ∈ es.toList, ∃ x y n, e.key = keyP x y n ∧ x ∈ L) ∧ ∀ x ∈ L, AtCells w x
theorem KeyM.made (w : World) : KeyM (w.alloc (.map #[] 0)) w.heap.size [] := ⟨⟨#[], 0, (MapKept.heap_alloc w _).1, fun e h => by simp at h⟩, fun x h => by cases h⟩
theorem KeyM.lt {w : World} {b : Nat} {L : List Addr} (h : KeyM w b L) : b < w.heap.size := by
  obtain ⟨⟨es, clock, hb, _⟩, _⟩ := h
  exact (Array.getElem?_eq_some_iff.1 hb).1
theorem KeyM.keep {w w' : World} {b : Nat} {L : List Addr} (h : KeyM w b L) (hb : w'.heap[b]? = w.heap[b]?) (hk : ∀ x ∈ L, w'.heap[x.block]? = w.heap[x.block]?) : KeyM w' b L := by
  obtain ⟨⟨es, clock, h1, h2⟩, h3⟩ := h
  exact ⟨⟨es, clock, hb.trans h1, h2⟩, fun x hx => (h3 x hx).keep (hk x hx)⟩
theorem KeyM.later {w w' : World} {b : Nat} {L : List Addr} (h : KeyM w b L) (hb : Below w.heap.size w w') : KeyM w' b L := h.keep (hb.block _ h.lt) fun x hx => hb.block _ (h.2 x hx).lt
theorem KeyM.isMap {w : World} {b : Nat} {L : List Addr} (h : KeyM w b L) : ∃ es c, w.heap[b]? = some (.map es c) := by
  obtain ⟨⟨es, clock, hb, _⟩, _⟩ := h
  exact ⟨_, _, hb⟩
theorem stood_places : Try.prog.stoodInHeld 154 = false := by kernel_rfl
theorem fields_places : Try.prog.underlying 154 = some (.struct (Try.prog.fieldsOf 154)) := by simp [Program.fieldsOf, Try.underlying154]
theorem isAgg_ptrT (w : World) : (isAgg 125).run Try.prog w = .ok false w := by kernel_rfl
theorem isAgg_intT (w : World) : (isAgg 3).run Try.prog w = .ok false w := by kernel_rfl
theorem part_ptr (w : World) (cs : Array Value) (i : Nat) (v : Value) (h : cs[i]? = some v) : (part 125 cs i).run Try.prog w = .ok v w := by
  simp [part, isAgg_ptrT, Result.andThen, h]
theorem part_intT (w : World) (cs : Array Value) (i : Nat) (v : Value) (h : cs[i]? = some v) : (part 3 cs i).run Try.prog w = .ok v w := by
  simp [part, isAgg_intT, Result.andThen, h]
theorem run_equal_keys {w : World} {a x : Addr} (b y : Addr) (n m : Int) (hne : a ≠ x) (ha : AtCells w a) (hx : AtCells w x) : (Op.equal 154 (keyP a b n) (keyP x y m)).run Try.prog w = .ok false w := by
  obtain ⟨inf, hinf, hsz⟩ := size_type
  obtain ⟨ca, ta, ha⟩ := ha
  obtain ⟨cb, tb, hx⟩ := hx
  have he' : ∀ d, (Op.equalIn (d + 1) 125 (.pointer (some a)) (.pointer (some x))).run Try.prog w = .ok false w := fun d => by
    simp [Op.equalIn, run_underlying Try.underlying125, typeInfo, sizeOf, hinf, hsz, run_sameAddr_other w hne ha hx]
  have he := he' 9998
  have p0 := part_ptr w #[.pointer (some a), .pointer (some b), .int .i64 n] 0 (.pointer (some a)) rfl
  have p1 := part_ptr w #[.pointer (some x), .pointer (some y), .int .i64 m] 0 (.pointer (some x)) rfl
  show (Op.equalIn (9999 + 1) 154 (.agg _) (.agg _)).run Try.prog w = .ok false w
  rw [run_equalIn_struct w 9999 _ _ _ fields_places stood_places]
  simp only [Program.fieldsOf, Try.underlying154, Op.eqFields]
  rw [if_pos (by decide)]
  simp only [Sem.run_bind, p0, p1, Result.andThen_ok, he]
  simp
theorem run_checkKey_keys (w : World) (em : Bool) (a b : Addr) (n : Int) : (Instr.checkKey em 10000 154 (keyP a b n)).run Try.prog w = .ok () w := by
  have h1 : ∀ v, (Instr.checkKey em 9999 125 v).run Try.prog w = .ok () w := fun v => run_checkKey_ptr Try.underlying125 em 9998 v
  have h2 : ∀ k, (Instr.checkKey em 9999 3 (.int .i64 k)).run Try.prog w = .ok () w := fun k => run_checkKey Try.underlying3 (by simp [IsKey]) em 9998
  show (Instr.checkKey em (9999 + 1) 154 (keyP a b n)).run Try.prog w = .ok () w
  unfold Instr.checkKey keyP
  simp only [Sem.run_bind, run_underlying Try.underlying154, Result.andThen_ok]
  rw [← Array.forIn_toList]
  simp only [List.forIn_cons, List.forIn_nil, Sem.run_bind, Sem.run_ite]
  simp [part_ptr, part_intT, h1, h2]
theorem run_findAsking_keys {w : World} (a b : Addr) (n : Int) (L : List Addr) (hn : a ∉ L) (ha : AtCells w a) (hL : ∀ x ∈ L, AtCells w x) : ∀ (es : List MapEntry) (i : Nat), (∀ e ∈ es, ∃ x y n, e.key = keyP x y n ∧ x ∈ L) →
    (Instr.findAsking 154 (keyP a b n) es i).run Try.prog w = .ok none w
  | [], i, _ => by simp [Instr.findAsking]
  | e :: es, i, h => by
    obtain ⟨x, y, m, hk, hx⟩ := h e (by simp)
    have hr := run_findAsking_keys a b n L hn ha hL es (i + 1) (fun e he => h e (by simp [he]))
    have he := run_equal_keys b y n m (fun e => hn (by rw [e]; exact hx)) ha (hL x hx)
    simp [Instr.findAsking, hk, he, Result.andThen, hr]
theorem run_findKey_keys {w : World} (a b : Addr) (n : Int) (L : List Addr) (hn : a ∉ L) (ha : AtCells w a) (hL : ∀ x ∈ L, AtCells w x) (es : List MapEntry) (h : ∀ e ∈ es, ∃ x y n, e.key = keyP x y n ∧ x ∈ L) :
    (Instr.findKey 154 (keyP a b n) es).run Try.prog w = .ok none w := by
  have hr := run_findAsking_keys a b n L hn ha hL es 0 h
  cases es with
  | nil => simp [Instr.findKey, run_underlying Try.underlying154, Result.andThen, Instr.findNow]
  | cons e es => simp [Instr.findKey, run_underlying Try.underlying154, Result.andThen, Instr.findNow, Instr.sameNow, hr]
theorem KeyM.lookup {w : World} {b : Nat} {L : List Addr} (h : KeyM w b L) (a p : Addr) (n : Int) (ha : AtCells w a) (hn : a ∉ L) :
    (Instr.lookup 94 (.map (some b)) (keyP a p n) true).run Try.prog w = .ok (.tuple #[.agg #[], .bool false]) w := by
  obtain ⟨⟨es, clock, hb, he⟩, hL⟩ := h
  have hr := run_findKey_keys a p n L hn ha hL es.toList he
  simp [Instr.lookup, run_underlying Try.underlying94, MapKept.run_getObj_map hb, Result.andThen, run_checkKey_keys, hr, zero_unit w]
theorem KeyM.update {w : World} {b : Nat} {L : List Addr} (h : KeyM w b L) (a p : Addr) (n : Int) (ha : AtCells w a) (hn : a ∉ L) :
    ∃ w', (Instr.mapUpdate 94 (.map (some b)) (keyP a p n) (.agg #[])).run Try.prog w = .ok () w' ∧ KeyM w' b (L ++ [a]) ∧ w.grownBy w' (some b) ∧ w'.heap.size = w.heap.size := by
  obtain ⟨⟨es, clock, hb, he⟩, hL⟩ := h
  have hr := run_findKey_keys a p n L hn ha hL es.toList he
  have hat : ∀ x, AtCells w x → AtCells (setBlock w b (.map (es.push ⟨keyP a p n, .agg #[], clock⟩) (clock + 1))) x := fun x hx => by
    refine hx.keep (heap_setBlock_other hb _ fun e => ?_)
    obtain ⟨c, t, h3⟩ := hx
    rw [e, hb] at h3
    cases h3
  refine ⟨setBlock w b (.map (es.push ⟨keyP a p n, .agg #[], clock⟩) (clock + 1)), ?_, ⟨⟨_, _, heap_setBlock_same hb _, fun e h => ?_⟩, fun x hx => ?_⟩, ⟨rfl, rfl, rfl, by simp [setBlock], fun i _ hi => heap_setBlock_other hb _ (fun e => hi (by rw [e]))⟩, by simp [setBlock]⟩
  · simp [Instr.mapUpdate, run_underlying Try.underlying94, MapKept.run_getObj_map hb, run_checkKey_keys, hr, MapKept.run_setObj_map _ hb, Result.andThen, setBlock]
  · rw [Array.toList_push, List.mem_append] at h
    rcases h with h | h
    · obtain ⟨x, y, m, h1, h2⟩ := he e h
      exact ⟨x, y, m, h1, List.mem_append_left _ h2⟩
    · rw [List.mem_singleton.1 h]
      exact ⟨a, p, n, rfl, by simp⟩
  · rcases List.mem_append.1 hx with hx | hx
    · exact hat x (hL x hx)
    · rw [List.mem_singleton.1 hx]
      exact hat a ha
theorem wpList_update_keys (w : World) {ops : Array Oper} {rest : List Oper} {o : Oper} {a : Act} {Q : Exit → Act → World → Prop}
    (hg : o.guard = none) (m x v : Operand) (hop : o.op = Op.mapUpdate 94 m x v) {b : Nat} {L : List Addr}
    (hm : a.eval m = .map (some b)) (h : KeyM w b L) (d p : Addr) (n : Int) (hx : a.eval x = keyP d p n) (hv : a.eval v = .agg #[]) (hd : AtCells w d) (hn : d ∉ L)
    (hK : ∀ w', KeyM w' b (L ++ [d]) → w.grownBy w' (some b) → w'.heap.size = w.heap.size → wpList Try.prog ops Q rest (a.put o.dst undef) w') :
    wpList Try.prog ops Q (o :: rest) a w := by
  refine wpList_plain hg fun K' hK' => ?_
  obtain ⟨w', hrun, r1, r2, r3⟩ := h.update d p n hd hn
  unfold Oper.wp
  simp [execOp, hop, hm, hx, hv, hrun, Result.andThen]
  exact hK' _ _ (hK w' r1 r2 r3)
end Go.Proofs.Ytclaabnjokkbjaa
