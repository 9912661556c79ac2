/- What gathers the variables, at the call's own types: all that stand there, each once. -/
import Derived.Test.YthdfomcpoofkaaaMg20
import Derived.Outline
namespace Go.Proofs.Ythdfomcpoofkaaa
open Go.RowKit

/-- Where the gathering stands, the places that are met known. -/
structure GE (w0 : World) (bs b1 b2 bg B : Nat) (M : List Addr) (K R : List Int) (W : World) : Prop where
  own : ∃ A1 k1 c1 A2 k2 c2, Lies W bg 123 (gD bs b1 (.slice A1 k1 c1) b2 (.slice A2 k2 c2)) ∧ OwnI W B (.slice A1 k1 c1) K ∧ OwnI W B (.slice A2 k2 c2) R ∧
    ∀ q, Value.ownBlock (.slice A1 k1 c1) = some q → Value.ownBlock (.slice A2 k2 c2) ≠ some q
  seen : Sn W bs M
  old : ∀ x ∈ M, AtCells w0 x
  mapK : IMap W b1 (setL K)
  mapR : IMap W b2 (setL R)
  below : Below w0.heap.size w0 W
  room : B ≤ W.heap.size
theorem GE.drew {w0 : World} {bs b1 b2 bg B : Nat} {M : List Addr} {K R : List Int} {W : World} (h : GE w0 bs b1 b2 bg B M K R W) : GE w0 bs b1 b2 bg B M K R W.drew := by
  obtain ⟨⟨A1, k1, c1, A2, k2, c2, h1, h2, h3, h4⟩, h5, h55, h6, h7, h8, h9⟩ := h
  exact ⟨⟨A1, k1, c1, A2, k2, c2, h1, h2, h3, h4⟩, h5.keep (fun _ _ => rfl), h55, h6, h7, h8.trans ⟨rfl, rfl, rfl, Nat.le_refl _, fun _ _ => rfl⟩, h9⟩
theorem addN_sup (L : List Int) (n m : Int) (h : m ∈ L) : m ∈ addN L n := by unfold addN; split <;> simp [h]
theorem addN_self (L : List Int) (n : Int) : n ∈ addN L n := by unfold addN; split <;> simp_all
/-- All that stands at a place was found. -/
def DoneA (w0 : World) (K R : List Int) (a : Addr) : Prop := ∀ t, TF w0 a t → (∀ n, inK t n → n ∈ K) ∧ ∀ n, inR t n → n ∈ R
/-- What was met is done, or on the way. -/
def InvA (w0 : World) (St M : List Addr) (K R : List Int) : Prop := ∀ a ∈ M, a ∈ St ∨ DoneA w0 K R a
/-- What is on the way is larger. -/
def Above (w0 : World) (St : List Addr) (s : Nat) : Prop := ∀ x ∈ St, ∀ t, TF w0 x t → s < t.size
theorem InvA.mono {w0 : World} {St M : List Addr} {K R K' R' : List Int} (h : InvA w0 St M K R) (hK : ∀ n ∈ K, n ∈ K') (hR : ∀ n ∈ R, n ∈ R') : InvA w0 St M K' R' := fun a ha =>
  (h a ha).imp id fun hd t ht => ⟨fun n hn => hK n ((hd t ht).1 n hn), fun n hn => hR n ((hd t ht).2 n hn)⟩
theorem inKL_mem : ∀ (l : List Ty) n, inKL l n → ∃ (i : Nat) (t : Ty), l[i]? = some t ∧ inK t n
  | [], _, h => h.elim
  | t :: r, n, h => by
    rcases h with h | h
    · exact ⟨0, t, rfl, h⟩
    · obtain ⟨i, u, h1, h2⟩ := inKL_mem r n h
      exact ⟨i + 1, u, by simpa using h1, h2⟩
theorem inRL_mem : ∀ (l : List Ty) n, inRL l n → ∃ (i : Nat) (t : Ty), l[i]? = some t ∧ inR t n
  | [], _, h => h.elim
  | t :: r, n, h => by
    rcases h with h | h
    · exact ⟨0, t, rfl, h⟩
    · obtain ⟨i, u, h1, h2⟩ := inRL_mem r n h
      exact ⟨i + 1, u, by simpa using h1, h2⟩
/-- What was found of a type, of its first j parts. -/
def Got (k v rv : Int) (kids : List Ty) (j : Nat) (K R : List Int) : Prop :=
  (k = 7 → v ∈ K) ∧ (∀ (i : Nat) (t : Ty), i < j → kids[i]? = some t → (∀ n, inK t n → n ∈ K) ∧ ∀ n, inR t n → n ∈ R) ∧ (0 < j → rv ≠ 0 → rv ∈ R)
theorem Got.mono {k v rv : Int} {kids : List Ty} {j : Nat} {K R K' R' : List Int} (h : Got k v rv kids j K R) (hK : ∀ n ∈ K, n ∈ K') (hR : ∀ n ∈ R, n ∈ R') : Got k v rv kids j K' R' :=
  ⟨fun e => hK _ (h.1 e), fun i t hi ht => ⟨fun n hn => hK n ((h.2.1 i t hi ht).1 n hn), fun n hn => hR n ((h.2.1 i t hi ht).2 n hn)⟩, fun h1 h2 => hR _ (h.2.2 h1 h2)⟩
theorem Got.all {k v rv : Int} {nm : Str} {kids : List Ty} {ls : List Str} {K R : List Int} (h : Got k v rv kids kids.length K R) : (∀ n, inK (.mk k nm v kids ls rv) n → n ∈ K) ∧ ∀ n, inR (.mk k nm v kids ls rv) n → n ∈ R := by
  refine ⟨fun n hn => ?_, fun n hn => ?_⟩
  · rcases hn with ⟨h1, rfl⟩ | hn
    · exact h.1 h1
    · obtain ⟨i, t, h1, h2⟩ := inKL_mem kids n hn
      exact (h.2.1 i t (List.getElem?_eq_some_iff.1 h1).1 h1).1 n h2
  · rcases hn with ⟨h1, rfl, h3⟩ | hn
    · exact h.2.2 (List.length_pos_iff.2 h3) h1
    · obtain ⟨i, t, h1, h2⟩ := inRL_mem kids n hn
      exact (h.2.1 i t (List.getElem?_eq_some_iff.1 h1).1 h1).2 n h2
theorem Got.step {k v rv : Int} {kids : List Ty} {j : Nat} {t : Ty} {K R : List Int} (h : Got k v rv kids j K R) (ht : kids[j]? = some t) (hK : ∀ n, inK t n → n ∈ K) (hR : ∀ n, inR t n → n ∈ R) (h0 : 0 < j ∨ rv = 0 ∨ rv ∈ R) : Got k v rv kids (j + 1) K R := by
  refine ⟨h.1, fun i u hi hu => ?_, fun _ h2 => ?_⟩
  · by_cases he : i = j
    · subst he
      rw [ht] at hu
      injection hu with hu
      exact hu ▸ ⟨hK, hR⟩
    · exact h.2.1 i u (by omega) hu
  · rcases h0 with h0 | h0 | h0
    · exact h.2.2 h0 h2
    · exact absurd h0 h2
    · exact h0
theorem GE_bt {w0 : World} {bs b1 b2 bg B : Nat} {M M1 : List Addr} {K R : List Int} {W W1 : World} (hb : GB w0 bs b1 b2 bg B) (h : GE w0 bs b1 b2 bg B M K R W) (hbt : Bt bs W W1) (hs : Sn W1 bs M1) (ho : ∀ x ∈ M1, AtCells w0 x) : GE w0 bs b1 b2 bg B M1 K R W1 := by
  obtain ⟨⟨A1, k1, c1, A2, k2, c2, h1, h2, h3, h4⟩, h5, h55, h6, h7, h8, h9⟩ := h
  obtain ⟨⟨s1, s2⟩, ⟨s3, s4⟩, ⟨s5, s6⟩, ⟨s7, s8⟩, n1, n2, n3, n4, n5, n6⟩ := hb
  exact ⟨⟨A1, k1, c1, A2, k2, c2, (hbt.block _ h1.lt (by omega)).trans h1, own_same h2 fun g hg hlt => hbt.block g hlt (by omega), own_same h3 fun g hg hlt => hbt.block g hlt (by omega), h4⟩, hs, ho, h6.keep (hbt.block _ h6.lt (by omega)), h7.keep (hbt.block _ h7.lt (by omega)), h8.trans (hbt.below s1 h8.size), Nat.le_trans h9 hbt.size⟩
set_option maxRecDepth 100000 in
set_option maxHeartbeats 4000000 in
/-- A type variable goes in. -/
theorem addKE_any {w0 : World} {bs b1 b2 bg B : Nat} (hb : GB w0 bs b1 b2 bg B) {M : List Addr} {K R : List Int} {W : World} (hG : GE w0 bs b1 b2 bg B M K R W) (n : Int) (hK : K.length ≤ 100000000) :
    Calls Try.prog 76 #[.pointer (some ⟨bg, 1, none⟩), .int .i64 n] W fun e W' => e = .returned (.tuple #[]) ∧ GE w0 bs b1 b2 bg B M (addN K n) R W' := by
  obtain ⟨⟨A1, k1, c1, A2, k2, c2, h1, h2, h3, h4⟩, h5, hold, h6, h7, h8, h9⟩ := hG
  obtain ⟨⟨s1, s2⟩, ⟨s3, s4⟩, ⟨s5, s6⟩, ⟨s7, s8⟩, n1, n2, n3, n4, n5, n6⟩ := hb
  have hc := numAdd2_any W bg 1 b1 B _ K A1 k1 c1 n h1 rfl rfl h6 h2 s4 s8 n5 hK h9
  refine hc.mono ?_
  rintro e W' ⟨rfl, A, k, c, hl, hm, hown, hnew, hfr⟩
  have hA1 : ∀ q, Value.ownBlock (.slice A1 k1 c1) = some q → B ≤ q := fun q hq => (own_block h2 q hq).1
  have hA2 : ∀ q, Value.ownBlock (.slice A2 k2 c2) = some q → B ≤ q ∧ q < W.heap.size := fun q hq => own_block h3 q hq
  have far : ∀ g, g < B → g ≠ b1 → g ≠ bg → W'.heap[g]? = W.heap[g]? := fun g hg e1 e2 => hfr.block g (by omega) (by
    rintro (h | h | h)
    · exact e1 h
    · exact e2 h
    · have := hA1 g h; omega)
  have keepo : OwnI W' B (.slice A2 k2 c2) R := own_blk h3 fun q hq => hfr.block q (hA2 q hq).2 (by
    rintro (h | h | h)
    · have := (hA2 q hq).1; omega
    · have := (hA2 q hq).1; omega
    · exact h4 q h hq)
  have hnq : ∀ q, Value.ownBlock (.slice A k c) = some q → Value.ownBlock (.slice A2 k2 c2) ≠ some q := fun q hq hq2 => by
    rcases hnew with h | ⟨q', h, hh⟩
    · rw [h] at hq
      exact h4 q hq hq2
    · rw [hh] at hq
      injection hq with hq
      have := (hA2 q hq2).2
      omega
  refine ⟨rfl, ⟨A, k, c, A2, k2, c2, hl, hown, keepo, hnq⟩, ⟨h5.1.keep (far _ s2 (by omega) (by omega)), fun x hx => (h5.2 x hx).keep (far _ (by have := (hold x hx).lt; omega) (by have := (hold x hx).lt; omega) (by have := (hold x hx).lt; omega))⟩, hold, hm, h7.keep (far _ s6 (by omega) (by omega)), ?_, Nat.le_trans h9 hfr.size⟩
  exact h8.trans ⟨hfr.os, hfr.tape, hfr.output, hfr.size, fun g hg => far g (by omega) (by omega) (by omega)⟩
set_option maxRecDepth 100000 in
set_option maxHeartbeats 4000000 in
/-- A row variable goes in. -/
theorem addRE_any {w0 : World} {bs b1 b2 bg B : Nat} (hb : GB w0 bs b1 b2 bg B) {M : List Addr} {K R : List Int} {W : World} (hG : GE w0 bs b1 b2 bg B M K R W) (n : Int) (hK : R.length ≤ 100000000) :
    Calls Try.prog 76 #[.pointer (some ⟨bg, 3, none⟩), .int .i64 n] W fun e W' => e = .returned (.tuple #[]) ∧ GE w0 bs b1 b2 bg B M K (addN R n) W' := by
  obtain ⟨⟨A1, k1, c1, A2, k2, c2, h1, h2, h3, h4⟩, h5, hold, h6, h7, h8, h9⟩ := hG
  obtain ⟨⟨s1, s2⟩, ⟨s3, s4⟩, ⟨s5, s6⟩, ⟨s7, s8⟩, n1, n2, n3, n4, n5, n6⟩ := hb
  have hc := numAdd2_any W bg 3 b2 B _ R A2 k2 c2 n h1 rfl rfl h7 h3 s6 s8 n6 hK h9
  refine hc.mono ?_
  rintro e W' ⟨rfl, A, k, c, hl, hm, hown, hnew, hfr⟩
  have hA1 : ∀ q, Value.ownBlock (.slice A2 k2 c2) = some q → B ≤ q := fun q hq => (own_block h3 q hq).1
  have hA2 : ∀ q, Value.ownBlock (.slice A1 k1 c1) = some q → B ≤ q ∧ q < W.heap.size := fun q hq => own_block h2 q hq
  have far : ∀ g, g < B → g ≠ b2 → g ≠ bg → W'.heap[g]? = W.heap[g]? := fun g hg e1 e2 => hfr.block g (by omega) (by
    rintro (h | h | h)
    · exact e1 h
    · exact e2 h
    · have := hA1 g h; omega)
  have keepo : OwnI W' B (.slice A1 k1 c1) K := own_blk h2 fun q hq => hfr.block q (hA2 q hq).2 (by
    rintro (h | h | h)
    · have := (hA2 q hq).1; omega
    · have := (hA2 q hq).1; omega
    · exact h4 q hq h)
  have hnq : ∀ q, Value.ownBlock (.slice A k c) = some q → Value.ownBlock (.slice A1 k1 c1) ≠ some q := fun q hq hq2 => by
    rcases hnew with h | ⟨q', h, hh⟩
    · rw [h] at hq
      exact h4 q hq2 hq
    · rw [hh] at hq
      injection hq with hq
      have := (hA2 q hq2).2
      omega
  refine ⟨rfl, ⟨A1, k1, c1, A, k, c, hl, keepo, hown, fun q h1 h2 => hnq q h2 h1⟩, ⟨h5.1.keep (far _ s2 (by omega) (by omega)), fun x hx => (h5.2 x hx).keep (far _ (by have := (hold x hx).lt; omega) (by have := (hold x hx).lt; omega) (by have := (hold x hx).lt; omega))⟩, hold, h6.keep (far _ s4 (by omega) (by omega)), hm, ?_, Nat.le_trans h9 hfr.size⟩
  exact h8.trans ⟨hfr.os, hfr.tape, hfr.output, hfr.size, fun g hg => far g (by omega) (by omega) (by omega)⟩
set_option maxRecDepth 100000 in
set_option maxHeartbeats 8000000 in
theorem gatherE_step (w0 : World) (bs b1 b2 bg B : Nat) (hb : GB w0 bs b1 b2 bg B) (N : Nat)
    (ih : ∀ (a : Addr) (t : Ty), TF w0 a t → t.size ≤ N → ∀ (W : World) (St M : List Addr) (K R : List Int), GE w0 bs b1 b2 bg B M K R W → InvA w0 St M K R → Above w0 St t.size → K.length + 2 * t.size ≤ 100000000 → R.length + 2 * t.size ≤ 100000000 →
      Calls Try.prog 62 #[.pointer (some ⟨bg, 0, none⟩), .pointer (some a)] W fun e W' => e = .returned (.tuple #[]) ∧ ∃ M' K' R', GE w0 bs b1 b2 bg B M' K' R' W' ∧ InvA w0 St M' K' R' ∧ Ext1 (inK t) (2 * t.size) K K' ∧ Ext1 (inR t) (2 * t.size) R R' ∧ (∀ n, inK t n → n ∈ K') ∧ ∀ n, inR t n → n ∈ R')
    (a : Addr) (T : Ty) (hta : TF w0 a T) (hsz : T.size ≤ N + 1) (W : World) (St M : List Addr) (K R : List Int) (hG : GE w0 bs b1 b2 bg B M K R W) (hinv : InvA w0 St M K R) (habv : Above w0 St T.size) (hlk : K.length + 2 * T.size ≤ 100000000) (hlr : R.length + 2 * T.size ≤ 100000000) :
      Calls Try.prog 62 #[.pointer (some ⟨bg, 0, none⟩), .pointer (some a)] W fun e W' => e = .returned (.tuple #[]) ∧ ∃ M' K' R', GE w0 bs b1 b2 bg B M' K' R' W' ∧ InvA w0 St M' K' R' ∧ Ext1 (inK T) (2 * T.size) K K' ∧ Ext1 (inR T) (2 * T.size) R R' ∧ (∀ n, inK T n → n ∈ K') ∧ ∀ n, inR T n → n ∈ R' := by
  obtain ⟨k, nm, v, kids, ls, rv, kv, lv, h0, hat, hr, hk, hok, hks, hT⟩ : ∃ k nm v kids ls rv kv lv, a.spot = none ∧ AtCells w0 a ∧ ReadsAt w0 a (tyC k nm v kv lv rv) ∧ SlR kv kids.length ∧ oks k v rv ∧ (∀ (i : Nat) t, kids[i]? = some t → TF w0 (kidAt kv i) t) ∧ T = .mk k nm v kids ls rv := by
    cases hta with
    | mk _ k nm v kids ls rv kv lv h0 hat hr hk hl hi hks => exact ⟨k, nm, v, kids, ls, rv, kv, lv, h0, hat, hr, hk.slr, hi, hks, rfl⟩
  obtain ⟨b, o, sp⟩ := a
  have hsp : sp = none := h0
  subst hsp
  obtain ⟨A, q, rfl, hq, hqg⟩ := hk.form
  have hTs : T.size = 1 + Ty.sizeL kids := by rw [hT, Ty.size]
  have hikx : ∀ (j : Nat) t, kids[j]? = some t → ∀ n, inK t n → inK T n := fun j t ht n hn => by rw [hT]; simp only [inK]; exact .inr (inKL_get kids j t n ht hn)
  have hirx : ∀ (j : Nat) t, kids[j]? = some t → ∀ n, inR t n → inR T n := fun j t ht n hn => by rw [hT]; simp only [inR]; exact .inr (inRL_get kids j t n ht hn)
  have hpk : k = 7 → inK T v := fun h => by rw [hT]; simp only [inK]; exact .inl ⟨h, trivial⟩
  have hkz : ∀ (j : Nat) t, kids[j]? = some t → t.size ≤ N := fun j t ht => by
    have h1 := sizeL_stepG kids j t ht
    have h2 := sizeL_leG kids (j + 1)
    omega
  obtain ⟨n, hn⟩ : ∃ n, n = kids.length := ⟨_, rfl⟩
  have hpr : rv ≠ 0 → 0 < n → inR T rv := fun h h2 => by rw [hT]; simp only [inR]; exact .inl ⟨h, trivial, fun e => by rw [hn, e] at h2; simp at h2⟩
  obtain ⟨sj, hsj⟩ : ∃ f : Nat → Nat, f = fun j => (if j = 0 then 1 else 2) + 2 * Ty.sizeL (kids.take j) := ⟨_, rfl⟩
  have hz : ∀ (j : Nat) t, kids[j]? = some t → sj j + 2 * t.size + (if j = 0 then 1 else 0) ≤ sj (j + 1) ∧ sj (j + 1) ≤ 2 * T.size := fun j t ht => by
    have h1 := sizeL_stepG kids j t ht
    have h2 := sizeL_leG kids (j + 1)
    rw [hsj]
    by_cases hj : j = 0
    · subst hj
      simp only [if_true, Nat.zero_add, if_neg Nat.one_ne_zero] at h1 h2 ⊢
      omega
    · simp only [if_neg hj, if_neg (Nat.succ_ne_zero j)]
      omega
  have hs0 : 1 ≤ sj 0 := by rw [hsj]; simp
  have hse : sj n ≤ 2 * T.size := by
    have h2 := sizeL_leG kids n
    rw [hsj]
    dsimp only
    split <;> omega
  have hallx : ∀ K R, Got k v rv kids n K R → (∀ n, inK T n → n ∈ K) ∧ ∀ n, inR T n → n ∈ R := fun K R h => by rw [hT]; exact Got.all (hn ▸ h)
  have habc : ∀ (j : Nat) t, kids[j]? = some t → Above w0 (⟨b, o, none⟩ :: St) t.size := fun j t ht x hx u hu => by
    have h1 := sizeL_stepG kids j t ht
    have h2 := sizeL_leG kids (j + 1)
    rcases List.mem_cons.1 hx with rfl | hx
    · rw [← hta.one_type u hu]; omega
    · have := habv x hx u hu; omega
  have hB := hG.below
  obtain ⟨A2, k2, c2, A3, k3, c3, hl, _⟩ := hG.own
  have hf := first_any W bs M ⟨b, o, none⟩ hG.seen (hat.keep (hB.block _ hat.lt))
  have c0 : W.cell? ⟨bg, 0, none⟩ = some (.map (some bs)) := hl.cell 0
  rw [← hn] at hk hq hqg hr
  have HF := Lib.hid hf
  have HGW := Lib.hid hG
  have HGB := Lib.hid hb
  have HLT := Lib.hid (show b < w0.heap.size from hat.lt)
  have HR0 := Lib.hid hr
  have HKS := Lib.hid hks
  have HQ := Lib.hid hqg
  have HN := Lib.hid hn
  have HKZ := Lib.hid hkz
  have HIKx := Lib.hid hikx
  have HIRx := Lib.hid hirx
  have HPK := Lib.hid hpk
  have HPR := Lib.hid hpr
  have HSJ := Lib.hid hz
  have HS0 := Lib.hid hs0
  have HSE := Lib.hid hse
  have HLK := Lib.hid hlk
  have HLR := Lib.hid hlr
  have HOK := Lib.hid hok
  have IH := Lib.hid ih
  have HALL := Lib.hid hallx
  have HABC := Lib.hid habc
  have HINV := Lib.hid hinv
  have HAT := Lib.hid hat
  have HTA := Lib.hid hta
  have HABV := Lib.hid habv
  have hnm : n ≤ 9223372036854775807 := by
    have h2 := sizeL_lenG kids
    omega
  clear hf hl hallx habc hinv habv hG hb hat hr hks hqg hn hkz hikx hirx hpk hpr hz hs0 hse hlk hlr hok ih hk hsj hTs hT hta hsz hB
  go_enter Try.func62, Try.ntmps62
  go_wp2_with fail
  refine HF.out.mono ?_
  rintro e W1 ⟨rfl, hS1, hbt⟩
  by_cases hmem : (⟨b, o, none⟩ : Addr) ∈ M
  · have hdec : decide ((⟨b, o, none⟩ : Addr) ∉ M) = false := by simp [hmem]
    have hadd : addU M ⟨b, o, none⟩ = M := if_pos hmem
    rw [hadd] at hS1
    have HG1 := Lib.hid (GE_bt HGB.out HGW.out hbt hS1 HGW.out.old)
    have HD := Lib.hid ((HINV.out _ hmem).resolve_left fun h => absurd (HABV.out _ h _ HTA.out) (by omega))
    rw [hdec]
    clear hS1 hbt HF c0 hdec hadd
    go_wp2_with fail
    refine bodyPost_ret (results_none rfl _ _ _) rfl ?_
    exact ⟨rfl, M, K, R, HG1.out, HINV.out, (Ext1.refl _ K).mono (fun _ h => h) (Nat.zero_le _), (Ext1.refl _ R).mono (fun _ h => h) (Nat.zero_le _), (HD.out _ HTA.out).1, (HD.out _ HTA.out).2⟩
  · have hdec : decide ((⟨b, o, none⟩ : Addr) ∉ M) = true := by simp [hmem]
    have hadd : addU M ⟨b, o, none⟩ = M ++ [⟨b, o, none⟩] := if_neg hmem
    rw [hadd] at hS1
    have hG1 := GE_bt HGB.out HGW.out hbt hS1 (fun x hx => by
      rcases List.mem_append.1 hx with hx | hx
      · exact HGW.out.old x hx
      · rw [List.mem_singleton.1 hx]; exact HAT.out)
    have HG1 := Lib.hid hG1
    have HIV := Lib.hid (show InvA w0 (⟨b, o, none⟩ :: St) (M ++ [⟨b, o, none⟩]) K R from fun x hx => by
      rcases List.mem_append.1 hx with hx | hx
      · exact (HINV.out x hx).imp (fun h => List.mem_cons_of_mem _ h) id
      · rw [List.mem_singleton.1 hx]; exact .inl (by simp))
    have hB1 := hG1.below
    obtain ⟨r0, _, r2, r3, _, r5⟩ := reads6 (HR0.out.keep (hB1.block _ HLT.out))
    rw [hdec]
    clear hS1 hbt hG1 hB1 HF c0 hdec hadd
    by_cases hk7 : k = 7
    · subst hk7
      go_wp2_with fail
      go_still_tail 7, (by kernel_rfl)
      change wpList _ _ _ _ _ W1.drew
      have hca := addKE_any HGB.out HG1.out.drew v (by have := HLK.out; omega)
      have HCA := Lib.hid hca
      clear hca
      go_wp2_with fail
      refine HCA.out.mono ?_
      rintro e W3 ⟨rfl, hG3⟩
      have r3' : W3.cell? ⟨b, o + 3, none⟩ = some (.slice A n q) := (hG3.below.cell (p := ⟨b, o + 3, none⟩) HLT.out).trans (HR0.out 3 _ rfl)
      have HGS := Lib.hid hG3
      have HE1 := Lib.hid (Ext1.add K v (HPK.out (by first | rfl | trivial)) HOK.out.2.1)
      have HIVS := Lib.hid (HIV.out.mono (fun n hn => addN_sup K v n hn) (fun n hn => hn))
      have HGT := Lib.hid (show Got 7 v rv kids 0 (addN K v) R from ⟨fun _ => addN_self K v, fun i t hi => by omega, fun h => by omega⟩)
      clear hG3 r0 r2 r3 r5
      go_wp2_with fail
      go_loopw [30] (fun i wr => ∃ (j : Nat) (M' : List Addr) (K' R' : List Int), j ≤ n ∧ i = .int .i64 j ∧ GE w0 bs b1 b2 bg B M' K' R' wr ∧ InvA w0 (⟨b, o, none⟩ :: St) M' K' R' ∧ Got 7 v rv kids j K' R' ∧ Ext1 (inK T) (sj j) K K' ∧ Ext1 (inR T) (sj j) R R') (fun i _ => n - (intOf i).toNat)
      case atStart => exact ⟨0, _, _, _, Nat.zero_le _, rfl, HGS.out, HIVS.out, HGT.out, HE1.out.mono (fun _ h => h) HS0.out, (Ext1.refl _ R).mono (fun _ h => h) (Nat.zero_le _)⟩
      case round =>
        obtain ⟨j, M', K', R', hj, rfl, hGj, hIj, hTj, hEK, hER⟩ := hrel
        have HIJ := Lib.hid hIj
        have HTJ := Lib.hid hTj
        have hBw := hGj.below
        have r3j : wr.cell? ⟨b, o + 3, none⟩ = some (.slice A n q) := (hBw.cell (p := ⟨b, o + 3, none⟩) HLT.out).trans (HR0.out 3 _ rfl)
        have r5j : wr.cell? ⟨b, o + 5, none⟩ = some (.int .i64 rv) := (hBw.cell (p := ⟨b, o + 5, none⟩) HLT.out).trans (HR0.out 5 _ rfl)
        have HEK := Lib.hid hEK
        have HER := Lib.hid hER
        have HGJ := Lib.hid hGj
        clear hEK hER hGj hIj hTj
        by_cases hlt : j < n
        · obtain ⟨t, ht⟩ : ∃ t, kids[j]? = some t := ⟨_, List.getElem?_eq_getElem (by have := HN.out; omega)⟩
          obtain ⟨g5, o5, rfl⟩ := HQ.out (by omega)
          have hjq : j < q := by omega
          have hji : (j : Int) < (n : Int) := by omega
          have hz := HSJ.out j t ht
          have hcall := IH.out ⟨g5, o5 + j * 6, none⟩ t (HKS.out j t ht) (HKZ.out j t ht) wr (⟨b, o, none⟩ :: St) M' K' R' HGJ.out HIJ.out (HABC.out j t ht) (by have := HEK.out.len; have := HLK.out; omega) (by have := HER.out.len; have := HLR.out; omega)
          have HIK := Lib.hid (HIKx.out j t ht)
          have HIR := Lib.hid (HIRx.out j t ht)
          have HC := Lib.hid hcall
          have HTT := Lib.hid ht
          have HZ := Lib.hid hz
          clear hcall ht hz hBw r5j
          go_wp2_with fail
          refine HC.out.mono ?_
          rintro e W5 ⟨rfl, M5, K5, R5, hG5, hI5, hE5, hF5, hk5, hr5⟩
          have HI5 := Lib.hid hI5
          have HT5 := Lib.hid (HTJ.out.mono hE5.sup hF5.sup)
          have HK5 := Lib.hid hk5
          have HR5 := Lib.hid hr5
          have s5 : W5.cell? ⟨b, o + 5, none⟩ = some (.int .i64 rv) := (hG5.below.cell (p := ⟨b, o + 5, none⟩) HLT.out).trans (HR0.out 5 _ rfl)
          have HG5 := Lib.hid hG5
          have HE5 := Lib.hid (HEK.out.trans (hE5.mono HIK.out (Nat.le_refl _)))
          have HF5 := Lib.hid (HER.out.trans (hF5.mono HIR.out (Nat.le_refl _)))
          clear hG5 hE5 hF5 hI5 hk5 hr5
          by_cases hj0 : j = 0
          · subst hj0
            by_cases hrv : rv = 0
            · go_wp2_with fail
              go_roundw
              case rel => exact ⟨1, M5, K5, R5, by omega, by simp, HG5.out, HI5.out, HT5.out.step HTT.out HK5.out HR5.out (.inr (.inl hrv)), HE5.out.mono (fun _ h => h) (by have := HZ.out; simp at this ⊢; omega), HF5.out.mono (fun _ h => h) (by have := HZ.out; simp at this ⊢; omega)⟩
              case measure => (simp [intOf] <;> omega)
            · have hrvi : (rv == 0) = false := by simpa using hrv
              go_wp2_with fail
              go_still_tail 8, (by kernel_rfl)
              change wpList _ _ _ _ _ W5.drew
              have hca := addRE_any HGB.out HG5.out.drew rv (by have := HF5.out.len; have := HLR.out; have := HZ.out; omega)
              have HCA := Lib.hid hca
              clear hca
              go_wp2_with fail
              refine HCA.out.mono ?_
              rintro e W6 ⟨rfl, hG6⟩
              have HG6 := Lib.hid hG6
              clear hG6
              go_wp2_with fail
              go_roundw
              case rel => exact ⟨1, M5, K5, _, by omega, by simp, HG6.out, HI5.out.mono (fun _ h => h) (fun m hm => addN_sup R5 rv m hm), (HT5.out.mono (fun _ h => h) (fun m hm => addN_sup R5 rv m hm)).step HTT.out HK5.out (fun m hm => addN_sup R5 rv m (HR5.out m hm)) (.inr (.inr (addN_self R5 rv))), HE5.out.mono (fun _ h => h) (by have := HZ.out; simp at this ⊢; omega), (HF5.out.trans (Ext1.add R5 rv (HPR.out hrv (by omega)) HOK.out.2.2)).mono (fun _ h => h) (by have := HZ.out; simp at this ⊢; omega)⟩
              case measure => (simp [intOf] <;> omega)
          · have hj0i : ¬ (j : Int) = 0 := by omega
            go_wp2_with fail
            go_roundw
            case rel => exact ⟨j + 1, M5, K5, R5, by omega, by simp, HG5.out, HI5.out, HT5.out.step HTT.out HK5.out HR5.out (.inl (by omega)), HE5.out.mono (fun _ h => h) (by have := HZ.out; simp only [hj0, if_false] at this; omega), HF5.out.mono (fun _ h => h) (by have := HZ.out; simp only [hj0, if_false] at this; omega)⟩
            case measure => (simp [intOf] <;> omega)
        · obtain rfl : j = n := by omega
          go_wp2_with fail
          go_end0
          exact ⟨rfl, M', K', R', HGJ.out, fun x hx => by
            rcases HIJ.out x hx with h | h
            · rcases List.mem_cons.1 h with rfl | h
              · exact .inr fun u hu => by rw [← HTA.out.one_type u hu]; exact HALL.out _ _ HTJ.out
              · exact .inl h
            · exact .inr h, HEK.out.mono (fun _ h => h) HSE.out, HER.out.mono (fun _ h => h) HSE.out, (HALL.out _ _ HTJ.out).1, (HALL.out _ _ HTJ.out).2⟩
    · have hk7b : (k == 7) = false := by simpa using hk7
      have HGS := Lib.hid HG1.out
      have HE1 := Lib.hid ((Ext1.refl (inK T) K).mono (fun _ h => h) (Nat.zero_le 1))
      have HIVS := Lib.hid HIV.out
      have HGT := Lib.hid (show Got k v rv kids 0 K R from ⟨fun h => absurd h hk7, fun i t hi => by omega, fun h => by omega⟩)
      clear r2 r5
      go_wp2_with fail
      clear r0 r3
      go_loopw [30] (fun i wr => ∃ (j : Nat) (M' : List Addr) (K' R' : List Int), j ≤ n ∧ i = .int .i64 j ∧ GE w0 bs b1 b2 bg B M' K' R' wr ∧ InvA w0 (⟨b, o, none⟩ :: St) M' K' R' ∧ Got k v rv kids j K' R' ∧ Ext1 (inK T) (sj j) K K' ∧ Ext1 (inR T) (sj j) R R') (fun i _ => n - (intOf i).toNat)
      case atStart => exact ⟨0, _, _, _, Nat.zero_le _, rfl, HGS.out, HIVS.out, HGT.out, HE1.out.mono (fun _ h => h) HS0.out, (Ext1.refl _ R).mono (fun _ h => h) (Nat.zero_le _)⟩
      case round =>
        obtain ⟨j, M', K', R', hj, rfl, hGj, hIj, hTj, hEK, hER⟩ := hrel
        have HIJ := Lib.hid hIj
        have HTJ := Lib.hid hTj
        have hBw := hGj.below
        have r3j : wr.cell? ⟨b, o + 3, none⟩ = some (.slice A n q) := (hBw.cell (p := ⟨b, o + 3, none⟩) HLT.out).trans (HR0.out 3 _ rfl)
        have r5j : wr.cell? ⟨b, o + 5, none⟩ = some (.int .i64 rv) := (hBw.cell (p := ⟨b, o + 5, none⟩) HLT.out).trans (HR0.out 5 _ rfl)
        have HEK := Lib.hid hEK
        have HER := Lib.hid hER
        have HGJ := Lib.hid hGj
        clear hEK hER hGj hIj hTj
        by_cases hlt : j < n
        · obtain ⟨t, ht⟩ : ∃ t, kids[j]? = some t := ⟨_, List.getElem?_eq_getElem (by have := HN.out; omega)⟩
          obtain ⟨g5, o5, rfl⟩ := HQ.out (by omega)
          have hjq : j < q := by omega
          have hji : (j : Int) < (n : Int) := by omega
          have hz := HSJ.out j t ht
          have hcall := IH.out ⟨g5, o5 + j * 6, none⟩ t (HKS.out j t ht) (HKZ.out j t ht) wr (⟨b, o, none⟩ :: St) M' K' R' HGJ.out HIJ.out (HABC.out j t ht) (by have := HEK.out.len; have := HLK.out; omega) (by have := HER.out.len; have := HLR.out; omega)
          have HIK := Lib.hid (HIKx.out j t ht)
          have HIR := Lib.hid (HIRx.out j t ht)
          have HC := Lib.hid hcall
          have HTT := Lib.hid ht
          have HZ := Lib.hid hz
          clear hcall ht hz hBw r5j
          go_wp2_with fail
          refine HC.out.mono ?_
          rintro e W5 ⟨rfl, M5, K5, R5, hG5, hI5, hE5, hF5, hk5, hr5⟩
          have HI5 := Lib.hid hI5
          have HT5 := Lib.hid (HTJ.out.mono hE5.sup hF5.sup)
          have HK5 := Lib.hid hk5
          have HR5 := Lib.hid hr5
          have s5 : W5.cell? ⟨b, o + 5, none⟩ = some (.int .i64 rv) := (hG5.below.cell (p := ⟨b, o + 5, none⟩) HLT.out).trans (HR0.out 5 _ rfl)
          have HG5 := Lib.hid hG5
          have HE5 := Lib.hid (HEK.out.trans (hE5.mono HIK.out (Nat.le_refl _)))
          have HF5 := Lib.hid (HER.out.trans (hF5.mono HIR.out (Nat.le_refl _)))
          clear hG5 hE5 hF5 hI5 hk5 hr5
          by_cases hj0 : j = 0
          · subst hj0
            by_cases hrv : rv = 0
            · go_wp2_with fail
              go_roundw
              case rel => exact ⟨1, M5, K5, R5, by omega, by simp, HG5.out, HI5.out, HT5.out.step HTT.out HK5.out HR5.out (.inr (.inl hrv)), HE5.out.mono (fun _ h => h) (by have := HZ.out; simp at this ⊢; omega), HF5.out.mono (fun _ h => h) (by have := HZ.out; simp at this ⊢; omega)⟩
              case measure => (simp [intOf] <;> omega)
            · have hrvi : (rv == 0) = false := by simpa using hrv
              go_wp2_with fail
              go_still_tail 8, (by kernel_rfl)
              change wpList _ _ _ _ _ W5.drew
              have hca := addRE_any HGB.out HG5.out.drew rv (by have := HF5.out.len; have := HLR.out; have := HZ.out; omega)
              have HCA := Lib.hid hca
              clear hca
              go_wp2_with fail
              refine HCA.out.mono ?_
              rintro e W6 ⟨rfl, hG6⟩
              have HG6 := Lib.hid hG6
              clear hG6
              go_wp2_with fail
              go_roundw
              case rel => exact ⟨1, M5, K5, _, by omega, by simp, HG6.out, HI5.out.mono (fun _ h => h) (fun m hm => addN_sup R5 rv m hm), (HT5.out.mono (fun _ h => h) (fun m hm => addN_sup R5 rv m hm)).step HTT.out HK5.out (fun m hm => addN_sup R5 rv m (HR5.out m hm)) (.inr (.inr (addN_self R5 rv))), HE5.out.mono (fun _ h => h) (by have := HZ.out; simp at this ⊢; omega), (HF5.out.trans (Ext1.add R5 rv (HPR.out hrv (by omega)) HOK.out.2.2)).mono (fun _ h => h) (by have := HZ.out; simp at this ⊢; omega)⟩
              case measure => (simp [intOf] <;> omega)
          · have hj0i : ¬ (j : Int) = 0 := by omega
            go_wp2_with fail
            go_roundw
            case rel => exact ⟨j + 1, M5, K5, R5, by omega, by simp, HG5.out, HI5.out, HT5.out.step HTT.out HK5.out HR5.out (.inl (by omega)), HE5.out.mono (fun _ h => h) (by have := HZ.out; simp only [hj0, if_false] at this; omega), HF5.out.mono (fun _ h => h) (by have := HZ.out; simp only [hj0, if_false] at this; omega)⟩
            case measure => (simp [intOf] <;> omega)
        · obtain rfl : j = n := by omega
          go_wp2_with fail
          go_end0
          exact ⟨rfl, M', K', R', HGJ.out, fun x hx => by
            rcases HIJ.out x hx with h | h
            · rcases List.mem_cons.1 h with rfl | h
              · exact .inr fun u hu => by rw [← HTA.out.one_type u hu]; exact HALL.out _ _ HTJ.out
              · exact .inl h
            · exact .inr h, HEK.out.mono (fun _ h => h) HSE.out, HER.out.mono (fun _ h => h) HSE.out, (HALL.out _ _ HTJ.out).1, (HALL.out _ _ HTJ.out).2⟩
theorem gatherE_any (w0 : World) (bs b1 b2 bg B : Nat) (hb : GB w0 bs b1 b2 bg B) : ∀ (N : Nat) (a : Addr) (t : Ty), TF w0 a t → t.size ≤ N → ∀ (W : World) (St M : List Addr) (K R : List Int), GE w0 bs b1 b2 bg B M K R W → InvA w0 St M K R → Above w0 St t.size → K.length + 2 * t.size ≤ 100000000 → R.length + 2 * t.size ≤ 100000000 →
      Calls Try.prog 62 #[.pointer (some ⟨bg, 0, none⟩), .pointer (some a)] W fun e W' => e = .returned (.tuple #[]) ∧ ∃ M' K' R', GE w0 bs b1 b2 bg B M' K' R' W' ∧ InvA w0 St M' K' R' ∧ Ext1 (inK t) (2 * t.size) K K' ∧ Ext1 (inR t) (2 * t.size) R R' ∧ (∀ n, inK t n → n ∈ K') ∧ ∀ n, inR t n → n ∈ R'
  | 0, _, t, _, h => by have := Ty.size_pos t; omega
  | N + 1, a, t, h, hs => gatherE_step w0 bs b1 b2 bg B hb N (gatherE_any w0 bs b1 b2 bg B hb N) a t h hs
end Go.Proofs.Ythdfomcpoofkaaa
