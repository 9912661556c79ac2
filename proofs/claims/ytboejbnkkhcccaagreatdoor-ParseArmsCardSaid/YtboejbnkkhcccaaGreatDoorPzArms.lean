/- Plain facts: arms of a match, and clauses of a handler, are read in their order. -/
import Derived.Test.YtboejbnkkhcccaaGreatDoorGpSides
import Derived.Test.YtboejbnkkhcccaaGreatDoorPzNames
namespace Go.Proofs.YtboejbnkkhcccaaGreatDoor
open Pz

def nmC (i : Nat) : List UInt8 := 67 :: dgF 5 i
def nmV (i : Nat) : List UInt8 := 118 :: dgF 5 i
def nmO (i : Nat) : List UInt8 := 111 :: 112 :: dgF 5 i
def vsB (a m : Nat) : List UInt8 := (List.range' a m).flatMap fun k => 32 :: nmV k
/-- ` C0 v0 -> 0`. -/
def armB (v i : Nat) : List UInt8 := 32 :: nmC i ++ (vsB 0 v ++ (32 :: 45 :: 62 :: 32 :: dgF 5 i))
def armsB (V : Nat → Nat) (a m : Nat) : List UInt8 := (List.range' a m).flatMap fun i => 32 :: 59 :: armB (V i) i
/-- All arms, no sign ahead of the first. -/
def arms0 (V : Nat → Nat) : Nat → List UInt8
  | 0 => []
  | m + 1 => armB (V 0) 0 ++ armsB V 1 m
def matchB : List UInt8 := [109, 97, 116, 99, 104, 32, 120, 32, 123]
def handB : List UInt8 := [104, 97, 110, 100, 108, 101, 32, 69, 32, 120, 32, 123, 32, 114, 101, 116, 117, 114, 110, 32, 121, 32, 45, 62, 32, 121]
/-- ` ; op0 a k -> 0`. -/
def clB (i : Nat) : List UInt8 := 32 :: 59 :: 32 :: nmO i ++ (32 :: 97 :: 32 :: 107 :: 32 :: 45 :: 62 :: 32 :: dgF 5 i)
def clsB (a m : Nat) : List UInt8 := (List.range' a m).flatMap clB
theorem vsB_snoc (a m : Nat) : vsB a m ++ 32 :: nmV (a + m) = vsB a (m + 1) := by
  unfold vsB
  rw [List.range'_1_concat, List.flatMap_append]
  simp
theorem vsB_cons (a m : Nat) : vsB a (m + 1) = 32 :: (nmV a ++ vsB (a + 1) m) := by
  unfold vsB
  rw [List.range'_succ, List.flatMap_cons]
  rfl
theorem clsB_snoc (a m : Nat) : clsB a m ++ clB (a + m) = clsB a (m + 1) := by
  unfold clsB
  rw [List.range'_1_concat, List.flatMap_append]
  simp
theorem clsB_cons (a m : Nat) : clsB a (m + 1) = clB a ++ clsB (a + 1) m := by
  unfold clsB
  rw [List.range'_succ, List.flatMap_cons]
theorem armsB_snoc (V : Nat → Nat) (a m : Nat) : armsB V a m ++ 32 :: 59 :: armB (V (a + m)) (a + m) = armsB V a (m + 1) := by
  unfold armsB
  rw [List.range'_1_concat, List.flatMap_append]
  simp
theorem armsB_cons (V : Nat → Nat) (a m : Nat) : armsB V a (m + 1) = 32 :: 59 :: (armB (V a) a ++ armsB V (a + 1) m) := by
  unfold armsB
  rw [List.range'_succ, List.flatMap_cons]
  rfl
theorem arms0_one (V : Nat → Nat) : arms0 V 0 ++ armB (V 0) 0 = arms0 V 1 := by
  show armB (V 0) 0 = armB (V 0) 0 ++ armsB V 1 0
  unfold armsB
  simp
theorem arms0_snoc (V : Nat → Nat) (m : Nat) (h : 0 < m) : arms0 V m ++ 32 :: 59 :: armB (V m) m = arms0 V (m + 1) := by
  obtain ⟨m, rfl⟩ : ∃ k, m = k + 1 := ⟨m - 1, by omega⟩
  show armB (V 0) 0 ++ armsB V 1 m ++ _ = armB (V 0) 0 ++ armsB V 1 (m + 1)
  rw [← armsB_snoc, List.append_assoc, Nat.add_comm 1 m]

/-- Is a text the word of one kind, and nothing else? -/
def wordOK (k : Nat) (l : List UInt8) : Bool := match firstF l with
  | some (x, m) => x.k == k && x.t == l && x.n == 0 && x.pos == 0 && m == l.length
  | none => false
theorem wordOK_of {k : Nat} {l : List UInt8} (h : wordOK k l = true) : firstF l = some (⟨k, l, 0, 0⟩, l.length) := by
  unfold wordOK at h
  split at h
  · rename_i x m he
    obtain ⟨k', t, n, q⟩ := x
    simp only [Bool.and_eq_true, beq_iff_eq] at h
    obtain ⟨⟨⟨⟨h1, h2⟩, h3⟩, h4⟩, h5⟩ := h
    subst h1 h2 h3 h4 h5
    exact he
  · cases h
set_option maxRecDepth 100000 in
theorem nmC_all : (List.range 61).all (fun i => wordOK 3 (nmC i)) = true := by kernel_rfl
set_option maxRecDepth 100000 in
theorem nmV_all : (List.range 61).all (fun i => wordOK 2 (nmV i)) = true := by kernel_rfl
set_option maxRecDepth 100000 in
theorem nmO_all : (List.range 61).all (fun i => wordOK 2 (nmO i)) = true := by kernel_rfl
theorem nmC_first (i : Nat) (hi : i < 61) : firstF (nmC i) = some (⟨3, nmC i, 0, 0⟩, (nmC i).length) := wordOK_of (List.all_eq_true.1 nmC_all i (List.mem_range.2 hi))
theorem nmV_first (i : Nat) (hi : i < 61) : firstF (nmV i) = some (⟨2, nmV i, 0, 0⟩, (nmV i).length) := wordOK_of (List.all_eq_true.1 nmV_all i (List.mem_range.2 hi))
theorem nmO_first (i : Nat) (hi : i < 61) : firstF (nmO i) = some (⟨2, nmO i, 0, 0⟩, (nmO i).length) := wordOK_of (List.all_eq_true.1 nmO_all i (List.mem_range.2 hi))
/-- A word, and a blank behind it. -/
theorem Lexes.word1 {L t : List UInt8} {x : Lx.Tk} {p : Nat} {ws : List Lx.Tk} {r : Option Nat} (hf : firstF L = some (x, L.length)) (hne : L ≠ []) (hs : ∀ t, sk (L ++ t) = 0) (ht : sepH t = true) (h : Lexes (p + L.length) t ws r) : Lexes p (L ++ t) (atPos x p :: ws) r :=
  Lexes.tok (hs t) (by rw [first_sep L t hne ht]; exact hf) (by rw [List.drop_left]; exact h)

/-- The words `v0 v1 ..`, and others behind. -/
def VsW : Nat → Nat → List Lx.Tk → List Lx.Tk → Prop
  | _, 0, ws, tl => ws = tl
  | a, m + 1, ws, tl => ∃ p r, ws = ⟨2, nmV a, 0, p⟩ :: r ∧ VsW (a + 1) m r tl
theorem sk_C (i : Nat) (t : List UInt8) : sk (nmC i ++ t) = 0 := rfl
theorem sk_V (i : Nat) (t : List UInt8) : sk (nmV i ++ t) = 0 := rfl
theorem sk_O (i : Nat) (t : List UInt8) : sk (nmO i ++ t) = 0 := rfl
theorem vsB_sep (a m : Nat) (t : List UInt8) (ht : sepH t = true) : sepH (vsB a m ++ t) = true := by
  cases m with
  | zero => exact ht
  | succ m => rw [vsB_cons]; rfl
theorem lex_vs (t : List UInt8) (ht : sepH t = true) (r : Option Nat) (Q : List Lx.Tk → Prop) (H : ∀ p, ∃ tl, Lexes p t tl r ∧ Q tl) : ∀ (m a p : Nat), a + m ≤ 61 → ∃ ws tl, Lexes p (vsB a m ++ t) ws r ∧ VsW a m ws tl ∧ Q tl
  | 0, a, p, _ => by
    obtain ⟨tl, h1, h2⟩ := H p
    exact ⟨tl, tl, h1, rfl, h2⟩
  | m + 1, a, p, h => by
    obtain ⟨ws, tl, h1, h2, h3⟩ := lex_vs t ht r Q H m (a + 1) (p + 1 + (nmV a).length) (by omega)
    rw [vsB_cons]
    have e : 32 :: (nmV a ++ vsB (a + 1) m) ++ t = 32 :: (nmV a ++ (vsB (a + 1) m ++ t)) := by simp
    rw [e]
    exact ⟨_, tl, .blank (Lexes.word1 (nmV_first a (by omega)) (List.cons_ne_nil _ _) (sk_V a) (vsB_sep _ _ _ ht) h1), ⟨p + 1, ws, rfl, h2⟩, h3⟩
theorem sk_digits (L t : List UInt8) (h0 : 0 < L.length) (hd : ∀ c ∈ L, 48 ≤ c.toNat ∧ c.toNat ≤ 57) : sk (L ++ t) = 0 := by
  match L, h0 with
  | c :: r, _ =>
    have := hd c (by simp)
    exact skip_else c (r ++ t) (by omega) (by omega)
theorem sk_dg (i : Nat) (t : List UInt8) : sk (dgF 5 i ++ t) = 0 := sk_digits (dgF 5 i) t (dgF_pos 4 i) (dgF_dig 5 i)
theorem lex_num {t : List UInt8} {ws : List Lx.Tk} {r : Option Nat} {p i : Nat} (hi : i < 100000) (ht : sepH t = true) (h : Lexes (p + (dgF 5 i).length) t ws r) : Lexes p (dgF 5 i ++ t) (⟨1, dgF 5 i, i, p⟩ :: ws) r :=
  Lexes.tok (x := ⟨1, dgF 5 i, i, 0⟩) (sk_dg i t) (num_first i hi t (fun c r e => by subst e; exact dig_sep c ht)) (by rw [List.drop_left]; exact h)

/-- The words of an arm, and others behind. -/
def ArmW (v i : Nat) (ws tl : List Lx.Tk) : Prop := ∃ p q s r x, ws = ⟨3, nmC i, 0, p⟩ :: r ∧ VsW 0 v r x ∧ x = ⟨5, tArrow, 0, q⟩ :: ⟨1, dgF 5 i, i, s⟩ :: tl
def ArmsW (V : Nat → Nat) : Nat → Nat → List Lx.Tk → List Lx.Tk → Prop
  | _, 0, ws, tl => ws = tl
  | a, m + 1, ws, tl => ∃ p r s, ws = ⟨5, tSemi, 0, p⟩ :: r ∧ ArmW (V a) a r s ∧ ArmsW V (a + 1) m s tl
theorem lex_arm (v i : Nat) (hv : v ≤ 61) (hi : i < 61) (t : List UInt8) (ht : sepH t = true) (r : Option Nat) (Q : List Lx.Tk → Prop) (H : ∀ p, ∃ tl, Lexes p t tl r ∧ Q tl) (p : Nat) :
    ∃ ws tl, Lexes p (armB v i ++ t) ws r ∧ ArmW v i ws tl ∧ Q tl := by
  obtain ⟨ws, x, h1, h2, q, s, tl, h3, h4⟩ := lex_vs (32 :: 45 :: 62 :: 32 :: (dgF 5 i ++ t)) rfl r (fun x => ∃ q s tl, x = ⟨5, tArrow, 0, q⟩ :: ⟨1, dgF 5 i, i, s⟩ :: tl ∧ Q tl) (fun p => by
    obtain ⟨tl, k1, k2⟩ := H (p + 1 + 2 + 1 + (dgF 5 i).length)
    exact ⟨_, .blank (Lexes.tok (l := 45 :: 62 :: 32 :: (dgF 5 i ++ t)) (x := ⟨5, tArrow, 0, 0⟩) (m := 2) rfl rfl (.blank (lex_num (by omega) ht k1))), _, _, tl, rfl, k2⟩) v 0 (p + 1 + (nmC i).length) (by omega)
  have e : armB v i ++ t = 32 :: (nmC i ++ (vsB 0 v ++ (32 :: 45 :: 62 :: 32 :: (dgF 5 i ++ t)))) := by unfold armB; simp
  rw [e]
  exact ⟨_, tl, .blank (Lexes.word1 (nmC_first i hi) (List.cons_ne_nil _ _) (sk_C i) (vsB_sep _ _ _ rfl) h1), ⟨p + 1, q, s, ws, x, rfl, h2, h3⟩, h4⟩
theorem armsB_sep (V : Nat → Nat) (a m : Nat) (t : List UInt8) (ht : sepH t = true) : sepH (armsB V a m ++ t) = true := by
  cases m with
  | zero => exact ht
  | succ m => rw [armsB_cons]; rfl
theorem lex_arms (V : Nat → Nat) (hV : ∀ i, V i ≤ 61) (t : List UInt8) (ht : sepH t = true) (r : Option Nat) (Q : List Lx.Tk → Prop) (H : ∀ p, ∃ tl, Lexes p t tl r ∧ Q tl) : ∀ (m a p : Nat), a + m ≤ 61 → ∃ ws tl, Lexes p (armsB V a m ++ t) ws r ∧ ArmsW V a m ws tl ∧ Q tl
  | 0, a, p, _ => by
    obtain ⟨tl, h1, h2⟩ := H p
    exact ⟨tl, tl, h1, rfl, h2⟩
  | m + 1, a, p, h => by
    obtain ⟨ws, s, h1, h2, tl, h3, h4⟩ := lex_arm (V a) a (hV a) (by omega) (armsB V (a + 1) m ++ t) (armsB_sep _ _ _ _ ht) r (fun s => ∃ tl, ArmsW V (a + 1) m s tl ∧ Q tl) (fun p => by
      obtain ⟨ws, tl, k1, k2, k3⟩ := lex_arms V hV t ht r Q H m (a + 1) p (by omega)
      exact ⟨ws, k1, tl, k2, k3⟩) (p + 1 + 1)
    rw [armsB_cons]
    have e : 32 :: 59 :: (armB (V a) a ++ armsB V (a + 1) m) ++ t = 32 :: 59 :: (armB (V a) a ++ (armsB V (a + 1) m ++ t)) := by simp
    rw [e]
    have hsep : ∀ u, firstF (59 :: (armB (V a) a ++ u)) = some (⟨5, tSemi, 0, 0⟩, 1) := fun u => rfl
    exact ⟨_, tl, .blank (Lexes.tok rfl (hsep _) h1), ⟨p + 1, ws, s, rfl, h2, h3⟩, h4⟩
/-- The words of a clause. -/
def ClsW : Nat → Nat → List Lx.Tk → List Lx.Tk → Prop
  | _, 0, ws, tl => ws = tl
  | a, m + 1, ws, tl => ∃ p q r s u v x, ws = ⟨5, tSemi, 0, p⟩ :: ⟨2, nmO a, 0, q⟩ :: ⟨2, [97], 0, r⟩ :: ⟨2, [107], 0, s⟩ :: ⟨5, tArrow, 0, u⟩ :: ⟨1, dgF 5 a, a, v⟩ :: x ∧ ClsW (a + 1) m x tl
theorem clsB_sep (a m : Nat) (t : List UInt8) (ht : sepH t = true) : sepH (clsB a m ++ t) = true := by
  cases m with
  | zero => exact ht
  | succ m => rw [clsB_cons]; rfl
theorem lex_cls (t : List UInt8) (ht : sepH t = true) (r : Option Nat) (Q : List Lx.Tk → Prop) (H : ∀ p, ∃ tl, Lexes p t tl r ∧ Q tl) : ∀ (m a p : Nat), a + m ≤ 61 → ∃ ws tl, Lexes p (clsB a m ++ t) ws r ∧ ClsW a m ws tl ∧ Q tl
  | 0, a, p, _ => by
    obtain ⟨tl, h1, h2⟩ := H p
    exact ⟨tl, tl, h1, rfl, h2⟩
  | m + 1, a, p, h => by
    obtain ⟨ws, tl, h1, h2, h3⟩ := lex_cls t ht r Q H m (a + 1) (p + 1 + 1 + 1 + (nmO a).length + 1 + 1 + 1 + 1 + 1 + 2 + 1 + (dgF 5 a).length) (by omega)
    have e : clsB a (m + 1) ++ t = 32 :: 59 :: 32 :: (nmO a ++ (32 :: 97 :: 32 :: 107 :: 32 :: 45 :: 62 :: 32 :: (dgF 5 a ++ (clsB (a + 1) m ++ t)))) := by
      rw [clsB_cons]; unfold clB; simp
    rw [e]
    exact ⟨_, tl, .blank (Lexes.tok (x := ⟨5, tSemi, 0, 0⟩) (m := 1) rfl rfl (.blank (Lexes.word1 (nmO_first a (by omega)) (List.cons_ne_nil _ _) (sk_O a) rfl (.blank (Lexes.tok (x := ⟨2, [97], 0, 0⟩) (m := 1) rfl rfl
        (.blank (Lexes.tok (x := ⟨2, [107], 0, 0⟩) (m := 1) rfl rfl (.blank (Lexes.tok (x := ⟨5, tArrow, 0, 0⟩) (m := 2) rfl rfl (.blank (lex_num (by omega) (clsB_sep _ _ _ ht) h1))))))))))), ⟨_, _, _, _, _, _, ws, rfl, h2⟩, h3⟩

/-- A word that ends an arm. -/
def EndW (tl : List Lx.Tk) : Prop := ∃ t p r, tl = ⟨5, t, 0, p⟩ :: r ∧ (t = tSemi ∨ t = tRb)
theorem VsW.len : ∀ {m a : Nat} {ws tl : List Lx.Tk}, VsW a m ws tl → ws.length = m + tl.length
  | 0, _, _, _, h => by rw [show _ = _ from h]; omega
  | m + 1, _, _, _, h => by obtain ⟨_, r, rfl, h⟩ := h; rw [List.length_cons, VsW.len h]; omega
theorem ArmsW.end {V : Nat → Nat} : ∀ {m a : Nat} {ws tl : List Lx.Tk}, ArmsW V a m ws tl → EndW tl → EndW ws
  | 0, _, _, _, h, ht => by rw [show _ = _ from h]; exact ht
  | m + 1, _, _, _, h, _ => by obtain ⟨p, r, s, rfl, _⟩ := h; exact ⟨_, _, _, rfl, .inl rfl⟩
theorem ArmsW.len {V : Nat → Nat} : ∀ {m a : Nat} {ws tl : List Lx.Tk}, ArmsW V a m ws tl → m + tl.length ≤ ws.length
  | 0, _, _, _, h => by rw [show _ = _ from h]; omega
  | m + 1, _, _, _, h => by
    obtain ⟨p, r, s, rfl, ⟨_, _, _, r', x, rfl, h1, rfl⟩, h2⟩ := h
    have := ArmsW.len h2
    have := h1.len
    simp only [List.length_cons] at *
    omega

namespace Pz
/-- What a match's arms must be. -/
def ArmR (V : Nat → Nat) : Nat → Nat → List Arm → Prop
  | _, 0, rs => rs = []
  | a, m + 1, rs => ∃ vs p r, rs = (nmC a, vs, .mk 2 p [] [] a [] []) :: r ∧ vs.length = V a ∧ ArmR V (a + 1) m r
def ClR : Nat → Nat → List Arm → Prop
  | _, 0, rs => rs = []
  | a, m + 1, rs => ∃ vs p r, rs = (nmO a, vs, .mk 2 p [] [] a [] []) :: r ∧ vs.length = 2 ∧ ClR (a + 1) m r
theorem ArmR.len {V : Nat → Nat} : ∀ {m a : Nat} {rs : List Arm}, ArmR V a m rs → rs.length = m
  | 0, _, _, h => by rw [show _ = _ from h]; rfl
  | m + 1, _, _, h => by obtain ⟨_, _, r, rfl, _, h⟩ := h; rw [List.length_cons, ArmR.len h]
theorem ClR.len : ∀ {m a : Nat} {rs : List Arm}, ClR a m rs → rs.length = m
  | 0, _, _, h => by rw [show _ = _ from h]; rfl
  | m + 1, _, _, h => by obtain ⟨_, _, r, rfl, _, h⟩ := h; rw [List.length_cons, ClR.len h]
theorem ArmR.at {V : Nat → Nat} : ∀ {m a : Nat} {rs : List Arm}, ArmR V a m rs → ∀ i, i < m → ∃ vs p, rs[i]? = some (nmC (a + i), vs, .mk 2 p [] [] (a + i) [] []) ∧ vs.length = V (a + i)
  | 0, _, _, _, i, hi => by omega
  | m + 1, a, _, h, i, hi => by
    obtain ⟨vs, p, r, rfl, h1, h2⟩ := h
    cases i with
    | zero => exact ⟨vs, p, rfl, h1⟩
    | succ i =>
      obtain ⟨vs', p', h3, h4⟩ := ArmR.at h2 i (by omega)
      rw [show a + (i + 1) = a + 1 + i by omega]
      exact ⟨vs', p', h3, h4⟩
theorem ClR.at : ∀ {m a : Nat} {rs : List Arm}, ClR a m rs → ∀ i, i < m → ∃ vs p, rs[i]? = some (nmO (a + i), vs, .mk 2 p [] [] (a + i) [] []) ∧ vs.length = 2
  | 0, _, _, _, i, hi => by omega
  | m + 1, a, _, h, i, hi => by
    obtain ⟨vs, p, r, rfl, h1, h2⟩ := h
    cases i with
    | zero => exact ⟨vs, p, rfl, h1⟩
    | succ i =>
      obtain ⟨vs', p', h3, h4⟩ := ClR.at h2 i (by omega)
      rw [show a + (i + 1) = a + 1 + i by omega]
      exact ⟨vs', p', h3, h4⟩
theorem ArmR.deep {V : Nat → Nat} : ∀ {m a : Nat} {rs : List Arm}, ArmR V a m rs → deepA rs ≤ 1
  | 0, _, _, h => by rw [show _ = _ from h]; exact Nat.zero_le _
  | m + 1, a, _, h => by
    obtain ⟨_, p, r, rfl, _, h⟩ := h
    have := ArmR.deep h
    simp only [deepA]
    have h2 : (Tm.mk 2 p [] [] a [] []).deep = 1 := deep_leaf 2 p [] [] a
    omega
theorem ClR.deep : ∀ {m a : Nat} {rs : List Arm}, ClR a m rs → deepA rs ≤ 1
  | 0, _, _, h => by rw [show _ = _ from h]; exact Nat.zero_le _
  | m + 1, a, _, h => by
    obtain ⟨_, p, r, rfl, _, h⟩ := h
    have := ClR.deep h
    simp only [deepA]
    have h2 : (Tm.mk 2 p [] [] a [] []).deep = 1 := deep_leaf 2 p [] [] a
    omega
theorem vars_vs : ∀ (m a n : Nat) (ws tl : List Lx.Tk) (wi at_ : Nat), VsW a m ws tl → m ≤ n → (∃ k t v p r, tl = ⟨k, t, v, p⟩ :: r ∧ k ≠ 2) → ∃ vs, vars n ⟨ws, wi, at_, 0⟩ = (vs, ⟨tl, wi, at_, 0⟩) ∧ vs.length = m
  | 0, a, n, ws, tl, wi, at_, h, _, hk => by
    obtain rfl : ws = tl := h
    obtain ⟨k, t, v, p, r, rfl, hk⟩ := hk
    cases n with
    | zero => exact ⟨[], rfl, rfl⟩
    | succ n =>
      refine ⟨[], ?_, rfl⟩
      unfold vars
      rw [show isOf [2] ⟨⟨k, t, v, p⟩ :: r, wi, at_, 0⟩ = false by simp [isOf]; exact fun e => hk (by omega)]
      rfl
  | m + 1, a, n, ws, tl, wi, at_, h, hn, hk => by
    obtain ⟨p, r, rfl, h⟩ := h
    obtain ⟨n, rfl⟩ : ∃ g, n = g + 1 := ⟨n - 1, by omega⟩
    obtain ⟨vs, e, hl⟩ := vars_vs m (a + 1) n r tl wi at_ h (by omega) hk
    refine ⟨nmV a :: vs, ?_, by rw [List.length_cons, hl]⟩
    show (nmV a :: (vars n ⟨r, wi, at_, 0⟩).1, (vars n ⟨r, wi, at_, 0⟩).2) = _
    rw [e]
/-- What an expr within an arm answers. -/
def IntEx (ex : St → Tm × St) : Prop := ∀ (t : Str) (n p : Nat) (tl : List Lx.Tk), EndW tl → ex ⟨⟨1, t, n, p⟩ :: tl, 1, 0, 0⟩ = (.mk 2 p [] [] n [] [], ⟨tl, 1, 0, 0⟩)
theorem intEx (sz f : Nat) : IntEx (expr sz (f + 1)) := by
  intro t n p tl h
  obtain ⟨u, q, r, rfl, h⟩ := h
  rcases h with rfl | rfl <;> kernel_rfl
theorem way_arm {sz : Nat} {ex : St → Tm × St} (hx : IntEx ex) {v i : Nat} {ws tl : List Lx.Tk} (h : ArmW v i ws tl) (ht : EndW tl) : ∃ vs p, way sz ex ⟨ws, 1, 0, 0⟩ = ((nmC i, vs, .mk 2 p [] [] i [] []), ⟨tl, 1, 0, 0⟩) ∧ vs.length = v := by
  obtain ⟨p, q, s, r, x, rfl, h1, rfl⟩ := h
  obtain ⟨vs, e, hl⟩ := vars_vs v 0 r.length r _ 1 0 h1 (by rw [h1.len]; omega) ⟨_, _, _, _, _, rfl, by decide⟩
  refine ⟨vs, s, ?_, hl⟩
  unfold way
  dsimp only
  rw [show name sz [3] ⟨⟨3, nmC i, 0, p⟩ :: r, 1, 0, 0⟩ = (nmC i, ⟨r, 1, 0, 0⟩) from rfl]
  dsimp only
  rw [e]
  unfold does
  rw [show must1 sz tArrow ⟨⟨5, tArrow, 0, q⟩ :: ⟨1, dgF 5 i, i, s⟩ :: tl, 1, 0, 0⟩ = ⟨⟨1, dgF 5 i, i, s⟩ :: tl, 1, 0, 0⟩ from rfl, hx _ _ _ _ ht]
theorem more_arms {sz : Nat} {ex : St → Tm × St} (hx : IntEx ex) (V : Nat → Nat) (q : Nat) (e : List Lx.Tk) : ∀ (m a n : Nat) (ws : List Lx.Tk), ArmsW V a m ws (⟨5, tRb, 0, q⟩ :: e) → m ≤ n → ∃ rs, more (way sz ex) tSemi n ⟨ws, 1, 0, 0⟩ = (rs, ⟨⟨5, tRb, 0, q⟩ :: e, 1, 0, 0⟩) ∧ ArmR V a m rs
  | 0, a, n, ws, h, _ => by
    obtain rfl : ws = _ := h
    refine ⟨[], ?_, rfl⟩
    cases n <;> rfl
  | m + 1, a, n, ws, h, hn => by
    obtain ⟨p, r, s, rfl, h1, h2⟩ := h
    obtain ⟨n, rfl⟩ : ∃ g, n = g + 1 := ⟨n - 1, by omega⟩
    obtain ⟨rs, e1, h3⟩ := more_arms hx V q e m (a + 1) n s h2 (by omega)
    obtain ⟨vs, b, e2, hl⟩ := way_arm (sz := sz) hx h1 (h2.end ⟨_, _, _, rfl, .inr rfl⟩)
    refine ⟨_, ?_, ⟨vs, b, rs, rfl, hl, h3⟩⟩
    show ((way sz ex ⟨r, 1, 0, 0⟩).1 :: (more (way sz ex) tSemi n (way sz ex ⟨r, 1, 0, 0⟩).2).1, (more (way sz ex) tSemi n (way sz ex ⟨r, 1, 0, 0⟩).2).2) = _
    rw [e2]
    dsimp only
    rw [e1]
theorem more_cls {sz : Nat} {ex : St → Tm × St} (hx : IntEx ex) (q : Nat) (e : List Lx.Tk) : ∀ (m a n : Nat) (ws : List Lx.Tk), ClsW a m ws (⟨5, tRb, 0, q⟩ :: e) → m ≤ n → ∃ rs, more (clause sz ex) tSemi n ⟨ws, 1, 0, 0⟩ = (rs, ⟨⟨5, tRb, 0, q⟩ :: e, 1, 0, 0⟩) ∧ ClR a m rs
  | 0, a, n, ws, h, _ => by
    obtain rfl : ws = _ := h
    refine ⟨[], ?_, rfl⟩
    cases n <;> rfl
  | m + 1, a, n, ws, h, hn => by
    obtain ⟨p, q1, r, s, u, v, x, rfl, h2⟩ := h
    obtain ⟨n, rfl⟩ : ∃ g, n = g + 1 := ⟨n - 1, by omega⟩
    obtain ⟨rs, e1, h3⟩ := more_cls (sz := sz) hx q e m (a + 1) n x h2 (by omega)
    have he : EndW x := by
      cases m with
      | zero => exact ⟨_, _, _, show x = _ from h2, .inr rfl⟩
      | succ m => obtain ⟨_, _, _, _, _, _, _, rfl, _⟩ := h2; exact ⟨_, _, _, rfl, .inl rfl⟩
    have e2 : clause sz ex ⟨⟨2, nmO a, 0, q1⟩ :: ⟨2, [97], 0, r⟩ :: ⟨2, [107], 0, s⟩ :: ⟨5, tArrow, 0, u⟩ :: ⟨1, dgF 5 a, a, v⟩ :: x, 1, 0, 0⟩ = ((nmO a, [[97], [107]], .mk 2 v [] [] a [] []), ⟨x, 1, 0, 0⟩) := by
      show ((nmO a, [[97], [107]], (ex ⟨⟨1, dgF 5 a, a, v⟩ :: x, 1, 0, 0⟩).1), (ex ⟨⟨1, dgF 5 a, a, v⟩ :: x, 1, 0, 0⟩).2) = _
      rw [hx _ _ _ _ he]
    refine ⟨_, ?_, ⟨[[97], [107]], v, rs, rfl, rfl, h3⟩⟩
    obtain ⟨R, hR⟩ : ∃ R, R = (⟨2, nmO a, 0, q1⟩ :: ⟨2, [97], 0, r⟩ :: ⟨2, [107], 0, s⟩ :: ⟨5, tArrow, 0, u⟩ :: ⟨1, dgF 5 a, a, v⟩ :: x : List Lx.Tk) := ⟨_, rfl⟩
    rw [← hR] at e2 ⊢
    show ((clause sz ex ⟨R, 1, 0, 0⟩).1 :: (more (clause sz ex) tSemi n (clause sz ex ⟨R, 1, 0, 0⟩).2).1, (more (clause sz ex) tSemi n (clause sz ex ⟨R, 1, 0, 0⟩).2).2) = _
    rw [e2]
    dsimp only
    rw [e1]
theorem ex_name (sz f : Nat) (nm : Str) (p q : Nat) (r : List Lx.Tk) (t : Str) (ht : t = tLb ∨ t = tSemi ∨ t = tRb) : expr sz (f + 1) ⟨⟨2, nm, 0, p⟩ :: ⟨5, t, 0, q⟩ :: r, 1, 0, 0⟩ = (.mk 1 p nm [] 0 [] [], ⟨⟨5, t, 0, q⟩ :: r, 1, 0, 0⟩) := by
  rcases ht with rfl | rfl | rfl <;> kernel_rfl
/-- The words of the arms between the brackets. -/
def InW (V : Nat → Nat) : Nat → List Lx.Tk → List Lx.Tk → Prop
  | 0, ws, tl => ws = tl
  | m + 1, ws, tl => ∃ s, ArmW (V 0) 0 ws s ∧ ArmsW V 1 m s tl
theorem ways_arms {sz : Nat} {ex : St → Tm × St} (hx : IntEx ex) (V : Nat → Nat) (n p q : Nat) (ws : List Lx.Tk) (h : InW V n ws [⟨5, tRb, 0, q⟩]) : ∃ rs, ways sz ex ⟨⟨5, tLb, 0, p⟩ :: ws, 1, 0, 0⟩ = (rs, ⟨[], 1, 0, 0⟩) ∧ ArmR V 0 n rs := by
  unfold ways list
  rw [show must1 sz tLb ⟨⟨5, tLb, 0, p⟩ :: ws, 1, 0, 0⟩ = ⟨ws, 1, 0, 0⟩ from rfl]
  dsimp only
  cases n with
  | zero =>
    obtain rfl : ws = _ := h
    exact ⟨[], rfl, rfl⟩
  | succ m =>
    obtain ⟨s, h1, h2⟩ := h
    have h1' := h1
    obtain ⟨a, b, c, r, x, rfl, _, _⟩ := h1
    rw [show isT [tRb] ⟨⟨3, nmC 0, 0, a⟩ :: r, 1, 0, 0⟩ = false from rfl, if_neg (by decide)]
    obtain ⟨vs, b', e, hl⟩ := way_arm (sz := sz) hx h1' (h2.end ⟨_, _, _, rfl, .inr rfl⟩)
    rw [e]
    dsimp only
    obtain ⟨rs, e1, h3⟩ := more_arms (sz := sz) hx V q [] m 1 s.length s h2 (by have := h2.len; omega)
    rw [e1]
    exact ⟨_, rfl, vs, b', rs, rfl, hl, h3⟩
theorem behind_one {sz a : Nat} {ex : St → Tm × St} {R : List Lx.Tk} {t : Tm} {s1 : St} (h : ex ⟨R, 1, 0, 0⟩ = (t, s1)) : behind sz ex [tMatch] ⟨⟨4, tMatch, 0, a⟩ :: R, 1, 0, 0⟩ = ([t], s1) := by
  show ([(ex ⟨R, 1, 0, 0⟩).1], (ex ⟨R, 1, 0, 0⟩).2) = _
  rw [h]
theorem match_program (sz : Nat) (V : Nat → Nat) (n a b c q : Nat) (ws : List Lx.Tk) (h : InW V n ws [⟨5, tRb, 0, q⟩]) :
    ∃ rs, program sz ⟨⟨4, tMatch, 0, a⟩ :: ⟨2, [120], 0, b⟩ :: ⟨5, tLb, 0, c⟩ :: ws, 0, 0, 0⟩ = (⟨[], [], .mk 12 a [] [] 0 [.mk 1 b [120] [] 0 [] []] rs⟩, ⟨[], 0, 0, 0⟩) ∧ ArmR V 0 n rs := by
  obtain ⟨rs, e, hr⟩ := ways_arms (sz := sz) (intEx sz (ws.length + 1 + 1)) V n c q ws h
  refine ⟨rs, ?_, hr⟩
  have hx : exprHere sz (expr sz (ws.length + 1 + 1 + 1)) ⟨⟨4, tMatch, 0, a⟩ :: ⟨2, [120], 0, b⟩ :: ⟨5, tLb, 0, c⟩ :: ws, 1, 0, 0⟩ = (.mk 12 a [] [] 0 [.mk 1 b [120] [] 0 [] []] rs, ⟨[], 1, 0, 0⟩) := by
    have h1 : behind sz (expr sz (ws.length + 1 + 1 + 1)) [tMatch] ⟨⟨4, tMatch, 0, a⟩ :: ⟨2, [120], 0, b⟩ :: ⟨5, tLb, 0, c⟩ :: ws, 1, 0, 0⟩ = ([.mk 1 b [120] [] 0 [] []], ⟨⟨5, tLb, 0, c⟩ :: ws, 1, 0, 0⟩) :=
      behind_one (ex_name sz _ _ _ _ _ _ (.inl rfl))
    unfold exprHere
    rw [show isT [tFun] ⟨⟨4, tMatch, 0, a⟩ :: ⟨2, [120], 0, b⟩ :: ⟨5, tLb, 0, c⟩ :: ws, 1, 0, 0⟩ = false from rfl, show isT [tLet] ⟨⟨4, tMatch, 0, a⟩ :: ⟨2, [120], 0, b⟩ :: ⟨5, tLb, 0, c⟩ :: ws, 1, 0, 0⟩ = false from rfl,
      show isT [tRec] ⟨⟨4, tMatch, 0, a⟩ :: ⟨2, [120], 0, b⟩ :: ⟨5, tLb, 0, c⟩ :: ws, 1, 0, 0⟩ = false from rfl, show isT [tIf] ⟨⟨4, tMatch, 0, a⟩ :: ⟨2, [120], 0, b⟩ :: ⟨5, tLb, 0, c⟩ :: ws, 1, 0, 0⟩ = false from rfl,
      show isT [tMatch] ⟨⟨4, tMatch, 0, a⟩ :: ⟨2, [120], 0, b⟩ :: ⟨5, tLb, 0, c⟩ :: ws, 1, 0, 0⟩ = true from rfl, h1]
    dsimp only
    rw [e]
    rfl
  have hs : expr sz (ws.length + 1 + 1 + 1 + 1) ⟨⟨4, tMatch, 0, a⟩ :: ⟨2, [120], 0, b⟩ :: ⟨5, tLb, 0, c⟩ :: ws, 0, 0, 0⟩ = (.mk 12 a [] [] 0 [.mk 1 b [120] [] 0 [] []] rs, ⟨[], 0, 0, 0⟩) := by
    show exprStep sz _ _ = _
    rw [step_ok (by show 0 ≤ 200; omega)]
    dsimp only
    rw [Nat.zero_add, hx]
    rfl
  unfold program
  dsimp only
  rw [show decls sz (⟨4, tMatch, 0, a⟩ :: ⟨2, [120], 0, b⟩ :: ⟨5, tLb, 0, c⟩ :: ws).length [] [] ⟨⟨4, tMatch, 0, a⟩ :: ⟨2, [120], 0, b⟩ :: ⟨5, tLb, 0, c⟩ :: ws, 0, 0, 0⟩ = (([], []), ⟨⟨4, tMatch, 0, a⟩ :: ⟨2, [120], 0, b⟩ :: ⟨5, tLb, 0, c⟩ :: ws, 0, 0, 0⟩) from rfl]
  dsimp only
  simp only [List.length_cons]
  rw [hs]
  rfl
/-- What a handler's arms must be. -/
def HanR (n : Nat) (rs : List Arm) : Prop := ∃ vs t r, rs = (tReturn, vs, t) :: r ∧ t.deep = 1 ∧ ClR 0 n r
theorem clauses_cls {sz f : Nat} (n p p2 p3 p4 p5 q : Nat) (ws : List Lx.Tk) (h : ClsW 0 n ws [⟨5, tRb, 0, q⟩]) :
    ∃ rs, clauses sz (expr sz (f + 1)) ⟨⟨5, tLb, 0, p⟩ :: ⟨4, tReturn, 0, p2⟩ :: ⟨2, [121], 0, p3⟩ :: ⟨5, tArrow, 0, p4⟩ :: ⟨2, [121], 0, p5⟩ :: ws, 1, 0, 0⟩ = (rs, ⟨[], 1, 0, 0⟩) ∧ HanR n rs := by
  obtain ⟨rs, e1, h3⟩ := more_cls (sz := sz) (intEx sz f) q [] n 0 ws.length ws h (by
    clear p p2 p3 p4 p5 f
    have : ∀ (m a : Nat) (ws tl : List Lx.Tk), ClsW a m ws tl → m ≤ ws.length := by
      intro m
      induction m with
      | zero => exact fun _ _ _ _ => Nat.zero_le _
      | succ m ih =>
        intro a ws tl h
        obtain ⟨_, _, _, _, _, _, x, rfl, h⟩ := h
        have := ih _ _ _ h
        simp only [List.length_cons]
        omega
    exact this n 0 ws _ h)
  have hy : expr sz (f + 1) ⟨⟨2, [121], 0, p5⟩ :: ws, 1, 0, 0⟩ = (.mk 1 p5 [121] [] 0 [] [], ⟨ws, 1, 0, 0⟩) := by
    cases n with
    | zero =>
      obtain rfl : ws = _ := h
      exact ex_name sz f _ _ _ _ _ (.inr (.inr rfl))
    | succ n =>
      obtain ⟨_, _, _, _, _, _, x, rfl, _⟩ := h
      exact ex_name sz f _ _ _ _ _ (.inr (.inl rfl))
  have hd : does sz (expr sz (f + 1)) tReturn [[121]] ⟨⟨5, tArrow, 0, p4⟩ :: ⟨2, [121], 0, p5⟩ :: ws, 1, 0, 0⟩ = ((tReturn, [[121]], .mk 1 p5 [121] [] 0 [] []), ⟨ws, 1, 0, 0⟩) := by
    show ((tReturn, [[121]], (expr sz (f + 1) ⟨⟨2, [121], 0, p5⟩ :: ws, 1, 0, 0⟩).1), (expr sz (f + 1) ⟨⟨2, [121], 0, p5⟩ :: ws, 1, 0, 0⟩).2) = _
    rw [hy]
  refine ⟨(tReturn, [[121]], .mk 1 p5 [121] [] 0 [] []) :: rs, ?_, ⟨_, _, rs, rfl, deep_leaf _ _ _ _ _, h3⟩⟩
  unfold clauses
  dsimp only
  rw [show must sz [tLb, tReturn] ⟨⟨5, tLb, 0, p⟩ :: ⟨4, tReturn, 0, p2⟩ :: ⟨2, [121], 0, p3⟩ :: ⟨5, tArrow, 0, p4⟩ :: ⟨2, [121], 0, p5⟩ :: ws, 1, 0, 0⟩ = ⟨⟨2, [121], 0, p3⟩ :: ⟨5, tArrow, 0, p4⟩ :: ⟨2, [121], 0, p5⟩ :: ws, 1, 0, 0⟩ from rfl,
    show name sz [2] ⟨⟨2, [121], 0, p3⟩ :: ⟨5, tArrow, 0, p4⟩ :: ⟨2, [121], 0, p5⟩ :: ws, 1, 0, 0⟩ = ([121], ⟨⟨5, tArrow, 0, p4⟩ :: ⟨2, [121], 0, p5⟩ :: ws, 1, 0, 0⟩) from rfl]
  dsimp only
  rw [hd]
  dsimp only
  rw [e1]
  rfl
theorem hand_program (sz : Nat) (n a b c p p2 p3 p4 p5 q : Nat) (ws : List Lx.Tk) (h : ClsW 0 n ws [⟨5, tRb, 0, q⟩]) :
    ∃ rs, program sz ⟨⟨4, tHandle, 0, a⟩ :: ⟨3, [69], 0, b⟩ :: ⟨2, [120], 0, c⟩ :: ⟨5, tLb, 0, p⟩ :: ⟨4, tReturn, 0, p2⟩ :: ⟨2, [121], 0, p3⟩ :: ⟨5, tArrow, 0, p4⟩ :: ⟨2, [121], 0, p5⟩ :: ws, 0, 0, 0⟩ =
      (⟨[], [], .mk 14 a [69] [] 0 [.mk 1 c [120] [] 0 [] []] rs⟩, ⟨[], 0, 0, 0⟩) ∧ HanR n rs := by
  obtain ⟨rs, e, hr⟩ := clauses_cls (sz := sz) (f := ws.length + 1 + 1 + 1 + 1 + 1 + 1 + 1) n p p2 p3 p4 p5 q ws h
  refine ⟨rs, ?_, hr⟩
  obtain ⟨R, hR⟩ : ∃ R, R = (⟨5, tLb, 0, p⟩ :: ⟨4, tReturn, 0, p2⟩ :: ⟨2, [121], 0, p3⟩ :: ⟨5, tArrow, 0, p4⟩ :: ⟨2, [121], 0, p5⟩ :: ws : List Lx.Tk) := ⟨_, rfl⟩
  have hl : R.length = ws.length + 1 + 1 + 1 + 1 + 1 := by rw [hR]; rfl
  have hx : exprHere sz (expr sz (ws.length + 1 + 1 + 1 + 1 + 1 + 1 + 1 + 1)) ⟨⟨4, tHandle, 0, a⟩ :: ⟨3, [69], 0, b⟩ :: ⟨2, [120], 0, c⟩ :: R, 1, 0, 0⟩ = (.mk 14 a [69] [] 0 [.mk 1 c [120] [] 0 [] []] rs, ⟨[], 1, 0, 0⟩) := by
    have h1 : expr sz (ws.length + 1 + 1 + 1 + 1 + 1 + 1 + 1 + 1) ⟨⟨2, [120], 0, c⟩ :: R, 1, 0, 0⟩ = (.mk 1 c [120] [] 0 [] [], ⟨R, 1, 0, 0⟩) := by
      rw [hR]
      exact ex_name sz _ _ _ _ _ _ (.inl rfl)
    unfold exprHere
    rw [show isT [tFun] ⟨⟨4, tHandle, 0, a⟩ :: ⟨3, [69], 0, b⟩ :: ⟨2, [120], 0, c⟩ :: R, 1, 0, 0⟩ = false from rfl, show isT [tLet] ⟨⟨4, tHandle, 0, a⟩ :: ⟨3, [69], 0, b⟩ :: ⟨2, [120], 0, c⟩ :: R, 1, 0, 0⟩ = false from rfl,
      show isT [tRec] ⟨⟨4, tHandle, 0, a⟩ :: ⟨3, [69], 0, b⟩ :: ⟨2, [120], 0, c⟩ :: R, 1, 0, 0⟩ = false from rfl, show isT [tIf] ⟨⟨4, tHandle, 0, a⟩ :: ⟨3, [69], 0, b⟩ :: ⟨2, [120], 0, c⟩ :: R, 1, 0, 0⟩ = false from rfl,
      show isT [tMatch] ⟨⟨4, tHandle, 0, a⟩ :: ⟨3, [69], 0, b⟩ :: ⟨2, [120], 0, c⟩ :: R, 1, 0, 0⟩ = false from rfl, show isT [tHandle] ⟨⟨4, tHandle, 0, a⟩ :: ⟨3, [69], 0, b⟩ :: ⟨2, [120], 0, c⟩ :: R, 1, 0, 0⟩ = true from rfl,
      show name sz [3] (take ⟨⟨4, tHandle, 0, a⟩ :: ⟨3, [69], 0, b⟩ :: ⟨2, [120], 0, c⟩ :: R, 1, 0, 0⟩) = ([69], ⟨⟨2, [120], 0, c⟩ :: R, 1, 0, 0⟩) from rfl]
    dsimp only
    rw [h1]
    dsimp only
    rw [hR, e]
    rfl
  have hs : expr sz (ws.length + 1 + 1 + 1 + 1 + 1 + 1 + 1 + 1 + 1) ⟨⟨4, tHandle, 0, a⟩ :: ⟨3, [69], 0, b⟩ :: ⟨2, [120], 0, c⟩ :: R, 0, 0, 0⟩ = (.mk 14 a [69] [] 0 [.mk 1 c [120] [] 0 [] []] rs, ⟨[], 0, 0, 0⟩) := by
    show exprStep sz _ _ = _
    rw [step_ok (by show 0 ≤ 200; omega)]
    dsimp only
    rw [Nat.zero_add, hx]
    rfl
  rw [← hR]
  unfold program
  dsimp only
  rw [show decls sz (⟨4, tHandle, 0, a⟩ :: ⟨3, [69], 0, b⟩ :: ⟨2, [120], 0, c⟩ :: R).length [] [] ⟨⟨4, tHandle, 0, a⟩ :: ⟨3, [69], 0, b⟩ :: ⟨2, [120], 0, c⟩ :: R, 0, 0, 0⟩ = (([], []), ⟨⟨4, tHandle, 0, a⟩ :: ⟨3, [69], 0, b⟩ :: ⟨2, [120], 0, c⟩ :: R, 0, 0, 0⟩) from rfl]
  dsimp only
  simp only [List.length_cons]
  rw [hl, hs]
  rfl
end Pz
end Go.Proofs.YtboejbnkkhcccaaGreatDoor
