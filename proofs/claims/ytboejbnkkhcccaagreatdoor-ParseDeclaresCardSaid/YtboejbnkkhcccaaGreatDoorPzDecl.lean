/- Plain facts: declarations are read in the order of their kind. -/
import Derived.Test.YtboejbnkkhcccaaGreatDoorPzArms
namespace Go.Proofs.YtboejbnkkhcccaaGreatDoor
open Pz

def nmD (i : Nat) : List UInt8 := 68 :: dgF 5 i
/-- `effect D0 { op0 : int -> D0 } `. -/
def effB (i : Nat) : List UInt8 := [101, 102, 102, 101, 99, 116, 32] ++ (nmD i ++ (32 :: 123 :: 32 :: (nmO i ++ (32 :: 58 :: 32 :: 105 :: 110 :: 116 :: 32 :: 45 :: 62 :: 32 :: (nmD i ++ [32, 125, 32])))))
/-- `data D0 { C0 bool unit } `. -/
def datB (i : Nat) : List UInt8 := [100, 97, 116, 97, 32] ++ (nmD i ++ (32 :: 123 :: 32 :: (nmC i ++ [32, 98, 111, 111, 108, 32, 117, 110, 105, 116, 32, 125, 32])))
def decB (i : Nat) (b : Bool) : List UInt8 := if b then effB i else datB i
def decsB : Nat → List Bool → List UInt8
  | _, [] => []
  | i, b :: r => decB i b ++ decsB (i + 1) r
theorem decsB_snoc : ∀ (K : List Bool) (i : Nat) (b : Bool), decsB i (K ++ [b]) = decsB i K ++ decB (i + K.length) b
  | [], i, b => by simp [decsB]
  | c :: r, i, b => by
    rw [List.cons_append]
    unfold decsB
    rw [decsB_snoc r (i + 1) b, List.append_assoc, List.length_cons, show i + 1 + r.length = i + (r.length + 1) by omega]
/-- The numbers of those of one kind. -/
def idxs (k : Bool) : Nat → List Bool → List Nat
  | _, [] => []
  | i, b :: r => if b = k then i :: idxs k (i + 1) r else idxs k (i + 1) r
theorem idxs_snoc (k : Bool) : ∀ (K : List Bool) (i : Nat) (b : Bool), idxs k i (K ++ [b]) = idxs k i K ++ (if b = k then [i + K.length] else [])
  | [], i, b => by simp [idxs]
  | c :: r, i, b => by
    rw [List.cons_append]
    unfold idxs
    rw [idxs_snoc k r (i + 1) b, List.length_cons, show i + 1 + r.length = i + (r.length + 1) by omega]
    split <;> simp
theorem idxs_len (k : Bool) : ∀ (K : List Bool) (i : Nat), (idxs k i K).length ≤ K.length
  | [], _ => Nat.le_refl _
  | b :: r, i => by
    unfold idxs
    have := idxs_len k r (i + 1)
    split <;> simp only [List.length_cons] <;> omega
theorem idxs_lt (k : Bool) : ∀ (K : List Bool) (i : Nat), ∀ x ∈ idxs k i K, x < i + K.length
  | [], _, x, h => by cases h
  | b :: r, i, x, h => by
    have := idxs_lt k r (i + 1) x
    unfold idxs at h
    rw [List.length_cons]
    split at h
    · rcases List.mem_cons.1 h with rfl | h
      · omega
      · have := this h; omega
    · have := this h; omega
set_option maxRecDepth 100000 in
theorem nmD_all : (List.range 61).all (fun i => wordOK 3 (nmD i)) = true := by kernel_rfl
theorem nmD_first (i : Nat) (hi : i < 61) : firstF (nmD i) = some (⟨3, nmD i, 0, 0⟩, (nmD i).length) := wordOK_of (List.all_eq_true.1 nmD_all i (List.mem_range.2 hi))
theorem sk_D (i : Nat) (t : List UInt8) : sk (nmD i ++ t) = 0 := rfl

/-- The words of a declaration, and others behind. -/
def DecW (i : Nat) (b : Bool) (ws tl : List Lx.Tk) : Prop := match b with
  | true => ∃ a b c d e f g h j, ws = ⟨4, tEffect, 0, a⟩ :: ⟨3, nmD i, 0, b⟩ :: ⟨5, tLb, 0, c⟩ :: ⟨2, nmO i, 0, d⟩ :: ⟨5, tColon, 0, e⟩ :: ⟨4, tInt, 0, f⟩ :: ⟨5, tArrow, 0, g⟩ :: ⟨3, nmD i, 0, h⟩ :: ⟨5, tRb, 0, j⟩ :: tl
  | false => ∃ a b c d e f g, ws = ⟨4, tData, 0, a⟩ :: ⟨3, nmD i, 0, b⟩ :: ⟨5, tLb, 0, c⟩ :: ⟨3, nmC i, 0, d⟩ :: ⟨4, tBool, 0, e⟩ :: ⟨4, tUnit, 0, f⟩ :: ⟨5, tRb, 0, g⟩ :: tl
def DecsW : Nat → List Bool → List Lx.Tk → List Lx.Tk → Prop
  | _, [], ws, tl => ws = tl
  | i, b :: r, ws, tl => ∃ x, DecW i b ws x ∧ DecsW (i + 1) r x tl
set_option maxRecDepth 10000 in
theorem lex_dec (i : Nat) (hi : i < 61) (b : Bool) (t : List UInt8) (r : Option Nat) (Q : List Lx.Tk → Prop) (H : ∀ p, ∃ tl, Lexes p t tl r ∧ Q tl) (p : Nat) : ∃ ws tl, Lexes p (decB i b ++ t) ws r ∧ DecW i b ws tl ∧ Q tl := by
  cases b with
  | true =>
    obtain ⟨tl, h1, h2⟩ := H (p + 6 + 1 + (nmD i).length + 1 + 1 + 1 + (nmO i).length + 1 + 1 + 1 + 3 + 1 + 2 + 1 + (nmD i).length + 1 + 1 + 1)
    have e : decB i true ++ t = 101 :: 102 :: 102 :: 101 :: 99 :: 116 :: 32 :: (nmD i ++ (32 :: 123 :: 32 :: (nmO i ++ (32 :: 58 :: 32 :: 105 :: 110 :: 116 :: 32 :: 45 :: 62 :: 32 :: (nmD i ++ (32 :: 125 :: 32 :: t)))))) := by
      show effB i ++ t = _
      unfold effB
      simp
    rw [e]
    exact ⟨_, tl, Lexes.tok (x := ⟨4, tEffect, 0, 0⟩) (m := 6) rfl rfl (.blank (Lexes.word1 (nmD_first i hi) (List.cons_ne_nil _ _) (sk_D i) rfl (.blank (Lexes.tok (x := ⟨5, tLb, 0, 0⟩) (m := 1) rfl rfl (.blank (Lexes.word1 (nmO_first i hi) (List.cons_ne_nil _ _) (sk_O i) rfl
      (.blank (Lexes.tok (x := ⟨5, tColon, 0, 0⟩) (m := 1) rfl rfl (.blank (Lexes.tok (x := ⟨4, tInt, 0, 0⟩) (m := 3) rfl rfl (.blank (Lexes.tok (x := ⟨5, tArrow, 0, 0⟩) (m := 2) rfl rfl (.blank (Lexes.word1 (nmD_first i hi) (List.cons_ne_nil _ _) (sk_D i) rfl
      (.blank (Lexes.tok (x := ⟨5, tRb, 0, 0⟩) (m := 1) rfl rfl (.blank h1))))))))))))))))), ⟨_, _, _, _, _, _, _, _, _, rfl⟩, h2⟩
  | false =>
    obtain ⟨tl, h1, h2⟩ := H (p + 4 + 1 + (nmD i).length + 1 + 1 + 1 + (nmC i).length + 1 + 4 + 1 + 4 + 1 + 1 + 1)
    have e : decB i false ++ t = 100 :: 97 :: 116 :: 97 :: 32 :: (nmD i ++ (32 :: 123 :: 32 :: (nmC i ++ (32 :: 98 :: 111 :: 111 :: 108 :: 32 :: 117 :: 110 :: 105 :: 116 :: 32 :: 125 :: 32 :: t)))) := by
      show datB i ++ t = _
      unfold datB
      simp
    rw [e]
    exact ⟨_, tl, Lexes.tok (x := ⟨4, tData, 0, 0⟩) (m := 4) rfl rfl (.blank (Lexes.word1 (nmD_first i hi) (List.cons_ne_nil _ _) (sk_D i) rfl (.blank (Lexes.tok (x := ⟨5, tLb, 0, 0⟩) (m := 1) rfl rfl (.blank (Lexes.word1 (nmC_first i hi) (List.cons_ne_nil _ _) (sk_C i) rfl
      (.blank (Lexes.tok (x := ⟨4, tBool, 0, 0⟩) (m := 4) rfl rfl (.blank (Lexes.tok (x := ⟨4, tUnit, 0, 0⟩) (m := 4) rfl rfl (.blank (Lexes.tok (x := ⟨5, tRb, 0, 0⟩) (m := 1) rfl rfl (.blank h1))))))))))))), ⟨_, _, _, _, _, _, _, rfl⟩, h2⟩
theorem lex_decs (t : List UInt8) (r : Option Nat) (Q : List Lx.Tk → Prop) (H : ∀ p, ∃ tl, Lexes p t tl r ∧ Q tl) : ∀ (K : List Bool) (i p : Nat), i + K.length ≤ 61 → ∃ ws tl, Lexes p (decsB i K ++ t) ws r ∧ DecsW i K ws tl ∧ Q tl
  | [], i, p, _ => by
    obtain ⟨tl, h1, h2⟩ := H p
    exact ⟨tl, tl, h1, rfl, h2⟩
  | b :: K, i, p, h => by
    rw [List.length_cons] at h
    obtain ⟨ws, x, h1, h2, tl, h3, h4⟩ := lex_dec i (by omega) b (decsB (i + 1) K ++ t) r (fun x => ∃ tl, DecsW (i + 1) K x tl ∧ Q tl) (fun p => by
      obtain ⟨ws, tl, k1, k2, k3⟩ := lex_decs t r Q H K (i + 1) p (by omega)
      exact ⟨ws, k1, tl, k2, k3⟩) p
    unfold decsB
    rw [List.append_assoc]
    exact ⟨ws, tl, h1, ⟨x, h2, h3⟩, h4⟩

theorem DecW.len {i : Nat} {b : Bool} {ws tl : List Lx.Tk} (h : DecW i b ws tl) : tl.length < ws.length := by
  cases b with
  | true => obtain ⟨_, _, _, _, _, _, _, _, _, rfl⟩ := h; simp only [List.length_cons]; omega
  | false => obtain ⟨_, _, _, _, _, _, _, rfl⟩ := h; simp only [List.length_cons]; omega
theorem DecsW.len : ∀ {K : List Bool} {i : Nat} {ws tl : List Lx.Tk}, DecsW i K ws tl → K.length + tl.length ≤ ws.length
  | [], _, _, _, h => by rw [show _ = _ from h, List.length_nil]; omega
  | b :: K, _, _, _, h => by
    obtain ⟨x, h1, h2⟩ := h
    have := DecW.len h1
    have := DecsW.len h2
    rw [List.length_cons]
    omega
namespace Pz
def effT (i : Nat) : Str × List Sig := (nmD i, [⟨nmO i, (1, []), (4, nmD i)⟩])
def datT (i : Nat) : Str × List Con := (nmD i, [(nmC i, [(2, []), (3, [])])])
theorem decls_decs (sz p q : Nat) : ∀ (K : List Bool) (i n : Nat) (es : List (Str × List Sig)) (ds : List (Str × List Con)) (ws : List Lx.Tk), DecsW i K ws [⟨5, tOpen, 0, p⟩, ⟨5, tShut, 0, q⟩] → K.length ≤ n →
    decls sz n es ds ⟨ws, 0, 0, 0⟩ = ((es ++ (idxs true i K).map effT, ds ++ (idxs false i K).map datT), ⟨[⟨5, tOpen, 0, p⟩, ⟨5, tShut, 0, q⟩], 0, 0, 0⟩)
  | [], i, n, es, ds, ws, h, _ => by
    obtain rfl : ws = _ := h
    simp only [idxs, List.map_nil, List.append_nil]
    cases n <;> rfl
  | b :: K, i, n, es, ds, ws, h, hn => by
    rw [List.length_cons] at hn
    obtain ⟨n, rfl⟩ : ∃ g, n = g + 1 := ⟨n - 1, by omega⟩
    obtain ⟨x, h1, h2⟩ := h
    cases b with
    | true =>
      obtain ⟨a1, a2, a3, a4, a5, a6, a7, a8, a9, rfl⟩ := h1
      have ih := decls_decs sz p q K (i + 1) n (es ++ [effT i]) ds x h2 (by omega)
      refine (show decls sz (n + 1) es ds _ = decls sz n (es ++ [effT i]) ds ⟨x, 0, 0, 0⟩ by kernel_rfl).trans (ih.trans ?_)
      simp [idxs]
    | false =>
      obtain ⟨a1, a2, a3, a4, a5, a6, a7, rfl⟩ := h1
      have ih := decls_decs sz p q K (i + 1) n es (ds ++ [datT i]) x h2 (by omega)
      refine (show decls sz (n + 1) es ds _ = decls sz n es (ds ++ [datT i]) ⟨x, 0, 0, 0⟩ by kernel_rfl).trans (ih.trans ?_)
      simp [idxs]
theorem decs_program (sz p q : Nat) (K : List Bool) (ws : List Lx.Tk) (h : DecsW 0 K ws [⟨5, tOpen, 0, p⟩, ⟨5, tShut, 0, q⟩]) :
    program sz ⟨ws, 0, 0, 0⟩ = (⟨(idxs true 0 K).map effT, (idxs false 0 K).map datT, .mk 4 p [] [] 0 [] []⟩, ⟨[], 0, 0, 0⟩) := by
  have hd := decls_decs sz p q K 0 ws.length [] [] ws h (by have := h.len; simp only [List.length_cons] at this; omega)
  unfold program
  dsimp only
  rw [hd]
  dsimp only
  rw [show expr sz (List.length [(⟨5, tOpen, 0, p⟩ : Lx.Tk), ⟨5, tShut, 0, q⟩] + 1) ⟨[⟨5, tOpen, 0, p⟩, ⟨5, tShut, 0, q⟩], 0, 0, 0⟩ = (.mk 4 p [] [] 0 [] [], ⟨[], 0, 0, 0⟩) by kernel_rfl]
  rfl
end Pz
end Go.Proofs.YtboejbnkkhcccaaGreatDoor
