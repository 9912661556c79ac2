/- Plain facts: what is read of a name as the parameter of a function, and as an operation. -/
import Derived.Test.YtboejbnkkhcccaaGreatDoorNm
import Derived.Test.YtboejbnkkhcccaaGreatDoorGoNest
import Derived.Test.YtboejbnkkhcccaaGreatDoorGaPure
import Derived.Test.YtboejbnkkhcccaaGreatDoorGpSides
namespace Go.Proofs.YtboejbnkkhcccaaGreatDoor
open Pz

def kindN (l : List UInt8) : Nat := if Lx.capB l then 3 else if Lx.kwB l then 4 else 2

theorem ins_cases (c : UInt8) (h : Lx.inB Lx.inss c = true) (h2 : Lx.inB Lx.digs c = false) : Lx.inB Lx.lets c = true := by
  simp [Lx.inB, Lx.inss, Lx.digs, Lx.lets] at *
  omega
theorem ins_nosep (c : UInt8) (h : Lx.inB Lx.inss c = true) : sepB c = false := by
  cases hs : sepB c with
  | false => rfl
  | true => rw [ins_sep c hs] at h; cases h
theorem sk_ins {c : UInt8} {r : List UInt8} (h : Lx.inB Lx.inss c = true) : sk (c :: r) = 0 := by
  have := ins_nosep c h
  simp [sepB] at this
  unfold sk
  exact skip_else c r (by omega) (by omega)
theorem kindN_cases (l : List UInt8) : kindN l = 2 ∨ kindN l = 3 ∨ kindN l = 4 := by
  unfold kindN
  split
  · exact .inr (.inl rfl)
  · split
    · exact .inr (.inr rfl)
    · exact .inl rfl
/-- A name, and a blank behind it. -/
theorem name_first (L t : List UInt8) (h : nameB L = true) : firstF (L ++ 32 :: t) = if 60 < L.length then none else some (⟨kindN L, L, 0, 0⟩, L.length) := by
  match L, h with
  | c :: r, h =>
    simp only [nameB, Bool.and_eq_true, Bool.not_eq_true'] at h
    obtain ⟨hd, hi⟩ := h
    have hi2 : ∀ x ∈ c :: r, Lx.inB Lx.inss x = true := fun x hx => List.all_eq_true.1 hi x hx
    have hlet := ins_cases c (hi2 c (by simp)) hd
    have hn : insN (c :: r ++ 32 :: t) = (c :: r).length := span_all _ (32 :: t) (fun x u e => by injection e with e1; subst e1; rfl) (c :: r) hi2
    have hb0 : begF 0 (c :: r ++ 32 :: t) = false := hd
    have hb1 : begF 1 (c :: r ++ 32 :: t) = true := hlet
    rw [firstF_hit _ 1 (by decide) (fun j hj => by obtain rfl : j = 0 := by omega
                                                   exact hb0) hb1]
    show Lx.nameF (c :: r ++ 32 :: t) (insN (c :: r ++ 32 :: t)) = _
    rw [hn]
    unfold Lx.nameF
    rw [List.take_left, List.drop_left]
    unfold kindN
    rw [show Lx.capB (c :: r ++ 32 :: t) = Lx.capB (c :: r) from rfl, show Lx.preB [33] (32 :: t) = false from rfl]
    by_cases h6 : 60 < (c :: r).length
    · rw [if_pos h6, if_pos h6]
    · rw [if_neg h6, if_neg h6]
      cases Lx.capB (c :: r) <;> cases Lx.kwB (c :: r) <;> rfl
/-- A digit ahead: a number, or nothing. -/
theorem digit_first (c : UInt8) (r t : List UInt8) (hd : Lx.inB Lx.digs c = true) : firstF (c :: r ++ 32 :: t) = none ∨ ∃ x m, firstF (c :: r ++ 32 :: t) = some (x, m) ∧ x.k = 1 := by
  have hb0 : begF 0 (c :: r ++ 32 :: t) = true := hd
  rw [firstF_hit _ 0 (by decide) (fun j hj => by omega) hb0]
  show Lx.numF (c :: r ++ 32 :: t) (digN (c :: r ++ 32 :: t)) = none ∨ ∃ x m, Lx.numF (c :: r ++ 32 :: t) (digN (c :: r ++ 32 :: t)) = some (x, m) ∧ x.k = 1
  generalize digN (c :: r ++ 32 :: t) = n
  unfold Lx.numF
  by_cases hv : Lx.valN ((c :: r ++ 32 :: t).take n) < 9223372036854775808
  · exact .inr ⟨⟨1, _, _, 0⟩, _, if_pos hv, rfl⟩
  · exact .inl (if_neg hv)
/-- What is no small name. -/
theorem bad_first {L : List UInt8} (t : List UInt8) (hi : insAll L = true) (h0 : L ≠ []) (hs : smallB L = false) :
    firstF (L ++ 32 :: t) = none ∨ ∃ x m, firstF (L ++ 32 :: t) = some (x, m) ∧ (x.k = 1 ∨ x.k = 3 ∨ (x.k = 4 ∧ x.t = L)) := by
  cases hn : nameB L with
  | true =>
    rw [name_first L t hn]
    by_cases h6 : 60 < L.length
    · exact .inl (if_pos h6)
    · rw [if_neg h6]
      refine .inr ⟨_, _, rfl, .inr ?_⟩
      unfold smallB at hs
      rw [hn, decide_eq_true (by omega)] at hs
      dsimp only
      unfold kindN
      cases hc : Lx.capB L with
      | true => exact .inl rfl
      | false =>
        cases hk : Lx.kwB L with
        | true => exact .inr ⟨rfl, rfl⟩
        | false => rw [hc, hk] at hs; cases hs
  | false =>
    match L, h0 with
    | c :: r, _ =>
      have hd : Lx.inB Lx.digs c = true := by
        simp only [nameB, hi] at hn
        simpa using hn
      rcases digit_first c r t hd with h | ⟨x, m, h, hx⟩
      · exact .inl h
      · exact .inr ⟨x, m, h, .inl hx⟩

theorem Lexes.ex : ∀ (n : Nat) (l : List UInt8) (p : Nat), l.length ≤ n → ∃ ws r, Lexes p l ws r
  | n, l, p, h => by
    by_cases h0 : l.drop (sk l) = []
    · exact ⟨_, _, .done p l h0⟩
    · rcases res_cases (firstF (l.drop (sk l))) with ho | ⟨x, m, ho⟩
      · exact ⟨_, _, .err p l h0 ho⟩
      · have hb := firstF_bound ho
        simp only [List.length_drop] at hb
        match n, h with
        | 0, h => omega
        | n + 1, h =>
          obtain ⟨ws, r, hr⟩ := Lexes.ex n (l.drop (sk l + m)) (p + sk l + m) (by rw [List.length_drop]; omega)
          exact ⟨_, _, .word p l x m ws r ho hr⟩
theorem insAll_head {L : List UInt8} (hi : insAll L = true) (h0 : L ≠ []) (t : List UInt8) : sk (L ++ 32 :: t) = 0 := by
  match L, h0 with
  | c :: r, _ => exact sk_ins (List.all_eq_true.1 hi c (by simp))
/-- The words from such a name on. -/
theorem Lexes.bad {L : List UInt8} (t : List UInt8) (p : Nat) (hi : insAll L = true) (h0 : L ≠ []) (hs : smallB L = false) :
    (∃ ws q, Lexes p (L ++ 32 :: t) ws (some q)) ∨ ∃ x ws, Lexes p (L ++ 32 :: t) (x :: ws) none ∧ (x.k = 1 ∨ x.k = 3 ∨ (x.k = 4 ∧ x.t = L)) := by
  have hsk := insAll_head hi h0 t
  rcases bad_first t hi h0 hs with h | ⟨x, m, h, hx⟩
  · refine .inl ⟨_, _, .err p _ ?_ (by rw [hsk]; exact h)⟩
    rw [hsk]
    cases L <;> simp
  · obtain ⟨ws, r, hr⟩ := Lexes.ex _ ((L ++ 32 :: t).drop m) (p + m) (Nat.le_refl _)
    have := Lexes.tok hsk h hr
    match r, this with
    | some q, this => exact .inl ⟨_, _, this⟩
    | none, this => exact .inr ⟨_, _, this, hx⟩
theorem Lexes.good {L : List UInt8} {t : List UInt8} {p : Nat} {ws : List Lx.Tk} {r : Option Nat} (hs : smallB L = true) (h : Lexes (p + L.length) (32 :: t) ws r) : Lexes p (L ++ 32 :: t) (⟨2, L, 0, p⟩ :: ws) r := by
  unfold smallB at hs
  simp only [Bool.and_eq_true, Bool.not_eq_true', decide_eq_true_eq] at hs
  obtain ⟨⟨⟨hn, hc⟩, hl⟩, hk⟩ := hs
  have h0 : L ≠ [] := by intro e; rw [e] at hn; cases hn
  have hi : insAll L = true := by
    match L, h0 with
    | c :: r, _ =>
      simp only [nameB, Bool.and_eq_true] at hn
      exact hn.2
  have hf : firstF (L ++ 32 :: t) = some (⟨2, L, 0, 0⟩, L.length) := by
    rw [name_first L t hn, if_neg (by omega)]
    unfold kindN
    rw [hc, hk]
    rfl
  exact Lexes.tok (insAll_head hi h0 t) hf (by rw [List.drop_left]; exact h)

/-- `fun`, a blank, a text, ` -> 0`. -/
def nmA (L : List UInt8) : List UInt8 := [102, 117, 110, 32] ++ (L ++ [32, 45, 62, 32, 48])
/-- `effect E {`, a blank, a text, ` : int -> E } 0`. -/
def nmB (L : List UInt8) : List UInt8 := [101, 102, 102, 101, 99, 116, 32, 69, 32, 123, 32] ++ (L ++ [32, 58, 32, 105, 110, 116, 32, 45, 62, 32, 69, 32, 125, 32, 48])
set_option maxRecDepth 10000 in
theorem lex_nmA {L : List UInt8} {ws : List Lx.Tk} {r : Option Nat} (h : Lexes 4 (L ++ [32, 45, 62, 32, 48]) ws r) : Lexes 0 (nmA L) (⟨4, tFun, 0, 0⟩ :: ws) r :=
  Lexes.tok (l := nmA L) (x := ⟨4, tFun, 0, 0⟩) (m := 3) rfl rfl (.blank h)
set_option maxRecDepth 10000 in
theorem lex_nmB {L : List UInt8} {ws : List Lx.Tk} {r : Option Nat} (h : Lexes 11 (L ++ [32, 58, 32, 105, 110, 116, 32, 45, 62, 32, 69, 32, 125, 32, 48]) ws r) :
    Lexes 0 (nmB L) (⟨4, tEffect, 0, 0⟩ :: ⟨3, [69], 0, 7⟩ :: ⟨5, tLb, 0, 9⟩ :: ws) r :=
  Lexes.tok (l := nmB L) (x := ⟨4, tEffect, 0, 0⟩) (m := 6) rfl rfl (.blank (Lexes.tok (x := ⟨3, [69], 0, 0⟩) (m := 1) rfl rfl (.blank (Lexes.tok (x := ⟨5, tLb, 0, 0⟩) (m := 1) rfl rfl (.blank h)))))
set_option maxRecDepth 10000 in
theorem lex_tailA (p : Nat) : Lexes p [32, 45, 62, 32, 48] [⟨5, tArrow, 0, p + 1⟩, ⟨1, [48], 0, p + 1 + 2 + 1⟩] none :=
  .blank (Lexes.tok (x := ⟨5, tArrow, 0, 0⟩) (m := 2) rfl rfl (.blank (Lexes.tok (x := ⟨1, [48], 0, 0⟩) (m := 1) rfl rfl (.done _ _ rfl))))
set_option maxRecDepth 10000 in
theorem lex_tailB (p : Nat) : Lexes p [32, 58, 32, 105, 110, 116, 32, 45, 62, 32, 69, 32, 125, 32, 48]
    [⟨5, tColon, 0, p + 1⟩, ⟨4, tInt, 0, p + 1 + 1 + 1⟩, ⟨5, tArrow, 0, p + 1 + 1 + 1 + 3 + 1⟩, ⟨3, [69], 0, p + 1 + 1 + 1 + 3 + 1 + 2 + 1⟩, ⟨5, tRb, 0, p + 1 + 1 + 1 + 3 + 1 + 2 + 1 + 1 + 1⟩, ⟨1, [48], 0, p + 1 + 1 + 1 + 3 + 1 + 2 + 1 + 1 + 1 + 1 + 1⟩] none :=
  .blank (Lexes.tok (x := ⟨5, tColon, 0, 0⟩) (m := 1) rfl rfl (.blank (Lexes.tok (x := ⟨4, tInt, 0, 0⟩) (m := 3) rfl rfl (.blank (Lexes.tok (x := ⟨5, tArrow, 0, 0⟩) (m := 2) rfl rfl (.blank
    (Lexes.tok (x := ⟨3, [69], 0, 0⟩) (m := 1) rfl rfl (.blank (Lexes.tok (x := ⟨5, tRb, 0, 0⟩) (m := 1) rfl rfl (.blank (Lexes.tok (x := ⟨1, [48], 0, 0⟩) (m := 1) rfl rfl (.done _ _ rfl))))))))))))

namespace Pz
/-- Once wrong, a program is wrong. -/
theorem bad_body {sz : Nat} {es : List (Str × List Sig)} {ds : List (Str × List Con)} {ws : List Lx.Tk} {s1 : St} (hd : decls sz ws.length [] [] ⟨ws, 0, 0, 0⟩ = ((es, ds), s1))
    (he : (expr sz (s1.ws.length + 1) s1).2.er ≠ 0) : (program sz ⟨ws, 0, 0, 0⟩).2.er ≠ 0 := by
  unfold program
  dsimp only
  rw [hd]
  dsimp only
  split
  · exact fail_bad _ _ _ (by decide)
  · exact he
theorem prog_nmA_bad (sz : Nat) (x : Lx.Tk) (ws : List Lx.Tk) (h : x.k = 1 ∨ x.k = 3 ∨ x.k = 4) : (program sz ⟨⟨4, tFun, 0, 0⟩ :: x :: ws, 0, 0, 0⟩).2.er ≠ 0 := by
  refine bad_body (es := []) (ds := []) (s1 := ⟨⟨4, tFun, 0, 0⟩ :: x :: ws, 0, 0, 0⟩) rfl ?_
  show (exprStep sz (expr sz _) _).2.er ≠ 0
  rw [step_ok (by show 0 ≤ 200; omega)]
  dsimp only
  have hn : isOf [2] ⟨x :: ws, 0 + 1, 0, 0⟩ = false := by
    unfold isOf
    rcases h with h | h | h <;> simp [h]
  unfold exprHere
  rw [show isT [tFun] ⟨⟨4, tFun, 0, 0⟩ :: x :: ws, 0 + 1, 0, 0⟩ = true from rfl]
  dsimp only
  rw [if_pos rfl]
  refine (cg_behind (cg_expr sz sz _) [tArrow]).bad _ ?_
  show (name sz [2] ⟨x :: ws, 0 + 1, 0, 0⟩).2.er ≠ 0
  unfold name
  rw [hn]
  exact fail_bad _ _ _ (by decide)
theorem prog_nmB_bad (sz : Nat) (p q : Nat) (x : Lx.Tk) (ws : List Lx.Tk) (h : x.k = 1 ∨ x.k = 3 ∨ (x.k = 4 ∧ x.t ≠ tRb)) : (program sz ⟨⟨4, tEffect, 0, 0⟩ :: ⟨3, [69], 0, p⟩ :: ⟨5, tLb, 0, q⟩ :: x :: ws, 0, 0, 0⟩).2.er ≠ 0 := by
  have hn : isOf [2] ⟨x :: ws, 0, 0, 0⟩ = false := by
    unfold isOf
    rcases h with h | h | ⟨h, _⟩ <;> simp [h]
  have hr : isT [tRb] ⟨x :: ws, 0, 0, 0⟩ = false := by
    unfold isT
    rcases h with h | h | ⟨h, h2⟩ <;> simp [h]
    exact h2
  have hitem : (sig sz ⟨x :: ws, 0, 0, 0⟩).2.er ≠ 0 := by
    have hnm : (name sz [2] ⟨x :: ws, 0, 0, 0⟩).2.er ≠ 0 := by
      unfold name
      rw [hn]
      exact fail_bad _ _ _ (by decide)
    exact ((((cu_must1 (sz := sz) (sz' := sz) tColon).then (cg_mustType (sz := sz) (sz' := sz)).snd).then (cu_must1 (sz := sz) (sz' := sz) tArrow)).then (cg_mustType (sz := sz) (sz' := sz)).snd).bad _ hnm
  have hlist : (list sz (sig sz) tLb tSemi tRb ⟨⟨5, tLb, 0, q⟩ :: x :: ws, 0, 0, 0⟩).2.er ≠ 0 := by
    unfold list
    rw [show must1 sz tLb ⟨⟨5, tLb, 0, q⟩ :: x :: ws, 0, 0, 0⟩ = ⟨x :: ws, 0, 0, 0⟩ from rfl]
    dsimp only
    rw [hr, if_neg (by decide)]
    exact must1_bad _ _ _ (bad_more (fun s => (cg_sig (sz := sz) (sz' := sz)).bad s) _ _ _ hitem)
  have hd : (decls sz (ws.length + 1 + 1 + 1 + 1) [] [] ⟨⟨4, tEffect, 0, 0⟩ :: ⟨3, [69], 0, p⟩ :: ⟨5, tLb, 0, q⟩ :: x :: ws, 0, 0, 0⟩).2.er ≠ 0 := by
    unfold decls
    rw [show isT [tEffect, tData] ⟨⟨4, tEffect, 0, 0⟩ :: ⟨3, [69], 0, p⟩ :: ⟨5, tLb, 0, q⟩ :: x :: ws, 0, 0, 0⟩ = true from rfl, show isT [tEffect] ⟨⟨4, tEffect, 0, 0⟩ :: ⟨3, [69], 0, p⟩ :: ⟨5, tLb, 0, q⟩ :: x :: ws, 0, 0, 0⟩ = true from rfl, if_pos rfl, if_pos rfl]
    exact bad_decls (sz := sz) _ _ _ _ hlist
  obtain ⟨⟨⟨es, ds⟩, s1⟩, hD⟩ : ∃ D, D = decls sz (ws.length + 1 + 1 + 1 + 1) [] [] ⟨⟨4, tEffect, 0, 0⟩ :: ⟨3, [69], 0, p⟩ :: ⟨5, tLb, 0, q⟩ :: x :: ws, 0, 0, 0⟩ := ⟨_, rfl⟩
  rw [← hD] at hd
  exact bad_body hD.symm ((cg_expr sz sz _).bad _ hd)
theorem prog_nmA (sz : Nat) (L : List UInt8) (p q r : Nat) : program sz ⟨[⟨4, tFun, 0, 0⟩, ⟨2, L, 0, p⟩, ⟨5, tArrow, 0, q⟩, ⟨1, [48], 0, r⟩], 0, 0, 0⟩ = (⟨[], [], .mk 5 0 L [] 0 [.mk 2 r [] [] 0 [] []] []⟩, ⟨[], 0, 0, 0⟩) := by kernel_rfl
theorem prog_nmB (sz : Nat) (L : List UInt8) (a b c d e f g h i : Nat) :
    program sz ⟨[⟨4, tEffect, 0, 0⟩, ⟨3, [69], 0, a⟩, ⟨5, tLb, 0, b⟩, ⟨2, L, 0, c⟩, ⟨5, tColon, 0, d⟩, ⟨4, tInt, 0, e⟩, ⟨5, tArrow, 0, f⟩, ⟨3, [69], 0, g⟩, ⟨5, tRb, 0, h⟩, ⟨1, [48], 0, i⟩], 0, 0, 0⟩ =
      (⟨[([69], [⟨L, (1, []), (4, [69])⟩])], [], .mk 2 i [] [] 0 [] []⟩, ⟨[], 0, 0, 0⟩) := by kernel_rfl
end Pz
end Go.Proofs.YtboejbnkkhcccaaGreatDoor
