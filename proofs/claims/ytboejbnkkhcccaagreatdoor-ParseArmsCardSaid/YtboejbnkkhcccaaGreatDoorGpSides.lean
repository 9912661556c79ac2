/- Plain facts: a number's text is read as that number. -/
import Derived.Test.YtboejbnkkhcccaaGreatDoorGoNest
namespace Go.Proofs.YtboejbnkkhcccaaGreatDoor
open Pz

theorem dig_byte (n : Nat) : (UInt8.ofNat (48 + n % 10)).toNat = 48 + n % 10 := by
  have := Nat.mod_lt n (show 0 < 10 by decide)
  simp
  omega
theorem dgF_dig : ∀ (f n : Nat), ∀ c ∈ dgF f n, 48 ≤ c.toNat ∧ c.toNat ≤ 57
  | 0, n, c, h => by cases h
  | f + 1, n, c, h => by
    unfold dgF at h
    rw [List.mem_append, List.mem_singleton] at h
    rcases h with h | rfl
    · split at h
      · exact dgF_dig f (n / 10) c h
      · cases h
    · have := Nat.mod_lt n (show 0 < 10 by decide)
      rw [dig_byte]
      omega
theorem dgF_pos (f n : Nat) : 0 < (dgF (f + 1) n).length := by
  unfold dgF
  rw [List.length_append, List.length_singleton]
  omega
theorem valN_snoc (l : List UInt8) (c : UInt8) : Lx.valN (l ++ [c]) = Lx.valN l * 10 + (c.toNat - 48) := by
  unfold Lx.valN
  rw [List.foldl_append]
  rfl
theorem valN_dg : ∀ (f n : Nat), n < 10 ^ f → Lx.valN (dgF f n) = n
  | 0, n, h => by rw [Nat.pow_zero] at h; show 0 = n; omega
  | f + 1, n, h => by
    unfold dgF
    rw [valN_snoc, dig_byte]
    split
    · rw [valN_dg f (n / 10) (by rw [Nat.pow_succ] at h; omega)]
      omega
    · show 0 * 10 + (48 + n % 10 - 48) = n
      omega
theorem in_digs (c : UInt8) : Lx.inB Lx.digs c = true ↔ 48 ≤ c.toNat ∧ c.toNat ≤ 57 := by
  simp [Lx.inB, Lx.digs]
theorem span_all (p : UInt8 → Bool) (t : List UInt8) (ht : ∀ c r, t = c :: r → p c = false) : ∀ (l : List UInt8), (∀ c ∈ l, p c = true) → Lx.spanN p (l ++ t) = l.length
  | [], _ => by
    match t, ht with
    | [], _ => rfl
    | c :: r, ht => show Lx.spanN p (c :: r) = 0; unfold Lx.spanN; rw [ht c r rfl]; rfl
  | c :: l, h => by
    show Lx.spanN p (c :: (l ++ t)) = _
    unfold Lx.spanN
    rw [h c (by simp), span_all p t ht l (fun x hx => h x (by simp [hx]))]
    rfl
/-- A number, and no digit behind it. -/
theorem num_first (n : Nat) (hn : n < 100000) (t : List UInt8) (ht : ∀ c r, t = c :: r → Lx.inB Lx.digs c = false) : firstF (dgF 5 n ++ t) = some (⟨1, dgF 5 n, n, 0⟩, (dgF 5 n).length) := by
  have hd := dgF_dig 5 n
  have hp := dgF_pos 4 n
  have hv := valN_dg 5 n (by show n < 100000; exact hn)
  generalize dgF 5 n = L at *
  have hs : digN (L ++ t) = L.length := span_all _ t ht L (fun c hc => (in_digs c).2 (hd c hc))
  have hb : begF 0 (L ++ t) = true := by
    match L, hp with
    | c :: r, _ => exact (in_digs c).2 (hd c (by simp))
  have hf : (List.range 18).find? (fun k => begF k (L ++ t)) = some 0 := by
    exact List.find?_cons_of_pos (p := fun k => begF k (L ++ t)) (a := 0) (l := List.range' 1 17) hb
  unfold firstF
  rw [hf]
  show Lx.numF (L ++ t) (digN (L ++ t)) = _
  rw [hs]
  unfold Lx.numF
  rw [List.take_left, hv, if_pos (by omega)]
end Go.Proofs.YtboejbnkkhcccaaGreatDoor

/- Plain facts: a row of numbers and signs is read by the signs' weights, the left one first. -/
namespace Go.Proofs.YtboejbnkkhcccaaGreatDoor
open Pz

/-- The signs + - * by number. -/
def sgB : Nat → List UInt8
  | 0 => tPlus
  | 1 => tMinus
  | _ => tStar
theorem digit_cases (d : UInt8) (h1 : 48 ≤ d.toNat) (h2 : d.toNat ≤ 57) : d = 48 ∨ d = 49 ∨ d = 50 ∨ d = 51 ∨ d = 52 ∨ d = 53 ∨ d = 54 ∨ d = 55 ∨ d = 56 ∨ d = 57 := by
  have h : ∀ n : Nat, n < 256 → d.toNat = n → d = UInt8.ofNat n := fun n _ e => by rw [← e]; simp
  have h3 : d.toNat = 48 ∨ d.toNat = 49 ∨ d.toNat = 50 ∨ d.toNat = 51 ∨ d.toNat = 52 ∨ d.toNat = 53 ∨ d.toNat = 54 ∨ d.toNat = 55 ∨ d.toNat = 56 ∨ d.toNat = 57 := by omega
  rcases h3 with e | e | e | e | e | e | e | e | e | e
  · exact .inl (h _ (by decide) e)
  · exact .inr (.inl (h _ (by decide) e))
  · exact .inr (.inr (.inl (h _ (by decide) e)))
  · exact .inr (.inr (.inr (.inl (h _ (by decide) e))))
  · exact .inr (.inr (.inr (.inr (.inl (h _ (by decide) e)))))
  · exact .inr (.inr (.inr (.inr (.inr (.inl (h _ (by decide) e))))))
  · exact .inr (.inr (.inr (.inr (.inr (.inr (.inl (h _ (by decide) e)))))))
  · exact .inr (.inr (.inr (.inr (.inr (.inr (.inr (.inl (h _ (by decide) e))))))))
  · exact .inr (.inr (.inr (.inr (.inr (.inr (.inr (.inr (.inl (h _ (by decide) e)))))))))
  · exact .inr (.inr (.inr (.inr (.inr (.inr (.inr (.inr (.inr (h _ (by decide) e)))))))))
set_option maxRecDepth 10000 in
theorem sign_first (g : Nat) (hg : g ≤ 2) (L t : List UInt8) (h0 : 0 < L.length) (hd : ∀ c ∈ L, 48 ≤ c.toNat ∧ c.toNat ≤ 57) : firstF (sgB g ++ (L ++ t)) = some (⟨5, sgB g, 0, 0⟩, (sgB g).length) := by
  match L, h0 with
  | d :: r, _ =>
    obtain ⟨h1, h2⟩ := hd d (by simp)
    match g, hg with
    | 0, _ => rfl
    | 1, _ => rcases digit_cases d h1 h2 with rfl | rfl | rfl | rfl | rfl | rfl | rfl | rfl | rfl | rfl <;> rfl
    | 2, _ => rfl
theorem sk_sign (g : Nat) (t : List UInt8) : sk (sgB g ++ t) = 0 := by
  unfold sgB
  split <;> rfl
theorem sk_digit (L t : List UInt8) (h0 : 0 < L.length) (hd : ∀ c ∈ L, 48 ≤ c.toNat ∧ c.toNat ≤ 57) : sk (L ++ t) = 0 := by
  match L, h0 with
  | d :: r, _ =>
    obtain ⟨h1, h2⟩ := hd d (by simp)
    rcases digit_cases d h1 h2 with rfl | rfl | rfl | rfl | rfl | rfl | rfl | rfl | rfl | rfl <;> rfl
def sidesB (ps : List (Nat × Nat)) : List UInt8 := ps.flatMap fun x => sgB x.1 ++ dgF 5 x.2
theorem sidesB_cons (x : Nat × Nat) (ps : List (Nat × Nat)) : sidesB (x :: ps) = sgB x.1 ++ (dgF 5 x.2 ++ sidesB ps) := by
  unfold sidesB
  rw [List.flatMap_cons, List.append_assoc]
theorem sidesB_snoc (ps : List (Nat × Nat)) (x : Nat × Nat) : sidesB (ps ++ [x]) = sidesB ps ++ sgB x.1 ++ dgF 5 x.2 := by
  unfold sidesB
  rw [List.flatMap_append, List.append_assoc]
  simp
theorem sidesB_head (ps : List (Nat × Nat)) : ∀ c r, sidesB ps = c :: r → Lx.inB Lx.digs c = false := by
  intro c r h
  match ps with
  | [] => cases h
  | (g, v) :: ps =>
    rw [sidesB_cons] at h
    match g with
    | 0 => injection h with h1; rw [← h1]; rfl
    | 1 => injection h with h1; rw [← h1]; rfl
    | g + 2 => injection h with h1; rw [← h1]; rfl

/-- The words of signs and numbers. -/
def Sw : List (Nat × Nat) → List Lx.Tk → Prop
  | [], ws => ws = []
  | x :: ps, ws => ∃ p q r, ws = ⟨5, sgB x.1, 0, p⟩ :: ⟨1, dgF 5 x.2, x.2, q⟩ :: r ∧ Sw ps r
theorem lex_sides : ∀ (ps : List (Nat × Nat)) (p : Nat), (∀ x ∈ ps, x.1 ≤ 2 ∧ x.2 < 100000) → ∃ ws, Lexes p (sidesB ps) ws none ∧ Sw ps ws
  | [], p, _ => ⟨[], .done _ _ rfl, rfl⟩
  | x :: ps, p, h => by
    obtain ⟨hg, hv⟩ := h x (by simp)
    obtain ⟨ws, h1, h2⟩ := lex_sides ps (p + (sgB x.1).length + (dgF 5 x.2).length) (fun y hy => h y (by simp [hy]))
    have hd := dgF_dig 5 x.2
    have hp := dgF_pos 4 x.2
    rw [sidesB_cons]
    have h3 := Lexes.tok (p := p + (sgB x.1).length) (x := ⟨1, dgF 5 x.2, x.2, 0⟩) (sk_digit _ _ hp hd) (num_first x.2 hv _ (sidesB_head ps)) (by rw [List.drop_left]; exact h1)
    exact ⟨_, Lexes.tok (sk_sign _ _) (sign_first x.1 hg _ _ hp hd) (by rw [List.drop_left]; exact h3), ⟨_, _, _, rfl, h2⟩⟩
theorem lex_line (v : Nat) (ps : List (Nat × Nat)) (hv : v < 100000) (h : ∀ x ∈ ps, x.1 ≤ 2 ∧ x.2 < 100000) : ∃ q ws, Lexes 0 (dgF 5 v ++ sidesB ps) (⟨1, dgF 5 v, v, q⟩ :: ws) none ∧ Sw ps ws := by
  obtain ⟨ws, h1, h2⟩ := lex_sides ps (0 + (dgF 5 v).length) h
  exact ⟨_, ws, Lexes.tok (x := ⟨1, dgF 5 v, v, 0⟩) (sk_digit _ _ (dgF_pos 4 v) (dgF_dig 5 v)) (num_first v hv _ (sidesB_head ps)) (by rw [List.drop_left]; exact h1), h2⟩
end Go.Proofs.YtboejbnkkhcccaaGreatDoor

/- Plain facts: what a row of numbers and signs is worth. -/
namespace Go.Proofs.YtboejbnkkhcccaaGreatDoor
open Pz

def combS (s p : Int) (m : Bool) : Int := if m then (s - p + 1000003) % 1000003 else (s + p) % 1000003
/-- What is worked out step by step: the sum so far, the product so far, is it to be taken off. -/
def finS : Int → Int → Bool → List (Nat × Nat) → Int
  | s, p, m, [] => combS s p m
  | s, p, m, x :: ps => if x.1 = 2 then finS s (p * (x.2 : Int) % 1000003) m ps else finS (combS s p m) x.2 (x.1 == 1) ps
def opS (g : Nat) (x y : Int) : Int := if g = 2 then x * y % 1000003 else combS x y (g == 1)
theorem combS_range (s p : Int) (m : Bool) : 0 ≤ combS s p m ∧ combS s p m < 1000003 := by
  unfold combS
  split <;> exact ⟨Int.emod_nonneg _ (by decide), Int.emod_lt_of_pos _ (by decide)⟩
theorem opS_range (g : Nat) (s p : Int) : 0 ≤ opS g s p ∧ opS g s p < 1000003 := by
  unfold opS
  split
  · exact ⟨Int.emod_nonneg _ (by decide), Int.emod_lt_of_pos _ (by decide)⟩
  · exact combS_range _ _ _

namespace Pz
/-- What a term of numbers and signs is worth. -/
inductive Va : Tm → Int → Prop
  | int (p n : Nat) (hn : n < 1000003) : Va (.mk 2 p [] [] n [] []) n
  | op (g p : Nat) (a b : Tm) (x y : Int) (hg : g ≤ 2) (ha : Va a x) (hb : Va b y) : Va (.mk 10 p (sgB g) [] 0 [a, b] []) (opS g x y)
theorem Va.range {t : Tm} {x : Int} (h : Va t x) : 0 ≤ x ∧ x < 1000003 := by
  cases h with
  | int p n hn => omega
  | op => exact opS_range _ _ _

/-- The next sign is none that multiplies. -/
def NoStar : List (Nat × Nat) → Prop
  | [] => True
  | x :: _ => x.1 ≠ 2
theorem sw_sign {sz : Nat} {ex : St → Tm × St} {ps : List (Nat × Nat)} {r : List Lx.Tk} (h : Sw ps r) (hp : ∀ x ∈ ps, x.1 ≤ 2 ∧ x.2 < 100000) (wi at_ er : Nat) : atom sz ex ⟨r, wi, at_, er⟩ = (none, ⟨r, wi, at_, er⟩) := by
  match ps, h with
  | [], h => rw [show r = [] from h]; exact (cl_nil rfl : Cl ⟨[], wi, at_, er⟩).atom
  | x :: ps, h =>
    obtain ⟨p, q, r', rfl, _⟩ := h
    have hg := (hp x (by simp)).1
    obtain ⟨g, v⟩ := x
    match g, hg with
    | 0, _ => rfl
    | 1, _ => rfl
    | 2, _ => rfl
theorem unary_int {sz : Nat} {ex : St → Tm × St} {ps : List (Nat × Nat)} {r : List Lx.Tk} (h : Sw ps r) (hp : ∀ x ∈ ps, x.1 ≤ 2 ∧ x.2 < 100000) (t : List UInt8) (v p wi at_ : Nat) :
    unary sz ex ⟨⟨1, t, v, p⟩ :: r, wi, at_, 0⟩ = (.mk 2 p [] [] v [] [], ⟨r, wi, at_, 0⟩) := by
  refine unary_none rfl ?_
  unfold app
  rw [show atom sz ex ⟨⟨1, t, v, p⟩ :: r, wi, at_, 0⟩ = (some (.mk 2 p [] [] v [] []), ⟨r, wi, at_, 0⟩) from rfl]
  dsimp only
  unfold appMore
  rw [sw_sign h hp]

theorem prod_more (sz : Nat) (ex : St → Tm × St) (wi at_ : Nat) : ∀ (ps : List (Nat × Nat)) (n : Nat) (l : Tm) (x : Int) (r : List Lx.Tk), (∀ x ∈ ps, x.1 ≤ 2 ∧ x.2 < 100000) → Sw ps r → r.length ≤ n → Va l x →
    ∃ l' x' ps' r', oftenMore (unary sz ex) [tStar, tSlash] n l ⟨r, wi, at_, 0⟩ = (l', ⟨r', wi, at_, 0⟩) ∧ Va l' x' ∧ Sw ps' r' ∧ NoStar ps' ∧ r'.length ≤ r.length ∧ (∀ x ∈ ps', x.1 ≤ 2 ∧ x.2 < 100000) ∧ ∀ s m, finS s x m ps = finS s x' m ps'
  | [], n, l, x, r, hp, h, hn, hv => by
    have hr : r = [] := h
    subst hr
    refine ⟨l, x, [], [], ?_, hv, rfl, trivial, Nat.le_refl _, hp, fun _ _ => rfl⟩
    cases n <;> rfl
  | (g, v) :: ps, n, l, x, r, hp, h, hn, hv => by
    obtain ⟨p, q, r0, rfl, h0⟩ := h
    obtain ⟨hg, hv1⟩ := hp (g, v) (by simp)
    have hp0 : ∀ x ∈ ps, x.1 ≤ 2 ∧ x.2 < 100000 := fun y hy => hp y (by simp [hy])
    dsimp only at hg hv1
    by_cases h2 : g = 2
    · subst h2
      obtain ⟨n, rfl⟩ : ∃ k, n = k + 1 := ⟨n - 1, by simp only [List.length_cons] at hn; omega⟩
      have hb : both (unary sz ex) l ⟨⟨5, sgB 2, 0, p⟩ :: ⟨1, dgF 5 v, v, q⟩ :: r0, wi, at_, 0⟩ = (.mk 10 l.pos (sgB 2) [] 0 [l, .mk 2 q [] [] v [] []] [], ⟨r0, wi, at_, 0⟩) := by
        show (Tm.mk 10 l.pos (sgB 2) [] 0 [l, (unary sz ex ⟨⟨1, dgF 5 v, v, q⟩ :: r0, wi, at_, 0⟩).1] [], (unary sz ex ⟨⟨1, dgF 5 v, v, q⟩ :: r0, wi, at_, 0⟩).2) = _
        rw [unary_int h0 hp0]
      obtain ⟨l', x', ps', r', e, e1, e2, e3, e4, e5, e6⟩ := prod_more sz ex wi at_ ps n _ _ r0 hp0 h0 (by simp only [List.length_cons] at hn; omega) (Va.op 2 l.pos l _ x _ (by omega) hv (Va.int q v (by omega)))
      refine ⟨l', x', ps', r', ?_, e1, e2, e3, by simp only [List.length_cons]; omega, e5, fun s m => ?_⟩
      · show (if isT [tStar, tSlash] ⟨⟨5, sgB 2, 0, p⟩ :: ⟨1, dgF 5 v, v, q⟩ :: r0, wi, at_, 0⟩ then oftenMore (unary sz ex) [tStar, tSlash] n (both (unary sz ex) l ⟨⟨5, sgB 2, 0, p⟩ :: ⟨1, dgF 5 v, v, q⟩ :: r0, wi, at_, 0⟩).1 (both (unary sz ex) l ⟨⟨5, sgB 2, 0, p⟩ :: ⟨1, dgF 5 v, v, q⟩ :: r0, wi, at_, 0⟩).2 else _) = _
        rw [if_pos (by rfl), hb]
        exact e
      · rw [← e6 s m]
        rfl
    · refine ⟨l, x, (g, v) :: ps, _, ?_, hv, ⟨p, q, r0, rfl, h0⟩, h2, Nat.le_refl _, hp, fun _ _ => rfl⟩
      have hi : isT [tStar, tSlash] ⟨⟨5, sgB g, 0, p⟩ :: ⟨1, dgF 5 v, v, q⟩ :: r0, wi, at_, 0⟩ = false := by
        have h3 : g = 0 ∨ g = 1 := by omega
        rcases h3 with rfl | rfl <;> rfl
      cases n with
      | zero => rfl
      | succ n => unfold oftenMore; rw [hi]; rfl
end Pz
end Go.Proofs.YtboejbnkkhcccaaGreatDoor

/- Plain facts: a program of numbers and signs. -/
namespace Go.Proofs.YtboejbnkkhcccaaGreatDoor
open Pz

def sumS (y : Int) : List (Nat × Nat) → Int
  | [] => y
  | x :: ps => finS y x.2 (x.1 == 1) ps
namespace Pz
theorem fin_nostar {ps : List (Nat × Nat)} (h : NoStar ps) (s p : Int) (m : Bool) : finS s p m ps = sumS (combS s p m) ps := by
  match ps, h with
  | [], _ => rfl
  | x :: ps, h => unfold finS; rw [if_neg h]; rfl
theorem prod_int (sz : Nat) (ex : St → Tm × St) (wi at_ : Nat) (ps : List (Nat × Nat)) (r : List Lx.Tk) (hp : ∀ x ∈ ps, x.1 ≤ 2 ∧ x.2 < 100000) (h : Sw ps r) (t : List UInt8) (v p : Nat) (hv : v < 100000) :
    ∃ l' x' ps' r', prod sz ex ⟨⟨1, t, v, p⟩ :: r, wi, at_, 0⟩ = (l', ⟨r', wi, at_, 0⟩) ∧ Va l' x' ∧ Sw ps' r' ∧ NoStar ps' ∧ r'.length ≤ r.length ∧ (∀ x ∈ ps', x.1 ≤ 2 ∧ x.2 < 100000) ∧ ∀ s m, finS s v m ps = finS s x' m ps' := by
  obtain ⟨l', x', ps', r', e, h1⟩ := prod_more sz ex wi at_ ps r.length (.mk 2 p [] [] v [] []) v r hp h (Nat.le_refl _) (Va.int p v (by omega))
  refine ⟨l', x', ps', r', ?_, h1⟩
  unfold prod often
  rw [unary_int h hp]
  exact e
theorem sum_more (sz : Nat) (ex : St → Tm × St) (wi at_ : Nat) : ∀ (n : Nat) (l : Tm) (y : Int) (ps : List (Nat × Nat)) (r : List Lx.Tk), (∀ x ∈ ps, x.1 ≤ 2 ∧ x.2 < 100000) → Sw ps r → NoStar ps → r.length ≤ n → Va l y →
    ∃ t, oftenMore (prod sz ex) [tPlus, tMinus] n l ⟨r, wi, at_, 0⟩ = (t, ⟨[], wi, at_, 0⟩) ∧ Va t (sumS y ps) := by
  intro n
  induction n with
  | zero =>
    intro l y ps r hp h hs hn hv
    match ps, h with
    | [], h => rw [show r = [] from h]; exact ⟨l, rfl, hv⟩
    | x :: ps, h =>
      obtain ⟨p, q, r0, rfl, h0⟩ := h
      simp only [List.length_cons] at hn
      omega
  | succ n ih =>
    intro l y ps r hp h hs hn hv
    match ps, h, hs with
    | [], h, _ => rw [show r = [] from h]; exact ⟨l, rfl, hv⟩
    | (g, v) :: ps, h, hs =>
      obtain ⟨p, q, r0, rfl, h0⟩ := h
      obtain ⟨hg, hv1⟩ := hp (g, v) (by simp)
      have hp0 : ∀ x ∈ ps, x.1 ≤ 2 ∧ x.2 < 100000 := fun y hy => hp y (by simp [hy])
      dsimp only at hg hv1
      have h2 : g ≠ 2 := hs
      obtain ⟨l', x', ps', r', e, e1, e2, e3, e4, e5, e6⟩ := prod_int sz ex wi at_ ps r0 hp0 h0 (dgF 5 v) v q hv1
      have hb : both (prod sz ex) l ⟨⟨5, sgB g, 0, p⟩ :: ⟨1, dgF 5 v, v, q⟩ :: r0, wi, at_, 0⟩ = (.mk 10 l.pos (sgB g) [] 0 [l, l'] [], ⟨r', wi, at_, 0⟩) := by
        show (Tm.mk 10 l.pos (sgB g) [] 0 [l, (prod sz ex ⟨⟨1, dgF 5 v, v, q⟩ :: r0, wi, at_, 0⟩).1] [], (prod sz ex ⟨⟨1, dgF 5 v, v, q⟩ :: r0, wi, at_, 0⟩).2) = _
        rw [e]
      have hva := Va.op g l.pos l l' y x' hg hv e1
      have hop : opS g y x' = combS y x' (g == 1) := if_neg h2
      rw [hop] at hva
      obtain ⟨t, f1, f2⟩ := ih _ _ ps' r' e5 e2 e3 (by simp only [List.length_cons] at hn; omega) hva
      refine ⟨t, ?_, ?_⟩
      · have hi : isT [tPlus, tMinus] ⟨⟨5, sgB g, 0, p⟩ :: ⟨1, dgF 5 v, v, q⟩ :: r0, wi, at_, 0⟩ = true := by
          have h3 : g = 0 ∨ g = 1 := by omega
          rcases h3 with rfl | rfl <;> rfl
        unfold oftenMore
        rw [hi, if_pos rfl, hb]
        exact f1
      · rw [← fin_nostar e3, ← e6] at f2
        exact f2
theorem sides_here (sz : Nat) (ex : St → Tm × St) (ps : List (Nat × Nat)) (r : List Lx.Tk) (hp : ∀ x ∈ ps, x.1 ≤ 2 ∧ x.2 < 100000) (h : Sw ps r) (t : List UInt8) (v p : Nat) (hv : v < 100000) :
    ∃ u, exprHere sz ex ⟨⟨1, t, v, p⟩ :: r, 1, 0, 0⟩ = (u, ⟨[], 1, 0, 0⟩) ∧ Va u (finS 0 v false ps) := by
  obtain ⟨l', x', ps', r', e, e1, e2, e3, e4, e5, e6⟩ := prod_int sz ex 1 0 ps r hp h t v p hv
  obtain ⟨u, f1, f2⟩ := sum_more sz ex 1 0 r'.length l' x' ps' r' e5 e2 e3 (Nat.le_refl _) e1
  have hs : sum sz ex ⟨⟨1, t, v, p⟩ :: r, 1, 0, 0⟩ = (u, ⟨[], 1, 0, 0⟩) := by
    unfold sum often
    rw [e]
    exact f1
  refine ⟨u, here_of (by intro a _; rfl) (once_none (once_none hs rfl) rfl), ?_⟩
  have hx := e1.range
  have hc : combS 0 x' false = x' := by
    show (0 + x') % 1000003 = x'
    rw [Int.zero_add]
    exact Int.emod_eq_of_lt hx.1 hx.2
  rw [e6, fin_nostar e3, hc]
  exact f2
theorem sides_program (sz : Nat) (ps : List (Nat × Nat)) (r : List Lx.Tk) (hp : ∀ x ∈ ps, x.1 ≤ 2 ∧ x.2 < 100000) (h : Sw ps r) (t : List UInt8) (v p : Nat) (hv : v < 100000) :
    ∃ u, program sz ⟨⟨1, t, v, p⟩ :: r, 0, 0, 0⟩ = (⟨[], [], u⟩, ⟨[], 0, 0, 0⟩) ∧ Va u (finS 0 v false ps) := by
  obtain ⟨u, hh, hu⟩ := sides_here sz (expr sz (r.length + 1)) ps r hp h t v p hv
  refine ⟨u, ?_, hu⟩
  have hex : expr sz (r.length + 1 + 1) ⟨⟨1, t, v, p⟩ :: r, 0, 0, 0⟩ = (u, ⟨[], 0, 0, 0⟩) := by
    show exprStep sz _ _ = _
    rw [step_ok (by show 0 ≤ 200; omega)]
    dsimp only
    rw [Nat.zero_add, hh]
    rfl
  unfold program
  dsimp only
  rw [show decls sz (⟨1, t, v, p⟩ :: r).length [] [] ⟨⟨1, t, v, p⟩ :: r, 0, 0, 0⟩ = (([], []), ⟨⟨1, t, v, p⟩ :: r, 0, 0, 0⟩) from rfl]
  dsimp only
  rw [List.length_cons, hex]
  rfl
end Pz
end Go.Proofs.YtboejbnkkhcccaaGreatDoor
