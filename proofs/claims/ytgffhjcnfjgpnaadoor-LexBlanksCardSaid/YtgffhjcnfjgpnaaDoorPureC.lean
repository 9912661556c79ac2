/- Plain facts on sources: joined by a line feed; words written again with blanks between. -/
import Derived.Test.YtgffhjcnfjgpnaaDoorLawCuts
namespace Go.Proofs.YtgffhjcnfjgpnaaDoor

theorem skip_join (a t : List UInt8) : ∀ b, Lx.skipN b (a ++ 10 :: t) = if Lx.skipN b a = a.length then a.length + 1 + Lx.skipN false t else Lx.skipN b a := by
  induction a with
  | nil => intro b; cases b <;> simp [Lx.skipN] <;> omega
  | cons c r ih =>
    intro b
    have h1 := ih false
    have h2 := ih true
    cases b <;> simp only [List.cons_append, Lx.skipN, h1, h2, List.length_cons]
    · by_cases hb : c.toNat = 32 ∨ c.toNat = 9 ∨ c.toNat = 13 ∨ c.toNat = 10
      · simp only [if_pos hb]
        by_cases hs : Lx.skipN false r = r.length
        · rw [if_pos hs, if_pos (by omega)]; omega
        · rw [if_neg hs, if_neg (by omega)]
      · simp only [if_neg hb]
        by_cases hn : c.toNat = 35
        · simp only [if_pos hn]
          by_cases hs : Lx.skipN true r = r.length
          · rw [if_pos hs, if_pos (by omega)]; omega
          · rw [if_neg hs, if_neg (by omega)]
        · simp only [if_neg hn]
          rw [if_neg (by omega)]
    · by_cases hb : c.toNat = 10
      · simp only [if_pos hb]
        by_cases hs : Lx.skipN false r = r.length
        · rw [if_pos hs, if_pos (by omega)]; omega
        · rw [if_neg hs, if_neg (by omega)]
      · simp only [if_neg hb]
        by_cases hs : Lx.skipN true r = r.length
        · rw [if_pos hs, if_pos (by omega)]; omega
        · rw [if_neg hs, if_neg (by omega)]
theorem sk_join (a t : List UInt8) : sk (a ++ 10 :: t) = if sk a = a.length then a.length + 1 + sk t else sk a := skip_join a t false

/-- Blanks ahead change nothing but the places. -/
theorem lexes_skip {p n : Nat} {L t : List UInt8} {ws : List Lx.Tk} {r : Option Nat} (hs : sk L = n + sk t) (hd : L.drop n = t) (h : Lexes (p + n) t ws r) : Lexes p L ws r := by
  have e1 : ∀ k, L.drop (sk L + k) = t.drop (sk t + k) := fun k => by rw [hs, ← hd, List.drop_drop]; congr 1; omega
  have e0 : L.drop (sk L) = t.drop (sk t) := by simpa using e1 0
  have e2 : p + n + sk t = p + sk L := by omega
  cases h with
  | done _ _ h => exact .done _ _ (by rw [e0]; exact h)
  | err _ _ h0 h => rw [e2]; exact .err _ _ (by rw [e0]; exact h0) (by rw [e0]; exact h)
  | word _ _ x m ws r h hr =>
    rw [e2] at hr ⊢
    exact .word _ _ x m ws r (by rw [e0]; exact h) (by rw [e1]; exact hr)
theorem sepH_lf (t : List UInt8) : sepH (10 :: t) = true := rfl
theorem sk_len {l : List UInt8} (h : l.drop (sk l) = []) : sk l = l.length := by
  have h1 := skipN_le l false
  have h2 := List.drop_eq_nil_iff.1 h
  unfold sk at h2 ⊢; omega
theorem sk_lt {l : List UInt8} (h : l.drop (sk l) ≠ []) : sk l < l.length := by
  rcases Nat.lt_or_ge (sk l) l.length with h1 | h1
  · exact h1
  · exact absurd (List.drop_of_length_le h1) h
theorem Lexes.joins {p : Nat} {a : List UInt8} {ws : List Lx.Tk} {r0 : Option Nat} (h : Lexes p a ws r0) (t : List UInt8) :
    (r0 = none → ∀ ws' r, Lexes (p + a.length + 1) t ws' r → Lexes p (a ++ 10 :: t) (ws ++ ws') r) ∧ (∀ e, r0 = some e → Lexes p (a ++ 10 :: t) ws (some e)) := by
  induction h with
  | done p l h =>
    refine ⟨fun _ ws' r ht => ?_, fun e he => by cases he⟩
    have hs := sk_len h
    rw [List.nil_append]
    refine lexes_skip (n := l.length + 1) (t := t) (by rw [sk_join, if_pos hs]) (by simp) ?_
    rw [← Nat.add_assoc]; exact ht
  | err p l h0 h =>
    refine ⟨fun he => (by cases he), fun e he => ?_⟩
    have hs := sk_lt h0
    have e1 : sk (l ++ 10 :: t) = sk l := by rw [sk_join, if_neg (by omega)]
    have e2 : (l ++ 10 :: t).drop (sk l) = l.drop (sk l) ++ 10 :: t := by rw [List.drop_append_of_le_length (by omega)]
    injection he with he
    rw [← he, ← e1]
    refine .err _ _ (by rw [e1, e2]; simp) ?_
    rw [e1, e2, first_sep _ _ h0 (sepH_lf t)]; exact h
  | word p l x m ws r h hr ih =>
    have hb := firstF_bound h
    have h0 : l.drop (sk l) ≠ [] := by intro e; rw [e] at hb; simp at hb; omega
    have hs := sk_lt h0
    simp only [List.length_drop] at hb
    have e1 : sk (l ++ 10 :: t) = sk l := by rw [sk_join, if_neg (by omega)]
    have e2 : (l ++ 10 :: t).drop (sk l) = l.drop (sk l) ++ 10 :: t := by rw [List.drop_append_of_le_length (by omega)]
    have e3 : (l ++ 10 :: t).drop (sk l + m) = l.drop (sk l + m) ++ 10 :: t := by rw [List.drop_append_of_le_length (by omega)]
    have hf : firstF ((l ++ 10 :: t).drop (sk (l ++ 10 :: t))) = some (x, m) := by rw [e1, e2, first_sep _ _ h0 (sepH_lf t)]; exact h
    refine ⟨fun hn ws' r' ht => ?_, fun e he => ?_⟩
    · have := (ih.1 hn ws' r' (by
        have e4 : p + sk l + m + (l.drop (sk l + m)).length + 1 = p + l.length + 1 := by rw [List.length_drop]; omega
        rw [e4]; exact ht))
      have k := Lexes.word p (l ++ 10 :: t) x m (ws ++ ws') r' hf (by rw [e1, e3]; exact this)
      rw [e1] at k
      exact k
    · have := ih.2 e he
      have k := Lexes.word p (l ++ 10 :: t) x m ws (some e) hf (by rw [e1, e3]; exact this)
      rw [e1] at k
      exact k

/-- What a word is made of. -/
theorem first_word {r : List UInt8} {x : Lx.Tk} {m : Nat} (h : firstF r = some (x, m)) :
    x.pos = 0 ∧ 1 ≤ x.k ∧ x.k ≤ 6 ∧ x.t ≠ [] ∧ (x.k ≠ 1 → x.n = 0) ∧ r.take m = wB x ∧ r.take x.t.length = x.t ∧ x.t.length ≤ m := by
  obtain ⟨hm0, hml⟩ := firstF_bound h
  obtain ⟨k, hk, hb, hr, _⟩ := firstF_cases h
  match k, hk, hb, hr with
  | 0, _, hb, hr =>
    simp only [readF, Lx.numF] at hr
    split at hr
    · simp only [Option.some.injEq, Prod.mk.injEq] at hr
      obtain ⟨rfl, rfl⟩ := hr
      have hl : (r.take (digN r)).length = digN r := by rw [List.length_take]; omega
      refine ⟨rfl, by simp, by simp, ?_, fun h => absurd rfl h, by simp [wB], by simp only [hl], by simp only [hl]; omega⟩
      intro e; simp only at e; rw [e] at hl; simp at hl; omega
    · cases hr
  | 1, _, hb, hr =>
    have hp : 0 < insN r := headLet_pos hb
    have hle : insN r ≤ r.length := spanN_le _ _
    have hl : (r.take (insN r)).length = insN r := by rw [List.length_take]; omega
    have hne : r.take (insN r) ≠ [] := by intro e; rw [e] at hl; simp at hl; omega
    simp only [readF, Lx.nameF] at hr
    split at hr
    · cases hr
    split at hr
    · simp only [Option.some.injEq, Prod.mk.injEq] at hr
      obtain ⟨rfl, rfl⟩ := hr
      exact ⟨rfl, by simp, by simp, hne, fun _ => rfl, by simp [wB], by simp only [hl], by simp only [hl]; omega⟩
    split at hr
    · simp only [Option.some.injEq, Prod.mk.injEq] at hr
      obtain ⟨rfl, rfl⟩ := hr
      exact ⟨rfl, by simp, by simp, hne, fun _ => rfl, by simp [wB], by simp only [hl], by simp only [hl]; omega⟩
    split at hr
    · rename_i hpre
      simp only [Option.some.injEq, Prod.mk.injEq] at hr
      obtain ⟨rfl, rfl⟩ := hr
      refine ⟨rfl, by simp, by simp, hne, fun _ => rfl, ?_, by simp only [hl], by simp only [hl]; omega⟩
      obtain ⟨u, hu⟩ := List.isPrefixOf_iff_prefix.1 hpre
      simp only [wB, if_true]
      rw [List.take_add, ← hu]
      rfl
    · simp only [Option.some.injEq, Prod.mk.injEq] at hr
      obtain ⟨rfl, rfl⟩ := hr
      exact ⟨rfl, by simp, by simp, hne, fun _ => rfl, by simp [wB], by simp only [hl], by simp only [hl]; omega⟩
  | k + 2, hk, hb, hr =>
    simp only [readF, Option.some.injEq, Prod.mk.injEq] at hr
    obtain ⟨rfl, rfl⟩ := hr
    have h1 := sgn_pos k (by omega)
    have h2 := List.prefix_iff_eq_take.1 (List.isPrefixOf_iff_prefix.1 hb)
    refine ⟨rfl, by simp, by simp, ?_, fun _ => rfl, by simp [wB, ← h2], h2.symm, Nat.le_refl _⟩
    intro e; simp only at e; rw [e] at h1; simp at h1
theorem first_head {r : List UInt8} {x : Lx.Tk} {m : Nat} (h : firstF r = some (x, m)) : ∃ c u, r = c :: u ∧ sepB c = false := by
  obtain ⟨hm0, hml⟩ := firstF_bound h
  obtain ⟨k, hk, hb, _, _⟩ := firstF_cases h
  cases r with
  | nil => simp at hml; omega
  | cons c u =>
    refine ⟨c, u, rfl, ?_⟩
    rw [Bool.eq_false_iff]
    intro hs
    match k, hk, hb with
    | 0, _, hb => rw [begF, headIn, dig_sep c hs] at hb; cases hb
    | 1, _, hb => rw [begF, headIn, let_sep c hs] at hb; cases hb
    | k + 2, hk, hb =>
      have h1 := sgn_pos k (by omega)
      have h2 := sgn_sep k (by omega)
      cases hsg : sgn k with
      | nil => rw [hsg] at h1; simp at h1
      | cons a d =>
        rw [begF, Lx.preB, hsg] at hb
        simp only [List.isPrefixOf, Bool.and_eq_true, beq_iff_eq] at hb
        rw [hsg] at h2
        have := h2 a (by simp)
        rw [hb.1, hs] at this
        cases this
theorem sk_head {c : UInt8} (u : List UInt8) (h : sepB c = false) : sk (c :: u) = 0 := by
  simp [sepB] at h
  exact skip_else c u (by omega) (by omega)

/-- A word that, alone, is read as itself. -/
def WordOK (x : Lx.Tk) : Prop := firstF (wB x) = some (⟨x.k, x.t, x.n, 0⟩, (wB x).length)
theorem first_ok {r : List UInt8} {x : Lx.Tk} {m : Nat} (h : firstF r = some (x, m)) (p : Nat) : WordOK (atPos x p) ∧ m = (wB x).length := by
  obtain ⟨e1, _, _, _, _, e2, _, _⟩ := first_word h
  obtain ⟨hm0, hml⟩ := firstF_bound h
  have h2 := first_take h (Nat.le_refl m)
  rw [e2] at h2
  have hm : m = (wB x).length := by rw [← e2, List.length_take]; omega
  refine ⟨?_, hm⟩
  show firstF (wB x) = some (⟨x.k, x.t, x.n, 0⟩, (wB x).length)
  rw [h2, hm]
  obtain ⟨k, t, n, q⟩ := x
  simp only at e1
  subst e1
  rfl
theorem Lexes.ok {p : Nat} {l : List UInt8} {ws : List Lx.Tk} {r : Option Nat} (h : Lexes p l ws r) : ∀ y ∈ ws, WordOK y := by
  induction h with
  | done => simp
  | err => simp
  | word p l x m ws r h hr ih =>
    intro y hy
    simp only [List.mem_cons] at hy
    rcases hy with rfl | hy
    · exact (first_ok h _).1
    · exact ih y hy
theorem WordOK.ne {x : Lx.Tk} (h : WordOK x) : wB x ≠ [] := by
  intro e
  have := firstF_bound h
  rw [e] at this; simp at this
theorem WordOK.sk0 {x : Lx.Tk} (h : WordOK x) (t : List UInt8) : sk (wB x ++ t) = 0 := by
  obtain ⟨c, u, e, hs⟩ := first_head h
  rw [e, List.cons_append]; exact sk_head _ hs

def Gap (t : List UInt8) : Prop := t ≠ [] ∧ sepH t = true ∧ ∀ u, sk (t ++ u) = t.length + sk u
def srcOf (L : List (Lx.Tk × List UInt8)) : List UInt8 := L.flatMap fun y => wB y.1 ++ y.2
theorem lexes_src (L : List (Lx.Tk × List UInt8)) (tail : List UInt8) (ws2 : List Lx.Tk) : ∀ p, (∀ y ∈ L, WordOK y.1 ∧ Gap y.2) → (∀ q, ∃ ws, Lexes q tail ws none ∧ AlikeL false ws2 ws) →
    ∃ ws1, Lexes p (srcOf L ++ tail) ws1 none ∧ AlikeL false (L.map (·.1) ++ ws2) ws1 := by
  induction L with
  | nil => intro p _ ht; simpa [srcOf] using ht p
  | cons y L ih =>
    intro p hall ht
    obtain ⟨x, t⟩ := y
    obtain ⟨hx, hg1, hg2, hg3⟩ := hall (x, t) (by simp)
    obtain ⟨ws1, h1, h2⟩ := ih (p + (wB x).length + t.length) (fun y hy => hall y (by simp [hy])) ht
    have e : srcOf ((x, t) :: L) ++ tail = wB x ++ (t ++ (srcOf L ++ tail)) := by simp [srcOf]
    have hk := hx.sk0 (t ++ (srcOf L ++ tail))
    have hsep : sepH (t ++ (srcOf L ++ tail)) = true := by
      cases t with
      | nil => exact absurd rfl hg1
      | cons c u => exact hg2
    have hf : firstF (wB x ++ (t ++ (srcOf L ++ tail))) = some (⟨x.k, x.t, x.n, 0⟩, (wB x).length) := by rw [first_sep _ _ hx.ne hsep]; exact hx
    have hr : Lexes (p + (wB x).length) (t ++ (srcOf L ++ tail)) ws1 none := lexes_skip (n := t.length) (hg3 _) (by simp) h1
    refine ⟨atPos ⟨x.k, x.t, x.n, 0⟩ p :: ws1, ?_, ?_⟩
    · rw [e]
      have k := Lexes.word p (wB x ++ (t ++ (srcOf L ++ tail))) ⟨x.k, x.t, x.n, 0⟩ (wB x).length ws1 none (by rw [hk]; exact hf) (by rw [hk]; simpa using hr)
      rw [hk] at k
      exact k
    · obtain ⟨h3, h4⟩ := h2
      refine ⟨by simp only [List.map_cons, List.cons_append, List.length_cons, h3], fun i a b ha hb => ?_⟩
      cases i with
      | zero =>
        simp at ha hb
        subst ha hb
        exact ⟨rfl, rfl, rfl, fun h => by cases h⟩
      | succ i => exact h4 i a b (by simpa using ha) (by simpa using hb)
theorem lexes_one (x : Lx.Tk) (h : WordOK x) (q : Nat) : Lexes q (wB x) [atPos ⟨x.k, x.t, x.n, 0⟩ q] none := by
  have hk : sk (wB x) = 0 := by simpa using h.sk0 []
  have k := Lexes.word q (wB x) ⟨x.k, x.t, x.n, 0⟩ (wB x).length [] none (by rw [hk]; exact h) (.done _ _ (by rw [hk]; simp [sk, Lx.skipN]))
  rw [hk] at k
  exact k
theorem alike_one (x : Lx.Tk) (q : Nat) : AlikeL false [x] [atPos ⟨x.k, x.t, x.n, 0⟩ q] := ⟨rfl, fun i a b ha hb => by
  cases i with
  | zero => simp at ha hb; subst ha hb; exact ⟨rfl, rfl, rfl, fun h => by cases h⟩
  | succ i => simp at ha⟩
theorem gap_blank : Gap [32] := ⟨by simp, rfl, fun u => by
  show sk (32 :: u) = 1 + sk u
  exact skip_blank 32 u (by decide)⟩
theorem textF_src (ws : List Lx.Tk) (x : Lx.Tk) : textF (ws ++ [x]) = srcOf (ws.map fun y => (y, [32])) ++ wB x := by
  induction ws with
  | nil => simp [textF, srcOf]
  | cons y r ih =>
    cases r with
    | nil => simp [textF, srcOf]
    | cons z r =>
      simp only [List.cons_append, textF, srcOf, List.flatMap_cons, List.map_cons] at ih ⊢
      rw [ih]
      simp
/-- Words written are the words. -/
theorem lex_text {p : Nat} {l : List UInt8} {ws : List Lx.Tk} {r : Option Nat} (h : Lexes p l ws r) : ∃ ws1, Lexes 0 (textF ws) ws1 none ∧ AlikeL false ws ws1 := by
  have hok := h.ok
  rcases List.eq_nil_or_concat ws with rfl | ⟨init, x, rfl⟩
  · exact ⟨[], .done _ _ (by simp [textF]), AlikeL.refl _ _⟩
  · rw [List.concat_eq_append] at hok ⊢
    have := lexes_src (init.map fun y => (y, [32])) (wB x) [x] 0 (fun y hy => by
      obtain ⟨z, hz, rfl⟩ := List.mem_map.1 hy
      exact ⟨hok z (by simp [hz]), gap_blank⟩) (fun q => ⟨_, lexes_one x (hok x (by simp)) q, alike_one x q⟩)
    rw [textF_src]
    simpa [List.map_map, Function.comp_def] using this
end Go.Proofs.YtgffhjcnfjgpnaaDoor
