/- Plain facts on what begins a text: a word stays a word when what is behind it is cut, or begins with a blank or a note. -/
import Derived.Test.YtgffhjcnfjgpnaaDoorLexMath
import Derived.Test.YtgffhjcnfjgpnaaDoorWalkU
namespace Go.Proofs.YtgffhjcnfjgpnaaDoor

/-- A byte that is a blank, or begins a note. -/
def sepB (c : UInt8) : Bool := c.toNat == 32 || c.toNat == 9 || c.toNat == 13 || c.toNat == 10 || c.toNat == 35
def sepH : List UInt8 → Bool
  | [] => true
  | c :: _ => sepB c

theorem span_sep (p : UInt8 → Bool) (hp : ∀ c, sepB c = true → p c = false) (r t : List UInt8) (ht : sepH t = true) : Lx.spanN p (r ++ t) = Lx.spanN p r := by
  induction r with
  | nil =>
    match t, ht with
    | [], _ => rfl
    | c :: u, ht => simp [Lx.spanN, hp c ht]
  | cons a r ih => simp only [List.cons_append, Lx.spanN, ih]
theorem span_take (p : UInt8 → Bool) (r : List UInt8) : ∀ n, Lx.spanN p (r.take n) = min n (Lx.spanN p r) := by
  induction r with
  | nil => intro n; simp [Lx.spanN]
  | cons a r ih =>
    intro n
    cases n with
    | zero => simp [Lx.spanN]
    | succ n =>
      simp only [List.take_succ_cons, Lx.spanN, ih]
      split <;> omega
theorem pre_sep (d : List UInt8) (hd : ∀ c ∈ d, sepB c = false) : ∀ (r t : List UInt8), sepH t = true → Lx.preB d (r ++ t) = Lx.preB d r := by
  induction d with
  | nil => intro r t _; simp [Lx.preB]
  | cons a d ih =>
    intro r t ht
    cases r with
    | nil =>
      match t, ht with
      | [], _ => rfl
      | c :: u, ht =>
        have ha := hd a (by simp)
        have : (a == c) = false := by
          rw [Bool.eq_false_iff]; intro h; rw [beq_iff_eq] at h; subst h; simp [sepH] at ht; rw [ht] at ha; cases ha
        simp [Lx.preB, List.isPrefixOf, this]
    | cons b r =>
      have := ih (fun c hc => hd c (by simp [hc])) r t ht
      simp only [Lx.preB] at this
      simp [Lx.preB, List.isPrefixOf, this]
theorem pre_take (d l : List UInt8) (n : Nat) (h : d.length ≤ n) : Lx.preB d (l.take n) = Lx.preB d l := by
  rw [Bool.eq_iff_iff]
  simp only [Lx.preB, List.isPrefixOf_iff_prefix]
  constructor
  · intro h1; exact h1.trans (List.take_prefix n l)
  · intro h1
    rw [List.prefix_take_iff]
    exact ⟨h1, h⟩
theorem pre_take_false (d l : List UInt8) (n : Nat) (h : Lx.preB d l = false) : Lx.preB d (l.take n) = false := by
  rw [Bool.eq_false_iff] at h ⊢
  intro h1
  apply h
  simp only [Lx.preB, List.isPrefixOf_iff_prefix] at h1 ⊢
  exact h1.trans (List.take_prefix n l)

theorem dig_sep : ∀ c, sepB c = true → Lx.inB Lx.digs c = false := by
  intro c h
  simp [sepB] at h
  simp [Lx.inB, Lx.digs]; omega
theorem ins_sep : ∀ c, sepB c = true → Lx.inB Lx.inss c = false := by
  intro c h
  simp [sepB] at h
  simp [Lx.inB, Lx.inss]; omega
theorem let_sep : ∀ c, sepB c = true → Lx.inB Lx.lets c = false := by
  intro c h
  simp [sepB] at h
  simp [Lx.inB, Lx.lets]; omega
theorem sgn_sep : ∀ k, k < 16 → ∀ c ∈ sgn k, sepB c = false := by decide

theorem numF_congr {l l' : List UInt8} {n : Nat} (h : l.take n = l'.take n) : Lx.numF l n = Lx.numF l' n := by unfold Lx.numF; rw [h]
theorem nameF_congr {l l' : List UInt8} {n : Nat} (h : l.take n = l'.take n) (hc : Lx.capB l = Lx.capB l') (hp : Lx.preB [33] (l.drop n) = Lx.preB [33] (l'.drop n)) : Lx.nameF l n = Lx.nameF l' n := by
  unfold Lx.nameF; rw [h, hc, hp]

theorem beg_sep (r t : List UInt8) (hr : r ≠ []) (ht : sepH t = true) : ∀ k, k < 18 → begF k (r ++ t) = begF k r := by
  intro k hk
  match k, hk with
  | 0, _ => cases r with
    | nil => exact absurd rfl hr
    | cons a r => rfl
  | 1, _ => cases r with
    | nil => exact absurd rfl hr
    | cons a r => rfl
  | k + 2, hk => exact pre_sep _ (sgn_sep k (by omega)) r t ht
theorem read_sep (r t : List UInt8) (hr : r ≠ []) (ht : sepH t = true) (k : Nat) : readF k (r ++ t) = readF k r := by
  match k with
  | 0 =>
    have e : digN (r ++ t) = digN r := span_sep _ dig_sep r t ht
    simp only [readF]
    rw [e]
    have hle : digN r ≤ r.length := spanN_le _ _
    exact numF_congr (by rw [List.take_append_of_le_length hle])
  | 1 =>
    have e : insN (r ++ t) = insN r := span_sep _ ins_sep r t ht
    simp only [readF]
    rw [e]
    have hle : insN r ≤ r.length := spanN_le _ _
    refine nameF_congr (by rw [List.take_append_of_le_length hle]) ?_ ?_
    · cases r with
      | nil => exact absurd rfl hr
      | cons a r => rfl
    · rw [List.drop_append_of_le_length hle]
      exact pre_sep _ (by decide) _ t ht
  | k + 2 => rfl
theorem find_same {α : Type} (p q : α → Bool) (l : List α) (h : ∀ a ∈ l, p a = q a) : l.find? p = l.find? q := by
  induction l with
  | nil => rfl
  | cons a r ih => simp only [List.find?_cons, h a (by simp), ih (fun b hb => h b (by simp [hb]))]
/-- F2: what comes behind a blank does not matter. -/
theorem first_sep (r t : List UInt8) (hr : r ≠ []) (ht : sepH t = true) : firstF (r ++ t) = firstF r := by
  unfold firstF
  have e : (List.range 18).find? (fun k => begF k (r ++ t)) = (List.range 18).find? (fun k => begF k r) := by
    refine find_same _ _ _ fun k hk => ?_
    exact beg_sep r t hr ht k (by simpa using hk)
  rw [e]
  congr 1
  funext k
  exact read_sep r t hr ht k

/-- F1: cut behind it, a word is the word. -/
theorem first_take {r : List UInt8} {x : Lx.Tk} {m n : Nat} (h : firstF r = some (x, m)) (hn : m ≤ n) : firstF (r.take n) = some (x, m) := by
  obtain ⟨hm0, hmr⟩ := firstF_bound h
  obtain ⟨k, hk, hb, hr, hno⟩ := firstF_cases h
  have hn0 : 0 < n := by omega
  have hhead : ∀ d, headIn d (r.take n) = headIn d r := by
    intro d
    cases r with
    | nil => simp
    | cons a r => cases n with
      | zero => omega
      | succ n => rfl
  have hno2 : ∀ j, j < k → begF j (r.take n) = false := by
    intro j hj
    have := hno j hj
    match j with
    | 0 => simp only [begF] at this ⊢; rw [hhead]; exact this
    | 1 => simp only [begF] at this ⊢; rw [hhead]; exact this
    | j + 2 => exact pre_take_false _ _ _ this
  have hres : begF k (r.take n) = true ∧ readF k (r.take n) = some (x, m) := by
    match k, hb, hr with
    | 0, hb, hr =>
      simp only [begF] at hb ⊢
      refine ⟨by rw [hhead]; exact hb, ?_⟩
      simp only [readF] at hr ⊢
      have hmd : m = digN r := by
        simp only [Lx.numF] at hr; split at hr
        · simp only [Option.some.injEq, Prod.mk.injEq] at hr; omega
        · cases hr
      have e : digN (r.take n) = digN r := by
        have := span_take (Lx.inB Lx.digs) r n
        simp only [digN] at hmd ⊢; omega
      rw [e, ← hr]
      exact numF_congr (by rw [List.take_take]; congr 1; omega)
    | 1, hb, hr =>
      simp only [begF] at hb ⊢
      refine ⟨by rw [hhead]; exact hb, ?_⟩
      simp only [readF] at hr ⊢
      have hmi : insN r ≤ m ∧ (m = insN r → Lx.preB [33] (r.drop (insN r)) = true → Lx.nameF r (insN r) = Lx.nameF r (insN r)) := by
        refine ⟨?_, fun _ _ => rfl⟩
        simp only [Lx.nameF] at hr
        split at hr
        · cases hr
        split at hr
        · simp only [Option.some.injEq, Prod.mk.injEq] at hr; omega
        split at hr
        · simp only [Option.some.injEq, Prod.mk.injEq] at hr; omega
        split at hr
        · simp only [Option.some.injEq, Prod.mk.injEq] at hr; omega
        · simp only [Option.some.injEq, Prod.mk.injEq] at hr; omega
      have e : insN (r.take n) = insN r := by
        have := span_take (Lx.inB Lx.inss) r n
        have := hmi.1
        simp only [insN] at this ⊢; omega
      have e1 : (r.take n).take (insN r) = r.take (insN r) := by rw [List.take_take]; congr 1; have := hmi.1; omega
      have e2 : Lx.capB (r.take n) = Lx.capB r := by
        cases r with
        | nil => simp
        | cons a r => cases n with
          | zero => omega
          | succ n => rfl
      have e3 : (r.take n).drop (insN r) = (r.drop (insN r)).take (n - insN r) := by rw [List.drop_take]
      rw [e, ← hr]
      unfold Lx.nameF
      rw [e1, e2, e3]
      by_cases hp : Lx.preB [33] (r.drop (insN r)) = true
      · by_cases hlt : insN r < n
        · rw [pre_take [33] _ _ (by simp; omega)]
        · have hin : insN r = m := by have := hmi.1; omega
          simp only [Lx.nameF, hp, if_true] at hr
          split at hr
          · cases hr
          split
          · rename_i h1 h2; exact absurd h2 h1
          split at hr
          · rename_i hcap; simp [hcap]
          split at hr
          · rename_i hcap hkw; simp [hcap, hkw]
          · simp only [Option.some.injEq, Prod.mk.injEq] at hr; omega
      · rw [pre_take_false _ _ _ (Bool.eq_false_iff.2 hp), Bool.eq_false_iff.2 hp]
    | k + 2, hb, hr =>
      simp only [readF, Option.some.injEq, Prod.mk.injEq] at hr
      refine ⟨?_, by simp only [readF, Option.some.injEq, Prod.mk.injEq]; exact hr⟩
      simp only [begF] at hb ⊢
      rw [pre_take _ _ _ (by omega)]
      exact hb
  rw [firstF_hit _ k hk hno2 hres.1, hres.2]
end Go.Proofs.YtgffhjcnfjgpnaaDoor
