/- Plain facts and a law for LexJoins: words shifted; appending a row of whatever source. -/
import Derived.Test.YtgffhjcnfjgpnaaDoorPureC
import Derived.Laws.AppendOwnNone
namespace Go.Proofs.YtgffhjcnfjgpnaaDoor
open Go.RowKit

def shP (d : Nat) (x : Lx.Tk) : Lx.Tk := ⟨x.k, x.t, x.n, x.pos + d⟩
theorem Lexes.shift {p : Nat} {l : List UInt8} {ws : List Lx.Tk} {r : Option Nat} (h : Lexes p l ws r) (d : Nat) : Lexes (p + d) l (ws.map (shP d)) (r.map (· + d)) := by
  induction h with
  | done p l h => exact .done _ _ h
  | err p l h0 h =>
    have := Lexes.err (p + d) l h0 h
    rw [show p + d + sk l = p + sk l + d by omega] at this
    exact this
  | word p l x m ws r h hr ih =>
    rw [show p + sk l + m + d = p + d + sk l + m by omega] at ih
    have := Lexes.word (p + d) l x m _ _ h ih
    rw [List.map_cons, show shP d (atPos x (p + sk l)) = atPos x (p + d + sk l) by simp [shP, atPos]; omega]
    exact this
theorem lex_join_ok {L M : List UInt8} {ws ws' : List Lx.Tk} (h : Lexes 0 L ws none) (h' : Lexes 0 M ws' none) : Lexes 0 (L ++ 10 :: M) (ws ++ ws'.map (shP (L.length + 1))) none := by
  refine (h.joins M).1 rfl _ _ ?_
  have := h'.shift (L.length + 1)
  rw [show 0 + L.length + 1 = 0 + (L.length + 1) by omega]
  exact this
theorem lex_join_err {L M : List UInt8} {ws ws' : List Lx.Tk} {p : Nat} (h : Lexes 0 L ws none) (h' : Lexes 0 M ws' (some p)) : Lexes 0 (L ++ 10 :: M) (ws ++ ws'.map (shP (L.length + 1))) (some (L.length + 1 + p)) := by
  refine (h.joins M).1 rfl _ _ ?_
  have := h'.shift (L.length + 1)
  rw [show 0 + L.length + 1 = 0 + (L.length + 1) by omega, show L.length + 1 + p = p + (L.length + 1) by omega]
  exact this
theorem lex_join_first {L M : List UInt8} {ws : List Lx.Tk} {p : Nat} (h : Lexes 0 L ws (some p)) : Lexes 0 (L ++ 10 :: M) ws (some p) := (h.joins M).2 p rfl

def shA (d : Nat) (ws : List Lx.Tk) (k : Nat) : List Lx.Tk := (ws.take k).map (shP d) ++ ws.drop k
theorem shA_zero (d : Nat) (ws : List Lx.Tk) : shA d ws 0 = ws := by simp [shA]
theorem shA_all (d : Nat) (ws : List Lx.Tk) : shA d ws ws.length = ws.map (shP d) := by simp [shA]
theorem shA_at {d : Nat} {x : Lx.Tk} : ∀ {ws : List Lx.Tk} {k : Nat}, ws[k]? = some x → (shA d ws k)[k]? = some x ∧ (shA d ws k).set k (shP d x) = shA d ws (k + 1) := by
  intro ws
  induction ws with
  | nil => intro k h; simp at h
  | cons y r ih =>
    intro k h
    cases k with
    | zero => simp at h; subst h; simp [shA]
    | succ k =>
      have := ih (k := k) (by simpa using h)
      simp only [shA, List.take_succ_cons, List.map_cons, List.cons_append, List.drop_succ_cons, List.getElem?_cons_succ, List.set_cons_succ] at this ⊢
      exact ⟨this.1, by rw [this.2]⟩
theorem words_set (q : Nat) {x : Lx.Tk} : ∀ {ws : List Lx.Tk} {k : Nat}, ws[k]? = some x → (wordsC ws).set (k * 4 + 3) (.int .i64 (q : Int)) = wordsC (ws.set k ⟨x.k, x.t, x.n, q⟩) := by
  intro ws
  induction ws with
  | nil => intro k h; simp at h
  | cons y r ih =>
    intro k h
    cases k with
    | zero => simp at h; subst h; rfl
    | succ k =>
      have := ih (k := k) (by simpa using h)
      rw [List.set_cons_succ, show (k + 1) * 4 + 3 = k * 4 + 3 + 4 by omega]
      show tkC y ++ (wordsC r).set (k * 4 + 3) _ = tkC y ++ wordsC _
      rw [this]
theorem shA_words {d : Nat} {ws : List Lx.Tk} {k : Nat} {x : Lx.Tk} (h : ws[k]? = some x) : (wordsC (shA d ws k)).set (k * 4 + 3) (.int .i64 ((x.pos + d : Nat) : Int)) = wordsC (shA d ws (k + 1)) := by
  rw [words_set _ (shA_at h).1, ← (shA_at h).2]; rfl
def bytesC (l : List UInt8) : List Value := l.map fun b => Value.int .u8 (b.toNat : Int)

theorem grown_refl (w : World) (row : Option Nat) : w.grownBy w row := ⟨rfl, rfl, rfl, Nat.le_refl _, fun _ _ _ => rfl⟩
/-- What may stand as an append's source: nil, or a row of cells. -/
def Src (w : World) (u : Value) (m : Nat) (news : List Value) : Prop :=
  (u = .slice none 0 0 ∧ m = 0 ∧ news = []) ∨ ∃ ad c, u = .slice (some ad) m c ∧ ∀ j q, news[j]? = some q → w.cell? (ad.add j) = some q
theorem wpList_append_src {P : Program} {w : World} {ops : Array Oper} {rest : List Oper} {o : Oper} {a : Act} {Q : Exit → Act → World → Prop} (hgd : o.guard = none) (s x : Operand) (t : TypeId)
    (ho : o.op = .call { callee := .builtin .append, args := #[s, x], argTypes := #[t, t] })
    (base : Nat) (e : TypeId) (i : TypeInfo) (z : Value) (size bytes : Nat) (ht : P.underlying t = some (.slice e)) (hi : P.info? e = some i) (hz : i.zero = some z)
    (hsize : i.size = size) (hby : i.bytes = bytes) (hzs : z.cells.size = size) (hsz : 0 < size)
    (v : Value) (n : Nat) (xs : List Value) (hs : a.eval s = v) (hown : w.ownsRow base e size v n xs)
    (u : Value) (m : Nat) (news : List Value) (hx : a.eval x = u) (hu : Src w u m news) (hl : news.length = m * size) (h1 : ∀ q ∈ news, q.oneCell' = true)
    (h63 : n + m ≤ maxLen) (hbytes : (n + m) * bytes ≤ 140737488355328) (hbase : base ≤ w.heap.size)
    (h : ∀ v' w', w'.ownsRow base e size v' (n + m) (xs ++ news) → w.grownBy w' v.ownBlock → wpList P ops Q rest (a.put o.dst v') w') : wpList P ops Q (o :: rest) a w := by
  rcases hu with ⟨rfl, rfl, rfl⟩ | ⟨ad, c, rfl, hc⟩
  · exact wpList_append_own_none hgd s x t ho base e i size ht hi v n xs hs hown hx (h v w (by simpa using hown) (grown_refl _ _))
  · exact wpList_append_own _ hgd s x t ho base e i z size bytes ht hi hz hsize hby hzs hsz v n xs hs hown ad m c news hx hl hc h1 h63 hbytes hbase fun v' w' h2 h3 _ => h v' w' h2 h3
theorem wpList_wanted {P : Program} {w : World} {ops : Array Oper} {rest : List Oper} {o : Oper} {a : Act} {Q : Exit → Act → World → Prop} (hw : Region.wanted o (yielded ops a.tmps) = true)
    (h : ∀ K : Act → World → Prop, (∀ a w, wpList P ops Q rest a w → K a w) → o.wp P a w K Q) : wpList P ops Q (o :: rest) a w :=
  wpList_step fun K hK => by rw [if_pos hw]; exact h K hK
theorem wpList_append_src2 {P : Program} {w : World} {ops : Array Oper} {rest : List Oper} {o : Oper} {a : Act} {Q : Exit → Act → World → Prop} (hgd : Region.wanted o (yielded ops a.tmps) = true) (s x : Operand) (t : TypeId)
    (ho : o.op = .call { callee := .builtin .append, args := #[s, x], argTypes := #[t, t] })
    (base : Nat) (e : TypeId) (i : TypeInfo) (z : Value) (size bytes : Nat) (ht : P.underlying t = some (.slice e)) (hi : P.info? e = some i) (hz : i.zero = some z)
    (hsize : i.size = size) (hby : i.bytes = bytes) (hzs : z.cells.size = size) (hsz : 0 < size)
    (v : Value) (n : Nat) (xs : List Value) (hs : a.eval s = v) (hown : w.ownsRow base e size v n xs)
    (u : Value) (m : Nat) (news : List Value) (hx : a.eval x = u) (hu : Src w u m news) (hl : news.length = m * size) (h1 : ∀ q ∈ news, q.oneCell' = true)
    (h63 : n + m ≤ maxLen) (hbytes : (n + m) * bytes ≤ 140737488355328) (hbase : base ≤ w.heap.size)
    (h : ∀ v' w', w'.ownsRow base e size v' (n + m) (xs ++ news) → w.grownBy w' v.ownBlock → wpList P ops Q rest (a.put o.dst v') w') : wpList P ops Q (o :: rest) a w := by
  rcases hu with ⟨rfl, rfl, rfl⟩ | ⟨ad, c, rfl, hc⟩
  · refine wpList_wanted hgd fun K hK => ?_
    have hrun := run_append_owned_none (P := P) (w := w) base t o.type e i size ht hi v n xs hown
    unfold Oper.wp
    simp [execOp, ho, resolve, invoke, builtin, hs, hx, hrun, Result.andThen]
    exact hK _ _ (h v w (by simpa using hown) (grown_refl _ _))
  · exact wpList_wanted hgd fun _ hK => wp_append_own w s x t ho base e i z size bytes ht hi hz hsize hby hzs hsz v n xs hs hown ad m c news hx hl hc h1 h63 hbytes hbase fun v' w' h2 h3 _ => hK _ _ (h v' w' h2 h3)
theorem bytesC_one (l : List UInt8) : ∀ q ∈ bytesC l, q.oneCell' = true := by
  intro q hq
  simp only [bytesC, List.mem_map] at hq
  obtain ⟨b, _, rfl⟩ := hq
  rfl
theorem wordsC_one (ws : List Lx.Tk) : ∀ q ∈ wordsC ws, q.oneCell' = true := by
  intro q hq
  simp only [wordsC, List.mem_flatMap, tkC, List.mem_cons, List.not_mem_nil, or_false] at hq
  obtain ⟨b, _, h⟩ := hq
  rcases h with rfl | rfl | rfl | rfl <;> rfl
theorem wordsC_len (ws : List Lx.Tk) : (wordsC ws).length = ws.length * 4 := by
  induction ws with
  | nil => rfl
  | cons y r ih =>
    show (tkC y ++ wordsC r).length = _
    rw [List.length_append, ih, List.length_cons, show (tkC y).length = 4 from rfl]; omega
/-- nil, or a slice with an address. -/
def Formed (v : Value) : Prop := v = .slice none 0 0 ∨ ∃ a n c, v = .slice (some a) n c
theorem Bs.src {w : World} {u : Value} {l : List UInt8} (h : Bs w u l) (hf : Formed u) : Src w u l.length (bytesC l) := by
  obtain ⟨A, c, rfl, hlc, hcell⟩ := h
  rcases hf with hf | ⟨a, n, c', hf⟩
  · injection hf with h1 h2 h3
    have : l = [] := List.eq_nil_of_length_eq_zero h2
    subst h1 h3 this
    exact .inl ⟨rfl, rfl, rfl⟩
  · injection hf with h1 h2 h3
    subst h1
    refine .inr ⟨a, c, rfl, fun j q hq => ?_⟩
    simp only [bytesC, List.getElem?_map, Option.map_eq_some_iff] at hq
    obtain ⟨b, hb, rfl⟩ := hq
    obtain ⟨hj, rfl⟩ := List.getElem?_eq_some_iff.1 hb
    obtain ⟨a', ha, hc⟩ := hcell (by omega)
    injection ha with ha
    subst ha
    exact hc j hj
theorem own_src {w : World} {B : Nat} {v : Value} {n : Nat} {e : TypeId} {size : Nat} {xs : List Value} (h : w.ownsRow B e size v n xs) : Src w v n xs := by
  have h1 := h.1
  rcases h.2 with ⟨rfl, rfl⟩ | ⟨g, cap, cur, rfl, _⟩
  · exact .inl ⟨rfl, rfl, List.eq_nil_of_length_eq_zero (by simpa using h1)⟩
  · refine .inr ⟨_, _, rfl, fun j q hq => ?_⟩
    exact h.cells (g := g) rfl j q hq
theorem own_bs {w : World} {B : Nat} {v : Value} {l : List UInt8} (h : w.ownsRow B 5 1 v l.length (bytesC l)) : Bs w v l := by
  rcases h.2 with ⟨rfl, h0⟩ | ⟨g, cap, cur, rfl, _, _, hn, _, _, _⟩
  · exact ⟨none, 0, by rw [h0], by omega, fun hp => by omega⟩
  · refine ⟨_, cap, rfl, hn, fun hp => ⟨_, rfl, fun j hj => ?_⟩⟩
    exact h.cells (g := g) rfl j _ (by simp [bytesC, hj])
end Go.Proofs.YtgffhjcnfjgpnaaDoor
