/- What Parse answers of the text of ParseDeclares, how its declarations lie, and rows of texts that grow. -/
import Derived.Test.YtboejbnkkhcccaaGreatDoorLpBase
import Derived.Test.YtboejbnkkhcccaaGreatDoorPzDecl
import Derived.Maps.AppendAt
namespace Go.Proofs.YtboejbnkkhcccaaGreatDoor
open Go.RowKit Pz

theorem effB_len (i : Nat) : (effB i).length ≤ 60 := by
  have := dgF_len 5 i
  unfold effB nmD nmO
  simp only [List.length_cons, List.length_append, List.length_nil]
  omega
theorem datB_len (i : Nat) : (datB i).length ≤ 60 := by
  have := dgF_len 5 i
  unfold datB nmD nmC
  simp only [List.length_cons, List.length_append, List.length_nil]
  omega
theorem decsB_len : ∀ (K : List Bool) (i : Nat), (decsB i K).length ≤ 60 * K.length
  | [], _ => by simp [decsB]
  | b :: K, i => by
    have := decsB_len K (i + 1)
    have h1 := effB_len i
    have h2 := datB_len i
    unfold decsB decB
    rw [List.length_append, List.length_cons]
    split <;> omega
def unitB : List UInt8 := [40, 41]
set_option maxRecDepth 10000 in
theorem decs_parse (K : List Bool) (hK : K.length ≤ 20) : ∃ p, parseR (decsB 0 K ++ unitB) = (⟨(idxs true 0 K).map effT, (idxs false 0 K).map datT, .mk 4 p [] [] 0 [] []⟩, 0, 0) := by
  obtain ⟨ws, tl, h1, h2, p, q, rfl⟩ := lex_decs unitB none (fun tl => ∃ p q, tl = [⟨5, tOpen, 0, p⟩, ⟨5, tShut, 0, q⟩]) (fun p => ⟨_, Lexes.tok (l := unitB) (x := ⟨5, tOpen, 0, 0⟩) (m := 1) rfl rfl (Lexes.tok (x := ⟨5, tShut, 0, 0⟩) (m := 1) rfl rfl (.done _ _ rfl)), _, _, rfl⟩) K 0 0 (by omega)
  have hl := decsB_len K 0
  have hlen : (decsB 0 K ++ unitB).length ≤ 10000 := by
    rw [List.length_append]
    show _ + 2 ≤ _
    omega
  refine ⟨p, (parseR_ok (lexR_ok (by omega) h1)).trans (parseW_ok (decs_program (decsB 0 K ++ unitB).length p q K ws h2) rfl ?_)⟩
  show ¬ 200 < Tm.deep _
  rw [deep_leaf]
  omega

theorem flatten_at {α : Type} (n : Nat) : ∀ (xs : List (List α)), (∀ x ∈ xs, x.length = n) → ∀ (i : Nat) x, xs[i]? = some x → ∀ j, j < n → xs.flatten[i * n + j]? = x[j]?
  | [], _, i, x, h, _, _ => by simp at h
  | y :: r, hl, 0, x, h, j, hj => by
    simp only [List.getElem?_cons_zero, Option.some.injEq] at h
    subst h
    rw [List.flatten_cons, Nat.zero_mul, Nat.zero_add, List.getElem?_append_left (by rw [hl y (by simp)]; exact hj)]
  | y :: r, hl, i + 1, x, h, j, hj => by
    have hy := hl y (by simp)
    have := flatten_at n r (fun z hz => hl z (by simp [hz])) i x (by simpa using h) j hj
    rw [List.flatten_cons, List.getElem?_append_right (by rw [hy, Nat.succ_mul]; omega), hy, show (i + 1) * n + j - n = i * n + j by rw [Nat.succ_mul]; omega]
    exact this
/-- Two lists of declarations, as a program has them. -/
theorem open_decls {w : World} {P : Nat → Prop} {E D : List Nat} {t : Tm} {l : List Value} (h : PgIt w P ⟨E.map effT, D.map datT, t⟩ l) :
    ∃ A ca B cb b, l = pgC (.slice A E.length ca) (.slice B D.length cb) b ∧ HT w P t b ∧ E.length ≤ ca ∧ D.length ≤ cb ∧
    (0 < E.length → ∃ ge, A = some ⟨ge, 0, none⟩ ∧ ∀ (i x : Nat), E[i]? = some x → ∃ go co, w.cell? ⟨ge, i * 2, none⟩ = some (.string (ba (nmD x))) ∧ w.cell? ⟨ge, i * 2 + 1, none⟩ = some (.slice (some ⟨go, 0, none⟩) 1 co) ∧ 1 ≤ co ∧
      w.cell? ⟨go, 0, none⟩ = some (.string (ba (nmO x))) ∧ w.cell? ⟨go, 1, none⟩ = some (.int .i64 1) ∧ w.cell? ⟨go, 8, none⟩ = some (.string (ba (nmD x)))) ∧
    (0 < D.length → ∃ ge, B = some ⟨ge, 0, none⟩ ∧ ∀ (i x : Nat), D[i]? = some x → ∃ go co gf cf, w.cell? ⟨ge, i * 2, none⟩ = some (.string (ba (nmD x))) ∧ w.cell? ⟨ge, i * 2 + 1, none⟩ = some (.slice (some ⟨go, 0, none⟩) 1 co) ∧ 1 ≤ co ∧
      w.cell? ⟨go, 0, none⟩ = some (.string (ba (nmC x))) ∧ w.cell? ⟨go, 1, none⟩ = some (.slice (some ⟨gf, 0, none⟩) 2 cf) ∧ 2 ≤ cf ∧ w.cell? ⟨gf, 6, none⟩ = some (.int .i64 3)) := by
  obtain ⟨ev, dv, b, xs, ys, rfl, hx1, hx2, hx3, hy1, hy2, hy3, hT⟩ := h
  dsimp only at hx1 hx2 hx3 hy1 hy2 hy3 hT
  rw [List.length_map] at hx1 hx2 hy1 hy2
  have hxl : ∀ x ∈ xs, x.length = 2 := by
    intro x hx
    obtain ⟨i, hi⟩ := List.mem_iff_getElem?.1 hx
    have hlt := (List.getElem?_eq_some_iff.1 hi).1
    obtain ⟨e, he⟩ : ∃ e, (E.map effT)[i]? = some e := ⟨_, List.getElem?_eq_getElem (by rw [List.length_map]; omega)⟩
    exact efOK.len (hx3 i e x he hi)
  have hyl : ∀ x ∈ ys, x.length = 2 := by
    intro x hx
    obtain ⟨i, hi⟩ := List.mem_iff_getElem?.1 hx
    have hlt := (List.getElem?_eq_some_iff.1 hi).1
    obtain ⟨e, he⟩ : ∃ e, (D.map datT)[i]? = some e := ⟨_, List.getElem?_eq_getElem (by rw [List.length_map]; omega)⟩
    exact daOK.len (hy3 i e x he hi)
  obtain ⟨A, ca, hev, hca, hA⟩ : ∃ A ca, ev = .slice A E.length ca ∧ E.length ≤ ca ∧ (0 < E.length → ∃ ge, A = some ⟨ge, 0, none⟩ ∧ ∀ j u, xs.flatten[j]? = some u → w.cell? ⟨ge, j, none⟩ = some u) := by
    rcases own_cells hx2 with ⟨h1, h0⟩ | ⟨ge, ce, h1, hce, _, _, hc⟩
    · exact ⟨none, 0, by rw [h1, h0], by omega, fun h => by omega⟩
    · exact ⟨_, ce, h1, hce, fun _ => ⟨ge, rfl, hc⟩⟩
  obtain ⟨B, cb, hdv, hcb, hB⟩ : ∃ A ca, dv = .slice A D.length ca ∧ D.length ≤ ca ∧ (0 < D.length → ∃ ge, A = some ⟨ge, 0, none⟩ ∧ ∀ j u, ys.flatten[j]? = some u → w.cell? ⟨ge, j, none⟩ = some u) := by
    rcases own_cells hy2 with ⟨h1, h0⟩ | ⟨ge, ce, h1, hce, _, _, hc⟩
    · exact ⟨none, 0, by rw [h1, h0], by omega, fun h => by omega⟩
    · exact ⟨_, ce, h1, hce, fun _ => ⟨ge, rfl, hc⟩⟩
  refine ⟨A, ca, B, cb, b, by rw [hev, hdv], hT, hca, hcb, fun h0 => ?_, fun h0 => ?_⟩
  · obtain ⟨ge, rfl, hc⟩ := hA h0
    refine ⟨ge, rfl, fun i x hi => ?_⟩
    have hi2 : (E.map effT)[i]? = some (effT x) := by rw [List.getElem?_map, hi]; rfl
    have hlt := (List.getElem?_eq_some_iff.1 hi).1
    obtain ⟨m, hm⟩ : ∃ m, xs[i]? = some m := ⟨_, List.getElem?_eq_getElem (by omega)⟩
    obtain ⟨v, ss, rfl, hs1, hs2, hs3⟩ := hx3 i _ m hi2 hm
    have hs1' : ss.length = 1 := hs1
    obtain ⟨q, rfl⟩ : ∃ q, ss = [q] := by
      match ss, hs1' with
      | [q], _ => exact ⟨q, rfl⟩
    have hq : q = sgC (nmO x) (1, []) (4, nmD x) := hs3 0 _ q rfl rfl
    subst hq
    have f0 := flatten_at 2 xs hxl i _ hm 0 (by decide)
    have f1 := flatten_at 2 xs hxl i _ hm 1 (by decide)
    rcases own_cells hs2 with ⟨_, h0⟩ | ⟨go, co, rfl, hco, _, _, hcO⟩
    · cases h0
    · exact ⟨go, co, hc _ _ f0, hc _ _ f1, hco, hcO 0 _ rfl, hcO 1 _ rfl, hcO 8 _ rfl⟩
  · obtain ⟨ge, rfl, hc⟩ := hB h0
    refine ⟨ge, rfl, fun i x hi => ?_⟩
    have hi2 : (D.map datT)[i]? = some (datT x) := by rw [List.getElem?_map, hi]; rfl
    have hlt := (List.getElem?_eq_some_iff.1 hi).1
    obtain ⟨m, hm⟩ : ∃ m, ys[i]? = some m := ⟨_, List.getElem?_eq_getElem (by omega)⟩
    obtain ⟨v, ss, rfl, hs1, hs2, hs3⟩ := hy3 i _ m hi2 hm
    have hs1' : ss.length = 1 := hs1
    obtain ⟨q, rfl⟩ : ∃ q, ss = [q] := by
      match ss, hs1' with
      | [q], _ => exact ⟨q, rfl⟩
    obtain ⟨v2, rfl, hv2⟩ := hs3 0 _ q rfl rfl
    have f0 := flatten_at 2 ys hyl i _ hm 0 (by decide)
    have f1 := flatten_at 2 ys hyl i _ hm 1 (by decide)
    rcases own_cells hs2 with ⟨_, h0⟩ | ⟨go, co, rfl, hco, _, _, hcO⟩
    · cases h0
    · rcases own_cells hv2 with ⟨_, h0⟩ | ⟨gf, cf, rfl, hcf, _, _, hcF⟩
      · cases h0
      · exact ⟨go, co, gf, cf, hc _ _ f0, hc _ _ f1, hco, hcO 0 _ rfl, hcO 1 _ rfl, hcf, hcF 6 _ rfl⟩

def strV (l : List UInt8) : Value := .string (ba l)
-- a text appended to a row of own
set_option maxRecDepth 100000 in
theorem wpList_append_text {w : World} {ops : Array Oper} {rest : List Oper} {o : Oper} {a : Act} {Q : Exit → Act → World → Prop} (hgd : o.guard = none) (s x : Operand)
    (ho : o.op = .call { callee := .builtin .append, args := #[s, x], argTypes := #[33, 33] })
    (base : Nat) (v : Value) (n : Nat) (xs : List (List UInt8)) (hs : a.eval s = v) (hown : w.ownsRow base 9 1 v n (xs.map strV)) (ad : Addr) (c : Nat) (y : List UInt8) (hx : a.eval x = .slice (some ad) 1 c) (hc : w.cell? ad = some (.string (ba y)))
    (hn : n ≤ 1000) (hbase : base ≤ w.heap.size)
    (h : ∀ v' w', w'.ownsRow base 9 1 v' (n + 1) ((xs ++ [y]).map strV) → w.grownBy w' v.ownBlock → (v'.ownBlock = v.ownBlock ∨ v'.ownBlock = some w.heap.size) → wpList Tryz.prog ops Q rest (a.put o.dst v') w') :
    wpList Tryz.prog ops Q (o :: rest) a w := by
  obtain ⟨i0, hi, hz0, hz1, hz2⟩ := info_parts info_str
  refine wpList_append_own_at w hgd s x 33 ho base 9 i0 (.string ⟨#[]⟩) 1 16 Tryz.underlying33 hi hz0 hz1 hz2 rfl (by decide) v n (xs.map strV) hs hown ad 1 c ([y].map strV) hx rfl ?_ ?_ (by unfold maxLen; omega) (by omega) hbase ?_
  · intro j u hj
    cases j with
    | zero =>
      simp only [List.map_cons, List.map_nil, List.getElem?_cons_zero, Option.some.injEq] at hj
      subst hj
      rw [Addr.add_zero']
      exact hc
    | succ j => simp at hj
  · intro u hu
    simp only [List.map_cons, List.map_nil, List.mem_singleton] at hu
    subst hu
    rfl
  · intro v' w' h1 h2 _ h4
    exact h v' w' (by rw [List.map_append]; exact h1) h2 h4
theorem own_keep {w w' : World} {B : Nat} {e : TypeId} {size n : Nat} {v : Value} {xs : List Value} (h : w.ownsRow B e size v n xs) (hk : ∀ g, v.ownBlock = some g → w'.heap[g]? = w.heap[g]?) : w'.ownsRow B e size v n xs := by
  refine ⟨h.1, ?_⟩
  rcases h.2 with h0 | ⟨g, cap, cur, rfl, h2, h3, h4⟩
  · exact .inl h0
  · exact .inr ⟨g, cap, cur, rfl, h2, (hk g rfl).trans h3, h4⟩
end Go.Proofs.YtboejbnkkhcccaaGreatDoor
