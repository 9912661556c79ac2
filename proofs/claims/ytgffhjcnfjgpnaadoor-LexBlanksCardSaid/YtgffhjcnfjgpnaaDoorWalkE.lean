/- Contracts of package lex, fifth part: the table. -/
import Derived.Test.YtgffhjcnfjgpnaaDoorWalkD
namespace Go.Proofs.YtgffhjcnfjgpnaaDoor
open Go.RowKit

/-- A block that is known whole, none of it frozen. -/
def Lies (w : World) (g : Nat) (t : TypeId) (cs : Array Value) : Prop := w.heap[g]? = some (.cells cs t (0, 0))
theorem Lies.lt {w : World} {g : Nat} {t : TypeId} {cs : Array Value} (h : Lies w g t cs) : g < w.heap.size := lt_of_block h
theorem Lies.cell {w : World} {g : Nat} {t : TypeId} {cs : Array Value} (h : Lies w g t cs) (i : Nat) : w.cell? ⟨g, i, none⟩ = cs[i]? := cell_of_row w g i cs t (0, 0) h
theorem Lies.free {w : World} {g : Nat} {t : TypeId} {cs : Array Value} (h : Lies w g t cs) (i : Nat) : w.frozen? ⟨g, i, none⟩ = false := by
  unfold Lies at h
  simp [World.frozen?, h]
theorem Lies.new (w : World) (t : TypeId) (cs : Array Value) : Lies (w.alloc (.cells cs t)) w.heap.size t cs := heap_alloc_new w _
theorem Lies.alloc {w : World} {g : Nat} {t : TypeId} {cs : Array Value} (h : Lies w g t cs) (o : Obj) : Lies (w.alloc o) g t cs := (Below.heap_alloc w o g h.lt).trans h
theorem Lies.below {w w' : World} {g : Nat} {t : TypeId} {cs : Array Value} (h : Lies w g t cs) {B : Nat} (hb : Below B w w') (hg : g < B) : Lies w' g t cs := (hb.block g hg).trans h
theorem Lies.later {w w' : World} {g : Nat} {t : TypeId} {cs : Array Value} (h : Lies w g t cs) (hb : Below w.heap.size w w') : Lies w' g t cs := h.below hb h.lt
theorem Lies.grown {w w' : World} {g : Nat} {t : TypeId} {cs : Array Value} (h : Lies w g t cs) {row : Option Nat} (hb : w.grownBy w' row) (hg : some g ≠ row) : Lies w' g t cs := (hb.block g h.lt hg).trans h
theorem Lies.far {w : World} {g : Nat} {t : TypeId} {cs : Array Value} (h : Lies w g t cs) {p : Addr} (hp : g ≠ p.block) (u : Value) : Lies (w.setCell p u) g t cs := (Below.heap_setCell w p u g hp).trans h
theorem Lies.apart {w : World} {g : Nat} {t : TypeId} {cs : Array Value} (h : Lies w g t cs) {base : Nat} {e : TypeId} {size n : Nat} {v : Value} {xs : List Value} (ho : w.ownsRow base e size v n xs) (hne : e ≠ t) : some g ≠ v.ownBlock := by
  rcases ho.2 with ⟨rfl, _⟩ | ⟨g', cap, cur, rfl, _, hh, _⟩
  · simp [Value.ownBlock]
  · intro he
    have : g = g' := by simpa [Value.ownBlock] using he
    subst this
    unfold Lies at h
    rw [h] at hh
    injection hh with hh
    injection hh with _ ht
    exact hne ht.symm

def sgnL : List (List UInt8) := [[45, 62], [58, 61], [40], [41], [123], [125], [44], [59], [58], [61], [43], [45], [42], [47], [60], [33]]
def sgn (k : Nat) : List UInt8 := sgnL.getD k []
def sgnD : Array Value := #[.string ⟨#[45, 62]⟩, .string ⟨#[58, 61]⟩, .string ⟨#[40]⟩, .string ⟨#[41]⟩, .string ⟨#[123]⟩, .string ⟨#[125]⟩, .string ⟨#[44]⟩, .string ⟨#[59]⟩, .string ⟨#[58]⟩, .string ⟨#[61]⟩, .string ⟨#[43]⟩, .string ⟨#[45]⟩, .string ⟨#[42]⟩, .string ⟨#[47]⟩, .string ⟨#[60]⟩, .string ⟨#[33]⟩]
theorem sgn_at (k : Nat) (hk : k < 16) (w : World) : (Instr.index 62 (.agg sgnD) (.int .i64 (k : Int))).run Tryd.prog w = .ok (.string (ba (sgn k))) w := by
  rcases (show k = 0 ∨ k = 1 ∨ k = 2 ∨ k = 3 ∨ k = 4 ∨ k = 5 ∨ k = 6 ∨ k = 7 ∨ k = 8 ∨ k = 9 ∨ k = 10 ∨ k = 11 ∨ k = 12 ∨ k = 13 ∨ k = 14 ∨ k = 15 by omega) with rfl | rfl | rfl | rfl | rfl | rfl | rfl | rfl | rfl | rfl | rfl | rfl | rfl | rfl | rfl | rfl <;> kernel_rfl

theorem Tryd.info61 : (Tryd.prog.info? 61).map (fun i => (i.zero, i.size, i.bytes)) = some (some (.agg #[.nilFunc, .nilFunc]), 2, 16) := by kernel_rfl

theorem heap_alloc_some {w : World} {g : Nat} {x : Obj} (h : w.heap[g]? = some x) (o : Obj) : (w.alloc o).heap[g]? = some x := (Below.heap_alloc w o g (lt_of_block h)).trans h

theorem Lies.new' (w : World) (t : TypeId) (cs : Array Value) {N : Nat} (hN : w.heap.size = N) : Lies (w.alloc (.cells cs t)) N t cs := by subst hN; exact Lies.new w t cs
theorem new_two (w : World) (t : TypeId) (a b : Value) {N : Nat} (hN : w.heap.size = N) : ∀ j u, [a, b][j]? = some u → (w.alloc (.cells #[a, b] t)).cell? ((⟨N, 0, none⟩ : Addr).add j) = some u := by
  intro j u hj
  have h := Lies.new' w t #[a, b] hN
  match j, hj with
  | 0, hj => have := h.cell 0; simp at hj; subst hj; simpa [Addr.add] using this
  | 1, hj => have := h.cell 1; simp at hj; subst hj; simpa [Addr.add] using this
theorem own_lit {B : Nat} (w : World) (a b c d : Value) {t : TypeId} {N : Nat} (hN : w.heap.size = N) (hB : B ≤ N) : (w.alloc (.cells #[a, b, c, d] t)).ownsRow B t 2 (.slice (some ⟨N, 0, none⟩) 2 2) 2 [a, b, c, d] :=
  ⟨rfl, .inr ⟨N, 2, _, rfl, hB, Lies.new' w t _ hN, by omega, by decide, rfl, rfl⟩⟩
def Row0 (w : World) (F G : Value) : Prop := ∃ a b c d, F = .func (.func 31) #[] #[.pointer (some ⟨a, 0, none⟩)] ∧ Lies w a 53 #[fun30 ⟨b, 0, none⟩] ∧ Lies w b 9 #[.string digD] ∧
  G = .func (.func 22) #[] #[.pointer (some ⟨c, 0, none⟩)] ∧ Lies w c 53 #[fun30 ⟨d, 0, none⟩] ∧ Lies w d 9 #[.string digD]
def Row1 (w : World) (F G : Value) : Prop := ∃ a b c d, F = .func (.func 31) #[] #[.pointer (some ⟨a, 0, none⟩)] ∧ Lies w a 53 #[fun30 ⟨b, 0, none⟩] ∧ Lies w b 9 #[.string letD] ∧
  G = .func (.func 25) #[] #[.pointer (some ⟨c, 0, none⟩)] ∧ Lies w c 53 #[fun30 ⟨d, 0, none⟩] ∧ Lies w d 9 #[.string insD]
def RowS (w : World) (k : Nat) (F G : Value) : Prop := ∃ N, F = signF1 N ∧ G = signF2 N ∧ Lies w N 9 #[.string (ba (sgn k))] ∧ Lies w (N + 1 + 1) 31 #[.int .i64 5, .string (ba (sgn k)), .int .i64 0, .int .i64 0]
def RowAt (w : World) : Nat → Value → Value → Prop
  | 0 => Row0 w
  | 1 => Row1 w
  | k + 2 => RowS w k
theorem RowAt.keep {w w' : World} (hk : ∀ g t cs, t ≠ 61 → Lies w g t cs → Lies w' g t cs) : ∀ {k : Nat} {F G : Value}, RowAt w k F G → RowAt w' k F G
  | 0, _, _, ⟨a, b, c, d, e, h1, h2, f, h3, h4⟩ => ⟨a, b, c, d, e, hk _ _ _ (by decide) h1, hk _ _ _ (by decide) h2, f, hk _ _ _ (by decide) h3, hk _ _ _ (by decide) h4⟩
  | 1, _, _, ⟨a, b, c, d, e, h1, h2, f, h3, h4⟩ => ⟨a, b, c, d, e, hk _ _ _ (by decide) h1, hk _ _ _ (by decide) h2, f, hk _ _ _ (by decide) h3, hk _ _ _ (by decide) h4⟩
  | _ + 2, _, _, ⟨N, e, f, h1, h2⟩ => ⟨N, e, f, hk _ _ _ (by decide) h1, hk _ _ _ (by decide) h2⟩
theorem RowAt.one {w : World} {k : Nat} {F G : Value} (h : RowAt w k F G) : F.oneCell' = true ∧ G.oneCell' = true := by
  match k, h with
  | 0, ⟨a, b, c, d, e, h1, h2, f, h3, h4⟩ => subst e; subst f; exact ⟨rfl, rfl⟩
  | 1, ⟨a, b, c, d, e, h1, h2, f, h3, h4⟩ => subst e; subst f; exact ⟨rfl, rfl⟩
  | _ + 2, ⟨N, e, f, h1, h2⟩ => subst e; subst f; exact ⟨rfl, rfl⟩

/-- The table's first rows lie in a slice of the call's own. -/
def Tab (w : World) (B : Nat) (v : Value) (n : Nat) : Prop :=
  ∃ rows : List (Value × Value), rows.length = n ∧ w.ownsRow B 61 2 v n (rows.flatMap fun r => [r.1, r.2]) ∧ ∀ k r, rows[k]? = some r → RowAt w k r.1 r.2
theorem Tab.step {w w1 w2 : World} {B n N : Nat} {v v' : Value} {rows : List (Value × Value)}
    (hlen : rows.length = n + 2) (hrow : ∀ k r, rows[k]? = some r → RowAt w k r.1 r.2)
    (hb : Below w.heap.size w w1) (hown1 : w1.ownsRow B 61 2 v (n + 2) (rows.flatMap fun r => [r.1, r.2]))
    (h1 : Lies w1 N 9 #[.string (ba (sgn n))]) (h2 : Lies w1 (N + 1 + 1) 31 #[.int .i64 5, .string (ba (sgn n)), .int .i64 0, .int .i64 0])
    (hown : w2.ownsRow B 61 2 v' (n + 2 + 1) ((rows.flatMap fun r => [r.1, r.2]) ++ [signF1 N, signF2 N])) (hg : w1.grownBy w2 v.ownBlock) : Tab w2 B v' (n + 1 + 2) := by
  refine ⟨rows ++ [(signF1 N, signF2 N)], by simp [hlen], by simpa using hown, fun k r hr => ?_⟩
  have hk2 : ∀ g t cs, t ≠ 61 → Lies w1 g t cs → Lies w2 g t cs := fun g t cs ht h => h.grown hg (h.apart hown1 (Ne.symm ht))
  rcases Nat.lt_or_ge k rows.length with hk | hk
  · rw [List.getElem?_append_left hk] at hr
    exact ((hrow k r hr).keep fun g t cs _ h => h.later hb).keep hk2
  · rw [List.getElem?_append_right hk] at hr
    have hk0 : k - rows.length = 0 := by
      rcases Nat.eq_zero_or_pos (k - rows.length) with h | h
      · exact h
      · rw [List.getElem?_eq_none (by simp <;> omega)] at hr; cases hr
    rw [hk0] at hr
    simp at hr
    subst hr
    have : k = n + 2 := by omega
    subst this
    exact ⟨N, rfl, rfl, hk2 _ _ _ (by decide) h1, hk2 _ _ _ (by decide) h2⟩

set_option maxRecDepth 100000 in
set_option maxHeartbeats 2000000 in
theorem kinds_any (w : World) (t : TypeId) (fr : Nat × Nat) (hg : w.heap[0]? = some (.cells sgnD t fr)) :
    Calls Tryd.prog 14 #[] w fun e w' => ∃ v, e = .returned v ∧ Tab w' w.heap.size v 18 ∧ Below w.heap.size w w' := by
  obtain ⟨i0, hi, hz0, hz1, hz2⟩ := info_parts Tryd.info61
  go_enter Tryd.func14, Tryd.ntmps14
  go_wp2_with (first | (go_at_call 20; refine (within_any _ _).mono ?_; rintro e w' ⟨rfl, rfl⟩) | (go_at_call 21; refine (ahead_any _ _).mono ?_; rintro e w' ⟨rfl, rfl⟩) | (refine wpList_load_row rfl 62 (.global 0) rfl 0 rfl t sgnD fr _ (by repeat (first | exact hg | refine heap_alloc_some ?_ _)) Tryd.underlying62 rfl (by kernel_rfl) ?_))
  go_loopw [4, 20] (fun v i wr => ∃ k : Nat, k ≤ 16 ∧ i = .int .i64 k ∧ Tab wr w.heap.size v (k + 2) ∧ Below w.heap.size w wr) (fun _ i _ => 16 - (intOf i).toNat)
  case atStart =>
    refine ⟨0, by omega, rfl, ⟨[(.func (.func 31) #[] #[.pointer (some ⟨w.heap.size + 1 + 1 + 1 + 1 + 1, 0, none⟩)], .func (.func 22) #[] #[.pointer (some ⟨w.heap.size + 1 + 1 + 1, 0, none⟩)]),
      (.func (.func 31) #[] #[.pointer (some ⟨w.heap.size + 1 + 1 + 1 + 1 + 1 + 1, 0, none⟩)], .func (.func 25) #[] #[.pointer (some ⟨w.heap.size + 1 + 1 + 1 + 1, 0, none⟩)])], rfl, ?_, ?_⟩, ?_⟩
    · exact own_lit _ _ _ _ _ (by simp) (by omega)
    · intro k r hr
      match k, hr with
      | 0, hr =>
        simp at hr; subst hr
        exact ⟨_, w.heap.size, _, w.heap.size, rfl, ((Lies.new' _ _ _ (by simp)).alloc _).alloc _, (((((((Lies.new' _ _ _ rfl).alloc _).alloc _).alloc _).alloc _).alloc _).alloc _).alloc _, rfl, ((((Lies.new' _ _ _ (by simp)).alloc _).alloc _).alloc _).alloc _, (((((((Lies.new' _ _ _ rfl).alloc _).alloc _).alloc _).alloc _).alloc _).alloc _).alloc _⟩
      | 1, hr =>
        simp at hr; subst hr
        exact ⟨_, w.heap.size + 1, _, w.heap.size + 1 + 1, rfl, (Lies.new' _ _ _ (by simp)).alloc _, ((((((Lies.new' _ _ _ (by simp)).alloc _).alloc _).alloc _).alloc _).alloc _).alloc _, rfl, (((Lies.new' _ _ _ (by simp)).alloc _).alloc _).alloc _, (((((Lies.new' _ _ _ (by simp)).alloc _).alloc _).alloc _).alloc _).alloc _⟩
      | k + 2, hr => simp at hr
    · exact ((((((((Below.refl _ _).alloc (by simp) _).alloc (by simp <;> omega) _).alloc (by simp <;> omega) _).alloc (by simp <;> omega) _).alloc (by simp <;> omega) _).alloc (by simp <;> omega) _).alloc (by simp <;> omega) _).alloc (by simp <;> omega) _
  case round =>
    rename_i wr
    obtain ⟨k, hk, rfl, ⟨rows, hlen, hown, hrow⟩, hnx⟩ := hrel
    by_cases hlt : k < 16
    · have hidx := sgn_at k hlt
      have HB := Lib.hid hlen
      clear hlen
      have HR := Lib.hid hrow
      clear hrow
      have hsz := hnx.size
      go_wp2_with (first | (go_at_call 27; refine (signKind_any _ _).mono ?_; rintro e w' ⟨rfl, rfl⟩; unfold signF1 signF2) | (at_builtin; go_loud (refine wpList_append_own _ rfl (.tmp 23) (.tmp 26) 39 rfl w.heap.size 61 i0 (.agg #[.nilFunc, .nilFunc]) 2 16 Tryd.underlying39 hi hz0 hz1 hz2 rfl (by decide) _ _ _ rfl ((((hown.alloc _).alloc _).alloc _).alloc _) ⟨wr.heap.size + 1 + 1 + 1, 0, none⟩ 1 1 [signF1 wr.heap.size, signF2 wr.heap.size] rfl rfl ?c1 ?c2 ?c3 ?c4 ?c5 ?_)))
      case c1 => exact new_two _ _ _ _ (by simp)
      case c2 =>
        intro u hu
        simp only [List.mem_cons, List.not_mem_nil, or_false] at hu
        rcases hu with rfl | rfl <;> rfl
      case c3 => unfold maxLen; omega
      case c4 => omega
      case c5 => simp; omega
      intro v' w2 hown2 hgrow _
      have hT := Tab.step (N := wr.heap.size) HB.out HR.out (((((Below.refl _ wr).alloc (by simp) _).alloc (by simp) _).alloc (by simp <;> omega) _).alloc (by simp <;> omega) _) ((((hown.alloc _).alloc _).alloc _).alloc _)
        ((((Lies.new wr 9 _).alloc _).alloc _).alloc _) ((Lies.new' _ 31 _ (by simp)).alloc _) hown2 hgrow
      have hN := (((((hnx.alloc (by omega) _).alloc (by simp <;> omega) _).alloc (by simp <;> omega) _).alloc (by simp <;> omega) _).grown hgrow (by simp <;> omega) (fun g hg => (hown.lt g hg).1))
      clear hown2 hgrow hown hnx hidx
      go_wp2
      go_roundw
      case rel => exact ⟨k + 1, by omega, by go_num, hT, hN⟩
      case measure => simp [intOf]; omega
    · have h16 : k = 16 := by omega
      subst h16
      go_wp2
      go_ret
      exact ⟨_, rfl, ⟨rows, hlen, hown, hrow⟩, hnx⟩
end Go.Proofs.YtgffhjcnfjgpnaaDoor
