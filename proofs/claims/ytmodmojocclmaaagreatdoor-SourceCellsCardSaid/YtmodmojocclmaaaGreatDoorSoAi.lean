/- The machine of package source: what was printed is copied. -/
import Derived.Test.YtmodmojocclmaaaGreatDoorMg17
import Derived.Lib.AppendZeros
import Derived.Laws.AppendOwnNone
import Derived.OwnWalk
import Derived.Outline
namespace Go.Proofs.YtmodmojocclmaaaGreatDoor.K
open Go Go.RowKit
namespace So

def SrcV (w : World) (u : Value) (xs : List Value) : Prop :=
 (u = .slice none 0 0 ∧ xs = []) ∨ ∃ ad c, u = .slice (some ad) xs.length c ∧ xs.length ≤ c ∧ ∀ (j : Nat) q, xs[j]? = some q → w.cell? (ad.add j) = some q
theorem SrcV.keep {w w' : World} {u : Value} {xs : List Value} (h : SrcV w u xs) (hk : ∀ g, g < w.heap.size → w'.heap[g]? = w.heap[g]?) : SrcV w' u xs := by
 rcases h with h | ⟨ad, c, h1, h2, h3⟩
 ·exact .inl h
 ·refine .inr ⟨ad, c, h1, h2, fun j q hq => ?_⟩
  have h4 := h3 j q hq
  have h5 := World.block_lt_of_cell? w _ h4
  exact (World.cell?_of_block (w := w) (hk _ h5)).trans h4
theorem SrcV.later {w w' : World} {u : Value} {xs : List Value} (h : SrcV w u xs) (hb : Below w.heap.size w w') : SrcV w' u xs := h.keep hb.block
theorem grown_self (w : World) (row : Option Nat) : w.grownBy w row := ⟨rfl, rfl, rfl, Nat.le_refl _, fun _ _ _ => rfl⟩
theorem wpList_append_srcV {P : Program} {w : World} {ops : Array Oper} {rest : List Oper} {o : Oper} {a : Act} {Q : Exit → Act → World → Prop} (hgd : o.guard = none) (s x : Operand) (t : TypeId)
  (ho : o.op = .call { callee := .builtin .append, args := #[s, x], argTypes := #[t, t] })
  (base : Nat) (e : TypeId) (i : TypeInfo) (z : Value) (bytes : Nat) (ht : P.underlying t = some (.slice e)) (hi : P.info? e = some i) (hz : i.zero = some z)
  (hsize : i.size = 1) (hby : i.bytes = bytes) (hzs : z.cells.size = 1)
  (v : Value) (n : Nat) (xs : List Value) (hs : a.eval s = v) (hown : w.ownsRow base e 1 v n xs)
  (u : Value) (news : List Value) (hx : a.eval x = u) (hu : SrcV w u news) (h1 : ∀ q ∈ news, q.oneCell' = true)
  (h63 : n + news.length ≤ maxLen) (hbytes : (n + news.length) * bytes ≤ 140737488355328) (hbase : base ≤ w.heap.size)
  (h : ∀ v' w', w'.ownsRow base e 1 v' (n + news.length) (xs ++ news) → w.grownBy w' v.ownBlock → wpList P ops Q rest (a.put o.dst v') w') : wpList P ops Q (o :: rest) a w := by
 rcases hu with ⟨rfl, rfl⟩ | ⟨ad, c, rfl, _, hc⟩
 ·exact wpList_append_own_none hgd s x t ho base e i 1 ht hi v n xs hs hown hx (h v w (by simpa using hown) (grown_self _ _))
 ·exact wpList_append_own _ hgd s x t ho base e i z 1 bytes ht hi hz hsize hby hzs (by decide) v n xs hs hown ad news.length c news hx (by omega) hc h1 h63 hbytes hbase fun v' w' h2 h3 _ => h v' w' h2 h3
theorem own_row_src {w : World} {B : Nat} {v : Value} {n : Nat} {e : TypeId} {xs : List Value} (h : w.ownsRow B e 1 v n xs) : SrcV w v xs := by
 have h1 := h.1
 rcases h.2 with ⟨rfl, rfl⟩ | ⟨g, cap, cur, rfl, _, _, hc, _, _⟩
 ·exact .inl ⟨rfl, List.eq_nil_of_length_eq_zero (by simpa using h1)⟩
 ·exact .inr ⟨_, cap, by rw [h1, Nat.mul_one], by omega, fun j q hq => h.cells (g := g) rfl j q hq⟩

set_option maxRecDepth 100000 in
set_option maxHeartbeats 4000000 in
theorem clone_any (w : World) (lo : Nat) (v : Value) (xs : List Value) (hown : w.ownsRow lo 3 1 v xs.length xs) (h1 : ∀ q ∈ xs, q.oneCell' = true) (hn : xs.length ≤ 10000000) :
  Calls Tryz.prog 23 #[v] w fun e w' => ∃ v', e = .returned v' ∧ w'.ownsRow w.heap.size 3 1 v' xs.length xs ∧ Below w.heap.size w w' := by
 obtain ⟨i0, hi, hz0, hz1, hz2⟩ := info_i
 have hsr := own_row_src hown
 obtain ⟨A, n, c, rfl⟩ := own_slice hown
 cases A with
 | none =>
  have hnil : Value.slice none n c = .slice none 0 0 ∧ xs = [] := by
   rcases hsr with ⟨e1, e2⟩ | ⟨ad, c', e1, _⟩
   ·exact ⟨e1, e2⟩
   ·cases e1
  obtain ⟨e1, rfl⟩ := hnil
  rw [e1]
  clear hown hsr e1
  have hEq : ∀ W : World, (binOp .eql 22 (.slice none 0 0) (.slice none 0 0)).run Tryz.prog W = .ok (.bool true) W := fun W => by kernel_rfl
  go_enter Tryz.func23, Tryz.ntmps23
  go_wp2
  go_ret
  exact ⟨_, rfl, World.ownsRow_nil _ _ _ _, Below.refl _ _⟩
 | some ad =>
  have hsr2 : SrcV (w.alloc (.cells #[] 3)) (.slice (some ad) n c) xs := hsr.later (below_new w _)
  have hB0 : Below w.heap.size w (w.alloc (.cells #[] 3)) := below_new w _
  have ho0 : (w.alloc (.cells #[] 3)).ownsRow w.heap.size 3 1 (.slice (some ⟨w.heap.size, 0, none⟩) 0 0) 0 [] := ⟨rfl, .inr ⟨w.heap.size, 0, _, rfl, Nat.le_refl _, Lies.new _ _ _, Nat.zero_le _, Nat.zero_le _, rfl, rfl⟩⟩
  have HSR := Lib.hid hsr2
  have HB := Lib.hid hB0
  have HO := Lib.hid ho0
  have HH := Lib.hid h1
  clear hown hsr hsr2 hB0 ho0 h1
  have hEq : ∀ W : World, (binOp .eql 22 (.slice (some ad) n c) (.slice none 0 0)).run Tryz.prog W = .ok (.bool false) W := fun W => by kernel_rfl
  go_enter Tryz.func23, Tryz.ntmps23
  go_wp2_with (at_builtin; refine wpList_append_srcV rfl (.tmp 5) (.tmp 6) 22 rfl w.heap.size 3 i0 (.int .i64 0) 8 Tryz.underlying22 hi hz0 hz1 hz2 (by decide) _ 0 [] rfl HO.out _ xs rfl HSR.out HH.out (by unfold maxLen; omega) (by omega) (by simp) ?_; intro v' w' ho' hg'; have HO2 := Lib.hid ho'; have HG := Lib.hid hg'; clear ho' hg')
  go_ret
  have ho := HO2.out
  rw [Nat.zero_add, List.nil_append] at ho
  exact ⟨_, rfl, ho, HB.out.grown HG.out (by simp) (fun r hr => by cases hr; exact Nat.le_refl _)⟩
end So
end Go.Proofs.YtmodmojocclmaaaGreatDoor.K
