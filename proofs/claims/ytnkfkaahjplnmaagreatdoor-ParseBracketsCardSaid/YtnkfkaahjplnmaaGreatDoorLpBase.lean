/- What the walks of layer 2's laws share. -/
import Derived.Test.YtnkfkaahjplnmaaGreatDoorSha
import Derived.Test.YtnkfkaahjplnmaaGreatDoorCv
import Derived.Outline
namespace Go.Proofs.YtnkfkaahjplnmaaGreatDoor
open Go.RowKit Pz

/-- What a store of a program asks. -/
theorem pg_store {w : World} {P : Nat → Prop} {p : Prog} {l : List Value} (h : PgIt w P p l) : l.toArray.all (·.oneCell') = true ∧ (Tryz.prog.info? 41).map (·.size) = some l.toArray.size ∧ zP.size = l.toArray.size := by
  have hlen := pgOK.len h
  exact ⟨all_oneCell_toArray (pgOK.one h), by rw [szPg]; simp [hlen], by simp [hlen, zP]⟩
theorem Ts.own {w : World} {B : Nat} {v : Value} {ws : List Lx.Tk} (h : w.ownsRow B 47 4 v ws.length (wordsC ws)) : Ts w v ws := by
  rcases h.2 with ⟨rfl, h0⟩ | ⟨g, cap, cur, rfl, hg, hh, hn, hm, hs, ht⟩
  · exact ⟨none, 0, by rw [h0], by omega, fun hp => by omega⟩
  · refine ⟨_, cap, rfl, hn, fun hp => ⟨g, 0, rfl, fun j u hj => ?_⟩⟩
    have hj4 : j < ws.length * 4 := by
      have := (List.getElem?_eq_some_iff.1 hj).1
      rw [h.1] at this
      exact this
    have := h.cellAt j hj4
    simp only [Nat.zero_add]
    rw [this, hj]

theorem wpList_load_midG {P : Program} {ops : Array Oper} {rest : List Oper} {op : Oper} {a : Act} {w : World} {Q : Exit → Act → World → Prop} (hw : Region.wanted op (yielded ops a.tmps) = true) (ty : TypeId) (x : Operand) (ho : op.op = .load ty x)
    (b o : Nat) (hx : a.eval x = .pointer (some ⟨b, o, none⟩)) (cs : List Value) (d : TypeDesc) (hc : w.rangeAt b o cs)
    (hu : P.underlying ty = some d) (hd : d.isRow = true) (hi : (P.info? ty).map (·.size) = some cs.length)
    (h : wpList P ops Q rest (a.put op.dst (.agg cs.toArray)) w) : wpList P ops Q (op :: rest) a w :=
  wpList_step fun K hK => by rw [if_pos hw]; exact wp_load_mid ty x ho b o hx cs d hc hu hd hi (hK _ _ h)
theorem open_body {w : World} {P : Nat → Prop} {p : Prog} {l : List Value} (h : PgIt w P p l) : ∃ ev dv b, l = [ev, dv] ++ b ∧ HT w P p.body b := by
  obtain ⟨ev, dv, b, xs, ys, rfl, _, _, _, _, _, _, hT⟩ := h
  exact ⟨ev, dv, b, rfl, hT⟩
theorem HT.kind0 {w : World} {P : Nat → Prop} {b : List Value} (h : HT w P Tm.zero b) : b[0]? = some (.int .i64 0) := by
  unfold Tm.zero at h
  cases h
  rfl
end Go.Proofs.YtnkfkaahjplnmaaGreatDoor
