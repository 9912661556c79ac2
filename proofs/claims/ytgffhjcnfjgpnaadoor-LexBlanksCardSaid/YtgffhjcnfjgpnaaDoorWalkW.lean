/- The contract of shown: what must be in any case. -/
import Derived.Test.YtgffhjcnfjgpnaaDoorWalkV
import Derived.Lib.SmallJoins
namespace Go.Proofs.YtgffhjcnfjgpnaaDoor
open Go.RowKit

def src1 : List UInt8 := [103, 101, 116, 33, 120, 45, 62, 121, 32, 35, 32, 110, 111, 116, 101, 10, 32, 102, 32, 33, 120, 32, 49, 50]
def src2 : List UInt8 := [97, 32, 36]
def ws1 : List Lx.Tk := [⟨6, [103, 101, 116], 0, 0⟩, ⟨2, [120], 0, 4⟩, ⟨5, [45, 62], 0, 5⟩, ⟨2, [121], 0, 7⟩, ⟨2, [102], 0, 17⟩, ⟨5, [33], 0, 19⟩, ⟨2, [120], 0, 20⟩, ⟨1, [49, 50], 12, 22⟩]
theorem lex_src1 : lexR src1 = (ws1, 0, 0) := by kernel_rfl
theorem lex_src2 : lexR src2 = ([], 2, 2) := by kernel_rfl
theorem text_ws1 : textF ws1 = [103, 101, 116, 33, 32, 120, 32, 45, 62, 32, 121, 32, 102, 32, 33, 32, 120, 32, 49, 50] := by kernel_rfl

theorem Bs.lit (w : World) (l : List UInt8) (cs : Array Value) (fr : Nat × Nat) {N n : Nat} (hN : w.heap.size = N) (hn : n = l.length) (hcs : cs = (l.map fun b => Value.int .u8 (b.toNat : Int)).toArray) : Bs (w.alloc (.cells cs 5 fr)) (.slice (some ⟨N, 0, none⟩) n n) l := by
  subst hn
  refine ⟨_, _, rfl, Nat.le_refl _, fun _ => ⟨_, rfl, fun j hj => ?_⟩⟩
  have h := Joins.cell_alloc_mark_at w cs 5 fr N j hN.symm
  have e : (⟨N, 0, none⟩ : Addr).add j = ⟨N, j, none⟩ := by unfold Addr.add; split <;> simp_all
  rw [e, h, hcs]
  simp [hj]
theorem Ts.own {w : World} {B : Nat} {v : Value} {ws : List Lx.Tk} (h : w.ownsRow B 31 4 v ws.length (wordsC ws)) : Ts w v ws := by
  rcases h.2 with ⟨rfl, h0⟩ | ⟨g, cap, cur, rfl, hg, hh, hn, hm, hs, ht⟩
  · exact ⟨none, 0, by rw [h0], by omega, fun hp => by omega⟩
  · refine ⟨_, cap, rfl, hn, fun hp => ⟨g, 0, rfl, fun j u hj => ?_⟩⟩
    have hj4 : j < ws.length * 4 := by
      have := (List.getElem?_eq_some_iff.1 hj).1
      rw [h.1] at this
      exact this
    have := h.cellAt j hj4
    simp only [Nat.zero_add]
    rw [this, hj]

theorem ba_toList (l : List UInt8) : (ba l).toList = l := by rw [Lib.toList_data, ba_list]
set_option maxRecDepth 100000 in
set_option maxHeartbeats 2000000 in
theorem shown_any (w : World) (hG : Good w) :
    Calls Tryd.prog 10 #[] w fun e w' => e = .returned (.bool true) ∧ Below w.heap.size w w' := by
  have hcv := fun (W : World) (C : Array Value) (n c : Nat) => Lib.run_convert_bytes_const (P := Tryd.prog) W 22 5 C n c Tryd.underlying22 Tryd.underlying5
  have hba := ba_toList
  go_enter Tryd.func10, Tryd.ntmps10
  go_wp2_with fail
  refine (lex_any _ src1 _ (Bs.lit w src1 _ _ rfl rfl (by rfl)) (hG.later ((Below.refl _ _).alloc (Nat.le_refl _) _)) (by decide)).mono ?_
  rintro e w1 ⟨v, rfl, hown, hb1⟩
  rw [lex_src1] at hown ⊢
  obtain ⟨g, o, c, rfl, _⟩ := (Ts.own hown).form (by decide)
  have hT1 := Ts.own hown
  have hz1 := hb1.size
  have hz0 : w.heap.size + 1 ≤ w1.heap.size := by simpa using hz1
  have hB1 : Below w.heap.size w w1 := ((Below.refl _ _).alloc (Nat.le_refl _) _).trans (hb1.mono (by simp))
  clear hown hz1 hb1
  rw [show ws1.length = 8 from rfl] at hT1 ⊢
  have hG1 := hG.later hB1
  go_wp2_with fail
  refine (lex_any _ src2 _ (Bs.lit w1 src2 _ _ rfl rfl (by rfl)) (hG1.later ((Below.refl _ _).alloc (Nat.le_refl _) _)) (by decide)).mono ?_
  rintro e w2 ⟨v2, rfl, hown2, hb2⟩
  rw [lex_src2] at hown2 ⊢
  obtain ⟨A2, c2, rfl, _⟩ := Ts.own hown2
  have hB2 : Below w1.heap.size w1 w2 := ((Below.refl _ _).alloc (Nat.le_refl _) _).trans (hb2.mono (by simp))
  have hz2 := hB2.size
  have hT2 := hT1.later hB2
  obtain ⟨a0, a1, _, _⟩ := hT2.at_ (i := 0) (x := ⟨6, [103, 101, 116], 0, 0⟩) rfl
  obtain ⟨_, b1, _, _⟩ := hT2.at_ (i := 2) (x := ⟨5, [45, 62], 0, 5⟩) rfl
  obtain ⟨d0, _, _, _⟩ := hT2.at_ (i := 4) (x := ⟨2, [102], 0, 17⟩) rfl
  obtain ⟨e0, _, _, _⟩ := hT2.at_ (i := 5) (x := ⟨5, [33], 0, 19⟩) rfl
  obtain ⟨_, _, f2, f3⟩ := hT2.at_ (i := 7) (x := ⟨1, [49, 50], 12, 22⟩) rfl
  simp only [Nat.reduceMul, Nat.add_zero, Nat.add_assoc, Nat.reduceAdd, Int.cast_ofNat_Int] at a0 a1 b1 d0 e0 f2 f3
  clear hown2 hb2
  go_wp2_with fail
  refine (text_any _ ws1 _ hT2 (by rw [text_ws1]; decide) (by decide)).mono ?_
  rintro e w3 ⟨rfl, hb3⟩
  rw [text_ws1]
  go_wp2
  go_ret
  exact ⟨rfl, (hB1.trans (hB2.mono (by omega))).trans (hb3.mono (by omega))⟩
end Go.Proofs.YtgffhjcnfjgpnaaDoor
