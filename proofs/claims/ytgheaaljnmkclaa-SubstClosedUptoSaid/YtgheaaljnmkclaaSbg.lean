/- copiedRow, and what is said of a type or a row. -/
import Derived.Test.YtgheaaljnmkclaaSbf
import Derived.Deep.RegionHeld3
import Derived.Outline
namespace Go.Proofs.Ytgheaaljnmkclaa
open Go.RowKit

theorem encS_one (ls : List Str) : ∀ q ∈ ls.map encS, q.oneCell' = true := by
  intro q hq
  obtain ⟨s, _, rfl⟩ := List.mem_map.1 hq
  rfl
/-- The labels in a row of the call's own. -/
def OwnL (w : World) (B : Nat) (v : Value) (ls : List Str) : Prop := w.ownsRow B 9 1 v ls.length (ls.map encS)
theorem OwnL.str {w : World} {B : Nat} {v : Value} {ls : List Str} (h : OwnL w B v ls) (hb : ls.length ≤ 2000000) : StrR w v ls := ⟨own_row_src h, hb⟩
theorem concat1_any (lv : Value) (ls : List Str) (w w' : World) (hv : StrR w lv ls) (hb : Below w.heap.size w w') (b : Nat) (hl : Lies w' b 24 #[lv]) :
    Calls Try.prog 35 #[.slice (some ⟨b, 0, none⟩) 1 1] w' fun e w2 => ∃ v, e = .returned v ∧ OwnL w2 w'.heap.size v ls ∧ Below w'.heap.size w' w2 := by
  have hlen := hv.2
  refine (concatS_any [(lv, ls.map encS)] b 1 w' hl (Nat.le_refl 1) (fun p hp => ?_) (fun p hp => ?_) (by simp; omega) (by simp)).mono ?_
  · rw [List.mem_singleton.1 hp]
    exact hv.1.later hb
  · rw [List.mem_singleton.1 hp]
    exact encS_one ls
  · rintro e w2 ⟨v, rfl, ho, hb2⟩
    refine ⟨v, rfl, ?_, hb2⟩
    simp at ho
    unfold OwnL
    simpa using ho
set_option maxRecDepth 100000 in
set_option maxHeartbeats 4000000 in
theorem copiedRow_any (lv : Value) (ls : List Str) (rv : Int) (w : World) (hv : StrR w lv ls) :
    Calls Try.prog 23 #[.agg #[lv, .int .i64 rv]] w fun e w' => ∃ v', e = .returned (.agg #[v', .int .i64 rv]) ∧ OwnL w' w.heap.size v' ls ∧ Below w.heap.size w w' := by
  have hb1 := below_new w (.cells #[lv, .int .i64 rv] 26)
  have hb2 := hb1.alloc (by simp) (.cells #[.slice none 0 0, .int .i64 0] 26)
  have n0 := (Lies.new w 26 #[lv, .int .i64 rv]).alloc (.cells #[.slice none 0 0, .int .i64 0] 26)
  have n1 := Lies.new' (w.alloc (.cells #[lv, .int .i64 rv] 26)) 26 #[.slice none 0 0, .int .i64 0] (N := w.heap.size + 1) (by simp)
  have hco := concat1_any lv ls w
  have HC := Lib.hid hco
  have HV := Lib.hid hv
  obtain ⟨A, n, c, rfl⟩ : ∃ A n c, lv = .slice A n c := by rcases hv.1 with ⟨rfl, _⟩ | ⟨_, _, rfl, _⟩ <;> exact ⟨_, _, _, rfl⟩
  clear hco hv
  go_enter Try.func23, Try.ntmps23
  obtain ⟨W, hW⟩ : ∃ W, W = (w.alloc (.cells #[.slice A n c, .int .i64 rv] 26)).alloc (.cells #[.slice none 0 0, .int .i64 0] 26) := ⟨_, rfl⟩
  go_wp2
  rw [← hW] at n0 n1 hb2 ⊢
  have c0 := n0.cell 0
  have c1 := n0.cell 1
  have HN1 := Lib.hid n1
  have HN0 := Lib.hid n0
  have HB2 := Lib.hid hb2
  clear hW n1 hb1 hb2 n0
  have hS : W.cell? ⟨w.heap.size, 0, none⟩ = some (.slice A n c) ∧ W.cell? ⟨w.heap.size, 1, none⟩ = some (.int .i64 rv) ∧ Below w.heap.size w W := ⟨c0, c1, HB2.out⟩
  have hk : ∀ v v' : World, (v.cell? ⟨w.heap.size, 0, none⟩ = some (.slice A n c) ∧ v.cell? ⟨w.heap.size, 1, none⟩ = some (.int .i64 rv) ∧ Below w.heap.size w v) → v'.heap[w.heap.size]? = v.heap[w.heap.size]? → Below w.heap.size v v' → (v'.cell? ⟨w.heap.size, 0, none⟩ = some (.slice A n c) ∧ v'.cell? ⟨w.heap.size, 1, none⟩ = some (.int .i64 rv) ∧ Below w.heap.size w v') := fun v v' h hb hb2 => by
    exact ⟨(World.cell?_of_block (w := v) (a := ⟨w.heap.size, 0, none⟩) hb).trans h.1, (World.cell?_of_block (w := v) (a := ⟨w.heap.size, 1, none⟩) hb).trans h.2.1, h.2.2.trans hb2⟩
  have HK := Lib.hid hk
  clear hk
  have hltW := HN0.out.lt
  have hbB : Below W.heap.size W (W.alloc (.cells #[.slice A n c] 24)).drew := (below_new W _).drew
  have hlB : Lies (W.alloc (.cells #[.slice A n c] 24)).drew W.heap.size 24 #[.slice A n c] := Lies.new W _ _
  have hcc := HC.out (W.alloc (.cells #[.slice A n c] 24)).drew HV.out ((HB2.out.trans (hbB.mono HB2.out.size))) W.heap.size hlB
  have HCC := Lib.hid hcc
  have hsB : W.heap.size ≤ (W.alloc (.cells #[.slice A n c] 24)).drew.heap.size := hbB.size
  clear hcc
  go_region_held3 (fun w' => w'.cell? ⟨w.heap.size, 0, none⟩ = some (.slice A n c) ∧ w'.cell? ⟨w.heap.size, 1, none⟩ = some (.int .i64 rv) ∧ Below w.heap.size w w')
    (first | exact HK.out _ _ hS rfl (Below.refl _ _).drew | exact HK.out _ _ hS (hbB.block _ hltW) (hbB.mono HB2.out.size) | exact HK.out _ _ hS (hb5.block _ hltW) (hb5.mono HB2.out.size) | exact HK.out _ _ hS ((q6.block _ (Nat.lt_succ_self _)).trans (hb5.block _ hltW)) ((hb5.mono HB2.out.size).trans (q6.mono (Nat.le_succ _))))
    (first | (go_at_call 35; refine HCC.out.mono ?_; rintro e w5 ⟨v', rfl, ho, hb4⟩; have HO := Lib.hid ho; obtain ⟨A2, k2, c2, rfl⟩ := own_slice ho; clear ho; have hb5 : Below W.heap.size W w5 := hbB.trans (hb4.mono hsB); have n5 := HN1.out.later hb5; have d0 := n5.cell 0; have d1 := n5.cell 1; have e0 := n5.free 0; have e1 := n5.free 1; have l5 := n5.lt; have q6 : Below (w.heap.size + 1) w5 ((w5.setCell ⟨w.heap.size + 1, 0, none⟩ (.slice A2 k2 c2)).setCell ⟨w.heap.size + 1, 1, none⟩ (.int .i64 rv)) := ((Below.refl _ _).setCell (p := ⟨w.heap.size + 1, 0, none⟩) (Nat.le_refl _) _).setCell (p := ⟨w.heap.size + 1, 1, none⟩) (Nat.le_refl _) _))
  have n6 := (n5.set 0 (.slice A2 k2 c2)).set 1 (.int .i64 rv)
  go_wp2
  refine bodyPost_ret (v := .agg #[.slice A2 k2 c2, .int .i64 rv]) (results_cell_row rfl _ _ (w.heap.size + 1) 26 _ (0, 0) _ rfl n6 Try.underlying26 rfl size_R) rfl ?_
  refine ⟨_, rfl, ?_, ((HB2.out.trans (hb5.mono HB2.out.size)).trans (q6.mono (Nat.le_succ _)))⟩
  have hWs := HB2.out.size
  refine own_mono (own_same HO.out fun g hg hlt => ?_) (by omega)
  have hne : g ≠ w.heap.size + 1 := by have := HN1.out.lt; omega
  exact (Below.heap_setCell _ ⟨w.heap.size + 1, 1, none⟩ _ g hne).trans (Below.heap_setCell _ ⟨w.heap.size + 1, 0, none⟩ _ g hne)
end Go.Proofs.Ytgheaaljnmkclaa
