/- Rows with labels of their own: copied, Sorted, Add, Less. -/
import Derived.Test.YtjeolmcjhpkcbaaDoorTyT
import Derived.Outline
namespace Go.Proofs.YtjeolmcjhpkcbaaDoor
open Go.RowKit Go.Shelf Go.Sort

/-- Labels in a row of the call's own. -/
def OwnS (w : World) (B : Nat) (v : Value) (ls : List Str) : Prop :=
  ∃ g cap cur, v = .slice (some ⟨g, 0, none⟩) ls.length cap ∧ B ≤ g ∧ Lies w g 9 cur ∧ ls.length ≤ cap ∧ cap ≤ maxLen ∧ cur.size = cap * 1 ∧ cur.toList.take (ls.length * 1) = ls.map encStr
theorem OwnS.own {w : World} {B : Nat} {v : Value} {ls : List Str} (h : OwnS w B v ls) : w.ownsRow B 9 1 v ls.length (ls.map encStr) := by
  obtain ⟨g, cap, cur, h1, h2, h3, h4, h5, h6, h7⟩ := h
  exact ⟨by simp, .inr ⟨g, cap, cur, h1, h2, h3, h4, h5, h6, h7⟩⟩
theorem OwnS.of {w : World} {B n : Nat} {v : Value} {ls : List Str} (h : w.ownsRow B 9 1 v n (ls.map encStr)) (hn : n = ls.length) (h0 : v ≠ .slice none 0 0) : OwnS w B v ls := by
  subst hn
  rcases h.2 with ⟨h1, _⟩ | ⟨g, cap, cur, h1, h2, h3, h4, h5, h6, h7⟩
  · exact absurd h1 h0
  · exact ⟨g, cap, cur, h1, h2, h3, h4, h5, h6, h7⟩
theorem OwnS.strs {w : World} {B : Nat} {v : Value} {ls : List Str} (h : OwnS w B v ls) : Strs w v ls := by
  have ho := h.own
  obtain ⟨g, cap, cur, rfl, h2, h3, h4, h5, h6, h7⟩ := h
  refine ⟨_, cap, rfl, h4, h5, fun _ => ⟨g, 0, rfl, fun i s hi => ?_⟩⟩
  rcases own_cells ho with ⟨h0, _⟩ | ⟨g', cap', h0, _, _, _, hx⟩
  · cases h0
  · injection h0 with h0
    injection h0 with h0
    injection h0 with h0
    subst h0
    rw [Nat.zero_add]
    exact hx i _ (by rw [List.getElem?_map, hi]; rfl)
theorem OwnS.keep {w w' : World} {B : Nat} {v : Value} {ls : List Str} (h : OwnS w B v ls) (hs : ∀ g, B ≤ g → g < w.heap.size → w'.heap[g]? = w.heap[g]?) : OwnS w' B v ls := by
  obtain ⟨g, cap, cur, h1, h2, h3, h4, h5, h6, h7⟩ := h
  exact ⟨g, cap, cur, h1, h2, (hs g h2 h3.lt).trans h3, h4, h5, h6, h7⟩
theorem OwnS.later {w w' : World} {B : Nat} {v : Value} {ls : List Str} (h : OwnS w B v ls) (hb : Below w.heap.size w w') : OwnS w' B v ls := h.keep fun g _ hg => hb.block g hg
theorem OwnS.mono {w : World} {B B' : Nat} {v : Value} {ls : List Str} (h : OwnS w B v ls) (hB : B' ≤ B) : OwnS w B' v ls := by
  obtain ⟨g, cap, cur, h1, h2, h3⟩ := h
  exact ⟨g, cap, cur, h1, by omega, h3⟩
theorem info_str : (Tryd.prog.info? 9).map (fun i => (i.zero, i.size, i.bytes)) = some (some (.string ⟨#[]⟩), 1, 16) := by kernel_rfl
theorem sz_row : (Tryd.prog.info? 25).map (·.size) = some 2 := by kernel_rfl
theorem size_str : (Tryd.prog.info? 9).map (·.size) = some 1 := by kernel_rfl
theorem splice_all (cur cs : List Value) (h : cs.length = cur.length) : splice cur 0 cs = cs := by
  unfold splice
  simp [h]

theorem Addr.add0 (b o j : Nat) : (⟨b, o, none⟩ : Addr).add j = ⟨b, o + j, none⟩ := by unfold Addr.add; split <;> simp_all
/-- What a copy asks of its two ends. -/
def SrcOk (w : World) (A : Option Addr) (N : Nat) (cs : List Value) : Prop := 0 < cs.length → (some ⟨N, 0, none⟩ : Option Addr) = some ⟨N, 0, none⟩ ∧ ∃ ad, A = some ad ∧ ∀ (j : Nat) v, cs[j]? = some v → w.cell? (ad.add j) = some v
theorem src_cells {w : World} {A : Option Addr} {n c N : Nat} {ls : List Str} (hv : Strs w (.slice A n c) ls) : SrcOk w A N (ls.map encStr) := by
  intro h0
  obtain ⟨A', c', h1, _, _, h4⟩ := hv
  obtain ⟨g, o, h5, h6⟩ := h4 (by simpa using h0)
  injection h1 with h1
  refine ⟨rfl, ⟨g, o, none⟩, by rw [h1, h5], fun j v hj => ?_⟩
  rw [List.getElem?_map] at hj
  obtain ⟨s, hs, rfl⟩ := Option.map_eq_some_iff.1 hj
  rw [Addr.add0]
  exact h6 j s hs
theorem made_row {w : World} {B N n : Nat} {e : TypeId} {xs : List Value} (h : w.ownsRow B e 1 (.slice (some ⟨N, 0, none⟩) n n) n xs) : ∃ cur : List Value, cur.length = n ∧ w.heap[N]? = some (.cells cur.toArray e (0, 0)) := by
  rcases h.2 with ⟨h0, _⟩ | ⟨g, cap, cur, h1, _, h3, _, _, h6, _⟩
  · cases h0
  · injection h1 with h1 _ h2
    injection h1 with h1
    injection h1 with h1
    subst h1 h2
    exact ⟨cur.toList, by simpa using h6, by simpa using h3⟩

set_option maxRecDepth 100000 in
set_option maxHeartbeats 2000000 in
theorem copied_any (v : Value) (ls : List Str) (rv : Int) (w : World) (hv : Strs w v ls) (hb : ls.length ≤ 1000) :
    Calls Tryd.prog 41 #[.agg #[v, .int .i64 rv]] w fun e w' => ∃ v', e = .returned (rowV v' rv) ∧ OwnS w' w.heap.size v' ls ∧ Below w.heap.size w w' := by
  obtain ⟨i0, hi, hz0, hz1, hz2⟩ := info_parts info_str
  have hsz0 := size_str
  have hcs : ∀ x ∈ ls.map encStr, x.oneCell' = true := by
    intro x hx
    obtain ⟨s, _, rfl⟩ := List.mem_map.1 hx
    rfl
  obtain ⟨cs, hcsd⟩ : ∃ cs, cs = ls.map encStr := ⟨_, rfl⟩
  have hcl : cs.length = ls.length := by rw [hcsd]; simp
  rw [← hcsd] at hcs
  have HCSD := Lib.hid hcsd
  have HV := Lib.hid hv
  obtain ⟨A, c, rfl, hc, hm⟩ := hv.slice
  clear hcsd
  have l0 := (Lies.new w 25 #[.slice A ls.length c, .int .i64 rv]).alloc (.cells #[.slice none 0 0, .int .i64 0] 25)
  have k0 := Lies.new' (w.alloc (.cells #[.slice A ls.length c, .int .i64 rv] 25)) 25 #[.slice none 0 0, .int .i64 0] (N := w.heap.size + 1) (by simp)
  have hb2 : Below w.heap.size w ((w.alloc (.cells #[.slice A ls.length c, .int .i64 rv] 25)).alloc (.cells #[.slice none 0 0, .int .i64 0] 25)) := ((Below.refl _ w).alloc (Nat.le_refl _) _).alloc (by simp) _
  have hsz2 : ((w.alloc (.cells #[.slice A ls.length c, .int .i64 rv] 25)).alloc (.cells #[.slice none 0 0, .int .i64 0] 25)).heap.size = w.heap.size + 2 := by simp
  have HSZ := Lib.hid hsz2
  have HB := Lib.hid hb2
  go_enter Tryd.func41, Tryd.ntmps41
  go_wp2_with (first
    | ((refine wpList_make_full _ rfl (.tmp 6) (.tmp 6) 23 rfl w.heap.size 9 i0 (.string ⟨#[]⟩) 1 Tryd.underlying23 hi hz0 hz1 .i64 .i64 _ _ ls.length rfl rfl rfl rfl (by rw [hz2]; omega) (by unfold maxLen; omega) (by simp; omega) ?_); intro w1 ho1 hg1
       have l1 := l0.grown hg1 (by simp)
       have k1 := k0.grown hg1 (by simp)
       have c0 := l1.cell 0
       have c1 := l1.cell 1
       have hbg : Below w.heap.size w w1 := HB.out.grown hg1 (by rw [HSZ.out]; omega) (by simp)
       have hs1 : w.heap.size + 2 ≤ w1.heap.size := by have := hg1.size; rw [HSZ.out] at this; exact this
       rw [HSZ.out] at ho1
       obtain ⟨cur, hcur, hrow⟩ := made_row ho1
       have hsrc := src_cells (N := w.heap.size + 2) (HV.out.later hbg)
       rw [← HCSD.out] at hsrc
       have HSRC := Lib.hid hsrc
       have HROW := Lib.hid hrow
       clear ho1 l0 k0 hg1 hsrc hrow)
    | (refine wpList_copy_splice rfl (.tmp 8) (.tmp 10) 23 23 rfl 9 Tryd.underlying23 hsz0 _ _ _ _ _ _ rfl rfl (w.heap.size + 2) 0 cur 9 HROW.out cs (by rw [hcl]; simp) HSRC.out (by omega) hcs (w.heap.size + 2) w1 (Below.refl _ _) (Nat.le_refl _) ?_; intro w2 hg2 hbw; have l2 := l1.below hbw (by omega); have k2 := k1.below hbw (by omega); have d0 := l2.cell 0; have d1 := l2.cell 1; have e0 := k2.cell 0; have e1 := k2.cell 1; have f0 := k2.free 0; have f1 := k2.free 1))
  have k3 := (k2.set 0 (.slice (some ⟨w.heap.size + 2, 0, none⟩) ls.length ls.length)).set 1 (.int .i64 rv)
  refine bodyPost_ret (v := rowV (.slice (some ⟨w.heap.size + 2, 0, none⟩) ls.length ls.length) rv) (results_cell_row rfl _ _ (w.heap.size + 1) 25 _ (0, 0) _ rfl k3 Tryd.underlying25 rfl sz_row) rfl ⟨_, rfl, ?_, ?_⟩
  · refine OwnS.keep (w := w2) (B := w.heap.size + 2) ⟨w.heap.size + 2, ls.length, cs.toArray, rfl, Nat.le_refl _, ?_, Nat.le_refl _, by unfold maxLen; omega, by simp [hcl], ?_⟩ (fun g hg _ => ?_) |>.mono (by omega)
    · have := hg2.out
      rw [splice_all _ _ (by omega)] at this
      exact this
    · rw [Nat.mul_one, HCSD.out]; exact List.take_of_length_le (by simp)
    · rw [Below.heap_setCell _ _ _ _ (by show g ≠ w.heap.size + 1; omega), Below.heap_setCell _ _ _ _ (by show g ≠ w.heap.size + 1; omega)]
  · have h1 : Below w.heap.size w w2 := hbg.trans (hbw.mono (by omega))
    exact h1.trans ⟨rfl, rfl, rfl, by simp [World.setCell], fun g hg => by rw [Below.heap_setCell _ _ _ _ (by show g ≠ w.heap.size + 1; omega), Below.heap_setCell _ _ _ _ (by show g ≠ w.heap.size + 1; omega)]⟩
end Go.Proofs.YtjeolmcjhpkcbaaDoor
