/- Package types at rows: copied, Sorted, SameRow, on labels as they are read. -/
import Derived.Test.YtpbhndmfmnfeoaaGreatMg05
import Derived.Test.YtpbhndmfmnfeoaaGreatMg22
import Derived.Laws.CopyOwn
import Derived.Sort.OwnSorted
import Derived.OwnWalk
import Derived.Outline
namespace Go.Proofs.YtpbhndmfmnfeoaaGreat.Rw
open Go.RowKit Go.Shelf Go.Sort

/-- A list of strings as it is read. -/
def Strs (w : World) (v : Value) (ls : List Str) : Prop :=
  ∃ A c, v = .slice A ls.length c ∧ ls.length ≤ c ∧ (0 < ls.length → ∃ g o, A = some ⟨g, o, none⟩ ∧ ∀ (i : Nat) s, ls[i]? = some s → w.cell? ⟨g, o + i, none⟩ = some (.string (ba s)))
theorem Strs.keep {w w' : World} {v : Value} {ls : List Str} (h : Strs w v ls) (hk : ∀ g, g < w.heap.size → w'.heap[g]? = w.heap[g]?) : Strs w' v ls := by
  obtain ⟨A, c, h1, h2, h4⟩ := h
  refine ⟨A, c, h1, h2, fun h0 => ?_⟩
  obtain ⟨g, o, h5, h6⟩ := h4 h0
  exact ⟨g, o, h5, fun i s hs => (World.cell?_of_block (w := w) (a := ⟨g, o + i, none⟩) (hk g (World.block_lt_of_cell? w _ (h6 i s hs)))).trans (h6 i s hs)⟩
theorem Strs.later {w w' : World} {v : Value} {ls : List Str} (h : Strs w v ls) (hb : Below w.heap.size w w') : Strs w' v ls := h.keep hb.block
theorem Strs.slice {w : World} {v : Value} {ls : List Str} (h : Strs w v ls) : ∃ A c, v = .slice A ls.length c ∧ ls.length ≤ c := by
  obtain ⟨A, c, h1, h2, _⟩ := h
  exact ⟨A, c, h1, h2⟩
theorem Strs.of {w : World} {v : Value} {ls : List Str} (h : StrR w v ls) : Strs w v ls := by
  rcases h.1 with ⟨rfl, h0⟩ | ⟨ad, c, rfl, h1, h2⟩
  · have : ls = [] := by simpa using h0
    subst this
    exact ⟨_, _, rfl, Nat.le_refl _, fun h => absurd h (by simp)⟩
  · have hl : (ls.map encS).length = ls.length := by simp
    rw [hl] at h1 ⊢
    refine ⟨_, c, rfl, h1, fun h0 => ?_⟩
    obtain ⟨g, o, sp⟩ := ad
    have hat : ∀ (j : Nat) s, ls[j]? = some s → w.cell? ((⟨g, o, sp⟩ : Addr).add j) = some (.string (ba s)) := fun j s hs => h2 j _ (by rw [List.getElem?_map, hs]; rfl)
    have hsp2 : sp = none := World.cell?_spot (a := ⟨g, o, sp⟩) (hat 0 _ (List.getElem?_eq_getElem h0))
    subst hsp2
    refine ⟨g, o, rfl, fun i s hs => ?_⟩
    have e : (⟨g, o, none⟩ : Addr).add i = ⟨g, o + i, none⟩ := by unfold Addr.add; split <;> simp_all
    rw [← e]
    exact hat i s hs
theorem below_drewN (w : World) (n : Nat) : Below w.heap.size w (w.drewN n) := ⟨rfl, rfl, rfl, Nat.le_refl _, fun _ _ => rfl⟩
theorem Strs.some {w : World} {v : Value} {ls : List Str} (h : Strs w v ls) (h0 : ls ≠ []) : ∃ g o c, v = .slice (some ⟨g, o, none⟩) ls.length c ∧ ls.length ≤ c ∧ ∀ (i : Nat) s, ls[i]? = some s → w.cell? ⟨g, o + i, none⟩ = some (.string (ba s)) := by
  obtain ⟨A, c, h1, h2, h4⟩ := h
  obtain ⟨g, o, rfl, h5⟩ := h4 (List.length_pos_iff.2 h0)
  exact ⟨g, o, c, h1, h2, h5⟩
theorem strs_cells {w : World} {g o : Nat} {ls : List Str} (h : ∀ (i : Nat) s, ls[i]? = some s → w.cell? ⟨g, o + i, none⟩ = some (.string (ba s))) : ∀ j, j < (ls.map ba).length → w.cell? ⟨g, o + j, none⟩ = some (.string ((ls.map ba).getD j ByteArray.empty)) := by
  intro j hj
  have hj' : j < ls.length := by simpa using hj
  rw [h j _ (List.getElem?_eq_getElem hj')]
  simp [List.getD_eq_getElem?_getD, hj']
theorem mem_ba {ls : List Str} {s : Str} : ba s ∈ ls.map ba ↔ s ∈ ls := by
  simp only [List.mem_map]
  constructor
  · rintro ⟨a, ha, he⟩
    rw [ba_eq] at he
    exact he ▸ ha
  · exact fun h => ⟨s, h, rfl⟩
theorem map_ba_eq (a b : List Str) : (a.map ba = b.map ba) = (a = b) := by
  apply propext
  refine ⟨fun h => ?_, fun h => by rw [h]⟩
  have := congrArg (List.map fun x : ByteArray => x.data.toList) h
  simpa [Function.comp_def, ba_list] using this
theorem equal_any (v u : Value) (ls ms : List Str) (w : World) (hv : Strs w v ls) (hu : Strs w u ms) (hb : ls.length ≤ 9223372036854775807) (hb2 : ms.length ≤ 9223372036854775807) :
    Calls Tryz.prog 86 #[v, u] w fun e w' => e = .returned (.bool (decide (ls = ms))) ∧ Below w.heap.size w w' := by
  by_cases hl : ls.length = ms.length
  · by_cases h0 : ls = []
    · subst h0
      have hm : ms = [] := List.eq_nil_of_length_eq_zero hl.symm
      subst hm
      obtain ⟨A, c, rfl, _⟩ := hv.slice
      obtain ⟨A2, c2, rfl, _⟩ := hu.slice
      refine (Any.slices_Equal_string_empty Tryz.lays193 A A2 c 0 c2 w (by omega)).mono ?_
      rintro e w' ⟨rfl, rfl⟩
      exact ⟨ret_bool (by simp), Below.refl _ _⟩
    · have hm0 : ms ≠ [] := by intro h; subst h; exact h0 (List.eq_nil_of_length_eq_zero hl)
      obtain ⟨g, o, c, rfl, _, hc⟩ := hv.some h0
      obtain ⟨g2, o2, c2, rfl, _, hc2⟩ := hu.some hm0
      refine (Any.slices_Equal_string Tryz.lays193 g o ls.length c g2 o2 ms.length c2 (ls.map ba) (ms.map ba) w (by simp) (by simp) (by omega) (by omega) (strs_cells hc) (strs_cells hc2)).mono ?_
      rintro e w' ⟨rfl, q, rfl⟩
      refine ⟨ret_bool ?_, below_drewN _ _⟩
      rw [List.take_of_length_le (by simp), List.take_of_length_le (by simp)]
      simp only [map_ba_eq]
  · obtain ⟨A, c, rfl, _⟩ := hv.slice
    obtain ⟨A2, c2, rfl, _⟩ := hu.slice
    refine (Any.slices_Equal_string_lens Tryz.lays193 A A2 _ c _ c2 w hl).mono ?_
    rintro e w' ⟨rfl, rfl⟩
    exact ⟨ret_bool (by rw [eq_comm, decide_eq_false_iff_not]; intro h; exact hl (by rw [h])), Below.refl _ _⟩

def rowV (v : Value) (rv : Int) : Value := .agg #[v, .int .i64 rv]
set_option maxRecDepth 100000 in
set_option maxHeartbeats 2000000 in
theorem sameRow_any (v u : Value) (ls ms : List Str) (rv ru : Int) (w : World) (hv : Strs w v ls) (hu : Strs w u ms) (hb : ls.length ≤ 9223372036854775807) (hb2 : ms.length ≤ 9223372036854775807) :
    Calls Tryz.prog 69 #[.agg #[v, .int .i64 rv], .agg #[u, .int .i64 ru]] w fun e w' => e = .returned (.bool (decide (rv = ru ∧ ls = ms))) ∧ Below w.heap.size w w' := by
  have hb0 := below_new w (.cells #[v, .int .i64 rv] 24)
  have hb1 := hb0.trans ((below_new (w.alloc (.cells #[v, .int .i64 rv] 24)) (.cells #[u, .int .i64 ru] 24)).mono hb0.size)
  have hs := equal_any v u ls ms _ (hv.later hb1) (hu.later hb1) hb hb2
  have HS := Lib.hid hs
  have hsz := hb1.size
  clear hs
  obtain ⟨A, c, rfl, _⟩ := hv.slice
  obtain ⟨A2, c2, rfl, _⟩ := hu.slice
  by_cases hr : rv = ru
  · subst hr
    go_enter Tryz.func69, Tryz.ntmps69
    go_wp2_with fail
    refine HS.out.mono ?_
    rintro e w1 ⟨rfl, hb2⟩
    go_wp2
    go_ret
    exact ⟨ret_bool (by simp), hb1.trans (hb2.mono hsz)⟩
  · go_enter Tryz.func69, Tryz.ntmps69
    go_wp2
    go_ret
    exact ⟨ret_bool (by simp [hr]), hb1⟩
/-- Labels in a row of the call's own. -/
def OwnS (w : World) (B : Nat) (v : Value) (ls : List Str) : Prop :=
  ∃ g cap cur, v = .slice (some ⟨g, 0, none⟩) ls.length cap ∧ B ≤ g ∧ Lies w g 9 cur ∧ ls.length ≤ cap ∧ cap ≤ maxLen ∧ cur.size = cap * 1 ∧ cur.toList.take (ls.length * 1) = ls.map encStr
theorem OwnS.own {w : World} {B : Nat} {v : Value} {ls : List Str} (h : OwnS w B v ls) : w.ownsRow B 9 1 v ls.length (ls.map encStr) := by
  obtain ⟨g, cap, cur, h1, h2, h3, h4, h5, h6, h7⟩ := h
  exact ⟨by simp, .inr ⟨g, cap, cur, h1, h2, h3, h4, h5, h6, h7⟩⟩
theorem OwnS.of {w : World} {B n : Nat} {v : Value} {ls : List Str} (h : w.ownsRow B 9 1 v n (ls.map encStr)) (hn : n = ls.length) (h0 : v ≠ .slice none 0 0) : OwnS w B v ls := by
  subst hn
  rcases h.2 with ⟨h1, _⟩ | ⟨g, cap, cur, h1, h2, h3, h4, h5, h6, h7⟩
  · exact absurd h1 h0
  · exact ⟨g, cap, cur, h1, h2, h3, h4, h5, h6, h7⟩
theorem OwnS.strs {w : World} {B : Nat} {v : Value} {ls : List Str} (h : OwnS w B v ls) : Strs w v ls := by
  have ho := h.own
  obtain ⟨g, cap, cur, rfl, h2, h3, h4, h5, h6, h7⟩ := h
  refine ⟨_, cap, rfl, h4, fun _ => ⟨g, 0, rfl, fun i s hi => ?_⟩⟩
  rcases own_cells ho with ⟨h0, _⟩ | ⟨g', cap', h0, _, _, _, hx⟩
  · cases h0
  · injection h0 with h0
    injection h0 with h0
    injection h0 with h0
    subst h0
    rw [Nat.zero_add]
    exact hx i _ (by rw [List.getElem?_map, hi]; rfl)
theorem OwnS.keep {w w' : World} {B : Nat} {v : Value} {ls : List Str} (h : OwnS w B v ls) (hs : ∀ g, B ≤ g → g < w.heap.size → w'.heap[g]? = w.heap[g]?) : OwnS w' B v ls := by
  obtain ⟨g, cap, cur, h1, h2, h3, h4, h5, h6, h7⟩ := h
  exact ⟨g, cap, cur, h1, h2, (hs g h2 h3.lt).trans h3, h4, h5, h6, h7⟩
theorem OwnS.later {w w' : World} {B : Nat} {v : Value} {ls : List Str} (h : OwnS w B v ls) (hb : Below w.heap.size w w') : OwnS w' B v ls := h.keep fun g _ hg => hb.block g hg
theorem OwnS.mono {w : World} {B B' : Nat} {v : Value} {ls : List Str} (h : OwnS w B v ls) (hB : B' ≤ B) : OwnS w B' v ls := by
  obtain ⟨g, cap, cur, h1, h2, h3⟩ := h
  exact ⟨g, cap, cur, h1, by omega, h3⟩
theorem info_str : (Tryz.prog.info? 9).map (fun i => (i.zero, i.size, i.bytes)) = some (some (.string ⟨#[]⟩), 1, 16) := by kernel_rfl
theorem sz_row : (Tryz.prog.info? 24).map (·.size) = some 2 := by kernel_rfl
theorem size_str : (Tryz.prog.info? 9).map (·.size) = some 1 := by kernel_rfl
theorem splice_all (cur cs : List Value) (h : cs.length = cur.length) : splice cur 0 cs = cs := by
  unfold splice
  simp [h]

theorem Addr.add0 (b o j : Nat) : (⟨b, o, none⟩ : Addr).add j = ⟨b, o + j, none⟩ := by unfold Addr.add; split <;> simp_all
/-- What a copy asks of its two ends. -/
def SrcOk (w : World) (A : Option Addr) (N : Nat) (cs : List Value) : Prop := 0 < cs.length → (some ⟨N, 0, none⟩ : Option Addr) = some ⟨N, 0, none⟩ ∧ ∃ ad, A = some ad ∧ ∀ (j : Nat) v, cs[j]? = some v → w.cell? (ad.add j) = some v
theorem src_cells {w : World} {A : Option Addr} {n c N : Nat} {ls : List Str} (hv : Strs w (.slice A n c) ls) : SrcOk w A N (ls.map encStr) := by
  intro h0
  obtain ⟨A', c', h1, _, h4⟩ := hv
  obtain ⟨g, o, h5, h6⟩ := h4 (by simpa using h0)
  injection h1 with h1
  refine ⟨rfl, ⟨g, o, none⟩, by rw [h1, h5], fun j v hj => ?_⟩
  rw [List.getElem?_map] at hj
  obtain ⟨s, hs, rfl⟩ := Option.map_eq_some_iff.1 hj
  rw [Addr.add0]
  exact h6 j s hs
theorem made_row {w : World} {B N n : Nat} {e : TypeId} {xs : List Value} (h : w.ownsRow B e 1 (.slice (some ⟨N, 0, none⟩) n n) n xs) : ∃ cur : List Value, cur.length = n ∧ w.heap[N]? = some (.cells cur.toArray e (0, 0)) := by
  rcases h.2 with ⟨h0, _⟩ | ⟨g, cap, cur, h1, _, h3, _, _, h6, _⟩
  · cases h0
  · injection h1 with h1 _ h2
    injection h1 with h1
    injection h1 with h1
    subst h1 h2
    exact ⟨cur.toList, by simpa using h6, by simpa using h3⟩

set_option maxRecDepth 100000 in
set_option maxHeartbeats 2000000 in
theorem tcopied_any (v : Value) (ls : List Str) (rv : Int) (w : World) (hv : Strs w v ls) (hb : ls.length ≤ 2000000) :
    Calls Tryz.prog 63 #[.agg #[v, .int .i64 rv]] w fun e w' => ∃ v', e = .returned (rowV v' rv) ∧ OwnS w' w.heap.size v' ls ∧ Below w.heap.size w w' := by
  obtain ⟨i0, hi, hz0, hz1, hz2⟩ := info_parts info_str
  have hsz0 := size_str
  have hcs : ∀ x ∈ ls.map encStr, x.oneCell' = true := by
    intro x hx
    obtain ⟨s, _, rfl⟩ := List.mem_map.1 hx
    rfl
  obtain ⟨cs, hcsd⟩ : ∃ cs, cs = ls.map encStr := ⟨_, rfl⟩
  have hcl : cs.length = ls.length := by rw [hcsd]; simp
  rw [← hcsd] at hcs
  have HCSD := Lib.hid hcsd
  have HV := Lib.hid hv
  obtain ⟨A, c, rfl, hc⟩ := hv.slice
  clear hcsd
  have l0 := (Lies.new w 24 #[.slice A ls.length c, .int .i64 rv]).alloc (.cells #[.slice none 0 0, .int .i64 0] 24)
  have k0 := Lies.new' (w.alloc (.cells #[.slice A ls.length c, .int .i64 rv] 24)) 24 #[.slice none 0 0, .int .i64 0] (N := w.heap.size + 1) (by simp)
  have hb2 : Below w.heap.size w ((w.alloc (.cells #[.slice A ls.length c, .int .i64 rv] 24)).alloc (.cells #[.slice none 0 0, .int .i64 0] 24)) := ((Below.refl _ w).alloc (Nat.le_refl _) _).alloc (by simp) _
  have hsz2 : ((w.alloc (.cells #[.slice A ls.length c, .int .i64 rv] 24)).alloc (.cells #[.slice none 0 0, .int .i64 0] 24)).heap.size = w.heap.size + 2 := by simp
  have HSZ := Lib.hid hsz2
  have HB := Lib.hid hb2
  go_enter Tryz.func63, Tryz.ntmps63
  go_wp2_with (first
    | ((refine wpList_make_full _ rfl (.tmp 6) (.tmp 6) 22 rfl w.heap.size 9 i0 (.string ⟨#[]⟩) 1 Tryz.underlying22 hi hz0 hz1 .i64 .i64 _ _ ls.length rfl rfl rfl rfl (by rw [hz2]; omega) (by unfold maxLen; omega) (by simp; omega) ?_); intro w1 ho1 hg1
       have l1 := l0.grown hg1 (by simp)
       have k1 := k0.grown hg1 (by simp)
       have c0 := l1.cell 0
       have c1 := l1.cell 1
       have hbg : Below w.heap.size w w1 := HB.out.grown hg1 (by rw [HSZ.out]; omega) (by simp)
       have hs1 : w.heap.size + 2 ≤ w1.heap.size := by have := hg1.size; rw [HSZ.out] at this; exact this
       rw [HSZ.out] at ho1
       obtain ⟨cur, hcur, hrow⟩ := made_row ho1
       have hsrc := src_cells (N := w.heap.size + 2) (HV.out.later hbg)
       rw [← HCSD.out] at hsrc
       have HSRC := Lib.hid hsrc
       have HROW := Lib.hid hrow
       clear ho1 l0 k0 hg1 hsrc hrow)
    | (refine wpList_copy_splice rfl (.tmp 8) (.tmp 10) 22 22 rfl 9 Tryz.underlying22 hsz0 _ _ _ _ _ _ rfl rfl (w.heap.size + 2) 0 cur 9 HROW.out cs (by rw [hcl]; simp) HSRC.out (by omega) hcs (w.heap.size + 2) w1 (Below.refl _ _) (Nat.le_refl _) ?_; intro w2 hg2 hbw; have l2 := l1.below hbw (by omega); have k2 := k1.below hbw (by omega); have d0 := l2.cell 0; have d1 := l2.cell 1; have e0 := k2.cell 0; have e1 := k2.cell 1; have f0 := k2.free 0; have f1 := k2.free 1))
  have k3 := (k2.set 0 (.slice (some ⟨w.heap.size + 2, 0, none⟩) ls.length ls.length)).set 1 (.int .i64 rv)
  refine bodyPost_ret (v := rowV (.slice (some ⟨w.heap.size + 2, 0, none⟩) ls.length ls.length) rv) (results_cell_row rfl _ _ (w.heap.size + 1) 24 _ (0, 0) _ rfl k3 Tryz.underlying24 rfl sz_row) rfl ⟨_, rfl, ?_, ?_⟩
  · refine OwnS.keep (w := w2) (B := w.heap.size + 2) ⟨w.heap.size + 2, ls.length, cs.toArray, rfl, Nat.le_refl _, ?_, Nat.le_refl _, by unfold maxLen; omega, by simp [hcl], ?_⟩ (fun g hg _ => ?_) |>.mono (by omega)
    · have := hg2.out
      rw [splice_all _ _ (by omega)] at this
      exact this
    · rw [Nat.mul_one, HCSD.out]; exact List.take_of_length_le (by simp)
    · rw [Below.heap_setCell _ _ _ _ (by show g ≠ w.heap.size + 1; omega), Below.heap_setCell _ _ _ _ (by show g ≠ w.heap.size + 1; omega)]
  · have h1 : Below w.heap.size w w2 := hbg.trans (hbw.mono (by omega))
    exact h1.trans ⟨rfl, rfl, rfl, by simp [World.setCell], fun g hg => by rw [Below.heap_setCell _ _ _ _ (by show g ≠ w.heap.size + 1; omega), Below.heap_setCell _ _ _ _ (by show g ≠ w.heap.size + 1; omega)]⟩
def sortS (ls : List Str) : List Str := ls.mergeSort fun x y => decide (x ≤ y)
theorem sortS_len (ls : List Str) : (sortS ls).length = ls.length := List.length_mergeSort _
theorem sort_any (w : World) (B : Nat) (v : Value) (ls : List Str) (h : OwnS w B v ls) (hb : ls.length ≤ 2000000) :
    Calls Tryz.prog 64 #[v] w fun e w' => e = .returned (.tuple #[]) ∧ OwnS w' B v (sortS ls) ∧ w.grownBy w' v.ownBlock := by
  obtain ⟨g, cap, cur, rfl, h2, h3, h4, h5, h6, h7⟩ := h
  have h7' : cur.toList.take ls.length = ls.map encStr := by rw [Nat.mul_one] at h7; exact h7
  refine (Any.slices_Sort_string Tryz.lays190 g 0 cap ls w (holds_of_block h3 h7') h3.lt (by omega)).mono ?_
  rintro e w' ⟨rfl, n, os, rfl⟩
  have hl := sortS_len ls
  refine ⟨rfl, OwnS.of (n := ls.length) ?_ hl.symm (by simp), ?_⟩
  · exact ownsRow_sorted hl h2 h3 h4 h5 h6
  · exact grownBy_sorted _
theorem OwnS.block {w : World} {B : Nat} {v : Value} {ls : List Str} (h : OwnS w B v ls) : ∃ g, v.ownBlock = some g ∧ B ≤ g ∧ g < w.heap.size := by
  obtain ⟨g, cap, cur, rfl, h2, h3, _⟩ := h
  exact ⟨g, rfl, h2, h3.lt⟩
theorem OwnS.slice {w : World} {B : Nat} {v : Value} {ls : List Str} (h : OwnS w B v ls) : ∃ A n c, v = .slice A n c := by
  obtain ⟨g, cap, cur, rfl, _⟩ := h
  exact ⟨_, _, _, rfl⟩

set_option maxRecDepth 100000 in
set_option maxHeartbeats 2000000 in
theorem sorted_any (v : Value) (ls : List Str) (rv : Int) (w : World) (hv : Strs w v ls) (hb : ls.length ≤ 2000000) :
    Calls Tryz.prog 48 #[.agg #[v, .int .i64 rv]] w fun e w' => ∃ v', e = .returned (rowV v' rv) ∧ OwnS w' w.heap.size v' (sortS ls) ∧ Below w.heap.size w w' := by
  have hb2 : Below w.heap.size w ((w.alloc (.cells #[v, .int .i64 rv] 24)).alloc (.cells #[.slice none 0 0, .int .i64 0] 24)) := ((Below.refl _ w).alloc (Nat.le_refl _) _).alloc (by simp) _
  have k0 := Lies.new' (w.alloc (.cells #[v, .int .i64 rv] 24)) 24 #[.slice none 0 0, .int .i64 0] (N := w.heap.size + 1) (by simp)
  have hsz2 : ((w.alloc (.cells #[v, .int .i64 rv] 24)).alloc (.cells #[.slice none 0 0, .int .i64 0] 24)).heap.size = w.heap.size + 2 := by simp
  have hc := tcopied_any v ls rv _ (hv.later hb2) hb
  rw [hsz2] at hc
  have HC := Lib.hid hc
  have HSZ := Lib.hid hsz2
  have HB := Lib.hid hb2
  have HK := Lib.hid k0
  clear hc k0 hb2 hsz2
  obtain ⟨A, c, rfl, _⟩ := hv.slice
  go_enter Tryz.func48, Tryz.ntmps48
  go_wp2_with fail
  refine HC.out.mono ?_
  rintro e w1 ⟨v1, rfl, ho1, hb1⟩
  have hB1 := HB.out.trans (hb1.mono (by omega))
  have k1 := HK.out.below hb1 (by omega)
  have hs1 : w.heap.size + 2 ≤ w1.heap.size := by have := hb1.size; rw [HSZ.out] at this; exact this
  have hbn := below_new w1 (.cells #[v1, .int .i64 rv] 24)
  have n1 := Lies.new w1 24 #[v1, .int .i64 rv]
  have ho2 := ho1.later hbn
  have hso := sort_any _ _ _ _ ho2 (by omega)
  have k2 := k1.later hbn
  obtain ⟨g, hg, hg1, hg2⟩ := ho1.block
  rw [hg] at hso
  obtain ⟨A1, m1, c1, rfl⟩ := ho1.slice
  unfold rowV
  have HSO := Lib.hid hso
  have HB1 := Lib.hid (hB1.trans (hbn.mono (by omega)))
  clear hso
  go_wp2_with fail
  refine HSO.out.mono ?_
  rintro e w2 ⟨rfl, ho3, hgr⟩
  have k3 := k2.grown hgr (fun e => by injection e with e; omega)
  have n3 := n1.grown hgr (fun e => by injection e with e; omega)
  have d0 := n3.cell 0
  have d1 := n3.cell 1
  have e0 := k3.cell 0
  have e1 := k3.cell 1
  have f0 := k3.free 0
  have f1 := k3.free 1
  go_wp2_with fail
  have k4 := (k3.set 0 (.slice A1 m1 c1)).set 1 (.int .i64 rv)
  have hBg : Below w.heap.size w w2 := HB1.out.grown hgr (by simp; omega) (fun k e => by injection e with e; omega)
  refine bodyPost_ret (v := rowV (.slice A1 m1 c1) rv) (results_cell_row rfl _ _ (w.heap.size + 1) 24 _ (0, 0) _ rfl k4 Tryz.underlying24 rfl sz_row) rfl ⟨_, rfl, ?_, ?_⟩
  · refine OwnS.mono (OwnS.keep ho3 fun g hg _ => ?_) (by omega)
    rw [Below.heap_setCell _ _ _ _ (by show g ≠ w.heap.size + 1; omega), Below.heap_setCell _ _ _ _ (by show g ≠ w.heap.size + 1; omega)]
  · exact hBg.trans ⟨rfl, rfl, rfl, by simp [World.setCell], fun g hg => by rw [Below.heap_setCell _ _ _ _ (by show g ≠ w.heap.size + 1; omega), Below.heap_setCell _ _ _ _ (by show g ≠ w.heap.size + 1; omega)]⟩
end Go.Proofs.YtpbhndmfmnfeoaaGreat.Rw
