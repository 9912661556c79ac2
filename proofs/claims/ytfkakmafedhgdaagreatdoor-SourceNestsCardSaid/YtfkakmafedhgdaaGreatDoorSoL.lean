/- The machine of package source: what an operator makes of its values: a cell more, a cell written, numbers. -/
import Derived.Test.YtfkakmafedhgdaaGreatDoorMg06
import Derived.Test.YtfkakmafedhgdaaGreatDoorMg11
import Derived.Deep.AppendLies
namespace Go.Proofs.YtfkakmafedhgdaaGreatDoor.K
open Go Go.RowKit
namespace So

set_option maxRecDepth 100000 in
set_option maxHeartbeats 4000000 in
theorem operate_assign {w0 : World} {mb : Nat} {H : Mem} {s : St} {w : World} (h : MS w0 mb H s w) {l : List Val} {g : Nat} {cur : Array Value} (ha : ArgsAt H s.cells.length l g cur) (hl : l.length = 2) :
    Calls Tryz.prog 60 #[pt mb, .string (ba [58, 61]), .slice (some ⟨g, 0, none⟩) l.length l.length] w (MEnd w0 mb H (operate [58, 61] l s)) := by
  have t_read := tl_not (m := [58, 61]) (l := [114, 101, 97, 100]) (by decide)
  have t_print := tl_not (m := [58, 61]) (l := [112, 114, 105, 110, 116]) (by decide)
  have t_ref := tl_not (m := [58, 61]) (l := [114, 101, 102]) (by decide)
  have t_deref := tl_not (m := [58, 61]) (l := [33]) (by decide)
  have t_assign := tl_is (m := [58, 61]) (l := [58, 61]) rfl
  obtain ⟨r, v, rfl⟩ : ∃ r v, l = [r, v] := by
    match l, hl with
    | [r, v], _ => exact ⟨r, v, rfl⟩
  obtain ⟨k, n, p, f, hvv, hf, q0, q1, q2, q3⟩ := ha.get h.sub (i := 0) (v := r) rfl
  obtain ⟨k2, n2, p2, f2, hvv2, hf2, r0, r1, r2, r3⟩ := ha.get h.sub (i := 1) (v := v) rfl
  have q0 : w.cell? ⟨g, 0, none⟩ = some (.int .i64 k) := q0
  have q1 : w.cell? ⟨g, 1, none⟩ = some (.int .i64 n) := q1
  have q2 : w.cell? ⟨g, 2, none⟩ = some (.pointer p) := q2
  have q3 : w.cell? ⟨g, 3, none⟩ = some f := q3
  have r0 : w.cell? ⟨g, 4, none⟩ = some (.int .i64 k2) := r0
  have r1 : w.cell? ⟨g, 5, none⟩ = some (.int .i64 n2) := r1
  have r2 : w.cell? ⟨g, 6, none⟩ = some (.pointer p2) := r2
  have r3 : w.cell? ⟨g, 7, none⟩ = some f2 := r3
  have hr : Calls Tryz.prog 88 #[pt mb, .agg #[.int .i64 k, .int .i64 n, .pointer p, f], .agg #[.int .i64 k2, .int .i64 n2, .pointer p2, f2]] w.drew (MEnd w0 mb H (operate [58, 61] [r, v] s)) := by
    by_cases hk : kV r = 5
    · have e : operate [58, 61] [r, v] s = { s.has unitV with cells := s.cells.set (nV r).toNat v } := by unfold operate; rw [if_neg (by decide), if_neg (by decide), if_neg (by decide), if_neg (by decide), if_pos rfl]; exact if_pos hk
      rw [e]
      have hv1 := of_kind5' hk
      obtain ⟨m, hm⟩ : ∃ m, m = nV r := ⟨_, rfl⟩
      rw [← hm] at hv1 ⊢
      subst hv1
      obtain ⟨he, h0, h1⟩ := hvv.ref5
      obtain ⟨i, rfl⟩ : ∃ i : Nat, m = (i : Int) := ⟨m.toNat, by omega⟩
      have hi : i < s.cells.length := by omega
      rw [show (#[.int .i64 k, .int .i64 n, .pointer p, f] : Array Value) = (litL 5 (i : Int)).toArray from congrArg List.toArray he]
      exact store_ref h.drew i hi hvv2
    · have e : operate [58, 61] [r, v] s = s.ends 4 := by unfold operate; rw [if_neg (by decide), if_neg (by decide), if_neg (by decide), if_neg (by decide), if_pos rfl]; exact if_neg hk
      rw [e]
      exact store_stuck h.drew hvv hvv2 hk
  have HR := Lib.hid hr
  clear hr ha h hvv hvv2 hl
  unfold pt at HR ⊢
  rcases hf with rfl | ⟨ft, fx, rfl⟩ <;> rcases hf2 with rfl | ⟨ft2, fx2, rfl⟩
  all_goals
    go_enter Tryz.func60, Tryz.ntmps60
    go_wp2_with fail
    go_still_tail 7, (by kernel_rfl)
    change wpList _ _ _ _ _ w.drew
    go_wp2_with fail
    refine HR.out.mono ?_
    rintro e w3 ⟨rfl, H3, k3, m3⟩
    go_wp2
    go_end0
    exact ⟨rfl, H3, k3, m3⟩
theorem operate_u {op : Str} (h_read : ¬ op = [114, 101, 97, 100]) (h_print : ¬ op = [112, 114, 105, 110, 116]) (h_ref : ¬ op = [114, 101, 102]) (h_deref : ¬ op = [33]) (h_assign : ¬ op = [58, 61]) (a b : Val) (s : St) :
    operate op [a, b] s = if kV a = 1 ∧ kV b = 1 then (if (opR op (nV a) (nV b)).2.2 then s.has (.lit (opR op (nV a) (nV b)).1 (opR op (nV a) (nV b)).2.1) else s.ends 2) else s.ends 4 := by
  unfold operate
  rw [if_neg h_read, if_neg h_print, if_neg h_ref, if_neg h_deref, if_neg h_assign]
theorem own_uniq {w : World} {B B' n : Nat} {e : TypeId} {sz : Nat} {v : Value} {xs ys : List Value} (h : w.ownsRow B e sz v n xs) (k : w.ownsRow B' e sz v n ys) : xs = ys := by
  rcases h.2 with ⟨h1, h2⟩ | ⟨g, c, cur, h1, _, h3, _, _, _, h7⟩
  · have a := h.1
    have b := k.1
    subst h2
    simp at a b
    rw [a, b]
  · rcases k.2 with ⟨k1, _⟩ | ⟨g', c', cur', k1, _, k3, _, _, _, k7⟩
    · rw [h1] at k1; cases k1
    · rw [h1] at k1
      injection k1 with e1 e2 e3
      injection e1 with e1
      injection e1 with e1
      subst e1
      rw [h3] at k3
      cases k3
      rw [← h7, ← k7]
theorem VV.lit1 {H : Mem} {N : Nat} {m : Int} {l : List Value} (h : VV H N (.lit 1 m) l) : l = litL 1 m := by
  cases h with
  | lit _ _ hc => rfl
set_option maxRecDepth 100000 in
set_option maxHeartbeats 4000000 in
theorem operate_calc {w0 : World} {mb : Nat} {H : Mem} {s : St} {w : World} (h : MS w0 mb H s w) {l : List Val} {g : Nat} {cur : Array Value} (ha : ArgsAt H s.cells.length l g cur) {op : Str} (hl : l.length = 2) (h_read : ¬ op = [114, 101, 97, 100]) (h_print : ¬ op = [112, 114, 105, 110, 116]) (h_ref : ¬ op = [114, 101, 102]) (h_deref : ¬ op = [33]) (h_assign : ¬ op = [58, 61]) :
    Calls Tryz.prog 60 #[pt mb, .string (ba op), .slice (some ⟨g, 0, none⟩) l.length l.length] w (MEnd w0 mb H (operate op l s)) := by
  have t_read := tl_not h_read
  have t_print := tl_not h_print
  have t_ref := tl_not h_ref
  have t_deref := tl_not h_deref
  have t_assign := tl_not h_assign
  obtain ⟨r, v, rfl⟩ : ∃ r v, l = [r, v] := by
    match l, hl with
    | [r, v], _ => exact ⟨r, v, rfl⟩
  obtain ⟨k, n, p, f, hvv, hf, q0, q1, q2, q3⟩ := ha.get h.sub (i := 0) (v := r) rfl
  obtain ⟨k2, n2, p2, f2, hvv2, hf2, r0, r1, r2, r3⟩ := ha.get h.sub (i := 1) (v := v) rfl
  have q0 : w.cell? ⟨g, 0, none⟩ = some (.int .i64 k) := q0
  have q1 : w.cell? ⟨g, 1, none⟩ = some (.int .i64 n) := q1
  have q2 : w.cell? ⟨g, 2, none⟩ = some (.pointer p) := q2
  have q3 : w.cell? ⟨g, 3, none⟩ = some f := q3
  have r0 : w.cell? ⟨g, 4, none⟩ = some (.int .i64 k2) := r0
  have r1 : w.cell? ⟨g, 5, none⟩ = some (.int .i64 n2) := r1
  have r2 : w.cell? ⟨g, 6, none⟩ = some (.pointer p2) := r2
  have r3 : w.cell? ⟨g, 7, none⟩ = some f2 := r3
  have hr : Calls Tryz.prog 89 #[pt mb, .string (ba op), .agg #[.int .i64 k, .int .i64 n, .pointer p, f], .agg #[.int .i64 k2, .int .i64 n2, .pointer p2, f2]] w.drew (MEnd w0 mb H (operate op [r, v] s)) := by
    rw [operate_u h_read h_print h_ref h_deref h_assign]
    by_cases hk : kV r = 1
    · by_cases hk2 : kV v = 1
      · rw [if_pos ⟨hk, hk2⟩]
        have hv1 := of_kind1' hk
        have hv2 := of_kind1' hk2
        obtain ⟨a, hva⟩ : ∃ a, a = nV r := ⟨_, rfl⟩
        obtain ⟨b, hvb⟩ : ∃ b, b = nV v := ⟨_, rfl⟩
        rw [← hva] at hv1 ⊢
        rw [← hvb] at hv2 ⊢
        subst hv1 hv2
        rw [show (#[.int .i64 k, .int .i64 n, .pointer p, f] : Array Value) = (litL 1 a).toArray from congrArg List.toArray hvv.lit1, show (#[.int .i64 k2, .int .i64 n2, .pointer p2, f2] : Array Value) = (litL 1 b).toArray from congrArg List.toArray hvv2.lit1]
        cases hq : (opR op a b).2.2 with
        | true => rw [if_pos rfl]; exact calc_ok h.drew op a b hq
        | false => rw [if_neg (by decide)]; exact calc_zero h.drew op a b hq
      · rw [if_neg (fun h => hk2 h.2)]
        exact calc_stuck_b h.drew hvv hvv2 op hk2
    · rw [if_neg (fun h => hk h.1)]
      exact calc_stuck_a h.drew hvv hvv2 op hk
  have HR := Lib.hid hr
  clear hr ha h hvv hvv2 hl h_read h_print h_ref h_deref h_assign
  unfold pt at HR ⊢
  rcases hf with rfl | ⟨ft, fx, rfl⟩ <;> rcases hf2 with rfl | ⟨ft2, fx2, rfl⟩
  all_goals
    go_enter Tryz.func60, Tryz.ntmps60
    go_wp2_with fail
    go_still_tail 8, (by kernel_rfl)
    change wpList _ _ _ _ _ w.drew
    go_wp2_with fail
    refine HR.out.mono ?_
    rintro e w3 ⟨rfl, H3, k3, m3⟩
    go_wp2
    go_end0
    exact ⟨rfl, H3, k3, m3⟩
set_option maxRecDepth 100000 in
set_option maxHeartbeats 4000000 in
theorem operate_ref {w0 : World} {mb : Nat} {H : Mem} {s : St} {w : World} (h : MS w0 mb H s w) {l : List Val} {g : Nat} {cur : Array Value} (ha : ArgsAt H s.cells.length l g cur) (hl : l.length = 1) (hb : s.cells.length ≤ 1000000) :
    Calls Tryz.prog 60 #[pt mb, .string (ba [114, 101, 102]), .slice (some ⟨g, 0, none⟩) l.length l.length] w (MEnd w0 mb H (operate [114, 101, 102] l s)) := by
  have t_read := tl_not (m := [114, 101, 102]) (l := [114, 101, 97, 100]) (by decide)
  have t_print := tl_not (m := [114, 101, 102]) (l := [112, 114, 105, 110, 116]) (by decide)
  have t_ref := tl_is (m := [114, 101, 102]) (l := [114, 101, 102]) rfl
  obtain ⟨v, rfl⟩ : ∃ v, l = [v] := by
    match l, hl with
    | [v], _ => exact ⟨v, rfl⟩
  obtain ⟨k, n, p, f, hvv, hf, q0, q1, q2, q3⟩ := ha.get h.sub (i := 0) (v := v) rfl
  have q0 : w.cell? ⟨g, 0, none⟩ = some (.int .i64 k) := q0
  have q1 : w.cell? ⟨g, 1, none⟩ = some (.int .i64 n) := q1
  have q2 : w.cell? ⟨g, 2, none⟩ = some (.pointer p) := q2
  have q3 : w.cell? ⟨g, 3, none⟩ = some f := q3
  have e : operate [114, 101, 102] [v] s = { s.has (.lit 5 (s.cells.length : Int)) with cells := s.cells ++ [v] } := by unfold operate; rw [if_neg (by decide), if_neg (by decide), if_pos rfl]
  rw [e]
  clear e
  obtain ⟨i0, hi, hz0, hz1, hz2⟩ := info_c
  obtain ⟨tv, ev, v0, v1, v2, v3, fv, hv, cv, iv, lv, h⟩ := h
  obtain ⟨⟨ls, hls, hown0, hvs⟩, hcf⟩ := h.core.cs
  have hnb : ∀ b, cv.ownBlock = some b → mb + 1 ≤ b ∧ b < w.heap.size := fun b hb => own_lt hown0 hb
  have hgc : ∀ b, cv.ownBlock = some b → g ≠ b := fun b hb e => by
    have h1 := hcf b hb
    rw [← e, ha.mem] at h1
    cases h1
  have hgm : g ≠ mb := fun e => by
    have h1 := h.core.free
    rw [← e, ha.mem] at h1
    cases h1
  obtain ⟨AX, nX, cX, rfl⟩ := own_slice hown0
  have hlg : g < w.heap.size := h.core.dom _ _ ha.mem
  have hlm := h.lies.lt
  rcases hf with rfl | ⟨ft, fx, rfl⟩
  · have hUA : Below w.heap.size w (w.alloc (.cells #[.int .i64 k, .int .i64 n, .pointer p, .nilIface] 68)).drew := (below_new w _).drew
    have HOA := Lib.hid (own_later hown0 hUA)
    have hstep : ∀ (g2 c2 : Nat) (WA : World), WA.ownsRow (mb + 1) 68 4 (.slice (some ⟨g2, 0, none⟩) (s.cells.length + 1) c2) (s.cells.length + 1) (ls.flatten ++ [.int .i64 k, .int .i64 n, .pointer p, .nilIface]) → ((w.alloc (.cells #[.int .i64 k, .int .i64 n, .pointer p, .nilIface] 68)).drew).grownBy WA (Value.slice AX nX cX).ownBlock → ((Value.slice AX nX cX).ownBlock = some g2 ∨ g2 = ((w.alloc (.cells #[.int .i64 k, .int .i64 n, .pointer p, .nilIface] 68)).drew).heap.size) →
        MS w0 mb H { s with cells := s.cells ++ [v] } (WA.setCell ⟨mb, 8, none⟩ (.slice (some ⟨g2, 0, none⟩) (s.cells.length + 1) c2)) ∧ (WA.cell? ⟨g, 0, none⟩ = some (.int .i64 k) ∧ WA.cell? ⟨g, 1, none⟩ = some (.int .i64 n) ∧ WA.cell? ⟨g, 2, none⟩ = some (.pointer p) ∧ WA.cell? ⟨g, 3, none⟩ = some (.nilIface)) ∧ WA.cell? ⟨mb, 8, none⟩ = some (.slice AX nX cX) ∧ WA.frozen? ⟨mb, 8, none⟩ = false ∧ ((WA.setCell ⟨mb, 8, none⟩ (.slice (some ⟨g2, 0, none⟩) (s.cells.length + 1) c2)).cell? ⟨g, 0, none⟩ = some (.int .i64 k) ∧ (WA.setCell ⟨mb, 8, none⟩ (.slice (some ⟨g2, 0, none⟩) (s.cells.length + 1) c2)).cell? ⟨g, 1, none⟩ = some (.int .i64 n) ∧ (WA.setCell ⟨mb, 8, none⟩ (.slice (some ⟨g2, 0, none⟩) (s.cells.length + 1) c2)).cell? ⟨g, 2, none⟩ = some (.pointer p) ∧ (WA.setCell ⟨mb, 8, none⟩ (.slice (some ⟨g2, 0, none⟩) (s.cells.length + 1) c2)).cell? ⟨g, 3, none⟩ = some (.nilIface)) ∧ (WA.setCell ⟨mb, 8, none⟩ (.slice (some ⟨g2, 0, none⟩) (s.cells.length + 1) c2)).cell? ⟨mb, 8, none⟩ = some (.slice (some ⟨g2, 0, none⟩) (s.cells.length + 1) c2) := by
      intro g2 c2 WA hown hgr hat
      have hfar : ∀ b, b < w.heap.size → (Value.slice AX nX cX).ownBlock ≠ some b → WA.heap[b]? = w.heap[b]? := fun b hb hn => (hgr.block b (Nat.lt_of_lt_of_le hb hUA.size) (fun e => hn e.symm)).trans (hUA.block b hb)
      have hl : Lies WA mb 75 (mC tv ev v0 v1 v2 v3 fv hv (.slice AX nX cX) iv lv s.out s.steps s.konts) := (hfar mb hlm (fun e => by have := (hnb _ e).1; omega)).trans h.lies
      have hg1 : WA.heap[g]? = w.heap[g]? := hfar g hlg (fun e => hgc g e rfl)
      have hg2 : (WA.setCell ⟨mb, 8, none⟩ (.slice (some ⟨g2, 0, none⟩) (s.cells.length + 1) c2)).heap[g]? = w.heap[g]? := (Below.heap_setCell WA ⟨mb, 8, none⟩ _ g hgm).trans hg1
      have hms := h.celled (h.core.celled hUA hgr hvv (xs := ls.flatten) (fun ls' h' => own_uniq hown0 h') hown hat) hl
      have k : ∀ j, WA.cell? ⟨g, j, none⟩ = w.cell? ⟨g, j, none⟩ := fun j => World.cell?_of_block (w := w) (a := ⟨g, j, none⟩) hg1
      have k2 : ∀ j, (WA.setCell ⟨mb, 8, none⟩ (.slice (some ⟨g2, 0, none⟩) (s.cells.length + 1) c2)).cell? ⟨g, j, none⟩ = w.cell? ⟨g, j, none⟩ := fun j => World.cell?_of_block (w := w) (a := ⟨g, j, none⟩) hg2
      exact ⟨hms, ⟨(k 0).trans q0, (k 1).trans q1, (k 2).trans q2, (k 3).trans q3⟩, hl.cell 8, hl.free 8, ⟨(k2 0).trans q0, (k2 1).trans q1, (k2 2).trans q2, (k2 3).trans q3⟩, (hl.set 8 _).cell 8⟩
    have z8 : w.cell? ⟨mb, 8, none⟩ = some (.slice AX nX cX) := h.lies.cell 8
    have z8d : w.drew.cell? ⟨mb, 8, none⟩ = some (.slice AX nX cX) := z8
    have z8u : (w.alloc (.cells #[.int .i64 k, .int .i64 n, .pointer p, .nilIface] 68)).drew.cell? ⟨mb, 8, none⟩ = some (.slice AX nX cX) := (h.lies.alloc _).cell 8
    have hsu : (w.alloc (.cells #[.int .i64 k, .int .i64 n, .pointer p, .nilIface] 68)).drew.cell? ⟨g, 0, none⟩ = some (.int .i64 k) ∧ (w.alloc (.cells #[.int .i64 k, .int .i64 n, .pointer p, .nilIface] 68)).drew.cell? ⟨g, 1, none⟩ = some (.int .i64 n) ∧ (w.alloc (.cells #[.int .i64 k, .int .i64 n, .pointer p, .nilIface] 68)).drew.cell? ⟨g, 2, none⟩ = some (.pointer p) ∧ (w.alloc (.cells #[.int .i64 k, .int .i64 n, .pointer p, .nilIface] 68)).drew.cell? ⟨g, 3, none⟩ = some (.nilIface) := by
      have k : ∀ j, (w.alloc (.cells #[.int .i64 k, .int .i64 n, .pointer p, .nilIface] 68)).drew.cell? ⟨g, j, none⟩ = w.cell? ⟨g, j, none⟩ := fun j => World.cell?_of_block (w := w) (a := ⟨g, j, none⟩) (hUA.block g hlg)
      exact ⟨(k 0).trans q0, (k 1).trans q1, (k 2).trans q2, (k 3).trans q3⟩
    have hsd : w.drew.cell? ⟨g, 0, none⟩ = some (.int .i64 k) ∧ w.drew.cell? ⟨g, 1, none⟩ = some (.int .i64 n) ∧ w.drew.cell? ⟨g, 2, none⟩ = some (.pointer p) ∧ w.drew.cell? ⟨g, 3, none⟩ = some (.nilIface) := ⟨q0, q1, q2, q3⟩
    have HSTEP := Lib.hid hstep
    have HSU := Lib.hid hsu
    have HSD := Lib.hid hsd
    clear h hUA hnb hstep hown0 hvs hcf hls hgc ha hvv hl hsu hsd
    unfold pt
    go_enter Tryz.func60, Tryz.ntmps60
    go_wp2_with fail
    refine wp_region_held_drew (S := fun VV => VV.cell? ⟨g, 0, none⟩ = some (.int .i64 k) ∧ VV.cell? ⟨g, 1, none⟩ = some (.int .i64 n) ∧ VV.cell? ⟨g, 2, none⟩ = some (.pointer p) ∧ VV.cell? ⟨g, 3, none⟩ = some (.nilIface)) (by kernel_rfl) ?_ (fun hHeld => ?_)
    · exact HSD.out
    refine tkH 0 29 rfl ?_
    try simp only [Act.put, s1, s2, s3]
    refine tkH 1 30 rfl ?_
    try simp only [Act.put, s1, s2, s3]
    refine tkH 2 31 rfl ?_
    try simp only [Act.put, s1, s2, s3]
    refine tkH 3 32 rfl ?_
    try simp only [Act.put, s1, s2, s3]
    refine tkH 5 34 rfl ?_
    try simp only [Act.put, s1, s2, s3]
    refine tkH 6 35 rfl ?_
    try simp only [Act.put, s1, s2, s3]
    refine tkH 7 36 rfl ?_
    try simp only [Act.put, s1, s2, s3]
    refine wpAnyH_ready (rs := [4, 8]) (by kernel_rfl) (by simp) ?_
    refine AllReadyH.cons (o := ⟨some 33, _, _, _, _, _⟩) rfl (fun K hK => ?_) (AllReadyH.cons (o := ⟨some 37, _, _, _, _, _⟩) rfl (fun K hK => ?_) AllReadyH.nil)
    · go_simp
      refine hK.out _ _ ?_ (fun hHeld => ?_)
      · exact HSD.out
      clear hK K
      try simp only [Act.put, s1, s2, s3]
      refine rd1 8 (some 37) rfl fun K hK => ?_
      go_simp
      refine hK.out _ _ ?_ (fun hHeld => ?_)
      · exact HSU.out
      clear hK K
      try simp only [Act.put, s1, s2, s3]
      refine rd1 9 (some 38) rfl fun K hK => ?_
      refine step_append_lies _ rfl (.tmp 33) (.tmp 37) 73 rfl (mb + 1) 68 i0 (.agg (litL 0 0).toArray) 4 40 Tryz.underlying73 hi hz0 hz1 hz2 rfl (by decide) (Value.slice AX nX cX) s.cells.length _ rfl HOA.out ⟨w.heap.size, 0, none⟩ 1 1 [.int .i64 k, .int .i64 n, .pointer p, .nilIface] rfl rfl (World.news_of_block (Lies.new w 68 #[.int .i64 k, .int .i64 n, .pointer p, .nilIface])) (by simp [Value.oneCell']) (by decide) (by unfold maxLen; omega) (by omega) (by show mb + 1 ≤ (w.alloc _).heap.size; rw [World.size_alloc]; omega) _ rfl ?_
      intro g2 c2 WA hown hgr hat hlt
      obtain ⟨hms, k1, k2, k3, k4, k5⟩ := HSTEP.out _ _ _ hown hgr hat
      have HMS := Lib.hid hms
      have K1 := Lib.hid k1
      have K4 := Lib.hid k4
      clear hms hown hgr hat k4 k1
      refine hK.out _ _ ?_ (fun hHeld => ?_)
      · exact K1.out
      clear hK K
      try simp only [Act.put, s1, s2, s3]
      refine tkH 10 39 rfl ?_
      try simp only [Act.put, s1, s2, s3]
      refine tkH 11 40 rfl ?_
      try simp only [Act.put, s1, s2, s3]
      refine rd1 12 none rfl fun K hK => ?_
      go_simp
      refine hK.out _ _ ?_ (fun hHeld => ?_)
      · exact K4.out
      clear hK K
      try simp only [Act.put, s1, s2, s3]
      refine wpAnyH_done (by kernel_rfl) ?_ _
      clear k2 k3
      go_wp2_with fail
      refine (ref_any _ _).mono ?_
      rintro e w5 ⟨rfl, hb5⟩
      have HM5 := Lib.hid (HMS.out.later hb5)
      clear hb5 k5
      unfold litL
      go_wp2_with fail
      refine (answer_any HM5.out (.lit 5 (s.cells.length : Int) (by simp; omega))).mono ?_
      rintro e w6 ⟨rfl, H6, k6, m6⟩
      go_wp2
      go_end0
      exact ⟨rfl, H6, k6, m6⟩
    · go_simp
      refine hK.out _ _ ?_ (fun hHeld => ?_)
      · exact HSU.out
      clear hK K
      try simp only [Act.put, s1, s2, s3]
      refine rd1 4 (some 33) rfl fun K hK => ?_
      go_simp
      refine hK.out _ _ ?_ (fun hHeld => ?_)
      · exact HSU.out
      clear hK K
      try simp only [Act.put, s1, s2, s3]
      refine rd1 9 (some 38) rfl fun K hK => ?_
      refine step_append_lies _ rfl (.tmp 33) (.tmp 37) 73 rfl (mb + 1) 68 i0 (.agg (litL 0 0).toArray) 4 40 Tryz.underlying73 hi hz0 hz1 hz2 rfl (by decide) (Value.slice AX nX cX) s.cells.length _ rfl HOA.out ⟨w.heap.size, 0, none⟩ 1 1 [.int .i64 k, .int .i64 n, .pointer p, .nilIface] rfl rfl (World.news_of_block (Lies.new w 68 #[.int .i64 k, .int .i64 n, .pointer p, .nilIface])) (by simp [Value.oneCell']) (by decide) (by unfold maxLen; omega) (by omega) (by show mb + 1 ≤ (w.alloc _).heap.size; rw [World.size_alloc]; omega) _ rfl ?_
      intro g2 c2 WA hown hgr hat hlt
      obtain ⟨hms, k1, k2, k3, k4, k5⟩ := HSTEP.out _ _ _ hown hgr hat
      have HMS := Lib.hid hms
      have K1 := Lib.hid k1
      have K4 := Lib.hid k4
      clear hms hown hgr hat k4 k1
      refine hK.out _ _ ?_ (fun hHeld => ?_)
      · exact K1.out
      clear hK K
      try simp only [Act.put, s1, s2, s3]
      refine tkH 10 39 rfl ?_
      try simp only [Act.put, s1, s2, s3]
      refine tkH 11 40 rfl ?_
      try simp only [Act.put, s1, s2, s3]
      refine rd1 12 none rfl fun K hK => ?_
      go_simp
      refine hK.out _ _ ?_ (fun hHeld => ?_)
      · exact K4.out
      clear hK K
      try simp only [Act.put, s1, s2, s3]
      refine wpAnyH_done (by kernel_rfl) ?_ _
      clear k2 k3
      go_wp2_with fail
      refine (ref_any _ _).mono ?_
      rintro e w5 ⟨rfl, hb5⟩
      have HM5 := Lib.hid (HMS.out.later hb5)
      clear hb5 k5
      unfold litL
      go_wp2_with fail
      refine (answer_any HM5.out (.lit 5 (s.cells.length : Int) (by simp; omega))).mono ?_
      rintro e w6 ⟨rfl, H6, k6, m6⟩
      go_wp2
      go_end0
      exact ⟨rfl, H6, k6, m6⟩
  · have hUA : Below w.heap.size w (w.alloc (.cells #[.int .i64 k, .int .i64 n, .pointer p, .iface ft fx] 68)).drew := (below_new w _).drew
    have HOA := Lib.hid (own_later hown0 hUA)
    have hstep : ∀ (g2 c2 : Nat) (WA : World), WA.ownsRow (mb + 1) 68 4 (.slice (some ⟨g2, 0, none⟩) (s.cells.length + 1) c2) (s.cells.length + 1) (ls.flatten ++ [.int .i64 k, .int .i64 n, .pointer p, .iface ft fx]) → ((w.alloc (.cells #[.int .i64 k, .int .i64 n, .pointer p, .iface ft fx] 68)).drew).grownBy WA (Value.slice AX nX cX).ownBlock → ((Value.slice AX nX cX).ownBlock = some g2 ∨ g2 = ((w.alloc (.cells #[.int .i64 k, .int .i64 n, .pointer p, .iface ft fx] 68)).drew).heap.size) →
        MS w0 mb H { s with cells := s.cells ++ [v] } (WA.setCell ⟨mb, 8, none⟩ (.slice (some ⟨g2, 0, none⟩) (s.cells.length + 1) c2)) ∧ (WA.cell? ⟨g, 0, none⟩ = some (.int .i64 k) ∧ WA.cell? ⟨g, 1, none⟩ = some (.int .i64 n) ∧ WA.cell? ⟨g, 2, none⟩ = some (.pointer p) ∧ WA.cell? ⟨g, 3, none⟩ = some (.iface ft fx)) ∧ WA.cell? ⟨mb, 8, none⟩ = some (.slice AX nX cX) ∧ WA.frozen? ⟨mb, 8, none⟩ = false ∧ ((WA.setCell ⟨mb, 8, none⟩ (.slice (some ⟨g2, 0, none⟩) (s.cells.length + 1) c2)).cell? ⟨g, 0, none⟩ = some (.int .i64 k) ∧ (WA.setCell ⟨mb, 8, none⟩ (.slice (some ⟨g2, 0, none⟩) (s.cells.length + 1) c2)).cell? ⟨g, 1, none⟩ = some (.int .i64 n) ∧ (WA.setCell ⟨mb, 8, none⟩ (.slice (some ⟨g2, 0, none⟩) (s.cells.length + 1) c2)).cell? ⟨g, 2, none⟩ = some (.pointer p) ∧ (WA.setCell ⟨mb, 8, none⟩ (.slice (some ⟨g2, 0, none⟩) (s.cells.length + 1) c2)).cell? ⟨g, 3, none⟩ = some (.iface ft fx)) ∧ (WA.setCell ⟨mb, 8, none⟩ (.slice (some ⟨g2, 0, none⟩) (s.cells.length + 1) c2)).cell? ⟨mb, 8, none⟩ = some (.slice (some ⟨g2, 0, none⟩) (s.cells.length + 1) c2) := by
      intro g2 c2 WA hown hgr hat
      have hfar : ∀ b, b < w.heap.size → (Value.slice AX nX cX).ownBlock ≠ some b → WA.heap[b]? = w.heap[b]? := fun b hb hn => (hgr.block b (Nat.lt_of_lt_of_le hb hUA.size) (fun e => hn e.symm)).trans (hUA.block b hb)
      have hl : Lies WA mb 75 (mC tv ev v0 v1 v2 v3 fv hv (.slice AX nX cX) iv lv s.out s.steps s.konts) := (hfar mb hlm (fun e => by have := (hnb _ e).1; omega)).trans h.lies
      have hg1 : WA.heap[g]? = w.heap[g]? := hfar g hlg (fun e => hgc g e rfl)
      have hg2 : (WA.setCell ⟨mb, 8, none⟩ (.slice (some ⟨g2, 0, none⟩) (s.cells.length + 1) c2)).heap[g]? = w.heap[g]? := (Below.heap_setCell WA ⟨mb, 8, none⟩ _ g hgm).trans hg1
      have hms := h.celled (h.core.celled hUA hgr hvv (xs := ls.flatten) (fun ls' h' => own_uniq hown0 h') hown hat) hl
      have k : ∀ j, WA.cell? ⟨g, j, none⟩ = w.cell? ⟨g, j, none⟩ := fun j => World.cell?_of_block (w := w) (a := ⟨g, j, none⟩) hg1
      have k2 : ∀ j, (WA.setCell ⟨mb, 8, none⟩ (.slice (some ⟨g2, 0, none⟩) (s.cells.length + 1) c2)).cell? ⟨g, j, none⟩ = w.cell? ⟨g, j, none⟩ := fun j => World.cell?_of_block (w := w) (a := ⟨g, j, none⟩) hg2
      exact ⟨hms, ⟨(k 0).trans q0, (k 1).trans q1, (k 2).trans q2, (k 3).trans q3⟩, hl.cell 8, hl.free 8, ⟨(k2 0).trans q0, (k2 1).trans q1, (k2 2).trans q2, (k2 3).trans q3⟩, (hl.set 8 _).cell 8⟩
    have z8 : w.cell? ⟨mb, 8, none⟩ = some (.slice AX nX cX) := h.lies.cell 8
    have z8d : w.drew.cell? ⟨mb, 8, none⟩ = some (.slice AX nX cX) := z8
    have z8u : (w.alloc (.cells #[.int .i64 k, .int .i64 n, .pointer p, .iface ft fx] 68)).drew.cell? ⟨mb, 8, none⟩ = some (.slice AX nX cX) := (h.lies.alloc _).cell 8
    have hsu : (w.alloc (.cells #[.int .i64 k, .int .i64 n, .pointer p, .iface ft fx] 68)).drew.cell? ⟨g, 0, none⟩ = some (.int .i64 k) ∧ (w.alloc (.cells #[.int .i64 k, .int .i64 n, .pointer p, .iface ft fx] 68)).drew.cell? ⟨g, 1, none⟩ = some (.int .i64 n) ∧ (w.alloc (.cells #[.int .i64 k, .int .i64 n, .pointer p, .iface ft fx] 68)).drew.cell? ⟨g, 2, none⟩ = some (.pointer p) ∧ (w.alloc (.cells #[.int .i64 k, .int .i64 n, .pointer p, .iface ft fx] 68)).drew.cell? ⟨g, 3, none⟩ = some (.iface ft fx) := by
      have k : ∀ j, (w.alloc (.cells #[.int .i64 k, .int .i64 n, .pointer p, .iface ft fx] 68)).drew.cell? ⟨g, j, none⟩ = w.cell? ⟨g, j, none⟩ := fun j => World.cell?_of_block (w := w) (a := ⟨g, j, none⟩) (hUA.block g hlg)
      exact ⟨(k 0).trans q0, (k 1).trans q1, (k 2).trans q2, (k 3).trans q3⟩
    have hsd : w.drew.cell? ⟨g, 0, none⟩ = some (.int .i64 k) ∧ w.drew.cell? ⟨g, 1, none⟩ = some (.int .i64 n) ∧ w.drew.cell? ⟨g, 2, none⟩ = some (.pointer p) ∧ w.drew.cell? ⟨g, 3, none⟩ = some (.iface ft fx) := ⟨q0, q1, q2, q3⟩
    have HSTEP := Lib.hid hstep
    have HSU := Lib.hid hsu
    have HSD := Lib.hid hsd
    clear h hUA hnb hstep hown0 hvs hcf hls hgc ha hvv hl hsu hsd
    unfold pt
    go_enter Tryz.func60, Tryz.ntmps60
    go_wp2_with fail
    refine wp_region_held_drew (S := fun VV => VV.cell? ⟨g, 0, none⟩ = some (.int .i64 k) ∧ VV.cell? ⟨g, 1, none⟩ = some (.int .i64 n) ∧ VV.cell? ⟨g, 2, none⟩ = some (.pointer p) ∧ VV.cell? ⟨g, 3, none⟩ = some (.iface ft fx)) (by kernel_rfl) ?_ (fun hHeld => ?_)
    · exact HSD.out
    refine tkH 0 29 rfl ?_
    try simp only [Act.put, s1, s2, s3]
    refine tkH 1 30 rfl ?_
    try simp only [Act.put, s1, s2, s3]
    refine tkH 2 31 rfl ?_
    try simp only [Act.put, s1, s2, s3]
    refine tkH 3 32 rfl ?_
    try simp only [Act.put, s1, s2, s3]
    refine tkH 5 34 rfl ?_
    try simp only [Act.put, s1, s2, s3]
    refine tkH 6 35 rfl ?_
    try simp only [Act.put, s1, s2, s3]
    refine tkH 7 36 rfl ?_
    try simp only [Act.put, s1, s2, s3]
    refine wpAnyH_ready (rs := [4, 8]) (by kernel_rfl) (by simp) ?_
    refine AllReadyH.cons (o := ⟨some 33, _, _, _, _, _⟩) rfl (fun K hK => ?_) (AllReadyH.cons (o := ⟨some 37, _, _, _, _, _⟩) rfl (fun K hK => ?_) AllReadyH.nil)
    · go_simp
      refine hK.out _ _ ?_ (fun hHeld => ?_)
      · exact HSD.out
      clear hK K
      try simp only [Act.put, s1, s2, s3]
      refine rd1 8 (some 37) rfl fun K hK => ?_
      go_simp
      refine hK.out _ _ ?_ (fun hHeld => ?_)
      · exact HSU.out
      clear hK K
      try simp only [Act.put, s1, s2, s3]
      refine rd1 9 (some 38) rfl fun K hK => ?_
      refine step_append_lies _ rfl (.tmp 33) (.tmp 37) 73 rfl (mb + 1) 68 i0 (.agg (litL 0 0).toArray) 4 40 Tryz.underlying73 hi hz0 hz1 hz2 rfl (by decide) (Value.slice AX nX cX) s.cells.length _ rfl HOA.out ⟨w.heap.size, 0, none⟩ 1 1 [.int .i64 k, .int .i64 n, .pointer p, .iface ft fx] rfl rfl (World.news_of_block (Lies.new w 68 #[.int .i64 k, .int .i64 n, .pointer p, .iface ft fx])) (by simp [Value.oneCell']) (by decide) (by unfold maxLen; omega) (by omega) (by show mb + 1 ≤ (w.alloc _).heap.size; rw [World.size_alloc]; omega) _ rfl ?_
      intro g2 c2 WA hown hgr hat hlt
      obtain ⟨hms, k1, k2, k3, k4, k5⟩ := HSTEP.out _ _ _ hown hgr hat
      have HMS := Lib.hid hms
      have K1 := Lib.hid k1
      have K4 := Lib.hid k4
      clear hms hown hgr hat k4 k1
      refine hK.out _ _ ?_ (fun hHeld => ?_)
      · exact K1.out
      clear hK K
      try simp only [Act.put, s1, s2, s3]
      refine tkH 10 39 rfl ?_
      try simp only [Act.put, s1, s2, s3]
      refine tkH 11 40 rfl ?_
      try simp only [Act.put, s1, s2, s3]
      refine rd1 12 none rfl fun K hK => ?_
      go_simp
      refine hK.out _ _ ?_ (fun hHeld => ?_)
      · exact K4.out
      clear hK K
      try simp only [Act.put, s1, s2, s3]
      refine wpAnyH_done (by kernel_rfl) ?_ _
      clear k2 k3
      go_wp2_with fail
      refine (ref_any _ _).mono ?_
      rintro e w5 ⟨rfl, hb5⟩
      have HM5 := Lib.hid (HMS.out.later hb5)
      clear hb5 k5
      unfold litL
      go_wp2_with fail
      refine (answer_any HM5.out (.lit 5 (s.cells.length : Int) (by simp; omega))).mono ?_
      rintro e w6 ⟨rfl, H6, k6, m6⟩
      go_wp2
      go_end0
      exact ⟨rfl, H6, k6, m6⟩
    · go_simp
      refine hK.out _ _ ?_ (fun hHeld => ?_)
      · exact HSU.out
      clear hK K
      try simp only [Act.put, s1, s2, s3]
      refine rd1 4 (some 33) rfl fun K hK => ?_
      go_simp
      refine hK.out _ _ ?_ (fun hHeld => ?_)
      · exact HSU.out
      clear hK K
      try simp only [Act.put, s1, s2, s3]
      refine rd1 9 (some 38) rfl fun K hK => ?_
      refine step_append_lies _ rfl (.tmp 33) (.tmp 37) 73 rfl (mb + 1) 68 i0 (.agg (litL 0 0).toArray) 4 40 Tryz.underlying73 hi hz0 hz1 hz2 rfl (by decide) (Value.slice AX nX cX) s.cells.length _ rfl HOA.out ⟨w.heap.size, 0, none⟩ 1 1 [.int .i64 k, .int .i64 n, .pointer p, .iface ft fx] rfl rfl (World.news_of_block (Lies.new w 68 #[.int .i64 k, .int .i64 n, .pointer p, .iface ft fx])) (by simp [Value.oneCell']) (by decide) (by unfold maxLen; omega) (by omega) (by show mb + 1 ≤ (w.alloc _).heap.size; rw [World.size_alloc]; omega) _ rfl ?_
      intro g2 c2 WA hown hgr hat hlt
      obtain ⟨hms, k1, k2, k3, k4, k5⟩ := HSTEP.out _ _ _ hown hgr hat
      have HMS := Lib.hid hms
      have K1 := Lib.hid k1
      have K4 := Lib.hid k4
      clear hms hown hgr hat k4 k1
      refine hK.out _ _ ?_ (fun hHeld => ?_)
      · exact K1.out
      clear hK K
      try simp only [Act.put, s1, s2, s3]
      refine tkH 10 39 rfl ?_
      try simp only [Act.put, s1, s2, s3]
      refine tkH 11 40 rfl ?_
      try simp only [Act.put, s1, s2, s3]
      refine rd1 12 none rfl fun K hK => ?_
      go_simp
      refine hK.out _ _ ?_ (fun hHeld => ?_)
      · exact K4.out
      clear hK K
      try simp only [Act.put, s1, s2, s3]
      refine wpAnyH_done (by kernel_rfl) ?_ _
      clear k2 k3
      go_wp2_with fail
      refine (ref_any _ _).mono ?_
      rintro e w5 ⟨rfl, hb5⟩
      have HM5 := Lib.hid (HMS.out.later hb5)
      clear hb5 k5
      unfold litL
      go_wp2_with fail
      refine (answer_any HM5.out (.lit 5 (s.cells.length : Int) (by simp; omega))).mono ?_
      rintro e w6 ⟨rfl, H6, k6, m6⟩
      go_wp2
      go_end0
      exact ⟨rfl, H6, k6, m6⟩
end So
end Go.Proofs.YtfkakmafedhgdaaGreatDoor.K
