/- The machine of package source: what an operator makes of its values: a cell more, a cell written, numbers. -/
import Derived.Test.YtmodmojocclmaaaGreatDoorMg06
import Derived.Test.YtmodmojocclmaaaGreatDoorMg11
import Derived.Deep.AppendLies
import Derived.Deep.RegionHeld3
import Derived.BigRegion
namespace Go.Proofs.YtmodmojocclmaaaGreatDoor.K
open Go Go.RowKit
namespace So

set_option maxRecDepth 100000 in
set_option maxHeartbeats 4000000 in
theorem operate_assign {w0 : World} {mb : Nat} {H : Mem} {s : St} {w : World} (h : MS w0 mb H s w) {l : List Val} {g : Nat} {cur : Array Value} (ha : ArgsAt H s.cells.length l g cur) (hl : l.length = 2) :
  Calls Tryz.prog 60 #[pt mb, .string (ba [58, 61]), .slice (some ⟨g, 0, none⟩) l.length l.length] w (MEnd w0 mb H (operate [58, 61] l s)) := by
 have t_read := tl_not (m := [58, 61]) (l := [114, 101, 97, 100]) (by decide)
 have t_print := tl_not (m := [58, 61]) (l := [112, 114, 105, 110, 116]) (by decide)
 have t_ref := tl_not (m := [58, 61]) (l := [114, 101, 102]) (by decide)
 have t_deref := tl_not (m := [58, 61]) (l := [33]) (by decide)
 have t_assign := tl_is (m := [58, 61]) (l := [58, 61]) rfl
 obtain ⟨r, v, rfl⟩ : ∃ r v, l = [r, v] := by
  match l, hl with
  | [r, v], _ => exact ⟨r, v, rfl⟩
 obtain ⟨k, n, p, f, hvv, hf, q0, q1, q2, q3⟩ := ha.get h.sub (i := 0) (v := r) rfl
 obtain ⟨k2, n2, p2, f2, hvv2, hf2, r0, r1, r2, r3⟩ := ha.get h.sub (i := 1) (v := v) rfl
 have q0 : w.cell? ⟨g, 0, none⟩ = some (.int .i64 k) := q0
 have q1 : w.cell? ⟨g, 1, none⟩ = some (.int .i64 n) := q1
 have q2 : w.cell? ⟨g, 2, none⟩ = some (.pointer p) := q2
 have q3 : w.cell? ⟨g, 3, none⟩ = some f := q3
 have r0 : w.cell? ⟨g, 4, none⟩ = some (.int .i64 k2) := r0
 have r1 : w.cell? ⟨g, 5, none⟩ = some (.int .i64 n2) := r1
 have r2 : w.cell? ⟨g, 6, none⟩ = some (.pointer p2) := r2
 have r3 : w.cell? ⟨g, 7, none⟩ = some f2 := r3
 have hr : Calls Tryz.prog 88 #[pt mb, .agg #[.int .i64 k, .int .i64 n, .pointer p, f], .agg #[.int .i64 k2, .int .i64 n2, .pointer p2, f2]] w.drew (MEnd w0 mb H (operate [58, 61] [r, v] s)) := by
  by_cases hk : kV r = 5
  ·have e : operate [58, 61] [r, v] s = { s.has unitV with cells := s.cells.set (nV r).toNat v } := by unfold operate; rw [if_neg (by decide), if_neg (by decide), if_neg (by decide), if_neg (by decide), if_pos rfl]; exact if_pos hk
   rw [e]
   have hv1 := of_kind5' hk
   obtain ⟨m, hm⟩ : ∃ m, m = nV r := ⟨_, rfl⟩
   rw [← hm] at hv1 ⊢
   subst hv1
   obtain ⟨he, h0, h1⟩ := hvv.ref5
   obtain ⟨i, rfl⟩ : ∃ i : Nat, m = (i : Int) := ⟨m.toNat, by omega⟩
   have hi : i < s.cells.length := by omega
   rw [show (#[.int .i64 k, .int .i64 n, .pointer p, f] : Array Value) = (litL 5 (i : Int)).toArray from congrArg List.toArray he]
   exact store_ref h.drew i hi hvv2
  ·have e : operate [58, 61] [r, v] s = s.ends 4 := by unfold operate; rw [if_neg (by decide), if_neg (by decide), if_neg (by decide), if_neg (by decide), if_pos rfl]; exact if_neg hk
   rw [e]
   exact store_stuck h.drew hvv hvv2 hk
 have HR := Lib.hid hr
 clear hr ha h hvv hvv2 hl
 unfold pt at HR ⊢
 rcases hf with rfl | ⟨ft, fx, rfl⟩ <;> rcases hf2 with rfl | ⟨ft2, fx2, rfl⟩
 all_goals
  go_enter Tryz.func60, Tryz.ntmps60
  go_wp2_with fail
  go_still_tail 7, (by kernel_rfl)
  change wpList _ _ _ _ _ w.drew
  go_wp2_with fail
  refine HR.out.mono ?_
  rintro e w3 ⟨rfl, H3, k3, m3⟩
  go_wp2
  go_end0
  exact ⟨rfl, H3, k3, m3⟩
theorem operate_u {op : Str} (h_read : ¬ op = [114, 101, 97, 100]) (h_print : ¬ op = [112, 114, 105, 110, 116]) (h_ref : ¬ op = [114, 101, 102]) (h_deref : ¬ op = [33]) (h_assign : ¬ op = [58, 61]) (a b : Val) (s : St) :
  operate op [a, b] s = if kV a = 1 ∧ kV b = 1 then (if (opR op (nV a) (nV b)).2.2 then s.has (.lit (opR op (nV a) (nV b)).1 (opR op (nV a) (nV b)).2.1) else s.ends 2) else s.ends 4 := by
 unfold operate
 rw [if_neg h_read, if_neg h_print, if_neg h_ref, if_neg h_deref, if_neg h_assign]
theorem own_uniq {w : World} {B B' n : Nat} {e : TypeId} {sz : Nat} {v : Value} {xs ys : List Value} (h : w.ownsRow B e sz v n xs) (k : w.ownsRow B' e sz v n ys) : xs = ys := by
 rcases h.2 with ⟨h1, h2⟩ | ⟨g, c, cur, h1, _, h3, _, _, _, h7⟩
 ·have a := h.1
  have b := k.1
  subst h2
  simp at a b
  rw [a, b]
 ·rcases k.2 with ⟨k1, _⟩ | ⟨g', c', cur', k1, _, k3, _, _, _, k7⟩
  ·rw [h1] at k1; cases k1
  ·rw [h1] at k1
   injection k1 with e1 e2 e3
   injection e1 with e1
   injection e1 with e1
   subst e1
   rw [h3] at k3
   cases k3
   rw [← h7, ← k7]
theorem VV.lit1 {H : Mem} {N : Nat} {m : Int} {l : List Value} (h : VV H N (.lit 1 m) l) : l = litL 1 m := by
 cases h with
 | lit _ _ hc => rfl
set_option maxRecDepth 100000 in
set_option maxHeartbeats 4000000 in
theorem operate_calc {w0 : World} {mb : Nat} {H : Mem} {s : St} {w : World} (h : MS w0 mb H s w) {l : List Val} {g : Nat} {cur : Array Value} (ha : ArgsAt H s.cells.length l g cur) {op : Str} (hl : l.length = 2) (h_read : ¬ op = [114, 101, 97, 100]) (h_print : ¬ op = [112, 114, 105, 110, 116]) (h_ref : ¬ op = [114, 101, 102]) (h_deref : ¬ op = [33]) (h_assign : ¬ op = [58, 61]) :
  Calls Tryz.prog 60 #[pt mb, .string (ba op), .slice (some ⟨g, 0, none⟩) l.length l.length] w (MEnd w0 mb H (operate op l s)) := by
 have t_read := tl_not h_read
 have t_print := tl_not h_print
 have t_ref := tl_not h_ref
 have t_deref := tl_not h_deref
 have t_assign := tl_not h_assign
 obtain ⟨r, v, rfl⟩ : ∃ r v, l = [r, v] := by
  match l, hl with
  | [r, v], _ => exact ⟨r, v, rfl⟩
 obtain ⟨k, n, p, f, hvv, hf, q0, q1, q2, q3⟩ := ha.get h.sub (i := 0) (v := r) rfl
 obtain ⟨k2, n2, p2, f2, hvv2, hf2, r0, r1, r2, r3⟩ := ha.get h.sub (i := 1) (v := v) rfl
 have q0 : w.cell? ⟨g, 0, none⟩ = some (.int .i64 k) := q0
 have q1 : w.cell? ⟨g, 1, none⟩ = some (.int .i64 n) := q1
 have q2 : w.cell? ⟨g, 2, none⟩ = some (.pointer p) := q2
 have q3 : w.cell? ⟨g, 3, none⟩ = some f := q3
 have r0 : w.cell? ⟨g, 4, none⟩ = some (.int .i64 k2) := r0
 have r1 : w.cell? ⟨g, 5, none⟩ = some (.int .i64 n2) := r1
 have r2 : w.cell? ⟨g, 6, none⟩ = some (.pointer p2) := r2
 have r3 : w.cell? ⟨g, 7, none⟩ = some f2 := r3
 have hr : Calls Tryz.prog 89 #[pt mb, .string (ba op), .agg #[.int .i64 k, .int .i64 n, .pointer p, f], .agg #[.int .i64 k2, .int .i64 n2, .pointer p2, f2]] w.drew (MEnd w0 mb H (operate op [r, v] s)) := by
  rw [operate_u h_read h_print h_ref h_deref h_assign]
  by_cases hk : kV r = 1
  ·by_cases hk2 : kV v = 1
   ·rw [if_pos ⟨hk, hk2⟩]
    have hv1 := of_kind1' hk
    have hv2 := of_kind1' hk2
    obtain ⟨a, hva⟩ : ∃ a, a = nV r := ⟨_, rfl⟩
    obtain ⟨b, hvb⟩ : ∃ b, b = nV v := ⟨_, rfl⟩
    rw [← hva] at hv1 ⊢
    rw [← hvb] at hv2 ⊢
    subst hv1 hv2
    rw [show (#[.int .i64 k, .int .i64 n, .pointer p, f] : Array Value) = (litL 1 a).toArray from congrArg List.toArray hvv.lit1, show (#[.int .i64 k2, .int .i64 n2, .pointer p2, f2] : Array Value) = (litL 1 b).toArray from congrArg List.toArray hvv2.lit1]
    cases hq : (opR op a b).2.2 with
    | true => rw [if_pos rfl]; exact calc_ok h.drew op a b hq
    | false => rw [if_neg (by decide)]; exact calc_zero h.drew op a b hq
   ·rw [if_neg (fun h => hk2 h.2)]
    exact calc_stuck_b h.drew hvv hvv2 op hk2
  ·rw [if_neg (fun h => hk h.1)]
   exact calc_stuck_a h.drew hvv hvv2 op hk
 have HR := Lib.hid hr
 clear hr ha h hvv hvv2 hl h_read h_print h_ref h_deref h_assign
 unfold pt at HR ⊢
 rcases hf with rfl | ⟨ft, fx, rfl⟩ <;> rcases hf2 with rfl | ⟨ft2, fx2, rfl⟩
 all_goals
  go_enter Tryz.func60, Tryz.ntmps60
  go_wp2_with fail
  go_still_tail 8, (by kernel_rfl)
  change wpList _ _ _ _ _ w.drew
  go_wp2_with fail
  refine HR.out.mono ?_
  rintro e w3 ⟨rfl, H3, k3, m3⟩
  go_wp2
  go_end0
  exact ⟨rfl, H3, k3, m3⟩
set_option maxRecDepth 100000 in
set_option maxHeartbeats 4000000 in
theorem operate_ref {w0 : World} {mb : Nat} {H : Mem} {s : St} {w : World} (h : MS w0 mb H s w) {l : List Val} {g : Nat} {cur : Array Value} (ha : ArgsAt H s.cells.length l g cur) (hl : l.length = 1) (hb : s.cells.length ≤ 1000000) :
  Calls Tryz.prog 60 #[pt mb, .string (ba [114, 101, 102]), .slice (some ⟨g, 0, none⟩) l.length l.length] w (MEnd w0 mb H (operate [114, 101, 102] l s)) := by
 have t_read := tl_not (m := [114, 101, 102]) (l := [114, 101, 97, 100]) (by decide)
 have t_print := tl_not (m := [114, 101, 102]) (l := [112, 114, 105, 110, 116]) (by decide)
 have t_ref := tl_is (m := [114, 101, 102]) (l := [114, 101, 102]) rfl
 obtain ⟨v, rfl⟩ : ∃ v, l = [v] := by
  match l, hl with
  | [v], _ => exact ⟨v, rfl⟩
 obtain ⟨k, n, p, f, hvv, hf, q0, q1, q2, q3⟩ := ha.get h.sub (i := 0) (v := v) rfl
 have q0 : w.cell? ⟨g, 0, none⟩ = some (.int .i64 k) := q0
 have q1 : w.cell? ⟨g, 1, none⟩ = some (.int .i64 n) := q1
 have q2 : w.cell? ⟨g, 2, none⟩ = some (.pointer p) := q2
 have q3 : w.cell? ⟨g, 3, none⟩ = some f := q3
 have e : operate [114, 101, 102] [v] s = { s.has (.lit 5 (s.cells.length : Int)) with cells := s.cells ++ [v] } := by unfold operate; rw [if_neg (by decide), if_neg (by decide), if_pos rfl]
 rw [e]
 clear e
 obtain ⟨i0, hi, hz0, hz1, hz2⟩ := info_c
 obtain ⟨tv, ev, v0, v1, v2, v3, fv, hv, cv, iv, lv, h⟩ := h
 obtain ⟨⟨ls, hls, hown0, hvs⟩, hcf⟩ := h.core.cs
 have hnb : ∀ b, cv.ownBlock = some b → mb + 1 ≤ b ∧ b < w.heap.size := fun b hb => own_lt hown0 hb
 have hgc : ∀ b, cv.ownBlock = some b → g ≠ b := fun b hb e => by
  have h1 := hcf b hb
  rw [← e, ha.mem] at h1
  cases h1
 have hgm : g ≠ mb := fun e => by
  have h1 := h.core.free
  rw [← e, ha.mem] at h1
  cases h1
 obtain ⟨AX, nX, cX, rfl⟩ := own_slice hown0
 have hlg : g < w.heap.size := h.core.dom _ _ ha.mem
 have hlm := h.lies.lt
 rcases hf with rfl | ⟨ft, fx, rfl⟩
 ·have hUA : Below w.heap.size w (w.alloc (.cells #[.int .i64 k, .int .i64 n, .pointer p, .nilIface] 68)).drew := (below_new w _).drew
  have HOA := Lib.hid (own_later hown0 hUA)
  have hstep : ∀ (g2 c2 : Nat) (WA : World), WA.ownsRow (mb + 1) 68 4 (.slice (some ⟨g2, 0, none⟩) (s.cells.length + 1) c2) (s.cells.length + 1) (ls.flatten ++ [.int .i64 k, .int .i64 n, .pointer p, .nilIface]) → ((w.alloc (.cells #[.int .i64 k, .int .i64 n, .pointer p, .nilIface] 68)).drew).grownBy WA (Value.slice AX nX cX).ownBlock → ((Value.slice AX nX cX).ownBlock = some g2 ∨ g2 = ((w.alloc (.cells #[.int .i64 k, .int .i64 n, .pointer p, .nilIface] 68)).drew).heap.size) →
    MS w0 mb H { s with cells := s.cells ++ [v] } (WA.setCell ⟨mb, 8, none⟩ (.slice (some ⟨g2, 0, none⟩) (s.cells.length + 1) c2)) ∧ (WA.cell? ⟨g, 0, none⟩ = some (.int .i64 k) ∧ WA.cell? ⟨g, 1, none⟩ = some (.int .i64 n) ∧ WA.cell? ⟨g, 2, none⟩ = some (.pointer p) ∧ WA.cell? ⟨g, 3, none⟩ = some (.nilIface)) ∧ WA.cell? ⟨mb, 8, none⟩ = some (.slice AX nX cX) ∧ WA.frozen? ⟨mb, 8, none⟩ = false ∧ ((WA.setCell ⟨mb, 8, none⟩ (.slice (some ⟨g2, 0, none⟩) (s.cells.length + 1) c2)).cell? ⟨g, 0, none⟩ = some (.int .i64 k) ∧ (WA.setCell ⟨mb, 8, none⟩ (.slice (some ⟨g2, 0, none⟩) (s.cells.length + 1) c2)).cell? ⟨g, 1, none⟩ = some (.int .i64 n) ∧ (WA.setCell ⟨mb, 8, none⟩ (.slice (some ⟨g2, 0, none⟩) (s.cells.length + 1) c2)).cell? ⟨g, 2, none⟩ = some (.pointer p) ∧ (WA.setCell ⟨mb, 8, none⟩ (.slice (some ⟨g2, 0, none⟩) (s.cells.length + 1) c2)).cell? ⟨g, 3, none⟩ = some (.nilIface)) ∧ (WA.setCell ⟨mb, 8, none⟩ (.slice (some ⟨g2, 0, none⟩) (s.cells.length + 1) c2)).cell? ⟨mb, 8, none⟩ = some (.slice (some ⟨g2, 0, none⟩) (s.cells.length + 1) c2) := by
   intro g2 c2 WA hown hgr hat
   have hfar : ∀ b, b < w.heap.size → (Value.slice AX nX cX).ownBlock ≠ some b → WA.heap[b]? = w.heap[b]? := fun b hb hn => (hgr.block b (Nat.lt_of_lt_of_le hb hUA.size) (fun e => hn e.symm)).trans (hUA.block b hb)
   have hl : Lies WA mb 75 (mC tv ev v0 v1 v2 v3 fv hv (.slice AX nX cX) iv lv s.out s.steps s.konts) := (hfar mb hlm (fun e => by have := (hnb _ e).1; omega)).trans h.lies
   have hg1 : WA.heap[g]? = w.heap[g]? := hfar g hlg (fun e => hgc g e rfl)
   have hg2 : (WA.setCell ⟨mb, 8, none⟩ (.slice (some ⟨g2, 0, none⟩) (s.cells.length + 1) c2)).heap[g]? = w.heap[g]? := (Below.heap_setCell WA ⟨mb, 8, none⟩ _ g hgm).trans hg1
   have hms := h.celled (h.core.celled hUA hgr hvv (xs := ls.flatten) (fun ls' h' => own_uniq hown0 h') hown hat) hl
   have k : ∀ j, WA.cell? ⟨g, j, none⟩ = w.cell? ⟨g, j, none⟩ := fun j => World.cell?_of_block (w := w) (a := ⟨g, j, none⟩) hg1
   have k2 : ∀ j, (WA.setCell ⟨mb, 8, none⟩ (.slice (some ⟨g2, 0, none⟩) (s.cells.length + 1) c2)).cell? ⟨g, j, none⟩ = w.cell? ⟨g, j, none⟩ := fun j => World.cell?_of_block (w := w) (a := ⟨g, j, none⟩) hg2
   exact ⟨hms, ⟨(k 0).trans q0, (k 1).trans q1, (k 2).trans q2, (k 3).trans q3⟩, hl.cell 8, hl.free 8, ⟨(k2 0).trans q0, (k2 1).trans q1, (k2 2).trans q2, (k2 3).trans q3⟩, (hl.set 8 _).cell 8⟩
  have z8 : w.cell? ⟨mb, 8, none⟩ = some (.slice AX nX cX) := h.lies.cell 8
  have z8d : w.drew.cell? ⟨mb, 8, none⟩ = some (.slice AX nX cX) := z8
  have z8u : (w.alloc (.cells #[.int .i64 k, .int .i64 n, .pointer p, .nilIface] 68)).drew.cell? ⟨mb, 8, none⟩ = some (.slice AX nX cX) := (h.lies.alloc _).cell 8
  have hsu : (w.alloc (.cells #[.int .i64 k, .int .i64 n, .pointer p, .nilIface] 68)).drew.cell? ⟨g, 0, none⟩ = some (.int .i64 k) ∧ (w.alloc (.cells #[.int .i64 k, .int .i64 n, .pointer p, .nilIface] 68)).drew.cell? ⟨g, 1, none⟩ = some (.int .i64 n) ∧ (w.alloc (.cells #[.int .i64 k, .int .i64 n, .pointer p, .nilIface] 68)).drew.cell? ⟨g, 2, none⟩ = some (.pointer p) ∧ (w.alloc (.cells #[.int .i64 k, .int .i64 n, .pointer p, .nilIface] 68)).drew.cell? ⟨g, 3, none⟩ = some (.nilIface) := by
   have k : ∀ j, (w.alloc (.cells #[.int .i64 k, .int .i64 n, .pointer p, .nilIface] 68)).drew.cell? ⟨g, j, none⟩ = w.cell? ⟨g, j, none⟩ := fun j => World.cell?_of_block (w := w) (a := ⟨g, j, none⟩) (hUA.block g hlg)
   exact ⟨(k 0).trans q0, (k 1).trans q1, (k 2).trans q2, (k 3).trans q3⟩
  have hsd : w.drew.cell? ⟨g, 0, none⟩ = some (.int .i64 k) ∧ w.drew.cell? ⟨g, 1, none⟩ = some (.int .i64 n) ∧ w.drew.cell? ⟨g, 2, none⟩ = some (.pointer p) ∧ w.drew.cell? ⟨g, 3, none⟩ = some (.nilIface) := ⟨q0, q1, q2, q3⟩
  have HSTEP := Lib.hid hstep
  have HSU := Lib.hid hsu
  have HSD := Lib.hid hsd
  clear h hUA hnb hstep hown0 hvs hcf hls hgc ha hvv hl hsu hsd
  unfold pt
  go_enter Tryz.func60, Tryz.ntmps60
  go_wp2_with fail
  refine wp_region_held_drew (S := fun VV => VV.cell? ⟨g, 0, none⟩ = some (.int .i64 k) ∧ VV.cell? ⟨g, 1, none⟩ = some (.int .i64 n) ∧ VV.cell? ⟨g, 2, none⟩ = some (.pointer p) ∧ VV.cell? ⟨g, 3, none⟩ = some (.nilIface)) (by kernel_rfl) ?_ (fun hHeld => ?_)
  ·exact HSD.out
  refine tkH 0 29 rfl ?_
  try simp only [Act.put, s1, s2, s3]
  refine tkH 1 30 rfl ?_
  try simp only [Act.put, s1, s2, s3]
  refine tkH 2 31 rfl ?_
  try simp only [Act.put, s1, s2, s3]
  refine tkH 3 32 rfl ?_
  try simp only [Act.put, s1, s2, s3]
  refine tkH 5 34 rfl ?_
  try simp only [Act.put, s1, s2, s3]
  refine tkH 6 35 rfl ?_
  try simp only [Act.put, s1, s2, s3]
  refine tkH 7 36 rfl ?_
  try simp only [Act.put, s1, s2, s3]
  refine wpAnyH_ready (rs := [4, 8]) (by kernel_rfl) (by simp) ?_
  refine AllReadyH.cons (o := ⟨some 33, _, _, _, _, _⟩) rfl (fun K hK => ?_) (AllReadyH.cons (o := ⟨some 37, _, _, _, _, _⟩) rfl (fun K hK => ?_) AllReadyH.nil)
  ·go_simp
   refine hK.out _ _ ?_ (fun hHeld => ?_)
   ·exact HSD.out
   clear hK K
   try simp only [Act.put, s1, s2, s3]
   refine rd1 8 (some 37) rfl fun K hK => ?_
   go_simp
   refine hK.out _ _ ?_ (fun hHeld => ?_)
   ·exact HSU.out
   clear hK K
   try simp only [Act.put, s1, s2, s3]
   refine rd1 9 (some 38) rfl fun K hK => ?_
   refine step_append_lies _ rfl (.tmp 33) (.tmp 37) 73 rfl (mb + 1) 68 i0 (.agg (litL 0 0).toArray) 4 40 Tryz.underlying73 hi hz0 hz1 hz2 rfl (by decide) (Value.slice AX nX cX) s.cells.length _ rfl HOA.out ⟨w.heap.size, 0, none⟩ 1 1 [.int .i64 k, .int .i64 n, .pointer p, .nilIface] rfl rfl (World.news_of_block (Lies.new w 68 #[.int .i64 k, .int .i64 n, .pointer p, .nilIface])) (by simp [Value.oneCell']) (by decide) (by unfold maxLen; omega) (by omega) (by show mb + 1 ≤ (w.alloc _).heap.size; rw [World.size_alloc]; omega) _ rfl ?_
   intro g2 c2 WA hown hgr hat hlt
   obtain ⟨hms, k1, k2, k3, k4, k5⟩ := HSTEP.out _ _ _ hown hgr hat
   have HMS := Lib.hid hms
   have K1 := Lib.hid k1
   have K4 := Lib.hid k4
   clear hms hown hgr hat k4 k1
   refine hK.out _ _ ?_ (fun hHeld => ?_)
   ·exact K1.out
   clear hK K
   try simp only [Act.put, s1, s2, s3]
   refine tkH 10 39 rfl ?_
   try simp only [Act.put, s1, s2, s3]
   refine tkH 11 40 rfl ?_
   try simp only [Act.put, s1, s2, s3]
   refine rd1 12 none rfl fun K hK => ?_
   go_simp
   refine hK.out _ _ ?_ (fun hHeld => ?_)
   ·exact K4.out
   clear hK K
   try simp only [Act.put, s1, s2, s3]
   refine wpAnyH_done (by kernel_rfl) ?_ _
   clear k2 k3
   go_wp2_with fail
   refine (ref_any _ _).mono ?_
   rintro e w5 ⟨rfl, hb5⟩
   have HM5 := Lib.hid (HMS.out.later hb5)
   clear hb5 k5
   unfold litL
   go_wp2_with fail
   refine (answer_any HM5.out (.lit 5 (s.cells.length : Int) (by simp; omega))).mono ?_
   rintro e w6 ⟨rfl, H6, k6, m6⟩
   go_wp2
   go_end0
   exact ⟨rfl, H6, k6, m6⟩
  ·go_simp
   refine hK.out _ _ ?_ (fun hHeld => ?_)
   ·exact HSU.out
   clear hK K
   try simp only [Act.put, s1, s2, s3]
   refine rd1 4 (some 33) rfl fun K hK => ?_
   go_simp
   refine hK.out _ _ ?_ (fun hHeld => ?_)
   ·exact HSU.out
   clear hK K
   try simp only [Act.put, s1, s2, s3]
   refine rd1 9 (some 38) rfl fun K hK => ?_
   refine step_append_lies _ rfl (.tmp 33) (.tmp 37) 73 rfl (mb + 1) 68 i0 (.agg (litL 0 0).toArray) 4 40 Tryz.underlying73 hi hz0 hz1 hz2 rfl (by decide) (Value.slice AX nX cX) s.cells.length _ rfl HOA.out ⟨w.heap.size, 0, none⟩ 1 1 [.int .i64 k, .int .i64 n, .pointer p, .nilIface] rfl rfl (World.news_of_block (Lies.new w 68 #[.int .i64 k, .int .i64 n, .pointer p, .nilIface])) (by simp [Value.oneCell']) (by decide) (by unfold maxLen; omega) (by omega) (by show mb + 1 ≤ (w.alloc _).heap.size; rw [World.size_alloc]; omega) _ rfl ?_
   intro g2 c2 WA hown hgr hat hlt
   obtain ⟨hms, k1, k2, k3, k4, k5⟩ := HSTEP.out _ _ _ hown hgr hat
   have HMS := Lib.hid hms
   have K1 := Lib.hid k1
   have K4 := Lib.hid k4
   clear hms hown hgr hat k4 k1
   refine hK.out _ _ ?_ (fun hHeld => ?_)
   ·exact K1.out
   clear hK K
   try simp only [Act.put, s1, s2, s3]
   refine tkH 10 39 rfl ?_
   try simp only [Act.put, s1, s2, s3]
   refine tkH 11 40 rfl ?_
   try simp only [Act.put, s1, s2, s3]
   refine rd1 12 none rfl fun K hK => ?_
   go_simp
   refine hK.out _ _ ?_ (fun hHeld => ?_)
   ·exact K4.out
   clear hK K
   try simp only [Act.put, s1, s2, s3]
   refine wpAnyH_done (by kernel_rfl) ?_ _
   clear k2 k3
   go_wp2_with fail
   refine (ref_any _ _).mono ?_
   rintro e w5 ⟨rfl, hb5⟩
   have HM5 := Lib.hid (HMS.out.later hb5)
   clear hb5 k5
   unfold litL
   go_wp2_with fail
   refine (answer_any HM5.out (.lit 5 (s.cells.length : Int) (by simp; omega))).mono ?_
   rintro e w6 ⟨rfl, H6, k6, m6⟩
   go_wp2
   go_end0
   exact ⟨rfl, H6, k6, m6⟩
 ·have hUA : Below w.heap.size w (w.alloc (.cells #[.int .i64 k, .int .i64 n, .pointer p, .iface ft fx] 68)).drew := (below_new w _).drew
  have HOA := Lib.hid (own_later hown0 hUA)
  have hstep : ∀ (g2 c2 : Nat) (WA : World), WA.ownsRow (mb + 1) 68 4 (.slice (some ⟨g2, 0, none⟩) (s.cells.length + 1) c2) (s.cells.length + 1) (ls.flatten ++ [.int .i64 k, .int .i64 n, .pointer p, .iface ft fx]) → ((w.alloc (.cells #[.int .i64 k, .int .i64 n, .pointer p, .iface ft fx] 68)).drew).grownBy WA (Value.slice AX nX cX).ownBlock → ((Value.slice AX nX cX).ownBlock = some g2 ∨ g2 = ((w.alloc (.cells #[.int .i64 k, .int .i64 n, .pointer p, .iface ft fx] 68)).drew).heap.size) →
    MS w0 mb H { s with cells := s.cells ++ [v] } (WA.setCell ⟨mb, 8, none⟩ (.slice (some ⟨g2, 0, none⟩) (s.cells.length + 1) c2)) ∧ (WA.cell? ⟨g, 0, none⟩ = some (.int .i64 k) ∧ WA.cell? ⟨g, 1, none⟩ = some (.int .i64 n) ∧ WA.cell? ⟨g, 2, none⟩ = some (.pointer p) ∧ WA.cell? ⟨g, 3, none⟩ = some (.iface ft fx)) ∧ WA.cell? ⟨mb, 8, none⟩ = some (.slice AX nX cX) ∧ WA.frozen? ⟨mb, 8, none⟩ = false ∧ ((WA.setCell ⟨mb, 8, none⟩ (.slice (some ⟨g2, 0, none⟩) (s.cells.length + 1) c2)).cell? ⟨g, 0, none⟩ = some (.int .i64 k) ∧ (WA.setCell ⟨mb, 8, none⟩ (.slice (some ⟨g2, 0, none⟩) (s.cells.length + 1) c2)).cell? ⟨g, 1, none⟩ = some (.int .i64 n) ∧ (WA.setCell ⟨mb, 8, none⟩ (.slice (some ⟨g2, 0, none⟩) (s.cells.length + 1) c2)).cell? ⟨g, 2, none⟩ = some (.pointer p) ∧ (WA.setCell ⟨mb, 8, none⟩ (.slice (some ⟨g2, 0, none⟩) (s.cells.length + 1) c2)).cell? ⟨g, 3, none⟩ = some (.iface ft fx)) ∧ (WA.setCell ⟨mb, 8, none⟩ (.slice (some ⟨g2, 0, none⟩) (s.cells.length + 1) c2)).cell? ⟨mb, 8, none⟩ = some (.slice (some ⟨g2, 0, none⟩) (s.cells.length + 1) c2) := by
   intro g2 c2 WA hown hgr hat
   have hfar : ∀ b, b < w.heap.size → (Value.slice AX nX cX).ownBlock ≠ some b → WA.heap[b]? = w.heap[b]? := fun b hb hn => (hgr.block b (Nat.lt_of_lt_of_le hb hUA.size) (fun e => hn e.symm)).trans (hUA.block b hb)
   have hl : Lies WA mb 75 (mC tv ev v0 v1 v2 v3 fv hv (.slice AX nX cX) iv lv s.out s.steps s.konts) := (hfar mb hlm (fun e => by have := (hnb _ e).1; omega)).trans h.lies
   have hg1 : WA.heap[g]? = w.heap[g]? := hfar g hlg (fun e => hgc g e rfl)
   have hg2 : (WA.setCell ⟨mb, 8, none⟩ (.slice (some ⟨g2, 0, none⟩) (s.cells.length + 1) c2)).heap[g]? = w.heap[g]? := (Below.heap_setCell WA ⟨mb, 8, none⟩ _ g hgm).trans hg1
   have hms := h.celled (h.core.celled hUA hgr hvv (xs := ls.flatten) (fun ls' h' => own_uniq hown0 h') hown hat) hl
   have k : ∀ j, WA.cell? ⟨g, j, none⟩ = w.cell? ⟨g, j, none⟩ := fun j => World.cell?_of_block (w := w) (a := ⟨g, j, none⟩) hg1
   have k2 : ∀ j, (WA.setCell ⟨mb, 8, none⟩ (.slice (some ⟨g2, 0, none⟩) (s.cells.length + 1) c2)).cell? ⟨g, j, none⟩ = w.cell? ⟨g, j, none⟩ := fun j => World.cell?_of_block (w := w) (a := ⟨g, j, none⟩) hg2
   exact ⟨hms, ⟨(k 0).trans q0, (k 1).trans q1, (k 2).trans q2, (k 3).trans q3⟩, hl.cell 8, hl.free 8, ⟨(k2 0).trans q0, (k2 1).trans q1, (k2 2).trans q2, (k2 3).trans q3⟩, (hl.set 8 _).cell 8⟩
  have z8 : w.cell? ⟨mb, 8, none⟩ = some (.slice AX nX cX) := h.lies.cell 8
  have z8d : w.drew.cell? ⟨mb, 8, none⟩ = some (.slice AX nX cX) := z8
  have z8u : (w.alloc (.cells #[.int .i64 k, .int .i64 n, .pointer p, .iface ft fx] 68)).drew.cell? ⟨mb, 8, none⟩ = some (.slice AX nX cX) := (h.lies.alloc _).cell 8
  have hsu : (w.alloc (.cells #[.int .i64 k, .int .i64 n, .pointer p, .iface ft fx] 68)).drew.cell? ⟨g, 0, none⟩ = some (.int .i64 k) ∧ (w.alloc (.cells #[.int .i64 k, .int .i64 n, .pointer p, .iface ft fx] 68)).drew.cell? ⟨g, 1, none⟩ = some (.int .i64 n) ∧ (w.alloc (.cells #[.int .i64 k, .int .i64 n, .pointer p, .iface ft fx] 68)).drew.cell? ⟨g, 2, none⟩ = some (.pointer p) ∧ (w.alloc (.cells #[.int .i64 k, .int .i64 n, .pointer p, .iface ft fx] 68)).drew.cell? ⟨g, 3, none⟩ = some (.iface ft fx) := by
   have k : ∀ j, (w.alloc (.cells #[.int .i64 k, .int .i64 n, .pointer p, .iface ft fx] 68)).drew.cell? ⟨g, j, none⟩ = w.cell? ⟨g, j, none⟩ := fun j => World.cell?_of_block (w := w) (a := ⟨g, j, none⟩) (hUA.block g hlg)
   exact ⟨(k 0).trans q0, (k 1).trans q1, (k 2).trans q2, (k 3).trans q3⟩
  have hsd : w.drew.cell? ⟨g, 0, none⟩ = some (.int .i64 k) ∧ w.drew.cell? ⟨g, 1, none⟩ = some (.int .i64 n) ∧ w.drew.cell? ⟨g, 2, none⟩ = some (.pointer p) ∧ w.drew.cell? ⟨g, 3, none⟩ = some (.iface ft fx) := ⟨q0, q1, q2, q3⟩
  have HSTEP := Lib.hid hstep
  have HSU := Lib.hid hsu
  have HSD := Lib.hid hsd
  clear h hUA hnb hstep hown0 hvs hcf hls hgc ha hvv hl hsu hsd
  unfold pt
  go_enter Tryz.func60, Tryz.ntmps60
  go_wp2_with fail
  refine wp_region_held_drew (S := fun VV => VV.cell? ⟨g, 0, none⟩ = some (.int .i64 k) ∧ VV.cell? ⟨g, 1, none⟩ = some (.int .i64 n) ∧ VV.cell? ⟨g, 2, none⟩ = some (.pointer p) ∧ VV.cell? ⟨g, 3, none⟩ = some (.iface ft fx)) (by kernel_rfl) ?_ (fun hHeld => ?_)
  ·exact HSD.out
  refine tkH 0 29 rfl ?_
  try simp only [Act.put, s1, s2, s3]
  refine tkH 1 30 rfl ?_
  try simp only [Act.put, s1, s2, s3]
  refine tkH 2 31 rfl ?_
  try simp only [Act.put, s1, s2, s3]
  refine tkH 3 32 rfl ?_
  try simp only [Act.put, s1, s2, s3]
  refine tkH 5 34 rfl ?_
  try simp only [Act.put, s1, s2, s3]
  refine tkH 6 35 rfl ?_
  try simp only [Act.put, s1, s2, s3]
  refine tkH 7 36 rfl ?_
  try simp only [Act.put, s1, s2, s3]
  refine wpAnyH_ready (rs := [4, 8]) (by kernel_rfl) (by simp) ?_
  refine AllReadyH.cons (o := ⟨some 33, _, _, _, _, _⟩) rfl (fun K hK => ?_) (AllReadyH.cons (o := ⟨some 37, _, _, _, _, _⟩) rfl (fun K hK => ?_) AllReadyH.nil)
  ·go_simp
   refine hK.out _ _ ?_ (fun hHeld => ?_)
   ·exact HSD.out
   clear hK K
   try simp only [Act.put, s1, s2, s3]
   refine rd1 8 (some 37) rfl fun K hK => ?_
   go_simp
   refine hK.out _ _ ?_ (fun hHeld => ?_)
   ·exact HSU.out
   clear hK K
   try simp only [Act.put, s1, s2, s3]
   refine rd1 9 (some 38) rfl fun K hK => ?_
   refine step_append_lies _ rfl (.tmp 33) (.tmp 37) 73 rfl (mb + 1) 68 i0 (.agg (litL 0 0).toArray) 4 40 Tryz.underlying73 hi hz0 hz1 hz2 rfl (by decide) (Value.slice AX nX cX) s.cells.length _ rfl HOA.out ⟨w.heap.size, 0, none⟩ 1 1 [.int .i64 k, .int .i64 n, .pointer p, .iface ft fx] rfl rfl (World.news_of_block (Lies.new w 68 #[.int .i64 k, .int .i64 n, .pointer p, .iface ft fx])) (by simp [Value.oneCell']) (by decide) (by unfold maxLen; omega) (by omega) (by show mb + 1 ≤ (w.alloc _).heap.size; rw [World.size_alloc]; omega) _ rfl ?_
   intro g2 c2 WA hown hgr hat hlt
   obtain ⟨hms, k1, k2, k3, k4, k5⟩ := HSTEP.out _ _ _ hown hgr hat
   have HMS := Lib.hid hms
   have K1 := Lib.hid k1
   have K4 := Lib.hid k4
   clear hms hown hgr hat k4 k1
   refine hK.out _ _ ?_ (fun hHeld => ?_)
   ·exact K1.out
   clear hK K
   try simp only [Act.put, s1, s2, s3]
   refine tkH 10 39 rfl ?_
   try simp only [Act.put, s1, s2, s3]
   refine tkH 11 40 rfl ?_
   try simp only [Act.put, s1, s2, s3]
   refine rd1 12 none rfl fun K hK => ?_
   go_simp
   refine hK.out _ _ ?_ (fun hHeld => ?_)
   ·exact K4.out
   clear hK K
   try simp only [Act.put, s1, s2, s3]
   refine wpAnyH_done (by kernel_rfl) ?_ _
   clear k2 k3
   go_wp2_with fail
   refine (ref_any _ _).mono ?_
   rintro e w5 ⟨rfl, hb5⟩
   have HM5 := Lib.hid (HMS.out.later hb5)
   clear hb5 k5
   unfold litL
   go_wp2_with fail
   refine (answer_any HM5.out (.lit 5 (s.cells.length : Int) (by simp; omega))).mono ?_
   rintro e w6 ⟨rfl, H6, k6, m6⟩
   go_wp2
   go_end0
   exact ⟨rfl, H6, k6, m6⟩
  ·go_simp
   refine hK.out _ _ ?_ (fun hHeld => ?_)
   ·exact HSU.out
   clear hK K
   try simp only [Act.put, s1, s2, s3]
   refine rd1 4 (some 33) rfl fun K hK => ?_
   go_simp
   refine hK.out _ _ ?_ (fun hHeld => ?_)
   ·exact HSU.out
   clear hK K
   try simp only [Act.put, s1, s2, s3]
   refine rd1 9 (some 38) rfl fun K hK => ?_
   refine step_append_lies _ rfl (.tmp 33) (.tmp 37) 73 rfl (mb + 1) 68 i0 (.agg (litL 0 0).toArray) 4 40 Tryz.underlying73 hi hz0 hz1 hz2 rfl (by decide) (Value.slice AX nX cX) s.cells.length _ rfl HOA.out ⟨w.heap.size, 0, none⟩ 1 1 [.int .i64 k, .int .i64 n, .pointer p, .iface ft fx] rfl rfl (World.news_of_block (Lies.new w 68 #[.int .i64 k, .int .i64 n, .pointer p, .iface ft fx])) (by simp [Value.oneCell']) (by decide) (by unfold maxLen; omega) (by omega) (by show mb + 1 ≤ (w.alloc _).heap.size; rw [World.size_alloc]; omega) _ rfl ?_
   intro g2 c2 WA hown hgr hat hlt
   obtain ⟨hms, k1, k2, k3, k4, k5⟩ := HSTEP.out _ _ _ hown hgr hat
   have HMS := Lib.hid hms
   have K1 := Lib.hid k1
   have K4 := Lib.hid k4
   clear hms hown hgr hat k4 k1
   refine hK.out _ _ ?_ (fun hHeld => ?_)
   ·exact K1.out
   clear hK K
   try simp only [Act.put, s1, s2, s3]
   refine tkH 10 39 rfl ?_
   try simp only [Act.put, s1, s2, s3]
   refine tkH 11 40 rfl ?_
   try simp only [Act.put, s1, s2, s3]
   refine rd1 12 none rfl fun K hK => ?_
   go_simp
   refine hK.out _ _ ?_ (fun hHeld => ?_)
   ·exact K4.out
   clear hK K
   try simp only [Act.put, s1, s2, s3]
   refine wpAnyH_done (by kernel_rfl) ?_ _
   clear k2 k3
   go_wp2_with fail
   refine (ref_any _ _).mono ?_
   rintro e w5 ⟨rfl, hb5⟩
   have HM5 := Lib.hid (HMS.out.later hb5)
   clear hb5 k5
   unfold litL
   go_wp2_with fail
   refine (answer_any HM5.out (.lit 5 (s.cells.length : Int) (by simp; omega))).mono ?_
   rintro e w6 ⟨rfl, H6, k6, m6⟩
   go_wp2
   go_end0
   exact ⟨rfl, H6, k6, m6⟩
end So
end Go.Proofs.YtmodmojocclmaaaGreatDoor.K

/- The machine of package source: what gathers values goes on. -/
namespace Go.Proofs.YtmodmojocclmaaaGreatDoor.K
open Go Go.RowKit
namespace So

theorem operate_any {w0 : World} {mb : Nat} {H : Mem} {s : St} {w : World} (h : MS w0 mb H s w) {l : List Val} {g : Nat} {cur : Array Value} (ha : ArgsAt H s.cells.length l g cur) {op : Str} (hop : argc op = some l.length) (ht : s.trace.length ≤ 1000000) (hc : s.cells.length ≤ 1000000) :
  Calls Tryz.prog 60 #[pt mb, .string (ba op), .slice (some ⟨g, 0, none⟩) l.length l.length] w (MEnd w0 mb H (operate op l s)) := by
 by_cases h1 : op = [114, 101, 97, 100]
 ·subst h1; exact operate_read h ha
 by_cases h2 : op = [112, 114, 105, 110, 116]
 ·subst h2; exact operate_print h ha (by have : (1 : Nat) = l.length := Option.some.inj hop; omega) ht
 by_cases h3 : op = [114, 101, 102]
 ·subst h3; exact operate_ref h ha (by have : (1 : Nat) = l.length := Option.some.inj hop; omega) hc
 by_cases h4 : op = [33]
 ·subst h4; exact operate_deref h ha (by have : (1 : Nat) = l.length := Option.some.inj hop; omega)
 by_cases h5 : op = [58, 61]
 ·subst h5; exact operate_assign h ha (by have : (2 : Nat) = l.length := Option.some.inj hop; omega)
 refine operate_calc h ha ?_ h1 h2 h3 h4 h5
 unfold argc at hop
 rw [if_neg h1, if_neg h2, if_neg h3, if_neg h4] at hop
 repeat' split at hop
 all_goals first | exact (Option.some.inj hop).symm | exact absurd hop (by simp)
set_option maxRecDepth 100000 in
set_option maxHeartbeats 4000000 in
theorem gather_more {w0 : World} {mb : Nat} {H : Mem} {s : St} {w : World} (h : MS w0 mb H s w) {t : Tm} {en : Env} {done : List Val} {b tb to : Nat} {ev lv : Value} (hg : HR H b 0 [ptO tb to, ev, .int .i64 (done.length : Int), lv]) (ht : TmA H tb to t) (he : EV H s.cells.length en ev) (hd : RV H s.cells.length done lv)
  (hk : t.k = 11 ∨ (t.k = 10 ∧ argc t.nm = some t.kids.length)) (hl : done.length < t.kids.length) :
  Calls Tryz.prog 38 #[pt mb, pt b] w (MEnd w0 mb H (gather t en done s)) := by
 have e : gather t en done s = (s.push (.gath t en done)).goes (kid t done.length) en := by unfold gather; rw [if_pos hl]
 rw [e]
 clear e
 obtain ⟨av, kv, rv, rest, hr, hsl, hks, har⟩ := ht.open
 obtain ⟨A, c, rfl, hAc, hAl, hA⟩ := hsl
 have g0 := hg 0 _ rfl
 have g1 := hg 1 _ rfl
 have g2 := hg 2 _ rfl
 have q0 : w.cell? ⟨b, 0, none⟩ = some (ptO tb to) := g0.cell h.sub
 have q1 : w.cell? ⟨b, 1, none⟩ = some ev := g1.cell h.sub
 have q2 : w.cell? ⟨b, 2, none⟩ = some (.int .i64 (done.length : Int)) := g2.cell h.sub
 have r0' : HC H ⟨tb, to, none⟩ (.int .i64 t.k) := hr 0 _ rfl
 have r2' : HC H ⟨tb, to + 2, none⟩ (.string (ba t.nm)) := hr 2 _ rfl
 have r5' : HC H ⟨tb, to + 5, none⟩ (.slice A t.kids.length c) := hr 5 _ rfl
 have r0 := r0'.cell h.sub
 have r2 := r2'.cell h.sub
 have r5 := r5'.cell h.sub
 obtain ⟨kg, ko, rfl⟩ := hA (by omega)
 have hkid : TmA H kg (ko + done.length * 21) (kid t done.length) := hks done.length _ (kid_get hl)
 have hli : (done.length : Int) < (t.kids.length : Int) := by omega
 have hp := push_any h.drew (.gath t en done b tb to ev lv hg ht he hd hk hl)
 have HP := Lib.hid hp
 have G0 := Lib.hid g0
 have G1 := Lib.hid g1
 have G2 := Lib.hid g2
 have R5 := Lib.hid r5'
 have HKID := Lib.hid hkid
 have HE := Lib.hid he
 clear hp h hg ht he hd hk hl g0 g1 g2 r0' r2' r5' hr hks har hA hkid
 obtain ⟨a, rfl⟩ := HE.out.ptr
 unfold pt ptO at *
 go_enter Tryz.func38, Tryz.ntmps38
 go_wp2
 go_region
 all_goals
  go_wp2_with fail
  refine HP.out.mono ?_
  rintro e w2 ⟨rfl, H2, k2, m2⟩
  have x0 := (G0.out.le k2).cell m2.sub
  have x1 := (G1.out.le k2).cell m2.sub
  have x2 := (G2.out.le k2).cell m2.sub
  have x5 := (R5.out.le k2).cell m2.sub
  have HAT := Lib.hid (at_any m2.drew (HKID.out.le k2) (HE.out.le k2 (Nat.le_refl _)))
  have K2 := Lib.hid k2
  clear m2 k2
  go_wp2_with fail
  go_still_tail 17, (by kernel_rfl)
  change wpList _ _ _ _ _ w2.drew
  go_wp2_with fail
  refine HAT.out.mono ?_
  rintro e w3 ⟨rfl, H3, k3, m3⟩
  go_wp2
  go_end0
  exact ⟨rfl, H3, K2.out.trans k3, m3⟩
theorem con_of {H : Mem} {N : Nat} {kids : List Val} {nm : Str} {g b : Nat} {cur : Array Value} (hm : H g = some (.cells cur 68 (0, 0))) (_hs : cur.size = kids.length * 4) (hrow : RowAt H N cur kids 0) (hn : kids.length ≤ 2000000)
  (hb : HR H b 0 [.string (ba nm), .slice (some ⟨g, 0, none⟩) kids.length kids.length]) : VV H N (.con nm kids) [.int .i64 4, .int .i64 0, pt b, .nilIface] := by
 have hcell : ∀ i u, cur[i]? = some u → HC H ⟨g, i, none⟩ u := fun i u hu => ⟨_, hm, fun w hw => by
  have hl : Lies w g 68 cur := hw
  exact (hl.cell i).trans hu⟩
 refine .con nm kids b (.slice (some ⟨g, 0, none⟩) kids.length kids.length) (fun i => [cur[i * 4]?.getD undef, cur[i * 4 + 1]?.getD undef, cur[i * 4 + 2]?.getD undef, cur[i * 4 + 3]?.getD undef]) hb ⟨_, _, rfl, Nat.le_refl _, hn, fun _ => ⟨_, _, rfl⟩⟩ (fun i v hv => ?_) (fun i hi => ?_)
 ·obtain ⟨a, b', c, d, hvv, h0, h1, h2, h3⟩ := hrow i v (Nat.zero_le _) hv
  rw [h0, h1, h2, h3]
  exact hvv
 ·obtain ⟨v, hv⟩ : ∃ v, kids[i]? = some v := ⟨_, List.getElem?_eq_getElem hi⟩
  obtain ⟨a, b', c, d, hvv, h0, h1, h2, h3⟩ := hrow i v (Nat.zero_le _) hv
  intro j u hu
  simp only [h0, h1, h2, h3, Option.getD_some] at hu
  simp only [blk, off, Nat.zero_add]
  match j, hu with
  | 0, hu => obtain rfl : a = u := (by simpa using hu); exact hcell _ _ h0
  | 1, hu => obtain rfl : b' = u := (by simpa using hu); exact hcell _ _ h1
  | 2, hu => obtain rfl : c = u := (by simpa using hu); exact hcell _ _ h2
  | 3, hu => obtain rfl : d = u := (by simpa using hu); exact hcell _ _ h3
  | j + 4, hu => simp at hu
theorem RowAt.le {H H' : Mem} {N N' : Nat} (hk : MLe H H') (hN : N ≤ N') {cur : Array Value} {l : List Val} {m : Nat} (h : RowAt H N cur l m) : RowAt H' N' cur l m := fun i v h1 h2 => by
 obtain ⟨a, b, c, d, k0, k1, k2, k3, k4⟩ := h i v h1 h2
 exact ⟨a, b, c, d, k0.le hk hN, k1, k2, k3, k4⟩
def AllAny (w0 : World) (mb : Nat) (H : Mem) (s : St) (l : List Val) (e : Ending) (w' : World) : Prop := ∃ H' g cur, e = .returned (.slice (some ⟨g, 0, none⟩) l.length l.length) ∧ MLe H H' ∧ MS w0 mb H' s w' ∧ ArgsAt H' s.cells.length l g cur
theorem all_ms {w0 : World} {mb : Nat} {H : Mem} {s : St} {w : World} (h : MS w0 mb H s w) (b : Nat) (tv ev lv : Value) (done : List Val) (hr : HR H b 0 [tv, ev, .int .i64 (done.length : Int), lv]) (hd : RV H s.cells.length done lv) (hn : done.length ≤ 2000000) :
  Calls Tryz.prog 59 #[pt b] w (AllAny w0 mb H s done.reverse) :=
 (all_any h.sub b tv ev lv done hr hd hn).mono fun e w' ⟨g, cur, h1, h2, h3, h4, h5, h6⟩ => by
  obtain ⟨k1, k2⟩ := h.keep h6 h2 h3
  exact ⟨_, g, cur, h1, k1, k2, ins_same _ _ _, h4, h5.le k1 (Nat.le_refl _)⟩
def ConAny (w0 : World) (mb : Nat) (H : Mem) (s : St) (v : Val) (e : Ending) (w' : World) : Prop := ∃ H' x, e = .returned (.agg x) ∧ MLe H H' ∧ MS w0 mb H' s w' ∧ ∃ l, x = l.toArray ∧ VV H' s.cells.length v l
theorem con_ms {w0 : World} {mb : Nat} {H : Mem} {s : St} {w : World} (h : MS w0 mb H s w) {l : List Val} {g : Nat} {cur : Array Value} (ha : ArgsAt H s.cells.length l g cur) (hn : l.length ≤ 2000000) (nm : Str) :
  Calls Tryz.prog 58 #[.string (ba nm), .slice (some ⟨g, 0, none⟩) l.length l.length] w (ConAny w0 mb H s (.con nm l)) :=
 (con_raw w nm (some ⟨g, 0, none⟩) l.length l.length).mono fun e w' ⟨N, h1, h2, h3, h4⟩ => by
  obtain ⟨k1, k2⟩ := h.keep h4 h2 h3
  exact ⟨_, _, h1, k1, k2, _, rfl, con_of (k1 _ _ ha.mem) ha.size (ha.row.le k1 (Nat.le_refl _)) hn (ins_row _ _ _ _)⟩
theorem answer_agg {w0 : World} {mb : Nat} {H : Mem} {s : St} {w : World} (h : MS w0 mb H s w) {v : Val} {x : Array Value} (hv : ∃ l, x = l.toArray ∧ VV H s.cells.length v l) : Calls Tryz.prog 31 #[pt mb, .agg x] w (MEnd w0 mb H (s.has v)) := by
 obtain ⟨l, rfl, hv⟩ := hv
 exact answer_any h hv
set_option maxRecDepth 100000 in
set_option maxHeartbeats 4000000 in
theorem gather_con {w0 : World} {mb : Nat} {H : Mem} {s : St} {w : World} (h : MS w0 mb H s w) {t : Tm} {en : Env} {done : List Val} {b tb to : Nat} {ev lv : Value} (hg : HR H b 0 [ptO tb to, ev, .int .i64 (done.length : Int), lv]) (ht : TmA H tb to t) (_he : EV H s.cells.length en ev) (hd : RV H s.cells.length done lv) (hk : t.k = 11) (hl : ¬ done.length < t.kids.length) (hl2 : done.length ≤ 2000000) :
  Calls Tryz.prog 38 #[pt mb, pt b] w (MEnd w0 mb H (gather t en done s)) := by
 have e : gather t en done s = s.has (.con t.nm done.reverse) := by unfold gather; rw [if_neg hl, if_pos hk]
 rw [e]
 clear e
 obtain ⟨av, kv, rv, rest, hr, hsl, hks, har⟩ := ht.open
 obtain ⟨A, c, rfl, hAc, hAl, hA⟩ := hsl
 have g0 := hg 0 _ rfl
 have g1 := hg 1 _ rfl
 have g2 := hg 2 _ rfl
 have q0 : w.cell? ⟨b, 0, none⟩ = some (ptO tb to) := g0.cell h.sub
 have q1 : w.cell? ⟨b, 1, none⟩ = some ev := g1.cell h.sub
 have q2 : w.cell? ⟨b, 2, none⟩ = some (.int .i64 (done.length : Int)) := g2.cell h.sub
 have r0' : HC H ⟨tb, to, none⟩ (.int .i64 t.k) := hr 0 _ rfl
 have r2' : HC H ⟨tb, to + 2, none⟩ (.string (ba t.nm)) := hr 2 _ rfl
 have r5' : HC H ⟨tb, to + 5, none⟩ (.slice A t.kids.length c) := hr 5 _ rfl
 have r0 := r0'.cell h.sub
 rw [hk] at r0
 have r2 := r2'.cell h.sub
 have r5 := r5'.cell h.sub
 have hli : ¬ (done.length : Int) < (t.kids.length : Int) := by omega
 obtain ⟨nm, hnm⟩ : ∃ nm, nm = t.nm := ⟨_, rfl⟩
 rw [← hnm] at r2 r2' ⊢
 have hall := all_ms h.drew.drew b (ptO tb to) ev lv done hg hd hl2
 obtain ⟨dl, hdl⟩ : ∃ dl, dl = done.reverse := ⟨_, rfl⟩
 rw [← hdl] at hall ⊢
 have hS : ∀ V, Sub H V → V.cell? ⟨b, 0, none⟩ = some (ptO tb to) ∧ V.cell? ⟨tb, to + 2, none⟩ = some (.string (ba nm)) := fun V hV => ⟨g0.cell hV, r2'.cell hV⟩
 have hw0 : Sub H w.drew.drew := h.sub
 have hsu : ∀ {H' : Mem} {W : World} {S : St}, MLe H H' → MS w0 mb H' S W → Sub H W := fun k m b o hb => m.sub b o (k b o hb)
 have HS0 := Lib.hid (hS _ hw0)
 have HSS := Lib.hid hS
 have HALL := Lib.hid hall
 have HSU := Lib.hid (fun (H' : Mem) (W : World) (S : St) (k : MLe H H') (m : MS w0 mb H' S W) => hsu k m)
 have HN2 := Lib.hid (show dl.length ≤ 2000000 by rw [hdl, List.length_reverse]; exact hl2)
 have HK := Lib.hid (hk)
 clear hall h hg ht _he hd hl g0 g1 g2 r0' r2' r5' hr hks har hA hS hw0 hsu hnm hdl
 unfold pt ptO at *
 go_enter Tryz.func38, Tryz.ntmps38
 go_wp2
 go_region
 all_goals
  go_wp2_with fail
  go_region_held3 (fun VV => VV.cell? ⟨b, 0, none⟩ = some (.pointer (some ⟨tb, to, none⟩)) ∧ VV.cell? ⟨tb, to + 2, none⟩ = some (.string (ba nm)))
   (first | with_reducible exact HS0.out | with_reducible exact hS2 | with_reducible exact hS3 | with_reducible exact hS4)
   ((first | (go_at_call 59; refine HALL.out.mono ?_; rintro e w2 ⟨H2, gg, cur, rfl, k2, m2, ha2⟩; have hS2 := HSS.out _ (HSU.out _ _ _ k2 m2); have K2 := Lib.hid k2; have M2 := Lib.hid m2; have A2 := Lib.hid ha2; clear k2 m2 ha2) | (go_at_call 58; refine (con_ms M2.out A2.out HN2.out _).mono ?_; rintro e w3 ⟨H3, x3, rfl, k3, m3, hx3⟩; have hS3 := HSS.out _ (HSU.out _ _ _ (K2.out.trans k3) m3); have K3 := Lib.hid k3; have M3 := Lib.hid m3; have X3 := Lib.hid hx3; clear k3 m3 hx3) | (go_at_call 31; refine (answer_agg M3.out X3.out).mono ?_; rintro e w4 ⟨rfl, H4, k4, m4⟩; have hS4 := HSS.out _ (HSU.out _ _ _ ((K2.out.trans K3.out).trans k4) m4); have K4 := Lib.hid k4; have M4 := Lib.hid m4; clear k4 m4)))
  all_goals
   go_wp2
   go_end0
   exact ⟨rfl, H4, (K2.out.trans K3.out).trans K4.out, M4.out⟩
set_option maxRecDepth 100000 in
set_option maxHeartbeats 4000000 in
theorem gather_op {w0 : World} {mb : Nat} {H : Mem} {s : St} {w : World} (h : MS w0 mb H s w) {t : Tm} {en : Env} {done : List Val} {b tb to : Nat} {ev lv : Value} (hg : HR H b 0 [ptO tb to, ev, .int .i64 (done.length : Int), lv]) (ht : TmA H tb to t) (_he : EV H s.cells.length en ev) (hd : RV H s.cells.length done lv) (hk : t.k = 10) (hag : argc t.nm = some done.reverse.length) (htr : s.trace.length ≤ 1000000) (hce : s.cells.length ≤ 1000000) (hl : ¬ done.length < t.kids.length) (hl2 : done.length ≤ 2000000) :
  Calls Tryz.prog 38 #[pt mb, pt b] w (MEnd w0 mb H (gather t en done s)) := by
 have e : gather t en done s = operate t.nm done.reverse s := by unfold gather; rw [if_neg hl, if_neg (by rw [hk]; decide)]
 rw [e]
 clear e
 obtain ⟨av, kv, rv, rest, hr, hsl, hks, har⟩ := ht.open
 obtain ⟨A, c, rfl, hAc, hAl, hA⟩ := hsl
 have g0 := hg 0 _ rfl
 have g1 := hg 1 _ rfl
 have g2 := hg 2 _ rfl
 have q0 : w.cell? ⟨b, 0, none⟩ = some (ptO tb to) := g0.cell h.sub
 have q1 : w.cell? ⟨b, 1, none⟩ = some ev := g1.cell h.sub
 have q2 : w.cell? ⟨b, 2, none⟩ = some (.int .i64 (done.length : Int)) := g2.cell h.sub
 have r0' : HC H ⟨tb, to, none⟩ (.int .i64 t.k) := hr 0 _ rfl
 have r2' : HC H ⟨tb, to + 2, none⟩ (.string (ba t.nm)) := hr 2 _ rfl
 have r5' : HC H ⟨tb, to + 5, none⟩ (.slice A t.kids.length c) := hr 5 _ rfl
 have r0 := r0'.cell h.sub
 rw [hk] at r0
 have r2 := r2'.cell h.sub
 have r5 := r5'.cell h.sub
 have hli : ¬ (done.length : Int) < (t.kids.length : Int) := by omega
 obtain ⟨nm, hnm⟩ : ∃ nm, nm = t.nm := ⟨_, rfl⟩
 rw [← hnm] at r2 r2' hag ⊢
 have hall := all_ms h.drew.drew b (ptO tb to) ev lv done hg hd hl2
 obtain ⟨dl, hdl⟩ : ∃ dl, dl = done.reverse := ⟨_, rfl⟩
 rw [← hdl] at hall hag ⊢
 have HAG := Lib.hid hag
 have HTR := Lib.hid htr
 have HCE := Lib.hid hce
 have hS : ∀ V, Sub H V → V.cell? ⟨b, 0, none⟩ = some (ptO tb to) ∧ V.cell? ⟨tb, to + 2, none⟩ = some (.string (ba nm)) := fun V hV => ⟨g0.cell hV, r2'.cell hV⟩
 have hw0 : Sub H w.drew.drew := h.sub
 have hsu : ∀ {H' : Mem} {W : World} {S : St}, MLe H H' → MS w0 mb H' S W → Sub H W := fun k m b o hb => m.sub b o (k b o hb)
 have HS0 := Lib.hid (hS _ hw0)
 have HSS := Lib.hid hS
 have HALL := Lib.hid hall
 have HSU := Lib.hid (fun (H' : Mem) (W : World) (S : St) (k : MLe H H') (m : MS w0 mb H' S W) => hsu k m)
 have HN2 := Lib.hid (show dl.length ≤ 2000000 by rw [hdl, List.length_reverse]; exact hl2)
 have HK := Lib.hid (hk)
 clear hall h hg ht _he hd hl g0 g1 g2 r0' r2' r5' hr hks har hA hS hw0 hsu hnm hdl hag htr hce
 unfold pt ptO at *
 go_enter Tryz.func38, Tryz.ntmps38
 go_wp2
 go_region
 all_goals
  go_wp2_with fail
  go_region_held3 (fun VV => VV.cell? ⟨b, 0, none⟩ = some (.pointer (some ⟨tb, to, none⟩)) ∧ VV.cell? ⟨tb, to + 2, none⟩ = some (.string (ba nm)))
   (first | with_reducible exact HS0.out | with_reducible exact hS2 | with_reducible exact hS3 | with_reducible exact hS4)
   ((first | (go_at_call 59; refine HALL.out.mono ?_; rintro e w2 ⟨H2, gg, cur, rfl, k2, m2, ha2⟩; have hS2 := HSS.out _ (HSU.out _ _ _ k2 m2); have K2 := Lib.hid k2; have M2 := Lib.hid m2; have A2 := Lib.hid ha2; clear k2 m2 ha2) | (go_at_call 60; refine (operate_any M2.out A2.out HAG.out HTR.out HCE.out).mono ?_; rintro e w4 ⟨rfl, H4, k4, m4⟩; have hS4 := HSS.out _ (HSU.out _ _ _ (K2.out.trans k4) m4); have K4 := Lib.hid k4; have M4 := Lib.hid m4; clear k4 m4)))
  all_goals
   go_wp2
   go_end0
   exact ⟨rfl, H4, K2.out.trans K4.out, M4.out⟩
end So
end Go.Proofs.YtmodmojocclmaaaGreatDoor.K

/- The machine of package source: what waits for a term's first kid. -/
namespace Go.Proofs.YtmodmojocclmaaaGreatDoor.K
open Go Go.RowKit
namespace So

theorem gather_any {w0 : World} {mb : Nat} {H : Mem} {s : St} {w : World} (h : MS w0 mb H s w) {t : Tm} {en : Env} {done : List Val} {b tb to : Nat} {ev lv : Value} (hg : HR H b 0 [ptO tb to, ev, .int .i64 (done.length : Int), lv]) (ht : TmA H tb to t) (he : EV H s.cells.length en ev) (hd : RV H s.cells.length done lv)
  (hk : t.k = 11 ∨ (t.k = 10 ∧ argc t.nm = some t.kids.length)) (hl : done.length ≤ t.kids.length) (htr : s.trace.length ≤ 1000000) (hce : s.cells.length ≤ 1000000) :
  Calls Tryz.prog 38 #[pt mb, pt b] w (MEnd w0 mb H (gather t en done s)) := by
 by_cases hm : done.length < t.kids.length
 ·exact gather_more h hg ht he hd hk hm
 ·obtain ⟨av, kv, rv, rest, _, ⟨A, c, _, _, hAl, _⟩, _, _⟩ := ht.open
  rcases hk with hk | ⟨hk, hag⟩
  ·exact gather_con h hg ht he hd hk hm (by omega)
  ·exact gather_op h hg ht he hd hk (by rw [List.length_reverse, hag]; congr 1; omega) htr hce hm (by omega)
theorem MS.env {w0 : World} {mb : Nat} {H : Mem} {s : St} {w : World} (h : MS w0 mb H s w) {t : Tm} {en : Env} (ha : s.at_ = some (t, en)) : ∃ x, w.cell? ⟨mb, 1, none⟩ = some (.pointer x) ∧ EV H s.cells.length en (.pointer x) := by
 obtain ⟨tv, ev, v0, v1, v2, v3, fv, hv, cv, iv, lv, h⟩ := h
 have hat := h.at_
 rw [ha] at hat
 obtain ⟨_, hen, _⟩ := hat
 obtain ⟨x, rfl⟩ := hen.ptr
 exact ⟨x, h.lies.cell 1, hen⟩
theorem TmA.kidsAt {H : Mem} {b o : Nat} {t : Tm} (h : TmA H b o t) (hn : 0 < t.kids.length) : ∃ g ko c, HC H ⟨b, o + 5, none⟩ (.slice (some ⟨g, ko, none⟩) t.kids.length c) ∧ ∀ i, i < t.kids.length → TmA H g (ko + i * 21) (kid t i) := by
 obtain ⟨av, kv, rv, rest, hr, ⟨A, c, rfl, _, _, hA⟩, hks, _⟩ := h.open
 obtain ⟨g, ko, rfl⟩ := hA hn
 exact ⟨g, ko, c, hr 5 _ rfl, fun i hi => hks i _ (kid_get hi)⟩
theorem TmA.heads {H : Mem} {b o : Nat} {t : Tm} (h : TmA H b o t) : HC H ⟨b, o, none⟩ (.int .i64 t.k) ∧ HC H ⟨b, o + 2, none⟩ (.string (ba t.nm)) ∧ HC H ⟨b, o + 3, none⟩ (.string (ba t.pm)) ∧ HC H ⟨b, o + 4, none⟩ (.int .i64 t.n) ∧ ∃ B d, HC H ⟨b, o + 6, none⟩ (.slice B t.arms.length d) ∧ ArmsA H t.arms (.slice B t.arms.length d) := by
 obtain ⟨av, kv, rv, rest, hr, _, _, har⟩ := h.open
 obtain ⟨⟨B, d, rfl, h1, h2, h3⟩, h4⟩ := har
 exact ⟨hr 0 _ rfl, hr 2 _ rfl, hr 3 _ rfl, hr 4 _ rfl, B, d, hr 6 _ rfl, ⟨B, d, rfl, h1, h2, h3⟩, h4⟩
def waitsF (t : Tm) (en : Env) : Frame :=
 if t.k = 6 then .arg (kid t 1) en else if t.k = 7 then .name t.nm (kid t 1) en else if t.k = 9 then .choice (kid t 1) (kid t 2) en else if t.k = 12 then .mat t.arms en else .ask t.nm
def FEnd (w0 : World) (mb : Nat) (H : Mem) (s : St) (f : Frame) (e : Ending) (w' : World) : Prop := ∃ H' x, e = .returned x ∧ MLe H H' ∧ MS w0 mb H' s w' ∧ FV H' s.cells.length f x
set_option maxRecDepth 100000 in
set_option maxHeartbeats 4000000 in
theorem waits_any {w0 : World} {mb : Nat} {H : Mem} {s : St} {w : World} (h : MS w0 mb H s w) {t0 t : Tm} {en : Env} (ha : s.at_ = some (t0, en)) {b o : Nat} (ht : TmA H b o t)
  (hlen : if t.k = 6 then 2 ≤ t.kids.length else if t.k = 7 then 2 ≤ t.kids.length else if t.k = 9 then 3 ≤ t.kids.length else True) :
  Calls Tryz.prog 41 #[pt mb, ptO b o] w (FEnd w0 mb H s (waitsF t en)) := by
 obtain ⟨x, z1, hen⟩ := h.env ha
 obtain ⟨r0h, r2h, _, _, B, d, r6h, har⟩ := ht.heads
 have r0 := r0h.cell h.sub
 have r2 := r2h.cell h.sub
 have r6 := r6h.cell h.sub
 clear ha
 by_cases h6 : t.k = 6
 ·have e : waitsF t en = .arg (kid t 1) en := by unfold waitsF; rw [if_pos h6]
  rw [e]
  clear e
  rw [h6] at r0
  have hln : 2 ≤ t.kids.length := by have := hlen; rw [h6] at this; simpa using this
  obtain ⟨g, ko, c, k5, hks⟩ := ht.kidsAt (by omega)
  have q5 := k5.cell h.sub
  have hi : (1 : Int) < (t.kids.length : Int) := by omega
  have hi1 : (1 : Int) < (t.kids.length : Int) := by omega
  have HKEEP := Lib.hid (h.alloc (.cells [ptO g (ko + 21), .pointer x].toArray 159))
  have HE := Lib.hid hen
  have HKS := Lib.hid hks
  have HT := Lib.hid ht
  have HAR := Lib.hid har
  clear k5 hks
  clear h hen ht har hlen r0h r2h r6h
  unfold pt ptO at *
  go_enter Tryz.func41, Tryz.ntmps41
  go_wp2
  go_region
  all_goals
   go_wp2
   go_ret
   have hkp := HKEEP.out
   refine ⟨_, _, rfl, hkp.1, hkp.2.drew, ?_⟩
   exact .arg _ _ w.heap.size g (ko + 21) (.pointer x) (ins_row _ _ _ _) (by have := HKS.out 1 (by omega); exact this.le hkp.1) (HE.out.le hkp.1 (Nat.le_refl _))
 by_cases h7 : t.k = 7
 ·have e : waitsF t en = .name t.nm (kid t 1) en := by unfold waitsF; rw [if_neg (by rw [h7]; decide), if_pos h7]
  rw [e]
  clear e
  rw [h7] at r0
  have hln : 2 ≤ t.kids.length := by have := hlen; rw [h7] at this; simpa using this
  obtain ⟨g, ko, c, k5, hks⟩ := ht.kidsAt (by omega)
  have q5 := k5.cell h.sub
  have hi : (1 : Int) < (t.kids.length : Int) := by omega
  have hi1 : (1 : Int) < (t.kids.length : Int) := by omega
  have HKEEP := Lib.hid (h.alloc (.cells [.string (ba t.nm), ptO g (ko + 21), .pointer x].toArray 162))
  have HE := Lib.hid hen
  have HKS := Lib.hid hks
  have HT := Lib.hid ht
  have HAR := Lib.hid har
  clear k5 hks
  clear h hen ht har hlen r0h r2h r6h
  unfold pt ptO at *
  go_enter Tryz.func41, Tryz.ntmps41
  go_wp2
  go_region
  all_goals
   go_wp2
   go_ret
   have hkp := HKEEP.out
   refine ⟨_, _, rfl, hkp.1, hkp.2.drew, ?_⟩
   exact .name _ _ _ w.heap.size g (ko + 21) (.pointer x) (ins_row _ _ _ _) (by have := HKS.out 1 (by omega); exact this.le hkp.1) (HE.out.le hkp.1 (Nat.le_refl _))
 by_cases h9 : t.k = 9
 ·have e : waitsF t en = .choice (kid t 1) (kid t 2) en := by unfold waitsF; rw [if_neg (by rw [h9]; decide), if_neg (by rw [h9]; decide), if_pos h9]
  rw [e]
  clear e
  rw [h9] at r0
  have hln : 3 ≤ t.kids.length := by have := hlen; rw [h9] at this; simpa using this
  obtain ⟨g, ko, c, k5, hks⟩ := ht.kidsAt (by omega)
  have q5 := k5.cell h.sub
  have hi : (2 : Int) < (t.kids.length : Int) := by omega
  have hi1 : (1 : Int) < (t.kids.length : Int) := by omega
  have HKEEP := Lib.hid (h.alloc (.cells [ptO g (ko + 21), ptO g (ko + 42), .pointer x].toArray 165))
  have HE := Lib.hid hen
  have HKS := Lib.hid hks
  have HT := Lib.hid ht
  have HAR := Lib.hid har
  clear k5 hks
  clear h hen ht har hlen r0h r2h r6h
  unfold pt ptO at *
  go_enter Tryz.func41, Tryz.ntmps41
  go_wp2
  go_region
  all_goals
   go_wp2
   go_ret
   have hkp := HKEEP.out
   refine ⟨_, _, rfl, hkp.1, hkp.2.drew, ?_⟩
   exact .choice _ _ _ w.heap.size g (ko + 21) g (ko + 42) (.pointer x) (ins_row _ _ _ _) (by have := HKS.out 1 (by omega); exact this.le hkp.1) (by have := HKS.out 2 (by omega); exact this.le hkp.1) (HE.out.le hkp.1 (Nat.le_refl _))
 by_cases h12 : t.k = 12
 ·have e : waitsF t en = .mat t.arms en := by unfold waitsF; rw [if_neg (by rw [h12]; decide), if_neg (by rw [h12]; decide), if_neg (by rw [h12]; decide), if_pos h12]
  rw [e]
  clear e
  rw [h12] at r0
  have HKEEP := Lib.hid (h.alloc (.cells [.slice B t.arms.length d, .pointer x].toArray 167))
  have HE := Lib.hid hen
  have HT := Lib.hid ht
  have HAR := Lib.hid har
  clear h hen ht har hlen r0h r2h r6h
  unfold pt ptO at *
  go_enter Tryz.func41, Tryz.ntmps41
  go_wp2
  go_region
  all_goals
   go_wp2
   go_ret
   have hkp := HKEEP.out
   refine ⟨_, _, rfl, hkp.1, hkp.2.drew, ?_⟩
   exact .mat _ _ w.heap.size (.slice B t.arms.length d) (.pointer x) (ins_row _ _ _ _) (HAR.out.le hkp.1) (HE.out.le hkp.1 (Nat.le_refl _))
 have e : waitsF t en = .ask t.nm := by unfold waitsF; rw [if_neg h6, if_neg h7, if_neg h9, if_neg h12]
 rw [e]
 clear e
 have HKEEP := Lib.hid (h.alloc (.cells [.string (ba t.nm)].toArray 170))
 obtain ⟨k, hk⟩ : ∃ k, k = t.k := ⟨_, rfl⟩
 rw [← hk] at r0 h6 h7 h9 h12
 have n6 : (k == 6) = false := by rw [beq_eq_false_iff_ne]; exact h6
 have n7 : (k == 7) = false := by rw [beq_eq_false_iff_ne]; exact h7
 have n9 : (k == 9) = false := by rw [beq_eq_false_iff_ne]; exact h9
 have n12 : (k == 12) = false := by rw [beq_eq_false_iff_ne]; exact h12
 clear h hen ht har hlen r0h r2h r6h hk
 unfold pt ptO at *
 go_enter Tryz.func41, Tryz.ntmps41
 go_wp2
 go_ret
 have hkp := HKEEP.out
 exact ⟨_, _, rfl, hkp.1, hkp.2, .ask _ w.heap.size (ins_row _ _ _ _)⟩
end So
end Go.Proofs.YtmodmojocclmaaaGreatDoor.K
