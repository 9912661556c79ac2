/- The library's iterator from a slice's end, at layers; of: what a substitution says of a number. -/
import Derived.Test.YtpbhndmfmnfeoaaGreatMg03
import Derived.Test.YtpbhndmfmnfeoaaGreatSbeT
import Derived.RangeFuncNested
import Derived.RangeFuncBound
import Derived.RangeFuncCalls
import Derived.RangeFuncLeaves
import Derived.RangeFuncFrom
import Derived.RangeFuncBox
import Derived.Shelf.RegionOpen
import Derived.WalkKit
import Derived.OwnWalkIn
import Derived.TacticsInMore
import Derived.LoopNIn
import Derived.LoopIn
import Derived.Outline
namespace Go.Proofs.YtpbhndmfmnfeoaaGreat
open Go.RowKit Go.Shelf Go.Maps
attribute [local go_sem] Oper.semAt_some

set_option maxRecDepth 100000 in
set_option maxHeartbeats 2000000 in
theorem backR_any (A : Option Addr) (n c : Nat) (w : World) : Calls Tryz.prog 45 #[.slice A n c] w fun e w' => e = .returned (.func (.func 61) #[] #[.pointer (some ⟨w.heap.size, 0, none⟩)]) ∧ w' = w.alloc (.cells #[.slice A n c] 30) := by
  go_enter Tryz.func45, Tryz.ntmps45
  go_wp2
  go_ret
  exact ⟨rfl, rfl⟩

set_option maxRecDepth 100000 in
set_option maxHeartbeats 2000000 in
theorem backR1_in {α : Type} (f : α → Value) (n : Nat) (l Bs n1 : Nat) (A : Option Addr) (len cap : Nat) (zs : List α) (hz : zs.length = len) (hcap : len ≤ cap) (hm : len ≤ 1000000) (hBs : Bs < n1) (J Jx : List (Nat × α) → World → Prop)
    (hY : ∀ pre x W, J pre W → pre.length < len → YieldAt Fence.wide (n - 1) Tryz.prog l (encY f x) W fun e W' =>
      (e = .returned (.bool true) ∧ J (pre ++ [x]) W' ∧ Below n1 W W') ∨ (e = .returned (.bool false) ∧ Jx (pre ++ [x]) W'))
    (W : World) (hs : W.cell? ⟨Bs, 0, none⟩ = some (.slice A len cap))
    (hc : ∀ (i : Nat) x, zs[i]? = some x → ∃ g o, A = some ⟨g, o, none⟩ ∧ g < n1 ∧ W.cell? ⟨g, o + i, none⟩ = some (f x))
    (h0 : J [] W) :
    CallsIn Fence.wide n Tryz.prog 61 #[.func (.yield l) #[] #[], .pointer (some ⟨Bs, 0, none⟩)] W fun e W' => (∃ v, e = .returned v) ∧
      ((∃ ys, ys = dns zs len ∧ J ys W') ∨ (∃ pre, (∃ k, k ≤ len ∧ pre = dns zs k) ∧ Jx pre W')) := by
  have HC := Lib.hid hc
  have HY := Lib.hid hY
  have HS := Lib.hid hs
  clear hc hY
  refine callsIn_of_wp Tryz.func61 rfl trivial ?_ rfl
  simp only [Tryz.ntmps61, List.size_toArray, List.length_cons, List.length_nil, Nat.reduceAdd, Nat.reduceSub, Array.replicate_succ, Array.replicate_zero, List.push_toArray, List.append_toArray, List.nil_append, List.cons_append]
  gi_wp2
  clear hs
  gi_loopw [3] (fun i wr => ∃ k : Nat, k ≤ len ∧ i = .int .i64 ((len : Int) - 1 - k) ∧ J (dns zs k) wr ∧ Below n1 W wr)
    (fun i _ => (intOf i + 1).toNat)
  case atStart => exact ⟨0, Nat.zero_le _, by simp, h0, Below.refl _ _⟩
  case round =>
    obtain ⟨k, hk, rfl, hJs, hnx⟩ := hrel
    have hs' : wr.cell? ⟨Bs, 0, none⟩ = some (.slice A len cap) := (World.cell?_of_block (w := W) (hnx.block Bs hBs)).trans HS.out
    by_cases hlt : k < len
    · obtain ⟨x, hx⟩ : ∃ x, zs[len - 1 - k]? = some x := ⟨_, List.getElem?_eq_getElem (by omega)⟩
      obtain ⟨g, o, rfl, hg, a0⟩ := HC.out _ _ hx
      have e : ∀ j, wr.cell? ⟨g, j, none⟩ = W.cell? ⟨g, j, none⟩ := fun j => World.cell?_of_block (w := W) (hnx.block g hg)
      rw [← e] at a0
      have hds : dns zs (k + 1) = dns zs k ++ [(len - 1 - k, x)] := by
        have := dns_succ zs k (by omega) x (by rw [hz]; exact hx)
        rw [hz] at this
        exact this
      clear e hx
      obtain ⟨i, hi⟩ : ∃ i, i = len - 1 - k := ⟨_, rfl⟩
      rw [← hi] at a0 hds
      have hYx := HY.out _ (i, x) wr hJs (by rw [dns_length _ _ (by omega)]; exact hlt)
      obtain ⟨fn, tmps, assign, body, hy, hR⟩ := hYx
      simp only [encY] at hy
      have hidx : (len : Int) - 1 - (k : Int) = (i : Int) := by omega
      have hil : i < len := by omega
      have hic : i < cap := by omega
      have HI := Lib.hid hi
      have HD := Lib.hid hds
      clear hi hds
      rw [hidx]
      gi_wp2
      refine ⟨fun h => absurd h (by decide), hR.mono ?_⟩
      rintro e W3 (⟨rfl, hJ3, hk3⟩ | ⟨rfl, hJx3⟩)
      · gi_wp2
        go_roundw
        case rel =>
          refine ⟨k + 1, by omega, by congr 1; omega, ?_, hnx.trans hk3⟩
          rw [HD.out]
          exact hJ3
        case measure => (simp [intOf] <;> omega)
      · gi_wp2
        refine bodyPost_ret (results_none rfl _ _ _) rfl ?_
        refine ⟨⟨_, rfl⟩, .inr ⟨_, ⟨k + 1, by omega, rfl⟩, ?_⟩⟩
        rw [HD.out]
        exact hJx3
    · obtain rfl : k = len := by omega
      gi_wp2
      go_end0
      exact ⟨⟨_, rfl⟩, .inl ⟨_, rfl, hJs⟩⟩

theorem backR_stops {α : Type} (f : α → Value) (n : Nat) (Bs n1 : Nat) (A : Option Addr) (c : Nat) (zs : List α) (w : World) (hm : zs.length ≤ 1000000) (hcap : zs.length ≤ c) (hBs : Bs < n1) (hn1 : n1 ≤ w.heap.size)
    (hs : w.cell? ⟨Bs, 0, none⟩ = some (.slice A zs.length c)) (hc : ∀ (i : Nat) x, zs[i]? = some x → ∃ g o, A = some ⟨g, o, none⟩ ∧ g < n1 ∧ w.cell? ⟨g, o + i, none⟩ = some (f x)) :
    SeqStopsK Fence.wide n Tryz.prog 61 #[.pointer (some ⟨Bs, 0, none⟩)] (encY f) (Below n1) (fun ys => ys = dns zs zs.length) (fun pre => ∃ k, k ≤ zs.length ∧ pre = dns zs k) zs.length w := fun l J Jx W hW _ _ hY h0 => by
  have hcell : ∀ g j, g < n1 → W.cell? ⟨g, j, none⟩ = w.cell? ⟨g, j, none⟩ := fun g j hg => World.cell?_of_block (w := w) (hW.block g (by omega))
  refine backR1_in f n l Bs n1 A zs.length c zs rfl hcap hm hBs J Jx hY W ((hcell _ _ hBs).trans hs) (fun i x hx => ?_) h0
  obtain ⟨g, o, h1, h2, h3⟩ := hc i x hx
  exact ⟨g, o, h1, h2, (hcell _ _ h2).trans h3⟩
theorem enter_backR (args : Array Value) (w : World) : (callFunc 61 args).run Tryz.prog w = .ok (.enter 61 args) w := by go_simp

set_option maxRecDepth 100000 in
set_option maxHeartbeats 4000000 in
/-- What is said of a number. -/
theorem ofR_any (w : World) (zs : List (LyAt w 2)) (v : Value) (n : Int) (hn : i64ok n) (hv : SrcV w v (zs.map fun z => lyV z.1)) (hl : zs.length ≤ 1000000) :
    Calls Tryz.prog 26 #[.agg #[v], .int .i64 n] w fun e w' => e = .returned (.tuple #[lookV (.agg #[.slice none 0 0, .int .i64 0]) (lyOver (zs.map (·.1)) n), .bool (lyOver (zs.map (·.1)) n).isSome]) ∧ Below w.heap.size w w' := by
  obtain ⟨A, c, rfl, hc, hcell⟩ := hv.form (by simpa using hl)
  rw [List.length_map] at hc ⊢
  have HC := Lib.hid hcell
  clear hcell hv
  obtain ⟨W0, hW0⟩ : ∃ W0, W0 = (((((w.alloc (Obj.cells #[Value.slice A zs.length c] 32)).alloc (Obj.cells #[Value.int IntKind.i64 n] 3)).alloc (Obj.cells #[.slice none 0 0, .int .i64 0] 24)).alloc (Obj.cells #[Value.bool false] 4)).alloc (Obj.cells #[Value.slice A zs.length c] 30)) := ⟨_, rfl⟩
  have hb0 : Below w.heap.size w W0 := by rw [hW0]; exact (((((Below.refl _ w).alloc (Nat.le_refl _) _).alloc (by simp) _).alloc (by simp; omega) _).alloc (by simp; omega) _).alloc (by simp; omega) _
  have hz0 : W0.heap.size = w.heap.size + 5 := by rw [hW0]; simp
  have hs0 : W0.cell? ⟨w.heap.size + 4, 0, none⟩ = some (.slice A zs.length c) := by rw [hW0]; exact (Lies.new' _ _ #[Value.slice A zs.length c] (N := w.heap.size + 4) (by simp)).cell 0
  have hn0 : Lies W0 (w.heap.size + 1) 3 #[.int .i64 n] := by rw [hW0]; exact (((Lies.new' _ _ #[Value.int IntKind.i64 n] (N := w.heap.size + 1) (by simp)).alloc _).alloc _).alloc _
  have ht0 : Lies W0 (w.heap.size + 2) 24 #[.slice none 0 0, .int .i64 0] := by rw [hW0]; exact ((Lies.new' _ _ _ (N := w.heap.size + 2) (by simp)).alloc _).alloc _
  have hf0 : Lies W0 (w.heap.size + 3) 4 #[.bool false] := by rw [hW0]; exact (Lies.new' _ _ _ (N := w.heap.size + 3) (by simp)).alloc _
  have HB0 := Lib.hid hb0
  have HZ0 := Lib.hid hz0
  have HN0 := Lib.hid hn0
  have HT0 := Lib.hid ht0
  have HF0 := Lib.hid hf0
  have HS0 := Lib.hid hs0
  have hcw : ∀ (i : Nat) x, zs[i]? = some x → ∃ g o, A = some ⟨g, o, none⟩ ∧ g < w.heap.size + 5 ∧ W0.cell? ⟨g, o + i, none⟩ = some (lyV x.1) := by
    intro i x hx
    obtain ⟨g, o, h1, h2⟩ := HC.out i (lyV x.1) (by rw [List.getElem?_map, hx]; rfl)
    have h3 := World.block_lt_of_cell? w _ h2
    exact ⟨g, o, h1, Nat.lt_of_lt_of_le h3 (by omega), (hb0.cell (p := ⟨g, o + i, none⟩) h3).trans h2⟩
  have HCW := Lib.hid hcw
  clear hb0 hz0 hn0 ht0 hf0 hs0 hcw
  refine callsIn_wide (n := 9) |>.1 (callsIn_of_wp_marks Tryz.func26 rfl trivial ?_ rfl)
  refine wpIn_wide.2 ?_
  simp only [Tryz.ntmps26, List.size_toArray, List.length_cons, List.length_nil, Nat.reduceAdd, Nat.reduceSub, Array.replicate_succ, Array.replicate_zero, List.push_toArray, List.append_toArray, List.nil_append, List.cons_append]
  go_wp2_with (first | (go_at_call 45; refine (backR_any _ _ _ _).mono ?_; rintro e w5 ⟨rfl, rfl⟩))
  rw [← hW0]
  have HW0 := Lib.hid hW0
  clear hW0
  refine wpIn_wide (n := 9) |>.1 ?_
  refine wpIn_rangeFunc_ownF (F := Fence.wide) (n := 9) rfl (by decide) (gf := 61) (lb := #[.pointer (some ⟨w.heap.size + 4, 0, none⟩)]) rfl trivial enter_backR
    (backR_stops (fun z : LyAt w 2 => lyV z.1) 8 (w.heap.size + 4) (w.heap.size + 5) A c zs W0 hl hc (by omega) (by rw [HZ0.out]; exact Nat.le_refl _) HS0.out HCW.out) Below.trans (belowK_b (by rw [HZ0.out]; exact Nat.le_refl _)) (Below.refl _ _) (fun _ => rfl)
    (fun pre W => (∀ y ∈ pre, y.2.1.2.2 n = none) ∧ Below (w.heap.size + 5) W0 W)
    (fun c pre W => c = .ret ∧ (∃ p x cs, pre = p ++ [x] ∧ (∀ y ∈ p, y.2.1.2.2 n = none) ∧ x.2.1.2.2 n = some cs ∧ cs.size = 2 ∧ Lies W (w.heap.size + 2) 24 cs ∧ Lies W (w.heap.size + 3) 4 #[.bool true]) ∧ Below w.heap.size w W)
    (fun pre X Y row h hg hr => ⟨h.1, h.2.grown hg (by have := h.2.size; rw [HZ0.out] at this; exact this) (fun k e => by have := (hr k e).1; rw [HZ0.out] at this; exact this)⟩)
    (fun c pre X Y row h hg hr => by
      obtain ⟨h1, ⟨p, x, cs, h2, h3, h4, h4', h5, h6⟩, h7⟩ := h
      have hr' : ∀ r, row = some r → ∃ o : Obj, X.heap[r]? = some o ∧ o.isCells = false := fun r e => (hr r e).2
      exact ⟨h1, ⟨p, x, cs, h2, h3, h4, h4', Sb.lies_kept h5 hg hr', Sb.lies_kept h6 hg hr'⟩, h7.grown hg h7.size (fun k e => by have := (hr k e).1; rw [HZ0.out] at this; omega)⟩)
    ⟨fun y hy => (by cases hy), Below.refl _ _⟩
    (fun x => { tmps := #[Value.agg #[Value.slice A zs.length c], Value.int IntKind.i64 n, Value.pointer (some { block := w.heap.size, off := 0 }), Value.pointer (some { block := w.heap.size + 1, off := 0 }), Value.pointer (some { block := w.heap.size + 1 + 1, off := 0 }), Value.pointer (some { block := w.heap.size + 1 + 1 + 1, off := 0 }), undef, lyV x.2.1, undef, undef, undef,
          Value.pointer (some { block := w.heap.size, off := 0 }), Value.slice A zs.length c, Value.func (Fn.func 61) #[] #[Value.pointer (some { block := w.heap.size + 1 + 1 + 1 + 1, off := 0 })], .int .i64 (x.1 : Int), lyV x.2.1, undef, undef, undef, undef, undef, undef, undef, undef, undef], defers := [] }) ?assign ?body ?done ?stop
  case assign =>
    intro l2 x W K hK
    dsimp only [encY]
    unfold lyV at hK ⊢
    gi_wp2
    exact hK
  case body =>
    rintro l2 pre x W ⟨hpre, hB⟩ hlt
    have hBw : Below w.heap.size w W := HB0.out.trans (hB.mono (by omega))
    have hM : MapI W 2 x.2.1.1 x.2.1.2.1 x.2.1.2.2 := x.2.2.later hBw
    have hnw := hB.block (w.heap.size + 1) (by omega)
    have hn1 : Lies W (w.heap.size + 1) 3 #[.int .i64 n] := hnw.trans HN0.out
    have cn := hn1.cell 0
    have ht1 : Lies W (w.heap.size + 2) 24 #[.slice none 0 0, .int .i64 0] := (hB.block (w.heap.size + 2) (by omega)).trans HT0.out
    have hf1 : Lies W (w.heap.size + 3) 4 #[.bool false] := (hB.block (w.heap.size + 3) (by omega)).trans HF0.out
    have hsW := hB.size
    rw [HZ0.out] at hsW
    have hx := hM.look Tryz.underlying84 (zero_R W) hn
    cases hg : x.2.1.2.2 n with
    | none =>
      have HP := Lib.hid hpre
      have HG := Lib.hid hg
      clear hpre
      unfold lyV
      rw [hg] at hx
      simp only [lookV, Option.isSome_none] at hx
      generalize x.2.1.1 = bb at hx hM
      clear hM hg
      gi_wp2
      refine ⟨KeepsOthers.alloc _ _, (Below.refl _ _).alloc hsW _, fun y hy => ?_, hB.alloc hsW _⟩
      rcases List.mem_append.1 hy with hy | hy
      · exact HP.out y hy
      · rw [List.mem_singleton.1 hy]; exact HG.out
    | some cs =>
      have hfit := hM.fit hn hg
      have hsc := hfit.1
      have hoc := hfit.2
      have HP := Lib.hid hpre
      clear hpre hfit
      have lz := Lies.new W 24 #[.slice none 0 0, .int .i64 0]
      have ht2 : Lies (W.alloc (.cells cs 24)) (w.heap.size + 2) 24 #[.slice none 0 0, .int .i64 0] := ht1.alloc _
      have hf2 : Lies ((W.alloc (.cells cs 24)).setRow (w.heap.size + 2) cs) (w.heap.size + 3) 4 #[.bool false] := Sb.setRow_far (hf1.alloc _) _ (by omega)
      have fb := hf2.free 0
      have cb := hf2.cell 0
      have hlt3 := hf2.lt
      have HF2 := Lib.hid hf2
      have HT1 := Lib.hid ht1
      have HG := Lib.hid hg
      unfold lyV
      rw [hg] at hx
      simp only [lookV, Option.isSome_some] at hx
      generalize x.2.1.1 = bb at hx hM
      clear hM hg ht1 hf1 hf2
      gi_wp2_with (first | (refine Sb.wpListIn_row_store rfl 24 (.tmp 8) (.tmp 20) rfl rfl W.heap.size cs rfl rfl 24 _ lz (by rw [size_R, hsc]) (by rw [hsc]; rfl) hoc ?_; rw [World.setRow_alloc_new]) | (refine Sb.wpListIn_row_load rfl 24 (.tmp 8) rfl _ rfl 24 cs (0, 0) _ (Lies.new W 24 _) Tryz.underlying24 rfl (by rw [size_R, hsc]) ?_) | (refine Sb.wpListIn_row_store rfl 24 (.tmp 4) (.tmp 23) rfl rfl (w.heap.size + 2) cs rfl rfl 24 _ ht2 (by rw [size_R, hsc]) (by rw [hsc]; rfl) hoc ?_))
      refine ⟨((KeepsOthers.alloc W _).trans (Sb.others_setRow (HT1.out.alloc _) _)).trans (KeepsOthers.setCell _ _ _), rfl, ⟨pre, x, cs, rfl, HP.out, HG.out, hsc, ?_, ?_⟩, ?_⟩
      · exact (Sb.setRow_at (HT1.out.alloc _) cs).far (p := ⟨w.heap.size + 1 + 1 + 1, 0, none⟩) (by simp) _
      · exact HF2.out.set 0 (.bool true)
      · exact (Sb.below_setRow (hBw.alloc (by omega) _) (by omega) cs).setCell (p := ⟨w.heap.size + 1 + 1 + 1, 0, none⟩) (by simp; omega) _
  case done =>
    rintro D ys W hD rfl ⟨hpre, hB⟩ hDD
    have hlook := look_none (fun z : LyAt w 2 => z.1) n zs hpre
    rw [HZ0.out] at hD
    have ht1 : Lies W (w.heap.size + 2) 24 #[.slice none 0 0, .int .i64 0] := (hB.block (w.heap.size + 2) (by omega)).trans HT0.out
    have hf1 : Lies W (w.heap.size + 3) 4 #[.bool false] := (hB.block (w.heap.size + 3) (by omega)).trans HF0.out
    have hsW := hB.size
    rw [HZ0.out] at hsW
    have hBw : Below w.heap.size w W := HB0.out.trans (hB.mono (by omega))
    have ht2 : Lies (W.alloc (.cells #[.slice none 0 0, .int .i64 0] 24)) (w.heap.size + 2) 24 #[.slice none 0 0, .int .i64 0] := ht1.alloc _
    have hf2 : Lies ((W.alloc (.cells #[.slice none 0 0, .int .i64 0] 24)).setRow (w.heap.size + 2) #[.slice none 0 0, .int .i64 0]) (w.heap.size + 3) 4 #[.bool false] := Sb.setRow_far (hf1.alloc _) _ (by omega)
    have fb := hf2.free 0
    have cb := hf2.cell 0
    have hlt3 := hf2.lt
    have HLK := Lib.hid hlook
    have HF2 := Lib.hid hf2
    have HT1 := Lib.hid ht1
    have HDD := Lib.hid hDD
    clear ht1 hf1 hf2 hpre hlook hDD
    go_wp2_with (first | (refine wpList_load_row rfl 24 (.tmp 10) rfl _ rfl 24 _ (0, 0) _ (Lies.new W 24 _) Tryz.underlying24 rfl (by rw [size_R]; rfl) ?_) | (refine wpList_store_rowTo rfl 24 (.tmp 4) (.tmp 24) rfl rfl (w.heap.size + 2) #[.slice none 0 0, .int .i64 0] rfl rfl 24 _ ht2 (by rw [size_R]; rfl) rfl (by kernel_rfl) ?_))
    have hDD2 : (((W.alloc (.cells #[.slice none 0 0, .int .i64 0] 24)).setRow (w.heap.size + 2) #[.slice none 0 0, .int .i64 0]).setCell ⟨w.heap.size + 1 + 1 + 1, 0, none⟩ (.bool false)).heap[D]? = some (.deferred (some [])) := by
      have hDW := (Array.getElem?_eq_some_iff.1 HDD.out).1
      refine (Below.heap_setCell _ ⟨w.heap.size + 1 + 1 + 1, 0, none⟩ _ D (by simp; omega)).trans ((Sb.setRow_other _ _ _ D (by omega)).trans ((Below.heap_alloc _ _ D hDW).trans HDD.out))
    refine ⟨by simp, .inl ⟨_, _, rfl, run_takeDeferred hDD2, ?_⟩⟩
    have g2 := (Sb.setRow_at (HT1.out.alloc (.cells #[.slice none 0 0, .int .i64 0] 24)) #[.slice none 0 0, .int .i64 0]).far (p := ⟨w.heap.size + 1 + 1 + 1, 0, none⟩) (by simp) (.bool false)
    have g3 := HF2.out.set 0 (.bool false)
    have p2 := (World.putObj_heap_other (o := (.deferred none)) (r := D) (by omega)).trans g2
    have p3 := (World.putObj_heap_other (o := (.deferred none)) (r := D) (by omega)).trans g3
    refine ⟨.tuple #[.agg #[.slice none 0 0, .int .i64 0], .bool false], Sb.results_two rfl _ _ (w.heap.size + 2) (w.heap.size + 3) 24 #[.slice none 0 0, .int .i64 0] (0, 0) _ false rfl p2 Tryz.underlying24 rfl (by rw [size_R]; rfl) rfl (Sb.load_bool p3), ?_, ?_⟩
    · have h := HLK.out
      rw [h]
      rfl
    · exact ((Sb.below_setRow (hBw.alloc (by omega) _) (by omega) _).setCell (p := ⟨w.heap.size + 1 + 1 + 1, 0, none⟩) (by simp; omega) _).grown (grownBy_putObj' _ D _) (by simp; omega) (fun k e => by cases e; omega)
  case stop =>
    rintro D c pre W hD ⟨k, hk, rfl⟩ ⟨rfl, ⟨p, x, cs, he, hp, hx, hsc, h5, h6⟩, hBw⟩ hDD
    have hlook := look_some (fun z : LyAt w 2 => z.1) n zs k p x cs he hp hx
    have HLK := Lib.hid hlook
    have H5 := Lib.hid h5
    have H6 := Lib.hid h6
    rw [HZ0.out] at hD
    clear hlook he hp hx h5 h6
    gi_wp2
    refine ⟨by simp, .inl ⟨_, _, rfl, run_takeDeferred hDD, ?_⟩⟩
    have p2 := (World.putObj_heap_other (o := (.deferred none)) (r := D) (by omega)).trans H5.out
    have p3 := (World.putObj_heap_other (o := (.deferred none)) (r := D) (by omega)).trans H6.out
    refine ⟨.tuple #[.agg cs, .bool true], Sb.results_two rfl _ _ (w.heap.size + 2) (w.heap.size + 3) 24 cs (0, 0) _ true rfl p2 Tryz.underlying24 rfl (by rw [size_R, hsc]) rfl (Sb.load_bool p3), ?_, ?_⟩
    · have h := HLK.out
      rw [h]
      rfl
    · exact hBw.grown (grownBy_putObj' _ D _) hBw.size (fun k e => by cases e; omega)
end Go.Proofs.YtpbhndmfmnfeoaaGreat
