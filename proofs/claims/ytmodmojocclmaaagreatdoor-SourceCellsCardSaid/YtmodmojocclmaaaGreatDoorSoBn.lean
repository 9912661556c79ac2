/- SourceCells: a cell has what was put last. -/
import Derived.Test.YtmodmojocclmaaaGreatDoorMg38
import Derived.Test.YtmodmojocclmaaaGreatDoorMg37
namespace Go.Proofs.YtmodmojocclmaaaGreatDoor.K
open Go Go.RowKit
namespace So

theorem src_cells {α : Type} {f : α → Value} {w : World} {v : Value} {xs : List α} (h : SrcV w v (xs.map f)) : ∃ A c, v = .slice A xs.length c ∧ xs.length ≤ c ∧ (0 < xs.length → ∃ ad, A = some ad ∧ ∀ (j : Nat) x, xs[j]? = some x → w.cell? (ad.add j) = some (f x)) := by
 rcases h with ⟨rfl, h0⟩ | ⟨ad, c, rfl, h1, h2⟩
 ·obtain rfl : xs = [] := by simpa using h0
  exact ⟨_, 0, rfl, Nat.le_refl _, fun h => absurd h (by simp)⟩
 ·rw [List.length_map] at h1 ⊢
  exact ⟨some ad, c, rfl, h1, fun _ => ⟨ad, rfl, fun j x hx => h2 j _ (by rw [List.getElem?_map, hx]; rfl)⟩⟩
def Arr (w : World) (b : Nat) (l : List Int) : Prop := Lies w b 53 (l.map (Value.int .i64 ·)).toArray
theorem Arr.set {w : World} {b : Nat} {l : List Int} (h : Arr w b l) (i : Nat) (x : Int) : Arr (w.setCell ⟨b, i, none⟩ (.int .i64 x)) b (l.set i x) := by
 have := Lies.set h i (.int .i64 x)
 unfold Arr
 rw [List.map_set]
 simpa using this
theorem Arr.cell {w : World} {b : Nat} {l : List Int} (h : Arr w b l) {i : Nat} {x : Int} (hx : l[i]? = some x) : w.cell? ⟨b, i, none⟩ = some (.int .i64 x) := by
 rw [Lies.cell h]
 simp [hx]
theorem KX.grown {X : Nat} {a b c : World} {row : Option Nat} (h : KX X a b) (hg : b.grownBy c row) (hr : ∀ k, row = some k → a.heap.size ≤ k) : KX X a c :=
 ⟨hg.os.trans h.os, hg.tape.trans h.tape, hg.output.trans h.output, Nat.le_trans h.size hg.size, fun g h1 h2 => (hg.block g (Nat.lt_of_lt_of_le h1 h.size) (fun e => by have := hr g e.symm; omega)).trans (h.block g h1 h2)⟩
theorem new_one' (w : World) (v : Value) (t : TypeId) {g : Nat} (hg : g = w.heap.size) : ∀ (j : Nat) u, ([v] : List Value)[j]? = some u → (w.alloc (.cells #[v] t)).cell? ((⟨g, 0, none⟩ : Addr).add j) = some u := by
 subst hg
 intro j u hj
 match j with
 | 0 =>
  rw [Addr.add_zero']
  rw [(Lies.new w t #[v]).cell]
  exact hj
 | j + 1 => cases hj
theorem own_sameBx {w w' : World} {B : Nat} {e : TypeId} {size n : Nat} {v : Value} {xs : List Value} (h : w.ownsRow B e size v n xs) (hs : ∀ g, v.ownBlock = some g → w'.heap[g]? = w.heap[g]?) : w'.ownsRow B e size v n xs := by
 refine ⟨h.1, ?_⟩
 rcases h.2 with h0 | ⟨g, cap, cur, h1, h2, h3, h4⟩
 ·exact .inl h0
 ·exact .inr ⟨g, cap, cur, h1, h2, (hs g (by rw [h1]; rfl)).trans h3, h4⟩
theorem new_rowN (w : World) (l : List Value) (t : TypeId) : ∀ (j : Nat) u, l[j]? = some u → (w.alloc (.cells l.toArray t)).cell? ((⟨w.heap.size, 0, none⟩ : Addr).add j) = some u := by
 intro j u hj
 rw [show ((⟨w.heap.size, 0, none⟩ : Addr).add j) = ⟨w.heap.size, j, none⟩ by unfold Addr.add; split <;> simp_all, (Lies.new w t l.toArray).cell]
 simpa using hj
theorem three {l : List Int} (h : l.length = 3) : ∃ a b c, l = [a, b, c] := by
 match l, h with
 | [a, b, c], _ => exact ⟨a, b, c, rfl⟩
theorem tail_drop {i : Nat} (h : i < 3) : tailT (([0, 1, 2] : List Nat).drop i) = letT [95] (showT (nmK i)) (tailT (([0, 1, 2] : List Nat).drop (i + 1))) := by
 match i, h with
 | 0, _ => rfl
 | 1, _ => rfl
 | 2, _ => rfl
theorem cells_call {X : Nat} {w : World} {a b c : Int} {zs : List Int} {C : List Value} (hta : TA X w (cellsT a b c (prC zs)) C) (hX : X < w.heap.size) (hk : zs.length ≤ 20) :
  Calls Tryz.prog 9 #[.agg ([Value.slice none 0 0, Value.slice none 0 0] ++ C).toArray, .slice none 0 0, .int .i64 4500] w fun e w' => ∃ kk nn A m c' st ko, e = .returned (.agg (runL 1 kk nn (.slice A m c') st ko)) ∧ IntsS w' (.slice A m c') (zs ++ setAll [a, b, c] (prC zs)) ∧ Below w.heap.size w w' := by
 obtain ⟨f, hres, e1, e2, e3, e4⟩ := law_cells a b c zs hk
 have hrun : run 4500 (start (cellsT a b c (prC zs)) []) = f := hres.2
 refine (run_val w _ (.slice none 0 0) 4500 (by omega) (prog_tm hta hX) (in_nil _) hres.1 (k' := 3) (n' := 0) (by rw [hrun]; exact ⟨e1, e2, e3⟩)).mono fun e w' h => ?_
 rw [hrun] at h
 obtain ⟨tv, rfl, hown, hb⟩ := h
 rw [e4] at hown
 have hin := ints_own hown
 obtain ⟨A, c', rfl, _⟩ := id hin
 exact ⟨_, _, A, _, c', _, _, by rw [e1], hin, hb⟩
theorem head_drop {i : Nat} (h : i < 3) {a b c x : Int} (hx : [a, b, c][i]? = some x) (t : Tm) : headT (([(0, a), (1, b), (2, c)] : List (Nat × Int)).drop i) t = letT (nmK i) (refT x) (headT (([(0, a), (1, b), (2, c)] : List (Nat × Int)).drop (i + 1)) t) := by
 match i, h, hx with
 | 0, _, hx => cases hx; rfl
 | 1, _, hx => cases hx; rfl
 | 2, _, hx => cases hx; rfl
theorem names_cell {w : World} {nb : Nat} (h : Lies w nb 9 #[.string ⟨#[97]⟩, .string ⟨#[98]⟩, .string ⟨#[99]⟩]) {i : Nat} (hi : i < 3) : w.cell? ⟨nb, i, none⟩ = some (.string (ba (nmK i))) := by
 rw [h.cell]
 match i, hi with
 | 0, _ => rfl
 | 1, _ => rfl
 | 2, _ => rfl
theorem grow_next {V1 V3 W9 : World} {cb base : Nat} {T : List Int} {v v' u : Value} {n m : Nat} {L M : List Value} (o : Obj)
  (ha : Arr V1 cb T) (hx : KX cb W9 V1) (hb : base = W9.heap.size) (hcb : cb < base) (hu : V1.ownsRow base 3 1 u m M) (hv : V1.ownsRow base 3 1 v n L) (hne : ∀ g, u.ownBlock = some g → v.ownBlock ≠ some g)
  (hg : (V1.alloc o).grownBy V3 v.ownBlock) (hat : v'.ownBlock = v.ownBlock ∨ v'.ownBlock = some (V1.alloc o).heap.size) :
  V3.ownsRow base 3 1 u m M ∧ Arr V3 cb T ∧ KX cb W9 V3 ∧ (∀ g, u.ownBlock = some g → v'.ownBlock ≠ some g) := by
 have hz : (V1.alloc o).heap.size = V1.heap.size + 1 := by simp
 have hv2 := own_block hv
 have hu2 := own_block hu
 have hal : ∀ g, g < V1.heap.size → (V1.alloc o).heap[g]? = V1.heap[g]? := fun g h => Below.heap_alloc _ _ _ h
 refine ⟨own_sameBx hu fun g h => ?_, ?_, ?_, fun g h => ?_⟩
 ·exact (hg.block g (by have := hu2 g h; omega) (fun e => hne g h e.symm)).trans (hal g (hu2 g h).2)
 ·have hlt := Lies.lt ha
  exact ((hg.block cb (by omega) (fun e => by have := hv2 cb e.symm; omega)).trans (hal cb hlt)).trans ha
 ·exact (hx.below (below_new V1 o)).grown hg (fun k hk => by have := hv2 k hk; omega)
 ·rcases hat with e | e
  ·rw [e]; exact hne g h
  ·rw [e]; intro h2; have := hu2 g h; injection h2 with h2; omega
theorem KX.setCell {X : Nat} {a b : World} (h : KX X a b) (i : Nat) (v : Value) : KX X a (b.setCell ⟨X, i, none⟩ v) :=
 ⟨h.os, h.tape, h.output, by simpa using h.size, fun g h1 h2 => (Below.heap_setCell b _ v g h2).trans (h.block g h1 h2)⟩
set_option maxRecDepth 100000 in
set_option maxHeartbeats 8000000 in
theorem sourceCells_any (v : Value) (xs : List Int) (u : Value) (ys : List Int) (w : World) (hv : SrcV w v (xs.map (Value.int .i64 ·))) (hu : SrcV w u (ys.map (Value.int .i64 ·))) (hG : Good w) (hl : xs.length ≤ 140737488351232) (hl2 : ys.length ≤ 140737488351232) :
  Calls Tryz.prog 5 #[v, u] w fun e w' => e = .returned (.bool true) ∧ Below w.heap.size w w' := by
 obtain ⟨ie, hie, hiz, his⟩ := info39
 obtain ⟨i0, hi, hz0, hz1, hz2⟩ := info_i
 obtain ⟨A, c, rfl, hlc, hcell⟩ := src_cells hv
 obtain ⟨B, d, rfl, hld, hcell2⟩ := src_cells hu
 have HSH := Lib.hid (shown_any w hG)
 have HCELL := Lib.hid hcell
 have HCELL2 := Lib.hid hcell2
 clear hv hu hcell hcell2 hG
 go_enter Tryz.func5, Tryz.ntmps5
 go_wp2_with fail
 refine HSH.out.mono ?_
 rintro e w1 ⟨rfl, hb1⟩
 obtain ⟨nb, hnb⟩ : ∃ b, b = w1.heap.size := ⟨_, rfl⟩
 obtain ⟨cb, hcb⟩ : ∃ b, b = w1.heap.size + 1 := ⟨_, rfl⟩
 obtain ⟨W0, hW0⟩ : ∃ W, W = (w1.alloc (.cells #[.string ⟨#[97]⟩, .string ⟨#[98]⟩, .string ⟨#[99]⟩] 9)).alloc (.cells #[.int .i64 0, .int .i64 0, .int .i64 0] 53) := ⟨_, rfl⟩
 have HB0 := Lib.hid (show Below w.heap.size w W0 by rw [hW0]; exact (hb1.alloc hb1.size _).alloc (by have := hb1.size; simp; omega) _)
 have HN0 := Lib.hid (show Lies W0 nb 9 #[.string ⟨#[97]⟩, .string ⟨#[98]⟩, .string ⟨#[99]⟩] by rw [hW0, hnb]; exact (Lies.new w1 _ _).alloc _)
 have HC0 := Lib.hid (show Arr W0 cb [0, 0, 0] by rw [hW0, hcb]; exact Lies.new' _ _ _ (by simp))
 have HZ0 := Lib.hid (show W0.heap.size = cb + 1 ∧ nb < cb ∧ w.heap.size ≤ nb ∧ nb = w1.heap.size by rw [hW0]; have := hb1.size; simp; omega)
 have HW0 := Lib.hid hW0
 have HNB := Lib.hid hnb
 have HCB := Lib.hid hcb
 clear hnb hcb hW0 hb1
 go_wp2_with fail
 rw [← HW0.out, ← HCB.out, ← HNB.out]
 go_loopw [9] (fun x wr => ∃ (q : Nat) (S : List Int), q ≤ 3 ∧ x = .int .i64 (q : Int) ∧ S.length = 3 ∧ Arr wr cb S ∧ KX cb W0 wr) (fun x _ => 3 - (intOf x).toNat)
 case atStart => exact ⟨0, [0, 0, 0], by omega, rfl, rfl, HC0.out, KX.refl _ _⟩
 case round =>
  obtain ⟨q, S, hq, rfl, hsl, harr, hkx⟩ := hrel
  have HARR := Lib.hid harr
  have HKX := Lib.hid hkx
  have HSL := Lib.hid hsl
  clear harr hkx hsl
  go_upto_region 6 with (fail)
  go_cut [29] from 22 to 29 (fun b wx => b = .bool (decide (q < 3 ∧ q < xs.length)) ∧ wx = wr)
  case first =>
   by_cases h3 : q < 3
   ·have h3i : (q : Int) < 3 := by omega
    by_cases hx : q < xs.length
    ·have hxi : (q : Int) < (xs.length : Int) := by omega
     go_wp2_with fail
     go_meet
     exact ⟨by rw [decide_eq_true ⟨h3, hx⟩], rfl⟩
    ·have hxi : ¬ (q : Int) < (xs.length : Int) := by omega
     go_wp2_with fail
     go_meet
     exact ⟨by rw [decide_eq_false (fun h => hx h.2)], rfl⟩
   ·have h3i : ¬ (q : Int) < 3 := by omega
    go_wp2_with fail
    go_meet
    exact ⟨by rw [decide_eq_false (fun h => h3 h.1)], rfl⟩
  obtain ⟨rfl, hwc⟩ := hcut
  subst wc
  by_cases hcd : q < 3 ∧ q < xs.length
  ·rw [decide_eq_true hcd]
   obtain ⟨h3, hx⟩ := hcd
   obtain ⟨ad, rfl, had⟩ := HCELL.out (by omega)
   obtain ⟨x, hxq⟩ : ∃ x, xs[q]? = some x := ⟨_, List.getElem?_eq_getElem hx⟩
   obtain ⟨y, hyq⟩ : ∃ y, S[q]? = some y := ⟨_, List.getElem?_eq_getElem (by rw [HSL.out]; exact h3)⟩
   have hwr : Below w.heap.size w wr := HKX.out.all HB0.out (by have := HZ0.out; omega)
   have hc0 := (hwr.cell (p := ad.add q) (World.block_lt_of_cell? _ _ (had q x hxq))).trans (had q x hxq)
   have hy0 : wr.cell? ⟨cb, q, none⟩ = some (.int .i64 y) := HARR.out.cell hyq
   have hf0 := Lies.free HARR.out q
   have h3i : (q : Int) < 3 := by omega
   clear had hxq hyq hwr
   go_wp2
   go_roundw
   case rel => exact ⟨q + 1, S.set q x, by omega, by go_num, by rw [List.length_set]; exact HSL.out, HARR.out.set q x, HKX.out.setCell q _⟩
   case measure => (simp [intOf] <;> omega)
  ·rw [decide_eq_false hcd]
   have hxi : ∃ S0 : List Int, S0 = S := ⟨_, rfl⟩
   obtain ⟨T0, hT0⟩ : ∃ L : List Value, L = S.map (Value.int .i64 ·) := ⟨_, rfl⟩
   obtain ⟨stb, hstb⟩ : ∃ b, b = wr.heap.size := ⟨_, rfl⟩
   obtain ⟨W9, hW9⟩ : ∃ W, W = (wr.alloc (.cells #[.int .i64 0, .int .i64 0, .int .i64 0] 53)).setRow stb T0.toArray := ⟨_, rfl⟩
   have h53 : (Tryz.prog.info? 53).map (·.size) = some 3 := by kernel_rfl
   have HS53 := Lib.hid (show (Tryz.prog.info? 53).map (·.size) = some T0.toArray.size by rw [h53, hT0]; simp [HSL.out])
   have HSZ53 := Lib.hid (show (#[.int .i64 0, .int .i64 0, .int .i64 0] : Array Value).size = T0.toArray.size by rw [hT0]; simp [HSL.out])
   have HON53 := Lib.hid (show T0.toArray.all (·.oneCell') = true by rw [← Array.all_toList, List.all_eq_true]; intro u hu; rw [hT0] at hu; simp at hu; obtain ⟨a, _, rfl⟩ := hu; rfl)
   have hl0 : Lies wr cb 53 T0.toArray := by rw [hT0]; exact HARR.out
   have hlz : Lies (wr.alloc (.cells #[.int .i64 0, .int .i64 0, .int .i64 0] 53)) stb 53 #[.int .i64 0, .int .i64 0, .int .i64 0] := by rw [hstb]; exact Lies.new _ _ _
   have hb9 : Below wr.heap.size wr W9 := by rw [hW9]; exact below_setRow' (below_new wr _) (by omega) _
   have hwr : Below w.heap.size w wr := HKX.out.all HB0.out (by have := HZ0.out; omega)
   have HL0 := Lib.hid hl0
   have HLZ := Lib.hid hlz
   have HA9 := Lib.hid (show Arr W9 cb S by unfold Arr; rw [← hT0]; exact (hb9.block _ hl0.lt).trans hl0)
   have HST := Lib.hid (show Arr W9 stb S by unfold Arr; rw [← hT0, hW9]; exact lies_setRow' hlz _)
   have HN9 := Lib.hid (show Lies W9 nb 9 #[.string ⟨#[97]⟩, .string ⟨#[98]⟩, .string ⟨#[99]⟩] from (hb9.block _ (by have := HZ0.out; have := HKX.out.size; omega)).trans ((HKX.out.block _ (by have := HZ0.out; omega) (by have := HZ0.out; omega)).trans HN0.out))
   have HB9 := Lib.hid (show Below w.heap.size w W9 from hwr.trans (hb9.mono hwr.size))
   have HZ9 := Lib.hid (show W9.heap.size = stb + 1 ∧ cb < stb ∧ nb < cb ∧ w.heap.size ≤ nb by have := HZ0.out; have := HKX.out.size; rw [hW9, size_setRow']; simp; omega)
   have HW9 := Lib.hid hW9
   have HSTB := Lib.hid hstb
   obtain ⟨nn, hnn⟩ : ∃ n, n = min ys.length 20 := ⟨_, rfl⟩
   have hn20 : nn ≤ 20 := by omega
   have hnl : nn ≤ ys.length := by omega
   have HNN := Lib.hid hnn
   obtain ⟨base, hbase⟩ : ∃ b, b = W9.heap.size := ⟨_, rfl⟩
   have HBASE := Lib.hid hbase
   clear hxi hT0 hstb hW9 h53 hl0 hlz hb9 hwr hnn hbase hcd
   go_wp2_with (first
    | ((with_reducible show wpList _ _ _ (⟨some 38, Op.load _ _, _, _, _, _⟩ :: _) _ _); refine wpList_load_row rfl 53 (.tmp 7) rfl cb rfl 53 T0.toArray (0, 0) _ ?_ Tryz.underlying53 rfl HS53.out ?_; exact HL0.out)
    | ((with_reducible show wpList _ _ _ (⟨none, Op.store _ _ _, _, _, _, _⟩ :: _) _ _); refine wpList_store_rowTo rfl 53 (.tmp 10) (.tmp 38) rfl rfl wr.heap.size T0.toArray rfl rfl 53 _ ?_ HS53.out HSZ53.out HON53.out ?_; rw [← HSTB.out]; exact HLZ.out; rw [← HSTB.out, ← HW9.out]))
   go_loopw [8, 11, 12, 13] (fun a b x _ ws => ∃ (q : Nat) (A8 : Option Addr) (m8 c8 : Nat) (A11 : Option Addr) (m11 c11 : Nat), q ≤ nn ∧ a = .slice A8 m8 c8 ∧ b = .slice A11 m11 c11 ∧ x = .int .i64 (q : Int) ∧ Arr ws cb (setAll S (prC (ys.take q))) ∧ ws.ownsRow base 3 1 (.slice A8 m8 c8) q ((ys.take q).map (Value.int .i64 ·)) ∧ ws.ownsRow base 3 1 (.slice A11 m11 c11) q ((ys.take q).map (Value.int .i64 ·)) ∧ (∀ g, (Value.slice A8 m8 c8).ownBlock = some g → (Value.slice A11 m11 c11).ownBlock ≠ some g) ∧ KX cb W9 ws) (fun _ _ x _ _ => nn - (intOf x).toNat)
   case atStart => exact ⟨0, _, _, _, _, _, _, Nat.zero_le _, rfl, rfl, rfl, HA9.out, World.ownsRow_nil _ _ _ _, World.ownsRow_nil _ _ _ _, fun g h => by simp [Value.ownBlock] at h, KX.refl _ _⟩
   case round =>
    obtain ⟨p, A8, m8, c8, A11, m11, c11, hp, rfl, rfl, rfl, harr, ho8, ho11, hne, hkx2⟩ := hrel
    obtain ⟨ws, rfl⟩ : ∃ W, W = wr := ⟨_, rfl⟩
    have HAR := Lib.hid harr
    have HO8 := Lib.hid ho8
    have HO11 := Lib.hid ho11
    have HNE := Lib.hid hne
    have HK2 := Lib.hid hkx2
    clear harr ho8 ho11 hne hkx2
    go_upto_region 12 with (fail)
    go_cut [46] from 39 to 46 (fun b wx => b = .bool (decide (p < nn)) ∧ wx = ws)
    case first =>
     by_cases hy : p < ys.length
     ·have hyi : (p : Int) < (ys.length : Int) := by omega
      by_cases h20 : p < 20
      ·have h20i : (p : Int) < 20 := by omega
       have HD := Lib.hid (decide_eq_true (show p < nn by have := HNN.out; omega))
       go_wp2_with fail
       go_meet
       exact ⟨by rw [HD.out], rfl⟩
      ·have h20i : ¬ (p : Int) < 20 := by omega
       have HD := Lib.hid (decide_eq_false (show ¬ p < nn by have := HNN.out; omega))
       go_wp2_with fail
       go_meet
       exact ⟨by rw [HD.out], rfl⟩
     ·have hyi : ¬ (p : Int) < (ys.length : Int) := by omega
      have HD := Lib.hid (decide_eq_false (show ¬ p < nn by omega))
      go_wp2_with fail
      go_meet
      exact ⟨by rw [HD.out], rfl⟩
    obtain ⟨rfl, hwc⟩ := hcut
    subst wc
    by_cases hlt : p < nn
    ·rw [decide_eq_true hlt]
     obtain ⟨bd, rfl, hbd⟩ := HCELL2.out (by omega)
     obtain ⟨y, hy⟩ : ∃ y, ys[p]? = some y := ⟨_, List.getElem?_eq_getElem (by omega)⟩
     have hT : (ys.take (p + 1)) = ys.take p ++ [y] := by rw [List.take_add_one, hy]; rfl
     obtain ⟨T, hTT⟩ : ∃ T, T = setAll S (prC (ys.take p)) := ⟨_, rfl⟩
     have hTl : T.length = 3 := by rw [hTT, setAll_len]; exact HSL.out
     obtain ⟨k, hk⟩ : ∃ k, k = ixK y := ⟨_, rfl⟩
     have hk3 : k < 3 := by rw [hk]; exact ixK_lt y
     have htm : (bits .and .i64 y 65535).tmod 3 = ((k : Nat) : Int) := by rw [hk]; exact ixK_tmod y
     obtain ⟨z, hz⟩ : ∃ z, T[k]? = some z := ⟨_, List.getElem?_eq_getElem (by omega)⟩
     have harr : Arr ws cb T := by rw [hTT]; exact HAR.out
     have hws : Below w.heap.size w ws := HK2.out.all HB9.out (by have := HZ9.out; omega)
     have hcy : ∀ V, Below w.heap.size w V → V.cell? (bd.add p) = some (.int .i64 y) := fun V hV => (hV.cell (p := bd.add p) (World.block_lt_of_cell? _ _ (hbd p y hy))).trans (hbd p y hy)
     have hc0 := hcy ws hws
     have hk0 : ws.cell? ⟨cb, k, none⟩ = some (.int .i64 z) := harr.cell hz
     have hf0 := Lies.free harr k
     obtain ⟨V1, hV1⟩ : ∃ V, V = ws.setCell ⟨cb, k, none⟩ (.int .i64 y) := ⟨_, rfl⟩
     have ha1 : Arr V1 cb (T.set k y) := by rw [hV1]; exact harr.set k y
     have hx1 : KX cb W9 V1 := by rw [hV1]; exact HK2.out.setCell k _
     have hbs : base = stb + 1 ∧ cb < stb := by have := HZ9.out; have := HBASE.out; omega
     have hs1 : base ≤ V1.heap.size := by have := hx1.size; have := HBASE.out; omega
     have hsame : ∀ g, base ≤ g → g < ws.heap.size → V1.heap[g]? = ws.heap[g]? := fun g h1 _ => by rw [hV1]; exact Below.heap_setCell _ _ _ _ (by show g ≠ cb; omega)
     have h8 := own_same HO8.out hsame
     have h11 := own_same HO11.out hsame
     have HT := Lib.hid hT
     have HTS := Lib.hid (show T.set k y = setAll S (prC (ys.take (p + 1))) by rw [hT, prC_snoc, setAll_snoc, ← hTT, hk])
     have HA1 := Lib.hid ha1
     have HX1 := Lib.hid hx1
     have HV1 := Lib.hid hV1
     have HSV := Lib.hid hs1
     have HCY := Lib.hid hcy
     have HW1 := Lib.hid (show Below w.heap.size w V1 from hx1.all HB9.out (by have := HZ9.out; omega))
     have HOA := Lib.hid (own_later h11 (below_new V1 (.cells #[.int .i64 y] 3)))
     have H8A := Lib.hid h8
     have H11A := Lib.hid h11
     have H11L := Lib.hid (own_block h11)
     have H8L := Lib.hid (own_block h8)
     have HZS := Lib.hid hbs
     have hyi : (p : Int) < (ys.length : Int) := by omega
     have hyn : p < ys.length := by omega
     clear hbd hy hT hTT hTl hk hz harr hws hcy ha1 hx1 hbs hs1 hsame h8 h11 hV1
     go_upto_region 16 with (fail)
     rw [← HV1.out]
     clear hc0 hk0 hf0
     have hc1 := HCY.out V1 HW1.out
     go_upto_region 17 with (first | (at_builtin; refine wpList_append_own_at _ rfl (.tmp 61) (.tmp 66) 22 rfl base 3 i0 (.int .i64 0) 1 8 Tryz.underlying22 hi hz0 hz1 hz2 rfl (by decide) (.slice A11 m11 c11) p ((ys.take p).map (Value.int .i64 ·)) rfl HOA.out ⟨V1.heap.size, 0, none⟩ 1 1 [.int .i64 y] rfl rfl (new_one' V1 _ _ rfl) (by simp [Value.oneCell']) (by unfold maxLen; omega) (by omega) (by have := HSV.out; simp; omega) ?_; intro v3 V3 hown3 hgr3 _ hat3; have HOW3 := Lib.hid hown3; have HGR3 := Lib.hid hgr3; have HAT3 := Lib.hid hat3; clear hown3 hgr3 hat3))
     obtain ⟨A3, m3, c3, rfl⟩ := own_slice HOW3.out
     obtain ⟨g1, g2, g3, g4⟩ := grow_next (.cells #[.int .i64 y] 3) HA1.out HX1.out HBASE.out (by have := HZS.out; omega) H8A.out H11A.out HNE.out HGR3.out HAT3.out
     have HO83 := Lib.hid g1
     have HA3 := Lib.hid g2
     have HX3 := Lib.hid g3
     have HN3 := Lib.hid g4
     have HSV3 := Lib.hid (show base ≤ V3.heap.size by have h9 := HGR3.out.size; have := HSV.out; simp at h9; omega)
     have HB3 := Lib.hid (show Below w.heap.size w V3 from HX3.out.all HB9.out (by have := HZ9.out; omega))
     have HOB := Lib.hid (own_later g1 (below_new V3 (.cells #[.int .i64 y] 3)))
     clear g1 g2 g3 g4 hc1
     have hc3 := HCY.out V3 HB3.out
     go_upto_region 13 with (first | (at_builtin; refine wpList_append_own_at _ rfl (.tmp 68) (.tmp 73) 22 rfl base 3 i0 (.int .i64 0) 1 8 Tryz.underlying22 hi hz0 hz1 hz2 rfl (by decide) (.slice A8 m8 c8) p ((ys.take p).map (Value.int .i64 ·)) rfl HOB.out ⟨V3.heap.size, 0, none⟩ 1 1 [.int .i64 y] rfl rfl (new_one' V3 _ _ rfl) (by simp [Value.oneCell']) (by unfold maxLen; omega) (by omega) (by have := HSV3.out; simp; omega) ?_; intro v4 V4 hown4 hgr4 _ hat4; have HOW4 := Lib.hid hown4; have HGR4 := Lib.hid hgr4; have HAT4 := Lib.hid hat4; clear hown4 hgr4 hat4))
     obtain ⟨A4, m4, c4, rfl⟩ := own_slice HOW4.out
     obtain ⟨g1, g2, g3, g4⟩ := grow_next (.cells #[.int .i64 y] 3) HA3.out HX3.out HBASE.out (by have := HZS.out; omega) HOW3.out HO83.out (fun g h1 h2 => HN3.out g h2 h1) HGR4.out HAT4.out
     have HO4 := Lib.hid g1
     have HA4 := Lib.hid g2
     have HX4 := Lib.hid g3
     have HN4 := Lib.hid (show ∀ g, (Value.slice A4 m4 c4).ownBlock = some g → (Value.slice A3 m3 c3).ownBlock ≠ some g from fun g h1 h2 => g4 g h2 h1)
     clear g1 g2 g3 g4 hc3
     have hmap : (ys.take p).map (Value.int .i64 ·) ++ [.int .i64 y] = (ys.take (p + 1)).map (Value.int .i64 ·) := by rw [HT.out, List.map_append]; rfl
     have hw4 := HOW4.out
     have ho4 := HO4.out
     rw [hmap] at hw4 ho4
     have HOW8 := Lib.hid hw4
     have HOW11 := Lib.hid ho4
     have HAF := Lib.hid (show Arr V4 cb (setAll S (prC (ys.take (p + 1)))) by rw [← HTS.out]; exact HA4.out)
     clear hw4 ho4 hmap
     go_wp2_with fail
     go_roundw
     case rel => exact ⟨p + 1, A4, m4, c4, A3, m3, c3, by omega, rfl, rfl, by go_num, HAF.out, HOW8.out, HOW11.out, HN4.out, HX4.out⟩
     case measure => (simp [intOf] <;> omega)
    ·have hpn : p = nn := by omega
     rw [decide_eq_false hlt]
     obtain ⟨zs, hzs⟩ : ∃ l, l = ys.take p := ⟨_, rfl⟩
     have hzl : zs.length = p := by rw [hzs, List.length_take]; omega
     obtain ⟨t0, t1, t2, hT⟩ := three (show (setAll S (prC zs)).length = 3 by rw [setAll_len]; exact HSL.out)
     obtain ⟨s0, s1, s2, hS3⟩ := three HSL.out
     have ho8 := HO8.out
     have ho11 := HO11.out
     rw [← hzs] at ho8 ho11
     have harr : Arr ws cb [t0, t1, t2] := by rw [← hT, hzs]; exact HAR.out
     have y0 : ws.cell? ⟨cb, 0, none⟩ = some (.int .i64 t0) := harr.cell rfl
     have y1 : ws.cell? ⟨cb, 1, none⟩ = some (.int .i64 t1) := harr.cell rfl
     have y2 : ws.cell? ⟨cb, 2, none⟩ = some (.int .i64 t2) := harr.cell rfl
     have HO8Z := Lib.hid ho8
     have HO11Z := Lib.hid ho11
     have HARZ := Lib.hid harr
     have HTZ := Lib.hid hT
     have HS3 := Lib.hid hS3
     have HZL := Lib.hid hzl
     have HZ20 := Lib.hid (show zs.length ≤ 20 by omega)
     have HOC := Lib.hid (own_later ho8 (below_new ws (.cells #[.int .i64 t0, .int .i64 t1, .int .i64 t2] 3)))
     have HSVW := Lib.hid (show base ≤ ws.heap.size by have := HK2.out.size; have := HBASE.out; omega)
     clear hpn hzs hT hS3 ho8 ho11 harr
     go_upto_region 19 with (first | (at_builtin; refine wpList_append_own_at _ rfl (.tmp 75) (.tmp 82) 22 rfl base 3 i0 (.int .i64 0) 1 8 Tryz.underlying22 hi hz0 hz1 hz2 rfl (by decide) (.slice A8 m8 c8) p (zs.map (Value.int .i64 ·)) rfl HOC.out ⟨ws.heap.size, 0, none⟩ 3 3 [.int .i64 t0, .int .i64 t1, .int .i64 t2] rfl rfl (new_rowN ws _ _) (by simp [Value.oneCell']) (by unfold maxLen; omega) (by omega) (by have := HSVW.out; simp; omega) ?_; intro v5 V5 hown5 hgr5 _ hat5; have HOW5 := Lib.hid hown5; have HGR5 := Lib.hid hgr5; have HAT5 := Lib.hid hat5; clear hown5 hgr5 hat5))
     obtain ⟨A5, m5, c5, rfl⟩ := own_slice HOW5.out
     obtain ⟨g1, _, g3, _⟩ := grow_next (.cells #[.int .i64 t0, .int .i64 t1, .int .i64 t2] 3) HARZ.out HK2.out HBASE.out (by have := HZ9.out; have := HBASE.out; omega) HO11Z.out HO8Z.out (fun g h1 h2 => HNE.out g h2 h1) HGR5.out HAT5.out
     have hin : IntsS V5 (.slice A11 m11 c11) zs := ints_own (by rw [hzl]; exact g1)
     have hin2 := hin
     obtain ⟨A', c', e, _, _⟩ := hin2
     injection e with e1 e2 e3
     subst e1 e2 e3
     have HIN := Lib.hid hin
     have HWA := Lib.hid (show IntsS V5 (.slice A5 m5 c5) (zs ++ [t0, t1, t2]) from ints_own (by
      have := HOW5.out
      rw [show p + 3 = (zs ++ [t0, t1, t2]).length by simp [hzl], show zs.map (Value.int .i64 ·) ++ [.int .i64 t0, .int .i64 t1, .int .i64 t2] = (zs ++ [t0, t1, t2]).map (Value.int .i64 ·) by simp] at this
      exact this))
     have HX5 := Lib.hid g3
     have HB5 := Lib.hid (show Below w.heap.size w V5 from g3.all HB9.out (by have := HZ9.out; omega))
     have HN5 := Lib.hid (show Lies V5 nb 9 #[.string ⟨#[97]⟩, .string ⟨#[98]⟩, .string ⟨#[99]⟩] from (g3.block nb (by have := HZ9.out; omega) (by have := HZ9.out; omega)).trans HN9.out)
     have HST5 := Lib.hid (show Arr V5 stb S from (g3.block stb (by have := HZ9.out; omega) (by have := HZ9.out; omega)).trans HST.out)
     have HVB := Lib.hid (show stb < V5.heap.size ∧ nb < stb ∧ w.heap.size ≤ nb by have := HZ9.out; have := g3.size; omega)
     clear g1 g3 hin y0 y1 y2 hzl
     obtain ⟨UC, hUC⟩ : ∃ C : List Value, C = (tmL 4 (.int .i64 0) [] [] 0 (.slice none 0 0) (.slice none 0 0) [.int .i64 0, .string ⟨#[]⟩, .int .i64 0, .slice none 0 0, .slice none 0 0, .int .i64 0, .slice none 0 0, .int .i64 0, .int .i64 0, .string ⟨#[]⟩, .int .i64 0, .slice none 0 0, .slice none 0 0, .int .i64 0]) := ⟨_, rfl⟩
     obtain ⟨tb, htb⟩ : ∃ tb, tb = V5.heap.size := ⟨_, rfl⟩
     obtain ⟨W3, hW3, hbW3, hzW3, lW3⟩ := keep_term V5 UC.toArray
     have HBU := Lib.hid (show Tryz.prog.built 33 [(0, .int .i64 4)] = some UC.toArray by rw [hUC]; kernel_rfl)
     have HRS := Lib.hid (show (Tryz.prog.info? 33).map (·.size) = some UC.toArray.size by rw [szTerm, hUC]; rfl)
     have HRO := Lib.hid (show UC.toArray.all (·.oneCell') = true by rw [hUC]; simp [tmL, Value.oneCell'])
     have HRZ := Lib.hid (show zC.size = UC.toArray.size by rw [hUC]; rfl)
     have LZ := Lib.hid (Lies.new V5 33 zC)
     have HW3 := Lib.hid hW3
     have HBW3 := Lib.hid (show Below w.heap.size w W3 from HB5.out.trans (hbW3.mono HB5.out.size))
     have HTA0 := Lib.hid (show TA tb W3 unT UC by rw [hUC]; exact unit_ta _ _)
     have HL0 := Lib.hid (show Lies W3 tb 33 UC.toArray by rw [htb]; exact lW3)
     have HZ3 := Lib.hid (show tb < W3.heap.size by omega)
     have HNB3 := Lib.hid (show nb < tb ∧ stb < tb ∧ w.heap.size ≤ tb by have := HVB.out; omega)
     have HN3 := Lib.hid (show Lies W3 nb 9 #[.string ⟨#[97]⟩, .string ⟨#[98]⟩, .string ⟨#[99]⟩] from (hbW3.block _ HN5.out.lt).trans HN5.out)
     have HST3 := Lib.hid (show Arr W3 stb S from (hbW3.block _ (Lies.lt HST5.out)).trans HST5.out)
     have HB53 := Lib.hid hbW3
     have HIN3 := Lib.hid (show IntsS W3 (.slice A11 zs.length c11) zs from HIN.out.later hbW3)
     have HWA3 := Lib.hid (show IntsS W3 (.slice A5 m5 c5) (zs ++ [t0, t1, t2]) from HWA.out.later hbW3)
     have HTBW := Lib.hid htb
     clear htb hUC hW3 hbW3 hzW3 lW3
     unfold zC at HRZ LZ HW3
     go_wp2_with (first
      | (refine wpList_buildTo rfl 33 _ rfl UC.toArray (by rw [Array.toList_map]; exact HBU.out) ?_)
      | (refine wpList_store_rowTo rfl 33 (.tmp 14) (.tmp 84) rfl rfl V5.heap.size UC.toArray rfl rfl 33 _ ?_ HRS.out HRZ.out HRO.out ?_; exact LZ.out; rw [← HW3.out, ← HTBW.out]))
     go_loopw [15] (fun x wr => ∃ (j : Nat) (C : List Value), j ≤ 3 ∧ x = .int .i64 ((j : Int) - 1) ∧ TA tb wr (tailT (([0, 1, 2] : List Nat).drop j)) C ∧ Lies wr tb 33 C.toArray ∧ KX tb W3 wr) (fun x _ => (intOf x + 1).toNat)
     case atStart => exact ⟨3, UC, Nat.le_refl _, rfl, HTA0.out, HL0.out, KX.refl _ _⟩
     case round =>
      obtain ⟨j, C, hj, hxj, hta, hlies, hkx⟩ := hrel
      have HTA := Lib.hid hta
      have HL := Lib.hid hlies
      have HKX := Lib.hid hkx
      have HCL := Lib.hid hta.len
      have HCZ := Lib.hid (show (Tryz.prog.info? 33).map (·.size) = some C.length by rw [szTerm, hta.len])
      have HTB := Lib.hid (show tb < wr.heap.size by have := HZ3.out; have := hkx.size; omega)
      have HNA := Lib.hid (show Lies wr nb 9 #[.string ⟨#[97]⟩, .string ⟨#[98]⟩, .string ⟨#[99]⟩] from (hkx.block nb (by have := HNB3.out; have := HZ3.out; omega) (by have := HNB3.out; omega)).trans HN3.out)
      clear hta hlies hkx
      by_cases hj0 : 0 < j
      ·obtain ⟨i, rfl⟩ : ∃ i, j = i + 1 := ⟨j - 1, by omega⟩
       obtain rfl : u15 = .int .i64 (i : Int) := by rw [hxj]; congr 1; omega
       have hi3 : i < 3 := by omega
       have hii : (0 : Int) ≤ (i : Int) := by omega
       have hi3i : (i : Int) < 3 := by omega
       clear hxj
       go_wp2_with fail
       have HSS := Lib.hid (show ∀ V : World, Below wr.heap.size wr V → (Lies V tb 33 C.toArray ∧ V.cell? ⟨nb, i, none⟩ = some (.string (ba (nmK i)))) from fun V hV => ⟨(hV.block _ HTB.out).trans HL.out, names_cell ((hV.block _ HNA.out.lt).trans HNA.out) hi3⟩)
       refine TillLast.start (S := fun VV => Lies VV tb 33 C.toArray ∧ VV.cell? ⟨nb, i, none⟩ = some (.string (ba (nmK i)))) (z := 11) (by kernel_rfl) ?_
       have hS : Lies wr.drew tb 33 C.toArray ∧ wr.drew.cell? ⟨nb, i, none⟩ = some (.string (ba (nmK i))) := HSS.out _ (Below.refl _ _).drew
       have HDR := Lib.hid (show Below wr.heap.size wr wr.drew from (Below.refl _ _).drew)
       refine TillLast.take (i := 0) (oi := ⟨some 89, _, _, _, _, _⟩) (v := ?_) rfl (by kernel_rfl) (by kernel_rfl) (by kernel_rfl) (by kernel_rfl) (by decide) (by kernel_rfl) (fun _ _ _ h => h) (Or.inl ⟨by kernel_rfl, ?_⟩) hS ?_
       rotate_left
       ·(intro w' hSw; (try dsimp only at hSw); go_split_ands; go_simp; first | done | with_reducible rfl)
       try simp only [Act.put, List.setIfInBounds_toArray, List.set_cons_zero, List.set_cons_succ]
       refine TillLast.take (i := 1) (oi := ⟨some 90, _, _, _, _, _⟩) (v := ?_) rfl (by kernel_rfl) (by kernel_rfl) (by kernel_rfl) (by kernel_rfl) (by decide) (by kernel_rfl) (fun _ _ _ h => h) (Or.inl ⟨by kernel_rfl, ?_⟩) hS ?_
       rotate_left
       ·(intro w' hSw; (try dsimp only at hSw); go_split_ands; go_simp; first | done | with_reducible rfl)
       try simp only [Act.put, List.setIfInBounds_toArray, List.set_cons_zero, List.set_cons_succ]
       refine TillLast.take (i := 2) (oi := ⟨some 91, _, _, _, _, _⟩) (v := ?_) rfl (by kernel_rfl) (by kernel_rfl) (by kernel_rfl) (by kernel_rfl) (by decide) (by kernel_rfl) (fun _ _ _ h => h) (Or.inl ⟨by kernel_rfl, ?_⟩) hS ?_
       rotate_left
       ·(intro w' hSw; (try dsimp only at hSw); go_split_ands; go_simp; first | done | with_reducible rfl)
       try simp only [Act.put, List.setIfInBounds_toArray, List.set_cons_zero, List.set_cons_succ]
       refine TillLast.take (i := 3) (oi := ⟨some 92, _, _, _, _, _⟩) (v := ?_) rfl (by kernel_rfl) (by kernel_rfl) (by kernel_rfl) (by kernel_rfl) (by decide) (by kernel_rfl) (fun _ _ _ h => h) (Or.inl ⟨by kernel_rfl, ?_⟩) hS ?_
       rotate_left
       ·(intro w' hSw; (try dsimp only at hSw); go_split_ands; go_simp; first | done | with_reducible rfl)
       try simp only [Act.put, List.setIfInBounds_toArray, List.set_cons_zero, List.set_cons_succ]
       refine TillLast.take (i := 9) (oi := ⟨some 98, _, _, _, _, _⟩) (v := .agg C.toArray) rfl (by kernel_rfl) (by kernel_rfl) (by kernel_rfl) (by kernel_rfl) (by decide) (by kernel_rfl) (fun _ _ _ h => h) (yieldsIf_load_mid (by rfl) 33 (.tmp 14) rfl tb 0 rfl C _ (fun w' hS' => Lies.range hS'.1) Tryz.underlying33 rfl HCZ.out) hS ?_
       try simp only [Act.put, List.setIfInBounds_toArray, List.set_cons_zero, List.set_cons_succ]
       refine TillLast.ready (rs := [4]) (by kernel_rfl) (by simp) ?_
       refine NextAll.cons (o := ⟨some 93, _, _, _, _, _⟩) rfl (fun K hK => ?_) NextAll.nil
       go_simp
       refine (variable_ta tb _ (nmK i)).mono ?_
       rintro e w4 ⟨l4, rfl, hta4, hb4⟩
       have HB4 := Lib.hid (show Below wr.heap.size wr w4 from HDR.out.trans hb4)
       have HT4 := Lib.hid hta4
       have HX4 := Lib.hid hb4
       clear hta4 hb4
       (try dsimp only)
       refine hK.out _ _ (fun _ => HSS.out _ HB4.out) ?_
       clear hK K
       try simp only [Act.put, List.setIfInBounds_toArray, List.set_cons_zero, List.set_cons_succ]
       obtain ⟨D4, hD4⟩ : ∃ D : List Value, D = [l4].flatten := ⟨_, rfl⟩
       have HFD4 := Lib.hid (show Instr.fill (fun i => some (i * 21, 21)) ((Array.range (1 * 21)).map ((Value.agg zC).cells[· % (Value.agg zC).cells.size]!)) [(0, Value.agg l4.toArray)] = some D4.toArray by rw [hD4]; exact fill_one' l4 HT4.out.len _ (by simp))
       have HK4 := Lib.hid (kids_one HT4.out (by have := HTB.out; have := HB4.out.size; omega) hD4)
       have HA4 := Lib.hid (show Below wr.heap.size wr (w4.alloc (.cells D4.toArray 33)) from HB4.out.alloc HB4.out.size _)
       clear hD4
       refine TillLast.ready (rs := [5]) (by kernel_rfl) (by simp) ?_
       refine NextAll.cons (o := ⟨some 94, _, _, _, _, _⟩) rfl (fun K hK => ?_) NextAll.nil
       rw [if_pos (by kernel_rfl)]
       refine wp_buildSlice 24 33 1 _ rfl D4.toArray ie (.agg zC) Tryz.underlying24 hie hiz (by rw [his]; decide) (by rw [his]; decide) (by rw [his, Array.toList_map]; exact HFD4.out) ?_
       refine hK.out _ _ (fun _ => HSS.out _ HA4.out) ?_
       clear hK K
       try simp only [Act.put, List.setIfInBounds_toArray, List.set_cons_zero, List.set_cons_succ]
       refine TillLast.ready (rs := [6]) (by kernel_rfl) (by simp) ?_
       refine NextAll.cons (o := ⟨some 95, _, _, _, _, _⟩) rfl (fun K hK => ?_) NextAll.nil
       go_simp
       refine (op_ta tb _ [33] HK4.out).mono ?_
       rintro e w5 ⟨l5, rfl, hta5, hb5⟩
       have HB5 := Lib.hid (show Below wr.heap.size wr w5 from HA4.out.trans (hb5.mono HA4.out.size))
       have HT5 := Lib.hid hta5
       have HX5 := Lib.hid hb5
       clear hta5 hb5
       (try dsimp only)
       refine hK.out _ _ (fun _ => HSS.out _ HB5.out) ?_
       clear hK K
       try simp only [Act.put, List.setIfInBounds_toArray, List.set_cons_zero, List.set_cons_succ]
       obtain ⟨D5, hD5⟩ : ∃ D : List Value, D = [l5].flatten := ⟨_, rfl⟩
       have HFD5 := Lib.hid (show Instr.fill (fun i => some (i * 21, 21)) ((Array.range (1 * 21)).map ((Value.agg zC).cells[· % (Value.agg zC).cells.size]!)) [(0, Value.agg l5.toArray)] = some D5.toArray by rw [hD5]; exact fill_one' l5 HT5.out.len _ (by simp))
       have HK5 := Lib.hid (kids_one HT5.out (by have := HTB.out; have := HB5.out.size; omega) hD5)
       have HA5 := Lib.hid (show Below wr.heap.size wr (w5.alloc (.cells D5.toArray 33)) from HB5.out.alloc HB5.out.size _)
       clear hD5
       refine TillLast.ready (rs := [7]) (by kernel_rfl) (by simp) ?_
       refine NextAll.cons (o := ⟨some 96, _, _, _, _, _⟩) rfl (fun K hK => ?_) NextAll.nil
       rw [if_pos (by kernel_rfl)]
       refine wp_buildSlice 24 33 1 _ rfl D5.toArray ie (.agg zC) Tryz.underlying24 hie hiz (by rw [his]; decide) (by rw [his]; decide) (by rw [his, Array.toList_map]; exact HFD5.out) ?_
       refine hK.out _ _ (fun _ => HSS.out _ HA5.out) ?_
       clear hK K
       try simp only [Act.put, List.setIfInBounds_toArray, List.set_cons_zero, List.set_cons_succ]
       refine TillLast.ready (rs := [8]) (by kernel_rfl) (by simp) ?_
       refine NextAll.cons (o := ⟨some 97, _, _, _, _, _⟩) rfl (fun K hK => ?_) NextAll.nil
       go_simp
       refine (op_ta tb _ [112, 114, 105, 110, 116] HK5.out).mono ?_
       rintro e w6 ⟨l6, rfl, hta6, hb6⟩
       have HB6 := Lib.hid (show Below wr.heap.size wr w6 from HA5.out.trans (hb6.mono HA5.out.size))
       have HT6 := Lib.hid hta6
       have HX6 := Lib.hid hb6
       clear hta6 hb6
       (try dsimp only)
       refine hK.out _ _ (fun _ => HSS.out _ HB6.out) ?_
       clear hK K
       try simp only [Act.put, List.setIfInBounds_toArray, List.set_cons_zero, List.set_cons_succ]
       refine TillLast.ready (rs := [10]) (by kernel_rfl) (by simp) ?_
       refine NextAll.cons (o := ⟨some 99, _, _, _, _, _⟩) rfl (fun K hK => ?_) NextAll.nil
       go_simp
       refine (let_ta tb _ (by have := HTB.out; have := HB6.out.size; omega) [95] HT6.out (HTA.out.later HB6.out)).mono ?_
       rintro e w7 ⟨l7, rfl, hta7, hb7⟩
       have HB7 := Lib.hid (show Below wr.heap.size wr w7 from HB6.out.trans (hb7.mono HB6.out.size))
       have HT7 := Lib.hid hta7
       have HX7 := Lib.hid hb7
       have HNO := Lib.hid hta7.one
       have HNZ := Lib.hid (show C.toArray.size = l7.toArray.size by simp [HCL.out, hta7.len])
       have HNS := Lib.hid (show (Tryz.prog.info? 33).map (·.size) = some l7.toArray.size by rw [szTerm]; simp [hta7.len])
       clear hta7 hb7
       (try dsimp only)
       refine hK.out _ _ (fun _ => HSS.out _ HB7.out) ?_
       clear hK K
       try simp only [Act.put, List.setIfInBounds_toArray, List.set_cons_zero, List.set_cons_succ]
       refine TillLast.ready (rs := [11]) (by kernel_rfl) (by simp) ?_
       refine NextAll.cons (o := ⟨none, _, _, _, _, _⟩) rfl (fun K hK => ?_) NextAll.nil
       rw [if_pos (by kernel_rfl)]
       refine wp_store_row 33 (.tmp 14) (.tmp 99) rfl tb l7.toArray rfl rfl 33 C.toArray ((HB7.out.block _ HTB.out).trans HL.out) HNS.out HNZ.out HNO.out ?_
       refine hK.out _ _ (fun h => absurd (h.symm.trans (by kernel_rfl : _ = true)) (by decide)) ?_
       clear hK K
       try simp only [Act.put, List.setIfInBounds_toArray, List.set_cons_zero, List.set_cons_succ]
       refine TillLast.done (by kernel_rfl) ?_ _
       have HTD := Lib.hid (tail_drop hi3)
       have HTN := Lib.hid (show TA tb (w7.setRow tb l7.toArray) (letT [95] (showT (nmK i)) (tailT (([0, 1, 2] : List Nat).drop (i + 1)))) l7 from HT7.out.set _)
       have HLN := Lib.hid (show Lies (w7.setRow tb l7.toArray) tb 33 l7.toArray from lies_setRow' ((HB7.out.block _ HTB.out).trans HL.out) _)
       have HKN := Lib.hid ((HKX.out.below HB7.out).set l7.toArray)
       go_wp2_with fail
       go_roundw
       case rel => exact ⟨i, l7, by omega, by go_num, by rw [HTD.out]; exact HTN.out, HLN.out, HKN.out⟩
       case measure => (simp [intOf] <;> omega)
      ·obtain rfl : j = 0 := by omega
       obtain rfl : u15 = .int .i64 (-1) := by rw [hxj]; rfl
       clear hxj
       obtain ⟨wr3, rfl⟩ : ∃ W, W = wr := ⟨_, rfl⟩
       have HTE := Lib.hid (show TA tb wr3 (putsT ((prC zs).drop zs.length)) C by rw [List.drop_eq_nil_of_le (by rw [prC_len]; exact Nat.le_refl _)]; exact HTA.out)
       have HLE := Lib.hid HL.out
       have HKE := Lib.hid HKX.out
       obtain ⟨CE, hCE⟩ : ∃ D, D = C := ⟨_, rfl⟩
       rw [← hCE] at HTE HLE
       clear hCE HTA HL HKX HCL HCZ HTB HNA
       have hz20i : (zs.length : Int) ≤ 20 := by have := HZ20.out; omega
       go_wp2_with fail
       go_loopw [16] (fun x wr => ∃ (j : Nat) (C : List Value), j ≤ zs.length ∧ x = .int .i64 ((j : Int) - 1) ∧ TA tb wr (putsT ((prC zs).drop j)) C ∧ Lies wr tb 33 C.toArray ∧ KX tb W3 wr) (fun x _ => (intOf x + 1).toNat)
       case atStart => exact ⟨zs.length, CE, Nat.le_refl _, by first | rfl | go_num, HTE.out, HLE.out, HKE.out⟩
       case round =>
        obtain ⟨j, C, hj, hxj, hta, hlies, hkx⟩ := hrel
        have HTA := Lib.hid hta
        have HL := Lib.hid hlies
        have HKX := Lib.hid hkx
        have HCL := Lib.hid hta.len
        have HCZ := Lib.hid (show (Tryz.prog.info? 33).map (·.size) = some C.length by rw [szTerm, hta.len])
        have HTB := Lib.hid (show tb < wr.heap.size by have := HZ3.out; have := hkx.size; omega)
        have HNA := Lib.hid (show Lies wr nb 9 #[.string ⟨#[97]⟩, .string ⟨#[98]⟩, .string ⟨#[99]⟩] from (hkx.block nb (by have := HNB3.out; have := HZ3.out; omega) (by have := HNB3.out; omega)).trans HN3.out)
        clear hta hlies hkx
        by_cases hj0 : 0 < j
        ·obtain ⟨i, rfl⟩ : ∃ i, j = i + 1 := ⟨j - 1, by omega⟩
         obtain rfl : u16 = .int .i64 (i : Int) := by rw [hxj]; congr 1; omega
         have hii : (0 : Int) ≤ (i : Int) := by omega
         have hil : i < zs.length := by omega
         have hili : (i : Int) < (zs.length : Int) := by omega
         have hi20 : i < 20 := by have := HZ20.out; omega
         clear hxj
         obtain ⟨y, hy⟩ : ∃ y, zs[i]? = some y := ⟨_, List.getElem?_eq_getElem hil⟩
         obtain ⟨A', c', e, hcc, hcells⟩ := HIN.out.later (HKX.out.all HB53.out (by have := HTBW.out; omega))
         injection e with e1 e2 e3
         subst e1 e3
         clear e2
         obtain ⟨g, o, rfl, hcell⟩ := hcells (by omega)
         have yc := hcell i y hy
         have hic : i < c11 := by omega
         obtain ⟨k, hk⟩ : ∃ k, k = ixK y := ⟨_, rfl⟩
         have hk3 : k < 3 := by rw [hk]; exact ixK_lt y
         have hk3i : (k : Int) < 3 := by omega
         have htm : (bits .and .i64 y 65535).tmod 3 = ((k : Nat) : Int) := by rw [hk]; exact ixK_tmod y
         have HPD := Lib.hid (puts_drop (L := prC zs) (q := i) (x := (k, y)) (by unfold prC; rw [List.getElem?_map, hy, hk]; rfl))
         have hn := names_cell HNA.out hk3
         clear hk hcell hcells hy
         go_wp2_with fail
         refine (variable_ta tb _ (nmK k)).mono ?_
         rintro e w4 ⟨lv, rfl, htv, hb4⟩
         obtain ⟨vb, hvb⟩ : ∃ b, b = w4.heap.size := ⟨_, rfl⟩
         obtain ⟨wd, hwd, hbwd, hzwd, lwd⟩ := keep_term w4 lv.toArray
         have HRSV := Lib.hid (show (Tryz.prog.info? 33).map (·.size) = some lv.toArray.size by rw [szTerm]; simp [htv.len])
         have HROV := Lib.hid (show lv.toArray.all (·.oneCell') = true from htv.one)
         have HRZV := Lib.hid (show zC.size = lv.toArray.size by simp [htv.len, zC])
         have LZV := Lib.hid (Lies.new w4 33 zC)
         have HWD := Lib.hid hwd
         have HVB' := Lib.hid hvb
         have HBD := Lib.hid (show Below wr.heap.size wr wd from hb4.trans (hbwd.mono hb4.size))
         have HTV := Lib.hid (show TA tb wd (varT (nmK k)) lv from htv.later hbwd)
         have HTAD := Lib.hid (HTA.out.later HBD.out)
         have HTBD := Lib.hid (show tb < wd.heap.size by have := HTB.out; have := HBD.out.size; omega)
         have HVZ := Lib.hid (show (Tryz.prog.info? 33).map (·.size) = some lv.length by rw [szTerm, htv.len])
         have HSS := Lib.hid (show ∀ V : World, Below wd.heap.size wd V → (Lies V tb 33 C.toArray ∧ Lies V vb 33 lv.toArray ∧ V.cell? ⟨g, o + i, none⟩ = some (.int .i64 y)) from fun V hV => by
          have hl : Lies wd tb 33 C.toArray := (HBD.out.block _ HTB.out).trans HL.out
          have hv : Lies wd vb 33 lv.toArray := by rw [hvb]; exact lwd
          have hc : wd.cell? ⟨g, o + i, none⟩ = some (.int .i64 y) := (HBD.out.cell (p := ⟨g, o + i, none⟩) (World.block_lt_of_cell? _ _ yc)).trans yc
          exact ⟨(hV.block _ hl.lt).trans hl, (hV.block _ hv.lt).trans hv, (hV.cell (p := ⟨g, o + i, none⟩) (World.block_lt_of_cell? _ _ hc)).trans hc⟩)
         clear htv hb4 hwd hbwd hzwd lwd hvb yc hn
         unfold zC at HRZV LZV HWD
         go_upto_region 28 with (first | (refine wpList_store_rowTo rfl 33 (.tmp 17) (.tmp 116) rfl rfl w4.heap.size lv.toArray rfl rfl 33 _ ?_ HRSV.out HRZV.out HROV.out ?_; exact LZV.out; rw [← HWD.out, ← HVB'.out]))
         refine TillLast.start (S := fun VV => Lies VV tb 33 C.toArray ∧ Lies VV vb 33 lv.toArray ∧ VV.cell? ⟨g, o + i, none⟩ = some (.int .i64 y)) (z := 16) (by kernel_rfl) ?_
         have hS : Lies wd.drew tb 33 C.toArray ∧ Lies wd.drew vb 33 lv.toArray ∧ wd.drew.cell? ⟨g, o + i, none⟩ = some (.int .i64 y) := HSS.out _ (Below.refl _ _).drew
         have hbd : Below wd.heap.size wd wd.drew := (Below.refl _ _).drew
         generalize wd.drew = V0 at hS hbd ⊢
         have HBV0 := Lib.hid hbd
         clear hbd
         refine TillLast.take (i := 0) (oi := ⟨some 117, _, _, _, _, _⟩) (v := .agg lv.toArray) rfl (by kernel_rfl) (by kernel_rfl) (by kernel_rfl) (by kernel_rfl) (by decide) (by kernel_rfl) (fun _ _ _ h => h) (yieldsIf_load_mid (by rfl) 33 (.tmp 17) rfl vb 0 rfl lv _ (fun w' hS' => Lies.range hS'.2.1) Tryz.underlying33 rfl HVZ.out) hS ?_
         try simp only [Act.put, List.setIfInBounds_toArray, List.set_cons_zero, List.set_cons_succ]
         refine TillLast.take (i := 1) (oi := ⟨some 118, _, _, _, _, _⟩) (v := ?_) rfl (by kernel_rfl) (by kernel_rfl) (by kernel_rfl) (by kernel_rfl) (by decide) (by kernel_rfl) (fun _ _ _ h => h) (Or.inl ⟨by kernel_rfl, ?_⟩) hS ?_
         rotate_left
         ·(intro w' hSw; (try dsimp only at hSw); go_split_ands; go_simp; first | done | with_reducible rfl)
         try simp only [Act.put, List.setIfInBounds_toArray, List.set_cons_zero, List.set_cons_succ]
         refine TillLast.take (i := 2) (oi := ⟨some 119, _, _, _, _, _⟩) (v := ?_) rfl (by kernel_rfl) (by kernel_rfl) (by kernel_rfl) (by kernel_rfl) (by decide) (by kernel_rfl) (fun _ _ _ h => h) (Or.inl ⟨by kernel_rfl, ?_⟩) hS ?_
         rotate_left
         ·(intro w' hSw; (try dsimp only at hSw); go_split_ands; go_simp; first | done | with_reducible rfl)
         try simp only [Act.put, List.setIfInBounds_toArray, List.set_cons_zero, List.set_cons_succ]
         refine TillLast.take (i := 3) (oi := ⟨some 120, _, _, _, _, _⟩) (v := ?_) rfl (by kernel_rfl) (by kernel_rfl) (by kernel_rfl) (by kernel_rfl) (by decide) (by kernel_rfl) (fun _ _ _ h => h) (Or.inl ⟨by kernel_rfl, ?_⟩) hS ?_
         rotate_left
         ·(intro w' hSw; (try dsimp only at hSw); go_split_ands; go_simp; first | done | with_reducible rfl)
         try simp only [Act.put, List.setIfInBounds_toArray, List.set_cons_zero, List.set_cons_succ]
         refine TillLast.take (i := 4) (oi := ⟨some 121, _, _, _, _, _⟩) (v := ?_) rfl (by kernel_rfl) (by kernel_rfl) (by kernel_rfl) (by kernel_rfl) (by decide) (by kernel_rfl) (fun _ _ _ h => h) (Or.inl ⟨by kernel_rfl, ?_⟩) hS ?_
         rotate_left
         ·(intro w' hSw; (try dsimp only at hSw); go_split_ands; go_simp; first | done | with_reducible rfl)
         try simp only [Act.put, List.setIfInBounds_toArray, List.set_cons_zero, List.set_cons_succ]
         refine TillLast.take (i := 8) (oi := ⟨some 125, _, _, _, _, _⟩) (v := .agg lv.toArray) rfl (by kernel_rfl) (by kernel_rfl) (by kernel_rfl) (by kernel_rfl) (by decide) (by kernel_rfl) (fun _ _ _ h => h) (yieldsIf_load_mid (by rfl) 33 (.tmp 17) rfl vb 0 rfl lv _ (fun w' hS' => Lies.range hS'.2.1) Tryz.underlying33 rfl HVZ.out) hS ?_
         try simp only [Act.put, List.setIfInBounds_toArray, List.set_cons_zero, List.set_cons_succ]
         refine TillLast.take (i := 13) (oi := ⟨some 130, _, _, _, _, _⟩) (v := .agg C.toArray) rfl (by kernel_rfl) (by kernel_rfl) (by kernel_rfl) (by kernel_rfl) (by decide) (by kernel_rfl) (fun _ _ _ h => h) (yieldsIf_load_mid (by rfl) 33 (.tmp 14) rfl tb 0 rfl C _ (fun w' hS' => Lies.range hS'.1) Tryz.underlying33 rfl HCZ.out) hS ?_
         try simp only [Act.put, List.setIfInBounds_toArray, List.set_cons_zero, List.set_cons_succ]
         refine TillLast.ready (rs := [5, 9]) (by kernel_rfl) (by simp) ?_
         refine NextAll.cons (o := ⟨some 122, _, _, _, _, _⟩) rfl (fun K hK => ?_) (NextAll.cons (o := ⟨some 126, _, _, _, _, _⟩) rfl (fun K hK => ?_) NextAll.nil)
         ·go_simp
          refine (number_ta tb _ y).mono ?_
          rintro e V1 ⟨ln, rfl, htn, hbk⟩
          have HBV1 := Lib.hid (show Below wd.heap.size wd V1 from HBV0.out.trans (hbk.mono HBV0.out.size))
          have HAV1 := Lib.hid hbk
          have HNV1 := Lib.hid htn
          clear htn hbk
          (try dsimp only)
          refine hK.out _ _ (fun _ => HSS.out _ HBV1.out) ?_
          clear hK K
          try simp only [Act.put, List.setIfInBounds_toArray, List.set_cons_zero, List.set_cons_succ]
          refine TillLast.ready (rs := [6, 9]) (by kernel_rfl) (by simp) ?_
          refine NextAll.cons (o := ⟨some 123, _, _, _, _, _⟩) rfl (fun K hK => ?_) (NextAll.cons (o := ⟨some 126, _, _, _, _, _⟩) rfl (fun K hK => ?_) NextAll.nil)
          ·obtain ⟨D1, hD1⟩ : ∃ D : List Value, D = [lv, ln].flatten := ⟨_, rfl⟩
           have HFD1 := Lib.hid (show Instr.fill (fun i => some (i * 21, 21)) ((Array.range (2 * 21)).map ((Value.agg zC).cells[· % (Value.agg zC).cells.size]!)) [(0, Value.agg lv.toArray), (1, Value.agg ln.toArray)] = some D1.toArray by rw [hD1]; exact fill_two lv ln HTV.out.len HNV1.out.len _ (by simp))
           have hkk := kids_two (HTV.out.later HBV1.out) HNV1.out (by have := HTBD.out; have := HBV1.out.size; omega) hD1
           have HBV2' := Lib.hid (show Below wd.heap.size wd (V1.alloc (.cells D1.toArray 33)) from HBV1.out.alloc HBV1.out.size _)
           rw [if_pos (by kernel_rfl)]
           refine wp_buildSlice 24 33 2 _ rfl D1.toArray ie (.agg zC) Tryz.underlying24 hie hiz (by rw [his]; decide) (by rw [his]; decide) (by rw [his, Array.toList_map]; exact HFD1.out) ?_
           obtain ⟨V2, hV2⟩ : ∃ W, W = V1.alloc (.cells D1.toArray 33) := ⟨_, rfl⟩
           obtain ⟨p1, hp⟩ : ∃ p, p = V1.heap.size := ⟨_, rfl⟩
           have HBV2 := Lib.hid (show Below wd.heap.size wd V2 by rw [hV2]; exact HBV2'.out)
           have HAV2 := Lib.hid (show Below V1.heap.size V1 V2 by rw [hV2]; exact below_new _ _)
           rw [← hV2, ← hp] at hkk ⊢
           have HKV2 := Lib.hid hkk
           clear hV2 hp hkk hD1 HBV2'
           refine hK.out _ _ (fun _ => HSS.out _ HBV2.out) ?_
           clear hK K
           try simp only [Act.put, List.setIfInBounds_toArray, List.set_cons_zero, List.set_cons_succ]
           refine TillLast.ready (rs := [7, 9]) (by kernel_rfl) (by simp) ?_
           refine NextAll.cons (o := ⟨some 124, _, _, _, _, _⟩) rfl (fun K hK => ?_) (NextAll.cons (o := ⟨some 126, _, _, _, _, _⟩) rfl (fun K hK => ?_) NextAll.nil)
           ·go_simp
            refine (op_ta tb _ [58, 61] HKV2.out).mono ?_
            rintro e V3 ⟨lo, rfl, htn, hbk⟩
            have HBV3 := Lib.hid (show Below wd.heap.size wd V3 from HBV2.out.trans (hbk.mono HBV2.out.size))
            have HAV3 := Lib.hid hbk
            have HOV3 := Lib.hid htn
            clear htn hbk
            (try dsimp only)
            refine hK.out _ _ (fun _ => HSS.out _ HBV3.out) ?_
            clear hK K
            try simp only [Act.put, List.setIfInBounds_toArray, List.set_cons_zero, List.set_cons_succ]
            refine TillLast.ready (rs := [9]) (by kernel_rfl) (by simp) ?_
            refine NextAll.cons (o := ⟨some 126, _, _, _, _, _⟩) rfl (fun K hK => ?_) NextAll.nil
            obtain ⟨DF, hDF⟩ : ∃ D : List Value, D = [lv].flatten := ⟨_, rfl⟩
            have HFDF := Lib.hid (show Instr.fill (fun i => some (i * 21, 21)) ((Array.range (1 * 21)).map ((Value.agg zC).cells[· % (Value.agg zC).cells.size]!)) [(0, Value.agg lv.toArray)] = some DF.toArray by rw [hDF]; exact fill_one' lv HTV.out.len _ (by simp))
            have hkk := kids_one (HTV.out.later HBV3.out) (by have := HTBD.out; have := HBV3.out.size; omega) hDF
            have HBV4' := Lib.hid (show Below wd.heap.size wd (V3.alloc (.cells DF.toArray 33)) from HBV3.out.alloc HBV3.out.size _)
            rw [if_pos (by kernel_rfl)]
            refine wp_buildSlice 24 33 1 _ rfl DF.toArray ie (.agg zC) Tryz.underlying24 hie hiz (by rw [his]; decide) (by rw [his]; decide) (by rw [his, Array.toList_map]; exact HFDF.out) ?_
            obtain ⟨V4, hV4⟩ : ∃ W, W = V3.alloc (.cells DF.toArray 33) := ⟨_, rfl⟩
            obtain ⟨pf, hp⟩ : ∃ p, p = V3.heap.size := ⟨_, rfl⟩
            have HBV4 := Lib.hid (show Below wd.heap.size wd V4 by rw [hV4]; exact HBV4'.out)
            have HAV4 := Lib.hid (show Below V3.heap.size V3 V4 by rw [hV4]; exact below_new _ _)
            rw [← hV4, ← hp] at hkk ⊢
            have HFV4 := Lib.hid hkk
            clear hV4 hp hkk hDF HBV4'
            have HOV4 := Lib.hid (HOV3.out.later HAV4.out)
            refine hK.out _ _ (fun _ => HSS.out _ HBV4.out) ?_
            clear hK K
            try simp only [Act.put, List.setIfInBounds_toArray, List.set_cons_zero, List.set_cons_succ]
            refine TillLast.ready (rs := [10]) (by kernel_rfl) (by simp) ?_
            refine NextAll.cons (o := ⟨some 127, _, _, _, _, _⟩) rfl (fun K hK => ?_) NextAll.nil
            go_simp
            refine (op_ta tb _ [33] HFV4.out).mono ?_
            rintro e V5 ⟨l2, rfl, htn, hbk⟩
            have HBV5 := Lib.hid (show Below wd.heap.size wd V5 from HBV4.out.trans (hbk.mono HBV4.out.size))
            have HAV5 := Lib.hid hbk
            have HPV5 := Lib.hid htn
            clear htn hbk
            (try dsimp only)
            have HOV5 := Lib.hid (HOV4.out.later HAV5.out)
            refine hK.out _ _ (fun _ => HSS.out _ HBV5.out) ?_
            clear hK K
            try simp only [Act.put, List.setIfInBounds_toArray, List.set_cons_zero, List.set_cons_succ]
            refine TillLast.ready (rs := [11]) (by kernel_rfl) (by simp) ?_
            refine NextAll.cons (o := ⟨some 128, _, _, _, _, _⟩) rfl (fun K hK => ?_) NextAll.nil
            obtain ⟨D3, hD3⟩ : ∃ D : List Value, D = [l2].flatten := ⟨_, rfl⟩
            have HFD3 := Lib.hid (show Instr.fill (fun i => some (i * 21, 21)) ((Array.range (1 * 21)).map ((Value.agg zC).cells[· % (Value.agg zC).cells.size]!)) [(0, Value.agg l2.toArray)] = some D3.toArray by rw [hD3]; exact fill_one' l2 HPV5.out.len _ (by simp))
            have hkk := kids_one HPV5.out (by have := HTBD.out; have := HBV5.out.size; omega) hD3
            have HBV6' := Lib.hid (show Below wd.heap.size wd (V5.alloc (.cells D3.toArray 33)) from HBV5.out.alloc HBV5.out.size _)
            rw [if_pos (by kernel_rfl)]
            refine wp_buildSlice 24 33 1 _ rfl D3.toArray ie (.agg zC) Tryz.underlying24 hie hiz (by rw [his]; decide) (by rw [his]; decide) (by rw [his, Array.toList_map]; exact HFD3.out) ?_
            obtain ⟨V6, hV6⟩ : ∃ W, W = V5.alloc (.cells D3.toArray 33) := ⟨_, rfl⟩
            obtain ⟨p3, hp⟩ : ∃ p, p = V5.heap.size := ⟨_, rfl⟩
            have HBV6 := Lib.hid (show Below wd.heap.size wd V6 by rw [hV6]; exact HBV6'.out)
            have HAV6 := Lib.hid (show Below V5.heap.size V5 V6 by rw [hV6]; exact below_new _ _)
            rw [← hV6, ← hp] at hkk ⊢
            have HQV6 := Lib.hid hkk
            clear hV6 hp hkk hD3 HBV6'
            have HOV6 := Lib.hid (HOV5.out.later HAV6.out)
            refine hK.out _ _ (fun _ => HSS.out _ HBV6.out) ?_
            clear hK K
            try simp only [Act.put, List.setIfInBounds_toArray, List.set_cons_zero, List.set_cons_succ]
            refine TillLast.ready (rs := [12]) (by kernel_rfl) (by simp) ?_
            refine NextAll.cons (o := ⟨some 129, _, _, _, _, _⟩) rfl (fun K hK => ?_) NextAll.nil
            go_simp
            refine (op_ta tb _ [112, 114, 105, 110, 116] HQV6.out).mono ?_
            rintro e V7 ⟨l3, rfl, htn, hbk⟩
            have HBV7 := Lib.hid (show Below wd.heap.size wd V7 from HBV6.out.trans (hbk.mono HBV6.out.size))
            have HAV7 := Lib.hid hbk
            have HRV7 := Lib.hid htn
            clear htn hbk
            (try dsimp only)
            have HOV7 := Lib.hid (HOV6.out.later HAV7.out)
            refine hK.out _ _ (fun _ => HSS.out _ HBV7.out) ?_
            clear hK K
            try simp only [Act.put, List.setIfInBounds_toArray, List.set_cons_zero, List.set_cons_succ]
            refine TillLast.ready (rs := [14]) (by kernel_rfl) (by simp) ?_
            refine NextAll.cons (o := ⟨some 131, _, _, _, _, _⟩) rfl (fun K hK => ?_) NextAll.nil
            go_simp
            refine (let_ta tb _ (by have := HTBD.out; have := HBV7.out.size; omega) [95] HRV7.out (HTAD.out.later HBV7.out)).mono ?_
            rintro e V8 ⟨l4, rfl, htn, hbk⟩
            have HBV8 := Lib.hid (show Below wd.heap.size wd V8 from HBV7.out.trans (hbk.mono HBV7.out.size))
            have HAV8 := Lib.hid hbk
            have HPV8 := Lib.hid htn
            clear htn hbk
            (try dsimp only)
            have HOV8 := Lib.hid (HOV7.out.later HAV8.out)
            refine hK.out _ _ (fun _ => HSS.out _ HBV8.out) ?_
            clear hK K
            try simp only [Act.put, List.setIfInBounds_toArray, List.set_cons_zero, List.set_cons_succ]
            refine TillLast.ready (rs := [15]) (by kernel_rfl) (by simp) ?_
            refine NextAll.cons (o := ⟨some 132, _, _, _, _, _⟩) rfl (fun K hK => ?_) NextAll.nil
            go_simp
            refine (let_ta tb _ (by have := HTBD.out; have := HBV8.out.size; omega) [95] HOV8.out HPV8.out).mono ?_
            rintro e V9 ⟨l5, rfl, htn, hbk⟩
            have HBV9 := Lib.hid (show Below wd.heap.size wd V9 from HBV8.out.trans (hbk.mono HBV8.out.size))
            have HAV9 := Lib.hid hbk
            have HRV9 := Lib.hid htn
            have HNO := Lib.hid htn.one
            have HNZ := Lib.hid (show C.toArray.size = l5.toArray.size by simp [HCL.out, htn.len])
            have HNS := Lib.hid (show (Tryz.prog.info? 33).map (·.size) = some l5.toArray.size by rw [szTerm]; simp [htn.len])
            clear htn hbk
            (try dsimp only)
            refine hK.out _ _ (fun _ => HSS.out _ HBV9.out) ?_
            clear hK K
            try simp only [Act.put, List.setIfInBounds_toArray, List.set_cons_zero, List.set_cons_succ]
            refine TillLast.ready (rs := [16]) (by kernel_rfl) (by simp) ?_
            refine NextAll.cons (o := ⟨none, _, _, _, _, _⟩) rfl (fun K hK => ?_) NextAll.nil
            rw [if_pos (by kernel_rfl)]
            refine wp_store_row 33 (.tmp 14) (.tmp 132) rfl tb l5.toArray rfl rfl 33 C.toArray (HSS.out _ HBV9.out).1 HNS.out HNZ.out HNO.out ?_
            refine hK.out _ _ (fun h => absurd (h.symm.trans (by kernel_rfl : _ = true)) (by decide)) ?_
            clear hK K
            try simp only [Act.put, List.setIfInBounds_toArray, List.set_cons_zero, List.set_cons_succ]
            refine TillLast.done (by kernel_rfl) ?_ _
            have HTN := Lib.hid (show TA tb (V9.setRow tb l5.toArray) (putsT ((prC zs).drop i)) l5 by rw [HPD.out]; exact HRV9.out.set _)
            have HLN := Lib.hid (show Lies (V9.setRow tb l5.toArray) tb 33 l5.toArray from lies_setRow' (HSS.out _ HBV9.out).1 _)
            have HKN := Lib.hid ((HKX.out.below (HBD.out.trans (HBV9.out.mono HBD.out.size))).set l5.toArray)
            go_wp2_with fail
            go_roundw
            case rel => exact ⟨i, l5, by omega, by go_num, HTN.out, HLN.out, HKN.out⟩
            case measure => (simp [intOf] <;> omega)
           ·obtain ⟨DF, hDF⟩ : ∃ D : List Value, D = [lv].flatten := ⟨_, rfl⟩
            have HFDF := Lib.hid (show Instr.fill (fun i => some (i * 21, 21)) ((Array.range (1 * 21)).map ((Value.agg zC).cells[· % (Value.agg zC).cells.size]!)) [(0, Value.agg lv.toArray)] = some DF.toArray by rw [hDF]; exact fill_one' lv HTV.out.len _ (by simp))
            have hkk := kids_one (HTV.out.later HBV2.out) (by have := HTBD.out; have := HBV2.out.size; omega) hDF
            have HBV3' := Lib.hid (show Below wd.heap.size wd (V2.alloc (.cells DF.toArray 33)) from HBV2.out.alloc HBV2.out.size _)
            rw [if_pos (by kernel_rfl)]
            refine wp_buildSlice 24 33 1 _ rfl DF.toArray ie (.agg zC) Tryz.underlying24 hie hiz (by rw [his]; decide) (by rw [his]; decide) (by rw [his, Array.toList_map]; exact HFDF.out) ?_
            obtain ⟨V3, hV3⟩ : ∃ W, W = V2.alloc (.cells DF.toArray 33) := ⟨_, rfl⟩
            obtain ⟨pf, hp⟩ : ∃ p, p = V2.heap.size := ⟨_, rfl⟩
            have HBV3 := Lib.hid (show Below wd.heap.size wd V3 by rw [hV3]; exact HBV3'.out)
            have HAV3 := Lib.hid (show Below V2.heap.size V2 V3 by rw [hV3]; exact below_new _ _)
            rw [← hV3, ← hp] at hkk ⊢
            have HFV3 := Lib.hid hkk
            clear hV3 hp hkk hDF HBV3'
            have HKV3 := Lib.hid (HKV2.out.le (memX_le HAV3.out))
            refine hK.out _ _ (fun _ => HSS.out _ HBV3.out) ?_
            clear hK K
            try simp only [Act.put, List.setIfInBounds_toArray, List.set_cons_zero, List.set_cons_succ]
            refine TillLast.ready (rs := [7]) (by kernel_rfl) (by simp) ?_
            refine NextAll.cons (o := ⟨some 124, _, _, _, _, _⟩) rfl (fun K hK => ?_) NextAll.nil
            go_simp
            refine (op_ta tb _ [58, 61] HKV3.out).mono ?_
            rintro e V4 ⟨lo, rfl, htn, hbk⟩
            have HBV4 := Lib.hid (show Below wd.heap.size wd V4 from HBV3.out.trans (hbk.mono HBV3.out.size))
            have HAV4 := Lib.hid hbk
            have HOV4 := Lib.hid htn
            clear htn hbk
            (try dsimp only)
            have HFV4 := Lib.hid (HFV3.out.le (memX_le HAV4.out))
            refine hK.out _ _ (fun _ => HSS.out _ HBV4.out) ?_
            clear hK K
            try simp only [Act.put, List.setIfInBounds_toArray, List.set_cons_zero, List.set_cons_succ]
            refine TillLast.ready (rs := [10]) (by kernel_rfl) (by simp) ?_
            refine NextAll.cons (o := ⟨some 127, _, _, _, _, _⟩) rfl (fun K hK => ?_) NextAll.nil
            go_simp
            refine (op_ta tb _ [33] HFV4.out).mono ?_
            rintro e V5 ⟨l2, rfl, htn, hbk⟩
            have HBV5 := Lib.hid (show Below wd.heap.size wd V5 from HBV4.out.trans (hbk.mono HBV4.out.size))
            have HAV5 := Lib.hid hbk
            have HPV5 := Lib.hid htn
            clear htn hbk
            (try dsimp only)
            have HOV5 := Lib.hid (HOV4.out.later HAV5.out)
            refine hK.out _ _ (fun _ => HSS.out _ HBV5.out) ?_
            clear hK K
            try simp only [Act.put, List.setIfInBounds_toArray, List.set_cons_zero, List.set_cons_succ]
            refine TillLast.ready (rs := [11]) (by kernel_rfl) (by simp) ?_
            refine NextAll.cons (o := ⟨some 128, _, _, _, _, _⟩) rfl (fun K hK => ?_) NextAll.nil
            obtain ⟨D3, hD3⟩ : ∃ D : List Value, D = [l2].flatten := ⟨_, rfl⟩
            have HFD3 := Lib.hid (show Instr.fill (fun i => some (i * 21, 21)) ((Array.range (1 * 21)).map ((Value.agg zC).cells[· % (Value.agg zC).cells.size]!)) [(0, Value.agg l2.toArray)] = some D3.toArray by rw [hD3]; exact fill_one' l2 HPV5.out.len _ (by simp))
            have hkk := kids_one HPV5.out (by have := HTBD.out; have := HBV5.out.size; omega) hD3
            have HBV6' := Lib.hid (show Below wd.heap.size wd (V5.alloc (.cells D3.toArray 33)) from HBV5.out.alloc HBV5.out.size _)
            rw [if_pos (by kernel_rfl)]
            refine wp_buildSlice 24 33 1 _ rfl D3.toArray ie (.agg zC) Tryz.underlying24 hie hiz (by rw [his]; decide) (by rw [his]; decide) (by rw [his, Array.toList_map]; exact HFD3.out) ?_
            obtain ⟨V6, hV6⟩ : ∃ W, W = V5.alloc (.cells D3.toArray 33) := ⟨_, rfl⟩
            obtain ⟨p3, hp⟩ : ∃ p, p = V5.heap.size := ⟨_, rfl⟩
            have HBV6 := Lib.hid (show Below wd.heap.size wd V6 by rw [hV6]; exact HBV6'.out)
            have HAV6 := Lib.hid (show Below V5.heap.size V5 V6 by rw [hV6]; exact below_new _ _)
            rw [← hV6, ← hp] at hkk ⊢
            have HQV6 := Lib.hid hkk
            clear hV6 hp hkk hD3 HBV6'
            have HOV6 := Lib.hid (HOV5.out.later HAV6.out)
            refine hK.out _ _ (fun _ => HSS.out _ HBV6.out) ?_
            clear hK K
            try simp only [Act.put, List.setIfInBounds_toArray, List.set_cons_zero, List.set_cons_succ]
            refine TillLast.ready (rs := [12]) (by kernel_rfl) (by simp) ?_
            refine NextAll.cons (o := ⟨some 129, _, _, _, _, _⟩) rfl (fun K hK => ?_) NextAll.nil
            go_simp
            refine (op_ta tb _ [112, 114, 105, 110, 116] HQV6.out).mono ?_
            rintro e V7 ⟨l3, rfl, htn, hbk⟩
            have HBV7 := Lib.hid (show Below wd.heap.size wd V7 from HBV6.out.trans (hbk.mono HBV6.out.size))
            have HAV7 := Lib.hid hbk
            have HRV7 := Lib.hid htn
            clear htn hbk
            (try dsimp only)
            have HOV7 := Lib.hid (HOV6.out.later HAV7.out)
            refine hK.out _ _ (fun _ => HSS.out _ HBV7.out) ?_
            clear hK K
            try simp only [Act.put, List.setIfInBounds_toArray, List.set_cons_zero, List.set_cons_succ]
            refine TillLast.ready (rs := [14]) (by kernel_rfl) (by simp) ?_
            refine NextAll.cons (o := ⟨some 131, _, _, _, _, _⟩) rfl (fun K hK => ?_) NextAll.nil
            go_simp
            refine (let_ta tb _ (by have := HTBD.out; have := HBV7.out.size; omega) [95] HRV7.out (HTAD.out.later HBV7.out)).mono ?_
            rintro e V8 ⟨l4, rfl, htn, hbk⟩
            have HBV8 := Lib.hid (show Below wd.heap.size wd V8 from HBV7.out.trans (hbk.mono HBV7.out.size))
            have HAV8 := Lib.hid hbk
            have HPV8 := Lib.hid htn
            clear htn hbk
            (try dsimp only)
            have HOV8 := Lib.hid (HOV7.out.later HAV8.out)
            refine hK.out _ _ (fun _ => HSS.out _ HBV8.out) ?_
            clear hK K
            try simp only [Act.put, List.setIfInBounds_toArray, List.set_cons_zero, List.set_cons_succ]
            refine TillLast.ready (rs := [15]) (by kernel_rfl) (by simp) ?_
            refine NextAll.cons (o := ⟨some 132, _, _, _, _, _⟩) rfl (fun K hK => ?_) NextAll.nil
            go_simp
            refine (let_ta tb _ (by have := HTBD.out; have := HBV8.out.size; omega) [95] HOV8.out HPV8.out).mono ?_
            rintro e V9 ⟨l5, rfl, htn, hbk⟩
            have HBV9 := Lib.hid (show Below wd.heap.size wd V9 from HBV8.out.trans (hbk.mono HBV8.out.size))
            have HAV9 := Lib.hid hbk
            have HRV9 := Lib.hid htn
            have HNO := Lib.hid htn.one
            have HNZ := Lib.hid (show C.toArray.size = l5.toArray.size by simp [HCL.out, htn.len])
            have HNS := Lib.hid (show (Tryz.prog.info? 33).map (·.size) = some l5.toArray.size by rw [szTerm]; simp [htn.len])
            clear htn hbk
            (try dsimp only)
            refine hK.out _ _ (fun _ => HSS.out _ HBV9.out) ?_
            clear hK K
            try simp only [Act.put, List.setIfInBounds_toArray, List.set_cons_zero, List.set_cons_succ]
            refine TillLast.ready (rs := [16]) (by kernel_rfl) (by simp) ?_
            refine NextAll.cons (o := ⟨none, _, _, _, _, _⟩) rfl (fun K hK => ?_) NextAll.nil
            rw [if_pos (by kernel_rfl)]
            refine wp_store_row 33 (.tmp 14) (.tmp 132) rfl tb l5.toArray rfl rfl 33 C.toArray (HSS.out _ HBV9.out).1 HNS.out HNZ.out HNO.out ?_
            refine hK.out _ _ (fun h => absurd (h.symm.trans (by kernel_rfl : _ = true)) (by decide)) ?_
            clear hK K
            try simp only [Act.put, List.setIfInBounds_toArray, List.set_cons_zero, List.set_cons_succ]
            refine TillLast.done (by kernel_rfl) ?_ _
            have HTN := Lib.hid (show TA tb (V9.setRow tb l5.toArray) (putsT ((prC zs).drop i)) l5 by rw [HPD.out]; exact HRV9.out.set _)
            have HLN := Lib.hid (show Lies (V9.setRow tb l5.toArray) tb 33 l5.toArray from lies_setRow' (HSS.out _ HBV9.out).1 _)
            have HKN := Lib.hid ((HKX.out.below (HBD.out.trans (HBV9.out.mono HBD.out.size))).set l5.toArray)
            go_wp2_with fail
            go_roundw
            case rel => exact ⟨i, l5, by omega, by go_num, HTN.out, HLN.out, HKN.out⟩
            case measure => (simp [intOf] <;> omega)
          ·obtain ⟨DF, hDF⟩ : ∃ D : List Value, D = [lv].flatten := ⟨_, rfl⟩
           have HFDF := Lib.hid (show Instr.fill (fun i => some (i * 21, 21)) ((Array.range (1 * 21)).map ((Value.agg zC).cells[· % (Value.agg zC).cells.size]!)) [(0, Value.agg lv.toArray)] = some DF.toArray by rw [hDF]; exact fill_one' lv HTV.out.len _ (by simp))
           have hkk := kids_one (HTV.out.later HBV1.out) (by have := HTBD.out; have := HBV1.out.size; omega) hDF
           have HBV2' := Lib.hid (show Below wd.heap.size wd (V1.alloc (.cells DF.toArray 33)) from HBV1.out.alloc HBV1.out.size _)
           rw [if_pos (by kernel_rfl)]
           refine wp_buildSlice 24 33 1 _ rfl DF.toArray ie (.agg zC) Tryz.underlying24 hie hiz (by rw [his]; decide) (by rw [his]; decide) (by rw [his, Array.toList_map]; exact HFDF.out) ?_
           obtain ⟨V2, hV2⟩ : ∃ W, W = V1.alloc (.cells DF.toArray 33) := ⟨_, rfl⟩
           obtain ⟨pf, hp⟩ : ∃ p, p = V1.heap.size := ⟨_, rfl⟩
           have HBV2 := Lib.hid (show Below wd.heap.size wd V2 by rw [hV2]; exact HBV2'.out)
           have HAV2 := Lib.hid (show Below V1.heap.size V1 V2 by rw [hV2]; exact below_new _ _)
           rw [← hV2, ← hp] at hkk ⊢
           have HFV2 := Lib.hid hkk
           clear hV2 hp hkk hDF HBV2'
           have HNV2 := Lib.hid (HNV1.out.later HAV2.out)
           refine hK.out _ _ (fun _ => HSS.out _ HBV2.out) ?_
           clear hK K
           try simp only [Act.put, List.setIfInBounds_toArray, List.set_cons_zero, List.set_cons_succ]
           refine TillLast.ready (rs := [6]) (by kernel_rfl) (by simp) ?_
           refine NextAll.cons (o := ⟨some 123, _, _, _, _, _⟩) rfl (fun K hK => ?_) NextAll.nil
           obtain ⟨D1, hD1⟩ : ∃ D : List Value, D = [lv, ln].flatten := ⟨_, rfl⟩
           have HFD1 := Lib.hid (show Instr.fill (fun i => some (i * 21, 21)) ((Array.range (2 * 21)).map ((Value.agg zC).cells[· % (Value.agg zC).cells.size]!)) [(0, Value.agg lv.toArray), (1, Value.agg ln.toArray)] = some D1.toArray by rw [hD1]; exact fill_two lv ln HTV.out.len HNV2.out.len _ (by simp))
           have hkk := kids_two (HTV.out.later HBV2.out) HNV2.out (by have := HTBD.out; have := HBV2.out.size; omega) hD1
           have HBV3' := Lib.hid (show Below wd.heap.size wd (V2.alloc (.cells D1.toArray 33)) from HBV2.out.alloc HBV2.out.size _)
           rw [if_pos (by kernel_rfl)]
           refine wp_buildSlice 24 33 2 _ rfl D1.toArray ie (.agg zC) Tryz.underlying24 hie hiz (by rw [his]; decide) (by rw [his]; decide) (by rw [his, Array.toList_map]; exact HFD1.out) ?_
           obtain ⟨V3, hV3⟩ : ∃ W, W = V2.alloc (.cells D1.toArray 33) := ⟨_, rfl⟩
           obtain ⟨p1, hp⟩ : ∃ p, p = V2.heap.size := ⟨_, rfl⟩
           have HBV3 := Lib.hid (show Below wd.heap.size wd V3 by rw [hV3]; exact HBV3'.out)
           have HAV3 := Lib.hid (show Below V2.heap.size V2 V3 by rw [hV3]; exact below_new _ _)
           rw [← hV3, ← hp] at hkk ⊢
           have HKV3 := Lib.hid hkk
           clear hV3 hp hkk hD1 HBV3'
           have HFV3 := Lib.hid (HFV2.out.le (memX_le HAV3.out))
           refine hK.out _ _ (fun _ => HSS.out _ HBV3.out) ?_
           clear hK K
           try simp only [Act.put, List.setIfInBounds_toArray, List.set_cons_zero, List.set_cons_succ]
           refine TillLast.ready (rs := [7]) (by kernel_rfl) (by simp) ?_
           refine NextAll.cons (o := ⟨some 124, _, _, _, _, _⟩) rfl (fun K hK => ?_) NextAll.nil
           go_simp
           refine (op_ta tb _ [58, 61] HKV3.out).mono ?_
           rintro e V4 ⟨lo, rfl, htn, hbk⟩
           have HBV4 := Lib.hid (show Below wd.heap.size wd V4 from HBV3.out.trans (hbk.mono HBV3.out.size))
           have HAV4 := Lib.hid hbk
           have HOV4 := Lib.hid htn
           clear htn hbk
           (try dsimp only)
           have HFV4 := Lib.hid (HFV3.out.le (memX_le HAV4.out))
           refine hK.out _ _ (fun _ => HSS.out _ HBV4.out) ?_
           clear hK K
           try simp only [Act.put, List.setIfInBounds_toArray, List.set_cons_zero, List.set_cons_succ]
           refine TillLast.ready (rs := [10]) (by kernel_rfl) (by simp) ?_
           refine NextAll.cons (o := ⟨some 127, _, _, _, _, _⟩) rfl (fun K hK => ?_) NextAll.nil
           go_simp
           refine (op_ta tb _ [33] HFV4.out).mono ?_
           rintro e V5 ⟨l2, rfl, htn, hbk⟩
           have HBV5 := Lib.hid (show Below wd.heap.size wd V5 from HBV4.out.trans (hbk.mono HBV4.out.size))
           have HAV5 := Lib.hid hbk
           have HPV5 := Lib.hid htn
           clear htn hbk
           (try dsimp only)
           have HOV5 := Lib.hid (HOV4.out.later HAV5.out)
           refine hK.out _ _ (fun _ => HSS.out _ HBV5.out) ?_
           clear hK K
           try simp only [Act.put, List.setIfInBounds_toArray, List.set_cons_zero, List.set_cons_succ]
           refine TillLast.ready (rs := [11]) (by kernel_rfl) (by simp) ?_
           refine NextAll.cons (o := ⟨some 128, _, _, _, _, _⟩) rfl (fun K hK => ?_) NextAll.nil
           obtain ⟨D3, hD3⟩ : ∃ D : List Value, D = [l2].flatten := ⟨_, rfl⟩
           have HFD3 := Lib.hid (show Instr.fill (fun i => some (i * 21, 21)) ((Array.range (1 * 21)).map ((Value.agg zC).cells[· % (Value.agg zC).cells.size]!)) [(0, Value.agg l2.toArray)] = some D3.toArray by rw [hD3]; exact fill_one' l2 HPV5.out.len _ (by simp))
           have hkk := kids_one HPV5.out (by have := HTBD.out; have := HBV5.out.size; omega) hD3
           have HBV6' := Lib.hid (show Below wd.heap.size wd (V5.alloc (.cells D3.toArray 33)) from HBV5.out.alloc HBV5.out.size _)
           rw [if_pos (by kernel_rfl)]
           refine wp_buildSlice 24 33 1 _ rfl D3.toArray ie (.agg zC) Tryz.underlying24 hie hiz (by rw [his]; decide) (by rw [his]; decide) (by rw [his, Array.toList_map]; exact HFD3.out) ?_
           obtain ⟨V6, hV6⟩ : ∃ W, W = V5.alloc (.cells D3.toArray 33) := ⟨_, rfl⟩
           obtain ⟨p3, hp⟩ : ∃ p, p = V5.heap.size := ⟨_, rfl⟩
           have HBV6 := Lib.hid (show Below wd.heap.size wd V6 by rw [hV6]; exact HBV6'.out)
           have HAV6 := Lib.hid (show Below V5.heap.size V5 V6 by rw [hV6]; exact below_new _ _)
           rw [← hV6, ← hp] at hkk ⊢
           have HQV6 := Lib.hid hkk
           clear hV6 hp hkk hD3 HBV6'
           have HOV6 := Lib.hid (HOV5.out.later HAV6.out)
           refine hK.out _ _ (fun _ => HSS.out _ HBV6.out) ?_
           clear hK K
           try simp only [Act.put, List.setIfInBounds_toArray, List.set_cons_zero, List.set_cons_succ]
           refine TillLast.ready (rs := [12]) (by kernel_rfl) (by simp) ?_
           refine NextAll.cons (o := ⟨some 129, _, _, _, _, _⟩) rfl (fun K hK => ?_) NextAll.nil
           go_simp
           refine (op_ta tb _ [112, 114, 105, 110, 116] HQV6.out).mono ?_
           rintro e V7 ⟨l3, rfl, htn, hbk⟩
           have HBV7 := Lib.hid (show Below wd.heap.size wd V7 from HBV6.out.trans (hbk.mono HBV6.out.size))
           have HAV7 := Lib.hid hbk
           have HRV7 := Lib.hid htn
           clear htn hbk
           (try dsimp only)
           have HOV7 := Lib.hid (HOV6.out.later HAV7.out)
           refine hK.out _ _ (fun _ => HSS.out _ HBV7.out) ?_
           clear hK K
           try simp only [Act.put, List.setIfInBounds_toArray, List.set_cons_zero, List.set_cons_succ]
           refine TillLast.ready (rs := [14]) (by kernel_rfl) (by simp) ?_
           refine NextAll.cons (o := ⟨some 131, _, _, _, _, _⟩) rfl (fun K hK => ?_) NextAll.nil
           go_simp
           refine (let_ta tb _ (by have := HTBD.out; have := HBV7.out.size; omega) [95] HRV7.out (HTAD.out.later HBV7.out)).mono ?_
           rintro e V8 ⟨l4, rfl, htn, hbk⟩
           have HBV8 := Lib.hid (show Below wd.heap.size wd V8 from HBV7.out.trans (hbk.mono HBV7.out.size))
           have HAV8 := Lib.hid hbk
           have HPV8 := Lib.hid htn
           clear htn hbk
           (try dsimp only)
           have HOV8 := Lib.hid (HOV7.out.later HAV8.out)
           refine hK.out _ _ (fun _ => HSS.out _ HBV8.out) ?_
           clear hK K
           try simp only [Act.put, List.setIfInBounds_toArray, List.set_cons_zero, List.set_cons_succ]
           refine TillLast.ready (rs := [15]) (by kernel_rfl) (by simp) ?_
           refine NextAll.cons (o := ⟨some 132, _, _, _, _, _⟩) rfl (fun K hK => ?_) NextAll.nil
           go_simp
           refine (let_ta tb _ (by have := HTBD.out; have := HBV8.out.size; omega) [95] HOV8.out HPV8.out).mono ?_
           rintro e V9 ⟨l5, rfl, htn, hbk⟩
           have HBV9 := Lib.hid (show Below wd.heap.size wd V9 from HBV8.out.trans (hbk.mono HBV8.out.size))
           have HAV9 := Lib.hid hbk
           have HRV9 := Lib.hid htn
           have HNO := Lib.hid htn.one
           have HNZ := Lib.hid (show C.toArray.size = l5.toArray.size by simp [HCL.out, htn.len])
           have HNS := Lib.hid (show (Tryz.prog.info? 33).map (·.size) = some l5.toArray.size by rw [szTerm]; simp [htn.len])
           clear htn hbk
           (try dsimp only)
           refine hK.out _ _ (fun _ => HSS.out _ HBV9.out) ?_
           clear hK K
           try simp only [Act.put, List.setIfInBounds_toArray, List.set_cons_zero, List.set_cons_succ]
           refine TillLast.ready (rs := [16]) (by kernel_rfl) (by simp) ?_
           refine NextAll.cons (o := ⟨none, _, _, _, _, _⟩) rfl (fun K hK => ?_) NextAll.nil
           rw [if_pos (by kernel_rfl)]
           refine wp_store_row 33 (.tmp 14) (.tmp 132) rfl tb l5.toArray rfl rfl 33 C.toArray (HSS.out _ HBV9.out).1 HNS.out HNZ.out HNO.out ?_
           refine hK.out _ _ (fun h => absurd (h.symm.trans (by kernel_rfl : _ = true)) (by decide)) ?_
           clear hK K
           try simp only [Act.put, List.setIfInBounds_toArray, List.set_cons_zero, List.set_cons_succ]
           refine TillLast.done (by kernel_rfl) ?_ _
           have HTN := Lib.hid (show TA tb (V9.setRow tb l5.toArray) (putsT ((prC zs).drop i)) l5 by rw [HPD.out]; exact HRV9.out.set _)
           have HLN := Lib.hid (show Lies (V9.setRow tb l5.toArray) tb 33 l5.toArray from lies_setRow' (HSS.out _ HBV9.out).1 _)
           have HKN := Lib.hid ((HKX.out.below (HBD.out.trans (HBV9.out.mono HBD.out.size))).set l5.toArray)
           go_wp2_with fail
           go_roundw
           case rel => exact ⟨i, l5, by omega, by go_num, HTN.out, HLN.out, HKN.out⟩
           case measure => (simp [intOf] <;> omega)
         ·obtain ⟨DF, hDF⟩ : ∃ D : List Value, D = [lv].flatten := ⟨_, rfl⟩
          have HFDF := Lib.hid (show Instr.fill (fun i => some (i * 21, 21)) ((Array.range (1 * 21)).map ((Value.agg zC).cells[· % (Value.agg zC).cells.size]!)) [(0, Value.agg lv.toArray)] = some DF.toArray by rw [hDF]; exact fill_one' lv HTV.out.len _ (by simp))
          have hkk := kids_one (HTV.out.later HBV0.out) (by have := HTBD.out; have := HBV0.out.size; omega) hDF
          have HBV1' := Lib.hid (show Below wd.heap.size wd (V0.alloc (.cells DF.toArray 33)) from HBV0.out.alloc HBV0.out.size _)
          rw [if_pos (by kernel_rfl)]
          refine wp_buildSlice 24 33 1 _ rfl DF.toArray ie (.agg zC) Tryz.underlying24 hie hiz (by rw [his]; decide) (by rw [his]; decide) (by rw [his, Array.toList_map]; exact HFDF.out) ?_
          obtain ⟨V1, hV1⟩ : ∃ W, W = V0.alloc (.cells DF.toArray 33) := ⟨_, rfl⟩
          obtain ⟨pf, hp⟩ : ∃ p, p = V0.heap.size := ⟨_, rfl⟩
          have HBV1 := Lib.hid (show Below wd.heap.size wd V1 by rw [hV1]; exact HBV1'.out)
          have HAV1 := Lib.hid (show Below V0.heap.size V0 V1 by rw [hV1]; exact below_new _ _)
          rw [← hV1, ← hp] at hkk ⊢
          have HFV1 := Lib.hid hkk
          clear hV1 hp hkk hDF HBV1'
          refine hK.out _ _ (fun _ => HSS.out _ HBV1.out) ?_
          clear hK K
          try simp only [Act.put, List.setIfInBounds_toArray, List.set_cons_zero, List.set_cons_succ]
          refine TillLast.ready (rs := [5]) (by kernel_rfl) (by simp) ?_
          refine NextAll.cons (o := ⟨some 122, _, _, _, _, _⟩) rfl (fun K hK => ?_) NextAll.nil
          go_simp
          refine (number_ta tb _ y).mono ?_
          rintro e V2 ⟨ln, rfl, htn, hbk⟩
          have HBV2 := Lib.hid (show Below wd.heap.size wd V2 from HBV1.out.trans (hbk.mono HBV1.out.size))
          have HAV2 := Lib.hid hbk
          have HNV2 := Lib.hid htn
          clear htn hbk
          (try dsimp only)
          have HFV2 := Lib.hid (HFV1.out.le (memX_le HAV2.out))
          refine hK.out _ _ (fun _ => HSS.out _ HBV2.out) ?_
          clear hK K
          try simp only [Act.put, List.setIfInBounds_toArray, List.set_cons_zero, List.set_cons_succ]
          refine TillLast.ready (rs := [6]) (by kernel_rfl) (by simp) ?_
          refine NextAll.cons (o := ⟨some 123, _, _, _, _, _⟩) rfl (fun K hK => ?_) NextAll.nil
          obtain ⟨D1, hD1⟩ : ∃ D : List Value, D = [lv, ln].flatten := ⟨_, rfl⟩
          have HFD1 := Lib.hid (show Instr.fill (fun i => some (i * 21, 21)) ((Array.range (2 * 21)).map ((Value.agg zC).cells[· % (Value.agg zC).cells.size]!)) [(0, Value.agg lv.toArray), (1, Value.agg ln.toArray)] = some D1.toArray by rw [hD1]; exact fill_two lv ln HTV.out.len HNV2.out.len _ (by simp))
          have hkk := kids_two (HTV.out.later HBV2.out) HNV2.out (by have := HTBD.out; have := HBV2.out.size; omega) hD1
          have HBV3' := Lib.hid (show Below wd.heap.size wd (V2.alloc (.cells D1.toArray 33)) from HBV2.out.alloc HBV2.out.size _)
          rw [if_pos (by kernel_rfl)]
          refine wp_buildSlice 24 33 2 _ rfl D1.toArray ie (.agg zC) Tryz.underlying24 hie hiz (by rw [his]; decide) (by rw [his]; decide) (by rw [his, Array.toList_map]; exact HFD1.out) ?_
          obtain ⟨V3, hV3⟩ : ∃ W, W = V2.alloc (.cells D1.toArray 33) := ⟨_, rfl⟩
          obtain ⟨p1, hp⟩ : ∃ p, p = V2.heap.size := ⟨_, rfl⟩
          have HBV3 := Lib.hid (show Below wd.heap.size wd V3 by rw [hV3]; exact HBV3'.out)
          have HAV3 := Lib.hid (show Below V2.heap.size V2 V3 by rw [hV3]; exact below_new _ _)
          rw [← hV3, ← hp] at hkk ⊢
          have HKV3 := Lib.hid hkk
          clear hV3 hp hkk hD1 HBV3'
          have HFV3 := Lib.hid (HFV2.out.le (memX_le HAV3.out))
          refine hK.out _ _ (fun _ => HSS.out _ HBV3.out) ?_
          clear hK K
          try simp only [Act.put, List.setIfInBounds_toArray, List.set_cons_zero, List.set_cons_succ]
          refine TillLast.ready (rs := [7]) (by kernel_rfl) (by simp) ?_
          refine NextAll.cons (o := ⟨some 124, _, _, _, _, _⟩) rfl (fun K hK => ?_) NextAll.nil
          go_simp
          refine (op_ta tb _ [58, 61] HKV3.out).mono ?_
          rintro e V4 ⟨lo, rfl, htn, hbk⟩
          have HBV4 := Lib.hid (show Below wd.heap.size wd V4 from HBV3.out.trans (hbk.mono HBV3.out.size))
          have HAV4 := Lib.hid hbk
          have HOV4 := Lib.hid htn
          clear htn hbk
          (try dsimp only)
          have HFV4 := Lib.hid (HFV3.out.le (memX_le HAV4.out))
          refine hK.out _ _ (fun _ => HSS.out _ HBV4.out) ?_
          clear hK K
          try simp only [Act.put, List.setIfInBounds_toArray, List.set_cons_zero, List.set_cons_succ]
          refine TillLast.ready (rs := [10]) (by kernel_rfl) (by simp) ?_
          refine NextAll.cons (o := ⟨some 127, _, _, _, _, _⟩) rfl (fun K hK => ?_) NextAll.nil
          go_simp
          refine (op_ta tb _ [33] HFV4.out).mono ?_
          rintro e V5 ⟨l2, rfl, htn, hbk⟩
          have HBV5 := Lib.hid (show Below wd.heap.size wd V5 from HBV4.out.trans (hbk.mono HBV4.out.size))
          have HAV5 := Lib.hid hbk
          have HPV5 := Lib.hid htn
          clear htn hbk
          (try dsimp only)
          have HOV5 := Lib.hid (HOV4.out.later HAV5.out)
          refine hK.out _ _ (fun _ => HSS.out _ HBV5.out) ?_
          clear hK K
          try simp only [Act.put, List.setIfInBounds_toArray, List.set_cons_zero, List.set_cons_succ]
          refine TillLast.ready (rs := [11]) (by kernel_rfl) (by simp) ?_
          refine NextAll.cons (o := ⟨some 128, _, _, _, _, _⟩) rfl (fun K hK => ?_) NextAll.nil
          obtain ⟨D3, hD3⟩ : ∃ D : List Value, D = [l2].flatten := ⟨_, rfl⟩
          have HFD3 := Lib.hid (show Instr.fill (fun i => some (i * 21, 21)) ((Array.range (1 * 21)).map ((Value.agg zC).cells[· % (Value.agg zC).cells.size]!)) [(0, Value.agg l2.toArray)] = some D3.toArray by rw [hD3]; exact fill_one' l2 HPV5.out.len _ (by simp))
          have hkk := kids_one HPV5.out (by have := HTBD.out; have := HBV5.out.size; omega) hD3
          have HBV6' := Lib.hid (show Below wd.heap.size wd (V5.alloc (.cells D3.toArray 33)) from HBV5.out.alloc HBV5.out.size _)
          rw [if_pos (by kernel_rfl)]
          refine wp_buildSlice 24 33 1 _ rfl D3.toArray ie (.agg zC) Tryz.underlying24 hie hiz (by rw [his]; decide) (by rw [his]; decide) (by rw [his, Array.toList_map]; exact HFD3.out) ?_
          obtain ⟨V6, hV6⟩ : ∃ W, W = V5.alloc (.cells D3.toArray 33) := ⟨_, rfl⟩
          obtain ⟨p3, hp⟩ : ∃ p, p = V5.heap.size := ⟨_, rfl⟩
          have HBV6 := Lib.hid (show Below wd.heap.size wd V6 by rw [hV6]; exact HBV6'.out)
          have HAV6 := Lib.hid (show Below V5.heap.size V5 V6 by rw [hV6]; exact below_new _ _)
          rw [← hV6, ← hp] at hkk ⊢
          have HQV6 := Lib.hid hkk
          clear hV6 hp hkk hD3 HBV6'
          have HOV6 := Lib.hid (HOV5.out.later HAV6.out)
          refine hK.out _ _ (fun _ => HSS.out _ HBV6.out) ?_
          clear hK K
          try simp only [Act.put, List.setIfInBounds_toArray, List.set_cons_zero, List.set_cons_succ]
          refine TillLast.ready (rs := [12]) (by kernel_rfl) (by simp) ?_
          refine NextAll.cons (o := ⟨some 129, _, _, _, _, _⟩) rfl (fun K hK => ?_) NextAll.nil
          go_simp
          refine (op_ta tb _ [112, 114, 105, 110, 116] HQV6.out).mono ?_
          rintro e V7 ⟨l3, rfl, htn, hbk⟩
          have HBV7 := Lib.hid (show Below wd.heap.size wd V7 from HBV6.out.trans (hbk.mono HBV6.out.size))
          have HAV7 := Lib.hid hbk
          have HRV7 := Lib.hid htn
          clear htn hbk
          (try dsimp only)
          have HOV7 := Lib.hid (HOV6.out.later HAV7.out)
          refine hK.out _ _ (fun _ => HSS.out _ HBV7.out) ?_
          clear hK K
          try simp only [Act.put, List.setIfInBounds_toArray, List.set_cons_zero, List.set_cons_succ]
          refine TillLast.ready (rs := [14]) (by kernel_rfl) (by simp) ?_
          refine NextAll.cons (o := ⟨some 131, _, _, _, _, _⟩) rfl (fun K hK => ?_) NextAll.nil
          go_simp
          refine (let_ta tb _ (by have := HTBD.out; have := HBV7.out.size; omega) [95] HRV7.out (HTAD.out.later HBV7.out)).mono ?_
          rintro e V8 ⟨l4, rfl, htn, hbk⟩
          have HBV8 := Lib.hid (show Below wd.heap.size wd V8 from HBV7.out.trans (hbk.mono HBV7.out.size))
          have HAV8 := Lib.hid hbk
          have HPV8 := Lib.hid htn
          clear htn hbk
          (try dsimp only)
          have HOV8 := Lib.hid (HOV7.out.later HAV8.out)
          refine hK.out _ _ (fun _ => HSS.out _ HBV8.out) ?_
          clear hK K
          try simp only [Act.put, List.setIfInBounds_toArray, List.set_cons_zero, List.set_cons_succ]
          refine TillLast.ready (rs := [15]) (by kernel_rfl) (by simp) ?_
          refine NextAll.cons (o := ⟨some 132, _, _, _, _, _⟩) rfl (fun K hK => ?_) NextAll.nil
          go_simp
          refine (let_ta tb _ (by have := HTBD.out; have := HBV8.out.size; omega) [95] HOV8.out HPV8.out).mono ?_
          rintro e V9 ⟨l5, rfl, htn, hbk⟩
          have HBV9 := Lib.hid (show Below wd.heap.size wd V9 from HBV8.out.trans (hbk.mono HBV8.out.size))
          have HAV9 := Lib.hid hbk
          have HRV9 := Lib.hid htn
          have HNO := Lib.hid htn.one
          have HNZ := Lib.hid (show C.toArray.size = l5.toArray.size by simp [HCL.out, htn.len])
          have HNS := Lib.hid (show (Tryz.prog.info? 33).map (·.size) = some l5.toArray.size by rw [szTerm]; simp [htn.len])
          clear htn hbk
          (try dsimp only)
          refine hK.out _ _ (fun _ => HSS.out _ HBV9.out) ?_
          clear hK K
          try simp only [Act.put, List.setIfInBounds_toArray, List.set_cons_zero, List.set_cons_succ]
          refine TillLast.ready (rs := [16]) (by kernel_rfl) (by simp) ?_
          refine NextAll.cons (o := ⟨none, _, _, _, _, _⟩) rfl (fun K hK => ?_) NextAll.nil
          rw [if_pos (by kernel_rfl)]
          refine wp_store_row 33 (.tmp 14) (.tmp 132) rfl tb l5.toArray rfl rfl 33 C.toArray (HSS.out _ HBV9.out).1 HNS.out HNZ.out HNO.out ?_
          refine hK.out _ _ (fun h => absurd (h.symm.trans (by kernel_rfl : _ = true)) (by decide)) ?_
          clear hK K
          try simp only [Act.put, List.setIfInBounds_toArray, List.set_cons_zero, List.set_cons_succ]
          refine TillLast.done (by kernel_rfl) ?_ _
          have HTN := Lib.hid (show TA tb (V9.setRow tb l5.toArray) (putsT ((prC zs).drop i)) l5 by rw [HPD.out]; exact HRV9.out.set _)
          have HLN := Lib.hid (show Lies (V9.setRow tb l5.toArray) tb 33 l5.toArray from lies_setRow' (HSS.out _ HBV9.out).1 _)
          have HKN := Lib.hid ((HKX.out.below (HBD.out.trans (HBV9.out.mono HBD.out.size))).set l5.toArray)
          go_wp2_with fail
          go_roundw
          case rel => exact ⟨i, l5, by omega, by go_num, HTN.out, HLN.out, HKN.out⟩
          case measure => (simp [intOf] <;> omega)
        ·obtain rfl : j = 0 := by omega
         obtain rfl : u16 = .int .i64 (-1) := by rw [hxj]; rfl
         clear hxj
         obtain ⟨wr4, rfl⟩ : ∃ W, W = wr := ⟨_, rfl⟩
         have HTE5 := Lib.hid (show TA tb wr4 (headT (([(0, s0), (1, s1), (2, s2)] : List (Nat × Int)).drop 3) (putsT (prC zs))) C from HTA.out)
         have HLE5 := Lib.hid HL.out
         have HKE5 := Lib.hid HKX.out
         obtain ⟨CE5, hCE⟩ : ∃ D, D = C := ⟨_, rfl⟩
         rw [← hCE] at HTE5 HLE5
         clear hCE HTA HL HKX HCL HCZ HTB HNA
         go_wp2_with fail
         go_loopw [18] (fun x wr => ∃ (j : Nat) (C : List Value), j ≤ 3 ∧ x = .int .i64 ((j : Int) - 1) ∧ TA tb wr (headT (([(0, s0), (1, s1), (2, s2)] : List (Nat × Int)).drop j) (putsT (prC zs))) C ∧ Lies wr tb 33 C.toArray ∧ KX tb W3 wr) (fun x _ => (intOf x + 1).toNat)
         case atStart => exact ⟨3, CE5, Nat.le_refl _, rfl, HTE5.out, HLE5.out, HKE5.out⟩
         case round =>
          obtain ⟨j, C, hj, hxj, hta, hlies, hkx⟩ := hrel
          have HTA := Lib.hid hta
          have HL := Lib.hid hlies
          have HKX := Lib.hid hkx
          have HCL := Lib.hid hta.len
          have HCZ := Lib.hid (show (Tryz.prog.info? 33).map (·.size) = some C.length by rw [szTerm, hta.len])
          have HTB := Lib.hid (show tb < wr.heap.size by have := HZ3.out; have := hkx.size; omega)
          have HNA := Lib.hid (show Lies wr nb 9 #[.string ⟨#[97]⟩, .string ⟨#[98]⟩, .string ⟨#[99]⟩] from (hkx.block nb (by have := HNB3.out; have := HZ3.out; omega) (by have := HNB3.out; omega)).trans HN3.out)
          clear hta hlies hkx
          by_cases hj0 : 0 < j
          ·obtain ⟨i, rfl⟩ : ∃ i, j = i + 1 := ⟨j - 1, by omega⟩
           obtain rfl : u18 = .int .i64 (i : Int) := by rw [hxj]; congr 1; omega
           have hi3 : i < 3 := by omega
           have hii : (0 : Int) ≤ (i : Int) := by omega
           have hi3i : (i : Int) < 3 := by omega
           obtain ⟨x, hx3⟩ : ∃ x, [s0, s1, s2][i]? = some x := ⟨_, List.getElem?_eq_getElem (by simpa using hi3)⟩
           have hx : S[i]? = some x := by rw [HS3.out]; exact hx3
           have HTD := Lib.hid (head_drop hi3 hx3 (putsT (prC zs)))
           have HSA := Lib.hid (show Arr wr stb S from (HKX.out.block stb (by have := HNB3.out; have := HZ3.out; omega) (by have := HNB3.out; omega)).trans HST3.out)
           clear hxj hx3
           go_wp2_with fail
           have HSS := Lib.hid (show ∀ V : World, Below wr.heap.size wr V → (Lies V tb 33 C.toArray ∧ V.cell? ⟨nb, i, none⟩ = some (.string (ba (nmK i))) ∧ V.cell? ⟨stb, i, none⟩ = some (.int .i64 x)) from fun V hV => ⟨(hV.block _ HTB.out).trans HL.out, names_cell ((hV.block _ HNA.out.lt).trans HNA.out) hi3, Arr.cell (show Arr V stb S from (hV.block _ (Lies.lt HSA.out)).trans HSA.out) hx⟩)
           refine TillLast.start (S := fun VV => Lies VV tb 33 C.toArray ∧ VV.cell? ⟨nb, i, none⟩ = some (.string (ba (nmK i))) ∧ VV.cell? ⟨stb, i, none⟩ = some (.int .i64 x)) (z := 12) (by kernel_rfl) ?_
           have hS : Lies wr.drew tb 33 C.toArray ∧ wr.drew.cell? ⟨nb, i, none⟩ = some (.string (ba (nmK i))) ∧ wr.drew.cell? ⟨stb, i, none⟩ = some (.int .i64 x) := HSS.out _ (Below.refl _ _).drew
           have HDR := Lib.hid (show Below wr.heap.size wr wr.drew from (Below.refl _ _).drew)
           refine TillLast.take (i := 0) (oi := ⟨some 137, _, _, _, _, _⟩) (v := ?_) rfl (by kernel_rfl) (by kernel_rfl) (by kernel_rfl) (by kernel_rfl) (by decide) (by kernel_rfl) (fun _ _ _ h => h) (Or.inl ⟨by kernel_rfl, ?_⟩) hS ?_
           rotate_left
           ·(intro w' hSw; (try dsimp only at hSw); go_split_ands; go_simp; first | done | with_reducible rfl)
           try simp only [Act.put, List.setIfInBounds_toArray, List.set_cons_zero, List.set_cons_succ]
           refine TillLast.take (i := 1) (oi := ⟨some 138, _, _, _, _, _⟩) (v := ?_) rfl (by kernel_rfl) (by kernel_rfl) (by kernel_rfl) (by kernel_rfl) (by decide) (by kernel_rfl) (fun _ _ _ h => h) (Or.inl ⟨by kernel_rfl, ?_⟩) hS ?_
           rotate_left
           ·(intro w' hSw; (try dsimp only at hSw); go_split_ands; go_simp; first | done | with_reducible rfl)
           try simp only [Act.put, List.setIfInBounds_toArray, List.set_cons_zero, List.set_cons_succ]
           refine TillLast.take (i := 2) (oi := ⟨some 139, _, _, _, _, _⟩) (v := ?_) rfl (by kernel_rfl) (by kernel_rfl) (by kernel_rfl) (by kernel_rfl) (by decide) (by kernel_rfl) (fun _ _ _ h => h) (Or.inl ⟨by kernel_rfl, ?_⟩) hS ?_
           rotate_left
           ·(intro w' hSw; (try dsimp only at hSw); go_split_ands; go_simp; first | done | with_reducible rfl)
           try simp only [Act.put, List.setIfInBounds_toArray, List.set_cons_zero, List.set_cons_succ]
           refine TillLast.take (i := 3) (oi := ⟨some 140, _, _, _, _, _⟩) (v := ?_) rfl (by kernel_rfl) (by kernel_rfl) (by kernel_rfl) (by kernel_rfl) (by decide) (by kernel_rfl) (fun _ _ _ h => h) (Or.inl ⟨by kernel_rfl, ?_⟩) hS ?_
           rotate_left
           ·(intro w' hSw; (try dsimp only at hSw); go_split_ands; go_simp; first | done | with_reducible rfl)
           try simp only [Act.put, List.setIfInBounds_toArray, List.set_cons_zero, List.set_cons_succ]
           refine TillLast.take (i := 4) (oi := ⟨some 141, _, _, _, _, _⟩) (v := ?_) rfl (by kernel_rfl) (by kernel_rfl) (by kernel_rfl) (by kernel_rfl) (by decide) (by kernel_rfl) (fun _ _ _ h => h) (Or.inl ⟨by kernel_rfl, ?_⟩) hS ?_
           rotate_left
           ·(intro w' hSw; (try dsimp only at hSw); go_split_ands; go_simp; first | done | with_reducible rfl)
           try simp only [Act.put, List.setIfInBounds_toArray, List.set_cons_zero, List.set_cons_succ]
           refine TillLast.take (i := 5) (oi := ⟨some 142, _, _, _, _, _⟩) (v := ?_) rfl (by kernel_rfl) (by kernel_rfl) (by kernel_rfl) (by kernel_rfl) (by decide) (by kernel_rfl) (fun _ _ _ h => h) (Or.inl ⟨by kernel_rfl, ?_⟩) hS ?_
           rotate_left
           ·(intro w' hSw; (try dsimp only at hSw); go_split_ands; go_simp; first | done | with_reducible rfl)
           try simp only [Act.put, List.setIfInBounds_toArray, List.set_cons_zero, List.set_cons_succ]
           refine TillLast.take (i := 6) (oi := ⟨some 143, _, _, _, _, _⟩) (v := ?_) rfl (by kernel_rfl) (by kernel_rfl) (by kernel_rfl) (by kernel_rfl) (by decide) (by kernel_rfl) (fun _ _ _ h => h) (Or.inl ⟨by kernel_rfl, ?_⟩) hS ?_
           rotate_left
           ·(intro w' hSw; (try dsimp only at hSw); go_split_ands; go_simp; first | done | with_reducible rfl)
           try simp only [Act.put, List.setIfInBounds_toArray, List.set_cons_zero, List.set_cons_succ]
           refine TillLast.take (i := 10) (oi := ⟨some 147, _, _, _, _, _⟩) (v := .agg C.toArray) rfl (by kernel_rfl) (by kernel_rfl) (by kernel_rfl) (by kernel_rfl) (by decide) (by kernel_rfl) (fun _ _ _ h => h) (yieldsIf_load_mid (by rfl) 33 (.tmp 14) rfl tb 0 rfl C _ (fun w' hS' => Lies.range hS'.1) Tryz.underlying33 rfl HCZ.out) hS ?_
           try simp only [Act.put, List.setIfInBounds_toArray, List.set_cons_zero, List.set_cons_succ]
           refine TillLast.ready (rs := [7]) (by kernel_rfl) (by simp) ?_
           refine NextAll.cons (o := ⟨some 144, _, _, _, _, _⟩) rfl (fun K hK => ?_) NextAll.nil
           go_simp
           refine (number_ta tb _ x).mono ?_
           rintro e w4 ⟨l4, rfl, hta4, hb4⟩
           have HB4 := Lib.hid (show Below wr.heap.size wr w4 from HDR.out.trans hb4)
           have HT4 := Lib.hid hta4
           have HX4 := Lib.hid hb4
           clear hta4 hb4
           (try dsimp only)
           refine hK.out _ _ (fun _ => HSS.out _ HB4.out) ?_
           clear hK K
           try simp only [Act.put, List.setIfInBounds_toArray, List.set_cons_zero, List.set_cons_succ]
           obtain ⟨D4, hD4⟩ : ∃ D : List Value, D = [l4].flatten := ⟨_, rfl⟩
           have HFD4 := Lib.hid (show Instr.fill (fun i => some (i * 21, 21)) ((Array.range (1 * 21)).map ((Value.agg zC).cells[· % (Value.agg zC).cells.size]!)) [(0, Value.agg l4.toArray)] = some D4.toArray by rw [hD4]; exact fill_one' l4 HT4.out.len _ (by simp))
           have HK4 := Lib.hid (kids_one HT4.out (by have := HTB.out; have := HB4.out.size; omega) hD4)
           have HA4 := Lib.hid (show Below wr.heap.size wr (w4.alloc (.cells D4.toArray 33)) from HB4.out.alloc HB4.out.size _)
           clear hD4
           refine TillLast.ready (rs := [8]) (by kernel_rfl) (by simp) ?_
           refine NextAll.cons (o := ⟨some 145, _, _, _, _, _⟩) rfl (fun K hK => ?_) NextAll.nil
           rw [if_pos (by kernel_rfl)]
           refine wp_buildSlice 24 33 1 _ rfl D4.toArray ie (.agg zC) Tryz.underlying24 hie hiz (by rw [his]; decide) (by rw [his]; decide) (by rw [his, Array.toList_map]; exact HFD4.out) ?_
           refine hK.out _ _ (fun _ => HSS.out _ HA4.out) ?_
           clear hK K
           try simp only [Act.put, List.setIfInBounds_toArray, List.set_cons_zero, List.set_cons_succ]
           refine TillLast.ready (rs := [9]) (by kernel_rfl) (by simp) ?_
           refine NextAll.cons (o := ⟨some 146, _, _, _, _, _⟩) rfl (fun K hK => ?_) NextAll.nil
           go_simp
           refine (op_ta tb _ [114, 101, 102] HK4.out).mono ?_
           rintro e w5 ⟨l5, rfl, hta5, hb5⟩
           have HB5 := Lib.hid (show Below wr.heap.size wr w5 from HA4.out.trans (hb5.mono HA4.out.size))
           have HT5 := Lib.hid hta5
           have HX5 := Lib.hid hb5
           clear hta5 hb5
           (try dsimp only)
           refine hK.out _ _ (fun _ => HSS.out _ HB5.out) ?_
           clear hK K
           try simp only [Act.put, List.setIfInBounds_toArray, List.set_cons_zero, List.set_cons_succ]
           refine TillLast.ready (rs := [11]) (by kernel_rfl) (by simp) ?_
           refine NextAll.cons (o := ⟨some 148, _, _, _, _, _⟩) rfl (fun K hK => ?_) NextAll.nil
           go_simp
           refine (let_ta tb _ (by have := HTB.out; have := HB5.out.size; omega) (nmK i) HT5.out (HTA.out.later HB5.out)).mono ?_
           rintro e w6 ⟨l6, rfl, hta6, hb6⟩
           have HB6 := Lib.hid (show Below wr.heap.size wr w6 from HB5.out.trans (hb6.mono HB5.out.size))
           have HT6 := Lib.hid hta6
           have HX6 := Lib.hid hb6
           have HNO := Lib.hid hta6.one
           have HNZ := Lib.hid (show C.toArray.size = l6.toArray.size by simp [HCL.out, hta6.len])
           have HNS := Lib.hid (show (Tryz.prog.info? 33).map (·.size) = some l6.toArray.size by rw [szTerm]; simp [hta6.len])
           clear hta6 hb6
           (try dsimp only)
           refine hK.out _ _ (fun _ => HSS.out _ HB6.out) ?_
           clear hK K
           try simp only [Act.put, List.setIfInBounds_toArray, List.set_cons_zero, List.set_cons_succ]
           refine TillLast.ready (rs := [12]) (by kernel_rfl) (by simp) ?_
           refine NextAll.cons (o := ⟨none, _, _, _, _, _⟩) rfl (fun K hK => ?_) NextAll.nil
           rw [if_pos (by kernel_rfl)]
           refine wp_store_row 33 (.tmp 14) (.tmp 148) rfl tb l6.toArray rfl rfl 33 C.toArray ((HB6.out.block _ HTB.out).trans HL.out) HNS.out HNZ.out HNO.out ?_
           refine hK.out _ _ (fun h => absurd (h.symm.trans (by kernel_rfl : _ = true)) (by decide)) ?_
           clear hK K
           try simp only [Act.put, List.setIfInBounds_toArray, List.set_cons_zero, List.set_cons_succ]
           refine TillLast.done (by kernel_rfl) ?_ _
           have HTN := Lib.hid (show TA tb (w6.setRow tb l6.toArray) (letT (nmK i) (refT x) (headT (([(0, s0), (1, s1), (2, s2)] : List (Nat × Int)).drop (i + 1)) (putsT (prC zs)))) l6 from HT6.out.set _)
           have HLN := Lib.hid (show Lies (w6.setRow tb l6.toArray) tb 33 l6.toArray from lies_setRow' ((HB6.out.block _ HTB.out).trans HL.out) _)
           have HKN := Lib.hid ((HKX.out.below HB6.out).set l6.toArray)
           go_wp2_with fail
           go_roundw
           case rel => exact ⟨i, l6, by omega, by go_num, by rw [HTD.out]; exact HTN.out, HLN.out, HKN.out⟩
           case measure => (simp [intOf] <;> omega)
          ·obtain rfl : j = 0 := by omega
           obtain rfl : u18 = .int .i64 (-1) := by rw [hxj]; rfl
           clear hxj
           have HRUNC := Lib.hid (cells_call (a := s0) (b := s1) (c := s2) (zs := zs) HTA.out HTB.out HZ20.out)
           have HBP := Lib.hid (built_prog C HCL.out)
           have HWI := Lib.hid (show IntsS wr (.slice A5 m5 c5) (zs ++ [t0, t1, t2]) from HWA.out.later (HKX.out.all HB53.out (by have := HTBW.out; omega)))
           have HWR := Lib.hid (HKX.out.all HBW3.out (by have := HNB3.out; omega))
           have HCS := Lib.hid (show (Tryz.prog.info? 33).map (·.size) = some C.toArray.size by rw [szTerm]; simp [HCL.out])
           go_wp2_with (first
            | (refine wpList_load_row rfl 33 (.tmp 14) rfl tb rfl 33 C.toArray (0, 0) _ ?_ Tryz.underlying33 rfl HCS.out ?_; exact HL.out)
            | (refine wpList_buildTo rfl 47 _ rfl ([Value.slice none 0 0, Value.slice none 0 0] ++ C).toArray (by rw [Array.toList_map]; exact HBP.out) ?_))
           refine HRUNC.out.mono ?_
           rintro e w7 ⟨kk, n7, A7, m7, c7, st7, ko7, rfl, hin7, hb7⟩
           obtain ⟨R7, hR7⟩ : ∃ R, R = runL 1 kk n7 (.slice A7 m7 c7) st7 ko7 := ⟨_, rfl⟩
           rw [← hR7]
           obtain ⟨W7, hW7, hbW7, hzW7, lW7⟩ := keep_run w7 R7
           have HSZ7 := Lib.hid (show (Tryz.prog.info? 42).map (·.size) = some R7.size by rw [szRun, hR7]; rfl)
           have HON7 := Lib.hid (show R7.all (·.oneCell') = true by rw [hR7]; simp [runL, Value.oneCell'])
           have HZZ7 := Lib.hid (show (#[.int .i64 0, .int .i64 0, .int .i64 0, .string ⟨#[]⟩, .slice none 0 0, .slice none 0 0, .int .i64 0, .int .i64 0] : Array Value).size = R7.size by rw [hR7]; rfl)
           have HR7 := Lib.hid hR7
           have HW7 := Lib.hid hW7
           have LW7 := Lib.hid lW7
           have LV7 := Lib.hid (Lies.new w7 42 #[.int .i64 0, .int .i64 0, .int .i64 0, .string ⟨#[]⟩, .slice none 0 0, .slice none 0 0, .int .i64 0, .int .i64 0])
           have HB7 := Lib.hid (show Below w.heap.size w W7 from (HWR.out.trans (hb7.mono HWR.out.size)).trans (hbW7.mono (by have := HWR.out.size; have := hb7.size; omega)))
           have HI7 := Lib.hid (show IntsS W7 (.slice A7 m7 c7) (zs ++ setAll [s0, s1, s2] (prC zs)) from hin7.later hbW7)
           have HY7 := Lib.hid (show IntsS W7 (.slice A5 m5 c5) (zs ++ [t0, t1, t2]) from (HWI.out.later hb7).later hbW7)
           have HEQ := Lib.hid (show zs ++ setAll [s0, s1, s2] (prC zs) = zs ++ [t0, t1, t2] by rw [← HS3.out, HTZ.out])
           clear hin7 hb7 hR7 hW7 hbW7 hzW7 lW7
           go_upto_region 34 with (refine wpList_store_rowTo rfl 42 (.tmp 19) (.tmp 151) rfl rfl w7.heap.size R7 rfl rfl 42 _ ?_ HSZ7.out HZZ7.out HON7.out ?_; exact LV7.out; rw [← HW7.out])
           have hc5 : W7.cell? ⟨w7.heap.size, 5, none⟩ = some (.slice A7 m7 c7) := by rw [LW7.out.cell, HR7.out]; rfl
           have hc0 : W7.cell? ⟨w7.heap.size, 0, none⟩ = some (.int .i64 1) := by rw [LW7.out.cell, HR7.out]; rfl
           have hlt7 := LW7.out.lt
           have HST7 := Lib.hid (show ∀ V : World, Below W7.heap.size W7 V → Calls Tryz.prog 12 #[.slice A7 m7 c7, .slice A5 m5 c5] V fun e w' => e = .returned (.bool true) ∧ Below V.heap.size V w' from fun V hV => (same_trace V _ _ _ _ (HI7.out.later hV) (HY7.out.later hV) (by rw [HEQ.out, List.length_append]; have := HZ20.out; show zs.length + 3 ≤ _; omega) (by rw [List.length_append]; have := HZ20.out; show zs.length + 3 ≤ _; omega)).mono fun e w' h => ⟨by rw [h.1, HEQ.out, decide_eq_true rfl], h.2⟩)
           go_wp2_with fail
           refine (HST7.out _ (Below.refl _ _)).mono ?_
           rintro e w9 ⟨rfl, hb9⟩
           go_wp2_with fail
           go_ret
           exact ⟨rfl, HB7.out.trans (hb9.mono HB7.out.size)⟩
end So
end Go.Proofs.YtmodmojocclmaaaGreatDoor.K
