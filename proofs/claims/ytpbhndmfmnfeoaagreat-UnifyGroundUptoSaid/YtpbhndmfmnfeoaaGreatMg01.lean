/- The library's Grow of nil, and its Concat: their contracts. -/
import Derived.Test.YtpbhndmfmnfeoaaGreatMg00
import Derived.Lib.AppendZeros
import Derived.Laws.AppendOwnNone
import Derived.OwnWalk
import Derived.Outline
import Derived.Laws.IdiomRangeMap
import Derived.Great.BuildSlice
import Derived.Deep.WholeRow
namespace Go.Proofs.YtpbhndmfmnfeoaaGreat
open Go.RowKit

/-- nil, or a slice whose cells read so. -/
def SrcV (w : World) (u : Value) (xs : List Value) : Prop :=
  (u = .slice none 0 0 ∧ xs = []) ∨ ∃ ad c, u = .slice (some ad) xs.length c ∧ xs.length ≤ c ∧ ∀ (j : Nat) q, xs[j]? = some q → w.cell? (ad.add j) = some q
theorem SrcV.keep {w w' : World} {u : Value} {xs : List Value} (h : SrcV w u xs) (hk : ∀ g, g < w.heap.size → w'.heap[g]? = w.heap[g]?) : SrcV w' u xs := by
  rcases h with h | ⟨ad, c, h1, h2, h3⟩
  · exact .inl h
  · refine .inr ⟨ad, c, h1, h2, fun j q hq => ?_⟩
    have h4 := h3 j q hq
    have h5 := World.block_lt_of_cell? w _ h4
    exact (World.cell?_of_block (w := w) (hk _ h5)).trans h4
theorem SrcV.later {w w' : World} {u : Value} {xs : List Value} (h : SrcV w u xs) (hb : Below w.heap.size w w') : SrcV w' u xs := h.keep hb.block
theorem grown_self (w : World) (row : Option Nat) : w.grownBy w row := ⟨rfl, rfl, rfl, Nat.le_refl _, fun _ _ _ => rfl⟩
theorem wpList_append_srcV {P : Program} {w : World} {ops : Array Oper} {rest : List Oper} {o : Oper} {a : Act} {Q : Exit → Act → World → Prop} (hgd : o.guard = none) (s x : Operand) (t : TypeId)
    (ho : o.op = .call { callee := .builtin .append, args := #[s, x], argTypes := #[t, t] })
    (base : Nat) (e : TypeId) (i : TypeInfo) (z : Value) (bytes : Nat) (ht : P.underlying t = some (.slice e)) (hi : P.info? e = some i) (hz : i.zero = some z)
    (hsize : i.size = 1) (hby : i.bytes = bytes) (hzs : z.cells.size = 1)
    (v : Value) (n : Nat) (xs : List Value) (hs : a.eval s = v) (hown : w.ownsRow base e 1 v n xs)
    (u : Value) (news : List Value) (hx : a.eval x = u) (hu : SrcV w u news) (h1 : ∀ q ∈ news, q.oneCell' = true)
    (h63 : n + news.length ≤ maxLen) (hbytes : (n + news.length) * bytes ≤ 140737488355328) (hbase : base ≤ w.heap.size)
    (h : ∀ v' w', w'.ownsRow base e 1 v' (n + news.length) (xs ++ news) → w.grownBy w' v.ownBlock → wpList P ops Q rest (a.put o.dst v') w') : wpList P ops Q (o :: rest) a w := by
  rcases hu with ⟨rfl, rfl⟩ | ⟨ad, c, rfl, _, hc⟩
  · exact wpList_append_own_none hgd s x t ho base e i 1 ht hi v n xs hs hown hx (h v w (by simpa using hown) (grown_self _ _))
  · exact wpList_append_own _ hgd s x t ho base e i z 1 bytes ht hi hz hsize hby hzs (by decide) v n xs hs hown ad news.length c news hx (by omega) hc h1 h63 hbytes hbase fun v' w' h2 h3 _ => h v' w' h2 h3
theorem own_row_src {w : World} {B : Nat} {v : Value} {n : Nat} {e : TypeId} {xs : List Value} (h : w.ownsRow B e 1 v n xs) : SrcV w v xs := by
  have h1 := h.1
  rcases h.2 with ⟨rfl, rfl⟩ | ⟨g, cap, cur, rfl, _, _, hc, _, _⟩
  · exact .inl ⟨rfl, List.eq_nil_of_length_eq_zero (by simpa using h1)⟩
  · exact .inr ⟨_, cap, by rw [h1, Nat.mul_one], by omega, fun j q hq => h.cells (g := g) rfl j q hq⟩

theorem info_S (_ : True) : (Tryz.prog.info? 9).map (fun i => (i.zero, i.size, i.bytes)) = some (some (.string ⟨#[]⟩), 1, 16) := by kernel_rfl
set_option maxRecDepth 100000 in
set_option maxHeartbeats 2000000 in
theorem growS_nil (n : Nat) (w : World) (hn : n ≤ 100000000) :
    Calls Tryz.prog 62 #[.slice none 0 0, .int .i64 n] w fun e w' => ∃ v, e = .returned v ∧ w'.ownsRow w.heap.size 9 1 v 0 [] ∧ Below w.heap.size w w' := by
  obtain ⟨i0, hi, hz0, hz1, hz2⟩ := info_parts (info_S trivial)
  rcases Nat.eq_zero_or_pos n with rfl | hp
  · go_enter Tryz.func62, Tryz.ntmps62
    go_wp2
    go_ret
    exact ⟨_, rfl, World.ownsRow_nil _ _ _ _, Below.refl _ _⟩
  · have hr := fun ty => Lib.run_append_nil_zeros w 22 3 ty 9 i0 (.string ⟨#[]⟩) .i64 .i64 Tryz.underlying22 Tryz.underlying3 hi hz0 n hp (by omega) (by omega) (by rw [hz2]; omega)
    obtain ⟨G, hG⟩ : ∃ G, G = grownCap w n 0 9 := ⟨_, rfl⟩
    have hGn : n ≤ G := by rw [hG]; exact grownCap_ge w _ _ _
    have hGm : G ≤ maxLen := by rw [hG]; exact grownCap_le_maxLen w n 0 _ (by unfold maxLen; omega)
    have hG63 : G ≤ 9223372036854775807 := by unfold maxLen at hGm; omega
    rw [← hG] at hr
    have HM := Lib.hid hGm
    clear hGm hG
    go_enter Tryz.func62, Tryz.ntmps62
    go_wp2_with (at_builtin; refine Lib.wpList_append_run _ rfl _ _ _ _ rfl _ _ rfl rfl _ _ (hr _) ?_)
    go_ret
    have hb := (Below.refl w.heap.size w).drew.alloc (Nat.le_refl _) (.cells (Builtin.zeroCells (Value.cells (.string ⟨#[]⟩)) n ++ Builtin.zeroCells (Value.cells (.string ⟨#[]⟩)) (G - n)) 9)
    refine ⟨_, rfl, ⟨rfl, .inr ⟨w.heap.size, G, _, rfl, Nat.le_refl _, Lies.new _ _ _, Nat.zero_le _, HM.out, ?_, rfl⟩⟩, hb⟩
    simp [Builtin.zeroCells]
    omega

set_option maxRecDepth 100000 in
set_option maxHeartbeats 4000000 in
theorem concatS_any (ps : List (Value × List Value)) (b c : Nat) (w : World) (hb : Lies w b 22 (ps.map Prod.fst).toArray) (hc : ps.length ≤ c) (hsrc : ∀ p ∈ ps, SrcV w p.1 p.2) (h1 : ∀ p ∈ ps, ∀ q ∈ p.2, q.oneCell' = true)
    (hn : (ps.flatMap Prod.snd).length ≤ 10000000) (hk : ps.length ≤ 1000) :
    Calls Tryz.prog 46 #[.slice (some ⟨b, 0, none⟩) ps.length c] w fun e w' => ∃ v, e = .returned v ∧ w'.ownsRow w.heap.size 9 1 v (ps.flatMap Prod.snd).length (ps.flatMap Prod.snd) ∧ Below w.heap.size w w' := by
  obtain ⟨i0, hi, hz0, hz1, hz2⟩ := info_parts (info_S trivial)
  have hcell : ∀ (k : Nat) p, ps[k]? = some p → w.cell? ⟨b, k, none⟩ = some p.1 := fun k p hp => by
    rw [hb.cell]
    simp [hp]
  have hform : ∀ (k : Nat) p, ps[k]? = some p → ∃ A q, p.1 = .slice A p.2.length q ∧ p.2.length ≤ 10000000 := by
    intro k p hp
    have hm : p ∈ ps := List.mem_of_getElem? hp
    have hle : p.2.length ≤ (ps.flatMap Prod.snd).length := by
      obtain ⟨l1, l2, rfl⟩ := List.append_of_mem hm
      simp
      omega
    rcases hsrc p hm with ⟨e1, e2⟩ | ⟨ad, q, e1, _⟩
    · exact ⟨_, _, by rw [e1, e2]; rfl, by omega⟩
    · exact ⟨_, _, e1, by omega⟩
  have hsum : ∀ k, ((ps.take k).flatMap Prod.snd).length ≤ 10000000 := by
    intro k
    have h2 : ps.flatMap Prod.snd = (ps.take k).flatMap Prod.snd ++ (ps.drop k).flatMap Prod.snd := by rw [← List.flatMap_append, List.take_append_drop]
    have h3 := congrArg List.length h2
    rw [List.length_append] at h3
    omega
  have hstep : ∀ (k : Nat) p, ps[k]? = some p → (ps.take (k + 1)).flatMap Prod.snd = (ps.take k).flatMap Prod.snd ++ p.2 := by
    intro k p hp
    rw [take_step ps k p hp, List.flatMap_append]
    simp
  have hlt := hb.lt
  have HC := Lib.hid hcell
  have HF := Lib.hid hform
  have HS := Lib.hid hsum
  have HT := Lib.hid hstep
  have HR := Lib.hid hsrc
  have H1 := Lib.hid h1
  obtain ⟨m, hm⟩ : ∃ m, m = ps.length := ⟨_, rfl⟩
  have HM := Lib.hid hm
  rw [← hm] at hk hc ⊢
  clear hcell hform hsum hstep hsrc h1 hb hm hn
  go_enter Tryz.func46, Tryz.ntmps46
  go_wp2
  go_loopw [3, 11] (fun s i wr => ∃ k : Nat, k ≤ m ∧ i = .int .i64 k ∧ s = .int .i64 (((ps.take k).flatMap Prod.snd).length : Int) ∧ w = wr) (fun _ i _ => m - (intOf i).toNat)
  case atStart => exact ⟨0, Nat.zero_le _, rfl, rfl, rfl⟩
  case round =>
    obtain ⟨k, hkm, rfl, rfl, rfl⟩ := hrel
    by_cases hltk : k < m
    · obtain ⟨p, hp⟩ : ∃ p, ps[k]? = some p := ⟨_, List.getElem?_eq_getElem (by have := HM.out; omega)⟩
      have c0 := HC.out k p hp
      obtain ⟨A, q, e1, e2⟩ := HF.out k p hp
      rw [e1] at c0
      have hst := HT.out k p hp
      have hs0 := HS.out k
      have hl : ((ps.take (k + 1)).flatMap Prod.snd).length = ((ps.take k).flatMap Prod.snd).length + p.2.length := by rw [hst, List.length_append]
      obtain ⟨S, hS⟩ : ∃ S, S = ((ps.take k).flatMap Prod.snd).length := ⟨_, rfl⟩
      obtain ⟨L, hL⟩ : ∃ L, L = p.2.length := ⟨_, rfl⟩
      rw [← hS] at hs0 hl ⊢
      rw [← hL] at c0 hl e2
      have HL := Lib.hid hl
      have hkc : k < c := by omega
      clear hst hp hl hL hS e1
      go_wp2
      go_roundw
      case rel => exact ⟨k + 1, by omega, by simp, by rw [HL.out]; simp, by first | rfl | trivial⟩
      case measure => (simp [intOf] <;> omega)
    · obtain rfl : k = m := by omega
      have htk : ps.take k = ps := by rw [List.take_of_length_le]; have := HM.out; omega
      rw [htk]
      obtain ⟨N, hN⟩ : ∃ N, N = (ps.flatMap Prod.snd).length := ⟨_, rfl⟩
      have hN2 : N ≤ 10000000 := by have := HS.out k; rw [htk, ← hN] at this; exact this
      rw [← hN]
      have hg := growS_nil N w (by omega)
      have HG := Lib.hid hg
      have HN := Lib.hid hN
      have HTK := Lib.hid htk
      clear hg hN htk
      go_wp2_with fail
      refine HG.out.mono ?_
      rintro e w1 ⟨v1, rfl, ho1, hb1⟩
      have ho1' := Lib.hid ho1
      obtain ⟨A1, k1, c1, rfl⟩ := own_slice ho1
      clear ho1
      go_wp2_with fail
      go_loopw [6, 27] (fun s i wr => ∃ j : Nat, j ≤ k ∧ i = .int .i64 j ∧ wr.ownsRow w.heap.size 9 1 s ((ps.take j).flatMap Prod.snd).length ((ps.take j).flatMap Prod.snd) ∧ Below w.heap.size w wr) (fun _ i _ => k - (intOf i).toNat)
      case atStart => exact ⟨0, Nat.zero_le _, rfl, ho1'.out, hb1⟩
      case round =>
        obtain ⟨j, hjk, rfl, ho, hB⟩ := hrel
        by_cases hltj : j < k
        · obtain ⟨p, hp⟩ : ∃ p, ps[j]? = some p := ⟨_, List.getElem?_eq_getElem (by have := HM.out; omega)⟩
          have hpm : p ∈ ps := List.mem_of_getElem? hp
          have c0 := (hB.cell (p := ⟨b, j, none⟩) hlt).trans (HC.out j p hp)
          obtain ⟨A, q, e1, e2⟩ := HF.out j p hp
          have hsr := (HR.out p hpm).later hB
          have hone := H1.out p hpm
          have hst := HT.out j p hp
          have hs0 := HS.out j
          have hs1 := HS.out (j + 1)
          rw [hst, List.length_append] at hs1
          obtain ⟨X, hX⟩ : ∃ X, X = (ps.take j).flatMap Prod.snd := ⟨_, rfl⟩
          rw [← hX] at ho hs0 hst hs1
          obtain ⟨pv, pl⟩ := p
          dsimp only at c0 e1 e2 hsr hone hst hs1
          subst e1
          have HST := Lib.hid hst
          have HSR := Lib.hid hsr
          have HON := Lib.hid hone
          have HO := Lib.hid ho
          have HS1 := Lib.hid hs1
          obtain ⟨A0, m0, c0', rfl⟩ := own_slice ho
          have hjc : j < c := by omega
          clear hst hsr hone ho hp hX hpm hs1 hs0
          go_wp2_with (at_builtin; go_loud (refine wpList_append_srcV rfl (.tmp 31) (.tmp 32) 22 rfl w.heap.size 9 i0 _ 16 Tryz.underlying22 hi hz0 hz1 hz2 rfl _ X.length X rfl HO.out _ pl rfl HSR.out HON.out (by have := HS1.out; unfold maxLen; omega) (by have := HS1.out; omega) hB.size ?_); intro v' w2 ho2 hgr)
          have hrow : ∀ q, Value.ownBlock (.slice A0 m0 c0') = some q → w.heap.size ≤ q := fun q hq => (own_block HO.out q hq).1
          go_wp2_with fail
          go_roundw
          case rel =>
            refine ⟨j + 1, by omega, by simp, ?_, ?_⟩
            · rw [HST.out, List.length_append]; exact ho2
            · exact ⟨hgr.os.trans hB.os, hgr.tape.trans hB.tape, hgr.output.trans hB.output, Nat.le_trans hB.size hgr.size, fun g hg => (hgr.block g (Nat.lt_of_lt_of_le hg hB.size) (fun e => by have := hrow g e.symm; omega)).trans (hB.block g hg)⟩
          case measure => (simp [intOf] <;> omega)
        · obtain rfl : j = k := by omega
          rw [HTK.out] at ho
          have HO := Lib.hid ho
          obtain ⟨A0, m0, c0', rfl⟩ := own_slice ho
          clear ho
          go_wp2
          go_ret
          exact ⟨_, rfl, HO.out, hB⟩
end Go.Proofs.YtpbhndmfmnfeoaaGreat

/- maps.Copy at maps of types: its contract. -/
namespace Go.Proofs.YtpbhndmfmnfeoaaGreat
open Go.RowKit Go.Maps

theorem zero_T (w : World) : (zeroValue 44).run Tryz.prog w = .ok (.agg #[.int .i64 0, .string ⟨#[]⟩, .int .i64 0, .slice none 0 0, .slice none 0 0, .int .i64 0]) w := by go_simp
theorem size_T : (Tryz.prog.info? 44).map (·.size) = some 6 := by kernel_rfl
set_option maxHeartbeats 4000000 in
set_option maxRecDepth 100000 in
theorem copyT_any (bd bs nd ns : Nat) (gd gs : GMap) (w : World) (hd : MapI w 6 bd nd gd) (hs : MapI w 6 bs ns gs) (hne : bd ≠ bs) (hroom : nd + ns ≤ 1000000) :
    Calls Tryz.prog 109 #[.map (some bd), .map (some bs)] w fun e w' => e = .returned (.tuple #[]) ∧ MapI w' 6 bd (nd + ns) (overG gd gs) ∧ w.grownBy w' (some bd) := by
  have hbd := hd.lt
  have hbs := hs.lt
  obtain ⟨Dd, hod, hsd⟩ := hd
  obtain ⟨Ds, hos, hss⟩ := hs
  have hsz : Maps.size Ds ≤ ns := by
    obtain ⟨es, clock, _, _, hs, rfl⟩ := hos
    rw [Maps.size_eq, length_sorted]
    simpa using hs
  go_enter Tryz.func109, Tryz.ntmps109
  go_wp2_with (first
    | (at_range; refine wpList_range_own _ rfl _ 129 rfl 3 44 keyedI Tryz.underlying129 (RV 6) bs ns _ rfl hos ?_; intro w0 hrg0 hg0 hs0)
    | go_in)
  go_frame
  go_loopw [8] (fun _ wr => ∃ (left : Lit → Bool) (cnt : Nat) (Dout : DataW Value), wr.ranges Tryz.prog 3 (RV 6) bs w.heap.size ns Ds left cnt ∧ cnt ≤ Maps.size Ds ∧
      wr.ownsMap Tryz.prog 3 (RV 6) bd (nd + (Maps.size Ds - cnt)) Dout ∧ Merged Dout Dd Ds left ∧ w.grownBy wr (some bd))
    (fun _ wr => wr.rangeLeft bs w.heap.size)
  case atStart =>
    exact ⟨_, _, Dd, hrg0, Nat.le_refl _, (hod.kept hg0 (by simp)).mono (by omega), merged_start Dd Ds, hg0.but _⟩
  case round =>
    obtain ⟨left, cnt, Dout, hrg, hcs, hout, hM, hgw⟩ := hrel
    have hrlt := hrg.lt
    go_wp2_with (first
      | (at_next; refine wpList_next_ranges _ rfl _ rfl 3 keyedI (RV 6) (Value.int .i64) Value.agg (fun key kl hkey => by obtain ⟨x, rfl, _⟩ := Maps.keyOf_int_inv Tryz.underlying3 hkey; exact ⟨x, rfl⟩) (fun v y hv => by obtain ⟨cs, h, _⟩ := RV_inv hv; exact ⟨cs, h⟩) bs w.heap.size ns _ _ _ rfl hrg ?_ ?_)
      | go_in)
    · intro hc0 hl0
      go_wp2
      go_end0
      exact ⟨rfl, ⟨Dout, hout.mono (by omega), merged_says hM hl0 hsd hss⟩, hgw⟩
    · intro x c kl yd yp w1 cnt1 hkey hlx hv hat hrg1 hlt hg1 hs1 hen
      obtain ⟨x', ex, rfl, hwx⟩ := Maps.keyOf_int_inv Tryz.underlying3 hkey
      cases ex
      obtain ⟨cs', ec, hfit, hyd⟩ := RV_inv hv
      cases ec
      cases hyd
      have hout1 := hout.kept hg1 (fun e => by have := Option.some.inj e; omega)
      have lz := Lies.new w1 44 #[.int .i64 0, .string ⟨#[]⟩, .int .i64 0, .slice none 0 0, .slice none 0 0, .int .i64 0]
      have hsc := hfit.1
      have hoc := hfit.2
      have HF := Lib.hid hfit
      have HV := Lib.hid hv
      clear hfit hv hs1
      go_wp2_with (first
        | (refine wpList_store_rowTo rfl 44 (.tmp 5) (.tmp 12) rfl rfl w1.heap.size c rfl rfl 44 _ lz (by rw [size_T, hsc]) (by rw [hsc]; rfl) hoc ?_; rw [World.setRow_alloc_new])
        | (refine wpList_load_row rfl 44 (.tmp 5) rfl _ rfl 44 _ (0, 0) _ (Lies.new w1 44 _) Tryz.underlying44 rfl (by rw [size_T, hsc]) ?_)
        | (at_mapUpdate; refine wpList_mapUpdate_own _ rfl _ _ _ 129 rfl 3 44 keyedI Tryz.underlying129 (RV 6) bd _ _ rfl (hout1.alloc _) (by unfold maxLen; omega) _ _ _ rfl rfl hkey _ _ HV.out ?_; intro w2 hout2 hg2; go_frame)
        | go_in)
      have hrg2 := (hrg1.alloc (.cells c 44)).kept hg2 (fun e => hne (Option.some.inj e).symm) (fun e => by have := Option.some.inj e; omega)
      go_roundw
      case rel =>
        refine ⟨_, cnt1, _, hrg2, by omega, hout2.mono (by omega), merged_step hM hout.isMap (keyedI.key hkey) hat, (hgw.andThen hg1 (fun j hj => .inl (by cases hj; exact Nat.le_refl _))).andThen ((World.grownBy_alloc w1 _ none).but (some bd) |>.trans hg2) (fun j hj => .inr hj)⟩
      case measure => rw [hrg2.left_eq, hrg.left_eq]; exact hlt
end Go.Proofs.YtpbhndmfmnfeoaaGreat

/- merged: a new map of what some maps say. -/
namespace Go.Proofs.YtpbhndmfmnfeoaaGreat
open Go.RowKit Go.Maps

theorem SrcV.form {w : World} {u : Value} {xs : List Value} (h : SrcV w u xs) (hb : xs.length ≤ 1000000) : ∃ A c, u = .slice A xs.length c ∧ xs.length ≤ c ∧ ∀ (j : Nat) q, xs[j]? = some q → ∃ g o, A = some ⟨g, o, none⟩ ∧ w.cell? ⟨g, o + j, none⟩ = some q := by
  rcases h with ⟨rfl, rfl⟩ | ⟨ad, c, rfl, h1, h2⟩
  · exact ⟨_, _, rfl, Nat.le_refl _, fun j q hq => by simp at hq⟩
  · refine ⟨_, c, rfl, h1, fun j q hq => ?_⟩
    obtain ⟨g, o, sp⟩ := ad
    have h3 := h2 j q hq
    have hsp2 : sp = none := by
      have hlt := (List.getElem?_eq_some_iff.1 hq).1
      have h4 := h2 0 (xs[0]'(by omega)) (List.getElem?_eq_getElem (by omega))
      exact World.cell?_spot (a := ⟨g, o, sp⟩) h4
    subst hsp2
    refine ⟨g, o, rfl, ?_⟩
    have e : (⟨g, o, none⟩ : Addr).add j = ⟨g, o + j, none⟩ := by unfold Addr.add; split <;> simp_all
    rw [← e]
    exact h3
/-- A layer: the map's block, how many it says at most, what it says. -/
abbrev Ly := Nat × Nat × GMap
def lyV (l : Ly) : Value := .map (some l.1)
def lySum (ls : List Ly) : Nat := (ls.map fun l => l.2.1).sum
def lyOver (ls : List Ly) : GMap := ls.foldl (fun g l => overG g l.2.2) noG
theorem lySum_app (a b : List Ly) : lySum (a ++ b) = lySum a + lySum b := by simp [lySum]
theorem lySum_take (ls : List Ly) (k : Nat) : lySum (ls.take k) ≤ lySum ls := by
  have h : ls.take k ++ ls.drop k = ls := List.take_append_drop k ls
  have h2 := lySum_app (ls.take k) (ls.drop k)
  rw [h] at h2
  omega
theorem lyOver_app (a : List Ly) (l : Ly) : lyOver (a ++ [l]) = overG (lyOver a) l.2.2 := by simp [lyOver]

set_option maxHeartbeats 4000000 in
set_option maxRecDepth 100000 in
theorem mergedT_any (ls : List Ly) (v : Value) (w : World) (hv : SrcV w v (ls.map lyV)) (hl : ∀ l ∈ ls, MapI w 6 l.1 l.2.1 l.2.2) (hsum : lySum ls ≤ 500000) (hn : ls.length ≤ 100000) :
    Calls Tryz.prog 89 #[v] w fun e w' => e = .returned (.map (some w.heap.size)) ∧ MapI w' 6 w.heap.size (lySum ls) (lyOver ls) ∧ Below w.heap.size w w' := by
  obtain ⟨A, c, rfl, hc, hcell⟩ := hv.form (by simp; omega)
  simp only [List.length_map] at hc ⊢
  have HC := Lib.hid hcell
  have HL := Lib.hid hl
  have hmm := @run_makeMap Tryz.prog
  have hb0 := below_new w (.map #[] 0)
  have hst := MapI.made w 6
  obtain ⟨n, hnn⟩ : ∃ n, n = ls.length := ⟨_, rfl⟩
  have HN := Lib.hid hnn
  rw [← hnn] at hn hc ⊢
  have HS := Lib.hid hsum
  clear hcell hl hv hnn hsum
  go_enter Tryz.func89, Tryz.ntmps89
  go_wp2
  go_loopw [9] (fun i wr => ∃ k : Nat, k ≤ n ∧ i = .int .i64 k ∧ MapI wr 6 w.heap.size (lySum (ls.take k)) (lyOver (ls.take k)) ∧ Below w.heap.size w wr) (fun i _ => n - (intOf i).toNat)
  case atStart => exact ⟨0, Nat.zero_le _, rfl, hst, hb0⟩
  case round =>
    obtain ⟨k, hk, rfl, hM, hB⟩ := hrel
    clear hst
    by_cases hlt : k < n
    · obtain ⟨l, hl⟩ : ∃ l, ls[k]? = some l := ⟨_, List.getElem?_eq_getElem (by have := HN.out; omega)⟩
      have hlm : l ∈ ls := List.mem_of_getElem? hl
      obtain ⟨g, o, rfl, hcl⟩ := HC.out k (lyV l) (by rw [List.getElem?_map, hl]; rfl)
      have hgw := World.block_lt_of_cell? w _ hcl
      have c0 := (hB.cell (p := ⟨g, o + k, none⟩) hgw).trans hcl
      have hml := HL.out l hlm
      have hml2 := hml.later hB
      have hlw := hml.lt
      have hst2 : ls.take (k + 1) = ls.take k ++ [l] := take_step ls k l hl
      have hsm := lySum_take ls (k + 1)
      have hsm2 : lySum (ls.take (k + 1)) = lySum (ls.take k) + l.2.1 := by rw [hst2, lySum_app]; simp [lySum]
      have hov : lyOver (ls.take (k + 1)) = overG (lyOver (ls.take k)) l.2.2 := by rw [hst2, lyOver_app]
      have hcp := copyT_any w.heap.size l.1 _ _ _ _ wr hM hml2 (by omega) (by have := HS.out; omega)
      rw [← hov, ← hsm2] at hcp
      have HP := Lib.hid hcp
      have hkc : k < c := by omega
      unfold lyV at c0
      clear hcp hsm2 hov hsm hst2 hml hml2 hl hlm hcl hM
      go_wp2_with fail
      refine HP.out.mono ?_
      rintro e w2 ⟨rfl, hM2, hg2⟩
      go_wp2_with fail
      go_roundw
      case rel =>
        refine ⟨k + 1, by omega, by simp, hM2, hg2.os.trans hB.os, hg2.tape.trans hB.tape, hg2.output.trans hB.output, Nat.le_trans hB.size hg2.size, fun i hi => (hg2.block i (Nat.lt_of_lt_of_le hi hB.size) (fun e => by have := Option.some.inj e; omega)).trans (hB.block i hi)⟩
      case measure => (simp [intOf] <;> omega)
    · obtain rfl : k = n := by omega
      rw [List.take_of_length_le (by have := HN.out; omega)] at hM
      go_wp2
      go_ret
      exact ⟨rfl, hM, hB⟩
end Go.Proofs.YtpbhndmfmnfeoaaGreat
