/- The reference's SameRow and Same on what reads alike. -/
import Derived.Test.YthdfomcpoofkaaaMg13
import Derived.Test.YthdfomcpoofkaaaMg14
import Derived.Outline
namespace Go.Proofs.Ythdfomcpoofkaaa
open Go.RowKit

theorem StrR.form {w : World} {v : Value} {ls : List Str} (h : StrR w v ls) : ∃ A c, v = .slice A ls.length c ∧ ls.length ≤ c ∧ ∀ (j : Nat) s, ls[j]? = some s → ∃ g o, A = some ⟨g, o, none⟩ ∧ w.cell? ⟨g, o + j, none⟩ = some (.string (ba s)) := by
  rcases h.1 with ⟨rfl, e⟩ | ⟨ad, c, rfl, h1, h2⟩
  · obtain rfl : ls = [] := by simpa using e
    exact ⟨_, _, rfl, Nat.le_refl _, fun j q hq => by simp at hq⟩
  · simp only [List.length_map] at h1 ⊢
    refine ⟨_, c, rfl, h1, fun j s hs => ?_⟩
    obtain ⟨g, o, sp⟩ := ad
    have hq : (ls.map encS)[j]? = some (.string (ba s)) := by rw [List.getElem?_map, hs]; rfl
    have h3 := h2 j _ hq
    have hsp2 : sp = none := by
      have hlt := (List.getElem?_eq_some_iff.1 hq).1
      have h4 := h2 0 ((ls.map encS)[0]'(by omega)) (List.getElem?_eq_getElem (by omega))
      exact World.cell?_spot (a := ⟨g, o, sp⟩) h4
    subst hsp2
    refine ⟨g, o, rfl, ?_⟩
    have e : (⟨g, o, none⟩ : Addr).add j = ⟨g, o + j, none⟩ := by unfold Addr.add; split <;> simp_all
    rw [← e]
    exact h3
set_option maxRecDepth 100000 in
set_option maxHeartbeats 4000000 in
theorem rsame_any (v u : Value) (L : List Str) (rv : Int) (w : World) (hv : StrR w v L) (hu : StrR w u L) :
    Calls Try.prog 16 #[.agg #[v, .int .i64 rv], .agg #[u, .int .i64 rv]] w fun e w' => e = .returned (.bool true) ∧ Below w.heap.size w w' := by
  have hb := hv.2
  obtain ⟨A, c, rfl, hc, hm⟩ := hv.form
  obtain ⟨B, d, rfl, hd, hm2⟩ := hu.form
  have hb1 := below_new w (.cells #[.slice A L.length c, .int .i64 rv] 26)
  have hb2 := hb1.alloc (by simp) (.cells #[.slice B L.length d, .int .i64 rv] 26)
  have HV := Lib.hid (fun (j : Nat) s (h : L[j]? = some s) => hm j s h)
  have HU := Lib.hid (fun (j : Nat) s (h : L[j]? = some s) => hm2 j s h)
  clear hv hu hm hm2
  obtain ⟨N, hN⟩ : ∃ N, N = L.length := ⟨_, rfl⟩
  have HN := Lib.hid hN
  rw [← hN] at hb hc hd hb2 ⊢
  clear hN
  go_enter Try.func16, Try.ntmps16
  have n0 := (Lies.new w 26 #[.slice A N c, .int .i64 rv]).alloc (.cells #[.slice B N d, .int .i64 rv] 26)
  have n1 := Lies.new' (w.alloc (.cells #[.slice A N c, .int .i64 rv] 26)) 26 #[.slice B N d, .int .i64 rv] (N := w.heap.size + 1) (by simp)
  have HN0 := Lib.hid n0
  have HN1 := Lib.hid n1
  have HB2 := Lib.hid hb2
  clear n0 n1 hb1 hb2
  go_wp2
  go_loopw [5] (fun i wr => ∃ k : Nat, k ≤ N ∧ i = .int .i64 k ∧ Below ((w.alloc (.cells #[.slice A N c, .int .i64 rv] 26)).alloc (.cells #[.slice B N d, .int .i64 rv] 26)).heap.size ((w.alloc (.cells #[.slice A N c, .int .i64 rv] 26)).alloc (.cells #[.slice B N d, .int .i64 rv] 26)) wr) (fun i _ => N - (intOf i).toNat)
  case atStart => exact ⟨0, Nat.zero_le _, rfl, Below.refl _ _⟩
  case round =>
    obtain ⟨k, hk, rfl, hB⟩ := hrel
    have c0 := (HN0.out.later hB).cell 0
    have c1 := (HN1.out.later hB).cell 0
    have hBw := HB2.out.trans (hB.mono HB2.out.size)
    by_cases hlt : k < N
    · obtain ⟨x, hx⟩ : ∃ x, L[k]? = some x := ⟨_, List.getElem?_eq_getElem (by have := HN.out; omega)⟩
      obtain ⟨g, o, rfl, h6⟩ := HV.out k x hx
      obtain ⟨g2, o2, rfl, h9⟩ := HU.out k x hx
      have z6 := (hBw.cell (p := ⟨g, o + k, none⟩) (World.block_lt_of_cell? w _ h6)).trans h6
      have z9 := (hBw.cell (p := ⟨g2, o2 + k, none⟩) (World.block_lt_of_cell? w _ h9)).trans h9
      have hS : wr.cell? ⟨w.heap.size, 0, none⟩ = some (.slice (some ⟨g, o, none⟩) N c) ∧ wr.cell? ⟨w.heap.size + 1, 0, none⟩ = some (.slice (some ⟨g2, o2, none⟩) N d) ∧ wr.cell? ⟨g, o + k, none⟩ = some (.string (ba x)) ∧ wr.cell? ⟨g2, o2 + k, none⟩ = some (.string (ba x)) := ⟨c0, c1, z6, z9⟩
      have HS := Lib.hid hS
      have HBr := Lib.hid hB
      have hlti : (k : Int) < (N : Int) := by omega
      have hkc : k < c := by omega
      have hkd : k < d := by omega
      clear h6 h9 hx hS hB c1 z6 z9 hBw
      go_wp2
      go_region_held3 (fun w' => w'.cell? ⟨w.heap.size, 0, none⟩ = some (.slice (some ⟨g, o, none⟩) N c) ∧ w'.cell? ⟨w.heap.size + 1, 0, none⟩ = some (.slice (some ⟨g2, o2, none⟩) N d) ∧ w'.cell? ⟨g, o + k, none⟩ = some (.string (ba x)) ∧ w'.cell? ⟨g2, o2 + k, none⟩ = some (.string (ba x)))
        (exact HS.out) (fail)
      go_wp2
      go_roundw
      case rel => exact ⟨k + 1, by omega, by go_num, HBr.out.drew⟩
      case measure => simp [intOf]; omega
    · obtain rfl : k = N := by omega
      go_wp2
      go_ret
      exact ⟨rfl, hBw⟩
theorem sizeL_len : ∀ l : List Ty, l.length ≤ Ty.sizeL l
  | [] => Nat.le_refl _
  | t :: l => by have := sizeL_len l; have := Ty.size_pos t; simp only [Ty.sizeL, List.length_cons]; omega
set_option maxRecDepth 100000 in
set_option maxHeartbeats 8000000 in
theorem same_in : ∀ (N : Nat) (t : Ty) (w : World) (l1 l2 : List Value), t.size ≤ N → N ≤ 1000000 → TRV w t l1 → TRV w t l2 →
    Calls Try.prog 15 #[.agg l1.toArray, .agg l2.toArray] w fun e w' => e = .returned (.bool true) ∧ Below w.heap.size w w'
  | 0, t, _, _, _, h, _, _, _ => by obtain ⟨k, nm, v, kids, ls, rv⟩ := t; simp only [Ty.size] at h; omega
  | N + 1, t, w, l1, l2, hsz, hN, ht, hu => by
    have ih := fun t w l1 l2 h => same_in N t w l1 l2 h (by omega)
    obtain ⟨k, nm, v, kids, ls, rv⟩ := t
    obtain ⟨kv, lv, rfl, hkv, hlv, hok, hks⟩ := ht
    obtain ⟨kv2, lv2, rfl, hkv2, hlv2, hok2, hks2⟩ := hu
    have hrs := fun w7 (hb : Below w.heap.size w w7) => rsame_any lv lv2 ls rv w7 (hlv.keep hb.block) (hlv2.keep hb.block)
    obtain ⟨A3, c3, rfl, hc3, ha3⟩ := hkv.form
    obtain ⟨B3, d3, rfl, hd3, hb3⟩ := hkv2.form
    obtain ⟨A4, m4, c4, rfl⟩ : ∃ A n c, lv = .slice A n c := by rcases hlv.1 with ⟨rfl, _⟩ | ⟨_, _, rfl, _⟩ <;> exact ⟨_, _, _, rfl⟩
    obtain ⟨B4, e4, d4, rfl⟩ : ∃ A n c, lv2 = .slice A n c := by rcases hlv2.1 with ⟨rfl, _⟩ | ⟨_, _, rfl, _⟩ <;> exact ⟨_, _, _, rfl⟩
    have hkl : kids.length ≤ N := by have := sizeL_len kids; simp only [Ty.size] at hsz; omega
    have hkz : ∀ t ∈ kids, t.size ≤ N := fun t ht => by have := size_kid ht; simp only [Ty.size] at hsz; omega
    obtain ⟨n, hn⟩ : ∃ n, n = kids.length := ⟨_, rfl⟩
    rw [← hn] at hc3 ha3 hd3 hb3 hkl hks hks2 ⊢
    unfold tyC
    obtain ⟨W, hW⟩ : ∃ W, W = (w.alloc (.cells #[.int .i64 k, .string (ba nm), .int .i64 v, .slice A3 n c3, .slice A4 m4 c4, .int .i64 rv] 28)).alloc (.cells #[.int .i64 k, .string (ba nm), .int .i64 v, .slice B3 n d3, .slice B4 e4 d4, .int .i64 rv] 28) := ⟨_, rfl⟩
    have hb : Below w.heap.size w W := by rw [hW]; exact ((Below.refl _ w).alloc (Nat.le_refl _) _).alloc (by simp) _
    have k0 : Lies W w.heap.size 28 #[.int .i64 k, .string (ba nm), .int .i64 v, .slice A3 n c3, .slice A4 m4 c4, .int .i64 rv] := by rw [hW]; exact (Lies.new _ _ _).alloc _
    have k1 : Lies W (w.heap.size + 1) 28 #[.int .i64 k, .string (ba nm), .int .i64 v, .slice B3 n d3, .slice B4 e4 d4, .int .i64 rv] := by rw [hW]; exact Lies.new' _ _ _ (by simp)
    have HW := Lib.hid hW
    have HB := Lib.hid hb
    have HK0 := Lib.hid k0
    have HK1 := Lib.hid k1
    have HRS := Lib.hid hrs
    have HKS := Lib.hid hks
    have HKS2 := Lib.hid hks2
    have HA3 := Lib.hid ha3
    have HB3 := Lib.hid hb3
    have HN := Lib.hid hn
    have HKZ := Lib.hid hkz
    have IH := Lib.hid ih
    clear hW hb hrs hks hks2 ha3 hb3 hn hkz ih hkv hkv2 hlv hlv2 hok hok2 hsz k0 k1
    go_enter Try.func15, Try.ntmps15
    go_wp2_with fail
    rw [← HW.out]
    refine (HRS.out W HB.out).mono ?_
    rintro e w1 ⟨rfl, hb1⟩
    have hBw1 := HB.out.trans (hb1.mono HB.out.size)
    have m0 := HK0.out.later hb1
    have m1 := HK1.out.later hb1
    have a0 := m0.cell 0
    have b0 := m1.cell 0
    have a1 := m0.cell 1
    have b1 := m1.cell 1
    have a2 := m0.cell 2
    have b2 := m1.cell 2
    have a3 := m0.cell 3
    have b3 := m1.cell 3
    have HBw1 := Lib.hid hBw1
    have HB1 := Lib.hid hb1
    clear m0 m1 hBw1 hb1
    go_wp2_with fail
    clear a0 b0 a1 b1 a2 b2 a3 b3
    go_loopw [6] (fun i wr => ∃ q : Nat, q ≤ n ∧ i = .int .i64 q ∧ Below w.heap.size w wr ∧ Below W.heap.size W wr) (fun i _ => n - (intOf i).toNat)
    case atStart => exact ⟨0, Nat.zero_le _, rfl, HBw1.out, HB1.out⟩
    case round =>
      obtain ⟨q, hq, rfl, hBw, hBW⟩ := hrel
      obtain ⟨wo, rfl⟩ : ∃ wo, wo = wr := ⟨_, rfl⟩
      have x3 := (HK0.out.later hBW).cell 3
      have y3 := (HK1.out.later hBW).cell 3
      by_cases hlt : q < n
      · obtain ⟨t, ht⟩ : ∃ t, kids[q]? = some t := ⟨_, List.getElem?_eq_getElem (by have := HN.out; omega)⟩
        obtain ⟨g, o, rfl⟩ := HA3.out (by omega)
        obtain ⟨g2, o2, rfl⟩ := HB3.out (by omega)
        obtain ⟨l, _, hr, htv⟩ := (HKS.out q t ht).open
        obtain ⟨l', _, hr2, htv2⟩ := (HKS2.out q t ht).open
        have hgl := reads_block hr (by rw [htv.len]; decide)
        have hgl2 := reads_block hr2 (by rw [htv2.len]; decide)
        have htm : t ∈ kids := List.mem_of_getElem? ht
        have hcl := fun w7 (hb : Below w.heap.size w w7) => IH.out t w7 l l' (HKZ.out t htm) (htv.later hb) (htv2.later hb)
        obtain ⟨k', nm', v2, kids', ls', rv'⟩ := t
        obtain ⟨kv', lv', rfl, hkv', hlv', _, _⟩ := htv
        obtain ⟨kv2', lv2', rfl, hkv2', hlv2', _, _⟩ := htv2
        obtain ⟨A5, c5, rfl, _, _⟩ := hkv'.form
        obtain ⟨B5, d5, rfl, _, _⟩ := hkv2'.form
        obtain ⟨A6, n6, c6, rfl⟩ : ∃ A n c, lv' = .slice A n c := by rcases hlv'.1 with ⟨rfl, _⟩ | ⟨_, _, rfl, _⟩ <;> exact ⟨_, _, _, rfl⟩
        obtain ⟨B6, m6, d6, rfl⟩ : ∃ A n c, lv2' = .slice A n c := by rcases hlv2'.1 with ⟨rfl, _⟩ | ⟨_, _, rfl, _⟩ <;> exact ⟨_, _, _, rfl⟩
        have hr' : ReadsAt wo (kidAt (.slice (some ⟨g, o, none⟩) n c3) q) (tyC k' nm' v2 (.slice A5 kids'.length c5) (.slice A6 n6 c6) rv') := hr.keep (hBw.block _ hgl)
        have hr2' : ReadsAt wo (kidAt (.slice (some ⟨g2, o2, none⟩) n d3) q) (tyC k' nm' v2 (.slice B5 kids'.length d5) (.slice B6 m6 d6) rv') := hr2.keep (hBw.block _ hgl2)
        obtain ⟨y0, y1, y2, y33, y4, y5⟩ := reads6 (b := g) (o := o + q * 6) hr'
        obtain ⟨z0, z1, z2, z3, z4, z5⟩ := reads6 (b := g2) (o := o2 + q * 6) hr2'
        have hgw : g < wo.heap.size := Nat.lt_of_lt_of_le hgl hBw.size
        have hgw2 : g2 < wo.heap.size := Nat.lt_of_lt_of_le hgl2 hBw.size
        have hw0 : w.heap.size < wo.heap.size := (HK0.out.later hBW).lt
        have hw1 : w.heap.size + 1 < wo.heap.size := (HK1.out.later hBW).lt
        have hk : ∀ V : World, Below wo.heap.size wo V → (V.cell? ⟨w.heap.size, 3, none⟩ = some (.slice (some ⟨g, o, none⟩) n c3) ∧ V.cell? ⟨w.heap.size + 1, 3, none⟩ = some (.slice (some ⟨g2, o2, none⟩) n d3)) ∧ (V.cell? ⟨g, o + q * 6, none⟩ = some (.int .i64 k') ∧ V.cell? ⟨g, o + q * 6 + 1, none⟩ = some (.string (ba nm')) ∧ V.cell? ⟨g, o + q * 6 + 2, none⟩ = some (.int .i64 v2) ∧ V.cell? ⟨g, o + q * 6 + 3, none⟩ = some (.slice A5 kids'.length c5) ∧ V.cell? ⟨g, o + q * 6 + 4, none⟩ = some (.slice A6 n6 c6) ∧ V.cell? ⟨g, o + q * 6 + 5, none⟩ = some (.int .i64 rv')) ∧ (V.cell? ⟨g2, o2 + q * 6, none⟩ = some (.int .i64 k') ∧ V.cell? ⟨g2, o2 + q * 6 + 1, none⟩ = some (.string (ba nm')) ∧ V.cell? ⟨g2, o2 + q * 6 + 2, none⟩ = some (.int .i64 v2) ∧ V.cell? ⟨g2, o2 + q * 6 + 3, none⟩ = some (.slice B5 kids'.length d5) ∧ V.cell? ⟨g2, o2 + q * 6 + 4, none⟩ = some (.slice B6 m6 d6) ∧ V.cell? ⟨g2, o2 + q * 6 + 5, none⟩ = some (.int .i64 rv')) := fun V hb => by
          refine ⟨⟨?_, ?_⟩, ⟨?_, ?_, ?_, ?_, ?_, ?_⟩, ⟨?_, ?_, ?_, ?_, ?_, ?_⟩⟩
          · exact (hb.cell (p := ⟨w.heap.size, 3, none⟩) hw0).trans x3
          · exact (hb.cell (p := ⟨w.heap.size + 1, 3, none⟩) hw1).trans y3
          · exact (hb.cell (p := ⟨g, o + q * 6, none⟩) hgw).trans y0
          · exact (hb.cell (p := ⟨g, o + q * 6 + 1, none⟩) hgw).trans y1
          · exact (hb.cell (p := ⟨g, o + q * 6 + 2, none⟩) hgw).trans y2
          · exact (hb.cell (p := ⟨g, o + q * 6 + 3, none⟩) hgw).trans y33
          · exact (hb.cell (p := ⟨g, o + q * 6 + 4, none⟩) hgw).trans y4
          · exact (hb.cell (p := ⟨g, o + q * 6 + 5, none⟩) hgw).trans y5
          · exact (hb.cell (p := ⟨g2, o2 + q * 6, none⟩) hgw2).trans z0
          · exact (hb.cell (p := ⟨g2, o2 + q * 6 + 1, none⟩) hgw2).trans z1
          · exact (hb.cell (p := ⟨g2, o2 + q * 6 + 2, none⟩) hgw2).trans z2
          · exact (hb.cell (p := ⟨g2, o2 + q * 6 + 3, none⟩) hgw2).trans z3
          · exact (hb.cell (p := ⟨g2, o2 + q * 6 + 4, none⟩) hgw2).trans z4
          · exact (hb.cell (p := ⟨g2, o2 + q * 6 + 5, none⟩) hgw2).trans z5
        have HK := Lib.hid hk
        have HCL := Lib.hid hcl
        have HBw := Lib.hid hBw
        have HBW := Lib.hid hBW
        have hdr : Below wo.heap.size wo wo.drew := (Below.refl _ _).drew
        have hdw : Below w.heap.size w wo.drew := hBw.drew
        have hqc : q < c3 := by omega
        have hqd : q < d3 := by omega
        have hlti : (q : Int) < (n : Int) := by omega
        unfold tyC at HCL
        clear hk hcl hr hr2 hr' hr2' y3 y0 y1 y2 y33 y4 y5 z0 z1 z2 z3 z4 z5 hBw hBW hgl hgl2 htm ht hkv' hkv2' hlv' hlv2' hgw hgw2 hw0 hw1
        go_wp2_with fail
        go_region_held3 (fun VV => (VV.cell? ⟨w.heap.size, 3, none⟩ = some (.slice (some ⟨g, o, none⟩) n c3) ∧ VV.cell? ⟨w.heap.size + 1, 3, none⟩ = some (.slice (some ⟨g2, o2, none⟩) n d3)) ∧ (VV.cell? ⟨g, o + q * 6, none⟩ = some (.int .i64 k') ∧ VV.cell? ⟨g, o + q * 6 + 1, none⟩ = some (.string (ba nm')) ∧ VV.cell? ⟨g, o + q * 6 + 2, none⟩ = some (.int .i64 v2) ∧ VV.cell? ⟨g, o + q * 6 + 3, none⟩ = some (.slice A5 kids'.length c5) ∧ VV.cell? ⟨g, o + q * 6 + 4, none⟩ = some (.slice A6 n6 c6) ∧ VV.cell? ⟨g, o + q * 6 + 5, none⟩ = some (.int .i64 rv')) ∧ (VV.cell? ⟨g2, o2 + q * 6, none⟩ = some (.int .i64 k') ∧ VV.cell? ⟨g2, o2 + q * 6 + 1, none⟩ = some (.string (ba nm')) ∧ VV.cell? ⟨g2, o2 + q * 6 + 2, none⟩ = some (.int .i64 v2) ∧ VV.cell? ⟨g2, o2 + q * 6 + 3, none⟩ = some (.slice B5 kids'.length d5) ∧ VV.cell? ⟨g2, o2 + q * 6 + 4, none⟩ = some (.slice B6 m6 d6) ∧ VV.cell? ⟨g2, o2 + q * 6 + 5, none⟩ = some (.int .i64 rv')))
          (first | with_reducible exact HK.out _ hdr | with_reducible exact HK.out _ hb5)
          (first | (go_at_call 15; refine (HCL.out wo.drew hdw).mono ?_; rintro e w5 ⟨rfl, hb5a⟩; have hb5 : Below wo.heap.size wo w5 := hdr.trans hb5a))
        go_wp2_with fail
        go_roundw
        case rel => exact ⟨q + 1, by omega, by simp, HBw.out.trans (hb5.mono HBw.out.size), HBW.out.trans (hb5.mono HBW.out.size)⟩
        case measure => (simp [intOf] <;> omega)
      · obtain rfl : q = n := by omega
        go_wp2
        go_ret
        exact ⟨rfl, hBw⟩
theorem same_any (t : Ty) (w : World) (l1 l2 : List Value) (hsz : t.size ≤ 1000000) (h1 : TRV w t l1) (h2 : TRV w t l2) :
    Calls Try.prog 15 #[.agg l1.toArray, .agg l2.toArray] w fun e w' => e = .returned (.bool true) ∧ Below w.heap.size w w' := same_in 1000000 t w l1 l2 hsz (Nat.le_refl _) h1 h2
end Go.Proofs.Ythdfomcpoofkaaa

/- The reference's SameRow decides whether two rows read alike. -/
namespace Go.Proofs.Ythdfomcpoofkaaa
open Go.RowKit

theorem baS_toList (l : List UInt8) : (ba l).toList = l := by rw [Lib.toList_data]; simp [ba]
set_option maxRecDepth 100000 in
set_option maxHeartbeats 4000000 in
theorem rsameD_any (v u : Value) (L M : List Str) (rv ru : Int) (w : World) (hv : StrR w v L) (hu : StrR w u M) :
    Calls Try.prog 16 #[.agg #[v, .int .i64 rv], .agg #[u, .int .i64 ru]] w fun e w' => ∃ b, e = .returned (.bool b) ∧ (b = true ↔ L = M ∧ rv = ru) ∧ Below w.heap.size w w' := by
  have hb := hv.2
  obtain ⟨A, c, rfl, hc, hm⟩ := hv.form
  have hbu := hu.2
  obtain ⟨B, d, rfl, hd, hm2⟩ := hu.form
  have hb1 := below_new w (.cells #[.slice A L.length c, .int .i64 rv] 26)
  have hb2 := hb1.alloc (by simp) (.cells #[.slice B M.length d, .int .i64 ru] 26)
  have HV := Lib.hid (fun (j : Nat) s (h : L[j]? = some s) => hm j s h)
  have HU := Lib.hid (fun (j : Nat) s (h : M[j]? = some s) => hm2 j s h)
  clear hv hu hm hm2
  obtain ⟨N, hN⟩ : ∃ N, N = L.length := ⟨_, rfl⟩
  obtain ⟨K, hK⟩ : ∃ K, K = M.length := ⟨_, rfl⟩
  have HN := Lib.hid hN
  have HK := Lib.hid hK
  rw [← hN] at hb hc hb2
  rw [← hK] at hbu hd hb2
  rw [← hN, ← hK]
  clear hN hK
  have n0 := (Lies.new w 26 #[.slice A N c, .int .i64 rv]).alloc (.cells #[.slice B K d, .int .i64 ru] 26)
  have n1 := Lies.new' (w.alloc (.cells #[.slice A N c, .int .i64 rv] 26)) 26 #[.slice B K d, .int .i64 ru] (N := w.heap.size + 1) (by simp)
  have HN0 := Lib.hid n0
  have HN1 := Lib.hid n1
  have HB2 := Lib.hid hb2
  clear n0 n1 hb1
  by_cases hrv : rv = ru
  · subst hrv
    by_cases hNK : N = K
    · subst hNK
      clear hb2
      go_enter Try.func16, Try.ntmps16
      go_wp2
      go_loopw [5] (fun i wr => ∃ k : Nat, k ≤ N ∧ i = .int .i64 k ∧ L.take k = M.take k ∧ Below ((w.alloc (.cells #[.slice A N c, .int .i64 rv] 26)).alloc (.cells #[.slice B N d, .int .i64 rv] 26)).heap.size ((w.alloc (.cells #[.slice A N c, .int .i64 rv] 26)).alloc (.cells #[.slice B N d, .int .i64 rv] 26)) wr) (fun i _ => N - (intOf i).toNat)
      case atStart => exact ⟨0, Nat.zero_le _, rfl, rfl, Below.refl _ _⟩
      case round =>
        obtain ⟨k, hk, rfl, htk, hB⟩ := hrel
        have HTK := Lib.hid htk
        have c0 := (HN0.out.later hB).cell 0
        have c1 := (HN1.out.later hB).cell 0
        have hBw := HB2.out.trans (hB.mono HB2.out.size)
        by_cases hlt : k < N
        · obtain ⟨x, hx⟩ : ∃ x, L[k]? = some x := ⟨_, List.getElem?_eq_getElem (by have := HN.out; omega)⟩
          obtain ⟨y, hy⟩ : ∃ y, M[k]? = some y := ⟨_, List.getElem?_eq_getElem (by have := HK.out; omega)⟩
          obtain ⟨g, o, rfl, h6⟩ := HV.out k x hx
          obtain ⟨g2, o2, rfl, h9⟩ := HU.out k y hy
          have z6 := (hBw.cell (p := ⟨g, o + k, none⟩) (World.block_lt_of_cell? w _ h6)).trans h6
          have z9 := (hBw.cell (p := ⟨g2, o2 + k, none⟩) (World.block_lt_of_cell? w _ h9)).trans h9
          have hS : wr.cell? ⟨w.heap.size, 0, none⟩ = some (.slice (some ⟨g, o, none⟩) N c) ∧ wr.cell? ⟨w.heap.size + 1, 0, none⟩ = some (.slice (some ⟨g2, o2, none⟩) N d) ∧ wr.cell? ⟨g, o + k, none⟩ = some (.string (ba x)) ∧ wr.cell? ⟨g2, o2 + k, none⟩ = some (.string (ba y)) := ⟨c0, c1, z6, z9⟩
          have HS := Lib.hid hS
          have HBr := Lib.hid hB
          have HBW := Lib.hid hBw
          have hlti : (k : Int) < (N : Int) := by omega
          have hkc : k < c := by omega
          have hkd : k < d := by omega
          have HT1 := Lib.hid (take_step L k x hx)
          have HT2 := Lib.hid (take_step M k y hy)
          have HX := Lib.hid hx
          have HY := Lib.hid hy
          clear h6 h9 hx hy hS hB c1 z6 z9 hBw htk
          by_cases hxy : x = y
          · subst hxy
            go_wp2
            go_region_held3 (fun w' => w'.cell? ⟨w.heap.size, 0, none⟩ = some (.slice (some ⟨g, o, none⟩) N c) ∧ w'.cell? ⟨w.heap.size + 1, 0, none⟩ = some (.slice (some ⟨g2, o2, none⟩) N d) ∧ w'.cell? ⟨g, o + k, none⟩ = some (.string (ba x)) ∧ w'.cell? ⟨g2, o2 + k, none⟩ = some (.string (ba x)))
              (exact HS.out) (fail)
            go_wp2
            go_roundw
            case rel => exact ⟨k + 1, by omega, by go_num, by rw [HT1.out, HT2.out, HTK.out], HBr.out.drew⟩
            case measure => simp [intOf]; omega
          · have hbne : ((ba x).toList == (ba y).toList) = false := by simpa [baS_toList] using hxy
            go_wp2
            go_region_held3 (fun w' => w'.cell? ⟨w.heap.size, 0, none⟩ = some (.slice (some ⟨g, o, none⟩) N c) ∧ w'.cell? ⟨w.heap.size + 1, 0, none⟩ = some (.slice (some ⟨g2, o2, none⟩) N d) ∧ w'.cell? ⟨g, o + k, none⟩ = some (.string (ba x)) ∧ w'.cell? ⟨g2, o2 + k, none⟩ = some (.string (ba y)))
              (exact HS.out) (fail)
            go_wp2
            go_ret
            refine ⟨false, rfl, ⟨fun h => (by cases h), fun h => absurd ?_ hxy⟩, HBW.out.drew⟩
            have e1 := HX.out
            have e2 := HY.out
            rw [h.1, e2] at e1
            injection e1 with e1
            exact e1.symm
        · obtain rfl : k = N := by omega
          go_wp2
          go_ret
          refine ⟨true, rfl, ⟨fun _ => ⟨?_, (by first | rfl | trivial)⟩, fun _ => rfl⟩, hBw⟩
          have e := HTK.out
          have e1 := HN.out
          have e2 := HK.out
          rw [List.take_of_length_le (by omega), List.take_of_length_le (by omega)] at e
          exact e
    · have hNKi : ¬ (N : Int) = (K : Int) := by omega
      have n0 := HN0.out
      have n1 := HN1.out
      have c0 := n0.cell 0
      have c1 := n0.cell 1
      have c2 := n1.cell 0
      have c3 := n1.cell 1
      clear n0 n1
      go_enter Try.func16, Try.ntmps16
      go_wp2
      go_ret
      refine ⟨false, rfl, ⟨fun h => (by cases h), fun h => absurd ?_ hNK⟩, hb2⟩
      rw [HN.out, HK.out, h.1]
  · go_enter Try.func16, Try.ntmps16
    go_wp2
    go_ret
    exact ⟨false, rfl, ⟨fun h => (by cases h), fun h => absurd h.2 hrv⟩, hb2⟩
end Go.Proofs.Ythdfomcpoofkaaa
