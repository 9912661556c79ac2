/- The reference's Same decides whether two types read alike. -/
import Derived.Test.YtpbhndmfmnfeoaaGreatSdR
import Derived.Outline
namespace Go.Proofs.YtpbhndmfmnfeoaaGreat
open Go.RowKit

set_option maxRecDepth 100000 in
set_option maxHeartbeats 8000000 in
theorem sameD_step (N : Nat) (hN : N ≤ 1000000) (ih : ∀ (t u : Ty) (w : World) (l1 l2 : List Value), t.size ≤ N → u.size ≤ N → TRV w t l1 → TRV w u l2 →
      Calls Tryz.prog 15 #[.agg l1.toArray, .agg l2.toArray] w fun e w' => ∃ b, e = .returned (.bool b) ∧ (b = true ↔ t = u) ∧ Below w.heap.size w w')
    (t u : Ty) (w : World) (l1 l2 : List Value) (hsz : t.size ≤ N + 1) (hsu : u.size ≤ N + 1) (ht : TRV w t l1) (hu : TRV w u l2) :
    Calls Tryz.prog 15 #[.agg l1.toArray, .agg l2.toArray] w fun e w' => ∃ b, e = .returned (.bool b) ∧ (b = true ↔ t = u) ∧ Below w.heap.size w w' := by
  obtain ⟨k, nm, v, kids, ls, rv⟩ := t
  obtain ⟨ku, nmu, vu, kidsu, lsu, rvu⟩ := u
  obtain ⟨kv, lv, rfl, hkv, hlv, hok, hks⟩ := ht
  obtain ⟨kv2, lv2, rfl, hkv2, hlv2, hok2, hks2⟩ := hu
  have hrs := fun w7 (hb : Below w.heap.size w w7) => rsameD_any lv lv2 ls lsu rv rvu w7 (hlv.keep hb.block) (hlv2.keep hb.block)
  obtain ⟨A3, c3, rfl, hc3, ha3⟩ := hkv.form
  obtain ⟨B3, d3, rfl, hd3, hb3⟩ := hkv2.form
  obtain ⟨A4, m4, c4, rfl⟩ : ∃ A n c, lv = .slice A n c := by rcases hlv.1 with ⟨rfl, _⟩ | ⟨_, _, rfl, _⟩ <;> exact ⟨_, _, _, rfl⟩
  obtain ⟨B4, e4, d4, rfl⟩ : ∃ A n c, lv2 = .slice A n c := by rcases hlv2.1 with ⟨rfl, _⟩ | ⟨_, _, rfl, _⟩ <;> exact ⟨_, _, _, rfl⟩
  have hkl : kids.length ≤ N := by have := sizeL_len kids; simp only [Ty.size] at hsz; omega
  have hkl2 : kidsu.length ≤ N := by have := sizeL_len kidsu; simp only [Ty.size] at hsu; omega
  have hkz : ∀ t ∈ kids, t.size ≤ N := fun t ht => by have := size_kid ht; simp only [Ty.size] at hsz; omega
  have hkz2 : ∀ t ∈ kidsu, t.size ≤ N := fun t ht => by have := size_kid ht; simp only [Ty.size] at hsu; omega
  obtain ⟨n, hn⟩ : ∃ n, n = kids.length := ⟨_, rfl⟩
  obtain ⟨nu, hnu⟩ : ∃ n, n = kidsu.length := ⟨_, rfl⟩
  rw [← hn] at hc3 ha3 hkl hks ⊢
  rw [← hnu] at hd3 hb3 hkl2 hks2 ⊢
  unfold tyC
  obtain ⟨W, hW⟩ : ∃ W, W = (w.alloc (.cells #[.int .i64 k, .string (ba nm), .int .i64 v, .slice A3 n c3, .slice A4 m4 c4, .int .i64 rv] 44)).alloc (.cells #[.int .i64 ku, .string (ba nmu), .int .i64 vu, .slice B3 nu d3, .slice B4 e4 d4, .int .i64 rvu] 44) := ⟨_, rfl⟩
  have hb : Below w.heap.size w W := by rw [hW]; exact ((Below.refl _ w).alloc (Nat.le_refl _) _).alloc (by simp) _
  have k0 : Lies W w.heap.size 44 #[.int .i64 k, .string (ba nm), .int .i64 v, .slice A3 n c3, .slice A4 m4 c4, .int .i64 rv] := by rw [hW]; exact (Lies.new _ _ _).alloc _
  have k1 : Lies W (w.heap.size + 1) 44 #[.int .i64 ku, .string (ba nmu), .int .i64 vu, .slice B3 nu d3, .slice B4 e4 d4, .int .i64 rvu] := by rw [hW]; exact Lies.new' _ _ _ (by simp)
  have HW := Lib.hid hW
  have HB := Lib.hid hb
  have HK0 := Lib.hid k0
  have HK1 := Lib.hid k1
  have HRS := Lib.hid hrs
  have HKS := Lib.hid hks
  have HKS2 := Lib.hid hks2
  have HA3 := Lib.hid ha3
  have HB3 := Lib.hid hb3
  have HN := Lib.hid hn
  have HNU := Lib.hid hnu
  have HKZ := Lib.hid hkz
  have HKZ2 := Lib.hid hkz2
  have IH := Lib.hid ih
  clear hW hb hrs hks hks2 ha3 hb3 hn hnu hkz hkz2 ih hkv hkv2 hlv hlv2 hok hok2 hsz hsu k0 k1
  go_enter Tryz.func15, Tryz.ntmps15
  go_wp2_with fail
  rw [← HW.out]
  refine (HRS.out W HB.out).mono ?_
  rintro e w1 ⟨b0, rfl, hb0, hb1⟩
  have HB0 := Lib.hid hb0
  have hBw1 := HB.out.trans (hb1.mono HB.out.size)
  have m0 := HK0.out.later hb1
  have m1 := HK1.out.later hb1
  have a0 := m0.cell 0
  have b0' := m1.cell 0
  have a1 := m0.cell 1
  have b1 := m1.cell 1
  have a2 := m0.cell 2
  have b2 := m1.cell 2
  have a3 := m0.cell 3
  have b3 := m1.cell 3
  have HBw1 := Lib.hid hBw1
  have HB1 := Lib.hid hb1
  clear m0 m1 hBw1 hb1 hb0
  by_cases hkk : k = ku
  case neg =>
    go_wp2_with fail
    go_ret
    exact ⟨false, rfl, ⟨fun h => (by cases h), fun h => absurd (by injection h) hkk⟩, HBw1.out⟩
  subst hkk
  by_cases hnn : nm = nmu
  case neg =>
    have hbne : ((ba nm).toList == (ba nmu).toList) = false := by simpa [baS_toList] using hnn
    go_wp2_with fail
    go_ret
    exact ⟨false, rfl, ⟨fun h => (by cases h), fun h => absurd (by injection h) hnn⟩, HBw1.out⟩
  subst hnn
  by_cases hvv : v = vu
  case neg =>
    go_wp2_with fail
    go_ret
    exact ⟨false, rfl, ⟨fun h => (by cases h), fun h => absurd (by injection h) hvv⟩, HBw1.out⟩
  subst hvv
  by_cases hll : n = nu
  case neg =>
    have hlli : ¬ (n : Int) = (nu : Int) := by omega
    go_wp2_with fail
    go_ret
    refine ⟨false, rfl, ⟨fun h => (by cases h), fun h => absurd ?_ hll⟩, HBw1.out⟩
    rw [HN.out, HNU.out]
    injection h with _ _ _ h
    rw [h]
  subst hll
  cases b0 with
  | false =>
    go_wp2_with fail
    go_ret
    refine ⟨false, rfl, ⟨fun h => (by cases h), fun h => ?_⟩, HBw1.out⟩
    injection h with _ _ _ _ h1 h2
    exact HB0.out.2 ⟨h1, h2⟩
  | true =>
  obtain ⟨hls, hrv⟩ := HB0.out.1 rfl
  have HLS := Lib.hid hls
  have HRV := Lib.hid hrv
  clear hls hrv
  go_wp2_with fail
  clear a0 b0' a1 b1 a2 b2 a3 b3
  go_loopw [6] (fun i wr => ∃ q : Nat, q ≤ n ∧ i = .int .i64 q ∧ kids.take q = kidsu.take q ∧ Below w.heap.size w wr ∧ Below W.heap.size W wr) (fun i _ => n - (intOf i).toNat)
  case atStart => exact ⟨0, Nat.zero_le _, rfl, rfl, HBw1.out, HB1.out⟩
  case round =>
    obtain ⟨q, hq, rfl, htk, hBw, hBW⟩ := hrel
    obtain ⟨wo, rfl⟩ : ∃ wo, wo = wr := ⟨_, rfl⟩
    have HTK := Lib.hid htk
    clear htk
    have x3 := (HK0.out.later hBW).cell 3
    have y3 := (HK1.out.later hBW).cell 3
    by_cases hlt : q < n
    · obtain ⟨t, ht⟩ : ∃ t, kids[q]? = some t := ⟨_, List.getElem?_eq_getElem (by have := HN.out; omega)⟩
      obtain ⟨u, hu⟩ : ∃ t, kidsu[q]? = some t := ⟨_, List.getElem?_eq_getElem (by have := HNU.out; omega)⟩
      obtain ⟨g, o, rfl⟩ := HA3.out (by omega)
      obtain ⟨g2, o2, rfl⟩ := HB3.out (by omega)
      obtain ⟨l, _, hr, htv⟩ := (HKS.out q t ht).open
      obtain ⟨l', _, hr2, htv2⟩ := (HKS2.out q u hu).open
      have hgl := reads_block hr (by rw [htv.len]; decide)
      have hgl2 := reads_block hr2 (by rw [htv2.len]; decide)
      have htm : t ∈ kids := List.mem_of_getElem? ht
      have hum : u ∈ kidsu := List.mem_of_getElem? hu
      have hcl := fun w7 (hb : Below w.heap.size w w7) => IH.out t u w7 l l' (HKZ.out t htm) (HKZ2.out u hum) (htv.later hb) (htv2.later hb)
      have HT1 := Lib.hid (take_step kids q t ht)
      have HT2 := Lib.hid (take_step kidsu q u hu)
      have HX := Lib.hid ht
      have HY := Lib.hid hu
      obtain ⟨k', nm', v2, kids', ls', rv'⟩ := t
      obtain ⟨k'', nm'', v2', kids'', ls'', rv''⟩ := u
      obtain ⟨kv', lv', rfl, hkv', hlv', _, _⟩ := htv
      obtain ⟨kv2', lv2', rfl, hkv2', hlv2', _, _⟩ := htv2
      obtain ⟨A5, c5, rfl, _, _⟩ := hkv'.form
      obtain ⟨B5, d5, rfl, _, _⟩ := hkv2'.form
      obtain ⟨A6, n6, c6, rfl⟩ : ∃ A n c, lv' = .slice A n c := by rcases hlv'.1 with ⟨rfl, _⟩ | ⟨_, _, rfl, _⟩ <;> exact ⟨_, _, _, rfl⟩
      obtain ⟨B6, m6, d6, rfl⟩ : ∃ A n c, lv2' = .slice A n c := by rcases hlv2'.1 with ⟨rfl, _⟩ | ⟨_, _, rfl, _⟩ <;> exact ⟨_, _, _, rfl⟩
      have hr' : ReadsAt wo (kidAt (.slice (some ⟨g, o, none⟩) n c3) q) (tyC k' nm' v2 (.slice A5 kids'.length c5) (.slice A6 n6 c6) rv') := hr.keep (hBw.block _ hgl)
      have hr2' : ReadsAt wo (kidAt (.slice (some ⟨g2, o2, none⟩) n d3) q) (tyC k'' nm'' v2' (.slice B5 kids''.length d5) (.slice B6 m6 d6) rv'') := hr2.keep (hBw.block _ hgl2)
      obtain ⟨y0, y1, y2, y33, y4, y5⟩ := reads6 (b := g) (o := o + q * 6) hr'
      obtain ⟨z0, z1, z2, z3, z4, z5⟩ := reads6 (b := g2) (o := o2 + q * 6) hr2'
      have hgw : g < wo.heap.size := Nat.lt_of_lt_of_le hgl hBw.size
      have hgw2 : g2 < wo.heap.size := Nat.lt_of_lt_of_le hgl2 hBw.size
      have hw0 : w.heap.size < wo.heap.size := (HK0.out.later hBW).lt
      have hw1 : w.heap.size + 1 < wo.heap.size := (HK1.out.later hBW).lt
      have hk : ∀ V : World, Below wo.heap.size wo V → (V.cell? ⟨w.heap.size, 3, none⟩ = some (.slice (some ⟨g, o, none⟩) n c3) ∧ V.cell? ⟨w.heap.size + 1, 3, none⟩ = some (.slice (some ⟨g2, o2, none⟩) n d3)) ∧ (V.cell? ⟨g, o + q * 6, none⟩ = some (.int .i64 k') ∧ V.cell? ⟨g, o + q * 6 + 1, none⟩ = some (.string (ba nm')) ∧ V.cell? ⟨g, o + q * 6 + 2, none⟩ = some (.int .i64 v2) ∧ V.cell? ⟨g, o + q * 6 + 3, none⟩ = some (.slice A5 kids'.length c5) ∧ V.cell? ⟨g, o + q * 6 + 4, none⟩ = some (.slice A6 n6 c6) ∧ V.cell? ⟨g, o + q * 6 + 5, none⟩ = some (.int .i64 rv')) ∧ (V.cell? ⟨g2, o2 + q * 6, none⟩ = some (.int .i64 k'') ∧ V.cell? ⟨g2, o2 + q * 6 + 1, none⟩ = some (.string (ba nm'')) ∧ V.cell? ⟨g2, o2 + q * 6 + 2, none⟩ = some (.int .i64 v2') ∧ V.cell? ⟨g2, o2 + q * 6 + 3, none⟩ = some (.slice B5 kids''.length d5) ∧ V.cell? ⟨g2, o2 + q * 6 + 4, none⟩ = some (.slice B6 m6 d6) ∧ V.cell? ⟨g2, o2 + q * 6 + 5, none⟩ = some (.int .i64 rv'')) := fun V hb => by
        refine ⟨⟨?_, ?_⟩, ⟨?_, ?_, ?_, ?_, ?_, ?_⟩, ⟨?_, ?_, ?_, ?_, ?_, ?_⟩⟩
        · exact (hb.cell (p := ⟨w.heap.size, 3, none⟩) hw0).trans x3
        · exact (hb.cell (p := ⟨w.heap.size + 1, 3, none⟩) hw1).trans y3
        · exact (hb.cell (p := ⟨g, o + q * 6, none⟩) hgw).trans y0
        · exact (hb.cell (p := ⟨g, o + q * 6 + 1, none⟩) hgw).trans y1
        · exact (hb.cell (p := ⟨g, o + q * 6 + 2, none⟩) hgw).trans y2
        · exact (hb.cell (p := ⟨g, o + q * 6 + 3, none⟩) hgw).trans y33
        · exact (hb.cell (p := ⟨g, o + q * 6 + 4, none⟩) hgw).trans y4
        · exact (hb.cell (p := ⟨g, o + q * 6 + 5, none⟩) hgw).trans y5
        · exact (hb.cell (p := ⟨g2, o2 + q * 6, none⟩) hgw2).trans z0
        · exact (hb.cell (p := ⟨g2, o2 + q * 6 + 1, none⟩) hgw2).trans z1
        · exact (hb.cell (p := ⟨g2, o2 + q * 6 + 2, none⟩) hgw2).trans z2
        · exact (hb.cell (p := ⟨g2, o2 + q * 6 + 3, none⟩) hgw2).trans z3
        · exact (hb.cell (p := ⟨g2, o2 + q * 6 + 4, none⟩) hgw2).trans z4
        · exact (hb.cell (p := ⟨g2, o2 + q * 6 + 5, none⟩) hgw2).trans z5
      have HK := Lib.hid hk
      have HCL := Lib.hid hcl
      have HBw := Lib.hid hBw
      have HBW := Lib.hid hBW
      have hdr : Below wo.heap.size wo wo.drew := (Below.refl _ _).drew
      have hdw : Below w.heap.size w wo.drew := hBw.drew
      have hqc : q < c3 := by omega
      have hqd : q < d3 := by omega
      have hlti : (q : Int) < (n : Int) := by omega
      unfold tyC at HCL
      clear hk hcl hr hr2 hr' hr2' y3 y0 y1 y2 y33 y4 y5 z0 z1 z2 z3 z4 z5 hBw hBW hgl hgl2 htm hum ht hu hkv' hkv2' hlv' hlv2' hgw hgw2 hw0 hw1
      go_wp2_with fail
      go_region_held3 (fun V => (V.cell? ⟨w.heap.size, 3, none⟩ = some (.slice (some ⟨g, o, none⟩) n c3) ∧ V.cell? ⟨w.heap.size + 1, 3, none⟩ = some (.slice (some ⟨g2, o2, none⟩) n d3)) ∧ (V.cell? ⟨g, o + q * 6, none⟩ = some (.int .i64 k') ∧ V.cell? ⟨g, o + q * 6 + 1, none⟩ = some (.string (ba nm')) ∧ V.cell? ⟨g, o + q * 6 + 2, none⟩ = some (.int .i64 v2) ∧ V.cell? ⟨g, o + q * 6 + 3, none⟩ = some (.slice A5 kids'.length c5) ∧ V.cell? ⟨g, o + q * 6 + 4, none⟩ = some (.slice A6 n6 c6) ∧ V.cell? ⟨g, o + q * 6 + 5, none⟩ = some (.int .i64 rv')) ∧ (V.cell? ⟨g2, o2 + q * 6, none⟩ = some (.int .i64 k'') ∧ V.cell? ⟨g2, o2 + q * 6 + 1, none⟩ = some (.string (ba nm'')) ∧ V.cell? ⟨g2, o2 + q * 6 + 2, none⟩ = some (.int .i64 v2') ∧ V.cell? ⟨g2, o2 + q * 6 + 3, none⟩ = some (.slice B5 kids''.length d5) ∧ V.cell? ⟨g2, o2 + q * 6 + 4, none⟩ = some (.slice B6 m6 d6) ∧ V.cell? ⟨g2, o2 + q * 6 + 5, none⟩ = some (.int .i64 rv'')))
        (first | with_reducible exact HK.out _ hdr | with_reducible exact HK.out _ hb5)
        (first | (go_at_call 15; refine (HCL.out wo.drew hdw).mono ?_; rintro e w5 ⟨b5, rfl, hiff, hb5a⟩; have HIF := Lib.hid hiff; have hb5 : Below wo.heap.size wo w5 := hdr.trans hb5a; clear hiff))
      cases b5 with
      | true =>
        go_wp2_with fail
        go_roundw
        case rel => exact ⟨q + 1, by omega, by simp, by rw [HT1.out, HT2.out, HTK.out, HIF.out.1 rfl], HBw.out.trans (hb5.mono HBw.out.size), HBW.out.trans (hb5.mono HBW.out.size)⟩
        case measure => (simp [intOf] <;> omega)
      | false =>
        go_wp2_with fail
        go_ret
        refine ⟨false, rfl, ⟨fun h => (by cases h), fun h => ?_⟩, HBw.out.trans (hb5.mono HBw.out.size)⟩
        injection h with _ _ _ h
        have e1 := HX.out
        rw [h, HY.out] at e1
        injection e1 with e1
        exact HIF.out.2 e1.symm
    · obtain rfl : q = n := by omega
      have e := HTK.out
      have e1 := HN.out
      have e2 := HNU.out
      rw [List.take_of_length_le (by omega), List.take_of_length_le (by omega)] at e
      have HE := Lib.hid e
      clear e e1 e2
      go_wp2
      go_ret
      exact ⟨true, rfl, ⟨fun _ => by rw [HE.out, HLS.out, HRV.out], fun _ => rfl⟩, hBw⟩
theorem sameD_in : ∀ (N : Nat) (t u : Ty) (w : World) (l1 l2 : List Value), N ≤ 1000000 → t.size ≤ N → u.size ≤ N → TRV w t l1 → TRV w u l2 →
    Calls Tryz.prog 15 #[.agg l1.toArray, .agg l2.toArray] w fun e w' => ∃ b, e = .returned (.bool b) ∧ (b = true ↔ t = u) ∧ Below w.heap.size w w'
  | 0, t, u, w, l1, l2, _, h, _, _, _ => by obtain ⟨k, nm, v, kids, ls, rv⟩ := t; simp only [Ty.size] at h; omega
  | N + 1, t, u, w, l1, l2, hN, h1, h2, h3, h4 => sameD_step N (by omega) (fun t u w l1 l2 => sameD_in N t u w l1 l2 (by omega)) t u w l1 l2 h1 h2 h3 h4
/-- The reference's Same decides whether two types are the same. -/
theorem sameD_any (t u : Ty) (w : World) (l1 l2 : List Value) (h1 : t.size ≤ 1000000) (h2 : u.size ≤ 1000000) (h3 : TRV w t l1) (h4 : TRV w u l2) :
    Calls Tryz.prog 15 #[.agg l1.toArray, .agg l2.toArray] w fun e w' => ∃ b, e = .returned (.bool b) ∧ (b = true ↔ t = u) ∧ Below w.heap.size w w' := sameD_in 1000000 t u w l1 l2 (Nat.le_refl _) h1 h2 h3 h4
end Go.Proofs.YtpbhndmfmnfeoaaGreat
