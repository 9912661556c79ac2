/- The reference's In: does a number stand in a list? -/
import Derived.Test.YtclaabnjokkbjaaMg09
import Derived.Test.YtclaabnjokkbjaaMg27
import Derived.Test.YtclaabnjokkbjaaMg06
import Derived.Test.YtclaabnjokkbjaaMg39
import Derived.Outline
import Derived.BigQuiet
import Derived.Sort.Walk0
namespace Go.Proofs.Ytclaabnjokkbjaa
open Go.RowKit

set_option maxRecDepth 100000 in
set_option maxHeartbeats 4000000 in
theorem refIn_any (w : World) (L : List Int) (v : Value) (n : Int) (hr : IntR w v L) (hm : L.length ≤ 100000000) :
    Calls Try.prog 29 #[v, .int .i64 n] w fun e w' => e = .returned (.bool (decide (n ∈ L))) ∧ Below w.heap.size w w' := by
  obtain ⟨A, cA, rfl, hcA, hmA, h4⟩ := hr
  obtain ⟨NA, hNA⟩ : ∃ N, N = L.length := ⟨_, rfl⟩
  have HNA := Lib.hid hNA
  have HV := Lib.hid h4
  rw [← hNA] at hcA hm ⊢
  clear hNA h4
  go_enter Try.func29, Try.ntmps29
  go_wp2_with fail
  go_loopw [5] (fun i wr => ∃ k : Nat, k ≤ NA ∧ i = .int .i64 k ∧ n ∉ L.take k ∧ Below w.heap.size w wr) (fun i _ => NA - (intOf i).toNat)
  case atStart => exact ⟨0, Nat.zero_le _, rfl, by simp, Below.refl _ w⟩
  case round =>
    obtain ⟨k, hk, rfl, hni, hB⟩ := hrel
    have HB := Lib.hid hB
    have HNI := Lib.hid hni
    by_cases hlt : k < NA
    · obtain ⟨x, hx⟩ : ∃ x, L[k]? = some x := ⟨_, List.getElem?_eq_getElem (by have := HNA.out; omega)⟩
      obtain ⟨hok, g, o, rfl, h6⟩ := HV.out k x hx
      have z6 := (hB.cell (p := ⟨g, o + k, none⟩) (World.block_lt_of_cell? w _ h6)).trans h6
      have hlti : (k : Int) < (NA : Int) := by omega
      have hkc : k < cA := by omega
      have HST := Lib.hid (take_step L k x hx)
      have HX := Lib.hid hx
      clear h6 hx hB hni
      by_cases hxn : x = n
      · subst hxn
        go_wp2_with fail
        go_ret
        exact ⟨ret_bool (by simp [List.mem_of_getElem? HX.out]), HB.out⟩
      · have hxb : (x == n) = false := by simpa using hxn
        go_wp2_with fail
        go_roundw
        case rel => exact ⟨k + 1, by omega, by simp, by rw [HST.out]; simpa [Ne.symm hxn] using HNI.out, HB.out⟩
        case measure => simp [intOf]; omega
    · obtain rfl : k = NA := by omega
      have hnot : n ∉ L := by
        have h := HNI.out
        rwa [List.take_of_length_le (by have := HNA.out; omega)] at h
      have HN := Lib.hid hnot
      clear hB hni hnot
      go_wp2_with fail
      go_ret
      exact ⟨ret_bool (by simp [HN.out]), HB.out⟩
end Go.Proofs.Ytclaabnjokkbjaa

/- The reference's RightRow: true only where no variable is below nought. -/
namespace Go.Proofs.Ytclaabnjokkbjaa
open Go.RowKit

theorem baR_toList (l : List UInt8) : (ba l).toList = l := by rw [Lib.toList_data]; simp [ba]
set_option maxRecDepth 100000 in
set_option maxHeartbeats 4000000 in
theorem rrow_any (v : Value) (L : List Str) (rv : Int) (w : World) (hv : StrR w v L) :
    Calls Try.prog 22 #[.agg #[v, .int .i64 rv]] w fun e w' => ∃ b, e = .returned (.bool b) ∧ (b = true → 0 ≤ rv ∧ RiseS L) ∧ Below w.heap.size w w' := by
  have hb := hv.2
  obtain ⟨A, c, rfl, hc, hm⟩ := hv.form
  have hb1 := below_new w (.cells #[.slice A L.length c, .int .i64 rv] 26)
  have HV := Lib.hid (fun (j : Nat) s (h : L[j]? = some s) => hm j s h)
  clear hv hm
  obtain ⟨N, hN⟩ : ∃ N, N = L.length := ⟨_, rfl⟩
  have HN := Lib.hid hN
  rw [← hN] at hb hc hb1 ⊢
  clear hN
  obtain ⟨W, hW⟩ : ∃ W, W = w.alloc (.cells #[.slice A N c, .int .i64 rv] 26) := ⟨_, rfl⟩
  rw [← hW] at hb1
  have k0 : Lies W w.heap.size 26 #[.slice A N c, .int .i64 rv] := by rw [hW]; exact Lies.new _ _ _
  have HK := Lib.hid k0
  have HB := Lib.hid hb1
  have HW := Lib.hid hW
  clear hW hb1 k0
  go_enter Try.func22, Try.ntmps22
  go_wp2
  rw [← HW.out]
  go_loopw [3] (fun i wr => ∃ k : Nat, k ≤ N ∧ i = .int .i64 k ∧ Below W.heap.size W wr ∧ ∀ (j : Nat) a b, j + 1 < k → L[j]? = some a → L[j + 1]? = some b → ¬ b < a) (fun i _ => N - (intOf i).toNat)
  case atStart => exact ⟨0, Nat.zero_le _, rfl, Below.refl _ _, fun j a b hj => by omega⟩
  case round =>
    obtain ⟨k, hk, rfl, hB, hrs⟩ := hrel
    have HRS := Lib.hid hrs
    clear hrs
    have hl := HK.out.later hB
    have c0 := hl.cell 0
    have c1 := hl.cell 1
    have hBw := HB.out.trans (hB.mono HB.out.size)
    by_cases hlt : k < N
    · obtain ⟨x, hx⟩ : ∃ x, L[k]? = some x := ⟨_, List.getElem?_eq_getElem (by have := HN.out; omega)⟩
      obtain ⟨y, hy⟩ : ∃ y, L[k - 1]? = some y := ⟨_, List.getElem?_eq_getElem (by have := HN.out; omega)⟩
      obtain ⟨g, o, rfl, h6⟩ := HV.out k x hx
      obtain ⟨g', o', he, h9⟩ := HV.out (k - 1) y hy
      simp only [Option.some.injEq, Addr.mk.injEq, and_true] at he
      obtain ⟨rfl, rfl⟩ := he
      have z6 := (hBw.cell (p := ⟨g, o + k, none⟩) (World.block_lt_of_cell? w _ h6)).trans h6
      have z9 := (hBw.cell (p := ⟨g, o + (k - 1), none⟩) (World.block_lt_of_cell? w _ h9)).trans h9
      have HS := Lib.hid (show wr.cell? ⟨w.heap.size, 0, none⟩ = some (.slice (some ⟨g, o, none⟩) N c) ∧ wr.cell? ⟨g, o + k, none⟩ = some (.string (ba x)) ∧ wr.cell? ⟨g, o + (k - 1), none⟩ = some (.string (ba y)) from ⟨c0, z6, z9⟩)
      have HBr := Lib.hid hB
      have HBw := Lib.hid hBw
      have hlti : (k : Int) < (N : Int) := by omega
      have hkc : k < c := by omega
      have hne : ¬ (k : Int) < 0 := by omega
      have HXY := Lib.hid (And.intro hx hy)
      clear h6 h9 hx hy hB hBw hl c1 HS
      obtain ⟨b1, hb1⟩ : ∃ b, (ba x).toList.isEmpty = b := ⟨_, rfl⟩
      obtain ⟨b2, hb2⟩ : ∃ b, Op.bytesLess (ba x).toList (ba y).toList = b := ⟨_, rfl⟩
      have HDR := Lib.hid (show ∀ q, Below W.heap.size W (wr.drewN q) from fun q => ⟨HBr.out.os, HBr.out.tape, HBr.out.output, HBr.out.size, HBr.out.block⟩)
      have HDw := Lib.hid (show ∀ q, Below w.heap.size w (wr.drewN q) from fun q => ⟨HBw.out.os, HBw.out.tape, HBw.out.output, HBw.out.size, HBw.out.block⟩)
      cases b1
      · by_cases hk0 : k = 0
        · subst hk0
          simp only [Nat.add_zero] at z6
          go_wp2_with fail
          go_quiet (fail)
          go_wp2
          go_roundw
          case rel => exact ⟨0 + 1, by omega, by simp, HDR.out _, fun j a b hj => by omega⟩
          case measure => simp [intOf]; omega
        · have hk0i : 0 < (k : Int) := by omega
          have hk0p : 0 < k := by omega
          have hk0d : decide (0 < k) = true := by simp [hk0p]
          have hk1 : IntKind.i64.wrap ((k : Int) - 1) = (k : Int) - 1 := IntWalk.i64_in _ (by omega)
          have hk2 : ((k : Int) - 1).toNat = k - 1 := by omega
          have hk3 : ¬ ((k : Int) - 1 < 0) := by omega
          have hk4 : (k : Int) - 1 < (N : Int) := by omega
          have hk5 : k - 1 < N := by omega
          cases b2
          · have HB2F := Lib.hid (show ¬ x < y by rw [Go.Proofs.bytesLess_eq, baR_toList, baR_toList] at hb2; exact of_decide_eq_false hb2)
            go_wp2_with fail
            go_quiet (fail)
            go_wp2
            go_roundw
            case rel => exact ⟨k + 1, by omega, by simp, HDR.out _, fun j a b hj ha hb => by
              by_cases e : j + 1 = k
              · obtain ⟨hx, hy⟩ := HXY.out
                rw [← e, Nat.add_sub_cancel] at hy
                rw [← e] at hx
                have e1 := Option.some.inj (hy.symm.trans ha)
                have e2 := Option.some.inj (hx.symm.trans hb)
                subst e1 e2
                exact HB2F.out
              · exact HRS.out j a b (by omega) ha hb⟩
            case measure => simp [intOf]; omega
          · go_wp2_with fail
            go_quiet (fail)
            go_wp2
            go_ret
            exact ⟨_, rfl, by simp, HDw.out _⟩
      · go_wp2_with fail
        go_quiet (fail)
        go_wp2
        go_ret
        exact ⟨_, rfl, by simp, HDw.out _⟩
    · obtain rfl : k = N := by omega
      have HBw := Lib.hid hBw
      clear hBw
      have HFIN := Lib.hid (show RiseS L from fun j a b ha hb => HRS.out j a b (by have := (List.getElem?_eq_some_iff.1 hb).1; have := HN.out; omega) ha hb)
      go_wp2
      go_ret
      exact ⟨_, rfl, fun h => ⟨by simpa using h, HFIN.out⟩, HBw.out⟩
end Go.Proofs.Ytclaabnjokkbjaa

/- The reference's Deep: it answers. -/
namespace Go.Proofs.Ytclaabnjokkbjaa
open Go.RowKit

set_option maxRecDepth 100000 in
set_option maxHeartbeats 8000000 in
theorem deep_in : ∀ (N : Nat) (t : Ty) (w : World) (l : List Value) (left : Int), t.size ≤ N → N ≤ 100000000 → TRV w t l →
    Calls Try.prog 38 #[.agg l.toArray, .int .i64 left] w fun e w' => ∃ d : Nat, d ≤ 201 ∧ e = .returned (.int .i64 (d : Int)) ∧ Below w.heap.size w w'
  | 0, t, _, _, _, h, _, _ => by obtain ⟨k, nm, v, kids, ls, rv⟩ := t; simp only [Ty.size] at h; omega
  | N + 1, t, w, l1, left, hsz, hN, ht => by
    have ih := fun t w l left h => deep_in N t w l left h (by omega)
    obtain ⟨k, nm, v, kids, ls, rv⟩ := t
    have hrs : (Ty.mk k nm v kids ls rv).size = 1 + Ty.sizeL kids := by simp only [Ty.size]
    rw [hrs] at hsz
    obtain ⟨kv, lv, rfl, hkv, hlv, hok, hks⟩ := ht
    obtain ⟨A3, c3, rfl, hc3, ha3⟩ := hkv.form
    obtain ⟨A4, m4, c4, rfl⟩ : ∃ A n c, lv = .slice A n c := by rcases hlv.1 with ⟨rfl, _⟩ | ⟨_, _, rfl, _⟩ <;> exact ⟨_, _, _, rfl⟩
    have hkl : kids.length ≤ N := by have := sizeL_len kids; omega
    have hkz : ∀ t ∈ kids, t.size ≤ N := fun t ht => by have := size_kid ht; omega
    obtain ⟨n, hn⟩ : ∃ n, n = kids.length := ⟨_, rfl⟩
    rw [← hn] at hc3 ha3 hkl hks ⊢
    unfold tyC
    obtain ⟨W, hW⟩ : ∃ W, W = w.alloc (.cells #[.int .i64 k, .string (ba nm), .int .i64 v, .slice A3 n c3, .slice A4 m4 c4, .int .i64 rv] 28) := ⟨_, rfl⟩
    have hb : Below w.heap.size w W := by rw [hW]; exact below_new w _
    have k0 : Lies W w.heap.size 28 #[.int .i64 k, .string (ba nm), .int .i64 v, .slice A3 n c3, .slice A4 m4 c4, .int .i64 rv] := by rw [hW]; exact Lies.new _ _ _
    have HW := Lib.hid hW
    have HB := Lib.hid hb
    have HK0 := Lib.hid k0
    have HKS := Lib.hid hks
    have HA3 := Lib.hid ha3
    have HN := Lib.hid hn
    have HKZ := Lib.hid hkz
    have IH := Lib.hid ih
    clear hW hb hks ha3 hn hkz ih hkv hlv hok k0 hrs
    go_enter Try.func38, Try.ntmps38
    by_cases hl0 : left = 0
    · subst hl0
      go_wp2_with fail
      rw [← HW.out]
      go_ret
      exact ⟨201, by omega, rfl, HB.out⟩
    have hl0b : (left == 0) = false := by simp [hl0]
    go_wp2_with fail
    rw [← HW.out]
    go_loopw [5, 6, 7] (fun most i d wr => ∃ q D : Nat, q ≤ n ∧ D ≤ 201 ∧ i = .int .i64 q ∧ most = .int .i64 (D : Int) ∧ Below w.heap.size w wr ∧ Below W.heap.size W wr) (fun _ i _ _ => n - (intOf i).toNat)
    case atStart => exact ⟨0, 0, Nat.zero_le _, Nat.zero_le _, rfl, rfl, HB.out, Below.refl _ _⟩
    case round =>
      obtain ⟨q, D, hq, hD, rfl, rfl, hBw, hBW⟩ := hrel
      obtain ⟨wo, rfl⟩ : ∃ wo, wo = wr := ⟨_, rfl⟩
      have x3 := (HK0.out.later hBW).cell 3
      by_cases hlt : q < n
      · obtain ⟨t, ht⟩ : ∃ t, kids[q]? = some t := ⟨_, List.getElem?_eq_getElem (by have := HN.out; omega)⟩
        obtain ⟨g, o, rfl⟩ := HA3.out (by omega)
        obtain ⟨l, _, hr, htv⟩ := (HKS.out q t ht).open
        have hgl := reads_block hr (by rw [htv.len]; decide)
        have htm : t ∈ kids := List.mem_of_getElem? ht
        have hcl := IH.out t wo l (wrap64 (left - 1)) (HKZ.out t htm) (htv.keep hBw.block)
        obtain ⟨k', nm', v2, kids', ls', rv'⟩ := t
        obtain ⟨kv', lv', rfl, hkv', hlv', _, _⟩ := htv
        obtain ⟨A5, c5, rfl, _, _⟩ := hkv'.form
        obtain ⟨A6, n6, c6, rfl⟩ : ∃ A n c, lv' = .slice A n c := by rcases hlv'.1 with ⟨rfl, _⟩ | ⟨_, _, rfl, _⟩ <;> exact ⟨_, _, _, rfl⟩
        have hr' : ReadsAt wo (kidAt (.slice (some ⟨g, o, none⟩) n c3) q) (tyC k' nm' v2 (.slice A5 kids'.length c5) (.slice A6 n6 c6) rv') := hr.keep (hBw.block _ hgl)
        obtain ⟨y0, y1, y2, y33, y4, y5⟩ := reads6 (b := g) (o := o + q * 6) hr'
        have HCL := Lib.hid hcl
        have HBw := Lib.hid hBw
        have HBW := Lib.hid hBW
        have hqc : q < c3 := by omega
        have hlti : (q : Int) < (n : Int) := by omega
        unfold tyC at HCL
        clear hcl hr hr' hBw hBW hgl htm ht hkv' hlv'
        go_wp2_with fail
        refine HCL.out.mono ?_
        rintro e w5 ⟨d, hd, rfl, hb5⟩
        have HB5w := Lib.hid (HBw.out.trans (hb5.mono HBw.out.size))
        have HB5W := Lib.hid (HBW.out.trans (hb5.mono HBW.out.size))
        clear hb5 y0 y1 y2 y33 y4 y5 x3 HCL
        rcases Nat.lt_trichotomy D d with h | rfl | h
        · have hi1 : (D : Int) < (d : Int) := by omega
          have hi2 : ¬ ((d : Int) < (D : Int)) := by omega
          go_wp2_with fail
          go_roundw
          case rel => exact ⟨q + 1, d, by omega, hd, by simp, rfl, HB5w.out, HB5W.out⟩
          case measure => (simp [intOf] <;> omega)
        · go_wp2_with fail
          go_roundw
          case rel => exact ⟨q + 1, D, by omega, hd, by simp, rfl, HB5w.out, HB5W.out⟩
          case measure => (simp [intOf] <;> omega)
        · have hi1 : (d : Int) < (D : Int) := by omega
          have hi2 : ¬ ((D : Int) < (d : Int)) := by omega
          go_wp2_with fail
          go_roundw
          case rel => exact ⟨q + 1, D, by omega, hD, by simp, rfl, HB5w.out, HB5W.out⟩
          case measure => (simp [intOf] <;> omega)
      · obtain rfl : q = n := by omega
        have hw1 : IntKind.i64.wrap ((D : Int) + 1) = (D : Int) + 1 := IntWalk.i64_in _ (by omega)
        have HBw := Lib.hid hBw
        clear hBw
        rcases Nat.lt_trichotomy D 200 with h | rfl | h
        · have hi1 : (D : Int) + 1 < 201 := by omega
          have hi2 : ¬ ((201 : Int) < (D : Int) + 1) := by omega
          go_wp2
          go_ret
          exact ⟨D + 1, by omega, by simp, HBw.out⟩
        · go_wp2
          go_ret
          exact ⟨201, by omega, rfl, HBw.out⟩
        · have hi1 : (201 : Int) < (D : Int) + 1 := by omega
          have hi2 : ¬ ((D : Int) + 1 < 201) := by omega
          go_wp2
          go_ret
          exact ⟨201, by omega, rfl, HBw.out⟩
end Go.Proofs.Ytclaabnjokkbjaa
