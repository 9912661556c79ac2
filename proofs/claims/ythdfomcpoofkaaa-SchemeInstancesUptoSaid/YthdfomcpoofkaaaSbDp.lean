/- The reference's Deep: it answers. -/
import Derived.Test.YthdfomcpoofkaaaSbw
import Derived.Test.YthdfomcpoofkaaaMg16
import Derived.Outline
namespace Go.Proofs.Ythdfomcpoofkaaa
open Go.RowKit

set_option maxRecDepth 100000 in
set_option maxHeartbeats 8000000 in
theorem deep_in : ∀ (N : Nat) (t : Ty) (w : World) (l : List Value) (left : Int), t.size ≤ N → N ≤ 100000000 → TRV w t l →
    Calls Try.prog 38 #[.agg l.toArray, .int .i64 left] w fun e w' => ∃ d : Nat, d ≤ 201 ∧ e = .returned (.int .i64 (d : Int)) ∧ Below w.heap.size w w'
  | 0, t, _, _, _, h, _, _ => by obtain ⟨k, nm, v, kids, ls, rv⟩ := t; simp only [Ty.size] at h; omega
  | N + 1, t, w, l1, left, hsz, hN, ht => by
    have ih := fun t w l left h => deep_in N t w l left h (by omega)
    obtain ⟨k, nm, v, kids, ls, rv⟩ := t
    have hrs : (Ty.mk k nm v kids ls rv).size = 1 + Ty.sizeL kids := by simp only [Ty.size]
    rw [hrs] at hsz
    obtain ⟨kv, lv, rfl, hkv, hlv, hok, hks⟩ := ht
    obtain ⟨A3, c3, rfl, hc3, ha3⟩ := hkv.form
    obtain ⟨A4, m4, c4, rfl⟩ : ∃ A n c, lv = .slice A n c := by rcases hlv.1 with ⟨rfl, _⟩ | ⟨_, _, rfl, _⟩ <;> exact ⟨_, _, _, rfl⟩
    have hkl : kids.length ≤ N := by have := sizeL_len kids; omega
    have hkz : ∀ t ∈ kids, t.size ≤ N := fun t ht => by have := size_kid ht; omega
    obtain ⟨n, hn⟩ : ∃ n, n = kids.length := ⟨_, rfl⟩
    rw [← hn] at hc3 ha3 hkl hks ⊢
    unfold tyC
    obtain ⟨W, hW⟩ : ∃ W, W = w.alloc (.cells #[.int .i64 k, .string (ba nm), .int .i64 v, .slice A3 n c3, .slice A4 m4 c4, .int .i64 rv] 28) := ⟨_, rfl⟩
    have hb : Below w.heap.size w W := by rw [hW]; exact below_new w _
    have k0 : Lies W w.heap.size 28 #[.int .i64 k, .string (ba nm), .int .i64 v, .slice A3 n c3, .slice A4 m4 c4, .int .i64 rv] := by rw [hW]; exact Lies.new _ _ _
    have HW := Lib.hid hW
    have HB := Lib.hid hb
    have HK0 := Lib.hid k0
    have HKS := Lib.hid hks
    have HA3 := Lib.hid ha3
    have HN := Lib.hid hn
    have HKZ := Lib.hid hkz
    have IH := Lib.hid ih
    clear hW hb hks ha3 hn hkz ih hkv hlv hok k0 hrs
    go_enter Try.func38, Try.ntmps38
    by_cases hl0 : left = 0
    · subst hl0
      go_wp2_with fail
      rw [← HW.out]
      go_ret
      exact ⟨201, by omega, rfl, HB.out⟩
    have hl0b : (left == 0) = false := by simp [hl0]
    go_wp2_with fail
    rw [← HW.out]
    go_loopw [5, 6, 7] (fun most i d wr => ∃ q D : Nat, q ≤ n ∧ D ≤ 201 ∧ i = .int .i64 q ∧ most = .int .i64 (D : Int) ∧ Below w.heap.size w wr ∧ Below W.heap.size W wr) (fun _ i _ _ => n - (intOf i).toNat)
    case atStart => exact ⟨0, 0, Nat.zero_le _, Nat.zero_le _, rfl, rfl, HB.out, Below.refl _ _⟩
    case round =>
      obtain ⟨q, D, hq, hD, rfl, rfl, hBw, hBW⟩ := hrel
      obtain ⟨wo, rfl⟩ : ∃ wo, wo = wr := ⟨_, rfl⟩
      have x3 := (HK0.out.later hBW).cell 3
      by_cases hlt : q < n
      · obtain ⟨t, ht⟩ : ∃ t, kids[q]? = some t := ⟨_, List.getElem?_eq_getElem (by have := HN.out; omega)⟩
        obtain ⟨g, o, rfl⟩ := HA3.out (by omega)
        obtain ⟨l, _, hr, htv⟩ := (HKS.out q t ht).open
        have hgl := reads_block hr (by rw [htv.len]; decide)
        have htm : t ∈ kids := List.mem_of_getElem? ht
        have hcl := IH.out t wo l (wrap64 (left - 1)) (HKZ.out t htm) (htv.keep hBw.block)
        obtain ⟨k', nm', v2, kids', ls', rv'⟩ := t
        obtain ⟨kv', lv', rfl, hkv', hlv', _, _⟩ := htv
        obtain ⟨A5, c5, rfl, _, _⟩ := hkv'.form
        obtain ⟨A6, n6, c6, rfl⟩ : ∃ A n c, lv' = .slice A n c := by rcases hlv'.1 with ⟨rfl, _⟩ | ⟨_, _, rfl, _⟩ <;> exact ⟨_, _, _, rfl⟩
        have hr' : ReadsAt wo (kidAt (.slice (some ⟨g, o, none⟩) n c3) q) (tyC k' nm' v2 (.slice A5 kids'.length c5) (.slice A6 n6 c6) rv') := hr.keep (hBw.block _ hgl)
        obtain ⟨y0, y1, y2, y33, y4, y5⟩ := reads6 (b := g) (o := o + q * 6) hr'
        have HCL := Lib.hid hcl
        have HBw := Lib.hid hBw
        have HBW := Lib.hid hBW
        have hqc : q < c3 := by omega
        have hlti : (q : Int) < (n : Int) := by omega
        unfold tyC at HCL
        clear hcl hr hr' hBw hBW hgl htm ht hkv' hlv'
        go_wp2_with fail
        refine HCL.out.mono ?_
        rintro e w5 ⟨d, hd, rfl, hb5⟩
        have HB5w := Lib.hid (HBw.out.trans (hb5.mono HBw.out.size))
        have HB5W := Lib.hid (HBW.out.trans (hb5.mono HBW.out.size))
        clear hb5 y0 y1 y2 y33 y4 y5 x3 HCL
        rcases Nat.lt_trichotomy D d with h | rfl | h
        · have hi1 : (D : Int) < (d : Int) := by omega
          have hi2 : ¬ ((d : Int) < (D : Int)) := by omega
          go_wp2_with fail
          go_roundw
          case rel => exact ⟨q + 1, d, by omega, hd, by simp, (by first | rfl | (congr 1; omega)), HB5w.out, HB5W.out⟩
          case measure => (simp [intOf] <;> omega)
        · go_wp2_with fail
          go_roundw
          case rel => exact ⟨q + 1, D, by omega, hd, by simp, (by first | rfl | (congr 1; omega)), HB5w.out, HB5W.out⟩
          case measure => (simp [intOf] <;> omega)
        · have hi1 : (d : Int) < (D : Int) := by omega
          have hi2 : ¬ ((D : Int) < (d : Int)) := by omega
          go_wp2_with fail
          go_roundw
          case rel => exact ⟨q + 1, D, by omega, hD, by simp, (by first | rfl | (congr 1; omega)), HB5w.out, HB5W.out⟩
          case measure => (simp [intOf] <;> omega)
      · obtain rfl : q = n := by omega
        have hw1 : IntKind.i64.wrap ((D : Int) + 1) = (D : Int) + 1 := IntWalk.i64_in _ (by omega)
        have HBw := Lib.hid hBw
        clear hBw
        rcases Nat.lt_trichotomy D 200 with h | rfl | h
        · have hi1 : (D : Int) + 1 < 201 := by omega
          have hi2 : ¬ ((201 : Int) < (D : Int) + 1) := by omega
          go_wp2
          go_ret
          exact ⟨D + 1, by omega, (by simp <;> omega), HBw.out⟩
        · go_wp2
          go_ret
          exact ⟨201, by omega, rfl, HBw.out⟩
        · have hi1 : (201 : Int) < (D : Int) + 1 := by omega
          have hi2 : ¬ ((D : Int) + 1 < 201) := by omega
          go_wp2
          go_ret
          exact ⟨201, by omega, (by first | rfl | (simp; omega)), HBw.out⟩
end Go.Proofs.Ythdfomcpoofkaaa
