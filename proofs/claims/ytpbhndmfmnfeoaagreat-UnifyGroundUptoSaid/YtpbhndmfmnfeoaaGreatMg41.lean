/- The law's count. -/
import Derived.Test.YtpbhndmfmnfeoaaGreatUgY
import Derived.Test.YtpbhndmfmnfeoaaGreatMg15
import Derived.Test.YtpbhndmfmnfeoaaGreatSbRr
import Derived.Test.YtpbhndmfmnfeoaaGreatMg39
import Derived.Outline
import Derived.Deep.DeepCutAuto
import Derived.Deep.CutRange
import Derived.Deep.CutBlock
namespace Go.Proofs.YtpbhndmfmnfeoaaGreat.Ug
open Go.RowKit Si

theorem sizeL_step {l : List Ty} {k : Nat} {t : Ty} (h : l[k]? = some t) : Ty.sizeL (l.take (k + 1)) = Ty.sizeL (l.take k) + t.size := sizeL_stepG l k t h
set_option maxRecDepth 100000 in
set_option maxHeartbeats 8000000 in
theorem count_in : ∀ (N : Nat) (t : Ty) (w : World) (l : List Value), t.size ≤ N → N ≤ 100000000 → TRV w t l →
    Calls Tryz.prog 10 #[.agg l.toArray] w fun e w' => e = .returned (.int .i64 (t.size : Int)) ∧ Below w.heap.size w w'
  | 0, t, _, _, h, _, _ => by obtain ⟨k, nm, v, kids, ls, rv⟩ := t; simp only [Ty.size] at h; omega
  | N + 1, t, w, l1, hsz, hN, ht => by
    have ih := fun t w l h => count_in N t w l h (by omega)
    obtain ⟨k, nm, v, kids, ls, rv⟩ := t
    obtain ⟨r, hr⟩ : ∃ r, r = (Ty.mk k nm v kids ls rv).size := ⟨_, rfl⟩
    rw [← hr] at hsz ⊢
    have HR := Lib.hid hr
    obtain ⟨kv, lv, rfl, hkv, hlv, hok, hks⟩ := ht
    obtain ⟨A3, c3, rfl, hc3, ha3⟩ := hkv.form
    obtain ⟨A4, m4, c4, rfl⟩ : ∃ A n c, lv = .slice A n c := by rcases hlv.1 with ⟨rfl, _⟩ | ⟨_, _, rfl, _⟩ <;> exact ⟨_, _, _, rfl⟩
    have hrs : r = 1 + Ty.sizeL kids := by rw [hr]; simp only [Ty.size]
    have hkl : kids.length ≤ N := by have := sizeL_len kids; omega
    have hkz : ∀ t ∈ kids, t.size ≤ N := fun t ht => by have := size_kid ht; omega
    obtain ⟨n, hn⟩ : ∃ n, n = kids.length := ⟨_, rfl⟩
    rw [← hn] at hc3 ha3 hkl hks ⊢
    unfold tyC
    obtain ⟨W, hW⟩ : ∃ W, W = w.alloc (.cells #[.int .i64 k, .string (ba nm), .int .i64 v, .slice A3 n c3, .slice A4 m4 c4, .int .i64 rv] 44) := ⟨_, rfl⟩
    have hb : Below w.heap.size w W := by rw [hW]; exact below_new w _
    have k0 : Lies W w.heap.size 44 #[.int .i64 k, .string (ba nm), .int .i64 v, .slice A3 n c3, .slice A4 m4 c4, .int .i64 rv] := by rw [hW]; exact Lies.new _ _ _
    have HW := Lib.hid hW
    have HB := Lib.hid hb
    have HK0 := Lib.hid k0
    have HKS := Lib.hid hks
    have HA3 := Lib.hid ha3
    have HN := Lib.hid hn
    have HKZ := Lib.hid hkz
    have IH := Lib.hid ih
    have HRS := Lib.hid hrs
    have HH := Lib.hid hsz
    clear hW hb hks ha3 hn hkz ih hkv hlv hok hsz k0 hr hrs
    go_enter Tryz.func10, Tryz.ntmps10
    go_wp2_with fail
    rw [← HW.out]
    go_loopw [3, 4] (fun cnt i wr => ∃ q C : Nat, q ≤ n ∧ i = .int .i64 q ∧ C = 1 + Ty.sizeL (kids.take q) ∧ cnt = .int .i64 (C : Int) ∧ Below w.heap.size w wr ∧ Below W.heap.size W wr) (fun _ i _ => n - (intOf i).toNat)
    case atStart => exact ⟨0, 1, Nat.zero_le _, rfl, rfl, rfl, HB.out, Below.refl _ _⟩
    case round =>
      obtain ⟨q, C, hq, rfl, hC, rfl, hBw, hBW⟩ := hrel
      obtain ⟨wo, rfl⟩ : ∃ wo, wo = wr := ⟨_, rfl⟩
      have x3 := (HK0.out.later hBW).cell 3
      by_cases hlt : q < n
      · obtain ⟨t, ht⟩ : ∃ t, kids[q]? = some t := ⟨_, List.getElem?_eq_getElem (by have := HN.out; omega)⟩
        obtain ⟨g, o, rfl⟩ := HA3.out (by omega)
        obtain ⟨l, _, hr, htv⟩ := (HKS.out q t ht).open
        have hgl := reads_block hr (by rw [htv.len]; decide)
        have htm : t ∈ kids := List.mem_of_getElem? ht
        have hcl := fun w7 (hb : Below w.heap.size w w7) => IH.out t w7 l (HKZ.out t htm) (htv.later hb)
        have hstep := sizeL_stepG kids q t ht
        have htake := sizeL_take kids (q + 1)
        have hCr : C + t.size ≤ r := by have := HRS.out; omega
        have hc1 : 1 + Ty.sizeL (kids.take (q + 1)) = C + t.size := by omega
        obtain ⟨p, hp⟩ : ∃ p, p = t.size := ⟨_, rfl⟩
        rw [← hp] at hcl hCr hc1
        obtain ⟨k', nm', v2, kids', ls', rv'⟩ := t
        obtain ⟨kv', lv', rfl, hkv', hlv', _, _⟩ := htv
        obtain ⟨A5, c5, rfl, _, _⟩ := hkv'.form
        obtain ⟨A6, n6, c6, rfl⟩ : ∃ A n c, lv' = .slice A n c := by rcases hlv'.1 with ⟨rfl, _⟩ | ⟨_, _, rfl, _⟩ <;> exact ⟨_, _, _, rfl⟩
        have hr' : ReadsAt wo (kidAt (.slice (some ⟨g, o, none⟩) n c3) q) (tyC k' nm' v2 (.slice A5 kids'.length c5) (.slice A6 n6 c6) rv') := hr.keep (hBw.block _ hgl)
        obtain ⟨y0, y1, y2, y33, y4, y5⟩ := reads6 (b := g) (o := o + q * 6) hr'
        have HCL := Lib.hid hcl
        have HBw := Lib.hid hBw
        have HBW := Lib.hid hBW
        have HC1 := Lib.hid hc1
        have hqc : q < c3 := by omega
        have hlti : (q : Int) < (n : Int) := by omega
        have hrb := HH.out
        have hw1 : IntKind.i64.wrap ((C : Int) + (p : Int)) = (C : Int) + (p : Int) := IntWalk.i64_in _ (by omega)
        unfold tyC at HCL
        clear hcl hr hr' hBw hBW hgl htm ht hkv' hlv' hstep htake hc1 hC hp
        go_wp2_with fail
        refine (HCL.out wo HBw.out).mono ?_
        rintro e w5 ⟨rfl, hb5⟩
        have hb5w := HBw.out.trans (hb5.mono HBw.out.size)
        have hb5W := HBW.out.trans (hb5.mono HBW.out.size)
        clear hb5 y0 y1 y2 y33 y4 y5 x3
        go_wp2_with fail
        go_roundw
        case rel => exact ⟨q + 1, C + p, by omega, by simp, HC1.out.symm, by simp, hb5w, hb5W⟩
        case measure => (simp [intOf] <;> omega)
      · obtain rfl : q = n := by omega
        have hCr : C = r := by rw [hC, HRS.out, List.take_of_length_le (by have := HN.out; omega)]
        clear hC
        subst hCr
        go_wp2
        go_ret
        exact ⟨rfl, hBw⟩
theorem count_any (t : Ty) (w : World) (l : List Value) (hsz : t.size ≤ 100000000) (h : TRV w t l) :
    Calls Tryz.prog 10 #[.agg l.toArray] w fun e w' => e = .returned (.int .i64 (t.size : Int)) ∧ Below w.heap.size w w' := count_in 100000000 t w l hsz (Nat.le_refl _) h
end Go.Proofs.YtpbhndmfmnfeoaaGreat.Ug

/- The reference's Deep: it answers. -/
namespace Go.Proofs.YtpbhndmfmnfeoaaGreat.Ug
open Go.RowKit Si

set_option maxRecDepth 100000 in
set_option maxHeartbeats 8000000 in
theorem deep_in : ∀ (N : Nat) (t : Ty) (w : World) (l : List Value) (left : Int), t.size ≤ N → N ≤ 100000000 → TRV w t l →
    Calls Tryz.prog 19 #[.agg l.toArray, .int .i64 left] w fun e w' => ∃ d : Nat, d ≤ 201 ∧ e = .returned (.int .i64 (d : Int)) ∧ Below w.heap.size w w'
  | 0, t, _, _, _, h, _, _ => by obtain ⟨k, nm, v, kids, ls, rv⟩ := t; simp only [Ty.size] at h; omega
  | N + 1, t, w, l1, left, hsz, hN, ht => by
    have ih := fun t w l left h => deep_in N t w l left h (by omega)
    obtain ⟨k, nm, v, kids, ls, rv⟩ := t
    have hrs : (Ty.mk k nm v kids ls rv).size = 1 + Ty.sizeL kids := by simp only [Ty.size]
    rw [hrs] at hsz
    obtain ⟨kv, lv, rfl, hkv, hlv, hok, hks⟩ := ht
    obtain ⟨A3, c3, rfl, hc3, ha3⟩ := hkv.form
    obtain ⟨A4, m4, c4, rfl⟩ : ∃ A n c, lv = .slice A n c := by rcases hlv.1 with ⟨rfl, _⟩ | ⟨_, _, rfl, _⟩ <;> exact ⟨_, _, _, rfl⟩
    have hkl : kids.length ≤ N := by have := sizeL_len kids; omega
    have hkz : ∀ t ∈ kids, t.size ≤ N := fun t ht => by have := size_kid ht; omega
    obtain ⟨n, hn⟩ : ∃ n, n = kids.length := ⟨_, rfl⟩
    rw [← hn] at hc3 ha3 hkl hks ⊢
    unfold tyC
    obtain ⟨W, hW⟩ : ∃ W, W = w.alloc (.cells #[.int .i64 k, .string (ba nm), .int .i64 v, .slice A3 n c3, .slice A4 m4 c4, .int .i64 rv] 44) := ⟨_, rfl⟩
    have hb : Below w.heap.size w W := by rw [hW]; exact below_new w _
    have k0 : Lies W w.heap.size 44 #[.int .i64 k, .string (ba nm), .int .i64 v, .slice A3 n c3, .slice A4 m4 c4, .int .i64 rv] := by rw [hW]; exact Lies.new _ _ _
    have HW := Lib.hid hW
    have HB := Lib.hid hb
    have HK0 := Lib.hid k0
    have HKS := Lib.hid hks
    have HA3 := Lib.hid ha3
    have HN := Lib.hid hn
    have HKZ := Lib.hid hkz
    have IH := Lib.hid ih
    clear hW hb hks ha3 hn hkz ih hkv hlv hok k0 hrs
    go_enter Tryz.func19, Tryz.ntmps19
    by_cases hl0 : left = 0
    · subst hl0
      go_wp2_with fail
      rw [← HW.out]
      go_ret
      exact ⟨201, by omega, rfl, HB.out⟩
    have hl0b : (left == 0) = false := by simp [hl0]
    go_wp2_with fail
    rw [← HW.out]
    go_loopw [5, 6, 7] (fun most i d wr => ∃ q D : Nat, q ≤ n ∧ D ≤ 201 ∧ i = .int .i64 q ∧ most = .int .i64 (D : Int) ∧ Below w.heap.size w wr ∧ Below W.heap.size W wr) (fun _ i _ _ => n - (intOf i).toNat)
    case atStart => exact ⟨0, 0, Nat.zero_le _, Nat.zero_le _, rfl, rfl, HB.out, Below.refl _ _⟩
    case round =>
      obtain ⟨q, D, hq, hD, rfl, rfl, hBw, hBW⟩ := hrel
      obtain ⟨wo, rfl⟩ : ∃ wo, wo = wr := ⟨_, rfl⟩
      have x3 := (HK0.out.later hBW).cell 3
      by_cases hlt : q < n
      · obtain ⟨t, ht⟩ : ∃ t, kids[q]? = some t := ⟨_, List.getElem?_eq_getElem (by have := HN.out; omega)⟩
        obtain ⟨g, o, rfl⟩ := HA3.out (by omega)
        obtain ⟨l, _, hr, htv⟩ := (HKS.out q t ht).open
        have hgl := reads_block hr (by rw [htv.len]; decide)
        have htm : t ∈ kids := List.mem_of_getElem? ht
        have hcl := IH.out t wo l (wrap64 (left - 1)) (HKZ.out t htm) (htv.keep hBw.block)
        obtain ⟨k', nm', v2, kids', ls', rv'⟩ := t
        obtain ⟨kv', lv', rfl, hkv', hlv', _, _⟩ := htv
        obtain ⟨A5, c5, rfl, _, _⟩ := hkv'.form
        obtain ⟨A6, n6, c6, rfl⟩ : ∃ A n c, lv' = .slice A n c := by rcases hlv'.1 with ⟨rfl, _⟩ | ⟨_, _, rfl, _⟩ <;> exact ⟨_, _, _, rfl⟩
        have hr' : ReadsAt wo (kidAt (.slice (some ⟨g, o, none⟩) n c3) q) (tyC k' nm' v2 (.slice A5 kids'.length c5) (.slice A6 n6 c6) rv') := hr.keep (hBw.block _ hgl)
        obtain ⟨y0, y1, y2, y33, y4, y5⟩ := reads6 (b := g) (o := o + q * 6) hr'
        have HCL := Lib.hid hcl
        have HBw := Lib.hid hBw
        have HBW := Lib.hid hBW
        have hqc : q < c3 := by omega
        have hlti : (q : Int) < (n : Int) := by omega
        unfold tyC at HCL
        clear hcl hr hr' hBw hBW hgl htm ht hkv' hlv'
        go_wp2_with fail
        refine HCL.out.mono ?_
        rintro e w5 ⟨d, hd, rfl, hb5⟩
        have HB5w := Lib.hid (HBw.out.trans (hb5.mono HBw.out.size))
        have HB5W := Lib.hid (HBW.out.trans (hb5.mono HBW.out.size))
        clear hb5 y0 y1 y2 y33 y4 y5 x3 HCL
        rcases Nat.lt_trichotomy D d with h | rfl | h
        · have hi1 : (D : Int) < (d : Int) := by omega
          have hi2 : ¬ ((d : Int) < (D : Int)) := by omega
          go_wp2_with fail
          go_roundw
          case rel => exact ⟨q + 1, d, by omega, hd, by simp, (by first | rfl | (congr 1; omega)), HB5w.out, HB5W.out⟩
          case measure => (simp [intOf] <;> omega)
        · go_wp2_with fail
          go_roundw
          case rel => exact ⟨q + 1, D, by omega, hd, by simp, (by first | rfl | (congr 1; omega)), HB5w.out, HB5W.out⟩
          case measure => (simp [intOf] <;> omega)
        · have hi1 : (d : Int) < (D : Int) := by omega
          have hi2 : ¬ ((D : Int) < (d : Int)) := by omega
          go_wp2_with fail
          go_roundw
          case rel => exact ⟨q + 1, D, by omega, hD, by simp, (by first | rfl | (congr 1; omega)), HB5w.out, HB5W.out⟩
          case measure => (simp [intOf] <;> omega)
      · obtain rfl : q = n := by omega
        have hw1 : IntKind.i64.wrap ((D : Int) + 1) = (D : Int) + 1 := IntWalk.i64_in _ (by omega)
        have HBw := Lib.hid hBw
        clear hBw
        rcases Nat.lt_trichotomy D 200 with h | rfl | h
        · have hi1 : (D : Int) + 1 < 201 := by omega
          have hi2 : ¬ ((201 : Int) < (D : Int) + 1) := by omega
          go_wp2
          go_ret
          exact ⟨D + 1, by omega, (by simp <;> omega), HBw.out⟩
        · go_wp2
          go_ret
          exact ⟨201, by omega, rfl, HBw.out⟩
        · have hi1 : (201 : Int) < (D : Int) + 1 := by omega
          have hi2 : ¬ ((D : Int) + 1 < 201) := by omega
          go_wp2
          go_ret
          exact ⟨201, by omega, (by first | rfl | (simp; omega)), HBw.out⟩
end Go.Proofs.YtpbhndmfmnfeoaaGreat.Ug

/- The reference's right, Right: true only for what is right, and of a type variable nothing else is said. -/
namespace Go.Proofs.YtpbhndmfmnfeoaaGreat.Ug
open Go.RowKit Si

mutual
/-- What is right, and what a type variable is. -/
def RightQ : Ty → Prop
  | .mk k nm v kids ls rv => ((rv = 0 ∨ (k = 5 ∧ kids.length = 2 ∧ 0 ≤ rv)) ∧ RiseS ls ∧ ((k = 5 → nm = [] ∧ v = 0 ∧ kids.length = 2) ∧ (k = 6 → nm = [] ∧ v = 0 ∧ kids.length = 1 ∧ ls = []))) ∧ RightQL kids
def RightQL : List Ty → Prop
  | [] => True
  | t :: r => RightQ t ∧ RightQL r
end
theorem RightQL_iff : ∀ l : List Ty, RightQL l ↔ ∀ t ∈ l, RightQ t
  | [] => by simp [RightQL]
  | t :: r => by simp [RightQL, RightQL_iff r]
def ZR (m : Nat) (ls : List Str) : Prop := m = 0 → RiseS ls ∧ ls = []
theorem zero_rise {w : World} {A : Option Addr} {m c : Nat} {ls : List Str} (h : StrR w (.slice A m c) ls) : ZR m ls := by
  intro h0
  have hl : ls = [] := by
    rcases h.1 with ⟨_, h2⟩ | ⟨ad, c2, h2, _⟩
    · simpa using h2
    · injection h2 with _ h3
      rw [List.length_map] at h3
      exact List.eq_nil_of_length_eq_zero (by omega)
  refine ⟨?_, hl⟩
  rw [hl]
  intro i a b hi
  simp at hi
set_option maxRecDepth 100000 in
set_option maxHeartbeats 8000000 in
theorem right_step (N : Nat) (hN : N + 1 ≤ 100000000) (ih : ∀ (t : Ty) (w : World) (l : List Value), t.size ≤ N → TRV w t l →
      Calls Tryz.prog 20 #[.agg l.toArray] w fun e w' => ∃ b, e = .returned (.bool b) ∧ (b = true → RightQ t) ∧ Below w.heap.size w w') (t : Ty) (w : World) (l1 : List Value) (hsz : t.size ≤ N + 1) (ht : TRV w t l1) :
    Calls Tryz.prog 20 #[.agg l1.toArray] w fun e w' => ∃ b, e = .returned (.bool b) ∧ (b = true → RightQ t) ∧ Below w.heap.size w w' := by
    obtain ⟨k, nm, v, kids, ls, rv⟩ := t
    have hrs : (Ty.mk k nm v kids ls rv).size = 1 + Ty.sizeL kids := by simp only [Ty.size]
    rw [hrs] at hsz
    obtain ⟨kv, lv, rfl, hkv, hlv, hok, hks⟩ := ht
    obtain ⟨A3, c3, rfl, hc3, ha3⟩ := hkv.form
    obtain ⟨A4, m4, c4, rfl⟩ : ∃ A n c, lv = .slice A n c := by rcases hlv.1 with ⟨rfl, _⟩ | ⟨_, _, rfl, _⟩ <;> exact ⟨_, _, _, rfl⟩
    have hkl : kids.length ≤ N := by have := sizeL_len kids; omega
    have HLZ := Lib.hid (zero_rise hlv)
    have hkz : ∀ t ∈ kids, t.size ≤ N := fun t ht => by have := size_kid ht; omega
    obtain ⟨n, hn⟩ : ∃ n, n = kids.length := ⟨_, rfl⟩
    rw [← hn] at hc3 ha3 hkl hks ⊢
    unfold tyC
    obtain ⟨W, hW⟩ : ∃ W, W = w.alloc (.cells #[.int .i64 k, .string (ba nm), .int .i64 v, .slice A3 n c3, .slice A4 m4 c4, .int .i64 rv] 44) := ⟨_, rfl⟩
    have hb : Below w.heap.size w W := by rw [hW]; exact below_new w _
    have k0 : Lies W w.heap.size 44 #[.int .i64 k, .string (ba nm), .int .i64 v, .slice A3 n c3, .slice A4 m4 c4, .int .i64 rv] := by rw [hW]; exact Lies.new _ _ _
    have hrr := rrow_any _ ls rv W (hlv.keep hb.block)
    have HRR := Lib.hid hrr
    have HW := Lib.hid hW
    have HB := Lib.hid hb
    have HK0 := Lib.hid k0
    have HKS := Lib.hid hks
    have HA3 := Lib.hid ha3
    have HN := Lib.hid hn
    have HKZ := Lib.hid hkz
    have IH := Lib.hid ih
    clear hrr hW hb hks ha3 hn hkz ih hkv hlv hok k0 hrs
    go_enter Tryz.func20, Tryz.ntmps20
    go_wp2_with fail
    rw [← HW.out]
    refine HRR.out.mono ?_
    rintro e w1 ⟨br, rfl, hbr, hb1⟩
    have HBR := Lib.hid hbr
    have HK1 := Lib.hid (HK0.out.later hb1)
    have HB1 := Lib.hid (HB.out.trans (hb1.mono HB.out.size))
    clear hbr hb1 HRR HK0 HB HW W
    have x0 := HK1.out.cell 0
    have x1 := HK1.out.cell 1
    have x2 := HK1.out.cell 2
    have x3 := HK1.out.cell 3
    have x4 := HK1.out.cell 4
    have x5 := HK1.out.cell 5
    go_upto_region 2 with fail
    go_cut [4] from 11 to 21 (fun b wx => ∃ bb, b = .bool bb ∧ (bb = true → rv = 0 ∧ RiseS ls ∧ ls = []) ∧ wx = w1)
    case first =>
      by_cases hm0 : m4 = 0
      · subst hm0
        by_cases hr0 : rv = 0
        · subst hr0
          go_wp2_with fail
          go_meet
          exact ⟨_, rfl, fun _ => ⟨by simp, HLZ.out rfl⟩, rfl⟩
        · have hr0b : (rv == 0) = false := by simp [hr0]
          go_wp2_with fail
          go_meet
          exact ⟨_, rfl, fun h => by simp at h, rfl⟩
      · have hm0i : ¬ ((m4 : Int) = 0) := by omega
        go_wp2_with fail
        go_meet
        exact ⟨_, rfl, fun h => by simp at h, rfl⟩
    case rest =>
      obtain ⟨bb, rfl, hbb, hwc⟩ := hcut
      subst wc
      have HBB := Lib.hid hbb
      clear hbb
      go_upto_block 0 with fail
      go_cut [6] from 27 to 113 (fun ok wx => ∃ ob, ok = .bool ob ∧ (ob = true → (rv = 0 ∨ (k = 5 ∧ n = 2 ∧ 0 ≤ rv)) ∧ RiseS ls ∧ ((k = 5 → nm = [] ∧ v = 0 ∧ n = 2) ∧ (k = 6 → nm = [] ∧ v = 0 ∧ n = 1 ∧ ls = []))) ∧ wx = w1)
      case first =>
        by_cases hk1 : k = 1
        · subst hk1
          by_cases hn1 : n = 0
          rotate_left
          · have hn1i : ¬ ((n : Int) = 0) := by omega
            have hn1b : ((n : Int) == 0) = false := by simp; omega
            go_wp2_with fail
            refine Met.intro ?_
            go_step
            refine ⟨_, _, _, _, _, _, _, _, _, _, _, _, _, _, _, _, _, _, _, _, _, _, _, _, _, _, _, _, _, _, _, _, _, _, _, _, _, _, _, _, _, _, _, _, _, _, _, _, _, _, _, _, _, _, _, _, _, _, _, _, _, _, _, _, _, _, _, _, _, _, _, _, _, _, _, _, _, _, _, _, _, _, _, _, _, _, _, _, ?_, rfl⟩
            exact ⟨_, rfl, fun h => by simp at h, rfl⟩
          subst hn1
          cases bb
          · go_wp2_with fail
            refine Met.intro ?_
            go_step
            refine ⟨_, _, _, _, _, _, _, _, _, _, _, _, _, _, _, _, _, _, _, _, _, _, _, _, _, _, _, _, _, _, _, _, _, _, _, _, _, _, _, _, _, _, _, _, _, _, _, _, _, _, _, _, _, _, _, _, _, _, _, _, _, _, _, _, _, _, _, _, _, _, _, _, _, _, _, _, _, _, _, _, _, _, _, _, _, _, _, _, ?_, rfl⟩
            exact ⟨_, rfl, fun h => by simp at h, rfl⟩
          obtain ⟨b1, hb1⟩ : ∃ b, (ba nm).toList.isEmpty = b := ⟨_, rfl⟩
          cases b1
          · go_wp2_with fail
            refine Met.intro ?_
            go_step
            refine ⟨_, _, _, _, _, _, _, _, _, _, _, _, _, _, _, _, _, _, _, _, _, _, _, _, _, _, _, _, _, _, _, _, _, _, _, _, _, _, _, _, _, _, _, _, _, _, _, _, _, _, _, _, _, _, _, _, _, _, _, _, _, _, _, _, _, _, _, _, _, _, _, _, _, _, _, _, _, _, _, _, _, _, _, _, _, _, _, _, ?_, rfl⟩
            exact ⟨_, rfl, fun h => by simp at h, rfl⟩
          · go_wp2_with fail
            refine Met.intro ?_
            go_step
            refine ⟨_, _, _, _, _, _, _, _, _, _, _, _, _, _, _, _, _, _, _, _, _, _, _, _, _, _, _, _, _, _, _, _, _, _, _, _, _, _, _, _, _, _, _, _, _, _, _, _, _, _, _, _, _, _, _, _, _, _, _, _, _, _, _, _, _, _, _, _, _, _, _, _, _, _, _, _, _, _, _, _, _, _, _, _, _, _, _, _, ?_, rfl⟩
            exact ⟨_, rfl, fun _ => ⟨.inl (HBB.out (by simp)).1, (HBB.out (by simp)).2.1, fun h => absurd h (by decide), fun h => absurd h (by decide)⟩, rfl⟩
        have hk1b : (k == 1) = false := by simp [hk1]
        by_cases hk2 : k = 2
        · subst hk2
          by_cases hn1 : n = 0
          rotate_left
          · have hn1i : ¬ ((n : Int) = 0) := by omega
            have hn1b : ((n : Int) == 0) = false := by simp; omega
            go_wp2_with fail
            refine Met.intro ?_
            go_step
            refine ⟨_, _, _, _, _, _, _, _, _, _, _, _, _, _, _, _, _, _, _, _, _, _, _, _, _, _, _, _, _, _, _, _, _, _, _, _, _, _, _, _, _, _, _, _, _, _, _, _, _, _, _, _, _, _, _, _, _, _, _, _, _, _, _, _, _, _, _, _, _, _, _, _, _, _, _, _, _, _, _, _, _, _, _, _, _, _, _, _, ?_, rfl⟩
            exact ⟨_, rfl, fun h => by simp at h, rfl⟩
          subst hn1
          cases bb
          · go_wp2_with fail
            refine Met.intro ?_
            go_step
            refine ⟨_, _, _, _, _, _, _, _, _, _, _, _, _, _, _, _, _, _, _, _, _, _, _, _, _, _, _, _, _, _, _, _, _, _, _, _, _, _, _, _, _, _, _, _, _, _, _, _, _, _, _, _, _, _, _, _, _, _, _, _, _, _, _, _, _, _, _, _, _, _, _, _, _, _, _, _, _, _, _, _, _, _, _, _, _, _, _, _, ?_, rfl⟩
            exact ⟨_, rfl, fun h => by simp at h, rfl⟩
          obtain ⟨b1, hb1⟩ : ∃ b, (ba nm).toList.isEmpty = b := ⟨_, rfl⟩
          cases b1
          · go_wp2_with fail
            refine Met.intro ?_
            go_step
            refine ⟨_, _, _, _, _, _, _, _, _, _, _, _, _, _, _, _, _, _, _, _, _, _, _, _, _, _, _, _, _, _, _, _, _, _, _, _, _, _, _, _, _, _, _, _, _, _, _, _, _, _, _, _, _, _, _, _, _, _, _, _, _, _, _, _, _, _, _, _, _, _, _, _, _, _, _, _, _, _, _, _, _, _, _, _, _, _, _, _, ?_, rfl⟩
            exact ⟨_, rfl, fun h => by simp at h, rfl⟩
          · go_wp2_with fail
            refine Met.intro ?_
            go_step
            refine ⟨_, _, _, _, _, _, _, _, _, _, _, _, _, _, _, _, _, _, _, _, _, _, _, _, _, _, _, _, _, _, _, _, _, _, _, _, _, _, _, _, _, _, _, _, _, _, _, _, _, _, _, _, _, _, _, _, _, _, _, _, _, _, _, _, _, _, _, _, _, _, _, _, _, _, _, _, _, _, _, _, _, _, _, _, _, _, _, _, ?_, rfl⟩
            exact ⟨_, rfl, fun _ => ⟨.inl (HBB.out (by simp)).1, (HBB.out (by simp)).2.1, fun h => absurd h (by decide), fun h => absurd h (by decide)⟩, rfl⟩
        have hk2b : (k == 2) = false := by simp [hk2]
        by_cases hk3 : k = 3
        · subst hk3
          by_cases hn1 : n = 0
          rotate_left
          · have hn1i : ¬ ((n : Int) = 0) := by omega
            have hn1b : ((n : Int) == 0) = false := by simp; omega
            go_wp2_with fail
            refine Met.intro ?_
            go_step
            refine ⟨_, _, _, _, _, _, _, _, _, _, _, _, _, _, _, _, _, _, _, _, _, _, _, _, _, _, _, _, _, _, _, _, _, _, _, _, _, _, _, _, _, _, _, _, _, _, _, _, _, _, _, _, _, _, _, _, _, _, _, _, _, _, _, _, _, _, _, _, _, _, _, _, _, _, _, _, _, _, _, _, _, _, _, _, _, _, _, _, ?_, rfl⟩
            exact ⟨_, rfl, fun h => by simp at h, rfl⟩
          subst hn1
          cases bb
          · go_wp2_with fail
            refine Met.intro ?_
            go_step
            refine ⟨_, _, _, _, _, _, _, _, _, _, _, _, _, _, _, _, _, _, _, _, _, _, _, _, _, _, _, _, _, _, _, _, _, _, _, _, _, _, _, _, _, _, _, _, _, _, _, _, _, _, _, _, _, _, _, _, _, _, _, _, _, _, _, _, _, _, _, _, _, _, _, _, _, _, _, _, _, _, _, _, _, _, _, _, _, _, _, _, ?_, rfl⟩
            exact ⟨_, rfl, fun h => by simp at h, rfl⟩
          obtain ⟨b1, hb1⟩ : ∃ b, (ba nm).toList.isEmpty = b := ⟨_, rfl⟩
          cases b1
          · go_wp2_with fail
            refine Met.intro ?_
            go_step
            refine ⟨_, _, _, _, _, _, _, _, _, _, _, _, _, _, _, _, _, _, _, _, _, _, _, _, _, _, _, _, _, _, _, _, _, _, _, _, _, _, _, _, _, _, _, _, _, _, _, _, _, _, _, _, _, _, _, _, _, _, _, _, _, _, _, _, _, _, _, _, _, _, _, _, _, _, _, _, _, _, _, _, _, _, _, _, _, _, _, _, ?_, rfl⟩
            exact ⟨_, rfl, fun h => by simp at h, rfl⟩
          · go_wp2_with fail
            refine Met.intro ?_
            go_step
            refine ⟨_, _, _, _, _, _, _, _, _, _, _, _, _, _, _, _, _, _, _, _, _, _, _, _, _, _, _, _, _, _, _, _, _, _, _, _, _, _, _, _, _, _, _, _, _, _, _, _, _, _, _, _, _, _, _, _, _, _, _, _, _, _, _, _, _, _, _, _, _, _, _, _, _, _, _, _, _, _, _, _, _, _, _, _, _, _, _, _, ?_, rfl⟩
            exact ⟨_, rfl, fun _ => ⟨.inl (HBB.out (by simp)).1, (HBB.out (by simp)).2.1, fun h => absurd h (by decide), fun h => absurd h (by decide)⟩, rfl⟩
        have hk3b : (k == 3) = false := by simp [hk3]
        by_cases hk4 : k = 4
        · subst hk4
          by_cases hn1 : n = 0
          rotate_left
          · have hn1i : ¬ ((n : Int) = 0) := by omega
            have hn1b : ((n : Int) == 0) = false := by simp; omega
            go_wp2_with fail
            refine Met.intro ?_
            go_step
            refine ⟨_, _, _, _, _, _, _, _, _, _, _, _, _, _, _, _, _, _, _, _, _, _, _, _, _, _, _, _, _, _, _, _, _, _, _, _, _, _, _, _, _, _, _, _, _, _, _, _, _, _, _, _, _, _, _, _, _, _, _, _, _, _, _, _, _, _, _, _, _, _, _, _, _, _, _, _, _, _, _, _, _, _, _, _, _, _, _, _, ?_, rfl⟩
            exact ⟨_, rfl, fun h => by simp at h, rfl⟩
          subst hn1
          cases bb
          · go_wp2_with fail
            refine Met.intro ?_
            go_step
            refine ⟨_, _, _, _, _, _, _, _, _, _, _, _, _, _, _, _, _, _, _, _, _, _, _, _, _, _, _, _, _, _, _, _, _, _, _, _, _, _, _, _, _, _, _, _, _, _, _, _, _, _, _, _, _, _, _, _, _, _, _, _, _, _, _, _, _, _, _, _, _, _, _, _, _, _, _, _, _, _, _, _, _, _, _, _, _, _, _, _, ?_, rfl⟩
            exact ⟨_, rfl, fun h => by simp at h, rfl⟩
          obtain ⟨b1, hb1⟩ : ∃ b, (ba nm).toList.isEmpty = b := ⟨_, rfl⟩
          cases b1
          · go_wp2_with fail
            refine Met.intro ?_
            go_step
            refine ⟨_, _, _, _, _, _, _, _, _, _, _, _, _, _, _, _, _, _, _, _, _, _, _, _, _, _, _, _, _, _, _, _, _, _, _, _, _, _, _, _, _, _, _, _, _, _, _, _, _, _, _, _, _, _, _, _, _, _, _, _, _, _, _, _, _, _, _, _, _, _, _, _, _, _, _, _, _, _, _, _, _, _, _, _, _, _, _, _, ?_, rfl⟩
            exact ⟨_, rfl, fun _ => ⟨.inl (HBB.out (by simp)).1, (HBB.out (by simp)).2.1, fun h => absurd h (by decide), fun h => absurd h (by decide)⟩, rfl⟩
          · go_wp2_with fail
            refine Met.intro ?_
            go_step
            refine ⟨_, _, _, _, _, _, _, _, _, _, _, _, _, _, _, _, _, _, _, _, _, _, _, _, _, _, _, _, _, _, _, _, _, _, _, _, _, _, _, _, _, _, _, _, _, _, _, _, _, _, _, _, _, _, _, _, _, _, _, _, _, _, _, _, _, _, _, _, _, _, _, _, _, _, _, _, _, _, _, _, _, _, _, _, _, _, _, _, ?_, rfl⟩
            exact ⟨_, rfl, fun h => by simp at h, rfl⟩
        have hk4b : (k == 4) = false := by simp [hk4]
        by_cases hk7 : k = 7
        · subst hk7
          by_cases hn1 : n = 0
          rotate_left
          · have hn1i : ¬ ((n : Int) = 0) := by omega
            have hn1b : ((n : Int) == 0) = false := by simp; omega
            go_wp2_with fail
            refine Met.intro ?_
            go_step
            refine ⟨_, _, _, _, _, _, _, _, _, _, _, _, _, _, _, _, _, _, _, _, _, _, _, _, _, _, _, _, _, _, _, _, _, _, _, _, _, _, _, _, _, _, _, _, _, _, _, _, _, _, _, _, _, _, _, _, _, _, _, _, _, _, _, _, _, _, _, _, _, _, _, _, _, _, _, _, _, _, _, _, _, _, _, _, _, _, _, _, ?_, rfl⟩
            exact ⟨_, rfl, fun h => by simp at h, rfl⟩
          subst hn1
          cases bb
          · go_wp2_with fail
            refine Met.intro ?_
            go_step
            refine ⟨_, _, _, _, _, _, _, _, _, _, _, _, _, _, _, _, _, _, _, _, _, _, _, _, _, _, _, _, _, _, _, _, _, _, _, _, _, _, _, _, _, _, _, _, _, _, _, _, _, _, _, _, _, _, _, _, _, _, _, _, _, _, _, _, _, _, _, _, _, _, _, _, _, _, _, _, _, _, _, _, _, _, _, _, _, _, _, _, ?_, rfl⟩
            exact ⟨_, rfl, fun h => by simp at h, rfl⟩
          obtain ⟨b1, hb1⟩ : ∃ b, (ba nm).toList.isEmpty = b := ⟨_, rfl⟩
          cases b1
          · go_wp2_with fail
            refine Met.intro ?_
            go_step
            refine ⟨_, _, _, _, _, _, _, _, _, _, _, _, _, _, _, _, _, _, _, _, _, _, _, _, _, _, _, _, _, _, _, _, _, _, _, _, _, _, _, _, _, _, _, _, _, _, _, _, _, _, _, _, _, _, _, _, _, _, _, _, _, _, _, _, _, _, _, _, _, _, _, _, _, _, _, _, _, _, _, _, _, _, _, _, _, _, _, _, ?_, rfl⟩
            exact ⟨_, rfl, fun h => by simp at h, rfl⟩
          · go_wp2_with fail
            refine Met.intro ?_
            go_step
            refine ⟨_, _, _, _, _, _, _, _, _, _, _, _, _, _, _, _, _, _, _, _, _, _, _, _, _, _, _, _, _, _, _, _, _, _, _, _, _, _, _, _, _, _, _, _, _, _, _, _, _, _, _, _, _, _, _, _, _, _, _, _, _, _, _, _, _, _, _, _, _, _, _, _, _, _, _, _, _, _, _, _, _, _, _, _, _, _, _, _, ?_, rfl⟩
            exact ⟨_, rfl, fun _ => ⟨.inl (HBB.out (by simp)).1, (HBB.out (by simp)).2.1, fun h => absurd h (by decide), fun h => absurd h (by decide)⟩, rfl⟩
        have hk7b : (k == 7) = false := by simp [hk7]
        by_cases hk6 : k = 6
        · subst hk6
          by_cases hn1 : n = 1
          rotate_left
          · have hn1i : ¬ ((n : Int) = 1) := by omega
            have hn1b : ((n : Int) == 1) = false := by simp; omega
            go_wp2_with fail
            refine Met.intro ?_
            go_step
            refine ⟨_, _, _, _, _, _, _, _, _, _, _, _, _, _, _, _, _, _, _, _, _, _, _, _, _, _, _, _, _, _, _, _, _, _, _, _, _, _, _, _, _, _, _, _, _, _, _, _, _, _, _, _, _, _, _, _, _, _, _, _, _, _, _, _, _, _, _, _, _, _, _, _, _, _, _, _, _, _, _, _, _, _, _, _, _, _, _, _, ?_, rfl⟩
            exact ⟨_, rfl, fun h => by simp at h, rfl⟩
          subst hn1
          cases bb
          · go_wp2_with fail
            refine Met.intro ?_
            go_step
            refine ⟨_, _, _, _, _, _, _, _, _, _, _, _, _, _, _, _, _, _, _, _, _, _, _, _, _, _, _, _, _, _, _, _, _, _, _, _, _, _, _, _, _, _, _, _, _, _, _, _, _, _, _, _, _, _, _, _, _, _, _, _, _, _, _, _, _, _, _, _, _, _, _, _, _, _, _, _, _, _, _, _, _, _, _, _, _, _, _, _, ?_, rfl⟩
            exact ⟨_, rfl, fun h => by simp at h, rfl⟩
          obtain ⟨b1, hb1⟩ : ∃ b, (ba nm).toList.isEmpty = b := ⟨_, rfl⟩
          cases b1
          · go_wp2_with fail
            refine Met.intro ?_
            go_step
            refine ⟨_, _, _, _, _, _, _, _, _, _, _, _, _, _, _, _, _, _, _, _, _, _, _, _, _, _, _, _, _, _, _, _, _, _, _, _, _, _, _, _, _, _, _, _, _, _, _, _, _, _, _, _, _, _, _, _, _, _, _, _, _, _, _, _, _, _, _, _, _, _, _, _, _, _, _, _, _, _, _, _, _, _, _, _, _, _, _, _, ?_, rfl⟩
            exact ⟨_, rfl, fun h => by simp at h, rfl⟩
          · go_wp2_with fail
            refine Met.intro ?_
            go_step
            refine ⟨_, _, _, _, _, _, _, _, _, _, _, _, _, _, _, _, _, _, _, _, _, _, _, _, _, _, _, _, _, _, _, _, _, _, _, _, _, _, _, _, _, _, _, _, _, _, _, _, _, _, _, _, _, _, _, _, _, _, _, _, _, _, _, _, _, _, _, _, _, _, _, _, _, _, _, _, _, _, _, _, _, _, _, _, _, _, _, _, ?_, rfl⟩
            exact ⟨_, rfl, fun hv => ⟨.inl (HBB.out (by simp)).1, (HBB.out (by simp)).2.1, fun h => absurd h (by decide), fun _ => ⟨by simpa [baR_toList] using hb1, by simpa using hv, by simp, (HBB.out (by simp)).2.2⟩⟩, rfl⟩
        have hk6b : (k == 6) = false := by simp [hk6]
        by_cases hk5 : k = 5
        · subst hk5
          by_cases hn1 : n = 2
          rotate_left
          · have hn1i : ¬ ((n : Int) = 2) := by omega
            have hn1b : ((n : Int) == 2) = false := by simp; omega
            go_wp2_with fail
            refine Met.intro ?_
            go_step
            refine ⟨_, _, _, _, _, _, _, _, _, _, _, _, _, _, _, _, _, _, _, _, _, _, _, _, _, _, _, _, _, _, _, _, _, _, _, _, _, _, _, _, _, _, _, _, _, _, _, _, _, _, _, _, _, _, _, _, _, _, _, _, _, _, _, _, _, _, _, _, _, _, _, _, _, _, _, _, _, _, _, _, _, _, _, _, _, _, _, _, ?_, rfl⟩
            exact ⟨_, rfl, fun h => by simp at h, rfl⟩
          subst hn1
          cases br
          · go_wp2_with fail
            refine Met.intro ?_
            go_step
            refine ⟨_, _, _, _, _, _, _, _, _, _, _, _, _, _, _, _, _, _, _, _, _, _, _, _, _, _, _, _, _, _, _, _, _, _, _, _, _, _, _, _, _, _, _, _, _, _, _, _, _, _, _, _, _, _, _, _, _, _, _, _, _, _, _, _, _, _, _, _, _, _, _, _, _, _, _, _, _, _, _, _, _, _, _, _, _, _, _, _, ?_, rfl⟩
            exact ⟨_, rfl, fun h => by simp at h, rfl⟩
          obtain ⟨b1, hb1⟩ : ∃ b, (ba nm).toList.isEmpty = b := ⟨_, rfl⟩
          cases b1
          · go_wp2_with fail
            refine Met.intro ?_
            go_step
            refine ⟨_, _, _, _, _, _, _, _, _, _, _, _, _, _, _, _, _, _, _, _, _, _, _, _, _, _, _, _, _, _, _, _, _, _, _, _, _, _, _, _, _, _, _, _, _, _, _, _, _, _, _, _, _, _, _, _, _, _, _, _, _, _, _, _, _, _, _, _, _, _, _, _, _, _, _, _, _, _, _, _, _, _, _, _, _, _, _, _, ?_, rfl⟩
            exact ⟨_, rfl, fun h => by simp at h, rfl⟩
          · go_wp2_with fail
            refine Met.intro ?_
            go_step
            refine ⟨_, _, _, _, _, _, _, _, _, _, _, _, _, _, _, _, _, _, _, _, _, _, _, _, _, _, _, _, _, _, _, _, _, _, _, _, _, _, _, _, _, _, _, _, _, _, _, _, _, _, _, _, _, _, _, _, _, _, _, _, _, _, _, _, _, _, _, _, _, _, _, _, _, _, _, _, _, _, _, _, _, _, _, _, _, _, _, _, ?_, rfl⟩
            exact ⟨_, rfl, fun hv => ⟨.inr ⟨by simp, by simp, (HBR.out (by simp)).1⟩, (HBR.out (by simp)).2, fun _ => ⟨by simpa [baR_toList] using hb1, by simpa using hv, by simp⟩, fun h => absurd h (by decide)⟩, rfl⟩
        have hk5b : (k == 5) = false := by simp [hk5]
        go_wp2_with fail
        refine Met.intro ?_
        go_step
        refine ⟨_, _, _, _, _, _, _, _, _, _, _, _, _, _, _, _, _, _, _, _, _, _, _, _, _, _, _, _, _, _, _, _, _, _, _, _, _, _, _, _, _, _, _, _, _, _, _, _, _, _, _, _, _, _, _, _, _, _, _, _, _, _, _, _, _, _, _, _, _, _, _, _, _, _, _, _, _, _, _, _, _, _, _, _, _, _, _, _, ?_, rfl⟩
        exact ⟨_, rfl, fun h => by simp at h, rfl⟩
      case rest =>
        obtain ⟨ob, rfl, hob, hwc⟩ := hcut
        subst wc
        have HOB := Lib.hid hob
        clear hob x0 x1 x2 x3 x4 x5
        go_wp2_with fail
        go_loopw [6, 7] (fun okv i wr => ∃ (q : Nat) (o2 : Bool), q ≤ n ∧ i = .int .i64 q ∧ okv = .bool o2 ∧ (o2 = true → ((rv = 0 ∨ (k = 5 ∧ n = 2 ∧ 0 ≤ rv)) ∧ RiseS ls ∧ ((k = 5 → nm = [] ∧ v = 0 ∧ n = 2) ∧ (k = 6 → nm = [] ∧ v = 0 ∧ n = 1 ∧ ls = []))) ∧ ∀ (j : Nat) t, j < q → kids[j]? = some t → RightQ t) ∧ Below w.heap.size w wr ∧ Below w1.heap.size w1 wr) (fun _ i _ => n - (intOf i).toNat)
        case atStart => exact ⟨0, ob, Nat.zero_le _, rfl, rfl, fun h => ⟨HOB.out h, fun j t hj => by omega⟩, HB1.out, Below.refl _ _⟩
        case round =>
          obtain ⟨q, o2, hq, rfl, rfl, ho2, hBw, hBW⟩ := hrel
          obtain ⟨wo, rfl⟩ : ∃ wo, wo = wr := ⟨_, rfl⟩
          have x3 := (HK1.out.later hBW).cell 3
          have HO2 := Lib.hid ho2
          clear ho2
          by_cases hlt : q < n
          · have hlti : (q : Int) < (n : Int) := by omega
            cases o2
            · have HBw := Lib.hid hBw
              clear hBw
              go_wp2
              go_ret
              exact ⟨false, rfl, fun h => by simp at h, HBw.out⟩
            · obtain ⟨t, ht⟩ : ∃ t, kids[q]? = some t := ⟨_, List.getElem?_eq_getElem (by have := HN.out; omega)⟩
              obtain ⟨g, o, rfl⟩ := HA3.out (by omega)
              obtain ⟨l, _, hr, htv⟩ := (HKS.out q t ht).open
              have hgl := reads_block hr (by rw [htv.len]; decide)
              have htm : t ∈ kids := List.mem_of_getElem? ht
              have hcl := IH.out t wo l (HKZ.out t htm) (htv.keep hBw.block)
              have HTQ := Lib.hid ht
              obtain ⟨k', nm', v2, kids', ls', rv'⟩ := t
              obtain ⟨kv', lv', rfl, hkv', hlv', _, _⟩ := htv
              obtain ⟨A5, c5, rfl, _, _⟩ := hkv'.form
              obtain ⟨A6, n6, c6, rfl⟩ : ∃ A n c, lv' = .slice A n c := by rcases hlv'.1 with ⟨rfl, _⟩ | ⟨_, _, rfl, _⟩ <;> exact ⟨_, _, _, rfl⟩
              have hr' : ReadsAt wo (kidAt (.slice (some ⟨g, o, none⟩) n c3) q) (tyC k' nm' v2 (.slice A5 kids'.length c5) (.slice A6 n6 c6) rv') := hr.keep (hBw.block _ hgl)
              obtain ⟨y0, y1, y2, y33, y4, y5⟩ := reads6 (b := g) (o := o + q * 6) hr'
              have HCL := Lib.hid hcl
              have HBw := Lib.hid hBw
              have HBW := Lib.hid hBW
              have hqc : q < c3 := by omega
              unfold tyC at HCL
              clear hcl hr hr' hBw hBW hgl htm ht hkv' hlv'
              go_wp2_with fail
              refine HCL.out.mono ?_
              rintro e w5 ⟨b, rfl, hb, hb5⟩
              have HB5w := Lib.hid (HBw.out.trans (hb5.mono HBw.out.size))
              have HB5W := Lib.hid (HBW.out.trans (hb5.mono HBW.out.size))
              have HBB5 := Lib.hid hb
              clear hb5 hb y0 y1 y2 y33 y4 y5 x3 HCL
              go_wp2_with fail
              go_roundw
              case rel => exact ⟨q + 1, b, by omega, by simp, rfl, fun h => ⟨(HO2.out (by simp)).1, fun j u hj hu => by
                by_cases hjq : j = q
                · subst hjq; rw [HTQ.out] at hu; injection hu with hu; rw [← hu]; exact HBB5.out h
                · exact (HO2.out (by simp)).2 j u (by omega) hu⟩, HB5w.out, HB5W.out⟩
              case measure => (simp [intOf] <;> omega)
          · obtain rfl : q = n := by omega
            have HBw := Lib.hid hBw
            clear hBw
            have hfin : o2 = true → RightQ (.mk k nm v kids ls rv) := by
              intro h
              obtain ⟨h1, h2⟩ := HO2.out h
              simp only [RightQ]
              refine ⟨by rw [← HN.out]; exact h1, (RightQL_iff _).2 fun t ht => ?_⟩
              obtain ⟨j, hj, he⟩ := List.getElem_of_mem ht
              exact h2 j t (by have := HN.out; omega) (by rw [List.getElem?_eq_getElem hj, he])
            have HFIN := Lib.hid hfin
            clear hfin
            go_wp2
            go_ret
            exact ⟨_, rfl, HFIN.out, HBw.out⟩
theorem right_in : ∀ (N : Nat) (t : Ty) (w : World) (l : List Value), t.size ≤ N → N ≤ 100000000 → TRV w t l →
    Calls Tryz.prog 20 #[.agg l.toArray] w fun e w' => ∃ b, e = .returned (.bool b) ∧ (b = true → RightQ t) ∧ Below w.heap.size w w'
  | 0, t, _, _, h, _, _ => by obtain ⟨k, nm, v, kids, ls, rv⟩ := t; simp only [Ty.size] at h; omega
  | N + 1, t, w, l1, hsz, hN, ht => right_step N hN (fun t w l h ht => right_in N t w l h (by omega) ht) t w l1 hsz ht
set_option maxRecDepth 100000 in
theorem right_any (t : Ty) (w : World) (l : List Value) (hsz : t.size ≤ 100000000) (ht : TRV w t l) :
    Calls Tryz.prog 11 #[.agg l.toArray] w fun e w' => ∃ b, e = .returned (.bool b) ∧ (b = true → RightQ t) ∧ Below w.heap.size w w' := by
  obtain ⟨k, nm, v, A3, n3, c3, A4, n4, c4, rv, rfl⟩ : ∃ k nm v A3 n3 c3 A4 n4 c4 rv, l = [.int .i64 k, .string (ba nm), .int .i64 v, .slice A3 n3 c3, .slice A4 n4 c4, .int .i64 rv] := by
    obtain ⟨k, nm, v, kids, ls, rv⟩ := t
    obtain ⟨A3, n3, c3, A4, n4, c4, rfl⟩ := ht.shape
    exact ⟨_, _, _, _, _, _, _, _, _, _, rfl⟩
  obtain ⟨W, hW⟩ : ∃ W, W = w.alloc (.cells #[.int .i64 k, .string (ba nm), .int .i64 v, .slice A3 n3 c3, .slice A4 n4 c4, .int .i64 rv] 44) := ⟨_, rfl⟩
  have hb : Below w.heap.size w W := by rw [hW]; exact below_new w _
  have k0 : Lies W w.heap.size 44 #[.int .i64 k, .string (ba nm), .int .i64 v, .slice A3 n3 c3, .slice A4 n4 c4, .int .i64 rv] := by rw [hW]; exact Lies.new _ _ _
  have HC := Lib.hid (deep_in 100000000 t W _ 201 hsz (Nat.le_refl _) (ht.later hb))
  have HT := Lib.hid (ht.later hb)
  have HB := Lib.hid hb
  have HK := Lib.hid k0
  have HW := Lib.hid hW
  clear hb k0 hW
  go_enter Tryz.func11, Tryz.ntmps11
  go_wp2_with fail
  rw [← HW.out]
  refine HC.out.mono ?_
  rintro e w1 ⟨d, hd, rfl, hb1⟩
  have hl := HK.out.later hb1
  have x0 := hl.cell 0
  have x1 := hl.cell 1
  have x2 := hl.cell 2
  have x3 := hl.cell 3
  have x4 := hl.cell 4
  have x5 := hl.cell 5
  have HB1 := Lib.hid (HB.out.trans (hb1.mono HB.out.size))
  have HC2 := Lib.hid (right_in 100000000 t w1 _ hsz (Nat.le_refl _) (HT.out.later hb1))
  clear hl hb1 HC
  by_cases hd2 : 200 < d
  · have hd3 : (200 : Int) < (d : Int) := by omega
    go_wp2_with fail
    go_ret
    exact ⟨false, rfl, fun h => by simp at h, HB1.out⟩
  · have hd3 : ¬ ((200 : Int) < (d : Int)) := by omega
    go_wp2_with fail
    refine HC2.out.mono ?_
    rintro e w2 ⟨b, rfl, hb, hb2⟩
    have HBB := Lib.hid hb
    have HB2 := Lib.hid (HB1.out.trans (hb2.mono HB1.out.size))
    clear hb hb2
    go_wp2
    go_ret
    exact ⟨_, rfl, HBB.out, HB2.out⟩
end Go.Proofs.YtpbhndmfmnfeoaaGreat.Ug
