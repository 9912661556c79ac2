/- The law's count. -/
import Derived.Test.YthdfomcpoofkaaaMg16
import Derived.Outline
namespace Go.Proofs.Ythdfomcpoofkaaa
open Go.RowKit

theorem sizeL_app : ∀ a b : List Ty, Ty.sizeL (a ++ b) = Ty.sizeL a + Ty.sizeL b
  | [], b => by simp [Ty.sizeL]
  | t :: a, b => by simp only [List.cons_append, Ty.sizeL, sizeL_app a b]; omega
theorem sizeL_step {l : List Ty} {k : Nat} {t : Ty} (h : l[k]? = some t) : Ty.sizeL (l.take (k + 1)) = Ty.sizeL (l.take k) + t.size := by
  rw [take_step l k t h, sizeL_app]
  simp [Ty.sizeL]
theorem sizeL_take (l : List Ty) (k : Nat) : Ty.sizeL (l.take k) ≤ Ty.sizeL l := by
  have h := sizeL_app (l.take k) (l.drop k)
  rw [List.take_append_drop] at h
  omega
set_option maxRecDepth 100000 in
set_option maxHeartbeats 8000000 in
theorem count_in : ∀ (N : Nat) (t : Ty) (w : World) (l : List Value), t.size ≤ N → N ≤ 100000000 → TRV w t l →
    Calls Try.prog 9 #[.agg l.toArray] w fun e w' => e = .returned (.int .i64 (t.size : Int)) ∧ Below w.heap.size w w'
  | 0, t, _, _, h, _, _ => by obtain ⟨k, nm, v, kids, ls, rv⟩ := t; simp only [Ty.size] at h; omega
  | N + 1, t, w, l1, hsz, hN, ht => by
    have ih := fun t w l h => count_in N t w l h (by omega)
    obtain ⟨k, nm, v, kids, ls, rv⟩ := t
    obtain ⟨r, hr⟩ : ∃ r, r = (Ty.mk k nm v kids ls rv).size := ⟨_, rfl⟩
    rw [← hr] at hsz ⊢
    have HR := Lib.hid hr
    obtain ⟨kv, lv, rfl, hkv, hlv, hok, hks⟩ := ht
    obtain ⟨A3, c3, rfl, hc3, ha3⟩ := hkv.form
    obtain ⟨A4, m4, c4, rfl⟩ : ∃ A n c, lv = .slice A n c := by rcases hlv.1 with ⟨rfl, _⟩ | ⟨_, _, rfl, _⟩ <;> exact ⟨_, _, _, rfl⟩
    have hrs : r = 1 + Ty.sizeL kids := by rw [hr]; simp only [Ty.size]
    have hkl : kids.length ≤ N := by have := sizeL_len kids; omega
    have hkz : ∀ t ∈ kids, t.size ≤ N := fun t ht => by have := size_kid ht; omega
    obtain ⟨n, hn⟩ : ∃ n, n = kids.length := ⟨_, rfl⟩
    rw [← hn] at hc3 ha3 hkl hks ⊢
    unfold tyC
    obtain ⟨W, hW⟩ : ∃ W, W = w.alloc (.cells #[.int .i64 k, .string (ba nm), .int .i64 v, .slice A3 n c3, .slice A4 m4 c4, .int .i64 rv] 28) := ⟨_, rfl⟩
    have hb : Below w.heap.size w W := by rw [hW]; exact below_new w _
    have k0 : Lies W w.heap.size 28 #[.int .i64 k, .string (ba nm), .int .i64 v, .slice A3 n c3, .slice A4 m4 c4, .int .i64 rv] := by rw [hW]; exact Lies.new _ _ _
    have HW := Lib.hid hW
    have HB := Lib.hid hb
    have HK0 := Lib.hid k0
    have HKS := Lib.hid hks
    have HA3 := Lib.hid ha3
    have HN := Lib.hid hn
    have HKZ := Lib.hid hkz
    have IH := Lib.hid ih
    have HRS := Lib.hid hrs
    have HH := Lib.hid hsz
    clear hW hb hks ha3 hn hkz ih hkv hlv hok hsz k0 hr hrs
    go_enter Try.func9, Try.ntmps9
    go_wp2_with fail
    rw [← HW.out]
    go_loopw [3, 4] (fun cnt i wr => ∃ q C : Nat, q ≤ n ∧ i = .int .i64 q ∧ C = 1 + Ty.sizeL (kids.take q) ∧ cnt = .int .i64 (C : Int) ∧ Below w.heap.size w wr ∧ Below W.heap.size W wr) (fun _ i _ => n - (intOf i).toNat)
    case atStart => exact ⟨0, 1, Nat.zero_le _, rfl, rfl, rfl, HB.out, Below.refl _ _⟩
    case round =>
      obtain ⟨q, C, hq, rfl, hC, rfl, hBw, hBW⟩ := hrel
      obtain ⟨wo, rfl⟩ : ∃ wo, wo = wr := ⟨_, rfl⟩
      have x3 := (HK0.out.later hBW).cell 3
      by_cases hlt : q < n
      · obtain ⟨t, ht⟩ : ∃ t, kids[q]? = some t := ⟨_, List.getElem?_eq_getElem (by have := HN.out; omega)⟩
        obtain ⟨g, o, rfl⟩ := HA3.out (by omega)
        obtain ⟨l, _, hr, htv⟩ := (HKS.out q t ht).open
        have hgl := reads_block hr (by rw [htv.len]; decide)
        have htm : t ∈ kids := List.mem_of_getElem? ht
        have hcl := fun w7 (hb : Below w.heap.size w w7) => IH.out t w7 l (HKZ.out t htm) (htv.later hb)
        have hstep := sizeL_step ht
        have htake := sizeL_take kids (q + 1)
        have hCr : C + t.size ≤ r := by have := HRS.out; omega
        have hc1 : 1 + Ty.sizeL (kids.take (q + 1)) = C + t.size := by omega
        obtain ⟨p, hp⟩ : ∃ p, p = t.size := ⟨_, rfl⟩
        rw [← hp] at hcl hCr hc1
        obtain ⟨k', nm', v2, kids', ls', rv'⟩ := t
        obtain ⟨kv', lv', rfl, hkv', hlv', _, _⟩ := htv
        obtain ⟨A5, c5, rfl, _, _⟩ := hkv'.form
        obtain ⟨A6, n6, c6, rfl⟩ : ∃ A n c, lv' = .slice A n c := by rcases hlv'.1 with ⟨rfl, _⟩ | ⟨_, _, rfl, _⟩ <;> exact ⟨_, _, _, rfl⟩
        have hr' : ReadsAt wo (kidAt (.slice (some ⟨g, o, none⟩) n c3) q) (tyC k' nm' v2 (.slice A5 kids'.length c5) (.slice A6 n6 c6) rv') := hr.keep (hBw.block _ hgl)
        obtain ⟨y0, y1, y2, y33, y4, y5⟩ := reads6 (b := g) (o := o + q * 6) hr'
        have HCL := Lib.hid hcl
        have HBw := Lib.hid hBw
        have HBW := Lib.hid hBW
        have HC1 := Lib.hid hc1
        have hqc : q < c3 := by omega
        have hlti : (q : Int) < (n : Int) := by omega
        have hrb := HH.out
        have hw1 : IntKind.i64.wrap ((C : Int) + (p : Int)) = (C : Int) + (p : Int) := IntWalk.i64_in _ (by omega)
        unfold tyC at HCL
        clear hcl hr hr' hBw hBW hgl htm ht hkv' hlv' hstep htake hc1 hC hp
        go_wp2_with fail
        refine (HCL.out wo HBw.out).mono ?_
        rintro e w5 ⟨rfl, hb5⟩
        have hb5w := HBw.out.trans (hb5.mono HBw.out.size)
        have hb5W := HBW.out.trans (hb5.mono HBW.out.size)
        clear hb5 y0 y1 y2 y33 y4 y5 x3
        go_wp2_with fail
        go_roundw
        case rel => exact ⟨q + 1, C + p, by omega, by simp, HC1.out.symm, by simp, hb5w, hb5W⟩
        case measure => (simp [intOf] <;> omega)
      · obtain rfl : q = n := by omega
        have hCr : C = r := by rw [hC, HRS.out, List.take_of_length_le (by have := HN.out; omega)]
        clear hC
        subst hCr
        go_wp2
        go_ret
        exact ⟨rfl, hBw⟩
theorem count_any (t : Ty) (w : World) (l : List Value) (hsz : t.size ≤ 100000000) (h : TRV w t l) :
    Calls Try.prog 9 #[.agg l.toArray] w fun e w' => e = .returned (.int .i64 (t.size : Int)) ∧ Below w.heap.size w w' := count_in 100000000 t w l hsz (Nat.le_refl _) h
end Go.Proofs.Ythdfomcpoofkaaa
