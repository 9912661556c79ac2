/- The reference's vars, Vars. -/
import Derived.Test.YtpbhndmfmnfeoaaGreatUgI
import Derived.Test.YtpbhndmfmnfeoaaGreatMg41
import Derived.Outline
namespace Go.Proofs.YtpbhndmfmnfeoaaGreat.Ug
open Go.RowKit Si

theorem Sb.results_tt {P : Program} {fn : Func} {p q : Tmp} (h : fn.results = #[.tmp p, .tmp q]) (tmps : Array Value) (w : World) {a b : Value} (hp : tmps.getD p undef = a) (hq : tmps.getD q undef = b) :
    (results fn tmps).run P w = .ok (.tuple #[a, b]) w := by
  have hp' : tmps[p]?.getD undef = a := by simpa using hp
  have hq' : tmps[q]?.getD undef = b := by simpa using hq
  simp [results, h, hp', hq']
theorem i64_of_ok {n : Int} (h : i64ok n) : IntKind.i64.wrap n = n := by
  unfold i64ok Lit.wf at h
  simp [IntKind.min, IntKind.max, IntKind.signed, IntKind.bits] at h
  exact IntWalk.i64_in _ (by omega)
set_option maxRecDepth 100000 in
set_option maxHeartbeats 8000000 in
theorem vars_in : ∀ (N : Nat) (t : Ty) (w : World) (l : List Value) (va vb : Value) (s : LL2), t.size ≤ N → N ≤ 1000000 → TRV w t l → IntsR w va s.1 → IntsR w vb s.2 → s.1.length + t.size ≤ 5000000 → s.2.length + t.size ≤ 5000000 →
    Calls Tryz.prog 35 #[.agg l.toArray, va, vb] w fun e w' => ∃ va' vb', e = .returned (.tuple #[va', vb']) ∧ IntsR w' va' (varsT t s).1 ∧ IntsR w' vb' (varsT t s).2 ∧ Below w.heap.size w w'
  | 0, t, _, _, _, _, _, h, _, _, _, _, _, _ => by obtain ⟨k, nm, v, kids, ls, rv⟩ := t; simp only [Ty.size] at h; omega
  | N + 1, t, w, l1, va, vb, s, hsz, hN, ht, hva, hvb, hla, hlb => by
    have ih := fun t w l va vb s h => vars_in N t w l va vb s h (by omega)
    obtain ⟨k, nm, v, kids, ls, rv⟩ := t
    have hrs : (Ty.mk k nm v kids ls rv).size = 1 + Ty.sizeL kids := by simp only [Ty.size]
    rw [hrs] at hsz hla hlb
    obtain ⟨kv, lv, rfl, hkv, hlv, hok, hks⟩ := ht
    obtain ⟨A3, c3, rfl, hc3, ha3⟩ := hkv.form
    obtain ⟨A4, m4, c4, rfl⟩ : ∃ A n c, lv = .slice A n c := by rcases hlv.1 with ⟨rfl, _⟩ | ⟨_, _, rfl, _⟩ <;> exact ⟨_, _, _, rfl⟩
    have hkl : kids.length ≤ N := by have := sizeL_len kids; omega
    have hkz : ∀ t ∈ kids, t.size ≤ N := fun t ht => by have := size_kid ht; omega
    obtain ⟨n, hn⟩ : ∃ n, n = kids.length := ⟨_, rfl⟩
    rw [← hn] at hc3 ha3 hkl hks ⊢
    unfold tyC
    obtain ⟨W, hW⟩ : ∃ W, W = w.alloc (.cells #[.int .i64 k, .string (ba nm), .int .i64 v, .slice A3 n c3, .slice A4 m4 c4, .int .i64 rv] 44) := ⟨_, rfl⟩
    have hb : Below w.heap.size w W := by rw [hW]; exact below_new w _
    have k0 : Lies W w.heap.size 44 #[.int .i64 k, .string (ba nm), .int .i64 v, .slice A3 n c3, .slice A4 m4 c4, .int .i64 rv] := by rw [hW]; exact Lies.new _ _ _
    have hvars : varsT (.mk k nm v kids ls rv) s = varsTL k rv true kids (if k = 7 then (withL s.1 v, s.2) else s) := by simp only [varsT]
    rw [hvars]
    have x0 := k0.cell 0
    have x2 := k0.cell 2
    rw [hW] at x0 x2
    have HW := Lib.hid hW
    have HB := Lib.hid hb
    have HK0 := Lib.hid k0
    have HKS := Lib.hid hks
    have HA3 := Lib.hid ha3
    have HN := Lib.hid hn
    have HKZ := Lib.hid hkz
    have IH := Lib.hid ih
    have HSZ := Lib.hid hsz
    have HOK := Lib.hid hok
    have HVA := Lib.hid (hva.later hb)
    have HVB := Lib.hid (hvb.later hb)
    have HLA := Lib.hid hla
    have HLB := Lib.hid hlb
    clear hW hb hks ha3 hn hkz ih hkv hlv hok hsz k0 hrs hva hvb hla hlb hvars
    go_enter Tryz.func35, Tryz.ntmps35
    by_cases hk7 : k = 7
    · subst hk7
      rw [if_pos rfl]
      have HC := Lib.hid (with_any va s.1 v W HVA.out HOK.out.2.1 (by have := HLA.out; omega))
      go_wp2_with fail
      rw [← HW.out]
      refine HC.out.mono ?_
      rintro e W2 ⟨va2, rfl, hva2, hbW⟩
      have HVA2 := Lib.hid hva2
      have HVB2 := Lib.hid (HVB.out.later hbW)
      have HK2 := Lib.hid (HK0.out.later hbW)
      have HB2 := Lib.hid (HB.out.trans (hbW.mono HB.out.size))
      have HLA2 := Lib.hid (show (withL s.1 v).length + Ty.sizeL kids ≤ 5000000 by have := HLA.out; have := withL_len s.1 v; omega)
      have HLB2 := Lib.hid (show s.2.length + 1 + Ty.sizeL kids ≤ 5000000 by have := HLB.out; omega)
      clear hva2 hbW HC HVA HVB HK0 HB HLA HLB HW x0 x2
      go_wp2_with fail
      go_loopw [1, 2, 8] (fun a b i wr => ∃ q : Nat, q ≤ n ∧ i = .int .i64 q ∧ IntsR wr a (varsTL 7 rv true (kids.take q) (withL s.1 v, s.2)).1 ∧ IntsR wr b (varsTL 7 rv true (kids.take q) (withL s.1 v, s.2)).2 ∧ Below w.heap.size w wr ∧ Below W2.heap.size W2 wr) (fun _ _ i _ => n - (intOf i).toNat)
      case atStart => exact ⟨0, Nat.zero_le _, rfl, HVA2.out, HVB2.out, HB2.out, Below.refl _ _⟩
      case round =>
        obtain ⟨q, hq, rfl, ha, hb', hBw, hBW⟩ := hrel
        obtain ⟨wo, rfl⟩ : ∃ wo, wo = wr := ⟨_, rfl⟩
        have hx := HK2.out.later hBW
        have x0 := hx.cell 0
        have x3 := hx.cell 3
        have x5 := hx.cell 5
        have HX := Lib.hid hx
        clear hx
        by_cases hlt : q < n
        · obtain ⟨t, ht⟩ : ∃ t, kids[q]? = some t := ⟨_, List.getElem?_eq_getElem (by have := HN.out; omega)⟩
          obtain ⟨g, o, rfl⟩ := HA3.out (by omega)
          obtain ⟨l, _, hr, htv⟩ := (HKS.out q t ht).open
          have hgl := reads_block hr (by rw [htv.len]; decide)
          have htm : t ∈ kids := List.mem_of_getElem? ht
          have hstep := sizeL_step ht
          have htake := sizeL_take kids (q + 1)
          have hl2 := varsTL_len 7 rv true (kids.take q) (withL s.1 v, s.2)
          have hcl := IH.out t wo l _ _ _ (HKZ.out t htm) (htv.keep hBw.block) ha hb' (by have := HLA2.out; simp only at hl2 this ⊢; omega) (by have := HLB2.out; simp only [if_true] at hl2 this ⊢; omega)
          have hsn := varsTL_snoc 7 rv t (kids.take q) true (withL s.1 v, s.2)
          rw [show kids.take q ++ [t] = kids.take (q + 1) by rw [List.take_add_one, ht]; rfl] at hsn
          have hl3 := varsT_len t (varsTL 7 rv true (kids.take q) (withL s.1 v, s.2))
          obtain ⟨sq, hsq⟩ : ∃ sq, sq = varsT t (varsTL 7 rv true (kids.take q) (withL s.1 v, s.2)) := ⟨_, rfl⟩
          rw [← hsq] at hcl hsn hl3
          have hlq2 : sq.2.length ≤ 10000000 := by have := HLB2.out; simp only [if_true] at hl2 this; omega
          have HLQ := Lib.hid hlq2
          obtain ⟨k', nm', v2, kids', ls', rv'⟩ := t
          obtain ⟨kv', lv', rfl, hkv', hlv', _, _⟩ := htv
          obtain ⟨A5, c5, rfl, _, _⟩ := hkv'.form
          obtain ⟨A6, n6, c6, rfl⟩ : ∃ A n c, lv' = .slice A n c := by rcases hlv'.1 with ⟨rfl, _⟩ | ⟨_, _, rfl, _⟩ <;> exact ⟨_, _, _, rfl⟩
          have hr' : ReadsAt wo (kidAt (.slice (some ⟨g, o, none⟩) n c3) q) (tyC k' nm' v2 (.slice A5 kids'.length c5) (.slice A6 n6 c6) rv') := hr.keep (hBw.block _ hgl)
          obtain ⟨y0, y1, y2, y33, y4, y5⟩ := reads6 (b := g) (o := o + q * 6) hr'
          have HCL := Lib.hid hcl
          have HBw := Lib.hid hBw
          have HBW := Lib.hid hBW
          have HSN := Lib.hid hsn
          have hqc : q < c3 := by omega
          have hlti : (q : Int) < (n : Int) := by omega
          unfold tyC at HCL
          clear hcl hr hr' hBw hBW hgl htm ht hkv' hlv' hstep htake hsn hl2 hl3 hsq hlq2 ha hb'
          go_wp2_with fail
          refine HCL.out.mono ?_
          rintro e w5 ⟨va5, vb5, rfl, ha5, hb5', hb5⟩
          have hx5 := HX.out.later hb5
          have z0 := hx5.cell 0
          have z5 := hx5.cell 5
          have HX5 := Lib.hid hx5
          have HB5w := Lib.hid (HBw.out.trans (hb5.mono HBw.out.size))
          have HB5W := Lib.hid (HBW.out.trans (hb5.mono HBW.out.size))
          have HA5 := Lib.hid ha5
          have HB5 := Lib.hid hb5'
          clear hb5 y0 y1 y2 y33 y4 y5 x0 x3 x5 hx5 ha5 hb5' HX HCL
          have hlen0 : (kids.take q).isEmpty = decide (q = 0) := by
            have := HN.out
            cases q with
            | zero => rfl
            | succ j => cases kids with
              | nil => simp at this; omega
              | cons a r => simp
          rw [hlen0] at HSN
          clear hlen0
          by_cases hq0 : q = 0
          · subst hq0
            have HSN : Hid (varsTL 7 rv true (kids.take (0 + 1)) (withL s.1 v, s.2) = sq) := Lib.hid (HSN.out.trans (if_neg (by simp)))
            go_wp2_with fail
            go_roundw
            case rel => exact ⟨0 + 1, by omega, by simp, by rw [HSN.out]; exact HA5.out, by rw [HSN.out]; exact HB5.out, HB5w.out, HB5W.out⟩
            case measure => (simp [intOf] <;> omega)
          · rw [decide_eq_false hq0, Bool.and_false, varsF_false] at HSN
            have hq0i : ¬ ((q : Int) = 0) := by omega
            go_wp2_with fail
            go_roundw
            case rel => exact ⟨q + 1, by omega, by simp, by rw [HSN.out]; exact HA5.out, by rw [HSN.out]; exact HB5.out, HB5w.out, HB5W.out⟩
            case measure => (simp [intOf] <;> omega)
        · obtain rfl : q = n := by omega
          have hta : kids.take q = kids := List.take_of_length_le (by have := HN.out; omega)
          rw [hta] at ha hb'
          have HA := Lib.hid ha
          have HBb := Lib.hid hb'
          clear ha hb'
          go_wp2
          refine bodyPost_ret (Sb.results_tt rfl _ _ rfl rfl) rfl ?_
          exact ⟨_, _, rfl, HA.out, HBb.out, hBw⟩
    · rw [if_neg hk7]
      have hk7b : (k == 7) = false := by simp [hk7]
      have HVA2 := HVA
      have HVB2 := HVB
      have HK2 := HK0
      have HB2 := HB
      have HLA2 := Lib.hid (show s.1.length + Ty.sizeL kids ≤ 5000000 by have := HLA.out; omega)
      have HLB2 := Lib.hid (show s.2.length + 1 + Ty.sizeL kids ≤ 5000000 by have := HLB.out; omega)
      go_wp2_with fail
      rw [← HW.out]
      clear x0 x2
      go_loopw [1, 2, 8] (fun a b i wr => ∃ q : Nat, q ≤ n ∧ i = .int .i64 q ∧ IntsR wr a (varsTL k rv true (kids.take q) s).1 ∧ IntsR wr b (varsTL k rv true (kids.take q) s).2 ∧ Below w.heap.size w wr ∧ Below W.heap.size W wr) (fun _ _ i _ => n - (intOf i).toNat)
      case atStart => exact ⟨0, Nat.zero_le _, rfl, HVA2.out, HVB2.out, HB2.out, Below.refl _ _⟩
      case round =>
        obtain ⟨q, hq, rfl, ha, hb', hBw, hBW⟩ := hrel
        obtain ⟨wo, rfl⟩ : ∃ wo, wo = wr := ⟨_, rfl⟩
        have hx := HK2.out.later hBW
        have x0 := hx.cell 0
        have x3 := hx.cell 3
        have x5 := hx.cell 5
        have HX := Lib.hid hx
        clear hx
        by_cases hlt : q < n
        · obtain ⟨t, ht⟩ : ∃ t, kids[q]? = some t := ⟨_, List.getElem?_eq_getElem (by have := HN.out; omega)⟩
          obtain ⟨g, o, rfl⟩ := HA3.out (by omega)
          obtain ⟨l, _, hr, htv⟩ := (HKS.out q t ht).open
          have hgl := reads_block hr (by rw [htv.len]; decide)
          have htm : t ∈ kids := List.mem_of_getElem? ht
          have hstep := sizeL_step ht
          have htake := sizeL_take kids (q + 1)
          have hl2 := varsTL_len k rv true (kids.take q) s
          have hcl := IH.out t wo l _ _ _ (HKZ.out t htm) (htv.keep hBw.block) ha hb' (by have := HLA2.out; simp only at hl2 this ⊢; omega) (by have := HLB2.out; simp only [if_true] at hl2 this ⊢; omega)
          have hsn := varsTL_snoc k rv t (kids.take q) true s
          rw [show kids.take q ++ [t] = kids.take (q + 1) by rw [List.take_add_one, ht]; rfl] at hsn
          have hl3 := varsT_len t (varsTL k rv true (kids.take q) s)
          obtain ⟨sq, hsq⟩ : ∃ sq, sq = varsT t (varsTL k rv true (kids.take q) s) := ⟨_, rfl⟩
          rw [← hsq] at hcl hsn hl3
          have hlq2 : sq.2.length ≤ 10000000 := by have := HLB2.out; simp only [if_true] at hl2 this; omega
          have HLQ := Lib.hid hlq2
          obtain ⟨k', nm', v2, kids', ls', rv'⟩ := t
          obtain ⟨kv', lv', rfl, hkv', hlv', _, _⟩ := htv
          obtain ⟨A5, c5, rfl, _, _⟩ := hkv'.form
          obtain ⟨A6, n6, c6, rfl⟩ : ∃ A n c, lv' = .slice A n c := by rcases hlv'.1 with ⟨rfl, _⟩ | ⟨_, _, rfl, _⟩ <;> exact ⟨_, _, _, rfl⟩
          have hr' : ReadsAt wo (kidAt (.slice (some ⟨g, o, none⟩) n c3) q) (tyC k' nm' v2 (.slice A5 kids'.length c5) (.slice A6 n6 c6) rv') := hr.keep (hBw.block _ hgl)
          obtain ⟨y0, y1, y2, y33, y4, y5⟩ := reads6 (b := g) (o := o + q * 6) hr'
          have HCL := Lib.hid hcl
          have HBw := Lib.hid hBw
          have HBW := Lib.hid hBW
          have HSN := Lib.hid hsn
          have hqc : q < c3 := by omega
          have hlti : (q : Int) < (n : Int) := by omega
          unfold tyC at HCL
          clear hcl hr hr' hBw hBW hgl htm ht hkv' hlv' hstep htake hsn hl2 hl3 hsq hlq2 ha hb'
          go_wp2_with fail
          refine HCL.out.mono ?_
          rintro e w5 ⟨va5, vb5, rfl, ha5, hb5', hb5⟩
          have hx5 := HX.out.later hb5
          have z0 := hx5.cell 0
          have z5 := hx5.cell 5
          have HX5 := Lib.hid hx5
          have HB5w := Lib.hid (HBw.out.trans (hb5.mono HBw.out.size))
          have HB5W := Lib.hid (HBW.out.trans (hb5.mono HBW.out.size))
          have HA5 := Lib.hid ha5
          have HB5 := Lib.hid hb5'
          clear hb5 y0 y1 y2 y33 y4 y5 x0 x3 x5 hx5 ha5 hb5' HX HCL
          have hlen0 : (kids.take q).isEmpty = decide (q = 0) := by
            have := HN.out
            cases q with
            | zero => rfl
            | succ j => cases kids with
              | nil => simp at this; omega
              | cons a r => simp
          rw [hlen0] at HSN
          clear hlen0
          by_cases hq0 : q = 0
          · subst hq0
            by_cases hk5 : k = 5
            · subst hk5
              by_cases hrv : 0 < rv
              · have HSZN : Hid (varsTL 5 rv true (kids.take (0 + 1)) s = (sq.1, withL sq.2 rv)) := Lib.hid (HSN.out.trans (if_pos ⟨by simp, rfl, hrv⟩))
                have HC := Lib.hid (with_any vb5 sq.2 rv w5 HB5.out HOK.out.2.2 HLQ.out)
                go_wp2_with fail
                refine HC.out.mono ?_
                rintro e w6 ⟨vb6, rfl, hb6', hb6⟩
                have HB6w := Lib.hid (HB5w.out.trans (hb6.mono HB5w.out.size))
                have HB6W := Lib.hid (HB5W.out.trans (hb6.mono HB5W.out.size))
                have HB6 := Lib.hid hb6'
                have HA6 := Lib.hid (HA5.out.later hb6)
                clear hb6 hb6' z0 z5 HC
                go_wp2_with fail
                go_roundw
                case rel => exact ⟨0 + 1, by omega, by simp, by rw [HSZN.out]; exact HA6.out, by rw [HSZN.out]; exact HB6.out, HB6w.out, HB6W.out⟩
                case measure => (simp [intOf] <;> omega)
              · have HSZN : Hid (varsTL 5 rv true (kids.take (0 + 1)) s = sq) := Lib.hid (HSN.out.trans (if_neg (fun h => hrv h.2.2)))
                go_wp2_with fail
                go_roundw
                case rel => exact ⟨0 + 1, by omega, by simp, by rw [HSZN.out]; exact HA5.out, by rw [HSZN.out]; exact HB5.out, HB5w.out, HB5W.out⟩
                case measure => (simp [intOf] <;> omega)
            · have HSZN : Hid (varsTL k rv true (kids.take (0 + 1)) s = sq) := Lib.hid (HSN.out.trans (if_neg (fun h => hk5 h.2.1)))
              go_wp2_with fail
              go_roundw
              case rel => exact ⟨0 + 1, by omega, by simp, by rw [HSZN.out]; exact HA5.out, by rw [HSZN.out]; exact HB5.out, HB5w.out, HB5W.out⟩
              case measure => (simp [intOf] <;> omega)
          · rw [decide_eq_false hq0, Bool.and_false, varsF_false] at HSN
            have hq0i : ¬ ((q : Int) = 0) := by omega
            go_wp2_with fail
            go_roundw
            case rel => exact ⟨q + 1, by omega, by simp, by rw [HSN.out]; exact HA5.out, by rw [HSN.out]; exact HB5.out, HB5w.out, HB5W.out⟩
            case measure => (simp [intOf] <;> omega)
        · obtain rfl : q = n := by omega
          have hta : kids.take q = kids := List.take_of_length_le (by have := HN.out; omega)
          rw [hta] at ha hb'
          have HA := Lib.hid ha
          have HBb := Lib.hid hb'
          clear ha hb'
          go_wp2
          refine bodyPost_ret (Sb.results_tt rfl _ _ rfl rfl) rfl ?_
          exact ⟨_, _, rfl, HA.out, HBb.out, hBw⟩
set_option maxRecDepth 100000 in
theorem vars_any (t : Ty) (w : World) (l : List Value) (hsz : t.size ≤ 1000000) (ht : TRV w t l) :
    Calls Tryz.prog 21 #[.agg l.toArray] w fun e w' => ∃ va vb, e = .returned (.tuple #[va, vb]) ∧ IntsR w' va (varsT t ([], [])).1 ∧ IntsR w' vb (varsT t ([], [])).2 ∧ Below w.heap.size w w' := by
  obtain ⟨k, nm, v, A3, n3, c3, A4, n4, c4, rv, rfl⟩ : ∃ k nm v A3 n3 c3 A4 n4 c4 rv, l = [.int .i64 k, .string (ba nm), .int .i64 v, .slice A3 n3 c3, .slice A4 n4 c4, .int .i64 rv] := by
    obtain ⟨k, nm, v, kids, ls, rv⟩ := t
    obtain ⟨A3, n3, c3, A4, n4, c4, rfl⟩ := ht.shape
    exact ⟨_, _, _, _, _, _, _, _, _, _, rfl⟩
  have hb := below_new w (.cells #[.int .i64 k, .string (ba nm), .int .i64 v, .slice A3 n3 c3, .slice A4 n4 c4, .int .i64 rv] 44)
  have HC := Lib.hid (vars_in 1000000 t _ _ (.slice none 0 0) (.slice none 0 0) ([], []) hsz (Nat.le_refl _) (ht.later hb) (IntsR.nil _) (IntsR.nil _) (by simp; omega) (by simp; omega))
  have HB := Lib.hid hb
  clear hb
  go_enter Tryz.func21, Tryz.ntmps21
  go_wp2_with fail
  refine HC.out.mono ?_
  rintro e w1 ⟨va, vb, rfl, h1, h2, hb1⟩
  have HB1 := Lib.hid (HB.out.trans (hb1.mono HB.out.size))
  have H1 := Lib.hid h1
  have H2 := Lib.hid h2
  clear h1 h2 hb1
  go_wp2
  refine bodyPost_ret (Sb.results_tt rfl _ _ rfl rfl) rfl ?_
  exact ⟨_, _, rfl, H1.out, H2.out, HB1.out⟩
end Go.Proofs.YtpbhndmfmnfeoaaGreat.Ug
