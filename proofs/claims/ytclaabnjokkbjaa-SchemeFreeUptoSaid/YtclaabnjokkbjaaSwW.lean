/- SchemeFree's walk: what comes in is right and small. -/
import Derived.Test.YtclaabnjokkbjaaMg36
import Derived.Test.YtclaabnjokkbjaaSwS
import Derived.Test.YtclaabnjokkbjaaMg39
import Derived.Test.YtclaabnjokkbjaaSwB
import Derived.Test.YtclaabnjokkbjaaSwG
import Derived.Test.YtclaabnjokkbjaaScI
import Derived.Test.YtclaabnjokkbjaaSbRt
import Derived.Test.YtclaabnjokkbjaaSbVr
import Derived.Test.YtclaabnjokkbjaaSdT
import Derived.IntWalk
import Derived.Outline
namespace Go.Proofs.Ytclaabnjokkbjaa
open Go.RowKit

theorem ints_slice {w : World} {v : Value} {L : List Int} (h : IntsR w v L) : ∃ A c, v = .slice A L.length c := by
  rcases h.1 with ⟨rfl, h2⟩ | ⟨ad, c, rfl, _⟩
  · have : L = [] := by simpa using h2
    subst this
    exact ⟨_, _, rfl⟩
  · rw [List.length_map]
    exact ⟨_, _, rfl⟩
theorem free_count1 {t : Ty} {s s' : Nat} {K K' F : List Int} (h : Ext1 (inK t) s [] K') (ha : ∀ n, inK t n → n ∈ K') (h2 : Ext1 (inK t) s' [] K) : (lessL K' (lessL K F)).length + (lessL K F).length = (varsT t ([], [])).1.length :=
  count_split K' (lessL K F) _ (h.nod List.nodup_nil) ((h2.nod List.nodup_nil).filter _) (varsT_nod t ([], []) List.nodup_nil List.nodup_nil).1 (fun n hn => ha n ((h2.mem n (mem_lessL.1 hn).1).resolve_left (by simp)))
    (fun n => ⟨fun hn => (varsT_K t ([], []) n).2 (.inr ((h.mem n hn).resolve_left (by simp))), fun hn => ha n (((varsT_K t ([], []) n).1 hn).resolve_left (by simp))⟩)
theorem free_count2 {t : Ty} {s s' : Nat} {K K' F : List Int} (h : Ext1 (inR t) s [] K') (ha : ∀ n, inR t n → n ∈ K') (h2 : Ext1 (inR t) s' [] K) (hr : RightP t) : (lessL K' (lessL K F)).length + (lessL K F).length = (varsT t ([], [])).2.length :=
  count_split K' (lessL K F) _ (h.nod List.nodup_nil) ((h2.nod List.nodup_nil).filter _) (varsT_nod t ([], []) List.nodup_nil List.nodup_nil).2 (fun n hn => ha n ((h2.mem n (mem_lessL.1 hn).1).resolve_left (by simp)))
    (fun n => ⟨fun hn => (varsT_R t ([], []) n (RightP.fn t hr)).2 (.inr ((h.mem n hn).resolve_left (by simp))), fun hn => ha n (((varsT_R t ([], []) n (RightP.fn t hr)).1 hn).resolve_left (by simp))⟩)
theorem info_scheme8 : (Try.prog.info? 62).map (fun i => (i.zero, i.size, i.bytes)) = some (some (.agg #[.slice none 0 0, .slice none 0 0, .int .i64 0, .string ⟨#[]⟩, .int .i64 0, .slice none 0 0, .slice none 0 0, .int .i64 0]), 8, 136) := by kernel_rfl
set_option maxRecDepth 100000 in
set_option maxHeartbeats 80000000 in
theorem schemeFree_walk (w : World) (A0 : Option Addr) (n0 c0 : Nat) (E0 : List Ty) (hn0 : E0.length = n0) (hnc : n0 ≤ c0) (_hnb : n0 ≤ 2000000) (hE : ∀ (i : Nat) t, E0[i]? = some t → ∃ g o, A0 = some ⟨g, o, none⟩ ∧ TR w ⟨g, o + i * 6, none⟩ t) (hEs : ∀ t ∈ E0, t.size ≤ 2000000)
    (t o : Ty) (l1 l2 : List Value) (ht : TRV w t l1) (htw : TWV w t l1) (hts : t.size ≤ 2000000) (ho : TRV w o l2) (hos : o.size ≤ 2000000) :
    Calls Try.prog 6 #[.slice A0 n0 c0, .agg l1.toArray, .agg l2.toArray] w fun e w' => e = .returned (.bool true) ∧ Below w.heap.size w w' := by
  have ht0 := ht
  have ho0 := ho
  have htw0 := htw
  obtain ⟨k1, nm1, v1, A1, n1, c1, B1, m1, d1, rv1, rfl⟩ := ht.shp
  obtain ⟨k2, nm2, v2, A2, n2, c2, B2, m2, d2, rv2, rfl⟩ := ho.shp
  unfold tyC at ht0 ho0 htw0 ⊢
  obtain ⟨W, hW⟩ : ∃ W, W = (w.alloc (.cells #[.int .i64 k1, .string (ba nm1), .int .i64 v1, .slice A1 n1 c1, .slice B1 m1 d1, .int .i64 rv1] 28)).alloc (.cells #[.int .i64 k2, .string (ba nm2), .int .i64 v2, .slice A2 n2 c2, .slice B2 m2 d2, .int .i64 rv2] 28) := ⟨_, rfl⟩
  have hb : Below w.heap.size w W := by rw [hW]; exact ((Below.refl _ w).alloc (Nat.le_refl _) _).alloc (by simp) _
  have k4 : Lies W w.heap.size 28 #[.int .i64 k1, .string (ba nm1), .int .i64 v1, .slice A1 n1 c1, .slice B1 m1 d1, .int .i64 rv1] := by rw [hW]; exact (Lies.new _ _ _).alloc _
  have k5 : Lies W (w.heap.size + 1) 28 #[.int .i64 k2, .string (ba nm2), .int .i64 v2, .slice A2 n2 c2, .slice B2 m2 d2, .int .i64 rv2] := by rw [hW]; exact Lies.new' _ _ _ (by simp)
  have HW := Lib.hid hW
  have HB := Lib.hid hb
  have HK4 := Lib.hid k4
  have HK5 := Lib.hid k5
  have HT := Lib.hid ht0
  have HTW := Lib.hid htw0
  have HO := Lib.hid ho0
  have HEE := Lib.hid hE
  have HES := Lib.hid hEs
  have HTS := Lib.hid hts
  have HOS := Lib.hid hos
  have HN0 := Lib.hid hn0
  have hsh := shown8_any W
  have HSH := Lib.hid hsh
  clear hW hb k4 k5 ht0 htw0 ho0 hE hEs hts hos hsh ht htw ho hn0
  go_enter Try.func6, Try.ntmps6
  go_wp2_with fail
  rw [← HW.out]
  refine HSH.out.mono ?_
  rintro e x1 ⟨rfl, hb1⟩
  have HB1 := Lib.hid (HB.out.trans (hb1.mono HB.out.size))
  have HX1 := Lib.hid hb1
  have HC1 := Lib.hid (count8_any t x1 _ (by have := HTS.out; omega) (HT.out.keep HB1.out.block))
  clear hb1
  have q0 := (HK4.out.later HX1.out).cell 0
  have q1 := (HK4.out.later HX1.out).cell 1
  have q2 := (HK4.out.later HX1.out).cell 2
  have q3 := (HK4.out.later HX1.out).cell 3
  have q4 := (HK4.out.later HX1.out).cell 4
  have q5 := (HK4.out.later HX1.out).cell 5
  go_wp2_with fail
  refine HC1.out.mono ?_
  rintro e x2 ⟨rfl, hb2⟩
  have HX2 := Lib.hid (HX1.out.trans (hb2.mono HX1.out.size))
  clear hb2 q0 q1 q2 q3 q4 q5 HC1 HX1 HB1
  by_cases hc30 : 30 < t.size
  · have hc30i : (30 : Int) < (t.size : Int) := by omega
    have HB2 := Lib.hid (HB.out.trans (HX2.out.mono HB.out.size))
    go_wp2_with fail
    go_ret
    exact ⟨ret_bool (by simp), HB2.out⟩
  have hc30i : ¬ (30 : Int) < (t.size : Int) := by omega
  have HB2 := Lib.hid (HB.out.trans (HX2.out.mono HB.out.size))
  have HR1 := Lib.hid (right_any t x2 _ (by omega) (HT.out.keep HB2.out.block))
  have q0 := (HK4.out.later HX2.out).cell 0
  have q1 := (HK4.out.later HX2.out).cell 1
  have q2 := (HK4.out.later HX2.out).cell 2
  have q3 := (HK4.out.later HX2.out).cell 3
  have q4 := (HK4.out.later HX2.out).cell 4
  have q5 := (HK4.out.later HX2.out).cell 5
  go_wp2_with fail
  refine HR1.out.mono ?_
  rintro e x3 ⟨br, rfl, hbr, hb3⟩
  have HX3 := Lib.hid (HX2.out.trans (hb3.mono HX2.out.size))
  have HBR := Lib.hid hbr
  clear hb3 hbr q0 q1 q2 q3 q4 q5 HR1 HX2 HB2
  have HB3 := Lib.hid (HB.out.trans (HX3.out.mono HB.out.size))
  cases br with
  | false =>
    go_wp2_with fail
    go_ret
    exact ⟨ret_bool (by simp), HB3.out⟩
  | true =>
  have HRP := Lib.hid (HBR.out rfl)
  clear HBR
  have HC2 := Lib.hid (count8_any o x3 _ (by have := HOS.out; omega) (HO.out.keep HB3.out.block))
  have q0 := (HK5.out.later HX3.out).cell 0
  have q1 := (HK5.out.later HX3.out).cell 1
  have q2 := (HK5.out.later HX3.out).cell 2
  have q3 := (HK5.out.later HX3.out).cell 3
  have q4 := (HK5.out.later HX3.out).cell 4
  have q5 := (HK5.out.later HX3.out).cell 5
  go_wp2_with fail
  refine HC2.out.mono ?_
  rintro e x4 ⟨rfl, hb4⟩
  have HX4 := Lib.hid (HX3.out.trans (hb4.mono HX3.out.size))
  clear hb4 q0 q1 q2 q3 q4 q5 HC2 HX3 HB3
  have HB4 := Lib.hid (HB.out.trans (HX4.out.mono HB.out.size))
  by_cases ho30 : 30 < o.size
  · have ho30i : (30 : Int) < (o.size : Int) := by omega
    go_wp2_with fail
    go_ret
    exact ⟨ret_bool (by simp), HB4.out⟩
  have ho30i : ¬ (30 : Int) < (o.size : Int) := by omega
  have HR2 := Lib.hid (right_any o x4 _ (by omega) (HO.out.keep HB4.out.block))
  have q0 := (HK5.out.later HX4.out).cell 0
  have q1 := (HK5.out.later HX4.out).cell 1
  have q2 := (HK5.out.later HX4.out).cell 2
  have q3 := (HK5.out.later HX4.out).cell 3
  have q4 := (HK5.out.later HX4.out).cell 4
  have q5 := (HK5.out.later HX4.out).cell 5
  go_wp2_with fail
  refine HR2.out.mono ?_
  rintro e x5 ⟨br, rfl, hbr, hb5⟩
  have HX5 := Lib.hid (HX4.out.trans (hb5.mono HX4.out.size))
  have HBR := Lib.hid hbr
  clear hb5 hbr q0 q1 q2 q3 q4 q5 HR2 HX4 HB4
  have HB5 := Lib.hid (HB.out.trans (HX5.out.mono HB.out.size))
  cases br with
  | false =>
    go_wp2_with fail
    go_ret
    exact ⟨ret_bool (by simp), HB5.out⟩
  | true =>
  have HRO := Lib.hid (HBR.out rfl)
  clear HBR
  go_wp2_with fail
  skip
  go_loopw [8, 9] (fun lv i wr => ∃ (k : Nat) (E : List Ty), k ≤ n0 ∧ k ≤ 4 ∧ i = .int .i64 k ∧ E.length ≤ k ∧ (∀ u ∈ E, u.size ≤ 1000) ∧ EnvO wr W.heap.size lv E ∧ Below W.heap.size W wr) (fun _ i _ => 4 - (intOf i).toNat)
  case atStart => exact ⟨0, [], Nat.zero_le _, by omega, rfl, by simp, by simp, EnvO.nil _ _, HX5.out⟩
  case round =>
    obtain ⟨k, E, hk0, hk4, rfl, hEl, hEz, hEo, hBr⟩ := hrel
    obtain ⟨wo, rfl⟩ : ∃ wo, wo = wr := ⟨_, rfl⟩
    have HEO := Lib.hid hEo
    have HEZ := Lib.hid hEz
    have HBr := Lib.hid hBr
    have HBw := Lib.hid (HB.out.trans (hBr.mono HB.out.size))
    obtain ⟨xs0, _, how0, _, _⟩ := id hEo
    obtain ⟨AL, nL, cL, rfl⟩ := own_slice how0
    obtain rfl := own_n how0
    clear hEo hEz hBr how0
    by_cases hlt : k < n0 ∧ k < 4
    · obtain ⟨hln, hl4⟩ := hlt
      obtain ⟨u, hu⟩ : ∃ u, E0[k]? = some u := ⟨_, List.getElem?_eq_getElem (by have := HN0.out; omega)⟩
      obtain ⟨g, oo, rfl, htr⟩ := HEE.out k u hu
      obtain ⟨lu, _, hru0, htv⟩ := htr.open
      have hus := HES.out u (List.mem_of_getElem? hu)
      have hru := hru0.laterB (by rw [htv.len]; decide) HBw.out
      have htvo := htv.later HBw.out
      obtain ⟨ku, nmu, vu, Au, nu, cu, Bu, mu, du, rvu, rfl⟩ := htv.shp
      unfold tyC at hru htvo
      have HTV := Lib.hid htvo
      have HRU := Lib.hid hru
      have HUS := Lib.hid hus
      have z0 := hru 0 _ rfl
      have z1 := hru 1 _ rfl
      have z2 := hru 2 _ rfl
      have z3 := hru 3 _ rfl
      have z4 := hru 4 _ rfl
      have z5 := hru 5 _ rfl
      simp only [Nat.add_zero] at z0
      have hglt : g < wo.heap.size := reads_block hru (by simp)
      have hkn : (k : Int) < (n0 : Int) := by omega
      have hk4i : (k : Int) < 4 := by omega
      have hkc : k < c0 := by omega
      have HRa := Lib.hid (right_any u wo _ (by omega) htvo)
      clear htvo hru hru0 htv htr hus hu
      go_wp2_with fail
      refine HRa.out.mono ?_
      rintro e y1 ⟨br, rfl, _, hy1⟩
      have HY1 := Lib.hid hy1
      clear hy1 z0 z1 z2 z3 z4 z5 HRa
      cases br with
      | false =>
        go_wp2_with fail
        go_roundw
        case rel => exact ⟨k + 1, E, by omega, by omega, by simp, by omega, HEZ.out, HEO.out.later HY1.out, HBr.out.trans (HY1.out.mono HBr.out.size)⟩
        case measure => (simp [intOf] <;> omega)
      | true =>
        have hru := HRU.out.laterB (by simp) HY1.out
        have z0 := hru 0 _ rfl
        have z1 := hru 1 _ rfl
        have z2 := hru 2 _ rfl
        have z3 := hru 3 _ rfl
        have z4 := hru 4 _ rfl
        have z5 := hru 5 _ rfl
        simp only [Nat.add_zero] at z0
        have HCa := Lib.hid (count8_any u y1 _ (by have := HUS.out; omega) (HTV.out.later HY1.out))
        clear hru
        go_wp2_with fail
        refine HCa.out.mono ?_
        rintro e y2 ⟨rfl, hy2⟩
        have HY2 := Lib.hid (HY1.out.trans (hy2.mono HY1.out.size))
        clear hy2 z0 z1 z2 z3 z4 z5 HCa HY1
        by_cases h50 : u.size < 50
        case neg =>
          have h50i : ¬ (u.size : Int) < 50 := by omega
          go_wp2_with fail
          go_roundw
          case rel => exact ⟨k + 1, E, by omega, by omega, by simp, by omega, HEZ.out, HEO.out.later HY2.out, HBr.out.trans (HY2.out.mono HBr.out.size)⟩
          case measure => (simp [intOf] <;> omega)
        case pos =>
          have h50i : (u.size : Int) < 50 := by omega
          have hru := HRU.out.laterB (by simp) HY2.out
          have z0 := hru 0 _ rfl
          have z1 := hru 1 _ rfl
          have z2 := hru 2 _ rfl
          have z3 := hru 3 _ rfl
          have z4 := hru 4 _ rfl
          have z5 := hru 5 _ rfl
          simp only [Nat.add_zero] at z0
          have HBa := Lib.hid (bare_anyK y2 u _ (HTV.out.later HY2.out) (by omega))
          clear hru
          go_wp2_with fail
          refine HBa.out.mono ?_
          rintro e y3 ⟨l3, rfl, ht3, hy3⟩
          obtain ⟨k3, nm3, v3, A3, n3, c3, B3, m3, d3, rv3, rfl⟩ := (ht3 y3 ⟨Nat.le_refl _, fun _ _ _ => rfl⟩).trv.shp
          unfold schemeV
          unfold tyC at ht3 ⊢
          have HY3 := Lib.hid (HY2.out.trans (hy3.mono HY2.out.size))
          have HT3 := Lib.hid ht3
          have HY23 := Lib.hid (HY2.out.size)
          clear hy3 ht3 z0 z1 z2 z3 z4 z5 HBa HY2
          obtain ⟨xs, hxs⟩ := HEO.out.later HY3.out
          obtain ⟨i0, hi, hz0, hz1, hz2⟩ := info_parts info_scheme8
          have HXS := Lib.hid hxs
          have HX2 := Lib.hid hxs.2.1
          have HNW := Lib.hid (new_cells y3 62 [.slice none 0 0, .slice none 0 0, .int .i64 k3, .string (ba nm3), .int .i64 v3, .slice A3 n3 c3, .slice B3 m3 d3, .int .i64 rv3] (N := y3.heap.size) rfl)
          have HSB := Lib.hid (show W.heap.size ≤ y3.heap.size from Nat.le_trans HBr.out.size HY3.out.size)
          clear hxs
          go_wp2_with (first | (at_builtin; go_loud (refine wpList_append_own_at _ rfl (.tmp 64) (.tmp 70) 60 rfl W.heap.size 62 i0 _ 8 136 Try.underlying60 hi hz0 hz1 hz2 rfl (by decide) _ E.length _ rfl (own_later HX2.out (below_new y3 _)) ⟨y3.heap.size, 0, none⟩ 1 1 [.slice none 0 0, .slice none 0 0, .int .i64 k3, .string (ba nm3), .int .i64 v3, .slice A3 n3 c3, .slice B3 m3 d3, .int .i64 rv3] rfl rfl HNW.out (by simp [Value.oneCell']) (by unfold maxLen; omega) (by omega) (by have := HSB.out; simp; omega) ?_); intro v' w5 hown hgr hnil hat; have HOWN := Lib.hid hown; have HGR := Lib.hid hgr; have HAT := Lib.hid hat; obtain ⟨A6, k6, c6, rfl⟩ := own_slice hown; clear hown hnil hat hgr))
          go_roundw
          case rel =>
            refine ⟨k + 1, E ++ [u], by omega, by omega, by simp, by simp; omega, fun x hx => ?_, ?_, ?_⟩
            · rcases List.mem_append.1 hx with hx | hx
              · exact HEZ.out x hx
              · rw [List.mem_singleton.1 hx]; omega
            · exact EnvO.add HXS.out rfl HT3.out (below_new y3 _) HGR.out HAT.out HOWN.out (fun b hb => by
                obtain ⟨xs1, _, h2, _⟩ := HEO.out
                have := (own_block h2 b hb).2
                have := HY23.out
                omega)
            · exact ((HBr.out.trans (HY3.out.mono HBr.out.size)).trans ((below_new y3 _).mono HSB.out)).grown HGR.out (by have := HSB.out; simp; omega) (fun q e => by
                obtain ⟨xs1, _, h2, _⟩ := HEO.out
                exact (own_block h2 q e).1)
          case measure => (simp [intOf] <;> omega)
    · have HGE := Lib.hid (general_any wo _ E t _ HEO.out.env (by omega) HEZ.out (HT.out.keep HBw.out.block) (HTW.out.later HBw.out) (by omega))
      have q0 := (HK4.out.later HBr.out).cell 0
      have q1 := (HK4.out.later HBr.out).cell 1
      have q2 := (HK4.out.later HBr.out).cell 2
      have q3 := (HK4.out.later HBr.out).cell 3
      have q4 := (HK4.out.later HBr.out).cell 4
      have q5 := (HK4.out.later HBr.out).cell 5
      have hkk : ¬ ((k : Int) < (n0 : Int)) ∨ ((k : Int) < (n0 : Int) ∧ ¬ ((k : Int) < 4)) := by omega
      rcases hkk with hkk | ⟨hkk, hkk2⟩
      all_goals
        go_wp2_with fail
        refine HGE.out.mono ?_
        rintro e y1 ⟨v1', v2', l6, FK, FR, K, R, rfl, ho1, ho2, ⟨ht6, htr6⟩, hx1, hx2, hf1, hf2, _, hb6⟩
        obtain ⟨Av, nv, cv, rfl⟩ := own_slice ho1
        obtain ⟨Ar, nr, cr, rfl⟩ := own_slice ho2
        have hnv := own_n ho1
        have hnr := own_n ho2
        obtain ⟨ks, nms, vs, A9, n9, c9, B9, m9, d9, rs, rfl⟩ := ht6.trv.shp
        unfold schemeV
        unfold tyC at ht6 htr6 ⊢
        have hok1 : ∀ n ∈ lessL K FK, i64ok n := lessL_ok hx1.ok0
        have hok2 : ∀ n ∈ lessL R FR, i64ok n := lessL_ok hx2.ok0
        have hl1 : (lessL K FK).length ≤ 100 := by have h1 := hx1.len; have h2 : (lessL K FK).length ≤ K.length := List.length_filter_le _ _; simp at h1; omega
        have hl2 : (lessL R FR).length ≤ 100 := by have h1 := hx2.len; have h2 : (lessL R FR).length ≤ R.length := List.length_filter_le _ _; simp at h1; omega
        have hy6 := HBr.out.trans (hb6.mono HBr.out.size)
        obtain ⟨Y, hY⟩ : ∃ Y, Y = y1.alloc (.cells #[.slice Av nv cv, .slice Ar nr cr, .int .i64 ks, .string (ba nms), .int .i64 vs, .slice A9 n9 c9, .slice B9 m9 d9, .int .i64 rs] 62) := ⟨_, rfl⟩
        have hbY : Below y1.heap.size y1 Y := by rw [hY]; exact below_new _ _
        have lY : Lies Y y1.heap.size 62 #[.slice Av nv cv, .slice Ar nr cr, .int .i64 ks, .string (ba nms), .int .i64 vs, .slice A9 n9 c9, .slice B9 m9 d9, .int .i64 rs] := by rw [hY]; exact Lies.new _ _ _
        have HI1 := Lib.hid (fun V (hV : Below Y.heap.size Y V) => IntR.of_own (own_later (own_later ho1 hbY) hV) hok1)
        have HI2 := Lib.hid (fun V (hV : Below Y.heap.size Y V) => IntR.of_own (own_later (own_later ho2 hbY) hV) hok2)
        have HFE := Lib.hid (free_any Y (.slice Av nv cv) (.slice Ar nr cr) (lessL K FK) (lessL R FR) t _ (IntR.of_own (own_later ho1 hbY) hok1) (IntR.of_own (own_later ho2 hbY) hok2) (ht6.keep hbY.block) (by omega) (by omega) (by omega))
        have HY := Lib.hid hY
        have HLY := Lib.hid lY
        have HWY := Lib.hid (hy6.trans (hbY.mono hy6.size))
        have HOY := Lib.hid (hb6.trans (hbY.mono hb6.size))
        have HXK := Lib.hid hx1
        have HXR := Lib.hid hx2
        have HFK := Lib.hid hf1
        have HFR := Lib.hid hf2
        have HNV := Lib.hid hnv
        have HNR := Lib.hid hnr
        have HL1 := Lib.hid hl1
        have HL2 := Lib.hid hl2
        clear ho1 ho2 ht6 htr6 hx1 hx2 hf1 hf2 hb6 hnv hnr hok1 hok2 hl1 hl2 hy6 hY hbY lY q0 q1 q2 q3 q4 q5
        go_wp2_with fail
        rw [← HY.out]
        refine HFE.out.mono ?_
        rintro e y2 ⟨u1, u2, K', R', rfl, hou1, hou2, hxk, hxr, hak, har, hb7⟩
        obtain ⟨Au, nu, cu, rfl⟩ := own_slice hou1
        obtain ⟨Aw, nw, cw, rfl⟩ := own_slice hou2
        have HNU := Lib.hid (own_n hou1)
        have HNW := Lib.hid (own_n hou2)
        have HY2 := Lib.hid hb7
        have HW2 := Lib.hid (HWY.out.trans (hb7.mono HWY.out.size))
        have HXK' := Lib.hid hxk
        have HXR' := Lib.hid hxr
        have HAK := Lib.hid hak
        have HAR := Lib.hid har
        have q0 := (HK4.out.later HW2.out).cell 0
        have q1 := (HK4.out.later HW2.out).cell 1
        have q2 := (HK4.out.later HW2.out).cell 2
        have q3 := (HK4.out.later HW2.out).cell 3
        have q4 := (HK4.out.later HW2.out).cell 4
        have q5 := (HK4.out.later HW2.out).cell 5
        have HVA := Lib.hid (vars_any t y2 _ (by omega) (HT.out.keep (HB.out.trans (HW2.out.mono HB.out.size)).block))
        clear hou1 hou2 hxk hxr hak har hb7
        go_wp2_with fail
        refine HVA.out.mono ?_
        rintro e y3 ⟨va, vb, rfl, hva, hvb, hb8⟩
        obtain ⟨Ax, cx, rfl⟩ := ints_slice hva
        obtain ⟨Ay, cy, rfl⟩ := ints_slice hvb
        obtain ⟨nx, hnx⟩ : ∃ n, n = (varsT t ([], [])).1.length := ⟨_, rfl⟩
        obtain ⟨ny, hny⟩ : ∃ n, n = (varsT t ([], [])).2.length := ⟨_, rfl⟩
        rw [← hnx, ← hny]
        have hcount1 : nu + nv = nx := by rw [HNU.out, HNV.out, hnx]; exact free_count1 HXK'.out HAK.out HXK.out
        have hcount2 : nw + nr = ny := by rw [HNW.out, HNR.out, hny]; exact free_count2 HXR'.out HAR.out HXR.out HRP.out
        have hnvb : nv ≤ 100 := by rw [HNV.out]; exact HL1.out
        have hnrb : nr ≤ 100 := by rw [HNR.out]; exact HL2.out
        have hnub : nu ≤ 100 := by have h1 := HXK'.out.len; have h2 : (lessL K' (lessL K FK)).length ≤ K'.length := List.length_filter_le _ _; rw [HNU.out]; simp at h1; omega
        have hnwb : nw ≤ 100 := by have h1 := HXR'.out.len; have h2 : (lessL R' (lessL R FR)).length ≤ R'.length := List.length_filter_le _ _; rw [HNW.out]; simp at h1; omega
        have hi1 : (nu : Int) + (nv : Int) = (nx : Int) := by omega
        have hi2 : (nw : Int) + (nr : Int) = (ny : Int) := by omega
        have hi3 : IntKind.i64.wrap (nx : Int) = (nx : Int) := IntWalk.i64_in _ (by omega)
        have hi4 : IntKind.i64.wrap (ny : Int) = (ny : Int) := IntWalk.i64_in _ (by omega)
        have HW3 := Lib.hid (HW2.out.trans (hb8.mono HW2.out.size))
        have HY3 := Lib.hid (HY2.out.trans (hb8.mono HY2.out.size))
        have p0 := (HLY.out.later HY3.out).cell 0
        have p1 := (HLY.out.later HY3.out).cell 1
        clear hva hvb hb8 q0 q1 q2 q3 q4 q5 hcount1 hcount2 HFE HVA HGE
        go_wp2_with fail
        go_loopw [15] (fun i wr => ∃ qq : Nat, qq ≤ E.length ∧ i = .int .i64 qq ∧ Below Y.heap.size Y wr) (fun i _ => E.length - (intOf i).toNat)
        case atStart => exact ⟨0, Nat.zero_le _, rfl, HY3.out⟩
        case round =>
          obtain ⟨qq, hqq, rfl, hBq⟩ := hrel
          obtain ⟨wq, rfl⟩ : ∃ wq, wq = wr := ⟨_, rfl⟩
          by_cases hlq : qq < E.length
          · obtain ⟨u, hu⟩ : ∃ u, E[qq]? = some u := ⟨_, List.getElem?_eq_getElem hlq⟩
            have hus := HEZ.out u (List.mem_of_getElem? hu)
            obtain ⟨AE, cE, hAE, hcE, hget⟩ := ((HEO.out.later (HOY.out.trans (hBq.mono HOY.out.size)))).env
            obtain ⟨ge, oe, lu, rfl, htu, hru⟩ := hget qq u hu
            injection hAE with hAE1 _ hAE2
            subst hAE1 hAE2
            obtain ⟨ku, nmu, vu, Auu, nuu, cuu, Buu, muu, duu, rvu, rfl⟩ := htu.trv.shp
            unfold tyC at htu hru
            have z0 := hru 0 _ rfl
            have z1 := hru 1 _ rfl
            have z2 := hru 2 _ rfl
            have z3 := hru 3 _ rfl
            have z4 := hru 4 _ rfl
            have z5 := hru 5 _ rfl
            have z6 := hru 6 _ rfl
            have z7 := hru 7 _ rfl
            simp only [Nat.add_zero] at z0
            have hgl := reads_block hru (by simp)
            have hlqi : (qq : Int) < (E.length : Int) := by omega
            have hlqc : qq < cL := by omega
            have hnil : IntR wq (.slice none 0 0) [] := ⟨none, 0, rfl, Nat.le_refl _, by unfold maxLen; omega, fun i x h => by simp at h⟩
            have hfu := free_any wq (.slice none 0 0) (.slice none 0 0) [] [] u _ hnil hnil htu (by simp) (by simp) (by omega)
            simp only [lessL_nil] at hfu
            have HYq := Lib.hid hBq
            have HGU := Lib.hid hget
            have HFU := Lib.hid hfu
            have HNF := Lib.hid (And.intro (fun n (hn : inK u n) => (show AnyK E n from ⟨u, List.mem_of_getElem? hu, hn⟩)) (fun n (hn : inR u n) => (show AnyR E n from ⟨u, List.mem_of_getElem? hu, hn⟩)))
            clear hBq hget hfu htu hru hnil hu
            go_wp2_with fail
            refine HFU.out.mono ?_
            rintro e z ⟨p1', p2', K1, R1, rfl, hp1, hp2, he1, he2, _, _, hbz⟩
            obtain ⟨Ap, np, cp, rfl⟩ := own_slice hp1
            obtain ⟨Aq, nq, cq, rfl⟩ := own_slice hp2
            have hnp := own_n hp1
            have hnq := own_n hp2
            have HNO1 := Lib.hid (fun n (hn : n ∈ K1) (hs : n ∈ lessL K FK) => (mem_lessL.1 hs).2 ((HFK.out n).2 (HNF.out.1 n ((he1.mem n hn).resolve_left (by simp)))))
            have HNO2 := Lib.hid (fun n (hn : n ∈ R1) (hs : n ∈ lessL R FR) => (mem_lessL.1 hs).2 ((HFR.out n).2 (HNF.out.2 n ((he2.mem n hn).resolve_left (by simp)))))
            obtain ⟨_, _, hq1, hcp, _, hg1⟩ := IntR.of_own hp1 he1.ok0
            injection hq1 with hqa hqb hqc
            subst hqa hqc
            obtain ⟨_, _, hq2, hcq, _, hg2⟩ := IntR.of_own hp2 he2.ok0
            injection hq2 with hqa2 hqb2 hqc2
            subst hqa2 hqc2
            clear hqb hqb2
            have HP1 := Lib.hid hg1
            have HP2 := Lib.hid hg2
            have HYz := Lib.hid (HYq.out.trans (hbz.mono HYq.out.size))
            have HFz := Lib.hid hbz
            rw [← hnp] at hcp
            rw [← hnq] at hcq
            have hnpb : np ≤ 2000 := by have h1 := he1.len; simp only [List.length_nil, Nat.zero_add] at h1; omega
            have hnqb : nq ≤ 2000 := by have h1 := he2.len; simp only [List.length_nil, Nat.zero_add] at h1; omega
            have HNP := Lib.hid hnp
            have HNQ := Lib.hid hnq
            clear hp1 hp2 he1 he2 hbz hg1 hg2 z0 z1 z2 z3 z4 z5 z6 z7 HFU hnp hnq
            go_wp2_with fail
            go_loopw [18] (fun i wr => ∃ a : Nat, a ≤ np ∧ i = .int .i64 a ∧ Below z.heap.size z wr) (fun i _ => np - (intOf i).toNat)
            case atStart => exact ⟨0, Nat.zero_le _, rfl, Below.refl _ z⟩
            case round =>
              obtain ⟨a, ha, rfl, hBa⟩ := hrel
              obtain ⟨wa, hwa⟩ : ∃ wa, wa = wr := ⟨_, rfl⟩
              by_cases hla : a < np
              · obtain ⟨x, hx⟩ : ∃ x, K1[a]? = some x := ⟨_, List.getElem?_eq_getElem (by have := HNP.out; have := HNQ.out; omega)⟩
                obtain ⟨hox, gp, op, rfl, xa⟩ := HP1.out a x hx
                have xa' := (hBa.cell (p := ⟨gp, op + a, none⟩) (World.block_lt_of_cell? z _ xa)).trans xa
                have hBY := HYz.out.trans (hBa.mono HYz.out.size)
                have pf := (HLY.out.later hBY).cell 0
                have hnot : decide (x ∈ (lessL K FK)) = false := decide_eq_false (HNO1.out x (List.mem_of_getElem? hx))
                have hin := refIn_any wr.drew (lessL K FK) (.slice Av nv cv) x (HI1.out _ hBY.drew) (by have := HL1.out; omega)
                rw [hnot] at hin
                have HIN := Lib.hid hin
                have hai : (a : Int) < (np : Int) := by omega
                have hac : a < cp := by omega
                have hS : ∀ V, Below wr.heap.size wr V → V.cell? ⟨y1.heap.size, 0, none⟩ = some (.slice Av nv cv) ∧ V.cell? ⟨gp, op + a, none⟩ = some (.int .i64 x) := fun V hV => ⟨(hV.cell (p := ⟨y1.heap.size, 0, none⟩) (World.block_lt_of_cell? _ _ pf)).trans pf, (hV.cell (p := ⟨gp, op + a, none⟩) (World.block_lt_of_cell? _ _ xa')).trans xa'⟩
                have HS := Lib.hid hS
                have HBa := Lib.hid hBa
                have hd0 : Below wr.heap.size wr wr.drew := (Below.refl _ _).drew
                clear hin hnot hS xa xa' pf hBY hBa hx hwa
                go_wp2_with fail
                go_region_held3 (fun V => V.cell? ⟨y1.heap.size, 0, none⟩ = some (.slice Av nv cv) ∧ V.cell? ⟨gp, op + a, none⟩ = some (.int .i64 x))
                  (first | with_reducible exact HS.out _ hd0 | with_reducible exact HS.out _ hq1)
                  (first | (go_at_call 29; refine HIN.out.mono ?_; rintro e x1 ⟨rfl, hb1⟩; have hq1 : Below wr.heap.size wr x1 := hd0.trans (hb1.mono hd0.size)))
                go_wp2_with fail
                go_roundw
                case rel => exact ⟨a + 1, by omega, by simp, HBa.out.trans (hq1.mono HBa.out.size)⟩
                case measure => (simp [intOf] <;> omega)
              · obtain rfl : a = np := by omega
                have HBa := Lib.hid hBa
                clear hBa hwa
                go_wp2_with fail
                have HBz := Lib.hid HBa.out
                clear HBa
                go_loopw [19] (fun i wr => ∃ a : Nat, a ≤ nq ∧ i = .int .i64 a ∧ Below z.heap.size z wr) (fun i _ => nq - (intOf i).toNat)
                case atStart => exact ⟨0, Nat.zero_le _, rfl, HBz.out⟩
                case round =>
                  obtain ⟨a, ha, rfl, hBa⟩ := hrel
                  obtain ⟨wa, hwa⟩ : ∃ wa, wa = wr := ⟨_, rfl⟩
                  by_cases hla : a < nq
                  · obtain ⟨x, hx⟩ : ∃ x, R1[a]? = some x := ⟨_, List.getElem?_eq_getElem (by have := HNP.out; have := HNQ.out; omega)⟩
                    obtain ⟨hox, gp, op, rfl, xa⟩ := HP2.out a x hx
                    have xa' := (hBa.cell (p := ⟨gp, op + a, none⟩) (World.block_lt_of_cell? z _ xa)).trans xa
                    have hBY := HYz.out.trans (hBa.mono HYz.out.size)
                    have pf := (HLY.out.later hBY).cell 1
                    have hnot : decide (x ∈ (lessL R FR)) = false := decide_eq_false (HNO2.out x (List.mem_of_getElem? hx))
                    have hin := refIn_any wr.drew (lessL R FR) (.slice Ar nr cr) x (HI2.out _ hBY.drew) (by have := HL2.out; omega)
                    rw [hnot] at hin
                    have HIN := Lib.hid hin
                    have hai : (a : Int) < (nq : Int) := by omega
                    have hac : a < cq := by omega
                    have hS : ∀ V, Below wr.heap.size wr V → V.cell? ⟨y1.heap.size, 1, none⟩ = some (.slice Ar nr cr) ∧ V.cell? ⟨gp, op + a, none⟩ = some (.int .i64 x) := fun V hV => ⟨(hV.cell (p := ⟨y1.heap.size, 1, none⟩) (World.block_lt_of_cell? _ _ pf)).trans pf, (hV.cell (p := ⟨gp, op + a, none⟩) (World.block_lt_of_cell? _ _ xa')).trans xa'⟩
                    have HS := Lib.hid hS
                    have HBa := Lib.hid hBa
                    have hd0 : Below wr.heap.size wr wr.drew := (Below.refl _ _).drew
                    clear hin hnot hS xa xa' pf hBY hBa hx hwa
                    go_wp2_with fail
                    go_region_held3 (fun V => V.cell? ⟨y1.heap.size, 1, none⟩ = some (.slice Ar nr cr) ∧ V.cell? ⟨gp, op + a, none⟩ = some (.int .i64 x))
                      (first | with_reducible exact HS.out _ hd0 | with_reducible exact HS.out _ hq1)
                      (first | (go_at_call 29; refine HIN.out.mono ?_; rintro e x1 ⟨rfl, hb1⟩; have hq1 : Below wr.heap.size wr x1 := hd0.trans (hb1.mono hd0.size)))
                    go_wp2_with fail
                    go_roundw
                    case rel => exact ⟨a + 1, by omega, by simp, HBa.out.trans (hq1.mono HBa.out.size)⟩
                    case measure => (simp [intOf] <;> omega)
                  · obtain rfl : a = nq := by omega
                    have HBa := Lib.hid hBa
                    clear hBa hwa
                    go_wp2_with fail
                    go_roundw
                    case rel => exact ⟨qq + 1, by omega, by simp, HYq.out.trans ((HFz.out.trans (HBa.out.mono HFz.out.size)).mono HYq.out.size)⟩
                    case measure => (simp [intOf] <;> omega)
          · obtain rfl : qq = E.length := by omega
            have HYq := Lib.hid hBq
            clear hBq
            go_wp2_with fail
            have hwq := HWY.out.trans (HYq.out.mono HWY.out.size)
            have HWq := Lib.hid hwq
            have HWw := Lib.hid (fun V (hV : Below wq.heap.size wq V) => HB.out.trans ((hwq.trans (hV.mono hwq.size)).mono HB.out.size))
            have hT4 : ∀ V, Below wq.heap.size wq V → (fun V => V.cell? ⟨w.heap.size, 0, none⟩ = some (.int .i64 k1) ∧ V.cell? ⟨w.heap.size, 1, none⟩ = some (.string (ba nm1)) ∧ V.cell? ⟨w.heap.size, 2, none⟩ = some (.int .i64 v1) ∧ V.cell? ⟨w.heap.size, 3, none⟩ = some (.slice A1 n1 c1) ∧ V.cell? ⟨w.heap.size, 4, none⟩ = some (.slice B1 m1 d1) ∧ V.cell? ⟨w.heap.size, 5, none⟩ = some (.int .i64 rv1)) V := fun V hV => by
              have b := HK4.out.later (hwq.trans (hV.mono hwq.size))
              exact ⟨b.cell 0, b.cell 1, b.cell 2, b.cell 3, b.cell 4, b.cell 5⟩
            have HT4 := Lib.hid hT4
            have hd0 : Below wq.heap.size wq wq.drew := (Below.refl _ _).drew
            clear hwq hT4
            refine wp_region_held_drew (S := (fun V => V.cell? ⟨w.heap.size, 0, none⟩ = some (.int .i64 k1) ∧ V.cell? ⟨w.heap.size, 1, none⟩ = some (.string (ba nm1)) ∧ V.cell? ⟨w.heap.size, 2, none⟩ = some (.int .i64 v1) ∧ V.cell? ⟨w.heap.size, 3, none⟩ = some (.slice A1 n1 c1) ∧ V.cell? ⟨w.heap.size, 4, none⟩ = some (.slice B1 m1 d1) ∧ V.cell? ⟨w.heap.size, 5, none⟩ = some (.int .i64 rv1))) (by kernel_rfl) ?_ (fun hHeld => ?_)
            · exact HT4.out _ hd0
            refine wpAnyH_take (i := 0) (oi := ⟨some 145, _, _, _, _, _⟩) (v := ?_) rfl (by kernel_rfl) (by kernel_rfl) (by kernel_rfl) (fun _ _ _ h => h) (Or.inl ⟨by kernel_rfl, ?_⟩) (by assumption) ?_
            rotate_left
            · (intro w' hSw; (try dsimp only at hSw); go_split_ands; go_simp; first | done | with_reducible rfl)
            try simp only [Act.put, List.setIfInBounds_toArray, List.set_cons_zero, List.set_cons_succ]
            refine wpAnyH_take (i := 3) (oi := ⟨some 148, _, _, _, _, _⟩) (v := ?_) rfl (by kernel_rfl) (by kernel_rfl) (by kernel_rfl) (fun _ _ _ h => h) (Or.inl ⟨by kernel_rfl, ?_⟩) (by assumption) ?_
            rotate_left
            · (intro w' hSw; (try dsimp only at hSw); go_split_ands; go_simp; first | done | with_reducible rfl)
            try simp only [Act.put, List.setIfInBounds_toArray, List.set_cons_zero, List.set_cons_succ]
            refine wpAnyH_ready (rs := [1, 5]) (by kernel_rfl) (by simp) ?_
            refine AllReadyH.cons (o := ⟨some 146, _, _, _, _, _⟩) rfl (fun K hK => ?_) (AllReadyH.cons (o := ⟨some 20, _, _, _, _, _⟩) rfl (fun K hK => ?_) AllReadyH.nil)
            · go_simp
              go_at_call 23
              refine (bare_any wq.drew t _ (HT.out.keep (HWw.out _ (hd0)).block) (by omega)).mono ?_
              rintro e y4 ⟨l7, rfl, ht7, hbs0⟩
              obtain ⟨k7, nm7, v7, A7, n7, c7, B7, m7, d7, r7, rfl⟩ := ht7.trv.shp
              unfold schemeV
              unfold tyC at ht7 ⊢
              have HT7 := Lib.hid ht7
              clear ht7
              have hby0 : Below wq.heap.size wq y4 := (hd0).trans (hbs0.mono (hd0).size)
              clear hbs0
              refine hK.out _ _ ?_ (fun hHeld => ?_)
              · exact HT4.out _ hby0
              clear hK K
              try simp only [Act.put, List.setIfInBounds_toArray, List.set_cons_zero, List.set_cons_succ]
              refine wpAnyH_ready (rs := [2, 5]) (by kernel_rfl) (by simp) ?_
              refine AllReadyH.cons (o := ⟨some 147, _, _, _, _, _⟩) rfl (fun K hK => ?_) (AllReadyH.cons (o := ⟨some 20, _, _, _, _, _⟩) rfl (fun K hK => ?_) AllReadyH.nil)
              · go_simp
                obtain ⟨gb, hgb⟩ : ∃ b, b = (y4).heap.size := ⟨_, rfl⟩
                obtain ⟨y5, hy1⟩ : ∃ Y, Y = (y4).alloc (.cells #[.slice none 0 0, .slice none 0 0, .int .i64 k7, .string (ba nm7), .int .i64 v7, .slice A7 n7 c7, .slice B7 m7 d7, .int .i64 r7] 62) := ⟨_, rfl⟩
                have hbs1 : Below (y4).heap.size (y4) y5 := by rw [hy1]; exact below_new _ _
                have HLS := Lib.hid (show Lies y5 gb 62 #[.slice none 0 0, .slice none 0 0, .int .i64 k7, .string (ba nm7), .int .i64 v7, .slice A7 n7 c7, .slice B7 m7 d7, .int .i64 r7] by rw [hy1, hgb]; exact Lies.new _ _ _)
                rw [← hy1, ← hgb]
                clear hy1 hgb
                have hby1 : Below wq.heap.size wq y5 := (hby0).trans (hbs1.mono (hby0).size)
                have HT7 := Lib.hid (HT7.out.keep hbs1.block)
                clear hbs1
                refine hK.out _ _ ?_ (fun hHeld => ?_)
                · exact HT4.out _ hby1
                clear hK K
                try simp only [Act.put, List.setIfInBounds_toArray, List.set_cons_zero, List.set_cons_succ]
                refine wpAnyH_ready (rs := [4, 5]) (by kernel_rfl) (by simp) ?_
                refine AllReadyH.cons (o := ⟨some 149, _, _, _, _, _⟩) rfl (fun K hK => ?_) (AllReadyH.cons (o := ⟨some 20, _, _, _, _, _⟩) rfl (fun K hK => ?_) AllReadyH.nil)
                · go_simp
                  have HGG := Lib.hid (general_anyK y5 (.slice (some ⟨gb, 0, none⟩) 1 1) [t] t _ ⟨_, 1, rfl, by simp, fun i u hu => by
                    match i, hu with
                    | 0, hu =>
                      have e : u = t := by simpa using hu.symm
                      subst e
                      refine ⟨gb, 0, _, rfl, HT7.out, fun j q hq => ?_⟩
                      show _ = some q
                      rw [show (⟨gb, 0 + 0 * 8 + j, none⟩ : Addr) = ⟨gb, j, none⟩ by simp, HLS.out.cell]
                      simpa using hq
                    | i + 1, hu => simp at hu⟩ (by simp) (by intro u hu; rw [List.mem_singleton.1 hu]; omega) (HT.out.keep (HWw.out _ (hby1)).block) (HTW.out.later (HWw.out _ (hby1))) (by omega))
                  go_at_call 24
                  refine HGG.out.mono ?_
                  rintro e y6 ⟨e1', e2', l8, FK2, FR2, K2, R2, rfl, hoe1, hoe2, ht8, he1, he2, hf1, hf2, _, hbs2⟩
                  rw [none_left (P := inK t) he1 (fun n hn => (hf1 n).2 ⟨t, by simp, hn⟩)] at hoe1
                  rw [none_left (P := inR t) he2 (fun n hn => (hf2 n).2 ⟨t, by simp, hn⟩)] at hoe2
                  obtain ⟨Ev, en, ecv, rfl⟩ := own_slice hoe1
                  obtain ⟨Er, er, ecr, rfl⟩ := own_slice hoe2
                  obtain rfl : en = 0 := own_n hoe1
                  obtain rfl : er = 0 := own_n hoe2
                  have HIE1 := Lib.hid (IntR.of_own hoe1 (by simp))
                  have HIE2 := Lib.hid (IntR.of_own hoe2 (by simp))
                  obtain ⟨yG, rfl⟩ : ∃ Y, Y = y6 := ⟨_, rfl⟩
                  obtain ⟨k8, nm8, v8, A8, n8, c8, B8, m8, d8, r8, rfl⟩ := (ht8 yG ⟨Nat.le_refl _, fun _ _ _ => rfl⟩).1.trv.shp
                  unfold schemeV
                  unfold tyC at ht8 ⊢
                  obtain ⟨sG, hsG⟩ : ∃ s, s = (y5).heap.size := ⟨_, rfl⟩
                  rw [← hsG] at ht8
                  have HGT := Lib.hid ht8
                  clear hoe1 hoe2 ht8 he1 he2 hf1 hf2 HGG
                  have hby2 : Below wq.heap.size wq yG := (hby1).trans (hbs2.mono (hby1).size)
                  have HT7 := Lib.hid (HT7.out.keep hbs2.block)
                  have HLS := Lib.hid (HLS.out.later hbs2)
                  clear hbs2
                  refine hK.out _ _ ?_ (fun hHeld => ?_)
                  · exact HT4.out _ hby2
                  clear hK K
                  try simp only [Act.put, List.setIfInBounds_toArray, List.set_cons_zero, List.set_cons_succ]
                  refine wpAnyH_ready (rs := [5]) (by kernel_rfl) (by simp) ?_
                  refine AllReadyH.cons (o := ⟨some 20, _, _, _, _, _⟩) rfl (fun K hK => ?_) AllReadyH.nil
                  go_simp
                  obtain ⟨pb, hpb⟩ : ∃ b, b = (yG).heap.size := ⟨_, rfl⟩
                  obtain ⟨y7, hy3⟩ : ∃ Y, Y = (yG).alloc (.cells #[.slice none 0 0, .slice none 0 0, .int .i64 0, .string ⟨#[]⟩, .int .i64 0, .slice none 0 0, .slice none 0 0, .int .i64 0] 62) := ⟨_, rfl⟩
                  have hbs3 : Below (yG).heap.size (yG) y7 := by rw [hy3]; exact below_new _ _
                  have HL := Lib.hid (show Lies y7 pb 62 #[.slice none 0 0, .slice none 0 0, .int .i64 0, .string ⟨#[]⟩, .int .i64 0, .slice none 0 0, .slice none 0 0, .int .i64 0] by rw [hy3, hpb]; exact Lies.new _ _ _)
                  have HP := Lib.hid (show wq.heap.size ≤ pb by rw [hpb]; exact (hby2).size)
                  have HPB := Lib.hid (show pb < sG + 2 ∨ yG.heap.size ≤ pb from .inr (by rw [hpb]; exact Nat.le_refl _))
                  have HYX := Lib.hid hbs3
                  rw [← hy3, ← hpb]
                  clear hy3 hpb
                  have hby3 : Below wq.heap.size wq y7 := (hby2).trans (hbs3.mono (hby2).size)
                  clear hbs3
                  refine hK.out _ _ ?_ (fun hHeld => ?_)
                  · exact HT4.out _ hby3
                  clear hK K
                  try simp only [Act.put, List.setIfInBounds_toArray, List.set_cons_zero, List.set_cons_succ]
                  refine wpAnyH_ready (rs := [6]) (by kernel_rfl) (by simp) ?_
                  refine AllReadyH.cons (o := ⟨none, _, _, _, _, _⟩) rfl (fun K hK => ?_) AllReadyH.nil
                  rw [if_pos (by kernel_rfl)]
                  refine wp_store_row _ _ _ rfl (pb) #[.slice Ev 0 ecv, .slice Er 0 ecr, .int .i64 k8, .string (ba nm8), .int .i64 v8, .slice A8 n8 c8, .slice B8 m8 d8, .int .i64 r8] rfl rfl 62 #[.slice none 0 0, .slice none 0 0, .int .i64 0, .string ⟨#[]⟩, .int .i64 0, .slice none 0 0, .slice none 0 0, .int .i64 0] HL.out (by kernel_rfl) rfl (by simp [Value.oneCell']) ?_
                  obtain ⟨z1, hz1⟩ : ∃ X, X = y7.setRow pb #[.slice Ev 0 ecv, .slice Er 0 ecr, .int .i64 k8, .string (ba nm8), .int .i64 v8, .slice A8 n8 c8, .slice B8 m8 d8, .int .i64 r8] := ⟨_, rfl⟩
                  rw [← hz1]
                  have hbz : Below wq.heap.size wq z1 := by rw [hz1]; exact Sb.below_setRow (hby3) HP.out _
                  have hlz : Lies z1 pb 62 #[.slice Ev 0 ecv, .slice Er 0 ecr, .int .i64 k8, .string (ba nm8), .int .i64 v8, .slice A8 n8 c8, .slice B8 m8 d8, .int .i64 r8] := by rw [hz1]; exact Sb.setRow_at HL.out _
                  have hoz : ∀ g, g ≠ pb → z1.heap[g]? = y7.heap[g]? := fun g hg => by rw [hz1]; exact Sb.setRow_other _ _ _ g hg
                  have hsz1 : z1.heap.size = y7.heap.size := by rw [hz1]; exact size_setRow _ _ _
                  have hd : Below z1.heap.size z1 z1.drew := (Below.refl _ _).drew
                  have hkz : Kept (fun b => b < sG + 2) yG z1.drew := ⟨Nat.le_trans (by rw [hsz1]; exact HYX.out.size) hd.size, fun b hlt hn => (hd.block b (by rw [hsz1]; exact Nat.lt_of_lt_of_le hlt HYX.out.size)).trans ((hoz b (fun e => by have h1 := HPB.out; have h2 : ¬ b < sG + 2 := hn; omega)).trans (HYX.out.block b hlt))⟩
                  have HLZ := Lib.hid hlz
                  have HBZ := Lib.hid hbz
                  have HGZ := Lib.hid (HGT.out _ hkz)
                  clear hlz hoz hsz1 hkz hz1
                  refine hK.out _ _ ?_ (fun hHeld => ?_)
                  · exact HT4.out _ hbz
                  clear hK K hbz
                  try simp only [Act.put]
                  refine wpAnyH_done (by kernel_rfl) ?_ _
                  have hSz : ∀ V, Below z1.heap.size z1 V → (fun V => (V.cell? ⟨pb, 0, none⟩ = some (.slice Ev 0 ecv) ∧ V.cell? ⟨pb, 1, none⟩ = some (.slice Er 0 ecr) ∧ V.cell? ⟨pb, 2, none⟩ = some (.int .i64 k8) ∧ V.cell? ⟨pb, 3, none⟩ = some (.string (ba nm8)) ∧ V.cell? ⟨pb, 4, none⟩ = some (.int .i64 v8) ∧ V.cell? ⟨pb, 5, none⟩ = some (.slice A8 n8 c8) ∧ V.cell? ⟨pb, 6, none⟩ = some (.slice B8 m8 d8) ∧ V.cell? ⟨pb, 7, none⟩ = some (.int .i64 r8)) ∧ (V.cell? ⟨w.heap.size, 0, none⟩ = some (.int .i64 k1) ∧ V.cell? ⟨w.heap.size, 1, none⟩ = some (.string (ba nm1)) ∧ V.cell? ⟨w.heap.size, 2, none⟩ = some (.int .i64 v1) ∧ V.cell? ⟨w.heap.size, 3, none⟩ = some (.slice A1 n1 c1) ∧ V.cell? ⟨w.heap.size, 4, none⟩ = some (.slice B1 m1 d1) ∧ V.cell? ⟨w.heap.size, 5, none⟩ = some (.int .i64 rv1)) ∧ V.cell? ⟨w.heap.size + 1, 0, none⟩ = some (.int .i64 k2) ∧ V.cell? ⟨w.heap.size + 1, 1, none⟩ = some (.string (ba nm2)) ∧ V.cell? ⟨w.heap.size + 1, 2, none⟩ = some (.int .i64 v2) ∧ V.cell? ⟨w.heap.size + 1, 3, none⟩ = some (.slice A2 n2 c2) ∧ V.cell? ⟨w.heap.size + 1, 4, none⟩ = some (.slice B2 m2 d2) ∧ V.cell? ⟨w.heap.size + 1, 5, none⟩ = some (.int .i64 rv2)) V := fun V hV => by
                    have a := HLZ.out.later hV
                    have hwv := HWq.out.trans ((HBZ.out.trans (hV.mono HBZ.out.size)).mono HWq.out.size)
                    have b := HK4.out.later hwv
                    have c := HK5.out.later hwv
                    exact ⟨⟨a.cell 0, a.cell 1, a.cell 2, a.cell 3, a.cell 4, a.cell 5, a.cell 6, a.cell 7⟩, ⟨b.cell 0, b.cell 1, b.cell 2, b.cell 3, b.cell 4, b.cell 5⟩, c.cell 0, c.cell 1, c.cell 2, c.cell 3, c.cell 4, c.cell 5⟩
                  have HSZ := Lib.hid hSz
                  have hwz : Below w.heap.size w z1 := HWw.out _ HBZ.out
                  have hins := instance_any z1.drew (.slice Ev 0 ecv) (.slice Er 0 ecr) [] t o _ _ (IntR.empty _ HIE1.out) (by simp) (IntR.empty _ HIE2.out) HGZ.out.1 ⟨_, HGZ.out.2⟩ (HO.out.keep (hwz.trans (hd.mono hwz.size)).block) ⟨by omega, by omega, RightP.srt t HRP.out, fun n hn => by cases hn⟩
                  unfold schemeV at hins
                  have HINS := Lib.hid hins
                  have hsam := fun V (hV : Below z1.heap.size z1 V) => sameD_any t o V _ _ (by omega) (by omega) (HT.out.keep (hwz.trans (hV.mono hwz.size)).block) (HO.out.keep (hwz.trans (hV.mono hwz.size)).block)
                  have HSAM := Lib.hid hsam
                  have HWZ := Lib.hid hwz
                  clear hSz hins hsam hwz
                  go_wp2_with fail
                  go_region_held3 (fun V => (V.cell? ⟨pb, 0, none⟩ = some (.slice Ev 0 ecv) ∧ V.cell? ⟨pb, 1, none⟩ = some (.slice Er 0 ecr) ∧ V.cell? ⟨pb, 2, none⟩ = some (.int .i64 k8) ∧ V.cell? ⟨pb, 3, none⟩ = some (.string (ba nm8)) ∧ V.cell? ⟨pb, 4, none⟩ = some (.int .i64 v8) ∧ V.cell? ⟨pb, 5, none⟩ = some (.slice A8 n8 c8) ∧ V.cell? ⟨pb, 6, none⟩ = some (.slice B8 m8 d8) ∧ V.cell? ⟨pb, 7, none⟩ = some (.int .i64 r8)) ∧ (V.cell? ⟨w.heap.size, 0, none⟩ = some (.int .i64 k1) ∧ V.cell? ⟨w.heap.size, 1, none⟩ = some (.string (ba nm1)) ∧ V.cell? ⟨w.heap.size, 2, none⟩ = some (.int .i64 v1) ∧ V.cell? ⟨w.heap.size, 3, none⟩ = some (.slice A1 n1 c1) ∧ V.cell? ⟨w.heap.size, 4, none⟩ = some (.slice B1 m1 d1) ∧ V.cell? ⟨w.heap.size, 5, none⟩ = some (.int .i64 rv1)) ∧ V.cell? ⟨w.heap.size + 1, 0, none⟩ = some (.int .i64 k2) ∧ V.cell? ⟨w.heap.size + 1, 1, none⟩ = some (.string (ba nm2)) ∧ V.cell? ⟨w.heap.size + 1, 2, none⟩ = some (.int .i64 v2) ∧ V.cell? ⟨w.heap.size + 1, 3, none⟩ = some (.slice A2 n2 c2) ∧ V.cell? ⟨w.heap.size + 1, 4, none⟩ = some (.slice B2 m2 d2) ∧ V.cell? ⟨w.heap.size + 1, 5, none⟩ = some (.int .i64 rv2))
                    (first | with_reducible exact HSZ.out _ hd | with_reducible exact HSZ.out _ hq1 | with_reducible exact HSZ.out _ hq2)
                    (first | (go_at_call 15; refine (HSAM.out x1 hq1).mono ?_; rintro e x2 ⟨b2, rfl, hbb, hb2⟩; obtain rfl : b2 = pm [] t o := (Bool.eq_iff_iff.2 (hbb.trans (pm_nil t o).symm)); have hq2 : Below z1.heap.size z1 x2 := hq1.trans (hb2.mono hq1.size)) | (go_at_call 27; refine HINS.out.mono ?_; rintro e x1 ⟨rfl, hb1⟩; have hq1 : Below z1.heap.size z1 x1 := hd.trans (hb1.mono hd.size)))
                  go_wp2_with fail
                  go_ret
                  exact ⟨ret_bool (by simp), HWZ.out.trans (hq2.mono HWZ.out.size)⟩
                · go_simp
                  obtain ⟨pb, hpb⟩ : ∃ b, b = (y5).heap.size := ⟨_, rfl⟩
                  obtain ⟨y6, hy2⟩ : ∃ Y, Y = (y5).alloc (.cells #[.slice none 0 0, .slice none 0 0, .int .i64 0, .string ⟨#[]⟩, .int .i64 0, .slice none 0 0, .slice none 0 0, .int .i64 0] 62) := ⟨_, rfl⟩
                  have hbs2 : Below (y5).heap.size (y5) y6 := by rw [hy2]; exact below_new _ _
                  have HL := Lib.hid (show Lies y6 pb 62 #[.slice none 0 0, .slice none 0 0, .int .i64 0, .string ⟨#[]⟩, .int .i64 0, .slice none 0 0, .slice none 0 0, .int .i64 0] by rw [hy2, hpb]; exact Lies.new _ _ _)
                  have HP := Lib.hid (show wq.heap.size ≤ pb by rw [hpb]; exact (hby1).size)
                  rw [← hy2, ← hpb]
                  clear hy2 hpb
                  have hby2 : Below wq.heap.size wq y6 := (hby1).trans (hbs2.mono (hby1).size)
                  have HT7 := Lib.hid (HT7.out.keep hbs2.block)
                  have HLS := Lib.hid (HLS.out.later hbs2)
                  clear hbs2
                  refine hK.out _ _ ?_ (fun hHeld => ?_)
                  · exact HT4.out _ hby2
                  clear hK K
                  try simp only [Act.put, List.setIfInBounds_toArray, List.set_cons_zero, List.set_cons_succ]
                  refine wpAnyH_ready (rs := [4]) (by kernel_rfl) (by simp) ?_
                  refine AllReadyH.cons (o := ⟨some 149, _, _, _, _, _⟩) rfl (fun K hK => ?_) AllReadyH.nil
                  go_simp
                  have HGG := Lib.hid (general_anyK y6 (.slice (some ⟨gb, 0, none⟩) 1 1) [t] t _ ⟨_, 1, rfl, by simp, fun i u hu => by
                    match i, hu with
                    | 0, hu =>
                      have e : u = t := by simpa using hu.symm
                      subst e
                      refine ⟨gb, 0, _, rfl, HT7.out, fun j q hq => ?_⟩
                      show _ = some q
                      rw [show (⟨gb, 0 + 0 * 8 + j, none⟩ : Addr) = ⟨gb, j, none⟩ by simp, HLS.out.cell]
                      simpa using hq
                    | i + 1, hu => simp at hu⟩ (by simp) (by intro u hu; rw [List.mem_singleton.1 hu]; omega) (HT.out.keep (HWw.out _ (hby2)).block) (HTW.out.later (HWw.out _ (hby2))) (by omega))
                  go_at_call 24
                  refine HGG.out.mono ?_
                  rintro e y7 ⟨e1', e2', l8, FK2, FR2, K2, R2, rfl, hoe1, hoe2, ht8, he1, he2, hf1, hf2, _, hbs3⟩
                  rw [none_left (P := inK t) he1 (fun n hn => (hf1 n).2 ⟨t, by simp, hn⟩)] at hoe1
                  rw [none_left (P := inR t) he2 (fun n hn => (hf2 n).2 ⟨t, by simp, hn⟩)] at hoe2
                  obtain ⟨Ev, en, ecv, rfl⟩ := own_slice hoe1
                  obtain ⟨Er, er, ecr, rfl⟩ := own_slice hoe2
                  obtain rfl : en = 0 := own_n hoe1
                  obtain rfl : er = 0 := own_n hoe2
                  have HIE1 := Lib.hid (IntR.of_own hoe1 (by simp))
                  have HIE2 := Lib.hid (IntR.of_own hoe2 (by simp))
                  obtain ⟨yG, rfl⟩ : ∃ Y, Y = y7 := ⟨_, rfl⟩
                  obtain ⟨k8, nm8, v8, A8, n8, c8, B8, m8, d8, r8, rfl⟩ := (ht8 yG ⟨Nat.le_refl _, fun _ _ _ => rfl⟩).1.trv.shp
                  unfold schemeV
                  unfold tyC at ht8 ⊢
                  obtain ⟨sG, hsG⟩ : ∃ s, s = (y6).heap.size := ⟨_, rfl⟩
                  rw [← hsG] at ht8
                  have HGT := Lib.hid ht8
                  have HPB := Lib.hid (show pb < sG + 2 ∨ yG.heap.size ≤ pb from .inl (by have := HL.out.lt; omega))
                  have HYX := Lib.hid (Below.refl yG.heap.size yG)
                  clear hoe1 hoe2 ht8 he1 he2 hf1 hf2 HGG
                  have hby3 : Below wq.heap.size wq yG := (hby2).trans (hbs3.mono (hby2).size)
                  have HT7 := Lib.hid (HT7.out.keep hbs3.block)
                  have HLS := Lib.hid (HLS.out.later hbs3)
                  have HL := Lib.hid (HL.out.later hbs3)
                  clear hbs3
                  refine hK.out _ _ ?_ (fun hHeld => ?_)
                  · exact HT4.out _ hby3
                  clear hK K
                  try simp only [Act.put, List.setIfInBounds_toArray, List.set_cons_zero, List.set_cons_succ]
                  refine wpAnyH_ready (rs := [6]) (by kernel_rfl) (by simp) ?_
                  refine AllReadyH.cons (o := ⟨none, _, _, _, _, _⟩) rfl (fun K hK => ?_) AllReadyH.nil
                  rw [if_pos (by kernel_rfl)]
                  refine wp_store_row _ _ _ rfl (pb) #[.slice Ev 0 ecv, .slice Er 0 ecr, .int .i64 k8, .string (ba nm8), .int .i64 v8, .slice A8 n8 c8, .slice B8 m8 d8, .int .i64 r8] rfl rfl 62 #[.slice none 0 0, .slice none 0 0, .int .i64 0, .string ⟨#[]⟩, .int .i64 0, .slice none 0 0, .slice none 0 0, .int .i64 0] HL.out (by kernel_rfl) rfl (by simp [Value.oneCell']) ?_
                  obtain ⟨z1, hz1⟩ : ∃ X, X = yG.setRow pb #[.slice Ev 0 ecv, .slice Er 0 ecr, .int .i64 k8, .string (ba nm8), .int .i64 v8, .slice A8 n8 c8, .slice B8 m8 d8, .int .i64 r8] := ⟨_, rfl⟩
                  rw [← hz1]
                  have hbz : Below wq.heap.size wq z1 := by rw [hz1]; exact Sb.below_setRow (hby3) HP.out _
                  have hlz : Lies z1 pb 62 #[.slice Ev 0 ecv, .slice Er 0 ecr, .int .i64 k8, .string (ba nm8), .int .i64 v8, .slice A8 n8 c8, .slice B8 m8 d8, .int .i64 r8] := by rw [hz1]; exact Sb.setRow_at HL.out _
                  have hoz : ∀ g, g ≠ pb → z1.heap[g]? = yG.heap[g]? := fun g hg => by rw [hz1]; exact Sb.setRow_other _ _ _ g hg
                  have hsz1 : z1.heap.size = yG.heap.size := by rw [hz1]; exact size_setRow _ _ _
                  have hd : Below z1.heap.size z1 z1.drew := (Below.refl _ _).drew
                  have hkz : Kept (fun b => b < sG + 2) yG z1.drew := ⟨Nat.le_trans (by rw [hsz1]; exact HYX.out.size) hd.size, fun b hlt hn => (hd.block b (by rw [hsz1]; exact Nat.lt_of_lt_of_le hlt HYX.out.size)).trans ((hoz b (fun e => by have h1 := HPB.out; have h2 : ¬ b < sG + 2 := hn; omega)).trans (HYX.out.block b hlt))⟩
                  have HLZ := Lib.hid hlz
                  have HBZ := Lib.hid hbz
                  have HGZ := Lib.hid (HGT.out _ hkz)
                  clear hlz hoz hsz1 hkz hz1
                  refine hK.out _ _ ?_ (fun hHeld => ?_)
                  · exact HT4.out _ hbz
                  clear hK K hbz
                  try simp only [Act.put]
                  refine wpAnyH_done (by kernel_rfl) ?_ _
                  have hSz : ∀ V, Below z1.heap.size z1 V → (fun V => (V.cell? ⟨pb, 0, none⟩ = some (.slice Ev 0 ecv) ∧ V.cell? ⟨pb, 1, none⟩ = some (.slice Er 0 ecr) ∧ V.cell? ⟨pb, 2, none⟩ = some (.int .i64 k8) ∧ V.cell? ⟨pb, 3, none⟩ = some (.string (ba nm8)) ∧ V.cell? ⟨pb, 4, none⟩ = some (.int .i64 v8) ∧ V.cell? ⟨pb, 5, none⟩ = some (.slice A8 n8 c8) ∧ V.cell? ⟨pb, 6, none⟩ = some (.slice B8 m8 d8) ∧ V.cell? ⟨pb, 7, none⟩ = some (.int .i64 r8)) ∧ (V.cell? ⟨w.heap.size, 0, none⟩ = some (.int .i64 k1) ∧ V.cell? ⟨w.heap.size, 1, none⟩ = some (.string (ba nm1)) ∧ V.cell? ⟨w.heap.size, 2, none⟩ = some (.int .i64 v1) ∧ V.cell? ⟨w.heap.size, 3, none⟩ = some (.slice A1 n1 c1) ∧ V.cell? ⟨w.heap.size, 4, none⟩ = some (.slice B1 m1 d1) ∧ V.cell? ⟨w.heap.size, 5, none⟩ = some (.int .i64 rv1)) ∧ V.cell? ⟨w.heap.size + 1, 0, none⟩ = some (.int .i64 k2) ∧ V.cell? ⟨w.heap.size + 1, 1, none⟩ = some (.string (ba nm2)) ∧ V.cell? ⟨w.heap.size + 1, 2, none⟩ = some (.int .i64 v2) ∧ V.cell? ⟨w.heap.size + 1, 3, none⟩ = some (.slice A2 n2 c2) ∧ V.cell? ⟨w.heap.size + 1, 4, none⟩ = some (.slice B2 m2 d2) ∧ V.cell? ⟨w.heap.size + 1, 5, none⟩ = some (.int .i64 rv2)) V := fun V hV => by
                    have a := HLZ.out.later hV
                    have hwv := HWq.out.trans ((HBZ.out.trans (hV.mono HBZ.out.size)).mono HWq.out.size)
                    have b := HK4.out.later hwv
                    have c := HK5.out.later hwv
                    exact ⟨⟨a.cell 0, a.cell 1, a.cell 2, a.cell 3, a.cell 4, a.cell 5, a.cell 6, a.cell 7⟩, ⟨b.cell 0, b.cell 1, b.cell 2, b.cell 3, b.cell 4, b.cell 5⟩, c.cell 0, c.cell 1, c.cell 2, c.cell 3, c.cell 4, c.cell 5⟩
                  have HSZ := Lib.hid hSz
                  have hwz : Below w.heap.size w z1 := HWw.out _ HBZ.out
                  have hins := instance_any z1.drew (.slice Ev 0 ecv) (.slice Er 0 ecr) [] t o _ _ (IntR.empty _ HIE1.out) (by simp) (IntR.empty _ HIE2.out) HGZ.out.1 ⟨_, HGZ.out.2⟩ (HO.out.keep (hwz.trans (hd.mono hwz.size)).block) ⟨by omega, by omega, RightP.srt t HRP.out, fun n hn => by cases hn⟩
                  unfold schemeV at hins
                  have HINS := Lib.hid hins
                  have hsam := fun V (hV : Below z1.heap.size z1 V) => sameD_any t o V _ _ (by omega) (by omega) (HT.out.keep (hwz.trans (hV.mono hwz.size)).block) (HO.out.keep (hwz.trans (hV.mono hwz.size)).block)
                  have HSAM := Lib.hid hsam
                  have HWZ := Lib.hid hwz
                  clear hSz hins hsam hwz
                  go_wp2_with fail
                  go_region_held3 (fun V => (V.cell? ⟨pb, 0, none⟩ = some (.slice Ev 0 ecv) ∧ V.cell? ⟨pb, 1, none⟩ = some (.slice Er 0 ecr) ∧ V.cell? ⟨pb, 2, none⟩ = some (.int .i64 k8) ∧ V.cell? ⟨pb, 3, none⟩ = some (.string (ba nm8)) ∧ V.cell? ⟨pb, 4, none⟩ = some (.int .i64 v8) ∧ V.cell? ⟨pb, 5, none⟩ = some (.slice A8 n8 c8) ∧ V.cell? ⟨pb, 6, none⟩ = some (.slice B8 m8 d8) ∧ V.cell? ⟨pb, 7, none⟩ = some (.int .i64 r8)) ∧ (V.cell? ⟨w.heap.size, 0, none⟩ = some (.int .i64 k1) ∧ V.cell? ⟨w.heap.size, 1, none⟩ = some (.string (ba nm1)) ∧ V.cell? ⟨w.heap.size, 2, none⟩ = some (.int .i64 v1) ∧ V.cell? ⟨w.heap.size, 3, none⟩ = some (.slice A1 n1 c1) ∧ V.cell? ⟨w.heap.size, 4, none⟩ = some (.slice B1 m1 d1) ∧ V.cell? ⟨w.heap.size, 5, none⟩ = some (.int .i64 rv1)) ∧ V.cell? ⟨w.heap.size + 1, 0, none⟩ = some (.int .i64 k2) ∧ V.cell? ⟨w.heap.size + 1, 1, none⟩ = some (.string (ba nm2)) ∧ V.cell? ⟨w.heap.size + 1, 2, none⟩ = some (.int .i64 v2) ∧ V.cell? ⟨w.heap.size + 1, 3, none⟩ = some (.slice A2 n2 c2) ∧ V.cell? ⟨w.heap.size + 1, 4, none⟩ = some (.slice B2 m2 d2) ∧ V.cell? ⟨w.heap.size + 1, 5, none⟩ = some (.int .i64 rv2))
                    (first | with_reducible exact HSZ.out _ hd | with_reducible exact HSZ.out _ hq1 | with_reducible exact HSZ.out _ hq2)
                    (first | (go_at_call 15; refine (HSAM.out x1 hq1).mono ?_; rintro e x2 ⟨b2, rfl, hbb, hb2⟩; obtain rfl : b2 = pm [] t o := (Bool.eq_iff_iff.2 (hbb.trans (pm_nil t o).symm)); have hq2 : Below z1.heap.size z1 x2 := hq1.trans (hb2.mono hq1.size)) | (go_at_call 27; refine HINS.out.mono ?_; rintro e x1 ⟨rfl, hb1⟩; have hq1 : Below z1.heap.size z1 x1 := hd.trans (hb1.mono hd.size)))
                  go_wp2_with fail
                  go_ret
                  exact ⟨ret_bool (by simp), HWZ.out.trans (hq2.mono HWZ.out.size)⟩
              · go_simp
                obtain ⟨pb, hpb⟩ : ∃ b, b = (y4).heap.size := ⟨_, rfl⟩
                obtain ⟨y5, hy1⟩ : ∃ Y, Y = (y4).alloc (.cells #[.slice none 0 0, .slice none 0 0, .int .i64 0, .string ⟨#[]⟩, .int .i64 0, .slice none 0 0, .slice none 0 0, .int .i64 0] 62) := ⟨_, rfl⟩
                have hbs1 : Below (y4).heap.size (y4) y5 := by rw [hy1]; exact below_new _ _
                have HL := Lib.hid (show Lies y5 pb 62 #[.slice none 0 0, .slice none 0 0, .int .i64 0, .string ⟨#[]⟩, .int .i64 0, .slice none 0 0, .slice none 0 0, .int .i64 0] by rw [hy1, hpb]; exact Lies.new _ _ _)
                have HP := Lib.hid (show wq.heap.size ≤ pb by rw [hpb]; exact (hby0).size)
                rw [← hy1, ← hpb]
                clear hy1 hpb
                have hby1 : Below wq.heap.size wq y5 := (hby0).trans (hbs1.mono (hby0).size)
                have HT7 := Lib.hid (HT7.out.keep hbs1.block)
                clear hbs1
                refine hK.out _ _ ?_ (fun hHeld => ?_)
                · exact HT4.out _ hby1
                clear hK K
                try simp only [Act.put, List.setIfInBounds_toArray, List.set_cons_zero, List.set_cons_succ]
                refine wpAnyH_ready (rs := [2]) (by kernel_rfl) (by simp) ?_
                refine AllReadyH.cons (o := ⟨some 147, _, _, _, _, _⟩) rfl (fun K hK => ?_) AllReadyH.nil
                go_simp
                obtain ⟨gb, hgb⟩ : ∃ b, b = (y5).heap.size := ⟨_, rfl⟩
                obtain ⟨y6, hy2⟩ : ∃ Y, Y = (y5).alloc (.cells #[.slice none 0 0, .slice none 0 0, .int .i64 k7, .string (ba nm7), .int .i64 v7, .slice A7 n7 c7, .slice B7 m7 d7, .int .i64 r7] 62) := ⟨_, rfl⟩
                have hbs2 : Below (y5).heap.size (y5) y6 := by rw [hy2]; exact below_new _ _
                have HLS := Lib.hid (show Lies y6 gb 62 #[.slice none 0 0, .slice none 0 0, .int .i64 k7, .string (ba nm7), .int .i64 v7, .slice A7 n7 c7, .slice B7 m7 d7, .int .i64 r7] by rw [hy2, hgb]; exact Lies.new _ _ _)
                rw [← hy2, ← hgb]
                clear hy2 hgb
                have hby2 : Below wq.heap.size wq y6 := (hby1).trans (hbs2.mono (hby1).size)
                have HT7 := Lib.hid (HT7.out.keep hbs2.block)
                have HL := Lib.hid (HL.out.later hbs2)
                clear hbs2
                refine hK.out _ _ ?_ (fun hHeld => ?_)
                · exact HT4.out _ hby2
                clear hK K
                try simp only [Act.put, List.setIfInBounds_toArray, List.set_cons_zero, List.set_cons_succ]
                refine wpAnyH_ready (rs := [4]) (by kernel_rfl) (by simp) ?_
                refine AllReadyH.cons (o := ⟨some 149, _, _, _, _, _⟩) rfl (fun K hK => ?_) AllReadyH.nil
                go_simp
                have HGG := Lib.hid (general_anyK y6 (.slice (some ⟨gb, 0, none⟩) 1 1) [t] t _ ⟨_, 1, rfl, by simp, fun i u hu => by
                  match i, hu with
                  | 0, hu =>
                    have e : u = t := by simpa using hu.symm
                    subst e
                    refine ⟨gb, 0, _, rfl, HT7.out, fun j q hq => ?_⟩
                    show _ = some q
                    rw [show (⟨gb, 0 + 0 * 8 + j, none⟩ : Addr) = ⟨gb, j, none⟩ by simp, HLS.out.cell]
                    simpa using hq
                  | i + 1, hu => simp at hu⟩ (by simp) (by intro u hu; rw [List.mem_singleton.1 hu]; omega) (HT.out.keep (HWw.out _ (hby2)).block) (HTW.out.later (HWw.out _ (hby2))) (by omega))
                go_at_call 24
                refine HGG.out.mono ?_
                rintro e y7 ⟨e1', e2', l8, FK2, FR2, K2, R2, rfl, hoe1, hoe2, ht8, he1, he2, hf1, hf2, _, hbs3⟩
                rw [none_left (P := inK t) he1 (fun n hn => (hf1 n).2 ⟨t, by simp, hn⟩)] at hoe1
                rw [none_left (P := inR t) he2 (fun n hn => (hf2 n).2 ⟨t, by simp, hn⟩)] at hoe2
                obtain ⟨Ev, en, ecv, rfl⟩ := own_slice hoe1
                obtain ⟨Er, er, ecr, rfl⟩ := own_slice hoe2
                obtain rfl : en = 0 := own_n hoe1
                obtain rfl : er = 0 := own_n hoe2
                have HIE1 := Lib.hid (IntR.of_own hoe1 (by simp))
                have HIE2 := Lib.hid (IntR.of_own hoe2 (by simp))
                obtain ⟨yG, rfl⟩ : ∃ Y, Y = y7 := ⟨_, rfl⟩
                obtain ⟨k8, nm8, v8, A8, n8, c8, B8, m8, d8, r8, rfl⟩ := (ht8 yG ⟨Nat.le_refl _, fun _ _ _ => rfl⟩).1.trv.shp
                unfold schemeV
                unfold tyC at ht8 ⊢
                obtain ⟨sG, hsG⟩ : ∃ s, s = (y6).heap.size := ⟨_, rfl⟩
                rw [← hsG] at ht8
                have HGT := Lib.hid ht8
                have HPB := Lib.hid (show pb < sG + 2 ∨ yG.heap.size ≤ pb from .inl (by have := HL.out.lt; omega))
                have HYX := Lib.hid (Below.refl yG.heap.size yG)
                clear hoe1 hoe2 ht8 he1 he2 hf1 hf2 HGG
                have hby3 : Below wq.heap.size wq yG := (hby2).trans (hbs3.mono (hby2).size)
                have HT7 := Lib.hid (HT7.out.keep hbs3.block)
                have HLS := Lib.hid (HLS.out.later hbs3)
                have HL := Lib.hid (HL.out.later hbs3)
                clear hbs3
                refine hK.out _ _ ?_ (fun hHeld => ?_)
                · exact HT4.out _ hby3
                clear hK K
                try simp only [Act.put, List.setIfInBounds_toArray, List.set_cons_zero, List.set_cons_succ]
                refine wpAnyH_ready (rs := [6]) (by kernel_rfl) (by simp) ?_
                refine AllReadyH.cons (o := ⟨none, _, _, _, _, _⟩) rfl (fun K hK => ?_) AllReadyH.nil
                rw [if_pos (by kernel_rfl)]
                refine wp_store_row _ _ _ rfl (pb) #[.slice Ev 0 ecv, .slice Er 0 ecr, .int .i64 k8, .string (ba nm8), .int .i64 v8, .slice A8 n8 c8, .slice B8 m8 d8, .int .i64 r8] rfl rfl 62 #[.slice none 0 0, .slice none 0 0, .int .i64 0, .string ⟨#[]⟩, .int .i64 0, .slice none 0 0, .slice none 0 0, .int .i64 0] HL.out (by kernel_rfl) rfl (by simp [Value.oneCell']) ?_
                obtain ⟨z1, hz1⟩ : ∃ X, X = yG.setRow pb #[.slice Ev 0 ecv, .slice Er 0 ecr, .int .i64 k8, .string (ba nm8), .int .i64 v8, .slice A8 n8 c8, .slice B8 m8 d8, .int .i64 r8] := ⟨_, rfl⟩
                rw [← hz1]
                have hbz : Below wq.heap.size wq z1 := by rw [hz1]; exact Sb.below_setRow (hby3) HP.out _
                have hlz : Lies z1 pb 62 #[.slice Ev 0 ecv, .slice Er 0 ecr, .int .i64 k8, .string (ba nm8), .int .i64 v8, .slice A8 n8 c8, .slice B8 m8 d8, .int .i64 r8] := by rw [hz1]; exact Sb.setRow_at HL.out _
                have hoz : ∀ g, g ≠ pb → z1.heap[g]? = yG.heap[g]? := fun g hg => by rw [hz1]; exact Sb.setRow_other _ _ _ g hg
                have hsz1 : z1.heap.size = yG.heap.size := by rw [hz1]; exact size_setRow _ _ _
                have hd : Below z1.heap.size z1 z1.drew := (Below.refl _ _).drew
                have hkz : Kept (fun b => b < sG + 2) yG z1.drew := ⟨Nat.le_trans (by rw [hsz1]; exact HYX.out.size) hd.size, fun b hlt hn => (hd.block b (by rw [hsz1]; exact Nat.lt_of_lt_of_le hlt HYX.out.size)).trans ((hoz b (fun e => by have h1 := HPB.out; have h2 : ¬ b < sG + 2 := hn; omega)).trans (HYX.out.block b hlt))⟩
                have HLZ := Lib.hid hlz
                have HBZ := Lib.hid hbz
                have HGZ := Lib.hid (HGT.out _ hkz)
                clear hlz hoz hsz1 hkz hz1
                refine hK.out _ _ ?_ (fun hHeld => ?_)
                · exact HT4.out _ hbz
                clear hK K hbz
                try simp only [Act.put]
                refine wpAnyH_done (by kernel_rfl) ?_ _
                have hSz : ∀ V, Below z1.heap.size z1 V → (fun V => (V.cell? ⟨pb, 0, none⟩ = some (.slice Ev 0 ecv) ∧ V.cell? ⟨pb, 1, none⟩ = some (.slice Er 0 ecr) ∧ V.cell? ⟨pb, 2, none⟩ = some (.int .i64 k8) ∧ V.cell? ⟨pb, 3, none⟩ = some (.string (ba nm8)) ∧ V.cell? ⟨pb, 4, none⟩ = some (.int .i64 v8) ∧ V.cell? ⟨pb, 5, none⟩ = some (.slice A8 n8 c8) ∧ V.cell? ⟨pb, 6, none⟩ = some (.slice B8 m8 d8) ∧ V.cell? ⟨pb, 7, none⟩ = some (.int .i64 r8)) ∧ (V.cell? ⟨w.heap.size, 0, none⟩ = some (.int .i64 k1) ∧ V.cell? ⟨w.heap.size, 1, none⟩ = some (.string (ba nm1)) ∧ V.cell? ⟨w.heap.size, 2, none⟩ = some (.int .i64 v1) ∧ V.cell? ⟨w.heap.size, 3, none⟩ = some (.slice A1 n1 c1) ∧ V.cell? ⟨w.heap.size, 4, none⟩ = some (.slice B1 m1 d1) ∧ V.cell? ⟨w.heap.size, 5, none⟩ = some (.int .i64 rv1)) ∧ V.cell? ⟨w.heap.size + 1, 0, none⟩ = some (.int .i64 k2) ∧ V.cell? ⟨w.heap.size + 1, 1, none⟩ = some (.string (ba nm2)) ∧ V.cell? ⟨w.heap.size + 1, 2, none⟩ = some (.int .i64 v2) ∧ V.cell? ⟨w.heap.size + 1, 3, none⟩ = some (.slice A2 n2 c2) ∧ V.cell? ⟨w.heap.size + 1, 4, none⟩ = some (.slice B2 m2 d2) ∧ V.cell? ⟨w.heap.size + 1, 5, none⟩ = some (.int .i64 rv2)) V := fun V hV => by
                  have a := HLZ.out.later hV
                  have hwv := HWq.out.trans ((HBZ.out.trans (hV.mono HBZ.out.size)).mono HWq.out.size)
                  have b := HK4.out.later hwv
                  have c := HK5.out.later hwv
                  exact ⟨⟨a.cell 0, a.cell 1, a.cell 2, a.cell 3, a.cell 4, a.cell 5, a.cell 6, a.cell 7⟩, ⟨b.cell 0, b.cell 1, b.cell 2, b.cell 3, b.cell 4, b.cell 5⟩, c.cell 0, c.cell 1, c.cell 2, c.cell 3, c.cell 4, c.cell 5⟩
                have HSZ := Lib.hid hSz
                have hwz : Below w.heap.size w z1 := HWw.out _ HBZ.out
                have hins := instance_any z1.drew (.slice Ev 0 ecv) (.slice Er 0 ecr) [] t o _ _ (IntR.empty _ HIE1.out) (by simp) (IntR.empty _ HIE2.out) HGZ.out.1 ⟨_, HGZ.out.2⟩ (HO.out.keep (hwz.trans (hd.mono hwz.size)).block) ⟨by omega, by omega, RightP.srt t HRP.out, fun n hn => by cases hn⟩
                unfold schemeV at hins
                have HINS := Lib.hid hins
                have hsam := fun V (hV : Below z1.heap.size z1 V) => sameD_any t o V _ _ (by omega) (by omega) (HT.out.keep (hwz.trans (hV.mono hwz.size)).block) (HO.out.keep (hwz.trans (hV.mono hwz.size)).block)
                have HSAM := Lib.hid hsam
                have HWZ := Lib.hid hwz
                clear hSz hins hsam hwz
                go_wp2_with fail
                go_region_held3 (fun V => (V.cell? ⟨pb, 0, none⟩ = some (.slice Ev 0 ecv) ∧ V.cell? ⟨pb, 1, none⟩ = some (.slice Er 0 ecr) ∧ V.cell? ⟨pb, 2, none⟩ = some (.int .i64 k8) ∧ V.cell? ⟨pb, 3, none⟩ = some (.string (ba nm8)) ∧ V.cell? ⟨pb, 4, none⟩ = some (.int .i64 v8) ∧ V.cell? ⟨pb, 5, none⟩ = some (.slice A8 n8 c8) ∧ V.cell? ⟨pb, 6, none⟩ = some (.slice B8 m8 d8) ∧ V.cell? ⟨pb, 7, none⟩ = some (.int .i64 r8)) ∧ (V.cell? ⟨w.heap.size, 0, none⟩ = some (.int .i64 k1) ∧ V.cell? ⟨w.heap.size, 1, none⟩ = some (.string (ba nm1)) ∧ V.cell? ⟨w.heap.size, 2, none⟩ = some (.int .i64 v1) ∧ V.cell? ⟨w.heap.size, 3, none⟩ = some (.slice A1 n1 c1) ∧ V.cell? ⟨w.heap.size, 4, none⟩ = some (.slice B1 m1 d1) ∧ V.cell? ⟨w.heap.size, 5, none⟩ = some (.int .i64 rv1)) ∧ V.cell? ⟨w.heap.size + 1, 0, none⟩ = some (.int .i64 k2) ∧ V.cell? ⟨w.heap.size + 1, 1, none⟩ = some (.string (ba nm2)) ∧ V.cell? ⟨w.heap.size + 1, 2, none⟩ = some (.int .i64 v2) ∧ V.cell? ⟨w.heap.size + 1, 3, none⟩ = some (.slice A2 n2 c2) ∧ V.cell? ⟨w.heap.size + 1, 4, none⟩ = some (.slice B2 m2 d2) ∧ V.cell? ⟨w.heap.size + 1, 5, none⟩ = some (.int .i64 rv2))
                  (first | with_reducible exact HSZ.out _ hd | with_reducible exact HSZ.out _ hq1 | with_reducible exact HSZ.out _ hq2)
                  (first | (go_at_call 15; refine (HSAM.out x1 hq1).mono ?_; rintro e x2 ⟨b2, rfl, hbb, hb2⟩; obtain rfl : b2 = pm [] t o := (Bool.eq_iff_iff.2 (hbb.trans (pm_nil t o).symm)); have hq2 : Below z1.heap.size z1 x2 := hq1.trans (hb2.mono hq1.size)) | (go_at_call 27; refine HINS.out.mono ?_; rintro e x1 ⟨rfl, hb1⟩; have hq1 : Below z1.heap.size z1 x1 := hd.trans (hb1.mono hd.size)))
                go_wp2_with fail
                go_ret
                exact ⟨ret_bool (by simp), HWZ.out.trans (hq2.mono HWZ.out.size)⟩
            · go_simp
              obtain ⟨pb, hpb⟩ : ∃ b, b = wq.heap.size := ⟨_, rfl⟩
              obtain ⟨y4, hy0⟩ : ∃ Y, Y = (wq.alloc (.cells #[.slice none 0 0, .slice none 0 0, .int .i64 0, .string ⟨#[]⟩, .int .i64 0, .slice none 0 0, .slice none 0 0, .int .i64 0] 62)).drew := ⟨_, rfl⟩
              have hby0 : Below wq.heap.size wq y4 := by rw [hy0]; exact (below_new wq _).drew
              have HL := Lib.hid (show Lies y4 pb 62 #[.slice none 0 0, .slice none 0 0, .int .i64 0, .string ⟨#[]⟩, .int .i64 0, .slice none 0 0, .slice none 0 0, .int .i64 0] by rw [hy0, hpb]; exact Lies.new wq _ _)
              have HP := Lib.hid (show wq.heap.size ≤ pb by rw [hpb]; exact Nat.le_refl _)
              rw [← hy0, ← hpb]
              clear hy0 hpb
              refine hK.out _ _ ?_ (fun hHeld => ?_)
              · exact HT4.out _ hby0
              clear hK K
              try simp only [Act.put, List.setIfInBounds_toArray, List.set_cons_zero, List.set_cons_succ]
              refine wpAnyH_ready (rs := [1]) (by kernel_rfl) (by simp) ?_
              refine AllReadyH.cons (o := ⟨some 146, _, _, _, _, _⟩) rfl (fun K hK => ?_) AllReadyH.nil
              go_simp
              go_at_call 23
              refine (bare_any y4 t _ (HT.out.keep (HWw.out _ (hby0)).block) (by omega)).mono ?_
              rintro e y5 ⟨l7, rfl, ht7, hbs1⟩
              obtain ⟨k7, nm7, v7, A7, n7, c7, B7, m7, d7, r7, rfl⟩ := ht7.trv.shp
              unfold schemeV
              unfold tyC at ht7 ⊢
              have HT7 := Lib.hid ht7
              clear ht7
              have hby1 : Below wq.heap.size wq y5 := (hby0).trans (hbs1.mono (hby0).size)
              have HL := Lib.hid (HL.out.later hbs1)
              clear hbs1
              refine hK.out _ _ ?_ (fun hHeld => ?_)
              · exact HT4.out _ hby1
              clear hK K
              try simp only [Act.put, List.setIfInBounds_toArray, List.set_cons_zero, List.set_cons_succ]
              refine wpAnyH_ready (rs := [2]) (by kernel_rfl) (by simp) ?_
              refine AllReadyH.cons (o := ⟨some 147, _, _, _, _, _⟩) rfl (fun K hK => ?_) AllReadyH.nil
              go_simp
              obtain ⟨gb, hgb⟩ : ∃ b, b = (y5).heap.size := ⟨_, rfl⟩
              obtain ⟨y6, hy2⟩ : ∃ Y, Y = (y5).alloc (.cells #[.slice none 0 0, .slice none 0 0, .int .i64 k7, .string (ba nm7), .int .i64 v7, .slice A7 n7 c7, .slice B7 m7 d7, .int .i64 r7] 62) := ⟨_, rfl⟩
              have hbs2 : Below (y5).heap.size (y5) y6 := by rw [hy2]; exact below_new _ _
              have HLS := Lib.hid (show Lies y6 gb 62 #[.slice none 0 0, .slice none 0 0, .int .i64 k7, .string (ba nm7), .int .i64 v7, .slice A7 n7 c7, .slice B7 m7 d7, .int .i64 r7] by rw [hy2, hgb]; exact Lies.new _ _ _)
              rw [← hy2, ← hgb]
              clear hy2 hgb
              have hby2 : Below wq.heap.size wq y6 := (hby1).trans (hbs2.mono (hby1).size)
              have HT7 := Lib.hid (HT7.out.keep hbs2.block)
              have HL := Lib.hid (HL.out.later hbs2)
              clear hbs2
              refine hK.out _ _ ?_ (fun hHeld => ?_)
              · exact HT4.out _ hby2
              clear hK K
              try simp only [Act.put, List.setIfInBounds_toArray, List.set_cons_zero, List.set_cons_succ]
              refine wpAnyH_ready (rs := [4]) (by kernel_rfl) (by simp) ?_
              refine AllReadyH.cons (o := ⟨some 149, _, _, _, _, _⟩) rfl (fun K hK => ?_) AllReadyH.nil
              go_simp
              have HGG := Lib.hid (general_anyK y6 (.slice (some ⟨gb, 0, none⟩) 1 1) [t] t _ ⟨_, 1, rfl, by simp, fun i u hu => by
                match i, hu with
                | 0, hu =>
                  have e : u = t := by simpa using hu.symm
                  subst e
                  refine ⟨gb, 0, _, rfl, HT7.out, fun j q hq => ?_⟩
                  show _ = some q
                  rw [show (⟨gb, 0 + 0 * 8 + j, none⟩ : Addr) = ⟨gb, j, none⟩ by simp, HLS.out.cell]
                  simpa using hq
                | i + 1, hu => simp at hu⟩ (by simp) (by intro u hu; rw [List.mem_singleton.1 hu]; omega) (HT.out.keep (HWw.out _ (hby2)).block) (HTW.out.later (HWw.out _ (hby2))) (by omega))
              go_at_call 24
              refine HGG.out.mono ?_
              rintro e y7 ⟨e1', e2', l8, FK2, FR2, K2, R2, rfl, hoe1, hoe2, ht8, he1, he2, hf1, hf2, _, hbs3⟩
              rw [none_left (P := inK t) he1 (fun n hn => (hf1 n).2 ⟨t, by simp, hn⟩)] at hoe1
              rw [none_left (P := inR t) he2 (fun n hn => (hf2 n).2 ⟨t, by simp, hn⟩)] at hoe2
              obtain ⟨Ev, en, ecv, rfl⟩ := own_slice hoe1
              obtain ⟨Er, er, ecr, rfl⟩ := own_slice hoe2
              obtain rfl : en = 0 := own_n hoe1
              obtain rfl : er = 0 := own_n hoe2
              have HIE1 := Lib.hid (IntR.of_own hoe1 (by simp))
              have HIE2 := Lib.hid (IntR.of_own hoe2 (by simp))
              obtain ⟨yG, rfl⟩ : ∃ Y, Y = y7 := ⟨_, rfl⟩
              obtain ⟨k8, nm8, v8, A8, n8, c8, B8, m8, d8, r8, rfl⟩ := (ht8 yG ⟨Nat.le_refl _, fun _ _ _ => rfl⟩).1.trv.shp
              unfold schemeV
              unfold tyC at ht8 ⊢
              obtain ⟨sG, hsG⟩ : ∃ s, s = (y6).heap.size := ⟨_, rfl⟩
              rw [← hsG] at ht8
              have HGT := Lib.hid ht8
              have HPB := Lib.hid (show pb < sG + 2 ∨ yG.heap.size ≤ pb from .inl (by have := HL.out.lt; omega))
              have HYX := Lib.hid (Below.refl yG.heap.size yG)
              clear hoe1 hoe2 ht8 he1 he2 hf1 hf2 HGG
              have hby3 : Below wq.heap.size wq yG := (hby2).trans (hbs3.mono (hby2).size)
              have HT7 := Lib.hid (HT7.out.keep hbs3.block)
              have HLS := Lib.hid (HLS.out.later hbs3)
              have HL := Lib.hid (HL.out.later hbs3)
              clear hbs3
              refine hK.out _ _ ?_ (fun hHeld => ?_)
              · exact HT4.out _ hby3
              clear hK K
              try simp only [Act.put, List.setIfInBounds_toArray, List.set_cons_zero, List.set_cons_succ]
              refine wpAnyH_ready (rs := [6]) (by kernel_rfl) (by simp) ?_
              refine AllReadyH.cons (o := ⟨none, _, _, _, _, _⟩) rfl (fun K hK => ?_) AllReadyH.nil
              rw [if_pos (by kernel_rfl)]
              refine wp_store_row _ _ _ rfl (pb) #[.slice Ev 0 ecv, .slice Er 0 ecr, .int .i64 k8, .string (ba nm8), .int .i64 v8, .slice A8 n8 c8, .slice B8 m8 d8, .int .i64 r8] rfl rfl 62 #[.slice none 0 0, .slice none 0 0, .int .i64 0, .string ⟨#[]⟩, .int .i64 0, .slice none 0 0, .slice none 0 0, .int .i64 0] HL.out (by kernel_rfl) rfl (by simp [Value.oneCell']) ?_
              obtain ⟨z1, hz1⟩ : ∃ X, X = yG.setRow pb #[.slice Ev 0 ecv, .slice Er 0 ecr, .int .i64 k8, .string (ba nm8), .int .i64 v8, .slice A8 n8 c8, .slice B8 m8 d8, .int .i64 r8] := ⟨_, rfl⟩
              rw [← hz1]
              have hbz : Below wq.heap.size wq z1 := by rw [hz1]; exact Sb.below_setRow (hby3) HP.out _
              have hlz : Lies z1 pb 62 #[.slice Ev 0 ecv, .slice Er 0 ecr, .int .i64 k8, .string (ba nm8), .int .i64 v8, .slice A8 n8 c8, .slice B8 m8 d8, .int .i64 r8] := by rw [hz1]; exact Sb.setRow_at HL.out _
              have hoz : ∀ g, g ≠ pb → z1.heap[g]? = yG.heap[g]? := fun g hg => by rw [hz1]; exact Sb.setRow_other _ _ _ g hg
              have hsz1 : z1.heap.size = yG.heap.size := by rw [hz1]; exact size_setRow _ _ _
              have hd : Below z1.heap.size z1 z1.drew := (Below.refl _ _).drew
              have hkz : Kept (fun b => b < sG + 2) yG z1.drew := ⟨Nat.le_trans (by rw [hsz1]; exact HYX.out.size) hd.size, fun b hlt hn => (hd.block b (by rw [hsz1]; exact Nat.lt_of_lt_of_le hlt HYX.out.size)).trans ((hoz b (fun e => by have h1 := HPB.out; have h2 : ¬ b < sG + 2 := hn; omega)).trans (HYX.out.block b hlt))⟩
              have HLZ := Lib.hid hlz
              have HBZ := Lib.hid hbz
              have HGZ := Lib.hid (HGT.out _ hkz)
              clear hlz hoz hsz1 hkz hz1
              refine hK.out _ _ ?_ (fun hHeld => ?_)
              · exact HT4.out _ hbz
              clear hK K hbz
              try simp only [Act.put]
              refine wpAnyH_done (by kernel_rfl) ?_ _
              have hSz : ∀ V, Below z1.heap.size z1 V → (fun V => (V.cell? ⟨pb, 0, none⟩ = some (.slice Ev 0 ecv) ∧ V.cell? ⟨pb, 1, none⟩ = some (.slice Er 0 ecr) ∧ V.cell? ⟨pb, 2, none⟩ = some (.int .i64 k8) ∧ V.cell? ⟨pb, 3, none⟩ = some (.string (ba nm8)) ∧ V.cell? ⟨pb, 4, none⟩ = some (.int .i64 v8) ∧ V.cell? ⟨pb, 5, none⟩ = some (.slice A8 n8 c8) ∧ V.cell? ⟨pb, 6, none⟩ = some (.slice B8 m8 d8) ∧ V.cell? ⟨pb, 7, none⟩ = some (.int .i64 r8)) ∧ (V.cell? ⟨w.heap.size, 0, none⟩ = some (.int .i64 k1) ∧ V.cell? ⟨w.heap.size, 1, none⟩ = some (.string (ba nm1)) ∧ V.cell? ⟨w.heap.size, 2, none⟩ = some (.int .i64 v1) ∧ V.cell? ⟨w.heap.size, 3, none⟩ = some (.slice A1 n1 c1) ∧ V.cell? ⟨w.heap.size, 4, none⟩ = some (.slice B1 m1 d1) ∧ V.cell? ⟨w.heap.size, 5, none⟩ = some (.int .i64 rv1)) ∧ V.cell? ⟨w.heap.size + 1, 0, none⟩ = some (.int .i64 k2) ∧ V.cell? ⟨w.heap.size + 1, 1, none⟩ = some (.string (ba nm2)) ∧ V.cell? ⟨w.heap.size + 1, 2, none⟩ = some (.int .i64 v2) ∧ V.cell? ⟨w.heap.size + 1, 3, none⟩ = some (.slice A2 n2 c2) ∧ V.cell? ⟨w.heap.size + 1, 4, none⟩ = some (.slice B2 m2 d2) ∧ V.cell? ⟨w.heap.size + 1, 5, none⟩ = some (.int .i64 rv2)) V := fun V hV => by
                have a := HLZ.out.later hV
                have hwv := HWq.out.trans ((HBZ.out.trans (hV.mono HBZ.out.size)).mono HWq.out.size)
                have b := HK4.out.later hwv
                have c := HK5.out.later hwv
                exact ⟨⟨a.cell 0, a.cell 1, a.cell 2, a.cell 3, a.cell 4, a.cell 5, a.cell 6, a.cell 7⟩, ⟨b.cell 0, b.cell 1, b.cell 2, b.cell 3, b.cell 4, b.cell 5⟩, c.cell 0, c.cell 1, c.cell 2, c.cell 3, c.cell 4, c.cell 5⟩
              have HSZ := Lib.hid hSz
              have hwz : Below w.heap.size w z1 := HWw.out _ HBZ.out
              have hins := instance_any z1.drew (.slice Ev 0 ecv) (.slice Er 0 ecr) [] t o _ _ (IntR.empty _ HIE1.out) (by simp) (IntR.empty _ HIE2.out) HGZ.out.1 ⟨_, HGZ.out.2⟩ (HO.out.keep (hwz.trans (hd.mono hwz.size)).block) ⟨by omega, by omega, RightP.srt t HRP.out, fun n hn => by cases hn⟩
              unfold schemeV at hins
              have HINS := Lib.hid hins
              have hsam := fun V (hV : Below z1.heap.size z1 V) => sameD_any t o V _ _ (by omega) (by omega) (HT.out.keep (hwz.trans (hV.mono hwz.size)).block) (HO.out.keep (hwz.trans (hV.mono hwz.size)).block)
              have HSAM := Lib.hid hsam
              have HWZ := Lib.hid hwz
              clear hSz hins hsam hwz
              go_wp2_with fail
              go_region_held3 (fun V => (V.cell? ⟨pb, 0, none⟩ = some (.slice Ev 0 ecv) ∧ V.cell? ⟨pb, 1, none⟩ = some (.slice Er 0 ecr) ∧ V.cell? ⟨pb, 2, none⟩ = some (.int .i64 k8) ∧ V.cell? ⟨pb, 3, none⟩ = some (.string (ba nm8)) ∧ V.cell? ⟨pb, 4, none⟩ = some (.int .i64 v8) ∧ V.cell? ⟨pb, 5, none⟩ = some (.slice A8 n8 c8) ∧ V.cell? ⟨pb, 6, none⟩ = some (.slice B8 m8 d8) ∧ V.cell? ⟨pb, 7, none⟩ = some (.int .i64 r8)) ∧ (V.cell? ⟨w.heap.size, 0, none⟩ = some (.int .i64 k1) ∧ V.cell? ⟨w.heap.size, 1, none⟩ = some (.string (ba nm1)) ∧ V.cell? ⟨w.heap.size, 2, none⟩ = some (.int .i64 v1) ∧ V.cell? ⟨w.heap.size, 3, none⟩ = some (.slice A1 n1 c1) ∧ V.cell? ⟨w.heap.size, 4, none⟩ = some (.slice B1 m1 d1) ∧ V.cell? ⟨w.heap.size, 5, none⟩ = some (.int .i64 rv1)) ∧ V.cell? ⟨w.heap.size + 1, 0, none⟩ = some (.int .i64 k2) ∧ V.cell? ⟨w.heap.size + 1, 1, none⟩ = some (.string (ba nm2)) ∧ V.cell? ⟨w.heap.size + 1, 2, none⟩ = some (.int .i64 v2) ∧ V.cell? ⟨w.heap.size + 1, 3, none⟩ = some (.slice A2 n2 c2) ∧ V.cell? ⟨w.heap.size + 1, 4, none⟩ = some (.slice B2 m2 d2) ∧ V.cell? ⟨w.heap.size + 1, 5, none⟩ = some (.int .i64 rv2))
                (first | with_reducible exact HSZ.out _ hd | with_reducible exact HSZ.out _ hq1 | with_reducible exact HSZ.out _ hq2)
                (first | (go_at_call 15; refine (HSAM.out x1 hq1).mono ?_; rintro e x2 ⟨b2, rfl, hbb, hb2⟩; obtain rfl : b2 = pm [] t o := (Bool.eq_iff_iff.2 (hbb.trans (pm_nil t o).symm)); have hq2 : Below z1.heap.size z1 x2 := hq1.trans (hb2.mono hq1.size)) | (go_at_call 27; refine HINS.out.mono ?_; rintro e x1 ⟨rfl, hb1⟩; have hq1 : Below z1.heap.size z1 x1 := hd.trans (hb1.mono hd.size)))
              go_wp2_with fail
              go_ret
              exact ⟨ret_bool (by simp), HWZ.out.trans (hq2.mono HWZ.out.size)⟩
end Go.Proofs.Ytclaabnjokkbjaa
