/- SchemeInstances's walk. -/
import Derived.Test.YthdfomcpoofkaaaMg40
import Derived.Test.YthdfomcpoofkaaaSiFr
import Derived.Test.YthdfomcpoofkaaaSwS
import Derived.Test.YthdfomcpoofkaaaSwC
import Derived.Test.YthdfomcpoofkaaaSwB
import Derived.Test.YthdfomcpoofkaaaSwG
import Derived.Test.YthdfomcpoofkaaaScI
import Derived.IntWalk
import Derived.Deep.DeepCutAuto
import Derived.Deep.CutRange
import Derived.Deep.CutBlock
import Derived.Outline
namespace Go.Proofs.Ythdfomcpoofkaaa.Si
open Go.RowKit

mutual
theorem inR_nz : ∀ (t : Ty) (n : Int), inR t n → n ≠ 0
  | .mk k nm v kids ls rv, n, h => by
    rw [inR] at h
    rcases h with ⟨h1, h2, _⟩ | h
    · rw [h2]; exact h1
    · exact inRL_nz kids n h
theorem inRL_nz : ∀ (l : List Ty) (n : Int), inRL l n → n ≠ 0
  | [], n, h => by rw [inRL] at h; exact h.elim
  | t :: r, n, h => by
    rw [inRL] at h
    rcases h with h | h
    · exact inR_nz t n h
    · exact inRL_nz r n h
end
theorem info_scheme8 : (Try.prog.info? 62).map (fun i => (i.zero, i.size, i.bytes)) = some (some (.agg #[.slice none 0 0, .slice none 0 0, .int .i64 0, .string ⟨#[]⟩, .int .i64 0, .slice none 0 0, .slice none 0 0, .int .i64 0]), 8, 136) := by kernel_rfl
set_option maxRecDepth 100000 in
set_option maxHeartbeats 80000000 in
theorem schemeInst_walk (w : World) (A0 : Option Addr) (n0 c0 : Nat) (E0 : List Ty) (hn0 : E0.length = n0) (hnc : n0 ≤ c0) (_hnb : n0 ≤ 2000000) (hE : ∀ (i : Nat) t, E0[i]? = some t → ∃ g o, A0 = some ⟨g, o, none⟩ ∧ TR w ⟨g, o + i * 6, none⟩ t) (hEs : ∀ t ∈ E0, t.size ≤ 2000000)
    (t o : Ty) (l1 l2 l3 : List Value) (rl : List Str) (rn : Int) (ht : TRV w t l1) (htw : TWV w t l1) (hlab : labs 1500000 t) (hts : t.size ≤ 2000000) (ho : TRV w o l2) (hos : o.size ≤ 2000000) (hr : RwV w (rl, rn) l3) :
    Calls Try.prog 5 #[.slice A0 n0 c0, .agg l1.toArray, .agg l2.toArray, .agg l3.toArray] w fun e w' => e = .returned (.bool true) ∧ Below w.heap.size w w' := by
  have ht0 := ht
  have ho0 := ho
  have htw0 := htw
  have hr0 := hr
  obtain ⟨k1, nm1, v1, A1, n1, c1, B1, m1, d1, rv1, rfl⟩ := ht.shp
  obtain ⟨k2, nm2, v2, A2, n2, c2, B2, m2, d2, rv2, rfl⟩ := ho.shp
  obtain ⟨lr, rfl, hlr, hrn⟩ := hr
  obtain ⟨A3, n3, c3, rfl⟩ : ∃ A n c, lr = .slice A n c := by rcases hlr.1 with ⟨rfl, _⟩ | ⟨_, _, rfl, _⟩ <;> exact ⟨_, _, _, rfl⟩
  have hn3 : n3 = rl.length := by
    rcases hlr.1 with ⟨h1, h2⟩ | ⟨_, _, h1, _⟩
    · injection h1 with _ h1
      have h2 : rl = [] := by simpa using h2
      rw [h1, h2]
      rfl
    · injection h1 with _ h1; rw [h1, List.length_map]
  unfold tyC at ht0 ho0 htw0 ⊢
  simp only at hlr hrn hr0 ⊢
  obtain ⟨W, hW⟩ : ∃ W, W = ((w.alloc (.cells #[.int .i64 k1, .string (ba nm1), .int .i64 v1, .slice A1 n1 c1, .slice B1 m1 d1, .int .i64 rv1] 28)).alloc (.cells #[.int .i64 k2, .string (ba nm2), .int .i64 v2, .slice A2 n2 c2, .slice B2 m2 d2, .int .i64 rv2] 28)).alloc (.cells #[.slice A3 n3 c3, .int .i64 rn] 26) := ⟨_, rfl⟩
  have hb : Below w.heap.size w W := by rw [hW]; exact (((Below.refl _ w).alloc (Nat.le_refl _) _).alloc (by simp) _).alloc (by simp; omega) _
  have k4 : Lies W w.heap.size 28 #[.int .i64 k1, .string (ba nm1), .int .i64 v1, .slice A1 n1 c1, .slice B1 m1 d1, .int .i64 rv1] := by rw [hW]; exact ((Lies.new _ _ _).alloc _).alloc _
  have k5 : Lies W (w.heap.size + 1) 28 #[.int .i64 k2, .string (ba nm2), .int .i64 v2, .slice A2 n2 c2, .slice B2 m2 d2, .int .i64 rv2] := by rw [hW]; exact (Lies.new' _ _ _ (by simp)).alloc _
  have k6 : Lies W (w.heap.size + 2) 26 #[.slice A3 n3 c3, .int .i64 rn] := by rw [hW]; exact Lies.new' _ _ _ (by simp)
  have HW := Lib.hid hW
  have HB := Lib.hid hb
  have HK4 := Lib.hid k4
  have HK5 := Lib.hid k5
  have HK6 := Lib.hid k6
  have HT := Lib.hid ht0
  have HTW := Lib.hid htw0
  have HLAB := Lib.hid hlab
  have HO := Lib.hid ho0
  have HR := Lib.hid hr0
  have HLR := Lib.hid hlr
  have HN3 := Lib.hid hn3
  have HEE := Lib.hid hE
  have HES := Lib.hid hEs
  have HTS := Lib.hid hts
  have HOS := Lib.hid hos
  have HN0 := Lib.hid hn0
  have hsh := shown8_any W
  have HSH := Lib.hid hsh
  clear hW hb k4 k5 k6 ht0 htw0 ho0 hE hEs hts hos hsh ht htw ho hn0 hlab hr0 hlr hn3
  go_enter Try.func5, Try.ntmps5
  go_wp2_with fail
  rw [← HW.out]
  refine HSH.out.mono ?_
  rintro e x1 ⟨rfl, hb1⟩
  have HB1 := Lib.hid (HB.out.trans (hb1.mono HB.out.size))
  have HX1 := Lib.hid hb1
  have HC1 := Lib.hid (count8_any t x1 _ (by have := HTS.out; omega) (HT.out.keep HB1.out.block))
  clear hb1
  have q0 := (HK4.out.later HX1.out).cell 0
  have q1 := (HK4.out.later HX1.out).cell 1
  have q2 := (HK4.out.later HX1.out).cell 2
  have q3 := (HK4.out.later HX1.out).cell 3
  have q4 := (HK4.out.later HX1.out).cell 4
  have q5 := (HK4.out.later HX1.out).cell 5
  go_wp2_with fail
  refine HC1.out.mono ?_
  rintro e x2 ⟨rfl, hb2⟩
  have HX2 := Lib.hid (HX1.out.trans (hb2.mono HX1.out.size))
  clear hb2 q0 q1 q2 q3 q4 q5 HC1 HX1 HB1
  have HB2 := Lib.hid (HB.out.trans (HX2.out.mono HB.out.size))
  by_cases hc30 : 30 < t.size
  · have hc30i : (30 : Int) < (t.size : Int) := by omega
    go_wp2_with fail
    go_ret
    exact ⟨ret_bool (by simp), HB2.out⟩
  have hc30i : ¬ (30 : Int) < (t.size : Int) := by omega
  have HC2 := Lib.hid (count8_any o x2 _ (by have := HOS.out; omega) (HO.out.keep HB2.out.block))
  have q0 := (HK5.out.later HX2.out).cell 0
  have q1 := (HK5.out.later HX2.out).cell 1
  have q2 := (HK5.out.later HX2.out).cell 2
  have q3 := (HK5.out.later HX2.out).cell 3
  have q4 := (HK5.out.later HX2.out).cell 4
  have q5 := (HK5.out.later HX2.out).cell 5
  go_wp2_with fail
  refine HC2.out.mono ?_
  rintro e x3 ⟨rfl, hb3⟩
  have HX3 := Lib.hid (HX2.out.trans (hb3.mono HX2.out.size))
  clear hb3 q0 q1 q2 q3 q4 q5 HC2 HX2 HB2
  have HB3 := Lib.hid (HB.out.trans (HX3.out.mono HB.out.size))
  by_cases ho10 : 10 < o.size
  · have ho10i : (10 : Int) < (o.size : Int) := by omega
    go_wp2_with fail
    go_ret
    exact ⟨ret_bool (by simp), HB3.out⟩
  have ho10i : ¬ (10 : Int) < (o.size : Int) := by omega
  have HR1 := Lib.hid (Si.right_any t x3 _ (by omega) (HT.out.keep HB3.out.block))
  have q0 := (HK4.out.later HX3.out).cell 0
  have q1 := (HK4.out.later HX3.out).cell 1
  have q2 := (HK4.out.later HX3.out).cell 2
  have q3 := (HK4.out.later HX3.out).cell 3
  have q4 := (HK4.out.later HX3.out).cell 4
  have q5 := (HK4.out.later HX3.out).cell 5
  go_wp2_with fail
  refine HR1.out.mono ?_
  rintro e x4 ⟨br, rfl, hbr, hb4⟩
  have HX4 := Lib.hid (HX3.out.trans (hb4.mono HX3.out.size))
  have HBR := Lib.hid hbr
  clear hb4 hbr q0 q1 q2 q3 q4 q5 HR1 HX3 HB3
  have HB4 := Lib.hid (HB.out.trans (HX4.out.mono HB.out.size))
  cases br with
  | false =>
    go_wp2_with fail
    go_ret
    exact ⟨ret_bool (by simp), HB4.out⟩
  | true =>
  have HNI := Lib.hid (RightQ.nice t (HBR.out rfl))
  clear HBR
  have HR2 := Lib.hid (Si.right_any o x4 _ (by omega) (HO.out.keep HB4.out.block))
  have q0 := (HK5.out.later HX4.out).cell 0
  have q1 := (HK5.out.later HX4.out).cell 1
  have q2 := (HK5.out.later HX4.out).cell 2
  have q3 := (HK5.out.later HX4.out).cell 3
  have q4 := (HK5.out.later HX4.out).cell 4
  have q5 := (HK5.out.later HX4.out).cell 5
  go_wp2_with fail
  refine HR2.out.mono ?_
  rintro e x5 ⟨br, rfl, _, hb5⟩
  have HX5 := Lib.hid (HX4.out.trans (hb5.mono HX4.out.size))
  clear hb5 q0 q1 q2 q3 q4 q5 HR2 HX4 HB4
  have HB5 := Lib.hid (HB.out.trans (HX5.out.mono HB.out.size))
  cases br with
  | false =>
    go_wp2_with fail
    go_ret
    exact ⟨ret_bool (by simp), HB5.out⟩
  | true =>
  have HR3 := Lib.hid (rrow_any (.slice A3 n3 c3) rl rn x5 (HLR.out.keep HB5.out.block))
  have q0 := (HK6.out.later HX5.out).cell 0
  have q1 := (HK6.out.later HX5.out).cell 1
  go_wp2_with fail
  refine HR3.out.mono ?_
  rintro e x6 ⟨br, rfl, hbr, hb6⟩
  have HX6 := Lib.hid (HX5.out.trans (hb6.mono HX5.out.size))
  have HBR := Lib.hid hbr
  clear hb6 hbr q0 q1 HR3 HX5 HB5
  have HB6 := Lib.hid (HB.out.trans (HX6.out.mono HB.out.size))
  cases br with
  | false =>
    go_wp2_with fail
    go_ret
    exact ⟨ret_bool (by simp), HB6.out⟩
  | true =>
  have HRS := Lib.hid (rise_sort (HBR.out rfl).2)
  clear HBR
  have q0 := (HK6.out.later HX6.out).cell 0
  have q1 := (HK6.out.later HX6.out).cell 1
  by_cases hl20 : 20 < n3
  · have hl20i : (20 : Int) < (n3 : Int) := by omega
    go_wp2_with fail
    go_ret
    exact ⟨ret_bool (by simp), HB6.out⟩
  have hl20i : ¬ (20 : Int) < (n3 : Int) := by omega
  clear HB6
  go_upto_block 0 with fail
  clear q0 q1
  go_cut [10, 11] from 47 to 77 (fun lv _ wx => ∃ E : List Ty, E.length ≤ 4 ∧ (∀ u ∈ E, u.size ≤ 1000) ∧ EnvO wx W.heap.size lv E ∧ Below W.heap.size W wx)
  case first =>
    go_wp2_with fail
    go_loopw [10, 11] (fun lv i wr => ∃ (k : Nat) (E : List Ty), k ≤ n0 ∧ k ≤ 4 ∧ i = .int .i64 k ∧ E.length ≤ k ∧ (∀ u ∈ E, u.size ≤ 1000) ∧ EnvO wr W.heap.size lv E ∧ Below W.heap.size W wr) (fun _ i _ => 4 - (intOf i).toNat)
    case atStart => exact ⟨0, [], Nat.zero_le _, by omega, rfl, by simp, by simp, EnvO.nil _ _, HX6.out⟩
    case round =>
      obtain ⟨k, E, hk0, hk4, rfl, hEl, hEz, hEo, hBr⟩ := hrel
      obtain ⟨wo, rfl⟩ : ∃ wo, wo = wr := ⟨_, rfl⟩
      have HEO := Lib.hid hEo
      have HEZ := Lib.hid hEz
      have HBr := Lib.hid hBr
      have HBw := Lib.hid (HB.out.trans (hBr.mono HB.out.size))
      obtain ⟨xs0, _, how0, _, _⟩ := id hEo
      obtain ⟨AL, nL, cL, rfl⟩ := own_slice how0
      obtain rfl := own_n how0
      clear hEo hEz hBr how0
      by_cases hlt : k < n0 ∧ k < 4
      · obtain ⟨hln, hl4⟩ := hlt
        obtain ⟨u, hu⟩ : ∃ u, E0[k]? = some u := ⟨_, List.getElem?_eq_getElem (by have := HN0.out; omega)⟩
        obtain ⟨g, oo, rfl, htr⟩ := HEE.out k u hu
        obtain ⟨lu, _, hru0, htv⟩ := htr.open
        have hus := HES.out u (List.mem_of_getElem? hu)
        have hru := hru0.laterB (by rw [htv.len]; decide) HBw.out
        have htvo := htv.later HBw.out
        obtain ⟨ku, nmu, vu, Au, nu, cu, Bu, mu, du, rvu, rfl⟩ := htv.shp
        unfold tyC at hru htvo
        have HTV := Lib.hid htvo
        have HRU := Lib.hid hru
        have HUS := Lib.hid hus
        have z0 := hru 0 _ rfl
        have z1 := hru 1 _ rfl
        have z2 := hru 2 _ rfl
        have z3 := hru 3 _ rfl
        have z4 := hru 4 _ rfl
        have z5 := hru 5 _ rfl
        simp only [Nat.add_zero] at z0
        have hglt : g < wo.heap.size := reads_block hru (by simp)
        have hkn : (k : Int) < (n0 : Int) := by omega
        have hk4i : (k : Int) < 4 := by omega
        have hkc : k < c0 := by omega
        have HRa := Lib.hid (right_any u wo _ (by omega) htvo)
        clear htvo hru hru0 htv htr hus hu
        go_wp2_with fail
        refine HRa.out.mono ?_
        rintro e y1 ⟨br, rfl, _, hy1⟩
        have HY1 := Lib.hid hy1
        clear hy1 z0 z1 z2 z3 z4 z5 HRa
        cases br with
        | false =>
          go_wp2_with fail
          go_roundw
          case rel => exact ⟨k + 1, E, by omega, by omega, by simp, by omega, HEZ.out, HEO.out.later HY1.out, HBr.out.trans (HY1.out.mono HBr.out.size)⟩
          case measure => (simp [intOf] <;> omega)
        | true =>
          have hru := HRU.out.laterB (by simp) HY1.out
          have z0 := hru 0 _ rfl
          have z1 := hru 1 _ rfl
          have z2 := hru 2 _ rfl
          have z3 := hru 3 _ rfl
          have z4 := hru 4 _ rfl
          have z5 := hru 5 _ rfl
          simp only [Nat.add_zero] at z0
          have HCa := Lib.hid (count8_any u y1 _ (by have := HUS.out; omega) (HTV.out.later HY1.out))
          clear hru
          go_wp2_with fail
          refine HCa.out.mono ?_
          rintro e y2 ⟨rfl, hy2⟩
          have HY2 := Lib.hid (HY1.out.trans (hy2.mono HY1.out.size))
          clear hy2 z0 z1 z2 z3 z4 z5 HCa HY1
          by_cases h50 : u.size < 50
          case neg =>
            have h50i : ¬ (u.size : Int) < 50 := by omega
            go_wp2_with fail
            go_roundw
            case rel => exact ⟨k + 1, E, by omega, by omega, by simp, by omega, HEZ.out, HEO.out.later HY2.out, HBr.out.trans (HY2.out.mono HBr.out.size)⟩
            case measure => (simp [intOf] <;> omega)
          case pos =>
            have h50i : (u.size : Int) < 50 := by omega
            have hru := HRU.out.laterB (by simp) HY2.out
            have z0 := hru 0 _ rfl
            have z1 := hru 1 _ rfl
            have z2 := hru 2 _ rfl
            have z3 := hru 3 _ rfl
            have z4 := hru 4 _ rfl
            have z5 := hru 5 _ rfl
            simp only [Nat.add_zero] at z0
            have HBa := Lib.hid (bare_anyK y2 u _ (HTV.out.later HY2.out) (by omega))
            clear hru
            go_wp2_with fail
            refine HBa.out.mono ?_
            rintro e y3 ⟨l3, rfl, ht3, hy3⟩
            obtain ⟨k3, nm3, v3, A3, n3, c3, B3, m3, d3, rv3, rfl⟩ := (ht3 y3 ⟨Nat.le_refl _, fun _ _ _ => rfl⟩).trv.shp
            unfold schemeV
            unfold tyC at ht3 ⊢
            have HY3 := Lib.hid (HY2.out.trans (hy3.mono HY2.out.size))
            have HT3 := Lib.hid ht3
            have HY23 := Lib.hid (HY2.out.size)
            clear hy3 ht3 z0 z1 z2 z3 z4 z5 HBa HY2
            obtain ⟨xs, hxs⟩ := HEO.out.later HY3.out
            obtain ⟨i0, hi, hz0, hz1, hz2⟩ := info_parts info_scheme8
            have HXS := Lib.hid hxs
            have HX2 := Lib.hid hxs.2.1
            have HNW := Lib.hid (new_cells y3 62 [.slice none 0 0, .slice none 0 0, .int .i64 k3, .string (ba nm3), .int .i64 v3, .slice A3 n3 c3, .slice B3 m3 d3, .int .i64 rv3] (N := y3.heap.size) rfl)
            have HSB := Lib.hid (show W.heap.size ≤ y3.heap.size from Nat.le_trans HBr.out.size HY3.out.size)
            clear hxs
            go_wp2_with (first | (at_builtin; go_loud (refine wpList_append_own_at _ rfl (.tmp 70) (.tmp 76) 60 rfl W.heap.size 62 i0 _ 8 136 Try.underlying60 hi hz0 hz1 hz2 rfl (by decide) _ E.length _ rfl (own_later HX2.out (below_new y3 _)) ⟨y3.heap.size, 0, none⟩ 1 1 [.slice none 0 0, .slice none 0 0, .int .i64 k3, .string (ba nm3), .int .i64 v3, .slice A3 n3 c3, .slice B3 m3 d3, .int .i64 rv3] rfl rfl HNW.out (by simp [Value.oneCell']) (by unfold maxLen; omega) (by omega) (by have := HSB.out; simp; omega) ?_); intro v' w5 hown hgr hnil hat; have HOWN := Lib.hid hown; have HGR := Lib.hid hgr; have HAT := Lib.hid hat; obtain ⟨A6, k6, c6, rfl⟩ := own_slice hown; clear hown hnil hat hgr))
            go_roundw
            case rel =>
              refine ⟨k + 1, E ++ [u], by omega, by omega, by simp, by simp; omega, fun x hx => ?_, ?_, ?_⟩
              · rcases List.mem_append.1 hx with hx | hx
                · exact HEZ.out x hx
                · rw [List.mem_singleton.1 hx]; omega
              · exact EnvO.add HXS.out rfl HT3.out (below_new y3 _) HGR.out HAT.out HOWN.out (fun b hb => by
                  obtain ⟨xs1, _, h2, _⟩ := HEO.out
                  have := (own_block h2 b hb).2
                  have := HY23.out
                  omega)
              · exact ((HBr.out.trans (HY3.out.mono HBr.out.size)).trans ((below_new y3 _).mono HSB.out)).grown HGR.out (by have := HSB.out; simp; omega) (fun q e => by
                  obtain ⟨xs1, _, h2, _⟩ := HEO.out
                  exact (own_block h2 q e).1)
            case measure => (simp [intOf] <;> omega)
      · have hkk : ¬ ((k : Int) < (n0 : Int)) ∨ ((k : Int) < (n0 : Int) ∧ ¬ ((k : Int) < 4)) := by omega
        rcases hkk with hkk | ⟨hkk, hkk2⟩
        all_goals
          go_wp2_with fail
          go_meet
          exact ⟨E, by omega, HEZ.out, HEO.out, HBr.out⟩
  case rest =>
    obtain ⟨E, hE4, hEz, hEo, hBr⟩ := hcut
    have HBr := Lib.hid hBr
    have HBw := Lib.hid (HB.out.trans (hBr.mono HB.out.size))
    have HGE := Lib.hid (general_anyK wc _ E t _ hEo.env (by omega) hEz (HT.out.keep HBw.out.block) (HTW.out.later HBw.out) (by omega))
    have q0 := (HK4.out.later HBr.out).cell 0
    have q1 := (HK4.out.later HBr.out).cell 1
    have q2 := (HK4.out.later HBr.out).cell 2
    have q3 := (HK4.out.later HBr.out).cell 3
    have q4 := (HK4.out.later HBr.out).cell 4
    have q5 := (HK4.out.later HBr.out).cell 5
    clear hBr hEz hEo hE4
    go_wp2_with fail
    refine HGE.out.mono ?_
    rintro e y1 ⟨v1', v2', l6, FK, FR, K, R, rfl, ho1, ho2, hl6, hx1, hx2, hf1, hf2, _, hb6⟩
    obtain ⟨Av, nv, cv, rfl⟩ := own_slice ho1
    obtain ⟨Ar, nr, cr, rfl⟩ := own_slice ho2
    have hnv := own_n ho1
    have hnr := own_n ho2
    obtain ⟨KK, hKK⟩ : ∃ KK, KK = lessL K FK := ⟨_, rfl⟩
    obtain ⟨RR, hRR⟩ : ∃ RR, RR = lessL R FR := ⟨_, rfl⟩
    have hok1 : ∀ n ∈ KK, i64ok n := by rw [hKK]; exact lessL_ok hx1.ok0
    have hok2 : ∀ n ∈ RR, i64ok n := by rw [hRR]; exact lessL_ok hx2.ok0
    have hnd1 : KK.Nodup := by rw [hKK]; exact (hx1.nod List.nodup_nil).filter _
    have hnd2 : RR.Nodup := by rw [hRR]; exact (hx2.nod List.nodup_nil).filter _
    have hl1 : KK.length ≤ 100 := by rw [hKK]; have h1 := hx1.len; have h2 : (lessL K FK).length ≤ K.length := List.length_filter_le _ _; simp at h1; omega
    have hl2 : RR.length ≤ 100 := by rw [hRR]; have h1 := hx2.len; have h2 : (lessL R FR).length ≤ R.length := List.length_filter_le _ _; simp at h1; omega
    have hz2 : (0 : Int) ∉ RR := by rw [hRR]; intro hm; exact inR_nz t 0 ((hx2.mem 0 (mem_lessL.1 hm).1).resolve_left (by simp)) rfl
    rw [← hKK] at ho1 hnv
    rw [← hRR] at ho2 hnr
    obtain ⟨ks, nms, vs, A9, n9, c9, B9, m9, d9, rs, rfl⟩ := (hl6 y1 ⟨Nat.le_refl _, fun _ _ _ => rfl⟩).1.trv.shp
    unfold schemeV
    unfold tyC at hl6 ⊢
    have hy6 := HBr.out.trans (hb6.mono HBr.out.size)
    obtain ⟨Y, hY⟩ : ∃ Y, Y = y1.alloc (.cells #[.slice Av nv cv, .slice Ar nr cr, .int .i64 ks, .string (ba nms), .int .i64 vs, .slice A9 n9 c9, .slice B9 m9 d9, .int .i64 rs] 62) := ⟨_, rfl⟩
    have hbY : Below y1.heap.size y1 Y := by rw [hY]; exact below_new _ _
    have lY : Lies Y y1.heap.size 62 #[.slice Av nv cv, .slice Ar nr cr, .int .i64 ks, .string (ba nms), .int .i64 vs, .slice A9 n9 c9, .slice B9 m9 d9, .int .i64 rs] := by rw [hY]; exact Lies.new _ _ _
    have HI1 := Lib.hid (fun V (hV : Below y1.heap.size y1 V) => IntR.of_own (own_later ho1 hV) hok1)
    have HI2 := Lib.hid (fun V (hV : Below y1.heap.size y1 V) => IntR.of_own (own_later ho2 hV) hok2)
    have HL6 := Lib.hid (fun V (hV : Below y1.heap.size y1 V) => hl6 V (below_kept hV _))
    have HND := Lib.hid (And.intro hnd1 (And.intro hnd2 (And.intro hz2 (And.intro hok1 hok2))))
    have HNV := Lib.hid hnv
    have HNR := Lib.hid hnr
    have HL1 := Lib.hid hl1
    have HL2 := Lib.hid hl2
    have HLY := Lib.hid lY
    have HBY := Lib.hid hbY
    have HY := Lib.hid hY
    have HWY := Lib.hid hy6
    clear ho1 ho2 hl6 hx1 hx2 hf1 hf2 hb6 hnv hnr hKK hRR hok1 hok2 hnd1 hnd2 hl1 hl2 hz2 hy6 hY hbY lY q0 q1 q2 q3 q4 q5 HGE K R FK FR
    go_wp2_with fail
    rw [← HY.out]
    refine (none_any Y).mono ?_
    unfold noneV
    rintro e y2 ⟨rfl, hb7⟩
    have hnvb : nv ≤ 100 := by rw [HNV.out]; exact HL1.out
    have hnrb : nr ≤ 100 := by rw [HNR.out]; exact HL2.out
    have hb72 : Below y1.heap.size y1 y2 := HBY.out.trans (hb7.mono HBY.out.size)
    obtain ⟨Z, hZ⟩ : ∃ Z, Z = y2.alloc (.cells #[.slice none 0 0, .slice none 0 0] 38) := ⟨_, rfl⟩
    have hbZ : Below y1.heap.size y1 Z := by rw [hZ]; exact hb72.trans ((below_new y2 _).mono hb72.size)
    have lZ : Lies Z y2.heap.size 38 #[.slice none 0 0, .slice none 0 0] := by rw [hZ]; exact Lies.new _ _ _
    have lS : Lies Z y1.heap.size 62 #[.slice Av nv cv, .slice Ar nr cr, .int .i64 ks, .string (ba nms), .int .i64 vs, .slice A9 n9 c9, .slice B9 m9 d9, .int .i64 rs] := by rw [hZ]; exact (HLY.out.later hb7).later (below_new y2 _)
    have h12 : y1.heap.size < y2.heap.size := by have h1 := HLY.out.lt; have h2 := hb7.size; omega
    obtain ⟨P12, hP12⟩ : ∃ P, P = y1.heap.size := ⟨_, rfl⟩
    obtain ⟨P13, hP13⟩ : ∃ P, P = y2.heap.size := ⟨_, rfl⟩
    rw [← hP12] at lS h12
    rw [← hP13] at lZ h12
    have HZ := Lib.hid hZ
    have HBZ := Lib.hid hbZ
    have HLZ := Lib.hid lZ
    have HLS := Lib.hid lS
    have HP := Lib.hid (And.intro hP12 hP13)
    clear hZ hbZ lZ lS hb7 hb72 hP12 hP13
    go_upto_region 12 with fail
    rw [← HZ.out]
    try rw [← HP.out.1, ← HP.out.2]
    have z0 := HLS.out.cell 0
    go_upto_if 85 with fail
    generalize hbt : decide (0 < nv) = bt
    have HBT := Lib.hid hbt
    clear hbt
    go_cut [] from 86 to 92 (fun wx => ∃ (D1 : Option Addr) (q1 e1 : Nat) (D2 : Option Addr) (q2 e2 : Nat), Lies wx P12 62 #[.slice Av nv cv, .slice Ar nr cr, .int .i64 ks, .string (ba nms), .int .i64 vs, .slice A9 n9 c9, .slice B9 m9 d9, .int .i64 rs] ∧ Lies wx P13 38 #[.slice D1 q1 e1, .slice D2 q2 e2] ∧ SubV (blank (fun b => b = P13) wx) (.agg #[.slice D1 q1 e1, .slice D2 q2 e2]) 1 (withT KK o) R0 ∧ Below y1.heap.size y1 wx)
    case first =>
      cases hKK : KK with
      | nil =>
        obtain rfl : bt = false := by
          rw [← HBT.out]
          have h := HNV.out
          rw [hKK] at h
          simp at h
          exact decide_eq_false (by omega)
        go_wp2_with fail
        go_meet
        exact ⟨none, 0, 0, none, 0, 0, HLS.out, HLZ.out, by rw [hKK]; exact SubV.none _ _, HBZ.out⟩
      | cons a r =>
        have hnvp : (0 : Int) < (nv : Int) := by have h := HNV.out; rw [hKK] at h; simp at h; omega
        have hnvp2 : 0 < nv := by omega
        obtain rfl : bt = true := by rw [← HBT.out]; exact decide_eq_true hnvp2
        obtain ⟨_, _, hs1, hs2, _, hget⟩ := HI1.out Z HBZ.out
        injection hs1 with e1 em e2
        subst e1 e2
        clear em
        obtain ⟨hoka, g, oo, rfl, hcell⟩ := hget 0 a (by rw [hKK]; rfl)
        rw [Nat.add_zero] at hcell
        have hWZ := HWY.out.trans (HBZ.out.mono HWY.out.size)
        have y0 := HLZ.out.cell 0
        have y1' := HLZ.out.cell 1
        have q0 := (HK5.out.later hWZ).cell 0
        have q1 := (HK5.out.later hWZ).cell 1
        have q2 := (HK5.out.later hWZ).cell 2
        have q3 := (HK5.out.later hWZ).cell 3
        have q4 := (HK5.out.later hWZ).cell 4
        have q5 := (HK5.out.later hWZ).cell 5
        have hdz : Below Z.heap.size Z Z.drew := (Below.refl _ Z).drew
        have dy0 := (HLZ.out.later hdz).cell 0
        have dy1 := (HLZ.out.later hdz).cell 1
        have dz0 := (HLS.out.later hdz).cell 0
        have dcell : Z.drew.cell? ⟨g, oo, none⟩ = some (.int .i64 a) := hcell
        have dq0 := ((HK5.out.later hWZ).later hdz).cell 0
        have dq1 := ((HK5.out.later hWZ).later hdz).cell 1
        have dq2 := ((HK5.out.later hWZ).later hdz).cell 2
        have dq3 := ((HK5.out.later hWZ).later hdz).cell 3
        have dq4 := ((HK5.out.later hWZ).later hdz).cell 4
        have dq5 := ((HK5.out.later hWZ).later hdz).cell 5
        have hcp : 0 < cv := by rw [hKK] at hs2; simp at hs2; omega
        have hbw := (HB.out.trans (hWZ.mono HB.out.size)).drew
        have hst := setType_any (fun b => b = P13) Z.drew noneV 0 T0 R0 (SubV.none _ _) (by omega) a hoka o _ (HO.out.keep hbw.block) (by omega)
        unfold noneV at hst
        have HST := Lib.hid hst
        have HKK := Lib.hid hKK
        clear hst hbw hget hs2 hWZ hKK
        go_wp2_with fail
        go_still_tail 6, (by kernel_rfl)
        change wpList _ _ _ _ _ Z.drew
        go_wp2_with fail
        refine HST.out.mono ?_
        rintro e w4 ⟨sv, rfl, hsv, hb4⟩
        obtain ⟨D1, p1, e1, D2, p2, e2, rfl⟩ : ∃ B1 m1 d1 B2 m2 d2, sv = .agg #[.slice B1 m1 d1, .slice B2 m2 d2] := by
          obtain ⟨vt, vr, _, _, h1, h2, h3, _⟩ := hsv w4 ⟨Nat.le_refl _, fun _ _ _ => rfl⟩
          obtain ⟨a1, a2, a3, rfl⟩ := h2.one
          obtain ⟨a4, a5, a6, rfl⟩ := h3.one
          exact ⟨_, _, _, _, _, _, h1⟩
        have hb4' : Below Z.heap.size Z w4 := (Below.refl _ Z).drew.trans hb4
        have l4 := HLZ.out.later hb4'
        have f0 := l4.free 0
        have f1 := l4.free 1
        have y0 := l4.cell 0
        have y1' := l4.cell 1
        have HSV := Lib.hid hsv
        have HB4 := Lib.hid hb4'
        have HL4 := Lib.hid l4
        clear hsv hb4 hb4' l4 q0 q1 q2 q3 q4 q5 z0 dy0 dy1 dz0 dcell dq0 dq1 dq2 dq3 dq4 dq5
        go_wp2_with fail
        go_meet
        obtain ⟨w5, hw5⟩ : ∃ w5, w5 = (w4.setCell ⟨P13, 0, none⟩ (.slice D1 p1 e1)).setCell ⟨P13, 1, none⟩ (.slice D2 p2 e2) := ⟨_, rfl⟩
        have hoth : ∀ g, g ≠ P13 → w5.heap[g]? = w4.heap[g]? := fun g hg => by rw [hw5]; exact (Below.heap_setCell _ ⟨P13, 1, none⟩ _ g hg).trans (Below.heap_setCell _ ⟨P13, 0, none⟩ _ g hg)
        have hs5 : w5.heap.size = w4.heap.size := by rw [hw5]; simp [World.size_setCell]
        have hl5 : Lies w5 P13 38 #[.slice D1 p1 e1, .slice D2 p2 e2] := by rw [hw5]; exact (HL4.out.set 0 _).set 1 _
        have hP := HP.out
        have hb5 : Below y1.heap.size y1 w5 := (HBZ.out.trans (HB4.out.mono HBZ.out.size)).trans (by rw [hw5]; exact ((Below.refl y1.heap.size w4).setCell (p := ⟨P13, 0, none⟩) (by show y1.heap.size ≤ P13; omega) _).setCell (p := ⟨P13, 1, none⟩) (by show y1.heap.size ≤ P13; omega) _)
        have hsv5 := sub_turn HSV.out hs5 hoth HLZ.out.lt
        have hlS5 := (hoth P12 (by omega)).trans (HLS.out.later HB4.out)
        have hwt : withT KK o = setF T0 a o := by rw [HKK.out]; rfl
        rw [← hw5]
        exact ⟨D1, p1, e1, D2, p2, e2, hlS5, hl5, by rw [hwt]; exact hsv5, hb5⟩
    case rest =>
      obtain ⟨D1, p1, e1, D2, p2, e2, lS1, lT1, hsv1, hb1⟩ := hcut
      obtain ⟨wz, rfl⟩ : ∃ wz, wz = wc := ⟨_, rfl⟩
      have z1 := lS1.cell 1
      have HLS1 := Lib.hid lS1
      have HLT1 := Lib.hid lT1
      have HSV1 := Lib.hid hsv1
      have HBZ1 := Lib.hid hb1
      clear lS1 lT1 hsv1 hb1
      go_upto_if 96 with fail
      generalize hbt2 : decide (0 < nr) = bt2
      have HBT2 := Lib.hid hbt2
      clear hbt2
      go_cut [] from 97 to 103 (fun wx => ∃ (D1 : Option Addr) (q1 e1 : Nat) (D2 : Option Addr) (q2 e2 : Nat), Lies wx P12 62 #[.slice Av nv cv, .slice Ar nr cr, .int .i64 ks, .string (ba nms), .int .i64 vs, .slice A9 n9 c9, .slice B9 m9 d9, .int .i64 rs] ∧ Lies wx P13 38 #[.slice D1 q1 e1, .slice D2 q2 e2] ∧ SubV (blank (fun b => b = P13) wx) (.agg #[.slice D1 q1 e1, .slice D2 q2 e2]) 2 (withT KK o) (withR RR (rl, rn)) ∧ Below y1.heap.size y1 wx)
      case first =>
        cases hRR : RR with
        | nil =>
          obtain rfl : bt2 = false := by
            rw [← HBT2.out]
            have h := HNR.out
            rw [hRR] at h
            simp at h
            exact decide_eq_false (by omega)
          go_wp2_with fail
          go_meet
          exact ⟨D1, p1, e1, D2, p2, e2, HLS1.out, HLT1.out, by rw [hRR]; exact HSV1.out.mono (by omega), HBZ1.out⟩
        | cons a r =>
          have hnrp : (0 : Int) < (nr : Int) := by have h := HNR.out; rw [hRR] at h; simp at h; omega
          have hnrp2 : 0 < nr := by omega
          obtain rfl : bt2 = true := by rw [← HBT2.out]; exact decide_eq_true hnrp2
          obtain ⟨_, _, hs1, hs2, _, hget⟩ := HI2.out wz HBZ1.out
          injection hs1 with e3 em e4
          subst e3 e4
          clear em
          obtain ⟨hoka, g, oo, rfl, hcell⟩ := hget 0 a (by rw [hRR]; rfl)
          rw [Nat.add_zero] at hcell
          have hWZ := HWY.out.trans (HBZ1.out.mono HWY.out.size)
          have y0 := HLT1.out.cell 0
          have y1' := HLT1.out.cell 1
          have q0 := (HK6.out.later hWZ).cell 0
          have q1 := (HK6.out.later hWZ).cell 1
          have hdz : Below wz.heap.size wz wz.drew := (Below.refl _ wz).drew
          have dy0 := (HLT1.out.later hdz).cell 0
          have dy1 := (HLT1.out.later hdz).cell 1
          have dz0 := (HLS1.out.later hdz).cell 1
          have dcell : wz.drew.cell? ⟨g, oo, none⟩ = some (.int .i64 a) := hcell
          have dq0 := ((HK6.out.later hWZ).later hdz).cell 0
          have dq1 := ((HK6.out.later hWZ).later hdz).cell 1
          have hcp : 0 < cr := by rw [hRR] at hs2; simp at hs2; omega
          have hbw := (HB.out.trans (hWZ.mono HB.out.size)).drew
          have hst := setRow_any (fun b => b = P13) wz.drew _ 1 (withT KK o) R0 (HSV1.out.keepL (blank_blank (Y := fun _ => False) (Kept.of_below hdz) (fun _ _ h => h.elim))) (by omega) a hoka rl rn _ (HR.out.keep hbw.block)
          have HST := Lib.hid hst
          have HRR := Lib.hid hRR
          clear hst hbw hget hs2 hWZ hRR
          go_wp2_with fail
          go_still_tail 6, (by kernel_rfl)
          change wpList _ _ _ _ _ wz.drew
          go_wp2_with fail
          refine HST.out.mono ?_
          rintro e w4 ⟨sv, rfl, hsv, hb4⟩
          obtain ⟨F1, g1, h1', F2, g2, h2', rfl⟩ : ∃ B1 m1 d1 B2 m2 d2, sv = .agg #[.slice B1 m1 d1, .slice B2 m2 d2] := by
            obtain ⟨vt, vr, _, _, h1, h2, h3, _⟩ := hsv w4 ⟨Nat.le_refl _, fun _ _ _ => rfl⟩
            obtain ⟨a1, a2, a3, rfl⟩ := h2.one
            obtain ⟨a4, a5, a6, rfl⟩ := h3.one
            exact ⟨_, _, _, _, _, _, h1⟩
          have hb4' : Below wz.heap.size wz w4 := (Below.refl _ wz).drew.trans hb4
          have l4 := HLT1.out.later hb4'
          have f0 := l4.free 0
          have f1 := l4.free 1
          have y0 := l4.cell 0
          have y1' := l4.cell 1
          have HSV := Lib.hid hsv
          have HB4 := Lib.hid hb4'
          have HL4 := Lib.hid l4
          clear hsv hb4 hb4' l4 q0 q1 z1 dy0 dy1 dz0 dcell dq0 dq1
          go_wp2_with fail
          go_meet
          obtain ⟨w5, hw5⟩ : ∃ w5, w5 = (w4.setCell ⟨P13, 0, none⟩ (.slice F1 g1 h1')).setCell ⟨P13, 1, none⟩ (.slice F2 g2 h2') := ⟨_, rfl⟩
          have hoth : ∀ g, g ≠ P13 → w5.heap[g]? = w4.heap[g]? := fun g hg => by rw [hw5]; exact (Below.heap_setCell _ ⟨P13, 1, none⟩ _ g hg).trans (Below.heap_setCell _ ⟨P13, 0, none⟩ _ g hg)
          have hs5 : w5.heap.size = w4.heap.size := by rw [hw5]; simp [World.size_setCell]
          have hl5 : Lies w5 P13 38 #[.slice F1 g1 h1', .slice F2 g2 h2'] := by rw [hw5]; exact (HL4.out.set 0 _).set 1 _
          have hP := HP.out
          have hb5 : Below y1.heap.size y1 w5 := (HBZ1.out.trans (HB4.out.mono HBZ1.out.size)).trans (by rw [hw5]; exact ((Below.refl y1.heap.size w4).setCell (p := ⟨P13, 0, none⟩) (by show y1.heap.size ≤ P13; omega) _).setCell (p := ⟨P13, 1, none⟩) (by show y1.heap.size ≤ P13; omega) _)
          have hsv5 := sub_turn HSV.out hs5 hoth HLT1.out.lt
          have hlS5 := (hoth P12 (by omega)).trans (HLS1.out.later HB4.out)
          have hwt : withR RR (rl, rn) = setF R0 a (rl, rn) := by rw [HRR.out]; rfl
          rw [← hw5]
          exact ⟨F1, g1, h1', F2, g2, h2', hlS5, hl5, by rw [hwt]; exact hsv5, hb5⟩
      case rest =>
        obtain ⟨D3, p3, e3, D4, p4, e4, lS2, lT2, hsv2, hb2⟩ := hcut
        obtain ⟨wy, rfl⟩ : ∃ wy, wy = wc := ⟨_, rfl⟩
        have z0 := lS2.cell 0
        have z1 := lS2.cell 1
        have z2 := lS2.cell 2
        have z3 := lS2.cell 3
        have z4 := lS2.cell 4
        have z5 := lS2.cell 5
        have z6 := lS2.cell 6
        have z7 := lS2.cell 7
        have hfr := fresh_any wy (.slice Av nv cv) (.slice Ar nr cr) KK RR 1000 HND.out.1 HND.out.2.1 (by have := HL1.out; have := HL2.out; omega) (by omega) (by omega) t _ (HI1.out wy hb2) (HI2.out wy hb2) (HL6.out wy hb2).1.trv (free_fr 1000 _ (by omega) HLAB.out) (pcs_fr 1000 (by omega))
        rw [ap_ins (only_fr KK RR 1000 _) HND.out.2.2.1 t HNI.out] at hfr
        rw [← HNV.out, ← HNR.out] at hfr
        unfold schemeV at hfr
        have HFR := Lib.hid hfr
        have HLS2 := Lib.hid lS2
        have HLT2 := Lib.hid lT2
        have HSV2 := Lib.hid hsv2
        have HBY2 := Lib.hid hb2
        clear hfr lS2 lT2 hsv2 hb2
        go_wp2_with fail
        refine HFR.out.mono ?_
        rintro e y7 ⟨lF, rfl, hlF, hb7⟩
        obtain ⟨kF, nmF, vF, AF, nF, cF, BF, mF, dF, rF, rfl⟩ := (hlF y7 ⟨Nat.le_refl _, fun _ _ _ => rfl⟩).1.trv.shp
        unfold tyC at hlF ⊢
        obtain ⟨X, hX⟩ : ∃ X, X = y7.alloc (.cells #[.int .i64 kF, .string (ba nmF), .int .i64 vF, .slice AF nF cF, .slice BF mF dF, .int .i64 rF] 28) := ⟨_, rfl⟩
        have hb7X : Below y7.heap.size y7 X := by rw [hX]; exact below_new y7 _
        have hbX : Below wy.heap.size wy X := hb7.trans (hb7X.mono hb7.size)
        have lX : Lies X y7.heap.size 28 #[.int .i64 kF, .string (ba nmF), .int .i64 vF, .slice AF nF cF, .slice BF mF dF, .int .i64 rF] := by rw [hX]; exact Lies.new _ _ _
        have hyX : Below y1.heap.size y1 X := HBY2.out.trans (hbX.mono HBY2.out.size)
        have hWX : Below W.heap.size W X := HWY.out.trans (hyX.mono HWY.out.size)
        have hwX : Below w.heap.size w X := HB.out.trans (hWX.mono HB.out.size)
        have lSX := HLS2.out.later hbX
        have lTX := HLT2.out.later hbX
        have l4X := HK4.out.later hWX
        have HSS := Lib.hid (fun V (hV : Below X.heap.size X V) => (show (fun V => V.cell? ⟨P12, 0, none⟩ = some (.slice Av nv cv) ∧ V.cell? ⟨P12, 1, none⟩ = some (.slice Ar nr cr) ∧ V.cell? ⟨P12, 2, none⟩ = some (.int .i64 ks) ∧ V.cell? ⟨P12, 3, none⟩ = some (.string (ba nms)) ∧ V.cell? ⟨P12, 4, none⟩ = some (.int .i64 vs) ∧ V.cell? ⟨P12, 5, none⟩ = some (.slice A9 n9 c9) ∧ V.cell? ⟨P12, 6, none⟩ = some (.slice B9 m9 d9) ∧ V.cell? ⟨P12, 7, none⟩ = some (.int .i64 rs) ∧ V.cell? ⟨w.heap.size, 0, none⟩ = some (.int .i64 k1) ∧ V.cell? ⟨w.heap.size, 1, none⟩ = some (.string (ba nm1)) ∧ V.cell? ⟨w.heap.size, 2, none⟩ = some (.int .i64 v1) ∧ V.cell? ⟨w.heap.size, 3, none⟩ = some (.slice A1 n1 c1) ∧ V.cell? ⟨w.heap.size, 4, none⟩ = some (.slice B1 m1 d1) ∧ V.cell? ⟨w.heap.size, 5, none⟩ = some (.int .i64 rv1) ∧ V.cell? ⟨P13, 0, none⟩ = some (.slice D3 p3 e3) ∧ V.cell? ⟨P13, 1, none⟩ = some (.slice D4 p4 e4) ∧ V.cell? ⟨y7.heap.size, 0, none⟩ = some (.int .i64 kF) ∧ V.cell? ⟨y7.heap.size, 1, none⟩ = some (.string (ba nmF)) ∧ V.cell? ⟨y7.heap.size, 2, none⟩ = some (.int .i64 vF) ∧ V.cell? ⟨y7.heap.size, 3, none⟩ = some (.slice AF nF cF) ∧ V.cell? ⟨y7.heap.size, 4, none⟩ = some (.slice BF mF dF) ∧ V.cell? ⟨y7.heap.size, 5, none⟩ = some (.int .i64 rF)) V from ⟨(lSX.later hV).cell 0, (lSX.later hV).cell 1, (lSX.later hV).cell 2, (lSX.later hV).cell 3, (lSX.later hV).cell 4, (lSX.later hV).cell 5, (lSX.later hV).cell 6, (lSX.later hV).cell 7, (l4X.later hV).cell 0, (l4X.later hV).cell 1, (l4X.later hV).cell 2, (l4X.later hV).cell 3, (l4X.later hV).cell 4, (l4X.later hV).cell 5, (lTX.later hV).cell 0, (lTX.later hV).cell 1, (lX.later hV).cell 0, (lX.later hV).cell 1, (lX.later hV).cell 2, (lX.later hV).cell 3, (lX.later hV).cell 4, (lX.later hV).cell 5⟩))
        have hid := ins_id KK RR t HNI.out
        have hA1 : KK.length ≤ 100000000 := by have := HL1.out; omega
        have hA2 : RR.length ≤ 100000000 := by have := HL2.out; omega
        have hcI1 := fun V (hV : Below X.heap.size X V) => instance_ins V (.slice Av nv cv) (.slice Ar nr cr) (insOf KK RR T0 R0) t _ _ (HI1.out V (hyX.trans (hV.mono hyX.size))) hA1 (HI2.out V (hyX.trans (hV.mono hyX.size))) hA2 (HL6.out V (hyX.trans (hV.mono hyX.size))).1 ⟨_, (HL6.out V (hyX.trans (hV.mono hyX.size))).2⟩ (by rw [hid]; exact HT.out.keep (hwX.trans (hV.mono hwX.size)).block) (by rw [hid]; exact HTW.out.later (hwX.trans (hV.mono hwX.size))) (inst_id HNI.out (by omega) HND.out.2.2.1 HND.out.2.2.2.1 HND.out.2.2.2.2)
        have hcI2 := fun V (hV : Below X.heap.size X V) => instance_ins V (.slice Av nv cv) (.slice Ar nr cr) (insOf KK RR (frT KK 1000 T0) (frR RR (1000 + nv) R0)) t _ _ (HI1.out V (hyX.trans (hV.mono hyX.size))) hA1 (HI2.out V (hyX.trans (hV.mono hyX.size))) hA2 (HL6.out V (hyX.trans (hV.mono hyX.size))).1 ⟨_, (HL6.out V (hyX.trans (hV.mono hyX.size))).2⟩ (hlF V (below_kept (hb7X.trans (hV.mono hb7X.size)) _)).1.trv (TFV.tw (hlF V (below_kept (hb7X.trans (hV.mono hb7X.size)) _)).1) (inst_fr 1000 _ HNI.out (by omega) HND.out.2.2.1 HND.out.2.2.2.1 HND.out.2.2.2.2)
        have hcI3 := fun V l (hV : Below X.heap.size X V) (hl : TFV V (ins (insOf KK RR (withT KK o) (withR RR (rl, rn))) t) l) => instance_ins V (.slice Av nv cv) (.slice Ar nr cr) (insOf KK RR (withT KK o) (withR RR (rl, rn))) t _ l (HI1.out V (hyX.trans (hV.mono hyX.size))) hA1 (HI2.out V (hyX.trans (hV.mono hyX.size))) hA2 (HL6.out V (hyX.trans (hV.mono hyX.size))).1 ⟨_, (HL6.out V (hyX.trans (hV.mono hyX.size))).2⟩ hl.trv (TFV.tw hl) (inst_with HNI.out (by omega) (by omega) HRS.out HND.out.2.2.1 HND.out.2.2.2.1 HND.out.2.2.2.2)
        have hcAp := fun V (hV : Below X.heap.size X V) => Ri.apply_anyJ V _ 2 ⟨withT KK o, withR RR (rl, rn)⟩ (HSV2.out.keepL (blank_to (Y := fun _ => False) (Kept.of_below (hbX.trans (hV.mono hbX.size))) (fun _ _ h => h.elim))) (by omega) t _ (HT.out.keep (hwX.trans (hV.mono hwX.size)).block) (free_with (by omega) HLAB.out (by have := HN3.out; show rl.length ≤ 100000; omega)) (pcs_with (by omega) (by omega))
        unfold schemeV at hcI1 hcI2 hcI3
        have HCI1 := Lib.hid hcI1
        have HCI2 := Lib.hid hcI2
        have HCI3 := Lib.hid hcI3
        have HCAP := Lib.hid hcAp
        have hap3 := ap_ins (only_with KK RR o (rl, rn)) HND.out.2.2.1 t HNI.out
        have HAP3 := Lib.hid hap3
        have HX := Lib.hid hX
        have HWX := Lib.hid hwX
        have hz0 : Below X.heap.size X X.drew := (Below.refl _ X).drew
        have hi3 : IntKind.i64.wrap (1000 + (nv : Int)) = 1000 + (nv : Int) := IntWalk.i64_in _ (by omega)
        have hi4 : IntKind.i64.wrap (1000 + (nv : Int) + (nr : Int)) = 1000 + (nv : Int) + (nr : Int) := IntWalk.i64_in _ (by omega)
        clear hcI1 hcI2 hcI3 hcAp hap3 hX lX lSX lTX l4X hid hb7X hbX hyX hWX hwX hb7 hlF z0 z1 z2 z3 z4 z5 z6 z7 hA1 hA2
        go_wp2_with fail
        rw [← HX.out]
        go_region_held3 (fun V => V.cell? ⟨P12, 0, none⟩ = some (.slice Av nv cv) ∧ V.cell? ⟨P12, 1, none⟩ = some (.slice Ar nr cr) ∧ V.cell? ⟨P12, 2, none⟩ = some (.int .i64 ks) ∧ V.cell? ⟨P12, 3, none⟩ = some (.string (ba nms)) ∧ V.cell? ⟨P12, 4, none⟩ = some (.int .i64 vs) ∧ V.cell? ⟨P12, 5, none⟩ = some (.slice A9 n9 c9) ∧ V.cell? ⟨P12, 6, none⟩ = some (.slice B9 m9 d9) ∧ V.cell? ⟨P12, 7, none⟩ = some (.int .i64 rs) ∧ V.cell? ⟨w.heap.size, 0, none⟩ = some (.int .i64 k1) ∧ V.cell? ⟨w.heap.size, 1, none⟩ = some (.string (ba nm1)) ∧ V.cell? ⟨w.heap.size, 2, none⟩ = some (.int .i64 v1) ∧ V.cell? ⟨w.heap.size, 3, none⟩ = some (.slice A1 n1 c1) ∧ V.cell? ⟨w.heap.size, 4, none⟩ = some (.slice B1 m1 d1) ∧ V.cell? ⟨w.heap.size, 5, none⟩ = some (.int .i64 rv1) ∧ V.cell? ⟨P13, 0, none⟩ = some (.slice D3 p3 e3) ∧ V.cell? ⟨P13, 1, none⟩ = some (.slice D4 p4 e4) ∧ V.cell? ⟨y7.heap.size, 0, none⟩ = some (.int .i64 kF) ∧ V.cell? ⟨y7.heap.size, 1, none⟩ = some (.string (ba nmF)) ∧ V.cell? ⟨y7.heap.size, 2, none⟩ = some (.int .i64 vF) ∧ V.cell? ⟨y7.heap.size, 3, none⟩ = some (.slice AF nF cF) ∧ V.cell? ⟨y7.heap.size, 4, none⟩ = some (.slice BF mF dF) ∧ V.cell? ⟨y7.heap.size, 5, none⟩ = some (.int .i64 rF))
          (first | with_reducible exact HSS.out _ hz0 | with_reducible exact HSS.out _ hq1 | with_reducible exact HSS.out _ hq2 | with_reducible exact HSS.out _ hq3 | with_reducible exact HSS.out _ hq4)
          (first | (go_at_call_of 27 (Value.slice A1 n1 c1); refine (HCI1.out _ hz0).mono ?_; rintro e ya ⟨rfl, hya⟩; have hq1 : Below X.heap.size X ya := hz0.trans (hya.mono hz0.size)) | (go_at_call_of 27 (Value.slice AF nF cF); refine (HCI2.out _ hq1).mono ?_; rintro e yb ⟨rfl, hyb⟩; have hq2 : Below X.heap.size X yb := hq1.trans (hyb.mono hq1.size)) | (go_at_call 19; refine (HCAP.out _ hq2).mono ?_; rintro e yc ⟨lG, rfl, hlG, hyc⟩; have hq3 : Below X.heap.size X yc := hq2.trans (hyc.mono hq2.size); rw [HAP3.out] at hlG; have htG := (hlG yc ⟨Nat.le_refl _, fun _ _ _ => rfl⟩).1; have HI3 := Lib.hid (HCI3.out yc lG hq3 htG); obtain ⟨kG, nmG, vG, AG, nG, cG, BG, mG, dG, rG, rfl⟩ := htG.trv.shp; unfold tyC at HI3 ⊢; clear htG hlG) | (go_at_call_of 27 (Value.slice AG nG cG); refine HI3.out.mono ?_; rintro e yd ⟨rfl, hyd⟩; have hq4 : Below X.heap.size X yd := hq3.trans (hyd.mono hq3.size)))
        go_wp2_with fail
        go_ret
        exact ⟨ret_bool (by simp), HWX.out.trans (hq4.mono HWX.out.size)⟩
end Go.Proofs.Ythdfomcpoofkaaa.Si
