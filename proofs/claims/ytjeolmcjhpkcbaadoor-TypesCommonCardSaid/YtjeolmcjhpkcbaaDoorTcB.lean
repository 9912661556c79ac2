/- The walk of the law TypesCommon. -/
import Derived.Test.YtjeolmcjhpkcbaaDoorTcA
import Derived.Test.YtjeolmcjhpkcbaaDoorTlA
import Derived.Outline
namespace Go.Proofs.YtjeolmcjhpkcbaaDoor
open Go.RowKit Go.Shelf Go.Sort

theorem less_get (v : Value) (L : List Str) (rv : Int) (s : Str) (W : World) (hv : Strs W v L) (hb : L.length ≤ 1000) :
    Calls Tryd.prog 20 #[.agg #[v, .int .i64 rv], .string (ba s)] W fun e w' => ∃ g c, e = .returned (.tuple #[.agg #[.slice (some ⟨g, 0, none⟩) (lessL L s).length c, .int .i64 rv], .bool (decide (s ∈ L))]) ∧ OwnS w' W.heap.size (.slice (some ⟨g, 0, none⟩) (lessL L s).length c) (lessL L s) ∧ Below W.heap.size W w' :=
  (lessRow_any v L rv s W hv hb).mono fun e w' ⟨v', h1, h2, h3⟩ => by
    obtain ⟨g, c, rfl⟩ := own_shape h2 rfl
    exact ⟨g, c, h1, h2, h3⟩
theorem add_get (v : Value) (K : List Str) (n : Nat) (hn : K.length = n) (rv : Int) (s : Str) (W0 W : World) (hv : Strs W v K) (hb : n ≤ 1000) (hW : Below W0.heap.size W0 W) :
    Calls Tryd.prog 19 #[.agg #[v, .int .i64 rv], .string (ba s)] W fun e w' => ∃ g c, e = .returned (.agg #[.slice (some ⟨g, 0, none⟩) (n + 1) c, .int .i64 rv]) ∧ Strs w' (.slice (some ⟨g, 0, none⟩) (n + 1) c) (sortS (K ++ [s])) ∧ Below W.heap.size W w' ∧ Below W0.heap.size W0 w' :=
  (add_any v K rv s W hv (by omega)).mono fun e w' ⟨v', h1, h2, h3⟩ => by
    obtain ⟨g, c, rfl⟩ := own_shape h2 (show _ = n + 1 by rw [add_len, hn])
    exact ⟨g, c, h1, h2.strs, h3, hW.trans (h3.mono hW.size)⟩
theorem less_ok' (L : List Str) (s : Str) : (lessL L s).length ≤ L.length := by rw [lessL_erase]; exact (List.erase_sublist).length_le
theorem four_cases (L : List Str) (a b : Str) : (a ∈ L ∧ b ∈ lessL L a ∧ b ∈ L ∧ a ∈ lessL L b) ∨ ((a ∉ L ∨ (a ∈ L ∧ b ∉ lessL L a)) ∧ (b ∉ L ∨ (b ∈ L ∧ a ∉ lessL L b))) := by
  have h := both_mem L a b
  by_cases h1 : a ∈ L <;> by_cases h2 : b ∈ lessL L a <;> by_cases h3 : b ∈ L <;> by_cases h4 : a ∈ lessL L b <;> simp [h1, h2, h3, h4] at h ⊢

set_option maxRecDepth 100000 in
set_option maxHeartbeats 8000000 in
theorem typesCommon_any (u : Value) (L : List Str) (rv : Int) (a b : Str) (w : World) (hv : Strs w u L) (hf : Fm u) :
    Calls Tryd.prog 9 #[.agg #[u, .int .i64 rv], .string (ba a), .string (ba b)] w (Yes w) := by
  have hv0 := hv
  obtain ⟨A, c, rfl, hlc, hm0⟩ := hv.slice
  have hl0 : L.length ≤ 9223372036854775807 := by unfold maxLen at hm0; omega
  have hbn0 := below_new w (.cells #[.slice A L.length c, .int .i64 rv] 25)
  have n0 := Lies.new w 25 #[.slice A L.length c, .int .i64 rv]
  clear hv hf
  go_enter Tryd.func9, Tryd.ntmps9
  go_wp2_with fail
  refine (shown_any _).mono ?_
  rintro e w2 ⟨rfl, hB1⟩
  have n1 := n0.later hB1
  have c0 := n1.cell 0
  have c1 := n1.cell 1
  have hB02 := hbn0.trans (hB1.mono hbn0.size)
  by_cases h20 : L.length ≤ 20
  · have h20i : ¬ (20 : Int) < (L.length : Int) := by omega
    have hst2 := hv0.later hB02
    have hr2 := rightRow_any _ L rv w2 hst2 (by omega)
    have HR2 := Lib.hid hr2
    have HV := Lib.hid hv0
    have HK2 := Lib.hid n1
    clear hr2 hst2 hv0 n0 n1 hbn0
    go_wp2_with fail
    refine HR2.out.mono ?_
    rintro e w3 ⟨rfl, hB3⟩
    have hB03 := hB02.trans (hB3.mono hB02.size)
    cases hok : rowOk L rv with
    | false =>
      clear hok
      go_wp2
      go_ret
      exact ⟨rfl, hB03⟩
    | true =>
      by_cases hsa : a = []
      · have hbs : (ba a).toList.isEmpty = true := by rw [ba_toList, hsa]; rfl
        clear hsa hok
        go_wp2
        go_ret
        exact ⟨rfl, hB03⟩
      · have hba : (ba a).toList.isEmpty = false := by rw [ba_toList]; cases a with | nil => exact absurd rfl hsa | cons _ _ => rfl
        by_cases hsb : b = []
        · have hbs : (ba b).toList.isEmpty = true := by rw [ba_toList, hsb]; rfl
          clear hsa hsb hok
          go_wp2
          go_ret
          exact ⟨rfl, hB03⟩
        · have hbb : (ba b).toList.isEmpty = false := by rw [ba_toList]; cases b with | nil => exact absurd rfl hsb | cons _ _ => rfl
          have k3 := HK2.out.later hB3
          have l1 := less_ok hok a
          have l2 := less_ok hok b
          have hg4 := less_get _ L rv a w3 (HV.out.later hB03) (by omega)
          have d0 := k3.cell 0
          have d1 := k3.cell 1
          have HG4 := Lib.hid hg4
          have HK3 := Lib.hid k3
          have HOK := Lib.hid hok
          have hlx : (lessL L a).length ≤ 20 := by omega
          have hly : (lessL L b).length ≤ 20 := by omega
          clear hg4 k3 hok hsa hsb c0 c1 l1 l2
          go_wp2_with fail
          refine HG4.out.mono ?_
          rintro e w4 ⟨g4, c4, rfl, ho4, hb4⟩
          obtain ⟨w5, hw5⟩ : ∃ w5, w5 = w4.alloc (.cells #[.slice (some ⟨g4, 0, none⟩) (lessL L a).length c4, .int .i64 rv] 25) := ⟨_, rfl⟩
          have hb5 : Below w4.heap.size w4 w5 := by rw [hw5]; exact below_new _ _
          have n5 : Lies w5 w4.heap.size 25 #[.slice (some ⟨g4, 0, none⟩) (lessL L a).length c4, .int .i64 rv] := by rw [hw5]; exact Lies.new _ _ _
          have hs5 : w5.heap.size = w4.heap.size + 1 := by rw [hw5]; simp
          have hg6 := less_get _ (lessL L a) rv b w5 (ho4.strs.later hb5) (by omega)
          have HG6 := Lib.hid hg6
          have HW5 := Lib.hid hw5
          have HN5 := Lib.hid n5
          have HS5 := Lib.hid hs5
          have hB35 := hb4.trans (hb5.mono hb4.size)
          have HB35 := Lib.hid hB35
          have HS34 := Lib.hid hb4.size
          clear hg6 n5 hw5 ho4 hb4 hb5 hs5 hB35
          go_wp2_with fail
          rw [← HW5.out]
          refine HG6.out.mono ?_
          rintro e w6 ⟨g6, c6, rfl, ho6, hb6⟩
          have n6 := HN5.out.later hb6
          have f0 := n6.free 0
          have f1 := n6.free 1
          have e0 := n6.cell 0
          have e1 := n6.cell 1
          have hs56 := hb6.size
          have hs5 := HS5.out
          have hs35 := HB35.out.size
          obtain ⟨w7, hw7⟩ : ∃ w7, w7 = (w6.setCell ⟨w4.heap.size, 0, none⟩ (.slice (some ⟨g6, 0, none⟩) (lessL (lessL L a) b).length c6)).setCell ⟨w4.heap.size, 1, none⟩ (.int .i64 rv) := ⟨_, rfl⟩
          have hs34 : w3.heap.size ≤ w4.heap.size := HS34.out
          have hB37 : Below w3.heap.size w3 w7 := by rw [hw7]; exact ((HB35.out.trans (hb6.mono hs35)).setCell (p := ⟨w4.heap.size, 0, none⟩) hs34 _).setCell (p := ⟨w4.heap.size, 1, none⟩) hs34 _
          have m7 : Lies w7 w4.heap.size 25 #[.slice (some ⟨g6, 0, none⟩) (lessL (lessL L a) b).length c6, .int .i64 rv] := by rw [hw7]; exact (n6.set 0 _).set 1 _
          have o7 : OwnS w7 w5.heap.size (.slice (some ⟨g6, 0, none⟩) (lessL (lessL L a) b).length c6) (lessL (lessL L a) b) := by
            rw [hw7]
            refine ho6.keep fun g hg _ => ?_
            rw [Below.heap_setCell _ _ _ _ (by show g ≠ w4.heap.size; omega), Below.heap_setCell _ _ _ _ (by show g ≠ w4.heap.size; omega)]
          have hB07 : Below w.heap.size w w7 := hB03.trans (hB37.mono hB03.size)
          have r7 := HK3.out.later hB37
          have hg8 := less_get _ L rv b w7 (HV.out.later hB07) (by omega)
          have y0 := r7.cell 0
          have y1 := r7.cell 1
          have HG8 := Lib.hid hg8
          have HW7 := Lib.hid hw7
          have HM7 := Lib.hid m7
          have HO7 := Lib.hid o7
          have HR7 := Lib.hid r7
          have HB07 := Lib.hid hB07
          have hwz : w5.heap.size ≤ w7.heap.size := by rw [hw7]; simp [World.setCell]; omega
          have HWZ := Lib.hid hwz
          rw [hw7] at y0 y1
          clear hg8 m7 o7 r7 hB07 hw7 hB37 n6 ho6 hs56 hs5 hs35 hs34 hwz
          go_wp2_with fail
          rw [← HW7.out]
          refine HG8.out.mono ?_
          rintro e w8 ⟨g8, c8, rfl, ho8, hb8⟩
          obtain ⟨w9, hw9⟩ : ∃ w9, w9 = w8.alloc (.cells #[.slice (some ⟨g8, 0, none⟩) (lessL L b).length c8, .int .i64 rv] 25) := ⟨_, rfl⟩
          have hb9 : Below w8.heap.size w8 w9 := by rw [hw9]; exact below_new _ _
          have n9 : Lies w9 w8.heap.size 25 #[.slice (some ⟨g8, 0, none⟩) (lessL L b).length c8, .int .i64 rv] := by rw [hw9]; exact Lies.new _ _ _
          have hs9 : w9.heap.size = w8.heap.size + 1 := by rw [hw9]; simp
          have hg10 := less_get _ (lessL L b) rv a w9 (ho8.strs.later hb9) (by omega)
          have hB79 : Below w7.heap.size w7 w9 := hb8.trans (hb9.mono hb8.size)
          have hs78 := hb8.size
          have HG10 := Lib.hid hg10
          have HW9 := Lib.hid hw9
          have HN9 := Lib.hid n9
          have HS9 := Lib.hid hs9
          have HS78 := Lib.hid hs78
          have HB79 := Lib.hid hB79
          clear hg10 n9 hw9 ho8 hb8 hb9 hs9 hB79 hs78 y0 y1 e0 e1 f0 f1
          go_wp2_with fail
          rw [← HW9.out]
          refine HG10.out.mono ?_
          rintro e w10 ⟨g10, c10, rfl, ho10, hb10⟩
          have n10 := HN9.out.later hb10
          have f0 := n10.free 0
          have f1 := n10.free 1
          have e0 := n10.cell 0
          have e1 := n10.cell 1
          have hs910 := hb10.size
          have hs9 := HS9.out
          have hs78 := HS78.out
          obtain ⟨w11, hw11⟩ : ∃ w11, w11 = (w10.setCell ⟨w8.heap.size, 0, none⟩ (.slice (some ⟨g10, 0, none⟩) (lessL (lessL L b) a).length c10)).setCell ⟨w8.heap.size, 1, none⟩ (.int .i64 rv) := ⟨_, rfl⟩
          have hB711 : Below w7.heap.size w7 w11 := by rw [hw11]; exact ((HB79.out.trans (hb10.mono (by omega))).setCell (p := ⟨w8.heap.size, 0, none⟩) hs78 _).setCell (p := ⟨w8.heap.size, 1, none⟩) hs78 _
          have m11 : Lies w11 w8.heap.size 25 #[.slice (some ⟨g10, 0, none⟩) (lessL (lessL L b) a).length c10, .int .i64 rv] := by rw [hw11]; exact (n10.set 0 _).set 1 _
          have sy : Strs w11 (.slice (some ⟨g10, 0, none⟩) (lessL (lessL L b) a).length c10) (lessL (lessL L b) a) := by
            rw [hw11]
            refine (ho10.keep fun g hg _ => ?_).strs
            rw [Below.heap_setCell _ _ _ _ (by show g ≠ w8.heap.size; omega), Below.heap_setCell _ _ _ _ (by show g ≠ w8.heap.size; omega)]
          have sx : Strs w11 (.slice (some ⟨g6, 0, none⟩) (lessL (lessL L a) b).length c6) (lessL (lessL L a) b) := HO7.out.strs.later hB711
          have hB011 : Below w.heap.size w w11 := HB07.out.trans (hB711.mono HB07.out.size)
          have sr : Strs w11 (.slice A L.length c) L := HV.out.later hB011
          have x11 := HM7.out.later hB711
          have r11 := HR7.out.later hB711
          have hS : w11.cell? ⟨w4.heap.size, 0, none⟩ = some (.slice (some ⟨g6, 0, none⟩) (lessL (lessL L a) b).length c6) ∧ w11.cell? ⟨w4.heap.size, 1, none⟩ = some (.int .i64 rv) ∧ w11.cell? ⟨w8.heap.size, 0, none⟩ = some (.slice (some ⟨g10, 0, none⟩) (lessL (lessL L b) a).length c10) ∧ w11.cell? ⟨w8.heap.size, 1, none⟩ = some (.int .i64 rv) ∧ w11.cell? ⟨w.heap.size, 0, none⟩ = some (.slice A L.length c) ∧ w11.cell? ⟨w.heap.size, 1, none⟩ = some (.int .i64 rv) := ⟨x11.cell 0, x11.cell 1, m11.cell 0, m11.cell 1, r11.cell 0, r11.cell 1⟩
          have HW11 := Lib.hid hw11
          have HS := Lib.hid hS
          clear n10 hs910 hs9 hs78 m11 x11 r11 hw11 hS hB711 ho10 hb10
          rcases four_cases L a b with ⟨h1, h2, h3, h4⟩ | ⟨h1 | ⟨h1, h2⟩, h3 | ⟨h3, h4⟩⟩
          · rw [decide_eq_true h1, decide_eq_true h2, decide_eq_true h3, decide_eq_true h4]
            have hxy : (lessL (lessL L a) b) = (lessL (lessL L b) a) := less_comm L a b
            have hbk := back_both HOK.out h1 h2
            clear h1 h2 h3 h4
            have hlX : (lessL (lessL L a) b).length ≤ 20 := Nat.le_trans (less_ok' _ _) hlx
            have hSm : ∀ W, Below w11.heap.size w11 W → Calls Tryd.prog 21 #[.agg #[.slice (some ⟨g6, 0, none⟩) (lessL (lessL L a) b).length c6, .int .i64 rv], .agg #[.slice (some ⟨g10, 0, none⟩) (lessL (lessL L b) a).length c10, .int .i64 rv]] W fun e w' => e = .returned (.bool true) ∧ Below w11.heap.size w11 w' := fun W hW => (sameRow_any _ _ (lessL (lessL L a) b) (lessL (lessL L b) a) rv rv W (sx.later hW) (sy.later hW) (by omega) (by rw [← hxy]; omega)).mono fun e w' h => ⟨by rw [h.1, hxy]; simp, hW.trans (h.2.mono hW.size)⟩
            have hSr : ∀ W K g c', Strs W (.slice (some ⟨g, 0, none⟩) ((lessL (lessL L a) b).length + 1 + 1) c') K → K = L → Below w11.heap.size w11 W → Calls Tryd.prog 21 #[.agg #[.slice (some ⟨g, 0, none⟩) ((lessL (lessL L a) b).length + 1 + 1) c', .int .i64 rv], .agg #[.slice A L.length c, .int .i64 rv]] W fun e w' => e = .returned (.bool true) ∧ Below w11.heap.size w11 w' := fun W K g c' hs hK hW => (sameRow_any _ _ K L rv rv W hs (sr.later hW) (by rw [hK]; omega) (by omega)).mono fun e w' h => ⟨by rw [h.1, hK]; simp, hW.trans (h.2.mono hW.size)⟩
            clear hxy
            go_wp2
            rw [← HW11.out]
            go_region_held3 (fun w' => w'.cell? ⟨w4.heap.size, 0, none⟩ = some (.slice (some ⟨g6, 0, none⟩) (lessL (lessL L a) b).length c6) ∧ w'.cell? ⟨w4.heap.size, 1, none⟩ = some (.int .i64 rv) ∧ w'.cell? ⟨w8.heap.size, 0, none⟩ = some (.slice (some ⟨g10, 0, none⟩) (lessL (lessL L b) a).length c10) ∧ w'.cell? ⟨w8.heap.size, 1, none⟩ = some (.int .i64 rv) ∧ w'.cell? ⟨w.heap.size, 0, none⟩ = some (.slice A L.length c) ∧ w'.cell? ⟨w.heap.size, 1, none⟩ = some (.int .i64 rv) ∧ Below w11.heap.size w11 w')
              (first | exact keepS HS.out (Below.refl _ _).drew | exact keepS HS.out b4 | exact keepS HS.out b3 | exact keepS HS.out b2 | exact keepS HS.out b1)
              (first | (go_at_call 21; refine (hSr _ _ _ _ hs3 hbk b3).mono ?_; rintro e v4 ⟨rfl, b4⟩) | (go_at_call 19; refine (add_get _ _ _ (add_len _ _) rv b w11 _ hs2 (by omega) b2).mono ?_; rintro e v3 ⟨g', c', rfl, hs3, _, b3⟩) | (go_at_call 19; refine (add_get _ (lessL (lessL L a) b) _ rfl rv a w11 _ (sx.later b1) (by omega) b1).mono ?_; rintro e v2 ⟨g2, c2, rfl, hs2, _, b2⟩) | (go_at_call 21; refine (hSm _ (Below.refl _ _).drew).mono ?_; rintro e v1 ⟨rfl, b1⟩))
            go_wp2
            go_ret
            exact ⟨rfl, hB011.trans (b4.mono hB011.size)⟩
          rw [decide_eq_false h1, decide_eq_false h3]
          rotate_left
          rw [decide_eq_false h1, decide_eq_true h3, decide_eq_false h4]
          rotate_left
          rw [decide_eq_true h1, decide_eq_false h2, decide_eq_false h3]
          rotate_left
          rw [decide_eq_true h1, decide_eq_false h2, decide_eq_true h3, decide_eq_false h4]
          rotate_left
          all_goals (
            have hcm := add_comm2 L a b
            have hRf : ∀ W K g c' g' c'', Strs W (.slice (some ⟨g, 0, none⟩) (L.length + 1 + 1) c') K → Strs W (.slice (some ⟨g', 0, none⟩) (L.length + 1 + 1) c'') K → K.length ≤ 1000 → Below w11.heap.size w11 W → Calls Tryd.prog 30 #[.agg #[.slice (some ⟨g, 0, none⟩) (L.length + 1 + 1) c', .int .i64 rv], .agg #[.slice (some ⟨g', 0, none⟩) (L.length + 1 + 1) c'', .int .i64 rv]] W fun e w' => e = .returned (.bool true) ∧ Below w11.heap.size w11 w' := fun W K g c' g' c'' h1 h2 hb hW => (refSame_any _ _ K rv W h1 h2 hb).mono fun e w' h => ⟨h.1, hW.trans (h.2.mono hW.size)⟩
            focus go_wp2
            rw [← HW11.out]
            focus go_region_held3 (fun w' => w'.cell? ⟨w4.heap.size, 0, none⟩ = some (.slice (some ⟨g6, 0, none⟩) (lessL (lessL L a) b).length c6) ∧ w'.cell? ⟨w4.heap.size, 1, none⟩ = some (.int .i64 rv) ∧ w'.cell? ⟨w8.heap.size, 0, none⟩ = some (.slice (some ⟨g10, 0, none⟩) (lessL (lessL L b) a).length c10) ∧ w'.cell? ⟨w8.heap.size, 1, none⟩ = some (.int .i64 rv) ∧ w'.cell? ⟨w.heap.size, 0, none⟩ = some (.slice A L.length c) ∧ w'.cell? ⟨w.heap.size, 1, none⟩ = some (.int .i64 rv) ∧ Below w11.heap.size w11 w')
              (first | exact keepS HS.out (Below.refl _ _).drew | exact keepS HS.out b5 | exact keepS HS.out b4 | exact keepS HS.out b3 | exact keepS HS.out b2 | exact keepS HS.out b1)
              (first | (go_at_call 30; refine (hRf _ _ _ _ _ _ ((hs2.later q3).later q4) (hcm ▸ hs4) (by rw [add_len, add_len]; omega) b4).mono ?_; rintro e v5 ⟨rfl, b5⟩) | (go_at_call 19; refine (add_get _ _ _ (add_len _ _) rv a w11 _ hs3 (by omega) b3).mono ?_; rintro e v4 ⟨g4', c4', rfl, hs4, q4, b4⟩) | (go_at_call 19; refine (add_get _ L _ rfl rv b w11 _ (sr.later b2) (by omega) b2).mono ?_; rintro e v3 ⟨g3, c3, rfl, hs3, q3, b3⟩) | (go_at_call 19; refine (add_get _ _ _ (add_len _ _) rv b w11 _ hs1 (by omega) b1).mono ?_; rintro e v2 ⟨g2, c2, rfl, hs2, q2, b2⟩) | (go_at_call 19; refine (add_get _ L _ rfl rv a w11 _ (sr.later (Below.refl _ _).drew) (by omega) (Below.refl _ _).drew).mono ?_; rintro e v1 ⟨g1, c1', rfl, hs1, q1, b1⟩))
            focus go_wp2
            go_ret
            exact ⟨rfl, hB011.trans (b5.mono hB011.size)⟩)
  · have h20i : (20 : Int) < (L.length : Int) := by omega
    go_wp2
    go_ret
    exact ⟨rfl, hB02⟩
end Go.Proofs.YtjeolmcjhpkcbaaDoor
