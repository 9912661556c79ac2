/- What must be in any case (schemes). -/
import Derived.Test.YthdfomcpoofkaaaMg40
import Derived.Test.YthdfomcpoofkaaaMg27
import Derived.Outline
namespace Go.Proofs.Ythdfomcpoofkaaa
open Go.RowKit

def tS : Ty := fnT8 (tvT8 1) (tvT8 2)
theorem list_one {l : List Int} (h : l.Nodup) (a : Int) (hm : ∀ n, n ∈ l ↔ n = a) : l = [a] := by
  match l, h with
  | [], _ => exact absurd ((hm a).2 rfl) (by simp)
  | [x], _ => rw [(hm x).1 (by simp)]
  | x :: y :: r, h =>
    have e1 := (hm x).1 (by simp)
    have e2 := (hm y).1 (by simp)
    rw [List.nodup_cons] at h
    exact absurd (by rw [e1, e2]; simp) h.1
theorem list_none {l : List Int} (hm : ∀ n, n ∉ l) : l = [] := List.eq_nil_iff_forall_not_mem.2 hm
theorem inK_tS (n : Int) : inK tS n ↔ n = 1 ∨ n = 2 := by simp [tS, fnT8, tvT8, inK, inKL]
theorem inR_tS (n : Int) : ¬ inR tS n := by simp [tS, fnT8, tvT8, inR, inRL]
theorem shown_types {K FK : List Int} {s : Nat} (h1 : Ext1 (inK tS) s [] K) (h2 : ∀ n, inK tS n → n ∈ K) (h3 : ∀ n, n ∈ FK ↔ AnyK [tvT8 2] n) : lessL K FK = [1] := by
  refine list_one ?_ 1 fun n => ?_
  · unfold lessL
    exact (h1.nod List.nodup_nil).filter _
  · rw [mem_lessL, h3]
    have h4 : n ∈ K ↔ n = 1 ∨ n = 2 := ⟨fun h => (inK_tS n).1 ((h1.mem n h).resolve_left (by simp)), fun h => h2 n ((inK_tS n).2 h)⟩
    have h5 : AnyK [tvT8 2] n ↔ n = 2 := by simp [AnyK, tvT8, inK, inKL]
    rw [h4, h5]
    omega
theorem shown_rows {R FR : List Int} {s : Nat} (h1 : Ext1 (inR tS) s [] R) : lessL R FR = [] := by
  refine list_none fun n hn => ?_
  rw [mem_lessL] at hn
  exact inR_tS n ((h1.mem n hn.1).resolve_left (by simp))
theorem apT_tS : apT (setF T0 1 (tvT8 7)) tS = fnT8 (tvT8 7) (tvT8 2) := by
  simp [tS, fnT8, tvT8, apT, apTL, insT, setF, T0]
theorem pcs_tS : pcsT (setF T0 1 (tvT8 7)) tS ≤ 1000 := by
  simp [tS, fnT8, tvT8, pcsT, pcsTL, insT, setF, T0, Ty.size, Ty.sizeL]
theorem pm_tS1 : pm [1] tS (fnT8 intT8 (tvT8 2)) = true := by
  simp [tS, fnT8, tvT8, intT8, pm, pmL, hdM]
theorem pm_tS2 : pm [1] tS (fnT8 intT8 intT8) = false := by
  simp [tS, fnT8, tvT8, intT8, pm, pmL, hdM]
theorem srt_nil : Rw.sortS [] = [] := by simp [Rw.sortS]
theorem ok_tS (u : Ty) (hu : u.size ≤ 1000) : InstOK [1] tS u := ⟨by simp [tS, fnT8, tvT8, Ty.size, Ty.sizeL], hu, by simp [tS, fnT8, tvT8, srtT, srtL, srt_nil], fun n hn => by rw [List.mem_singleton.1 hn]; simp [tS, fnT8, tvT8, occ, occL]⟩
theorem tfv_fn {w : World} {a b : Ty} {l : List Value} (h : TFV w (fnT8 a b) l) : ∃ g B m d, l = [.int .i64 5, .string (ba []), .int .i64 0, .slice (some ⟨g, 0, none⟩) 2 2, .slice B m d, .int .i64 0] ∧ TF w ⟨g, 0, none⟩ a := by
  have h0 := h
  obtain ⟨kv, lv, rfl, h1, h2, _, h4⟩ := h
  obtain ⟨B, m, d, rfl⟩ : ∃ A n c, lv = .slice A n c := by rcases h2.1 with ⟨rfl, _⟩ | ⟨_, _, rfl, _⟩ <;> exact ⟨_, _, _, rfl⟩
  rcases h1 with ⟨_, hz⟩ | ⟨g, rfl, _, _⟩
  · cases hz
  · refine ⟨g, B, m, d, rfl, ?_⟩
    have := h4 0 a rfl
    simpa [kidAt] using this
theorem tf_leaf {w : World} {g : Nat} {k n : Int} (h : TF w ⟨g, 0, none⟩ (.mk k [] n [] [] 0)) : w.cell? ⟨g, 2, none⟩ = some (.int .i64 n) := by
  obtain ⟨l, hr, kv, lv, rfl, _⟩ := h.openF
  have := hr 2 _ rfl
  simpa using this
set_option maxRecDepth 100000 in
set_option maxHeartbeats 40000000 in
theorem shown8_any (w : World) : Calls Try.prog 20 #[] w fun e w' => e = .returned (.bool true) ∧ Below w.heap.size w w' := by
  go_enter Try.func20, Try.ntmps20
  go_wp2_with fail
  refine (tvar8_any w 2).mono ?_
  rintro e w1 ⟨rfl, hb1⟩
  have H1 := Lib.hid hb1
  clear hb1
  go_wp2_with fail
  have ok7 := i64s 7 (by omega) (by omega)
  have ok2 := i64s 2 (by omega) (by omega)
  have ok1 := i64s 1 (by omega) (by omega)
  have ok0 := i64s 0 (by omega) (by omega)
  have OK := Lib.hid (And.intro ok7 (And.intro ok2 (And.intro ok1 ok0)))
  clear ok7 ok2 ok1 ok0
  have hba := bare_any w1 (tvT8 2) _ (leaf_tfv w1 7 2 OK.out.1 OK.out.2.1).trv (by simp [tvT8, Ty.size, Ty.sizeL])
  have HBA := Lib.hid hba
  clear hba
  refine HBA.out.mono ?_
  rintro e w2 ⟨l2, rfl, ht2, hb2⟩
  obtain ⟨k2, nm2, v2, A2, n2, c2, B2, m2, d2, r2, rfl⟩ := ht2.trv.shp
  unfold schemeV
  unfold tyC at ht2 ⊢
  have H2 := Lib.hid (H1.out.trans (hb2.mono H1.out.size))
  have HT2 := Lib.hid ht2
  clear hb2 ht2
  obtain ⟨X, hX⟩ : ∃ X, X = w2.alloc (.cells #[.slice none 0 0, .slice none 0 0, .int .i64 k2, .string (ba nm2), .int .i64 v2, .slice A2 n2 c2, .slice B2 m2 d2, .int .i64 r2] 62) := ⟨_, rfl⟩
  have hbX : Below w2.heap.size w2 X := by rw [hX]; exact below_new _ _
  have lX : Lies X w2.heap.size 62 #[.slice none 0 0, .slice none 0 0, .int .i64 k2, .string (ba nm2), .int .i64 v2, .slice A2 n2 c2, .slice B2 m2 d2, .int .i64 r2] := by rw [hX]; exact Lies.new _ _ _
  have HX := Lib.hid hX
  have HBX := Lib.hid hbX
  have HLX := Lib.hid lX
  clear hX hbX lX
  go_wp2_with fail
  rw [← HX.out]
  refine (tvar8_any X 1).mono ?_
  rintro e w3 ⟨rfl, hb3⟩
  have H3 := Lib.hid hb3
  clear hb3
  go_wp2_with fail
  refine (tvar8_any w3 2).mono ?_
  rintro e w4 ⟨rfl, hb4⟩
  have H4 := Lib.hid (H3.out.trans (hb4.mono H3.out.size))
  clear hb4
  have hfn := fun8_any w4 (tvT8 1) (tvT8 2) _ _ (leaf_tfv w4 7 1 OK.out.1 OK.out.2.2.1) (leaf_tfv w4 7 2 OK.out.1 OK.out.2.1)
  have HFN := Lib.hid hfn
  clear hfn
  go_wp2_with fail
  refine HFN.out.mono ?_
  rintro e w5 ⟨l5, g5, hl5, rfl, ht5, hb5⟩
  have H5 := Lib.hid (H4.out.trans (hb5.mono H4.out.size))
  have hge := generalE_any w5 (.slice (some ⟨w2.heap.size, 0, none⟩) 1 1) [tvT8 2] tS l5 ⟨_, 1, rfl, by simp, fun i t ht => by
    match i, ht with
    | 0, ht =>
      have e : t = tvT8 2 := by simpa using ht.symm
      subst e
      refine ⟨w2.heap.size, 0, _, rfl, HT2.out.keep (HBX.out.trans (H5.out.mono HBX.out.size)).block, fun j u hu => ?_⟩
      show w5.cell? ⟨w2.heap.size, 0 + 0 * 8 + j, none⟩ = some u
      rw [show 0 + 0 * 8 + j = j by omega, (HLX.out.later H5.out).cell]
      simpa using hu
    | i + 1, ht => simp at ht⟩ (by simp) (by simp [tvT8, Ty.size, Ty.sizeL]) ht5 (by simp [tS, fnT8, tvT8, Ty.size, Ty.sizeL])
  have HGE := Lib.hid hge
  subst hl5
  clear hge ht5 hb5
  go_wp2_with fail
  refine HGE.out.mono ?_
  rintro e w6 ⟨v1, v2', l6, FK, FR, K, R, rfl, ho1, ho2, ⟨ht6, htr6⟩, hx1, hx2, hf1, hf2, ⟨ha1, ha2⟩, hb6⟩
  rw [shown_types hx1 ha1 hf1] at ho1
  rw [shown_rows hx2] at ho2
  have hi1 := IntR.of_own ho1 (by intro n hn; rw [List.mem_singleton.1 hn]; exact OK.out.2.2.1)
  have hi2 := IntR.of_own ho2 (by simp)
  obtain ⟨Av, cv, rfl, hcv, _, hv⟩ := id hi1
  obtain ⟨_, gv, ov, rfl, xv⟩ := hv 0 1 rfl
  obtain ⟨Ar, cr, rfl, _⟩ := id hi2
  simp only [List.length_cons, List.length_nil, Nat.zero_add, Nat.add_zero] at xv hcv hi1 hi2 ⊢
  obtain ⟨ks, nms, vs, A9, n9, c9, B9, m9, d9, rs, rfl⟩ := ht6.trv.shp
  unfold schemeV
  unfold tyC at ht6 htr6 ⊢
  have H6 := Lib.hid ((HBX.out.trans (H5.out.mono HBX.out.size)).trans (hb6.mono (HBX.out.trans (H5.out.mono HBX.out.size)).size))
  have HI1 := Lib.hid hi1
  have HI2 := Lib.hid hi2
  have HT6 := Lib.hid ht6
  have HTR6 := Lib.hid htr6
  have HXV := Lib.hid xv
  clear ho1 ho2 hx1 hx2 hf1 hf2 ha1 ha2 hb6 hi1 hi2 ht6 htr6 xv hv
  obtain ⟨Y, hY⟩ : ∃ Y, Y = (w6.alloc (.cells #[.slice (some ⟨gv, ov, none⟩) 1 cv, .slice Ar 0 cr, .int .i64 ks, .string (ba nms), .int .i64 vs, .slice A9 n9 c9, .slice B9 m9 d9, .int .i64 rs] 62)).alloc (.cells #[.int .i64 1, .string ⟨#[]⟩, .int .i64 0, .slice none 0 0, .slice none 0 0, .int .i64 0] 28) := ⟨_, rfl⟩
  have hbY : Below w6.heap.size w6 Y := by rw [hY]; exact ((Below.refl _ w6).alloc (Nat.le_refl _) _).alloc (by simp) _
  have lY1 : Lies Y w6.heap.size 62 #[.slice (some ⟨gv, ov, none⟩) 1 cv, .slice Ar 0 cr, .int .i64 ks, .string (ba nms), .int .i64 vs, .slice A9 n9 c9, .slice B9 m9 d9, .int .i64 rs] := by rw [hY]; exact (Lies.new _ _ _).alloc _
  have lY2 : Lies Y (w6.heap.size + 1) 28 #[.int .i64 1, .string ⟨#[]⟩, .int .i64 0, .slice none 0 0, .slice none 0 0, .int .i64 0] := by rw [hY]; exact Lies.new' _ _ _ (by simp)
  have hfr := fresh1_any Y _ _ 1 7 OK.out.2.2.1 (by omega) (by omega) tS _ (HI1.out.later hbY) (HI2.out.later hbY) (HT6.out.keep hbY.block) pcs_tS
  unfold schemeV at hfr
  rw [apT_tS] at hfr
  have HFR := Lib.hid hfr
  have HY := Lib.hid hY
  have HBY := Lib.hid hbY
  have HL1 := Lib.hid lY1
  have HL2 := Lib.hid lY2
  clear hY hbY lY1 lY2 hfr
  go_wp2_with fail
  rw [← HY.out]
  refine HFR.out.mono ?_
  rintro e w7 ⟨l7, rfl, ht7, hb7⟩
  obtain ⟨gt, B7, m7, d7, rfl, htf7⟩ := tfv_fn ht7
  have x2 := tf_leaf htf7
  have hgt : gt < w7.heap.size := World.block_lt_of_cell? w7 _ x2
  obtain ⟨Z, hZ⟩ : ∃ Z, Z = w7.alloc (.cells #[.int .i64 5, .string (ba []), .int .i64 0, .slice (some ⟨gt, 0, none⟩) 2 2, .slice B7 m7 d7, .int .i64 0] 28) := ⟨_, rfl⟩
  have hb7Z : Below w7.heap.size w7 Z := by rw [hZ]; exact below_new _ _
  have lZ : Lies Z w7.heap.size 28 #[.int .i64 5, .string (ba []), .int .i64 0, .slice (some ⟨gt, 0, none⟩) 2 2, .slice B7 m7 d7, .int .i64 0] := by rw [hZ]; exact Lies.new _ _ _
  have hYZ : Below Y.heap.size Y Z := hb7.trans (hb7Z.mono hb7.size)
  have h6Z : Below w6.heap.size w6 Z := HBY.out.trans (hYZ.mono HBY.out.size)
  have m1 := HL1.out.later hYZ
  have m2 := HL2.out.later hYZ
  have xvZ := (h6Z.cell (p := ⟨gv, ov, none⟩) (World.block_lt_of_cell? w6 _ HXV.out)).trans HXV.out
  have x2Z := (hb7Z.cell (p := ⟨gt, 2, none⟩) hgt).trans x2
  have hSS : ∀ V, Below Z.heap.size Z V → (fun V => (V.cell? ⟨w6.heap.size, 0, none⟩ = some (.slice (some ⟨gv, ov, none⟩) 1 cv) ∧ V.cell? ⟨w6.heap.size, 1, none⟩ = some (.slice Ar 0 cr) ∧ V.cell? ⟨w6.heap.size, 2, none⟩ = some (.int .i64 ks) ∧ V.cell? ⟨w6.heap.size, 3, none⟩ = some (.string (ba nms)) ∧ V.cell? ⟨w6.heap.size, 4, none⟩ = some (.int .i64 vs) ∧ V.cell? ⟨w6.heap.size, 5, none⟩ = some (.slice A9 n9 c9) ∧ V.cell? ⟨w6.heap.size, 6, none⟩ = some (.slice B9 m9 d9) ∧ V.cell? ⟨w6.heap.size, 7, none⟩ = some (.int .i64 rs)) ∧ (V.cell? ⟨w6.heap.size + 1, 0, none⟩ = some (.int .i64 1) ∧ V.cell? ⟨w6.heap.size + 1, 1, none⟩ = some (.string ⟨#[]⟩) ∧ V.cell? ⟨w6.heap.size + 1, 2, none⟩ = some (.int .i64 0) ∧ V.cell? ⟨w6.heap.size + 1, 3, none⟩ = some (.slice none 0 0) ∧ V.cell? ⟨w6.heap.size + 1, 4, none⟩ = some (.slice none 0 0) ∧ V.cell? ⟨w6.heap.size + 1, 5, none⟩ = some (.int .i64 0)) ∧ V.cell? ⟨w7.heap.size, 3, none⟩ = some (.slice (some ⟨gt, 0, none⟩) 2 2) ∧ V.cell? ⟨gv, ov, none⟩ = some (.int .i64 1) ∧ V.cell? ⟨gt, 2, none⟩ = some (.int .i64 7)) V := fun V hV => by
    have a1 := m1.later hV
    have a2 := m2.later hV
    exact ⟨⟨a1.cell 0, a1.cell 1, a1.cell 2, a1.cell 3, a1.cell 4, a1.cell 5, a1.cell 6, a1.cell 7⟩, ⟨a2.cell 0, a2.cell 1, a2.cell 2, a2.cell 3, a2.cell 4, a2.cell 5⟩, (lZ.later hV).cell 3, (hV.cell (p := ⟨gv, ov, none⟩) (World.block_lt_of_cell? Z _ xvZ)).trans xvZ, (hV.cell (p := ⟨gt, 2, none⟩) (World.block_lt_of_cell? Z _ x2Z)).trans x2Z⟩
  have HSS := Lib.hid hSS
  have H6Z := Lib.hid h6Z
  have HZ := Lib.hid hZ
  have hd : Below Z.heap.size Z Z.drew := (Below.refl _ _).drew
  have hin := fun x (hx : Below Z.heap.size Z x) (u : Ty) (lu : List Value) (hu : TRV x u lu) (hus : u.size ≤ 1000) => instance_any x _ _ [1] tS u _ lu (HI1.out.later (H6Z.out.trans (hx.mono H6Z.out.size))) (by simp) (HI2.out.later (H6Z.out.trans (hx.mono H6Z.out.size))) (HT6.out.keep (H6Z.out.trans (hx.mono H6Z.out.size)).block) ⟨_, HTR6.out.kept (below_kept (H6Z.out.trans (hx.mono H6Z.out.size)) _)⟩ hu (ok_tS u hus)
  unfold schemeV at hin
  have HIN := Lib.hid hin
  clear hb7Z lZ hYZ h6Z m1 m2 xvZ x2Z hSS hin hZ ht7 hb7 htf7 x2
  go_wp2_with fail
  rw [← HZ.out]
  go_region_held3 (fun V => (V.cell? ⟨w6.heap.size, 0, none⟩ = some (.slice (some ⟨gv, ov, none⟩) 1 cv) ∧ V.cell? ⟨w6.heap.size, 1, none⟩ = some (.slice Ar 0 cr) ∧ V.cell? ⟨w6.heap.size, 2, none⟩ = some (.int .i64 ks) ∧ V.cell? ⟨w6.heap.size, 3, none⟩ = some (.string (ba nms)) ∧ V.cell? ⟨w6.heap.size, 4, none⟩ = some (.int .i64 vs) ∧ V.cell? ⟨w6.heap.size, 5, none⟩ = some (.slice A9 n9 c9) ∧ V.cell? ⟨w6.heap.size, 6, none⟩ = some (.slice B9 m9 d9) ∧ V.cell? ⟨w6.heap.size, 7, none⟩ = some (.int .i64 rs)) ∧ (V.cell? ⟨w6.heap.size + 1, 0, none⟩ = some (.int .i64 1) ∧ V.cell? ⟨w6.heap.size + 1, 1, none⟩ = some (.string ⟨#[]⟩) ∧ V.cell? ⟨w6.heap.size + 1, 2, none⟩ = some (.int .i64 0) ∧ V.cell? ⟨w6.heap.size + 1, 3, none⟩ = some (.slice none 0 0) ∧ V.cell? ⟨w6.heap.size + 1, 4, none⟩ = some (.slice none 0 0) ∧ V.cell? ⟨w6.heap.size + 1, 5, none⟩ = some (.int .i64 0)) ∧ V.cell? ⟨w7.heap.size, 3, none⟩ = some (.slice (some ⟨gt, 0, none⟩) 2 2) ∧ V.cell? ⟨gv, ov, none⟩ = some (.int .i64 1) ∧ V.cell? ⟨gt, 2, none⟩ = some (.int .i64 7))
    (first | with_reducible exact HSS.out _ hd | with_reducible exact HSS.out _ hq1 | with_reducible exact HSS.out _ hq2 | with_reducible exact HSS.out _ hq3 | with_reducible exact HSS.out _ hq4 | with_reducible exact HSS.out _ hq5)
    (first | (go_at_call 27; refine (HIN.out y4 hq4 _ _ HT4.out.trv (by simp [fnT8, intT8, Ty.size, Ty.sizeL])).mono ?_; rw [pm_tS2]; rintro e y5 ⟨rfl, hy5⟩; have hq5 : Below Z.heap.size Z y5 := hq4.trans (hy5.mono hq4.size)) | (go_at_call 44; refine (fun8_any y3 intT8 intT8 _ _ (leaf_tfv y3 1 0 OK.out.2.2.1 OK.out.2.2.2) (leaf_tfv y3 1 0 OK.out.2.2.1 OK.out.2.2.2)).mono ?_; rintro e y4 ⟨l4, g4, hl4, rfl, ht4, hy4⟩; have HT4 := Lib.hid ht4; subst hl4; have hq4 : Below Z.heap.size Z y4 := hq3.trans (hy4.mono hq3.size); clear ht4) | (go_at_call 27; refine (HIN.out y2 hq2 _ _ HT2'.out.trv (by simp [fnT8, intT8, tvT8, Ty.size, Ty.sizeL])).mono ?_; rw [pm_tS1]; rintro e y3 ⟨rfl, hy3⟩; have hq3 : Below Z.heap.size Z y3 := hq2.trans (hy3.mono hq2.size)) | (go_at_call 44; refine (fun8_any y1 intT8 (tvT8 2) _ _ (leaf_tfv y1 1 0 OK.out.2.2.1 OK.out.2.2.2) (leaf_tfv y1 7 2 OK.out.1 OK.out.2.1)).mono ?_; rintro e y2 ⟨l2', g2', hl2, rfl, ht2', hy2⟩; have HT2' := Lib.hid ht2'; subst hl2; have hq2 : Below Z.heap.size Z y2 := hq1.trans (hy2.mono hq1.size); clear ht2') | (go_at_call 43; refine (tvar8_any Z.drew 2).mono ?_; rintro e y1 ⟨rfl, hy1⟩; have hq1 : Below Z.heap.size Z y1 := hd.trans (hy1.mono hd.size)))
  go_wp2_with fail
  go_ret
  have h26 := H2.out.trans (H6.out.mono H2.out.size)
  have h2Z := h26.trans (H6Z.out.mono h26.size)
  exact ⟨ret_bool (by simp), h2Z.trans (hq5.mono h2Z.size)⟩
end Go.Proofs.Ythdfomcpoofkaaa
