/- The machine of package source: pairs of pairs, told whole: the walk. -/
import Derived.Test.YtmodmojocclmaaaGreatDoorMg38
namespace Go.Proofs.YtmodmojocclmaaaGreatDoor.K
open Go Go.RowKit
namespace So

set_option maxRecDepth 100000 in
set_option maxHeartbeats 8000000 in
theorem whole_valP (v : Int) : ∀ (n : Nat) (w : World) {H : Mem} {N : Nat} (l : List Value), Sub H w → VV H N (valP v n) l → Calls Tryz.prog 44 #[.agg l.toArray] w (WhEnd w (whole (valP v n))) := by
 intro n
 induction n with
 | zero =>
  intro w H N l hs hv
  unfold valP at hv
  cases hv
  refine (whole_lit w 1 v).mono fun e w' h => ?_
  obtain ⟨rfl, hb⟩ := h
  have e2 : whole (valP v 0) = .mk 1 v [] [] := by unfold valP whole; rfl
  rw [e2]
  exact WhEnd.lit 1 v hb
 | succ n ih =>
  intro w H N l hs hv
  obtain ⟨b, g, o, c, hc2, rfl, hr, hk⟩ := pair_kids hv
  obtain ⟨iv, hiv, hiz, his, hib⟩ := infoV
  obtain ⟨va, hva⟩ : ∃ a, a = whole (valP v n) := ⟨_, rfl⟩
  have hwh : whole (valP v (n + 1)) = .mk 4 0 [80] [va, va] := by
   rw [hva]
   show whole (.con [80] [valP v n, valP v n]) = _
   rw [whole]
   unfold wholeL wholeL wholeL
   rfl
  rw [hwh]
  have HIH := Lib.hid ih
  have HVA := Lib.hid hva
  have HKD := Lib.hid (fun V (hV : Sub H V) => kids_con V hV hr)
  have HAL := Lib.hid (fun V (hV : Sub H V) => alone_con V hV hr)
  have HK := Lib.hid hk
  have HS := Lib.hid hs
  clear ih hv hr hk hs hwh hva
  obtain ⟨W0, hW0⟩ : ∃ W0, W0 = (w.alloc (.cells #[.int .i64 4, .int .i64 0, .pointer (some ⟨b, 0, none⟩), .nilIface] 68)).alloc (.cells #[.int .i64 0, .int .i64 0, .string ⟨#[]⟩, .slice none 0 0] 38) := ⟨_, rfl⟩
  have hz0 : W0.heap.size = w.heap.size + 1 + 1 := by rw [hW0]; simp
  have hB0 : Below w.heap.size w W0 := by rw [hW0]; exact ((Below.refl _ _).alloc (Nat.le_refl _) _).alloc (by simp) _
  have lb0 : Lies W0 w.heap.size 68 #[.int .i64 4, .int .i64 0, .pointer (some ⟨b, 0, none⟩), .nilIface] := by rw [hW0]; exact (Lies.new w _ _).alloc _
  have lz0 : Lies W0 (w.heap.size + 1) 38 #[.int .i64 0, .int .i64 0, .string ⟨#[]⟩, .slice none 0 0] := by
   rw [hW0]
   have := Lies.new (w.alloc (.cells #[.int .i64 4, .int .i64 0, .pointer (some ⟨b, 0, none⟩), .nilIface] 68)) 38 #[.int .i64 0, .int .i64 0, .string ⟨#[]⟩, .slice none 0 0]
   simpa using this
  have HW0 := Lib.hid hW0
  have HA := Lib.hid (HAL.out W0 (HS.out.below hB0))
  unfold conL pt vtN at *
  go_enter Tryz.func44, Tryz.ntmps44
  clear hW0
  go_wp2_with fail
  rw [← HW0.out]
  refine HA.out.mono ?_
  rintro e w1 ⟨rfl, hb1⟩
  have lb1 : Lies w1 w.heap.size 68 #[.int .i64 4, .int .i64 0, .pointer (some ⟨b, 0, none⟩), .nilIface] := (hb1.block _ (by omega)).trans lb0
  have lz1 : Lies w1 (w.heap.size + 1) 38 #[.int .i64 0, .int .i64 0, .string ⟨#[]⟩, .slice none 0 0] := (hb1.block _ (by omega)).trans lz0
  have hs1 := hb1.size
  have p0 : w1.cell? ⟨w.heap.size, 0, none⟩ = some (.int .i64 4) := lb1.cell 0
  have p1 : w1.cell? ⟨w.heap.size, 1, none⟩ = some (.int .i64 0) := lb1.cell 1
  have p2 : w1.cell? ⟨w.heap.size, 2, none⟩ = some (.pointer (some ⟨b, 0, none⟩)) := lb1.cell 2
  have p3 : w1.cell? ⟨w.heap.size, 3, none⟩ = some .nilIface := lb1.cell 3
  have lba := lb1.alloc (.cells #[.int .i64 4, .int .i64 0, .string (ba [80]), .slice none 0 0] 38)
  have a0 : (w1.alloc (.cells #[.int .i64 4, .int .i64 0, .string (ba [80]), .slice none 0 0] 38)).cell? ⟨w.heap.size, 0, none⟩ = some (.int .i64 4) := lba.cell 0
  have a1 : (w1.alloc (.cells #[.int .i64 4, .int .i64 0, .string (ba [80]), .slice none 0 0] 38)).cell? ⟨w.heap.size, 1, none⟩ = some (.int .i64 0) := lba.cell 1
  have a2 : (w1.alloc (.cells #[.int .i64 4, .int .i64 0, .string (ba [80]), .slice none 0 0] 38)).cell? ⟨w.heap.size, 2, none⟩ = some (.pointer (some ⟨b, 0, none⟩)) := lba.cell 2
  have a3 : (w1.alloc (.cells #[.int .i64 4, .int .i64 0, .string (ba [80]), .slice none 0 0] 38)).cell? ⟨w.heap.size, 3, none⟩ = some .nilIface := lba.cell 3
  have B01 : Below w.heap.size w w1 := hB0.trans (hb1.mono (by omega))
  have HKK := Lib.hid (HKD.out (w1.alloc (.cells #[.int .i64 4, .int .i64 0, .string (ba [80]), .slice none 0 0] 38)) ((HS.out.below B01).alloc _))
  have HB01 := Lib.hid B01
  have HZ1 := Lib.hid (show w.heap.size + 1 + 1 ≤ w1.heap.size by omega)
  have LZ := Lib.hid lz1
  clear hb1 lb1 lba lz1 lb0 lz0 B01 hB0 hz0 hs1
  go_wp2_with fail
  refine HKK.out.mono ?_
  rintro e w2 ⟨rfl, hb2⟩
  have HB2 := Lib.hid hb2
  clear hb2
  go_wp2_with fail
  obtain ⟨ob, hob⟩ : ∃ ob, ob = w1.heap.size := ⟨_, rfl⟩
  have HOB := Lib.hid hob
  rw [← HOB.out]
  clear hob
  go_loopw [11] (fun x wr => WhRel va w1 ob (ba [80]) x wr) (fun x _ => 2 - (intOf x).toNat)
  case atStart =>
   refine ⟨0, none, 0, 0, fun _ => none, [], by omega, rfl, rfl, ?_, World.ownsRow_nil _ _ _ _, (fun b o h => by cases h), (fun b o h => by cases h), (fun l h => by cases h), ?_⟩
   ·rw [HOB.out]; exact (HB2.out.block _ (by simp)).trans (Lies.new w1 _ _)
   ·rw [HOB.out]; exact (below_new w1 _).trans (HB2.out.mono (by simp))
  case round =>
   have HREL := Lib.hid hrel
   obtain ⟨q, A, m, ca, R, L, hq, rfl, hLL, hl, hown, hsr, hR, hvl, hk1⟩ := hrel
   have HL := Lib.hid hl
   have HOWR := Lib.hid hown
   have HSR := Lib.hid hsr
   have HRR := Lib.hid hR
   have HVV := Lib.hid hvl
   have HK1 := Lib.hid hk1
   have HLL := Lib.hid hLL
   have HZO := Lib.hid (show ob < w1.heap.size ∨ ob = w1.heap.size from .inr HOB.out)
   have hbw : Below w.heap.size w wr := HB01.out.trans (hk1.mono (by have := HZ1.out; have := HOB.out; omega))
   have HBW := Lib.hid hbw
   clear hl hown hsr hR hvl hk1 hLL hbw
   by_cases hlt : q < 2
   ·obtain ⟨k', n', c', hvk, hrk⟩ := HK.out q hlt
    have hsw : Sub H wr := HS.out.below HBW.out
    have y0 : wr.cell? ⟨g, o + q * 4, none⟩ = some (.int .i64 k') := (hrk 0 _ rfl).cell hsw
    have y1 : wr.cell? ⟨g, o + q * 4 + 1, none⟩ = some (.int .i64 n') := (hrk 1 _ rfl).cell hsw
    have y2 : wr.cell? ⟨g, o + q * 4 + 2, none⟩ = some (.pointer c') := (hrk 2 _ rfl).cell hsw
    have y3 : wr.cell? ⟨g, o + q * 4 + 3, none⟩ = some .nilIface := (hrk 3 _ rfl).cell hsw
    have hqi : (q : Int) < 2 := by omega
    have hqc : q < c := by omega
    have HCA := Lib.hid (show ∀ V, Below w.heap.size w V → Calls Tryz.prog 44 #[.agg [.int .i64 k', .int .i64 n', .pointer c', .nilIface].toArray] V (WhEnd V va) from fun V hV => by rw [HVA.out]; exact HIH.out V (H := H) (N := N) _ (HS.out.below hV) hvk)
    obtain ⟨W4, hW4⟩ : ∃ W, W = wr.alloc (.cells #[.int .i64 k', .int .i64 n', .pointer c', .nilIface] 68) := ⟨_, rfl⟩
    have HB4 := Lib.hid (show Below wr.heap.size wr W4 by rw [hW4]; exact below_new wr _)
    have HZW := Lib.hid (show W4.heap.size = wr.heap.size + 1 by rw [hW4]; simp)
    have HZ4 := Lib.hid (show wr.heap.size ≤ W4.heap.size by rw [hW4]; simp)
    have L4 := Lib.hid (show Lies W4 wr.heap.size 68 #[.int .i64 k', .int .i64 n', .pointer c', .nilIface] by rw [hW4]; exact Lies.new wr _ _)
    have HBD := Lib.hid (show Below w.heap.size w W4.drew from (HBW.out.trans (HB4.out.mono HBW.out.size)).drew)
    have HSS := Lib.hid (show ∀ V : World, Below W4.heap.size W4 V → (V.cell? ⟨ob, 3, none⟩ = some (.slice A m ca) ∧ V.cell? ⟨wr.heap.size, 0, none⟩ = some (.int .i64 k') ∧ V.cell? ⟨wr.heap.size, 1, none⟩ = some (.int .i64 n') ∧ V.cell? ⟨wr.heap.size, 2, none⟩ = some (.pointer c') ∧ V.cell? ⟨wr.heap.size, 3, none⟩ = some .nilIface) from fun V hV => by
     have h1 : Lies V ob 38 #[.int .i64 4, .int .i64 0, .string (ba [80]), .slice A m ca] := (hV.block _ (by have := HL.out.lt; have := HZ4.out; omega)).trans ((HB4.out.block _ HL.out.lt).trans HL.out)
     have h2 : Lies V wr.heap.size 68 #[.int .i64 k', .int .i64 n', .pointer c', .nilIface] := (hV.block _ (by have := HZW.out; omega)).trans L4.out
     exact ⟨h1.cell 3, h2.cell 0, h2.cell 1, h2.cell 2, h2.cell 3⟩)
    have HOW := Lib.hid (show ∀ V : World, Below W4.heap.size W4 V → V.ownsRow (ob + 1) 38 4 (.slice A m ca) q L.flatten from fun V hV => own_later (own_later HOWR.out HB4.out) hV)
    have HW4 := Lib.hid hW4
    clear hvk hrk hsw hW4
    focus
     go_wp2_with fail
     rw [← HW4.out]
     refine TillLast.start (S := fun VV => VV.cell? ⟨ob, 3, none⟩ = some (.slice A m ca) ∧ VV.cell? ⟨wr.heap.size, 0, none⟩ = some (.int .i64 k') ∧ VV.cell? ⟨wr.heap.size, 1, none⟩ = some (.int .i64 n') ∧ VV.cell? ⟨wr.heap.size, 2, none⟩ = some (.pointer c') ∧ VV.cell? ⟨wr.heap.size, 3, none⟩ = some .nilIface) (z := 7) (by kernel_rfl) ?_
     have hS : W4.drew.cell? ⟨ob, 3, none⟩ = some (.slice A m ca) ∧ W4.drew.cell? ⟨wr.heap.size, 0, none⟩ = some (.int .i64 k') ∧ W4.drew.cell? ⟨wr.heap.size, 1, none⟩ = some (.int .i64 n') ∧ W4.drew.cell? ⟨wr.heap.size, 2, none⟩ = some (.pointer c') ∧ W4.drew.cell? ⟨wr.heap.size, 3, none⟩ = some .nilIface := HSS.out _ (Below.refl _ _).drew
     refine TillLast.take (i := 0) (oi := ⟨some 15, _, _, _, _, _⟩) (v := ?_) rfl (by kernel_rfl) (by kernel_rfl) (by kernel_rfl) (by kernel_rfl) (by decide) (by kernel_rfl) (fun _ _ _ h => h) (Or.inl ⟨by kernel_rfl, ?_⟩) hS ?_
     rotate_left
     ·(intro w' hSw; (try dsimp only at hSw); go_split_ands; go_simp; first | done | with_reducible rfl)
     try simp only [Act.put, List.setIfInBounds_toArray, List.set_cons_zero, List.set_cons_succ]
     refine TillLast.take (i := 1) (oi := ⟨some 16, _, _, _, _, _⟩) (v := ?_) rfl (by kernel_rfl) (by kernel_rfl) (by kernel_rfl) (by kernel_rfl) (by decide) (by kernel_rfl) (fun _ _ _ h => h) (Or.inl ⟨by kernel_rfl, ?_⟩) hS ?_
     rotate_left
     ·(intro w' hSw; (try dsimp only at hSw); go_split_ands; go_simp; first | done | with_reducible rfl)
     try simp only [Act.put, List.setIfInBounds_toArray, List.set_cons_zero, List.set_cons_succ]
     refine TillLast.take (i := 2) (oi := ⟨some 17, _, _, _, _, _⟩) (v := ?_) rfl (by kernel_rfl) (by kernel_rfl) (by kernel_rfl) (by kernel_rfl) (by decide) (by kernel_rfl) (fun _ _ _ h => h) (Or.inl ⟨by kernel_rfl, ?_⟩) hS ?_
     rotate_left
     ·(intro w' hSw; (try dsimp only at hSw); go_split_ands; go_simp; first | done | with_reducible rfl)
     try simp only [Act.put, List.setIfInBounds_toArray, List.set_cons_zero, List.set_cons_succ]
     refine TillLast.ready (rs := [3]) (by kernel_rfl) (by simp) ?_
     refine NextAll.cons (o := ⟨some 18, _, _, _, _, _⟩) rfl (fun K hK => ?_) NextAll.nil
     go_simp
     refine (HCA.out W4.drew HBD.out).mono ?_
     rintro e w5 ⟨R5, l5, rfl, hs5, hr5, hv5, hb5'⟩
     have hb5 : Below W4.heap.size W4 w5 := ((Below.refl _ _).drew).trans (hb5'.mono (by simp))
     obtain ⟨k5, n5, s5, A5, m5, c5, e5⟩ := hv5.form
     have HB5 := Lib.hid hb5
     have HE5 := Lib.hid (show l5.length = 4 by rw [e5]; rfl)
     have HO5 := Lib.hid (show ∀ u ∈ l5, u.oneCell' = true by rw [e5]; intro u hu; simp at hu; rcases hu with rfl | rfl | rfl | rfl <;> rfl)
     have HS5 := Lib.hid hs5
     have HR5 := Lib.hid hr5
     have HV5 := Lib.hid hv5
     have HF5 := Lib.hid (show Instr.fill (fun i => some (i * 4, 4)) ((Array.range (1 * 4)).map ((Value.agg (vtL 0 0)).cells[· % (Value.agg (vtL 0 0)).cells.size]!)) [(0, Value.agg l5.toArray)] = some l5.toArray from fill_row (sz := 4) (by decide) l5 HE5.out _ (by simp))
     clear hs5 hr5 hv5 hb5 hb5' e5
     (try dsimp only)
     refine hK.out _ _ (fun _ => HSS.out _ HB5.out) ?_
     clear hK K
     try simp only [Act.put, List.setIfInBounds_toArray, List.set_cons_zero, List.set_cons_succ]
     refine TillLast.ready (rs := [4]) (by kernel_rfl) (by simp) ?_
     refine NextAll.cons (o := ⟨some 19, _, _, _, _, _⟩) rfl (fun K hK => ?_) NextAll.nil
     rw [if_pos (by kernel_rfl)]
     refine wp_buildSlice 36 38 1 _ rfl l5.toArray iv (.agg (vtL 0 0)) Tryz.underlying36 hiv hiz (by rw [his]; decide) (by rw [his]; decide) (by rw [his, Array.toList_map]; exact HF5.out) ?_
     refine hK.out _ _ (fun _ => HSS.out _ (HB5.out.alloc HB5.out.size _)) ?_
     clear hK K
     try simp only [Act.put, List.setIfInBounds_toArray, List.set_cons_zero, List.set_cons_succ]
     refine TillLast.ready (rs := [5]) (by kernel_rfl) (by simp) ?_
     refine NextAll.cons (o := ⟨some 20, _, _, _, _, _⟩) rfl (fun K hK => ?_) NextAll.nil
     rw [if_pos (by kernel_rfl)]
     refine wp_append_at (.tmp 16) (.tmp 19) 36 rfl (ob + 1) 38 iv (.agg (vtL 0 0)) 4 56 Tryz.underlying36 hiv hiz his hib rfl (by decide) (.slice A m ca) q L.flatten rfl (HOW.out _ (HB5.out.alloc HB5.out.size _)) ⟨w5.heap.size, 0, none⟩ 1 1 l5 rfl (by rw [HE5.out]) (new_row w5 l5 38) HO5.out (by unfold maxLen; omega) (by omega) (by have := HZ4.out; have := HB5.out.size; have := HL.out.lt; simp; omega) rfl ?_
     intro v6 w6 hown6 hgr6 hat6
     obtain ⟨A6, m6, c6, rfl⟩ := own_slice hown6
     have HN := Lib.hid (wh_next hlt HLL.out HZO.out HL.out HOWR.out HSR.out HRR.out HVV.out HK1.out HB4.out HZ4.out HB5.out HS5.out HR5.out HV5.out (.cells l5.toArray 38) hown6 hgr6 hat6)
     have HL6 := Lib.hid (show Lies w6 ob 38 #[.int .i64 4, .int .i64 0, .string (ba [80]), .slice A m ca] from (hgr6.block ob (by have := HZ4.out; have := HB5.out.size; have := HL.out.lt; simp; omega) (fun e => by have := own_block HOWR.out ob e.symm; omega)).trans ((Below.heap_alloc _ _ _ (by have := HZ4.out; have := HB5.out.size; have := HL.out.lt; omega)).trans ((HB5.out.block _ (by have := HZ4.out; have := HL.out.lt; omega)).trans ((HB4.out.block _ HL.out.lt).trans HL.out))))
     have HS6 := Lib.hid (show w6.cell? ⟨ob, 3, none⟩ = some (.slice A m ca) ∧ w6.cell? ⟨wr.heap.size, 0, none⟩ = some (.int .i64 k') ∧ w6.cell? ⟨wr.heap.size, 1, none⟩ = some (.int .i64 n') ∧ w6.cell? ⟨wr.heap.size, 2, none⟩ = some (.pointer c') ∧ w6.cell? ⟨wr.heap.size, 3, none⟩ = some .nilIface from by
      have hown := own_block HOWR.out
      have hzz := HZ4.out
      have hbs := HB5.out.size
      have hx := HSS.out _ (HB5.out.alloc HB5.out.size (.cells l5.toArray 38))
      have hz2 := HZW.out
      have hc : ∀ i : Nat, w6.cell? ⟨wr.heap.size, i, none⟩ = (w5.alloc (.cells l5.toArray 38)).cell? ⟨wr.heap.size, i, none⟩ := fun i => World.cell?_of_block (hgr6.block _ (by simp; omega) (fun e => by have h9 : wr.heap.size < wr.heap.size := (hown _ e.symm).2; omega))
      exact ⟨HL6.out.cell 3, (hc 0).trans hx.2.1, (hc 1).trans hx.2.2.1, (hc 2).trans hx.2.2.2.1, (hc 3).trans hx.2.2.2.2⟩)
     clear hown6 hgr6 hat6
     refine hK.out _ _ (fun _ => HS6.out) ?_
     clear hK K
     try simp only [Act.put, List.setIfInBounds_toArray, List.set_cons_zero, List.set_cons_succ]
     refine TillLast.take (i := 6) (oi := ⟨some 21, _, _, _, _, _⟩) (v := ?_) rfl (by kernel_rfl) (by kernel_rfl) (by kernel_rfl) (by kernel_rfl) (by decide) (by kernel_rfl) (fun _ _ _ h => h) (Or.inl ⟨by kernel_rfl, ?_⟩) HS6.out ?_
     rotate_left
     ·(intro w' hSw; (try dsimp only at hSw); go_split_ands; go_simp; first | done | with_reducible rfl)
     try simp only [Act.put, List.setIfInBounds_toArray, List.set_cons_zero, List.set_cons_succ]
     refine TillLast.ready (rs := [7]) (by kernel_rfl) (by simp) ?_
     refine NextAll.cons (o := ⟨none, _, _, _, _, _⟩) rfl (fun K hK => ?_) NextAll.nil
     rw [if_pos (by kernel_rfl)]
     refine wp_store_kids (.tmp 21) (.tmp 20) rfl ob 3 A6 m6 c6 rfl rfl 38 _ HL6.out _ rfl ?_
     refine hK.out _ _ (fun h => absurd (h.symm.trans (by kernel_rfl : _ = true)) (by decide)) ?_
     clear hK K
     try simp only [Act.put, List.setIfInBounds_toArray, List.set_cons_zero, List.set_cons_succ]
     refine TillLast.done (by kernel_rfl) ?_ _
     go_wp2_with fail
     go_roundw
     case rel => exact HN.out
     case measure => (simp [intOf] <;> omega)
   ·obtain rfl : q = 2 := by omega
    have l2 : Lies wr (w.heap.size + 1) 38 #[.int .i64 0, .int .i64 0, .string ⟨#[]⟩, .slice none 0 0] := (HK1.out.block _ (by have := HZ1.out; have := HOB.out; omega)).trans LZ.out
    have q0 : wr.cell? ⟨ob, 0, none⟩ = some (.int .i64 4) := HL.out.cell 0
    have q1 : wr.cell? ⟨ob, 1, none⟩ = some (.int .i64 0) := HL.out.cell 1
    have q2 : wr.cell? ⟨ob, 2, none⟩ = some (.string (ba [80])) := HL.out.cell 2
    have q3 : wr.cell? ⟨ob, 3, none⟩ = some (.slice A m ca) := HL.out.cell 3
    have z0 : wr.cell? ⟨w.heap.size + 1, 0, none⟩ = some (.int .i64 0) := l2.cell 0
    have z1 : wr.cell? ⟨w.heap.size + 1, 1, none⟩ = some (.int .i64 0) := l2.cell 1
    have z2 : wr.cell? ⟨w.heap.size + 1, 2, none⟩ = some (.string ⟨#[]⟩) := l2.cell 2
    have z3 : wr.cell? ⟨w.heap.size + 1, 3, none⟩ = some (.slice none 0 0) := l2.cell 3
    have f0 := l2.free 0
    have f1 := l2.free 1
    have f2 := l2.free 2
    have f3 := l2.free 3
    go_wp2
    have l4 : Lies ((((wr.setCell ⟨w.heap.size + 1, 0, none⟩ (.int .i64 4)).setCell ⟨w.heap.size + 1, 1, none⟩ (.int .i64 0)).setCell ⟨w.heap.size + 1, 2, none⟩ (.string (ba [80]))).setCell ⟨w.heap.size + 1, 3, none⟩ (.slice A m ca)) (w.heap.size + 1) 38 #[.int .i64 4, .int .i64 0, .string (ba [80]), .slice A m ca] := (((l2.set 0 _).set 1 _).set 2 _).set 3 _
    have hA := (((HBW.out.setCell (p := ⟨w.heap.size + 1, 0, none⟩) (by show w.heap.size ≤ w.heap.size + 1; omega) (.int .i64 4)).setCell (p := ⟨w.heap.size + 1, 1, none⟩) (by show w.heap.size ≤ w.heap.size + 1; omega) (.int .i64 0)).setCell (p := ⟨w.heap.size + 1, 2, none⟩) (by show w.heap.size ≤ w.heap.size + 1; omega) (.string (ba [80]))).setCell (p := ⟨w.heap.size + 1, 3, none⟩) (by show w.heap.size ≤ w.heap.size + 1; omega) (.slice A m ca)
    obtain ⟨A', m', c', hl', hend⟩ := wh_end (w := w) HREL.out (by have := HZ1.out; have := HOB.out; omega) (fun b h1 _ => by
     have hne : b ≠ w.heap.size + 1 := by have := HZ1.out; have := HOB.out; omega
     exact (Below.heap_setCell _ ⟨_, 3, none⟩ _ b hne).trans ((Below.heap_setCell _ ⟨_, 2, none⟩ _ b hne).trans ((Below.heap_setCell _ ⟨_, 1, none⟩ _ b hne).trans (Below.heap_setCell _ ⟨_, 0, none⟩ _ b hne)))) hA
    have hsame := (hl'.cell 3).symm.trans (HL.out.cell 3)
    simp at hsame
    obtain ⟨rfl, rfl, rfl⟩ := hsame
    refine bodyPost_ret (v := .agg #[.int .i64 4, .int .i64 0, .string (ba [80]), .slice A' m' c']) (results_cell_row rfl _ _ (w.heap.size + 1) 38 _ (0, 0) _ rfl l4 Tryz.underlying38 rfl szV) rfl ?_
    exact hend
end So
end Go.Proofs.YtmodmojocclmaaaGreatDoor.K

/- The machine of package source: what is told of pairs of pairs. -/
namespace Go.Proofs.YtmodmojocclmaaaGreatDoor.K
open Go Go.RowKit
namespace So

set_option maxRecDepth 100000 in
set_option maxHeartbeats 8000000 in
theorem told_valP (v : Int) (n : Nat) (w : World) {H : Mem} {N : Nat} (l : List Value) (hs : Sub H w) (hv : VV H N (valP v n) l) : Calls Tryz.prog 24 #[.agg l.toArray] w (WhEnd w (told (valP v n))) := by
 have hpc : pcs 10000 (valP v n) ≤ 10000 + 1 := (pcs_le v n 10000 (by omega)).1
 have hpl := pcs_le v n 10000 (by omega)
 have HPI := Lib.hid (fun V (hV : Sub H V) => pieces_valP v n V l 10000 hV hv (by omega) (by omega))
 have HWH := Lib.hid (show ∀ V, n < 13 → Sub H V → Calls Tryz.prog 44 #[.agg l.toArray] V (WhEnd V (told (valP v n))) from fun V h hV => by rw [told_small v h]; exact whole_valP v n V l hV hv)
 have HAL := Lib.hid (show ∀ V, 13 ≤ n → Sub H V → Calls Tryz.prog 43 #[.agg l.toArray] V (WhEnd V (told (valP v n))) from fun V h13 hV => by
  obtain ⟨n', rfl⟩ : ∃ n', n = n' + 1 := ⟨n - 1, by omega⟩
  obtain ⟨b, g, o, c, _, rfl, hr, _⟩ := pair_kids hv
  have ea : told (valP v (n' + 1)) = .mk 4 0 [80] [] := by
   rw [told_big v h13]
   show alone (.con [80] [valP v n', valP v n']) = _
   rw [alone]
  refine (alone_con V hV hr).mono fun e w' h => ?_
  obtain ⟨rfl, hb⟩ := h
  rw [ea]
  exact ⟨fun _ => none, [.int .i64 4, .int .i64 0, .string (ba [80]), .slice none 0 0], rfl, (fun b o h => by cases h), (fun b o h => by cases h), .mk 4 0 [80] [] _ (fun _ => []) ⟨none, 0, rfl, Nat.le_refl _, Nat.zero_le _, fun h => absurd h (by simp)⟩ (fun i t h => by simp at h) (fun i h => absurd h (by simp)), hb⟩)
 have hbig : 13 ≤ n → 10000 < pcs 10000 (valP v n) := fun h => by
  have h1 : szP 13 ≤ szP n := szP_le h
  have h2 : szP 13 = 16383 := by decide
  exact (pcs_valP v n 10000).2 (by omega)
 have hsml : n < 13 → pcs 10000 (valP v n) ≤ 10000 := fun h => by
  have h1 : szP n ≤ szP 12 := szP_le (by omega)
  have h2 : szP 12 = 8191 := by decide
  rw [(pcs_valP v n 10000).1 (by omega)]; omega
 obtain ⟨pc, hpcv⟩ : ∃ p, p = pcs 10000 (valP v n) := ⟨_, rfl⟩
 rw [← hpcv] at hbig hsml hpc hpl
 have HPC := Lib.hid hpcv
 obtain ⟨k, n', cp, rfl⟩ := hv.pair
 have HS := Lib.hid hs
 clear hv hs hpcv
 obtain ⟨W0, hW0⟩ : ∃ W0, W0 = (w.alloc (.cells #[.int .i64 k, .int .i64 n', .pointer cp, .nilIface] 68)).alloc (.cells #[.int .i64 0, .int .i64 0, .string ⟨#[]⟩, .slice none 0 0] 38) := ⟨_, rfl⟩
 have hz0 : W0.heap.size = w.heap.size + 1 + 1 := by rw [hW0]; simp
 have hB0 : Below w.heap.size w W0 := by rw [hW0]; exact ((Below.refl _ _).alloc (Nat.le_refl _) _).alloc (by simp) _
 have lb0 : Lies W0 w.heap.size 68 #[.int .i64 k, .int .i64 n', .pointer cp, .nilIface] := by rw [hW0]; exact (Lies.new w _ _).alloc _
 have lz0 : Lies W0 (w.heap.size + 1) 38 #[.int .i64 0, .int .i64 0, .string ⟨#[]⟩, .slice none 0 0] := by
  rw [hW0]
  have := Lies.new (w.alloc (.cells #[.int .i64 k, .int .i64 n', .pointer cp, .nilIface] 68)) 38 #[.int .i64 0, .int .i64 0, .string ⟨#[]⟩, .slice none 0 0]
  simpa using this
 have HW0 := Lib.hid hW0
 have HB0 := Lib.hid hB0
 go_enter Tryz.func24, Tryz.ntmps24
 clear hW0
 go_wp2_with fail
 rw [← HW0.out]
 refine (HPI.out W0 (HS.out.below HB0.out)).mono ?_
 rintro e w1 ⟨rfl, hb1⟩
 rw [← HPC.out]
 have lb1 : Lies w1 w.heap.size 68 #[.int .i64 k, .int .i64 n', .pointer cp, .nilIface] := (hb1.block _ (by omega)).trans lb0
 have hs1 := hb1.size
 have p0 : w1.cell? ⟨w.heap.size, 0, none⟩ = some (.int .i64 k) := lb1.cell 0
 have p1 : w1.cell? ⟨w.heap.size, 1, none⟩ = some (.int .i64 n') := lb1.cell 1
 have p2 : w1.cell? ⟨w.heap.size, 2, none⟩ = some (.pointer cp) := lb1.cell 2
 have p3 : w1.cell? ⟨w.heap.size, 3, none⟩ = some .nilIface := lb1.cell 3
 have B01 : Below w.heap.size w w1 := hB0.trans (hb1.mono (by omega))
 have HB01 := Lib.hid B01
 have hz1 : w.heap.size + 1 < w1.heap.size := by omega
 have LZ := Lib.hid (show Lies w1 (w.heap.size + 1) 38 #[.int .i64 0, .int .i64 0, .string ⟨#[]⟩, .slice none 0 0] from (hb1.block _ (by omega)).trans lz0)
 clear hb1 lb1 lb0 lz0 B01 hB0 hz0 hs1
 by_cases h13 : n < 13
 ·have hgt := hsml h13
  have hngt : ¬ (10000 : Int) < pc := by omega
  clear hbig hsml
  go_wp2_with fail
  refine (HWH.out w1 h13 (HS.out.below HB01.out)).mono ?_
  rintro e wr ⟨R, l5, rfl, hsR, hRR, hvt, hb2⟩
  obtain ⟨k5, n5, s5, A5, m5, c5, rfl⟩ := hvt.form
  have l2 : Lies wr (w.heap.size + 1) 38 #[.int .i64 0, .int .i64 0, .string ⟨#[]⟩, .slice none 0 0] := (hb2.block _ (by omega)).trans LZ.out
  have z0 : wr.cell? ⟨w.heap.size + 1, 0, none⟩ = some (.int .i64 0) := l2.cell 0
  have z1 : wr.cell? ⟨w.heap.size + 1, 1, none⟩ = some (.int .i64 0) := l2.cell 1
  have z2 : wr.cell? ⟨w.heap.size + 1, 2, none⟩ = some (.string ⟨#[]⟩) := l2.cell 2
  have z3 : wr.cell? ⟨w.heap.size + 1, 3, none⟩ = some (.slice none 0 0) := l2.cell 3
  have f0 := l2.free 0
  have f1 := l2.free 1
  have f2 := l2.free 2
  have f3 := l2.free 3
  have HB2 := Lib.hid hb2
  have HSR := Lib.hid hsR
  have HRR := Lib.hid hRR
  have HVT := Lib.hid hvt
  clear hb2 hsR hRR hvt
  go_wp2
  have l4 : Lies ((((wr.setCell ⟨w.heap.size + 1, 0, none⟩ (.int .i64 k5)).setCell ⟨w.heap.size + 1, 1, none⟩ (.int .i64 n5)).setCell ⟨w.heap.size + 1, 2, none⟩ (.string s5)).setCell ⟨w.heap.size + 1, 3, none⟩ (.slice A5 m5 c5)) (w.heap.size + 1) 38 #[.int .i64 k5, .int .i64 n5, .string s5, .slice A5 m5 c5] := (((l2.set 0 _).set 1 _).set 2 _).set 3 _
  have hA : Below w.heap.size w wr := HB01.out.trans (HB2.out.mono (by omega))
  have hA4 := (((hA.setCell (p := ⟨w.heap.size + 1, 0, none⟩) (by show w.heap.size ≤ w.heap.size + 1; omega) (.int .i64 k5)).setCell (p := ⟨w.heap.size + 1, 1, none⟩) (by show w.heap.size ≤ w.heap.size + 1; omega) (.int .i64 n5)).setCell (p := ⟨w.heap.size + 1, 2, none⟩) (by show w.heap.size ≤ w.heap.size + 1; omega) (.string s5)).setCell (p := ⟨w.heap.size + 1, 3, none⟩) (by show w.heap.size ≤ w.heap.size + 1; omega) (.slice A5 m5 c5)
  refine bodyPost_ret (v := .agg #[.int .i64 k5, .int .i64 n5, .string s5, .slice A5 m5 c5]) (results_cell_row rfl _ _ (w.heap.size + 1) 38 _ (0, 0) _ rfl l4 Tryz.underlying38 rfl szV) rfl ?_
  refine ⟨R, _, rfl, fun b o hb => ?_, fun b o hb => by have := HRR.out b o hb; omega, HVT.out, hA4⟩
  have hne : b ≠ w.heap.size + 1 := by have := HRR.out b o hb; omega
  exact ((Below.heap_setCell _ ⟨_, 3, none⟩ _ b hne).trans ((Below.heap_setCell _ ⟨_, 2, none⟩ _ b hne).trans ((Below.heap_setCell _ ⟨_, 1, none⟩ _ b hne).trans (Below.heap_setCell _ ⟨_, 0, none⟩ _ b hne)))).trans (HSR.out b o hb)
 ·have hgt := hbig (by omega)
  clear hbig hsml
  go_wp2_with fail
  refine (HAL.out w1 (by omega) (HS.out.below HB01.out)).mono ?_
  rintro e wr ⟨R, l5, rfl, hsR, hRR, hvt, hb2⟩
  obtain ⟨k5, n5, s5, A5, m5, c5, rfl⟩ := hvt.form
  have l2 : Lies wr (w.heap.size + 1) 38 #[.int .i64 0, .int .i64 0, .string ⟨#[]⟩, .slice none 0 0] := (hb2.block _ (by omega)).trans LZ.out
  have z0 : wr.cell? ⟨w.heap.size + 1, 0, none⟩ = some (.int .i64 0) := l2.cell 0
  have z1 : wr.cell? ⟨w.heap.size + 1, 1, none⟩ = some (.int .i64 0) := l2.cell 1
  have z2 : wr.cell? ⟨w.heap.size + 1, 2, none⟩ = some (.string ⟨#[]⟩) := l2.cell 2
  have z3 : wr.cell? ⟨w.heap.size + 1, 3, none⟩ = some (.slice none 0 0) := l2.cell 3
  have f0 := l2.free 0
  have f1 := l2.free 1
  have f2 := l2.free 2
  have f3 := l2.free 3
  have HB2 := Lib.hid hb2
  have HSR := Lib.hid hsR
  have HRR := Lib.hid hRR
  have HVT := Lib.hid hvt
  clear hb2 hsR hRR hvt
  go_wp2
  have l4 : Lies ((((wr.setCell ⟨w.heap.size + 1, 0, none⟩ (.int .i64 k5)).setCell ⟨w.heap.size + 1, 1, none⟩ (.int .i64 n5)).setCell ⟨w.heap.size + 1, 2, none⟩ (.string s5)).setCell ⟨w.heap.size + 1, 3, none⟩ (.slice A5 m5 c5)) (w.heap.size + 1) 38 #[.int .i64 k5, .int .i64 n5, .string s5, .slice A5 m5 c5] := (((l2.set 0 _).set 1 _).set 2 _).set 3 _
  have hA : Below w.heap.size w wr := HB01.out.trans (HB2.out.mono (by omega))
  have hA4 := (((hA.setCell (p := ⟨w.heap.size + 1, 0, none⟩) (by show w.heap.size ≤ w.heap.size + 1; omega) (.int .i64 k5)).setCell (p := ⟨w.heap.size + 1, 1, none⟩) (by show w.heap.size ≤ w.heap.size + 1; omega) (.int .i64 n5)).setCell (p := ⟨w.heap.size + 1, 2, none⟩) (by show w.heap.size ≤ w.heap.size + 1; omega) (.string s5)).setCell (p := ⟨w.heap.size + 1, 3, none⟩) (by show w.heap.size ≤ w.heap.size + 1; omega) (.slice A5 m5 c5)
  refine bodyPost_ret (v := .agg #[.int .i64 k5, .int .i64 n5, .string s5, .slice A5 m5 c5]) (results_cell_row rfl _ _ (w.heap.size + 1) 38 _ (0, 0) _ rfl l4 Tryz.underlying38 rfl szV) rfl ?_
  refine ⟨R, _, rfl, fun b o hb => ?_, fun b o hb => by have := HRR.out b o hb; omega, HVT.out, hA4⟩
  have hne : b ≠ w.heap.size + 1 := by have := HRR.out b o hb; omega
  exact ((Below.heap_setCell _ ⟨_, 3, none⟩ _ b hne).trans ((Below.heap_setCell _ ⟨_, 2, none⟩ _ b hne).trans ((Below.heap_setCell _ ⟨_, 1, none⟩ _ b hne).trans (Below.heap_setCell _ ⟨_, 0, none⟩ _ b hne)))).trans (HSR.out b o hb)
end So
end Go.Proofs.YtmodmojocclmaaaGreatDoor.K
