/- What must be in any case, of the laws of package source. -/
import Derived.Test.YtmodmojocclmaaaGreatDoorMg37
import Derived.Deep.DeepCutAuto
import Derived.StillTailTactics
import Derived.Deep.RegionHeld3
namespace Go.Proofs.YtmodmojocclmaaaGreatDoor.K
open Go Go.RowKit
namespace So

theorem pg_st {w : World} {P : Nat → Prop} {p : Pz.Prog} {l : List Value} (h : PgIt w P p l) : l.toArray.all (·.oneCell') = true ∧ (Tryz.prog.info? 47).map (·.size) = some l.toArray.size ∧ zP.size = l.toArray.size := by
 have hlen := pgOK.len h
 exact ⟨all_oneCell_toArray (pgOK.one h), by rw [szPg]; simp [hlen], by simp [hlen, zP]⟩
theorem conv_sb' (s : ByteArray) (w : World) : (convert 9 80 (.string s)).run Tryz.prog w = .ok (.slice (some ⟨w.heap.size, 0, none⟩) s.size (grownCap w s.size 0 5)) (Lib.bytesWorld w 5 s) :=
 Lib.run_convert_string_bytes w 9 80 5 s Tryz.underlying9 Tryz.underlying80 Tryz.underlying5
theorem bs_bytes (w : World) (l : List UInt8) (n : Nat) (hn : n = l.length) : Bs (Lib.bytesWorld w 5 (ba l)) (.slice (some ⟨w.heap.size, 0, none⟩) n (grownCap w n 0 5)) l := by
 subst hn
 have hs : (ba l).size = l.length := by simp [ba, ByteArray.size]
 refine ⟨_, _, rfl, grownCap_ge w l.length 0 5, fun _ => ⟨_, rfl, fun j hj => ?_⟩⟩
 have e : (⟨w.heap.size, 0, none⟩ : Addr).add j = ⟨w.heap.size, j, none⟩ := by unfold Addr.add; split <;> simp_all
 rw [e, Lib.bytesWorld_cell w 5 (ba l) j (by omega), ba_list]
 simp [List.getD, List.getElem?_eq_getElem hj]
def ReadEnd (w : World) (L : List UInt8) (e : Ending) (w' : World) : Prop := ∃ l, e = .returned (.agg l.toArray) ∧ PgIt w' (fun g => w.heap.size ≤ g) (parseR L).1 l ∧ Below w.heap.size w w'
set_option maxRecDepth 100000 in
set_option maxHeartbeats 4000000 in
theorem read_any (w : World) (L : List UInt8) (hG : Good w) (hl : L.length ≤ 1000000) : Calls Tryz.prog 15 #[.string (ba L)] w (ReadEnd w L) := by
 have hcv := conv_sb'
 have hbs : (ba L).size = L.length := by simp [ba, ByteArray.size]
 obtain ⟨W1, hW1⟩ : ∃ W, W = w.alloc (.cells zP 47) := ⟨_, rfl⟩
 have hB1 : Below w.heap.size w W1 := by rw [hW1]; exact below_new w _
 have hz1 : W1.heap.size = w.heap.size + 1 := by rw [hW1]; simp
 have lz1 : Lies W1 w.heap.size 47 zP := by rw [hW1]; exact Lies.new w _ _
 obtain ⟨W2, hW2⟩ : ∃ W, W = Lib.bytesWorld W1 5 (ba L) := ⟨_, rfl⟩
 have hbb : Below W1.heap.size W1 W2 := by rw [hW2]; exact Lib.bytesWorld_below W1 5 (ba L)
 have hb : Bs W2 (.slice (some ⟨W1.heap.size, 0, none⟩) L.length (grownCap W1 L.length 0 5)) L := by rw [hW2]; exact bs_bytes W1 L _ rfl
 have hpa := parse_any _ L W2 hb ((hG.later hB1).later hbb) hl
 rw [hz1] at hpa
 have HPA := Lib.hid hpa
 have HW1 := Lib.hid hW1
 have HW2 := Lib.hid hW2
 have HB1 := Lib.hid hB1
 have HZ1 := Lib.hid hz1
 have LZ1 := Lib.hid lz1
 have HBB := Lib.hid hbb
 have HBS := Lib.hid hbs
 clear hpa hW1 hW2 hB1 hz1 lz1 hbb hb hbs
 unfold zP at HW1
 go_enter Tryz.func15, Tryz.ntmps15
 go_wp2_with fail
 rw [← HW1.out, HBS.out, ← HW2.out]
 refine HPA.out.mono ?_
 rintro e w3 ⟨l, rfl, hit, hb3⟩
 obtain ⟨hon, hsz, hzz⟩ := pg_st hit
 have hs3 : w.heap.size + 1 ≤ w3.heap.size := by have := hb3.size; have := HBB.out.size; have := HZ1.out; omega
 have B3 : Below w.heap.size w w3 := HB1.out.trans ((HBB.out.trans (hb3.mono HBB.out.size)).mono (by have := HZ1.out; omega))
 have l0 : Lies w3 w.heap.size 47 zP := (hb3.block _ (by have := HBB.out.size; have := HZ1.out; omega)).trans ((HBB.out.block _ (by have := HZ1.out; omega)).trans LZ1.out)
 have HL0 := Lib.hid (l0.alloc (.cells l.toArray 47))
 have LZ := Lib.hid (Lies.new w3 47 zP)
 have LN := Lib.hid (Lies.new w3 47 l.toArray)
 have HON := Lib.hid hon
 have HSZ := Lib.hid hsz
 have HZZ := Lib.hid hzz
 have HIT := Lib.hid hit
 have HB3 := Lib.hid B3
 have HS3 := Lib.hid hs3
 clear hit hon hsz hzz B3 l0 hb3 hs3
 unfold zP at LZ HZZ HL0
 go_wp2_with (first
  | (refine wpList_store_rowTo rfl 47 (.tmp 3) (.tmp 10) rfl rfl _ l.toArray rfl rfl 47 _ LZ.out HSZ.out HZZ.out HON.out ?_; rw [set_new rfl])
  | (refine wpList_load_row rfl 47 (.tmp 3) rfl w3.heap.size rfl 47 l.toArray (0, 0) _ ?_ Tryz.underlying47 rfl HSZ.out ?_; exact LN.out)
  | (refine wpList_store_rowTo rfl 47 (.tmp 2) (.tmp 13) rfl rfl w.heap.size l.toArray rfl rfl 47 _ ?_ HSZ.out HZZ.out HON.out ?_; exact HL0.out))
 refine bodyPost_ret (v := .agg l.toArray) (results_cell_row rfl _ _ w.heap.size 47 _ (0, 0) _ rfl (lies_setRow' HL0.out _) Tryz.underlying47 rfl HSZ.out) rfl ?_
 refine ⟨l, rfl, pgOK.mono (pgOK.same HIT.out fun g h1 h2 => ?_) (fun g h1 _ => ?_), below_setRow' (HB3.out.trans ((below_new w3 _).mono (by have := HS3.out; omega))) (Nat.le_refl _) _⟩
 ·have h3 : W2.heap.size ≤ g := h1
  have := HBB.out.size
  have := HZ1.out
  rw [heap_setRow' _ _ _ g (by omega)]
  exact (below_new w3 _).block g h2
 ·have h3 : W2.heap.size ≤ g := h1
  have := HBB.out.size
  have := HZ1.out
  omega
theorem in_nil (H : Mem) : InV H (.slice none 0 0) [] := ⟨⟨none, 0, rfl, Nat.le_refl _, Nat.zero_le _, fun h => absurd h (by simp)⟩, fun i n h => by cases h⟩
theorem shown_run1 {w : World} {P : Nat → Prop} {l : List Value} (p : PgIt w P rp1 l) : Calls Tryz.prog 9 #[.agg l.toArray, .slice none 0 0, .int .i64 100] w fun e w' => ∃ A n c st, e = .returned (.agg (runL 1 1 3 (.slice A n c) st 1)) ∧ Below w.heap.size w w' := by
 refine (run_val w l.toArray (.slice none 0 0) 100 (by decide) (pg_tm p wide1 (Below.refl _ _)) (in_nil _) (okRun_runs ok1) ⟨fin1.1, fin1.2.1, fin1.2.2.1⟩).mono fun e w' h => ?_
 obtain ⟨tv, rfl, ho, hb⟩ := h
 obtain ⟨A, n, c, rfl⟩ := own_slice ho
 exact ⟨A, n, c, _, by rw [fin1.1, fin1.2.2.2], hb⟩
theorem shown_run2 {w : World} {P : Nat → Prop} {l : List Value} (p : PgIt w P rp2 l) : Calls Tryz.prog 9 #[.agg l.toArray, .slice none 0 0, .int .i64 100] w fun e w' => ∃ g c st ko, e = .returned (.agg (runL 2 0 0 (.slice (some ⟨g, 0, none⟩) 1 c) st ko)) ∧ Below w.heap.size w w' ∧ 1 ≤ c ∧ w'.cell? ⟨g, 0, none⟩ = some (.int .i64 7) := by
 refine (run_any w l.toArray (.slice none 0 0) 100 (by decide) (pg_tm p wide2 (Below.refl _ _)) (in_nil _) (okRun_runs ok2) (by rw [fin2.1]; decide)).mono fun e w' h => ?_
 obtain ⟨tv, rfl, ho, hb⟩ := h
 rw [fin2.2] at ho
 rcases own_cells ho with ⟨_, h0⟩ | ⟨g, c, rfl, hc, _, _, hcell⟩
 ·cases h0
 ·exact ⟨g, c, _, _, by rw [fin2.1]; rfl, hb, hc, hcell 0 _ rfl⟩
theorem shown_run3 {w : World} {P : Nat → Prop} {l : List Value} (p : PgIt w P rp3 l) : Calls Tryz.prog 9 #[.agg l.toArray, .slice none 0 0, .int .i64 100] w fun e w' => ∃ A n c ko, e = .returned (.agg (runL 3 0 0 (.slice A n c) 1 ko)) ∧ Below w.heap.size w w' := by
 refine (run_any w l.toArray (.slice none 0 0) 100 (by decide) (pg_tm p wide3 (Below.refl _ _)) (in_nil _) (okRun_runs ok3) (by rw [fin3.1]; decide)).mono fun e w' h => ?_
 obtain ⟨tv, rfl, ho, hb⟩ := h
 obtain ⟨A, n, c, rfl⟩ := own_slice ho
 exact ⟨A, n, c, _, by rw [fin3.1, fin3.2], hb⟩
theorem shown_run4 {w : World} {P : Nat → Prop} {l : List Value} (p : PgIt w P rp4 l) : Calls Tryz.prog 9 #[.agg l.toArray, .slice none 0 0, .int .i64 100] w fun e w' => ∃ A n c st ko, e = .returned (.agg (runL 4 0 0 (.slice A n c) st ko)) ∧ Below w.heap.size w w' := by
 refine (run_any w l.toArray (.slice none 0 0) 100 (by decide) (pg_tm p wide4 (Below.refl _ _)) (in_nil _) (okRun_runs ok4) (by rw [fin4]; decide)).mono fun e w' h => ?_
 obtain ⟨tv, rfl, ho, hb⟩ := h
 obtain ⟨A, n, c, rfl⟩ := own_slice ho
 exact ⟨A, n, c, _, _, by rw [fin4], hb⟩
theorem keep_run (w : World) (C : Array Value) : ∃ W, W = (w.alloc (.cells #[.int .i64 0, .int .i64 0, .int .i64 0, .string ⟨#[]⟩, .slice none 0 0, .slice none 0 0, .int .i64 0, .int .i64 0] 42)).setRow w.heap.size C ∧ Below w.heap.size w W ∧ W.heap.size = w.heap.size + 1 ∧ Lies W w.heap.size 42 C :=
 ⟨_, rfl, below_setRow' (below_new w _) (Nat.le_refl _) _, by rw [size_setRow']; simp, lies_setRow' (Lies.new w _ _) _⟩
set_option maxRecDepth 100000 in
set_option maxHeartbeats 8000000 in
theorem shown_any (w : World) (hG : Good w) : Calls Tryz.prog 8 #[] w fun e w' => e = .returned (.bool true) ∧ Below w.heap.size w w' := by
 go_enter Tryz.func8, Tryz.ntmps8
 go_wp2_with fail
 refine (read_any w rs1 hG (by decide)).mono ?_
 rintro e r1 ⟨l1, rfl, p1, hbr1⟩
 go_wp2_with fail
 refine (shown_run1 p1).mono ?_
 rintro e v1 ⟨A1, n1, c1, st1, rfl, hbv1⟩
 obtain ⟨R1, hR1⟩ : ∃ R, R = runL 1 1 3 (.slice A1 n1 c1) st1 1 := ⟨_, rfl⟩
 rw [← hR1]
 obtain ⟨W1, hW1, hbW1, hzW1, lW1⟩ := keep_run v1 R1
 have HSZ1 := Lib.hid (show (Tryz.prog.info? 42).map (·.size) = some R1.size by rw [szRun, hR1]; rfl)
 have HON1 := Lib.hid (show R1.all (·.oneCell') = true by rw [hR1]; simp [runL, Value.oneCell'])
 have HZZ1 := Lib.hid (show (#[.int .i64 0, .int .i64 0, .int .i64 0, .string ⟨#[]⟩, .slice none 0 0, .slice none 0 0, .int .i64 0, .int .i64 0] : Array Value).size = R1.size by rw [hR1]; rfl)
 have HR1 := Lib.hid hR1
 have HW1 := Lib.hid hW1
 have LW1 := Lib.hid lW1
 have LV1 := Lib.hid (Lies.new v1 42 #[.int .i64 0, .int .i64 0, .int .i64 0, .string ⟨#[]⟩, .slice none 0 0, .slice none 0 0, .int .i64 0, .int .i64 0])
 have HB1 := Lib.hid (show Below (w).heap.size w W1 from (hbr1.trans (hbv1.mono hbr1.size)).trans (hbW1.mono (by have := hbr1.size; have := hbv1.size; omega)))
 have G1 := (hG).later HB1.out
 have HZ1 := Lib.hid hzW1
 clear p1 hbr1 hbv1 hbW1 hW1 lW1 hzW1 hR1
 go_wp2_with (refine wpList_store_rowTo rfl 42 (.tmp 1) (.tmp 6) rfl rfl v1.heap.size R1 rfl rfl 42 _ ?_ HSZ1.out HZZ1.out HON1.out ?_; exact LV1.out; rw [← HW1.out])
 go_wp2_with fail
 refine (read_any W1 rs2 G1 (by decide)).mono ?_
 rintro e r2 ⟨l2, rfl, p2, hbr2⟩
 go_wp2_with fail
 refine (shown_run2 p2).mono ?_
 rintro e v2 ⟨g2, c2, st2, ko2, rfl, hbv2, hc2, hq2⟩
 obtain ⟨R2, hR2⟩ : ∃ R, R = runL 2 0 0 (.slice (some ⟨g2, 0, none⟩) 1 c2) st2 ko2 := ⟨_, rfl⟩
 rw [← hR2]
 obtain ⟨W2, hW2, hbW2, hzW2, lW2⟩ := keep_run v2 R2
 have HSZ2 := Lib.hid (show (Tryz.prog.info? 42).map (·.size) = some R2.size by rw [szRun, hR2]; rfl)
 have HON2 := Lib.hid (show R2.all (·.oneCell') = true by rw [hR2]; simp [runL, Value.oneCell'])
 have HZZ2 := Lib.hid (show (#[.int .i64 0, .int .i64 0, .int .i64 0, .string ⟨#[]⟩, .slice none 0 0, .slice none 0 0, .int .i64 0, .int .i64 0] : Array Value).size = R2.size by rw [hR2]; rfl)
 have HQ2 := Lib.hid ((hbW2.cell (p := ⟨g2, 0, none⟩) (World.block_lt_of_cell? v2 _ hq2)).trans hq2)
 have HC2 := Lib.hid hc2
 clear hq2 hc2
 have HR2 := Lib.hid hR2
 have HW2 := Lib.hid hW2
 have LW2 := Lib.hid lW2
 have LV2 := Lib.hid (Lies.new v2 42 #[.int .i64 0, .int .i64 0, .int .i64 0, .string ⟨#[]⟩, .slice none 0 0, .slice none 0 0, .int .i64 0, .int .i64 0])
 have HB2 := Lib.hid (show Below (W1).heap.size W1 W2 from (hbr2.trans (hbv2.mono hbr2.size)).trans (hbW2.mono (by have := hbr2.size; have := hbv2.size; omega)))
 have G2 := (G1).later HB2.out
 have HZ2 := Lib.hid hzW2
 clear p2 hbr2 hbv2 hbW2 hW2 lW2 hzW2 hR2
 go_wp2_with (refine wpList_store_rowTo rfl 42 (.tmp 2) (.tmp 8) rfl rfl v2.heap.size R2 rfl rfl 42 _ ?_ HSZ2.out HZZ2.out HON2.out ?_; exact LV2.out; rw [← HW2.out])
 go_wp2_with fail
 refine (read_any W2 rs3 G2 (by decide)).mono ?_
 rintro e r3 ⟨l3, rfl, p3, hbr3⟩
 go_wp2_with fail
 refine (shown_run3 p3).mono ?_
 rintro e v3 ⟨A3, n3, c3, ko3, rfl, hbv3⟩
 obtain ⟨R3, hR3⟩ : ∃ R, R = runL 3 0 0 (.slice A3 n3 c3) 1 ko3 := ⟨_, rfl⟩
 rw [← hR3]
 obtain ⟨W3, hW3, hbW3, hzW3, lW3⟩ := keep_run v3 R3
 have HSZ3 := Lib.hid (show (Tryz.prog.info? 42).map (·.size) = some R3.size by rw [szRun, hR3]; rfl)
 have HON3 := Lib.hid (show R3.all (·.oneCell') = true by rw [hR3]; simp [runL, Value.oneCell'])
 have HZZ3 := Lib.hid (show (#[.int .i64 0, .int .i64 0, .int .i64 0, .string ⟨#[]⟩, .slice none 0 0, .slice none 0 0, .int .i64 0, .int .i64 0] : Array Value).size = R3.size by rw [hR3]; rfl)
 have HR3 := Lib.hid hR3
 have HW3 := Lib.hid hW3
 have LW3 := Lib.hid lW3
 have LV3 := Lib.hid (Lies.new v3 42 #[.int .i64 0, .int .i64 0, .int .i64 0, .string ⟨#[]⟩, .slice none 0 0, .slice none 0 0, .int .i64 0, .int .i64 0])
 have HB3 := Lib.hid (show Below (W2).heap.size W2 W3 from (hbr3.trans (hbv3.mono hbr3.size)).trans (hbW3.mono (by have := hbr3.size; have := hbv3.size; omega)))
 have G3 := (G2).later HB3.out
 have HZ3 := Lib.hid hzW3
 clear p3 hbr3 hbv3 hbW3 hW3 lW3 hzW3 hR3
 go_wp2_with (refine wpList_store_rowTo rfl 42 (.tmp 3) (.tmp 10) rfl rfl v3.heap.size R3 rfl rfl 42 _ ?_ HSZ3.out HZZ3.out HON3.out ?_; exact LV3.out; rw [← HW3.out])
 go_wp2_with fail
 refine (read_any W3 rs4 G3 (by decide)).mono ?_
 rintro e r4 ⟨l4, rfl, p4, hbr4⟩
 go_wp2_with fail
 refine (shown_run4 p4).mono ?_
 rintro e v4 ⟨A4, n4, c4, st4, ko4, rfl, hbv4⟩
 obtain ⟨R4, hR4⟩ : ∃ R, R = runL 4 0 0 (.slice A4 n4 c4) st4 ko4 := ⟨_, rfl⟩
 rw [← hR4]
 obtain ⟨W4, hW4, hbW4, hzW4, lW4⟩ := keep_run v4 R4
 have HSZ4 := Lib.hid (show (Tryz.prog.info? 42).map (·.size) = some R4.size by rw [szRun, hR4]; rfl)
 have HON4 := Lib.hid (show R4.all (·.oneCell') = true by rw [hR4]; simp [runL, Value.oneCell'])
 have HZZ4 := Lib.hid (show (#[.int .i64 0, .int .i64 0, .int .i64 0, .string ⟨#[]⟩, .slice none 0 0, .slice none 0 0, .int .i64 0, .int .i64 0] : Array Value).size = R4.size by rw [hR4]; rfl)
 have HR4 := Lib.hid hR4
 have HW4 := Lib.hid hW4
 have LW4 := Lib.hid lW4
 have LV4 := Lib.hid (Lies.new v4 42 #[.int .i64 0, .int .i64 0, .int .i64 0, .string ⟨#[]⟩, .slice none 0 0, .slice none 0 0, .int .i64 0, .int .i64 0])
 have HB4 := Lib.hid (show Below (W3).heap.size W3 W4 from (hbr4.trans (hbv4.mono hbr4.size)).trans (hbW4.mono (by have := hbr4.size; have := hbv4.size; omega)))
 have G4 := (G3).later HB4.out
 have HZ4 := Lib.hid hzW4
 clear p4 hbr4 hbv4 hbW4 hW4 lW4 hzW4 hR4
 go_upto_region 5 with (refine wpList_store_rowTo rfl 42 (.tmp 4) (.tmp 12) rfl rfl v4.heap.size R4 rfl rfl 42 _ ?_ HSZ4.out HZZ4.out HON4.out ?_; exact LV4.out; rw [← HW4.out])
 have l1 := ((LW1.out.later HB2.out).later HB3.out).later HB4.out
 have l2 := (LW2.out.later HB3.out).later HB4.out
 have l3 := LW3.out.later HB4.out
 have c10 : W4.cell? ⟨v1.heap.size, 0, none⟩ = some (.int .i64 1) := by rw [l1.cell, HR1.out]; rfl
 have c12 : W4.cell? ⟨v1.heap.size, 2, none⟩ = some (.int .i64 3) := by rw [l1.cell, HR1.out]; rfl
 have c17 : W4.cell? ⟨v1.heap.size, 7, none⟩ = some (.int .i64 1) := by rw [l1.cell, HR1.out]; rfl
 have c20 : W4.cell? ⟨v2.heap.size, 0, none⟩ = some (.int .i64 2) := by rw [l2.cell, HR2.out]; rfl
 have c25 : W4.cell? ⟨v2.heap.size, 5, none⟩ = some (.slice (some ⟨g2, 0, none⟩) 1 c2) := by rw [l2.cell, HR2.out]; rfl
 have b3 := HB3.out.trans (HB4.out.mono HB3.out.size)
 have d20 := (b3.cell (p := ⟨g2, 0, none⟩) (World.block_lt_of_cell? W2 _ HQ2.out)).trans HQ2.out
 have c30 : W4.cell? ⟨v3.heap.size, 0, none⟩ = some (.int .i64 3) := by rw [l3.cell, HR3.out]; rfl
 have c36 : W4.cell? ⟨v3.heap.size, 6, none⟩ = some (.int .i64 1) := by rw [l3.cell, HR3.out]; rfl
 have c40 : W4.cell? ⟨v4.heap.size, 0, none⟩ = some (.int .i64 4) := by rw [LW4.out.cell, HR4.out]; rfl
 have hc2 := HC2.out
 have HBA := Lib.hid (HB1.out.trans ((HB2.out.trans (b3.mono HB2.out.size)).mono HB1.out.size))
 clear l1 l2 l3 b3 G1 G2 G3 G4
 go_wp2
 go_ret
 exact ⟨rfl, HBA.out⟩
end So
end Go.Proofs.YtmodmojocclmaaaGreatDoor.K

/- Terms in a block of their own, that is written again and again. -/
namespace Go.Proofs.YtmodmojocclmaaaGreatDoor.K
open Go Go.RowKit
namespace So

theorem SrcV.cut {w : World} {v : Value} {xs : List Int} (h : SrcV w v (xs.map (Value.int .i64 ·))) (k : Nat) : ∃ A c, v = .slice A xs.length c ∧ xs.length ≤ c ∧ SrcV w (.slice A (xs.take k).length c) ((xs.take k).map (Value.int .i64 ·)) := by
 rcases h with ⟨rfl, h0⟩ | ⟨ad, c, rfl, h1, h2⟩
 ·obtain rfl : xs = [] := by simpa using h0
  exact ⟨_, 0, rfl, Nat.le_refl _, .inl ⟨by simp, by simp⟩⟩
 ·rw [List.length_map] at h1 ⊢
  refine ⟨some ad, c, rfl, h1, .inr ⟨ad, c, by rw [List.length_map], by rw [List.length_map, List.length_take]; omega, fun j q hq => h2 j q ?_⟩⟩
  rw [List.getElem?_map] at hq ⊢
  rw [List.getElem?_take] at hq
  by_cases hj : j < k
  ·rw [if_pos hj] at hq; exact hq
  ·rw [if_neg hj] at hq; cases hq
theorem ints_own {w : World} {B : Nat} {v : Value} {xs : List Int} (h : w.ownsRow B 3 1 v xs.length (xs.map (Value.int .i64 ·))) : IntsS w v xs := by
 rcases own_cells h with ⟨rfl, h0⟩ | ⟨g, c, rfl, hc, _, _, hcell⟩
 ·exact ⟨none, 0, by rw [h0], by omega, fun h => by omega⟩
 ·refine ⟨_, c, rfl, hc, fun _ => ⟨g, 0, rfl, fun j x hx => ?_⟩⟩
  rw [Nat.zero_add]
  exact hcell j _ (by rw [List.getElem?_map, hx]; rfl)
theorem IntsS.cut {w : World} {A : Option Addr} {n c : Nat} {xs : List Int} (h : IntsS w (.slice A n c) xs) (k : Nat) (hk : k ≤ xs.length) : IntsS w (.slice A k c) (xs.take k) := by
 obtain ⟨A', c', h1, h2, h3⟩ := h
 injection h1 with e1 e2 e3
 subst e1 e2 e3
 have hl : (xs.take k).length = k := by rw [List.length_take]; omega
 refine ⟨A, c, by rw [hl], by rw [hl]; omega, fun h => ?_⟩
 obtain ⟨g, o, e, hc⟩ := h3 (by omega)
 refine ⟨g, o, e, fun j x hx => hc j x ?_⟩
 rw [List.getElem?_take] at hx
 by_cases hj : j < k
 ·rw [if_pos hj] at hx; exact hx
 ·rw [if_neg hj] at hx; cases hx
structure KX (X : Nat) (w w' : World) : Prop where
 os : w'.os = w.os
 tape : w'.tape = w.tape
 output : w'.output = w.output
 size : w.heap.size ≤ w'.heap.size
 block : ∀ g, g < w.heap.size → g ≠ X → w'.heap[g]? = w.heap[g]?
theorem KX.refl (X : Nat) (w : World) : KX X w w := ⟨rfl, rfl, rfl, Nat.le_refl _, fun _ _ _ => rfl⟩
theorem KX.below {X : Nat} {a b c : World} (h : KX X a b) (k : Below b.heap.size b c) : KX X a c :=
 ⟨k.os.trans h.os, k.tape.trans h.tape, k.output.trans h.output, Nat.le_trans h.size k.size, fun g h1 h2 => (k.block g (Nat.lt_of_lt_of_le h1 h.size)).trans (h.block g h1 h2)⟩
theorem KX.set {X : Nat} {a b : World} (h : KX X a b) (C : Array Value) : KX X a (b.setRow X C) :=
 ⟨h.os, h.tape, h.output, by rw [size_setRow']; exact h.size, fun g h1 h2 => (heap_setRow' b X C g h2).trans (h.block g h1 h2)⟩
theorem KX.all {X : Nat} {w a b : World} (h : KX X a b) (hb : Below w.heap.size w a) (hX : w.heap.size ≤ X) : Below w.heap.size w b :=
 ⟨h.os.trans hb.os, h.tape.trans hb.tape, h.output.trans hb.output, Nat.le_trans hb.size h.size, fun g hg => (h.block g (Nat.lt_of_lt_of_le hg hb.size) (by omega)).trans (hb.block g hg)⟩
theorem keep_term (w : World) (C : Array Value) : ∃ W, W = (w.alloc (.cells zC 33)).setRow w.heap.size C ∧ Below w.heap.size w W ∧ W.heap.size = w.heap.size + 1 ∧ Lies W w.heap.size 33 C :=
 ⟨_, rfl, below_setRow' (below_new w _) (Nat.le_refl _) _, by rw [size_setRow']; simp, lies_setRow' (Lies.new w _ _) _⟩
theorem unit_ta (X : Nat) (w : World) : TA X w unT (tmL 4 (.int .i64 0) [] [] 0 (.slice none 0 0) (.slice none 0 0) [.int .i64 0, .string ⟨#[]⟩, .int .i64 0, .slice none 0 0, .slice none 0 0, .int .i64 0, .slice none 0 0, .int .i64 0, .int .i64 0, .string ⟨#[]⟩, .int .i64 0, .slice none 0 0, .slice none 0 0, .int .i64 0]) := ⟨.int .i64 0, _, _, _, rfl, rfl, ones_zr, KidsA.none _, ArmsA.none _⟩
theorem built_prog : ∀ (C : List Value), C.length = 21 → Tryz.prog.built 47 [(2, .agg C.toArray)] = some ([Value.slice none 0 0, Value.slice none 0 0] ++ C).toArray
 | [a0, a1, a2, a3, a4, a5, a6, a7, a8, a9, a10, a11, a12, a13, a14, a15, a16, a17, a18, a19, a20], _ => by kernel_rfl
theorem prog_tm {X : Nat} {w : World} {t : Tm} {C : List Value} (h : TA X w t C) (hX : X < w.heap.size) : TmA (memOf (w.alloc (.cells ([Value.slice none 0 0, Value.slice none 0 0] ++ C).toArray 47))) w.heap.size 2 t := by
 refine ((h.later (below_new w _)).place (X := X) (by omega) fun i u hu => ?_).le (memX_of _ _)
 have hL := Lies.new w 47 ([Value.slice none 0 0, Value.slice none 0 0] ++ C).toArray
 rw [hL.cell]
 simpa [Nat.add_comm] using hu
end So
end Go.Proofs.YtmodmojocclmaaaGreatDoor.K

/- Terms that are built in place. -/
namespace Go.Proofs.YtmodmojocclmaaaGreatDoor.K
open Go Go.RowKit
namespace So

def tC (k : Int) (nm : Str) (n : Int) (kv rv : Value) : List Value := tmL k (.int .i64 0) nm [] n kv rv [.int .i64 0, .string ⟨#[]⟩, .int .i64 0, .slice none 0 0, .slice none 0 0, .int .i64 0, .slice none 0 0, .int .i64 0, .int .i64 0, .string ⟨#[]⟩, .int .i64 0, .slice none 0 0, .slice none 0 0, .int .i64 0]
def nilS : Value := .slice none 0 0
theorem TA.tC {X : Nat} {w : World} {k : Int} {nm : Str} {n : Int} {kv rv : Value} {kids : List Tm} {arms : List Arm} (hk : KidsA (memX X w) kv kids) (ha : ArmsA (memX X w) arms rv) : TA X w (.mk k nm [] n kids arms) (tC k nm n kv rv) :=
 ⟨.int .i64 0, kv, rv, _, rfl, rfl, ones_zr, hk, ha⟩
structure TmF (D : List Value) : Prop where
 len : D.length = 21
 size : (Tryz.prog.info? 33).map (·.size) = some D.toArray.size
 one : D.toArray.all (·.oneCell') = true
 zero : zC.size = D.toArray.size
theorem kids_one {X : Nat} {w : World} {t : Tm} {l : List Value} (h : TA X w t l) (hX : w.heap.size ≠ X) {D : List Value} (hD : D = [l].flatten) : KidsA (memX X (w.alloc (.cells D.toArray 33))) (.slice (some ⟨w.heap.size, 0, none⟩) 1 1) [t] :=
 kids_new (w := w) (ts := [t]) (ls := [l]) rfl (by show 1 ≤ 2000000; omega) (fun i x y h1 h2 => by match i with | 0 => cases h1; cases h2; exact h | i + 1 => cases h1) hX (T := 33) (by rw [← hD]; exact Lies.new w 33 D.toArray) (below_new w _) rfl
theorem kids_two {X : Nat} {w : World} {t u : Tm} {l m : List Value} (h : TA X w t l) (k : TA X w u m) (hX : w.heap.size ≠ X) {D : List Value} (hD : D = [l, m].flatten) : KidsA (memX X (w.alloc (.cells D.toArray 33))) (.slice (some ⟨w.heap.size, 0, none⟩) 2 2) [t, u] :=
 kids_new (w := w) (ts := [t, u]) (ls := [l, m]) rfl (by show 2 ≤ 2000000; omega) (fun i x y h1 h2 => by match i with | 0 => cases h1; cases h2; exact h | 1 => cases h1; cases h2; exact k | i + 2 => cases h1) hX (T := 33) (by rw [← hD]; exact Lies.new w 33 D.toArray) (below_new w _) rfl
end So
end Go.Proofs.YtmodmojocclmaaaGreatDoor.K
