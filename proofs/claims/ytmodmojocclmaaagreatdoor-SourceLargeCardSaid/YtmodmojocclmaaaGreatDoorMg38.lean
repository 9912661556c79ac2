/- What must be in any case, of the laws of package source. -/
import Derived.Test.YtmodmojocclmaaaGreatDoorMg37
import Derived.Test.YtmodmojocclmaaaGreatDoorMg20
import Derived.Deep.DeepCutAuto
import Derived.StillTailTactics
import Derived.Deep.RegionHeld3
namespace Go.Proofs.YtmodmojocclmaaaGreatDoor.K
open Go Go.RowKit
namespace So

theorem pg_st {w : World} {P : Nat → Prop} {p : Pz.Prog} {l : List Value} (h : PgIt w P p l) : l.toArray.all (·.oneCell') = true ∧ (Tryz.prog.info? 47).map (·.size) = some l.toArray.size ∧ zP.size = l.toArray.size := by
 have hlen := pgOK.len h
 exact ⟨all_oneCell_toArray (pgOK.one h), by rw [szPg]; simp [hlen], by simp [hlen, zP]⟩
theorem conv_sb' (s : ByteArray) (w : World) : (convert 9 80 (.string s)).run Tryz.prog w = .ok (.slice (some ⟨w.heap.size, 0, none⟩) s.size (grownCap w s.size 0 5)) (Lib.bytesWorld w 5 s) :=
 Lib.run_convert_string_bytes w 9 80 5 s Tryz.underlying9 Tryz.underlying80 Tryz.underlying5
theorem bs_bytes (w : World) (l : List UInt8) (n : Nat) (hn : n = l.length) : Bs (Lib.bytesWorld w 5 (ba l)) (.slice (some ⟨w.heap.size, 0, none⟩) n (grownCap w n 0 5)) l := by
 subst hn
 have hs : (ba l).size = l.length := by simp [ba, ByteArray.size]
 refine ⟨_, _, rfl, grownCap_ge w l.length 0 5, fun _ => ⟨_, rfl, fun j hj => ?_⟩⟩
 have e : (⟨w.heap.size, 0, none⟩ : Addr).add j = ⟨w.heap.size, j, none⟩ := by unfold Addr.add; split <;> simp_all
 rw [e, Lib.bytesWorld_cell w 5 (ba l) j (by omega), ba_list]
 simp [List.getD, List.getElem?_eq_getElem hj]
def ReadEnd (w : World) (L : List UInt8) (e : Ending) (w' : World) : Prop := ∃ l, e = .returned (.agg l.toArray) ∧ PgIt w' (fun g => w.heap.size ≤ g) (parseR L).1 l ∧ Below w.heap.size w w'
set_option maxRecDepth 100000 in
set_option maxHeartbeats 4000000 in
theorem read_any (w : World) (L : List UInt8) (hG : Good w) (hl : L.length ≤ 1000000) : Calls Tryz.prog 15 #[.string (ba L)] w (ReadEnd w L) := by
 have hcv := conv_sb'
 have hbs : (ba L).size = L.length := by simp [ba, ByteArray.size]
 obtain ⟨W1, hW1⟩ : ∃ W, W = w.alloc (.cells zP 47) := ⟨_, rfl⟩
 have hB1 : Below w.heap.size w W1 := by rw [hW1]; exact below_new w _
 have hz1 : W1.heap.size = w.heap.size + 1 := by rw [hW1]; simp
 have lz1 : Lies W1 w.heap.size 47 zP := by rw [hW1]; exact Lies.new w _ _
 obtain ⟨W2, hW2⟩ : ∃ W, W = Lib.bytesWorld W1 5 (ba L) := ⟨_, rfl⟩
 have hbb : Below W1.heap.size W1 W2 := by rw [hW2]; exact Lib.bytesWorld_below W1 5 (ba L)
 have hb : Bs W2 (.slice (some ⟨W1.heap.size, 0, none⟩) L.length (grownCap W1 L.length 0 5)) L := by rw [hW2]; exact bs_bytes W1 L _ rfl
 have hpa := parse_any _ L W2 hb ((hG.later hB1).later hbb) hl
 rw [hz1] at hpa
 have HPA := Lib.hid hpa
 have HW1 := Lib.hid hW1
 have HW2 := Lib.hid hW2
 have HB1 := Lib.hid hB1
 have HZ1 := Lib.hid hz1
 have LZ1 := Lib.hid lz1
 have HBB := Lib.hid hbb
 have HBS := Lib.hid hbs
 clear hpa hW1 hW2 hB1 hz1 lz1 hbb hb hbs
 unfold zP at HW1
 go_enter Tryz.func15, Tryz.ntmps15
 go_wp2_with fail
 rw [← HW1.out, HBS.out, ← HW2.out]
 refine HPA.out.mono ?_
 rintro e w3 ⟨l, rfl, hit, hb3⟩
 obtain ⟨hon, hsz, hzz⟩ := pg_st hit
 have hs3 : w.heap.size + 1 ≤ w3.heap.size := by have := hb3.size; have := HBB.out.size; have := HZ1.out; omega
 have B3 : Below w.heap.size w w3 := HB1.out.trans ((HBB.out.trans (hb3.mono HBB.out.size)).mono (by have := HZ1.out; omega))
 have l0 : Lies w3 w.heap.size 47 zP := (hb3.block _ (by have := HBB.out.size; have := HZ1.out; omega)).trans ((HBB.out.block _ (by have := HZ1.out; omega)).trans LZ1.out)
 have HL0 := Lib.hid (l0.alloc (.cells l.toArray 47))
 have LZ := Lib.hid (Lies.new w3 47 zP)
 have LN := Lib.hid (Lies.new w3 47 l.toArray)
 have HON := Lib.hid hon
 have HSZ := Lib.hid hsz
 have HZZ := Lib.hid hzz
 have HIT := Lib.hid hit
 have HB3 := Lib.hid B3
 have HS3 := Lib.hid hs3
 clear hit hon hsz hzz B3 l0 hb3 hs3
 unfold zP at LZ HZZ HL0
 go_wp2_with (first
  | (refine wpList_store_rowTo rfl 47 (.tmp 3) (.tmp 10) rfl rfl _ l.toArray rfl rfl 47 _ LZ.out HSZ.out HZZ.out HON.out ?_; rw [set_new rfl])
  | (refine wpList_load_row rfl 47 (.tmp 3) rfl w3.heap.size rfl 47 l.toArray (0, 0) _ ?_ Tryz.underlying47 rfl HSZ.out ?_; exact LN.out)
  | (refine wpList_store_rowTo rfl 47 (.tmp 2) (.tmp 13) rfl rfl w.heap.size l.toArray rfl rfl 47 _ ?_ HSZ.out HZZ.out HON.out ?_; exact HL0.out))
 refine bodyPost_ret (v := .agg l.toArray) (results_cell_row rfl _ _ w.heap.size 47 _ (0, 0) _ rfl (lies_setRow' HL0.out _) Tryz.underlying47 rfl HSZ.out) rfl ?_
 refine ⟨l, rfl, pgOK.mono (pgOK.same HIT.out fun g h1 h2 => ?_) (fun g h1 _ => ?_), below_setRow' (HB3.out.trans ((below_new w3 _).mono (by have := HS3.out; omega))) (Nat.le_refl _) _⟩
 ·have h3 : W2.heap.size ≤ g := h1
  have := HBB.out.size
  have := HZ1.out
  rw [heap_setRow' _ _ _ g (by omega)]
  exact (below_new w3 _).block g h2
 ·have h3 : W2.heap.size ≤ g := h1
  have := HBB.out.size
  have := HZ1.out
  omega
theorem in_nil (H : Mem) : InV H (.slice none 0 0) [] := ⟨⟨none, 0, rfl, Nat.le_refl _, Nat.zero_le _, fun h => absurd h (by simp)⟩, fun i n h => by cases h⟩
theorem shown_run1 {w : World} {P : Nat → Prop} {l : List Value} (p : PgIt w P rp1 l) : Calls Tryz.prog 9 #[.agg l.toArray, .slice none 0 0, .int .i64 100] w fun e w' => ∃ A n c st, e = .returned (.agg (runL 1 1 3 (.slice A n c) st 1)) ∧ Below w.heap.size w w' := by
 refine (run_val w l.toArray (.slice none 0 0) 100 (by decide) (pg_tm p wide1 (Below.refl _ _)) (in_nil _) (okRun_runs ok1) ⟨fin1.1, fin1.2.1, fin1.2.2.1⟩).mono fun e w' h => ?_
 obtain ⟨tv, rfl, ho, hb⟩ := h
 obtain ⟨A, n, c, rfl⟩ := own_slice ho
 exact ⟨A, n, c, _, by rw [fin1.1, fin1.2.2.2], hb⟩
theorem shown_run2 {w : World} {P : Nat → Prop} {l : List Value} (p : PgIt w P rp2 l) : Calls Tryz.prog 9 #[.agg l.toArray, .slice none 0 0, .int .i64 100] w fun e w' => ∃ g c st ko, e = .returned (.agg (runL 2 0 0 (.slice (some ⟨g, 0, none⟩) 1 c) st ko)) ∧ Below w.heap.size w w' ∧ 1 ≤ c ∧ w'.cell? ⟨g, 0, none⟩ = some (.int .i64 7) := by
 refine (run_any w l.toArray (.slice none 0 0) 100 (by decide) (pg_tm p wide2 (Below.refl _ _)) (in_nil _) (okRun_runs ok2) (by rw [fin2.1]; decide)).mono fun e w' h => ?_
 obtain ⟨tv, rfl, ho, hb⟩ := h
 rw [fin2.2] at ho
 rcases own_cells ho with ⟨_, h0⟩ | ⟨g, c, rfl, hc, _, _, hcell⟩
 ·cases h0
 ·exact ⟨g, c, _, _, by rw [fin2.1]; rfl, hb, hc, hcell 0 _ rfl⟩
theorem shown_run3 {w : World} {P : Nat → Prop} {l : List Value} (p : PgIt w P rp3 l) : Calls Tryz.prog 9 #[.agg l.toArray, .slice none 0 0, .int .i64 100] w fun e w' => ∃ A n c ko, e = .returned (.agg (runL 3 0 0 (.slice A n c) 1 ko)) ∧ Below w.heap.size w w' := by
 refine (run_any w l.toArray (.slice none 0 0) 100 (by decide) (pg_tm p wide3 (Below.refl _ _)) (in_nil _) (okRun_runs ok3) (by rw [fin3.1]; decide)).mono fun e w' h => ?_
 obtain ⟨tv, rfl, ho, hb⟩ := h
 obtain ⟨A, n, c, rfl⟩ := own_slice ho
 exact ⟨A, n, c, _, by rw [fin3.1, fin3.2], hb⟩
theorem shown_run4 {w : World} {P : Nat → Prop} {l : List Value} (p : PgIt w P rp4 l) : Calls Tryz.prog 9 #[.agg l.toArray, .slice none 0 0, .int .i64 100] w fun e w' => ∃ A n c st ko, e = .returned (.agg (runL 4 0 0 (.slice A n c) st ko)) ∧ Below w.heap.size w w' := by
 refine (run_any w l.toArray (.slice none 0 0) 100 (by decide) (pg_tm p wide4 (Below.refl _ _)) (in_nil _) (okRun_runs ok4) (by rw [fin4]; decide)).mono fun e w' h => ?_
 obtain ⟨tv, rfl, ho, hb⟩ := h
 obtain ⟨A, n, c, rfl⟩ := own_slice ho
 exact ⟨A, n, c, _, _, by rw [fin4], hb⟩
theorem keep_run (w : World) (C : Array Value) : ∃ W, W = (w.alloc (.cells #[.int .i64 0, .int .i64 0, .int .i64 0, .string ⟨#[]⟩, .slice none 0 0, .slice none 0 0, .int .i64 0, .int .i64 0] 42)).setRow w.heap.size C ∧ Below w.heap.size w W ∧ W.heap.size = w.heap.size + 1 ∧ Lies W w.heap.size 42 C :=
 ⟨_, rfl, below_setRow' (below_new w _) (Nat.le_refl _) _, by rw [size_setRow']; simp, lies_setRow' (Lies.new w _ _) _⟩
set_option maxRecDepth 100000 in
set_option maxHeartbeats 8000000 in
theorem shown_any (w : World) (hG : Good w) : Calls Tryz.prog 8 #[] w fun e w' => e = .returned (.bool true) ∧ Below w.heap.size w w' := by
 go_enter Tryz.func8, Tryz.ntmps8
 go_wp2_with fail
 refine (read_any w rs1 hG (by decide)).mono ?_
 rintro e r1 ⟨l1, rfl, p1, hbr1⟩
 go_wp2_with fail
 refine (shown_run1 p1).mono ?_
 rintro e v1 ⟨A1, n1, c1, st1, rfl, hbv1⟩
 obtain ⟨R1, hR1⟩ : ∃ R, R = runL 1 1 3 (.slice A1 n1 c1) st1 1 := ⟨_, rfl⟩
 rw [← hR1]
 obtain ⟨W1, hW1, hbW1, hzW1, lW1⟩ := keep_run v1 R1
 have HSZ1 := Lib.hid (show (Tryz.prog.info? 42).map (·.size) = some R1.size by rw [szRun, hR1]; rfl)
 have HON1 := Lib.hid (show R1.all (·.oneCell') = true by rw [hR1]; simp [runL, Value.oneCell'])
 have HZZ1 := Lib.hid (show (#[.int .i64 0, .int .i64 0, .int .i64 0, .string ⟨#[]⟩, .slice none 0 0, .slice none 0 0, .int .i64 0, .int .i64 0] : Array Value).size = R1.size by rw [hR1]; rfl)
 have HR1 := Lib.hid hR1
 have HW1 := Lib.hid hW1
 have LW1 := Lib.hid lW1
 have LV1 := Lib.hid (Lies.new v1 42 #[.int .i64 0, .int .i64 0, .int .i64 0, .string ⟨#[]⟩, .slice none 0 0, .slice none 0 0, .int .i64 0, .int .i64 0])
 have HB1 := Lib.hid (show Below (w).heap.size w W1 from (hbr1.trans (hbv1.mono hbr1.size)).trans (hbW1.mono (by have := hbr1.size; have := hbv1.size; omega)))
 have G1 := (hG).later HB1.out
 have HZ1 := Lib.hid hzW1
 clear p1 hbr1 hbv1 hbW1 hW1 lW1 hzW1 hR1
 go_wp2_with (refine wpList_store_rowTo rfl 42 (.tmp 1) (.tmp 6) rfl rfl v1.heap.size R1 rfl rfl 42 _ ?_ HSZ1.out HZZ1.out HON1.out ?_; exact LV1.out; rw [← HW1.out])
 go_wp2_with fail
 refine (read_any W1 rs2 G1 (by decide)).mono ?_
 rintro e r2 ⟨l2, rfl, p2, hbr2⟩
 go_wp2_with fail
 refine (shown_run2 p2).mono ?_
 rintro e v2 ⟨g2, c2, st2, ko2, rfl, hbv2, hc2, hq2⟩
 obtain ⟨R2, hR2⟩ : ∃ R, R = runL 2 0 0 (.slice (some ⟨g2, 0, none⟩) 1 c2) st2 ko2 := ⟨_, rfl⟩
 rw [← hR2]
 obtain ⟨W2, hW2, hbW2, hzW2, lW2⟩ := keep_run v2 R2
 have HSZ2 := Lib.hid (show (Tryz.prog.info? 42).map (·.size) = some R2.size by rw [szRun, hR2]; rfl)
 have HON2 := Lib.hid (show R2.all (·.oneCell') = true by rw [hR2]; simp [runL, Value.oneCell'])
 have HZZ2 := Lib.hid (show (#[.int .i64 0, .int .i64 0, .int .i64 0, .string ⟨#[]⟩, .slice none 0 0, .slice none 0 0, .int .i64 0, .int .i64 0] : Array Value).size = R2.size by rw [hR2]; rfl)
 have HQ2 := Lib.hid ((hbW2.cell (p := ⟨g2, 0, none⟩) (World.block_lt_of_cell? v2 _ hq2)).trans hq2)
 have HC2 := Lib.hid hc2
 clear hq2 hc2
 have HR2 := Lib.hid hR2
 have HW2 := Lib.hid hW2
 have LW2 := Lib.hid lW2
 have LV2 := Lib.hid (Lies.new v2 42 #[.int .i64 0, .int .i64 0, .int .i64 0, .string ⟨#[]⟩, .slice none 0 0, .slice none 0 0, .int .i64 0, .int .i64 0])
 have HB2 := Lib.hid (show Below (W1).heap.size W1 W2 from (hbr2.trans (hbv2.mono hbr2.size)).trans (hbW2.mono (by have := hbr2.size; have := hbv2.size; omega)))
 have G2 := (G1).later HB2.out
 have HZ2 := Lib.hid hzW2
 clear p2 hbr2 hbv2 hbW2 hW2 lW2 hzW2 hR2
 go_wp2_with (refine wpList_store_rowTo rfl 42 (.tmp 2) (.tmp 8) rfl rfl v2.heap.size R2 rfl rfl 42 _ ?_ HSZ2.out HZZ2.out HON2.out ?_; exact LV2.out; rw [← HW2.out])
 go_wp2_with fail
 refine (read_any W2 rs3 G2 (by decide)).mono ?_
 rintro e r3 ⟨l3, rfl, p3, hbr3⟩
 go_wp2_with fail
 refine (shown_run3 p3).mono ?_
 rintro e v3 ⟨A3, n3, c3, ko3, rfl, hbv3⟩
 obtain ⟨R3, hR3⟩ : ∃ R, R = runL 3 0 0 (.slice A3 n3 c3) 1 ko3 := ⟨_, rfl⟩
 rw [← hR3]
 obtain ⟨W3, hW3, hbW3, hzW3, lW3⟩ := keep_run v3 R3
 have HSZ3 := Lib.hid (show (Tryz.prog.info? 42).map (·.size) = some R3.size by rw [szRun, hR3]; rfl)
 have HON3 := Lib.hid (show R3.all (·.oneCell') = true by rw [hR3]; simp [runL, Value.oneCell'])
 have HZZ3 := Lib.hid (show (#[.int .i64 0, .int .i64 0, .int .i64 0, .string ⟨#[]⟩, .slice none 0 0, .slice none 0 0, .int .i64 0, .int .i64 0] : Array Value).size = R3.size by rw [hR3]; rfl)
 have HR3 := Lib.hid hR3
 have HW3 := Lib.hid hW3
 have LW3 := Lib.hid lW3
 have LV3 := Lib.hid (Lies.new v3 42 #[.int .i64 0, .int .i64 0, .int .i64 0, .string ⟨#[]⟩, .slice none 0 0, .slice none 0 0, .int .i64 0, .int .i64 0])
 have HB3 := Lib.hid (show Below (W2).heap.size W2 W3 from (hbr3.trans (hbv3.mono hbr3.size)).trans (hbW3.mono (by have := hbr3.size; have := hbv3.size; omega)))
 have G3 := (G2).later HB3.out
 have HZ3 := Lib.hid hzW3
 clear p3 hbr3 hbv3 hbW3 hW3 lW3 hzW3 hR3
 go_wp2_with (refine wpList_store_rowTo rfl 42 (.tmp 3) (.tmp 10) rfl rfl v3.heap.size R3 rfl rfl 42 _ ?_ HSZ3.out HZZ3.out HON3.out ?_; exact LV3.out; rw [← HW3.out])
 go_wp2_with fail
 refine (read_any W3 rs4 G3 (by decide)).mono ?_
 rintro e r4 ⟨l4, rfl, p4, hbr4⟩
 go_wp2_with fail
 refine (shown_run4 p4).mono ?_
 rintro e v4 ⟨A4, n4, c4, st4, ko4, rfl, hbv4⟩
 obtain ⟨R4, hR4⟩ : ∃ R, R = runL 4 0 0 (.slice A4 n4 c4) st4 ko4 := ⟨_, rfl⟩
 rw [← hR4]
 obtain ⟨W4, hW4, hbW4, hzW4, lW4⟩ := keep_run v4 R4
 have HSZ4 := Lib.hid (show (Tryz.prog.info? 42).map (·.size) = some R4.size by rw [szRun, hR4]; rfl)
 have HON4 := Lib.hid (show R4.all (·.oneCell') = true by rw [hR4]; simp [runL, Value.oneCell'])
 have HZZ4 := Lib.hid (show (#[.int .i64 0, .int .i64 0, .int .i64 0, .string ⟨#[]⟩, .slice none 0 0, .slice none 0 0, .int .i64 0, .int .i64 0] : Array Value).size = R4.size by rw [hR4]; rfl)
 have HR4 := Lib.hid hR4
 have HW4 := Lib.hid hW4
 have LW4 := Lib.hid lW4
 have LV4 := Lib.hid (Lies.new v4 42 #[.int .i64 0, .int .i64 0, .int .i64 0, .string ⟨#[]⟩, .slice none 0 0, .slice none 0 0, .int .i64 0, .int .i64 0])
 have HB4 := Lib.hid (show Below (W3).heap.size W3 W4 from (hbr4.trans (hbv4.mono hbr4.size)).trans (hbW4.mono (by have := hbr4.size; have := hbv4.size; omega)))
 have G4 := (G3).later HB4.out
 have HZ4 := Lib.hid hzW4
 clear p4 hbr4 hbv4 hbW4 hW4 lW4 hzW4 hR4
 go_upto_region 5 with (refine wpList_store_rowTo rfl 42 (.tmp 4) (.tmp 12) rfl rfl v4.heap.size R4 rfl rfl 42 _ ?_ HSZ4.out HZZ4.out HON4.out ?_; exact LV4.out; rw [← HW4.out])
 have l1 := ((LW1.out.later HB2.out).later HB3.out).later HB4.out
 have l2 := (LW2.out.later HB3.out).later HB4.out
 have l3 := LW3.out.later HB4.out
 have c10 : W4.cell? ⟨v1.heap.size, 0, none⟩ = some (.int .i64 1) := by rw [l1.cell, HR1.out]; rfl
 have c12 : W4.cell? ⟨v1.heap.size, 2, none⟩ = some (.int .i64 3) := by rw [l1.cell, HR1.out]; rfl
 have c17 : W4.cell? ⟨v1.heap.size, 7, none⟩ = some (.int .i64 1) := by rw [l1.cell, HR1.out]; rfl
 have c20 : W4.cell? ⟨v2.heap.size, 0, none⟩ = some (.int .i64 2) := by rw [l2.cell, HR2.out]; rfl
 have c25 : W4.cell? ⟨v2.heap.size, 5, none⟩ = some (.slice (some ⟨g2, 0, none⟩) 1 c2) := by rw [l2.cell, HR2.out]; rfl
 have b3 := HB3.out.trans (HB4.out.mono HB3.out.size)
 have d20 := (b3.cell (p := ⟨g2, 0, none⟩) (World.block_lt_of_cell? W2 _ HQ2.out)).trans HQ2.out
 have c30 : W4.cell? ⟨v3.heap.size, 0, none⟩ = some (.int .i64 3) := by rw [l3.cell, HR3.out]; rfl
 have c36 : W4.cell? ⟨v3.heap.size, 6, none⟩ = some (.int .i64 1) := by rw [l3.cell, HR3.out]; rfl
 have c40 : W4.cell? ⟨v4.heap.size, 0, none⟩ = some (.int .i64 4) := by rw [LW4.out.cell, HR4.out]; rfl
 have hc2 := HC2.out
 have HBA := Lib.hid (HB1.out.trans ((HB2.out.trans (b3.mono HB2.out.size)).mono HB1.out.size))
 clear l1 l2 l3 b3 G1 G2 G3 G4
 go_wp2
 go_ret
 exact ⟨rfl, HBA.out⟩
end So
end Go.Proofs.YtmodmojocclmaaaGreatDoor.K

/- Terms in a block of their own, that is written again and again. -/
namespace Go.Proofs.YtmodmojocclmaaaGreatDoor.K
open Go Go.RowKit
namespace So

theorem SrcV.cut {w : World} {v : Value} {xs : List Int} (h : SrcV w v (xs.map (Value.int .i64 ·))) (k : Nat) : ∃ A c, v = .slice A xs.length c ∧ xs.length ≤ c ∧ SrcV w (.slice A (xs.take k).length c) ((xs.take k).map (Value.int .i64 ·)) := by
 rcases h with ⟨rfl, h0⟩ | ⟨ad, c, rfl, h1, h2⟩
 ·obtain rfl : xs = [] := by simpa using h0
  exact ⟨_, 0, rfl, Nat.le_refl _, .inl ⟨by simp, by simp⟩⟩
 ·rw [List.length_map] at h1 ⊢
  refine ⟨some ad, c, rfl, h1, .inr ⟨ad, c, by rw [List.length_map], by rw [List.length_map, List.length_take]; omega, fun j q hq => h2 j q ?_⟩⟩
  rw [List.getElem?_map] at hq ⊢
  rw [List.getElem?_take] at hq
  by_cases hj : j < k
  ·rw [if_pos hj] at hq; exact hq
  ·rw [if_neg hj] at hq; cases hq
theorem IntsS.cut {w : World} {A : Option Addr} {n c : Nat} {xs : List Int} (h : IntsS w (.slice A n c) xs) (k : Nat) (hk : k ≤ xs.length) : IntsS w (.slice A k c) (xs.take k) := by
 obtain ⟨A', c', h1, h2, h3⟩ := h
 injection h1 with e1 e2 e3
 subst e1 e2 e3
 have hl : (xs.take k).length = k := by rw [List.length_take]; omega
 refine ⟨A, c, by rw [hl], by rw [hl]; omega, fun h => ?_⟩
 obtain ⟨g, o, e, hc⟩ := h3 (by omega)
 refine ⟨g, o, e, fun j x hx => hc j x ?_⟩
 rw [List.getElem?_take] at hx
 by_cases hj : j < k
 ·rw [if_pos hj] at hx; exact hx
 ·rw [if_neg hj] at hx; cases hx
structure KX (X : Nat) (w w' : World) : Prop where
 os : w'.os = w.os
 tape : w'.tape = w.tape
 output : w'.output = w.output
 size : w.heap.size ≤ w'.heap.size
 block : ∀ g, g < w.heap.size → g ≠ X → w'.heap[g]? = w.heap[g]?
theorem KX.refl (X : Nat) (w : World) : KX X w w := ⟨rfl, rfl, rfl, Nat.le_refl _, fun _ _ _ => rfl⟩
theorem KX.below {X : Nat} {a b c : World} (h : KX X a b) (k : Below b.heap.size b c) : KX X a c :=
 ⟨k.os.trans h.os, k.tape.trans h.tape, k.output.trans h.output, Nat.le_trans h.size k.size, fun g h1 h2 => (k.block g (Nat.lt_of_lt_of_le h1 h.size)).trans (h.block g h1 h2)⟩
theorem KX.set {X : Nat} {a b : World} (h : KX X a b) (C : Array Value) : KX X a (b.setRow X C) :=
 ⟨h.os, h.tape, h.output, by rw [size_setRow']; exact h.size, fun g h1 h2 => (heap_setRow' b X C g h2).trans (h.block g h1 h2)⟩
theorem KX.all {X : Nat} {w a b : World} (h : KX X a b) (hb : Below w.heap.size w a) (hX : w.heap.size ≤ X) : Below w.heap.size w b :=
 ⟨h.os.trans hb.os, h.tape.trans hb.tape, h.output.trans hb.output, Nat.le_trans hb.size h.size, fun g hg => (h.block g (Nat.lt_of_lt_of_le hg hb.size) (by omega)).trans (hb.block g hg)⟩
theorem keep_term (w : World) (C : Array Value) : ∃ W, W = (w.alloc (.cells zC 33)).setRow w.heap.size C ∧ Below w.heap.size w W ∧ W.heap.size = w.heap.size + 1 ∧ Lies W w.heap.size 33 C :=
 ⟨_, rfl, below_setRow' (below_new w _) (Nat.le_refl _) _, by rw [size_setRow']; simp, lies_setRow' (Lies.new w _ _) _⟩
theorem built_prog : ∀ (C : List Value), C.length = 21 → Tryz.prog.built 47 [(2, .agg C.toArray)] = some ([Value.slice none 0 0, Value.slice none 0 0] ++ C).toArray
 | [a0, a1, a2, a3, a4, a5, a6, a7, a8, a9, a10, a11, a12, a13, a14, a15, a16, a17, a18, a19, a20], _ => by kernel_rfl
theorem prog_tm {X : Nat} {w : World} {t : Tm} {C : List Value} (h : TA X w t C) (hX : X < w.heap.size) : TmA (memOf (w.alloc (.cells ([Value.slice none 0 0, Value.slice none 0 0] ++ C).toArray 47))) w.heap.size 2 t := by
 refine ((h.later (below_new w _)).place (X := X) (by omega) fun i u hu => ?_).le (memX_of _ _)
 have hL := Lies.new w 47 ([Value.slice none 0 0, Value.slice none 0 0] ++ C).toArray
 rw [hL.cell]
 simpa [Nat.add_comm] using hu
end So
end Go.Proofs.YtmodmojocclmaaaGreatDoor.K

/- Terms that are built in place. -/
namespace Go.Proofs.YtmodmojocclmaaaGreatDoor.K
open Go Go.RowKit
namespace So

def tC (k : Int) (nm : Str) (n : Int) (kv rv : Value) : List Value := tmL k (.int .i64 0) nm [] n kv rv [.int .i64 0, .string ⟨#[]⟩, .int .i64 0, .slice none 0 0, .slice none 0 0, .int .i64 0, .slice none 0 0, .int .i64 0, .int .i64 0, .string ⟨#[]⟩, .int .i64 0, .slice none 0 0, .slice none 0 0, .int .i64 0]
def nilS : Value := .slice none 0 0
theorem TA.tC {X : Nat} {w : World} {k : Int} {nm : Str} {n : Int} {kv rv : Value} {kids : List Tm} {arms : List Arm} (hk : KidsA (memX X w) kv kids) (ha : ArmsA (memX X w) arms rv) : TA X w (.mk k nm [] n kids arms) (tC k nm n kv rv) :=
 ⟨.int .i64 0, kv, rv, _, rfl, rfl, ones_zr, hk, ha⟩
structure TmF (D : List Value) : Prop where
 len : D.length = 21
 size : (Tryz.prog.info? 33).map (·.size) = some D.toArray.size
 one : D.toArray.all (·.oneCell') = true
 zero : zC.size = D.toArray.size
theorem bu_kids (k : Int) (s : Str) (A : Option Addr) (m c : Nat) : Tryz.prog.built 33 [(0, .int .i64 k), (2, .string (ba s)), (5, .slice A m c)] = some (So.tC k s 0 (.slice A m c) nilS).toArray := by kernel_rfl
theorem kids_two {X : Nat} {w : World} {t u : Tm} {l m : List Value} (h : TA X w t l) (k : TA X w u m) (hX : w.heap.size ≠ X) {D : List Value} (hD : D = [l, m].flatten) : KidsA (memX X (w.alloc (.cells D.toArray 33))) (.slice (some ⟨w.heap.size, 0, none⟩) 2 2) [t, u] :=
 kids_new (w := w) (ts := [t, u]) (ls := [l, m]) rfl (by show 2 ≤ 2000000; omega) (fun i x y h1 h2 => by match i with | 0 => cases h1; cases h2; exact h | 1 => cases h1; cases h2; exact k | i + 2 => cases h1) hX (T := 33) (by rw [← hD]; exact Lies.new w 33 D.toArray) (below_new w _) rfl
theorem TA.swap {X Y : Nat} {w : World} {t : Tm} {l : List Value} (h : TA X w t l) (hY : w.heap.size ≤ Y) : TA Y w t l := by
 have hle : MLe (memX X w) (memX Y w) := fun b o hb => by
  unfold memX at hb ⊢
  by_cases hx : b = X
  ·rw [if_pos hx] at hb; cases hb
  ·rw [if_neg hx] at hb
   have := (Array.getElem?_eq_some_iff.1 hb).1
   rw [if_neg (by omega)]
   exact hb
 obtain ⟨av, kv, rv, rest, h1, h2, h3, h4, h5⟩ := h
 exact ⟨av, kv, rv, rest, h1, h2, h3, h4.le hle, h5.le hle⟩
end So
end Go.Proofs.YtmodmojocclmaaaGreatDoor.K

/- The machine of package source: what is told of pairs of pairs. -/
namespace Go.Proofs.YtmodmojocclmaaaGreatDoor.K
open Go Go.RowKit
namespace So

theorem Sub.below {H : Mem} {w w' : World} (h : Sub H w) (hb : Below w.heap.size w w') : Sub H w' := fun b x hx => (hb.block b (Array.getElem?_eq_some_iff.1 (h b x hx)).1).trans (h b x hx)
theorem Sub.alloc {H : Mem} {w : World} (h : Sub H w) (o : Obj) : Sub H (w.alloc o) := h.below (below_new w o)
inductive VtA (H : Mem) : Vt → List Value → Prop
 | mk (k n : Int) (nm : Str) (kids : List Vt) (kv : Value) (ls : Nat → List Value) (hs : Sl kv kids.length)
   (hv : ∀ (i : Nat) t, kids[i]? = some t → VtA H t (ls i)) (hl : ∀ i, i < kids.length → HR H (blk kv) (off kv + i * 4) (ls i)) : VtA H (.mk k n nm kids) [.int .i64 k, .int .i64 n, .string (ba nm), kv]
theorem VtA.le {H H' : Mem} (hk : MLe H H') {t : Vt} {l : List Value} (h : VtA H t l) : VtA H' t l := by
 induction h with
 | mk k n nm kids kv ls hs hv hl ih => exact .mk k n nm kids kv ls hs ih (fun i hi => (hl i hi).le hk)
theorem VtA.form {H : Mem} {t : Vt} {l : List Value} (h : VtA H t l) : ∃ k n s A m c, l = [.int .i64 k, .int .i64 n, .string s, .slice A m c] := by
 cases h with
 | mk k n nm kids kv ls hs hv hl =>
  obtain ⟨A, c, rfl, _⟩ := hs
  exact ⟨_, _, _, _, _, _, rfl⟩
def WhEnd (w : World) (t : Vt) (e : Ending) (w' : World) : Prop := ∃ (R : Mem) (l : List Value), e = .returned (.agg l.toArray) ∧ Sub R w' ∧ (∀ b o, R b = some o → w.heap.size ≤ b) ∧ VtA R t l ∧ Below w.heap.size w w'
theorem WhEnd.lit {w w' : World} (k n : Int) (hb : Below w.heap.size w w') : WhEnd w (.mk k n [] []) (.returned (.agg (vtL k n))) w' :=
 ⟨fun _ => none, [.int .i64 k, .int .i64 n, .string (ba []), .slice none 0 0], rfl, (fun b o h => by cases h), (fun b o h => by cases h), .mk k n [] [] _ (fun _ => []) ⟨none, 0, rfl, Nat.le_refl _, Nat.zero_le _, fun h => absurd h (by simp)⟩ (fun i t h => by simp at h) (fun i h => absurd h (by simp)), hb⟩
def conL (b : Nat) : List Value := [.int .i64 4, .int .i64 0, pt b, .nilIface]
set_option maxRecDepth 100000 in
set_option maxHeartbeats 8000000 in
theorem kids_con (w : World) {H : Mem} (hs : Sub H w) {b : Nat} {nm : Str} {A : Option Addr} {m c : Nat} (hr : HR H b 0 [.string (ba nm), .slice A m c]) : Calls Tryz.prog 61 #[.agg (conL b).toArray] w fun e w' => e = .returned (.slice A m c) ∧ Below w.heap.size w w' := by
 have hc : ∀ o, (w.alloc o).cell? ⟨b, 1, none⟩ = some (.slice A m c) := fun o => (hr 1 _ rfl).cell (hs.alloc o)
 have HC := Lib.hid hc
 clear hc hr hs
 unfold conL pt
 have hc1 := HC.out (.cells #[.int .i64 4, .int .i64 0, .pointer (some ⟨b, 0, none⟩), .nilIface] 68)
 go_enter Tryz.func61, Tryz.ntmps61
 go_wp2
 go_ret
 exact ⟨rfl, (Below.refl _ _).alloc (Nat.le_refl _) _⟩
theorem pcs_le (v : Int) : ∀ (n : Nat) (most : Int), 0 ≤ most → pcs most (valP v n) ≤ most + 1 ∧ 1 ≤ pcs most (valP v n)
 | 0, most, h => by
  have e : pcs most (valP v 0) = 1 := pcs_zero v most
  rw [e]; omega
 | n + 1, most, h => by
  have e : pcs most (valP v (n + 1)) = if most < 1 then 1 else if most < 1 + pcs (most - 1) (valP v n) then 1 + pcs (most - 1) (valP v n) else 1 + pcs (most - 1) (valP v n) + pcs (most - (1 + pcs (most - 1) (valP v n))) (valP v n) := by
   show pcs most (.con [80] [valP v n, valP v n]) = _
   rw [pcs_con, pcsL_cons, pcsL_cons, pcsL_nil]
  rw [e]
  by_cases h1 : most < 1
  ·rw [if_pos h1]; omega
  ·rw [if_neg h1]
   have h2 := pcs_le v n (most - 1) (by omega)
   by_cases h3 : most < 1 + pcs (most - 1) (valP v n)
   ·rw [if_pos h3]; omega
   ·rw [if_neg h3]
    have h4 := pcs_le v n (most - (1 + pcs (most - 1) (valP v n))) (by omega)
    omega
theorem pcsL_go {most c : Int} {a : Val} {r : List Val} (h : ¬ most < c) : pcsL most c (a :: r) = pcsL most (c + pcs (most - c) a) r := by
 rw [pcsL, if_neg h]
theorem pcsL_stop {most c : Int} {a : Val} {r : List Val} (h : most < c) : pcsL most c (a :: r) = c := by
 rw [pcsL, if_pos h]
def PcRel (most : Int) (v : Int) (n : Nat) (w : World) (x y : Value) (wr : World) : Prop :=
 ∃ (q : Nat) (c : Int), q ≤ 2 ∧ x = .int .i64 c ∧ y = .int .i64 (q : Int) ∧ pcsL most c (List.replicate (2 - q) (valP v n)) = pcs most (valP v (n + 1)) ∧ 1 ≤ c ∧ c ≤ most + 1 ∧ Below w.heap.size w wr
theorem VV.pair {H : Mem} {N : Nat} {v : Int} {n : Nat} {l : List Value} (h : VV H N (valP v n) l) : ∃ k n' cp, l = [.int .i64 k, .int .i64 n', .pointer cp, .nilIface] := by
 cases n with
 | zero => unfold valP at h; cases h; exact ⟨_, _, _, rfl⟩
 | succ n => unfold valP at h; cases h; exact ⟨_, _, _, rfl⟩
theorem pair_kids {H : Mem} {N : Nat} {v : Int} {n : Nat} {l : List Value} (h : VV H N (valP v (n + 1)) l) : ∃ b g o c, 2 ≤ c ∧ l = conL b ∧ HR H b 0 [.string (ba [80]), .slice (some ⟨g, o, none⟩) 2 c] ∧ ∀ i : Nat, i < 2 → ∃ k n' cp, VV H N (valP v n) [.int .i64 k, .int .i64 n', .pointer cp, .nilIface] ∧ HR H g (o + i * 4) [.int .i64 k, .int .i64 n', .pointer cp, .nilIface] := by
 unfold valP at h
 cases h with
 | con nm kids b kv ls hr hs hv hl =>
  obtain ⟨A, c, rfl, h1, h2, h3⟩ := hs
  obtain ⟨g, o, rfl⟩ := h3 (by simp)
  refine ⟨b, g, o, c, h1, rfl, hr, fun i hi => ?_⟩
  have hk : [valP v n, valP v n][i]? = some (valP v n) := by
   match i, hi with
   | 0, _ => rfl
   | 1, _ => rfl
  have hvi := hv i _ hk
  have hli := hl i hi
  obtain ⟨k, n', cp, e⟩ := hvi.pair
  rw [e] at hvi hli
  exact ⟨k, n', cp, hvi, hli⟩
set_option maxRecDepth 100000 in
set_option maxHeartbeats 8000000 in
theorem pieces_valP (v : Int) : ∀ (n : Nat) (w : World) {H : Mem} {N : Nat} (l : List Value) (most : Int), Sub H w → VV H N (valP v n) l → 0 ≤ most → most ≤ 10000 → Calls Tryz.prog 42 #[.agg l.toArray, .int .i64 most] w fun e w' => e = .returned (.int .i64 (pcs most (valP v n))) ∧ Below w.heap.size w w' := by
 intro n
 induction n with
 | zero =>
  intro w H N l most hs hv h0 hm
  have e : pcs most (valP v 0) = 1 := pcs_zero v most
  unfold valP at hv
  cases hv
  rw [e]
  exact pieces_lit w 1 v most
 | succ n ih =>
  intro w H N l most hs hv h0 hm
  obtain ⟨b, g, o, c, hc2, rfl, hr, hk⟩ := pair_kids hv
  have HIH := Lib.hid ih
  have HKD := Lib.hid (fun V (hV : Sub H V) => kids_con V hV hr)
  have HK := Lib.hid hk
  have HS := Lib.hid hs
  clear ih hv hr hk hs
  unfold conL pt at *
  go_enter Tryz.func42, Tryz.ntmps42
  go_wp2_with fail
  refine (HKD.out _ (HS.out.alloc _)).mono ?_
  rintro e w1 ⟨rfl, hb1⟩
  have HB1 := Lib.hid ((below_new w _).trans (hb1.mono (by simp)))
  clear hb1
  go_wp2_with fail
  go_loopw [5, 11] (fun x y wr => PcRel most v n w x y wr) (fun _ y _ => 2 - (intOf y).toNat)
  case atStart =>
   refine ⟨0, 1, by omega, rfl, rfl, ?_, by omega, by omega, HB1.out⟩
   show pcsL most 1 [valP v n, valP v n] = pcs most (.con [80] [valP v n, valP v n])
   rw [pcs_con]
  case round =>
   obtain ⟨q, ct, hq, rfl, rfl, hp, h1, h2, hb⟩ := hrel
   have HP := Lib.hid hp
   have HB := Lib.hid hb
   clear hp hb
   by_cases hlt : q < 2
   ·obtain ⟨k', n', c', hvk, hrk⟩ := HK.out q hlt
    have hsw : Sub H wr := HS.out.below HB.out
    have y0 : wr.cell? ⟨g, o + q * 4, none⟩ = some (.int .i64 k') := (hrk 0 _ rfl).cell hsw
    have y1 : wr.cell? ⟨g, o + q * 4 + 1, none⟩ = some (.int .i64 n') := (hrk 1 _ rfl).cell hsw
    have y2 : wr.cell? ⟨g, o + q * 4 + 2, none⟩ = some (.pointer c') := (hrk 2 _ rfl).cell hsw
    have y3 : wr.cell? ⟨g, o + q * 4 + 3, none⟩ = some .nilIface := (hrk 3 _ rfl).cell hsw
    have hqi : (q : Int) < 2 := by omega
    have hqc : q < c := by omega
    have e2 : 2 - q = (2 - (q + 1)) + 1 := by omega
    by_cases hst : most < ct
    ·have hres : pcs most (valP v (n + 1)) = ct := by rw [← HP.out, e2, List.replicate_succ, pcsL_stop hst]
     have HRES := Lib.hid hres
     clear hvk hrk hsw hres
     focus
      go_wp2
      go_ret
      exact ⟨by rw [HRES.out]; rfl, HB.out.alloc HB.out.size _⟩
    ·have hres : pcsL most (ct + pcs (most - ct) (valP v n)) (List.replicate (2 - (q + 1)) (valP v n)) = pcs most (valP v (n + 1)) := by rw [← HP.out, e2, List.replicate_succ, pcsL_go hst]
     have hpl := pcs_le v n (most - ct) (by omega)
     have HRE := Lib.hid hres
     have HCA := Lib.hid (fun V (hV : Below w.heap.size w V) => HIH.out V (H := H) (N := N) _ (most - ct) (HS.out.below hV) hvk (by omega) (by omega))
     clear hres hvk hrk hsw
     focus
      go_wp2_with fail
      refine (HCA.out _ (HB.out.alloc HB.out.size _)).mono ?_
      rintro e w5 ⟨rfl, hb5⟩
      have HB5 := Lib.hid ((HB.out.alloc HB.out.size _).trans (hb5.mono (by have := HB.out.size; simp; omega)))
      clear hb5
      go_wp2
      go_roundw
      case rel => exact ⟨q + 1, _, by omega, rfl, by go_num, HRE.out, by omega, by omega, HB5.out⟩
      case measure => (simp [intOf] <;> omega)
   ·obtain rfl : q = 2 := by omega
    have hres : pcs most (valP v (n + 1)) = ct := by rw [← HP.out]; exact pcsL_nil most ct
    have HRES := Lib.hid hres
    clear hres
    go_wp2
    go_ret
    exact ⟨by rw [HRES.out]; rfl, HB.out⟩
end So
end Go.Proofs.YtmodmojocclmaaaGreatDoor.K

/- The machine of package source: pairs of pairs are told whole, or by the outermost one. -/
namespace Go.Proofs.YtmodmojocclmaaaGreatDoor.K
open Go Go.RowKit
namespace So

def vtN (s : ByteArray) : Array Value := #[.int .i64 4, .int .i64 0, .string s, .slice none 0 0]
theorem infoV : ∃ i, Tryz.prog.info? 38 = some i ∧ i.zero = some (.agg (vtL 0 0)) ∧ i.size = 4 ∧ i.bytes = 56 := by
 have h : (Tryz.prog.info? 38).map (fun i => (i.zero, i.size, i.bytes)) = some (some (.agg (vtL 0 0)), 4, 56) := by kernel_rfl
 cases hq : Tryz.prog.info? 38 with
 | none => rw [hq] at h; cases h
 | some ie =>
  rw [hq] at h
  simp only [Option.map_some, Option.some.injEq, Prod.mk.injEq] at h
  exact ⟨ie, rfl, h.1, h.2.1, h.2.2⟩
set_option maxRecDepth 100000 in
set_option maxHeartbeats 8000000 in
theorem alone_con (w : World) {H : Mem} (hs : Sub H w) {b : Nat} {nm : Str} {kv : Value} (hr : HR H b 0 [.string (ba nm), kv]) : Calls Tryz.prog 43 #[.agg (conL b).toArray] w fun e w' => e = .returned (.agg (vtN (ba nm))) ∧ Below w.heap.size w w' := by
 have hc := (hr 0 _ rfl).cell (((hs.alloc (.cells #[.int .i64 4, .int .i64 0, .pointer (some ⟨b, 0, none⟩), .nilIface] 68)).alloc (.cells #[.int .i64 0, .int .i64 0, .string ⟨#[]⟩, .slice none 0 0] 38)).alloc (.cells #[.int .i64 4, .int .i64 0, .string ⟨#[]⟩, .slice none 0 0] 38))
 have hw := (hr 0 _ rfl).cell hs
 have hlt := World.block_lt_of_cell? _ _ hw
 clear hr hs
 unfold conL pt
 go_enter Tryz.func43, Tryz.ntmps43
 go_wp2
 have hl : Lies (((w.alloc (.cells #[.int .i64 4, .int .i64 0, .pointer (some ⟨b, 0, none⟩), .nilIface] 68)).alloc (.cells (vtN (ba nm)) 38)).alloc (.cells (vtN (ba nm)) 38)) (w.heap.size + 1) 38 (vtN (ba nm)) := by
  have := (Lies.new (w.alloc (.cells #[.int .i64 4, .int .i64 0, .pointer (some ⟨b, 0, none⟩), .nilIface] 68)) 38 (vtN (ba nm))).alloc (.cells (vtN (ba nm)) 38)
  simpa using this
 refine bodyPost_ret (v := .agg (vtN (ba nm))) (results_cell_row rfl _ _ (w.heap.size + 1) 38 _ (0, 0) _ rfl hl Tryz.underlying38 rfl szV) rfl ?_
 exact ⟨rfl, (((Below.refl _ _).alloc (Nat.le_refl _) _).alloc (by simp) _).alloc (by simp; omega) _⟩
end So
end Go.Proofs.YtmodmojocclmaaaGreatDoor.K

/- The machine of package source: pairs of pairs, told whole. -/
namespace Go.Proofs.YtmodmojocclmaaaGreatDoor.K
open Go Go.RowKit
namespace So

theorem wp_store_kids {o : Oper} {a : Act} {w : World} {K : Act → World → Prop} {Q : Exit → Act → World → Prop} (x y : Operand) (ho : o.op = .store 36 x y)
  (g i : Nat) (A : Option Addr) (n c : Nat) (hx : a.eval x = .pointer (some ⟨g, i, none⟩)) (hy : a.eval y = .slice A n c) (t : TypeId) (cells : Array Value) (hg : Lies w g t cells) (old : Value) (hi : cells[i]? = some old)
  (h : K (a.put o.dst undef) (w.setCell ⟨g, i, none⟩ (.slice A n c))) : o.wp Tryz.prog a w K Q := by
 have c0 := hg.cell i
 rw [hi] at c0
 have f0 := hg.free i
 have l0 := hg.lt
 unfold Oper.wp execOp
 simp only [ho, hx, hy]
 go_simp
 exact h
theorem add_zero (g j : Nat) : (⟨g, 0, none⟩ : Addr).add j = ⟨g, j, none⟩ := by unfold Addr.add; split <;> simp_all
theorem new_row (w : World) (l : List Value) (t : TypeId) : ∀ (j : Nat) u, l[j]? = some u → (w.alloc (.cells l.toArray t)).cell? ((⟨w.heap.size, 0, none⟩ : Addr).add j) = some u := by
 intro j u hj
 rw [add_zero, (Lies.new w t l.toArray).cell]
 simpa using hj
def joinM (R S : Mem) : Mem := fun b => match R b with | some o => some o | none => S b
theorem joinM_l (R S : Mem) : MLe R (joinM R S) := fun b o h => by unfold joinM; rw [h]
theorem joinM_r {R S : Mem} {n : Nat} (hR : ∀ b o, R b = some o → b < n) (hS : ∀ b o, S b = some o → n ≤ b) : MLe S (joinM R S) := fun b o h => by
 unfold joinM
 cases hr : R b with
 | none => exact h
 | some o2 => have := hR b o2 hr; have := hS b o h; omega
theorem joinM_or {R S : Mem} {b : Nat} {o : Obj} (h : joinM R S b = some o) : R b = some o ∨ S b = some o := by
 unfold joinM at h
 cases hr : R b with
 | none => rw [hr] at h; exact .inr h
 | some o2 => rw [hr] at h; exact .inl h
def rowM (R : Mem) (w : World) (g : Nat) : Mem := fun b => if b = g then w.heap[b]? else R b
theorem rowM_le {R : Mem} {w : World} {g : Nat} (h : ∀ o, R g ≠ some o) : MLe R (rowM R w g) := fun b o hb => by
 unfold rowM
 by_cases e : b = g
 ·subst e; exact absurd hb (h o)
 ·rw [if_neg e]; exact hb
theorem rowM_sub {R : Mem} {w : World} {g : Nat} (h : Sub R w) : Sub (rowM R w g) w := fun b o hb => by
 unfold rowM at hb
 by_cases e : b = g
 ·rw [if_pos e] at hb; exact hb
 ·rw [if_neg e] at hb; exact h b o hb
theorem rowM_cell {R : Mem} {w : World} {g i : Nat} {u : Value} (h : w.cell? ⟨g, i, none⟩ = some u) : HC (rowM R w g) ⟨g, i, none⟩ u := by
 have hb := World.block_lt_of_cell? w ⟨g, i, none⟩ h
 refine ⟨_, (if_pos rfl).trans (Array.getElem?_eq_getElem hb), fun w' h' => ?_⟩
 rw [← h]
 exact World.cell?_of_block (h'.trans (Array.getElem?_eq_getElem hb).symm)
def WhRel (a : Vt) (w1 : World) (ob : Nat) (s : ByteArray) (x : Value) (wr : World) : Prop :=
 ∃ (q : Nat) (A : Option Addr) (m c : Nat) (R : Mem) (L : List (List Value)), q ≤ 2 ∧ x = .int .i64 (q : Int) ∧ L.length = q ∧ Lies wr ob 38 #[.int .i64 4, .int .i64 0, .string s, .slice A m c] ∧ wr.ownsRow (ob + 1) 38 4 (.slice A m c) q L.flatten ∧ Sub R wr ∧
  (∀ b o, R b = some o → ob + 1 ≤ b ∧ (Value.slice A m c).ownBlock ≠ some b) ∧ (∀ l ∈ L, VtA R a l) ∧ Below ob w1 wr
theorem wh_next {a : Vt} {w1 wr W4 w5 w6 : World} {ob : Nat} {s : ByteArray} {q : Nat} {A : Option Addr} {m c : Nat} {R R5 : Mem} {L : List (List Value)} {l5 : List Value} {A6 : Option Addr} {m6 c6 : Nat} (hq : q < 2) (hL : L.length = q) (hz : ob < w1.heap.size ∨ ob = w1.heap.size)
  (hl : Lies wr ob 38 #[.int .i64 4, .int .i64 0, .string s, .slice A m c]) (ho : wr.ownsRow (ob + 1) 38 4 (.slice A m c) q L.flatten) (hs : Sub R wr) (hR : ∀ b o, R b = some o → ob + 1 ≤ b ∧ (Value.slice A m c).ownBlock ≠ some b) (hv : ∀ l ∈ L, VtA R a l) (hk : Below ob w1 wr)
  (h4 : Below wr.heap.size wr W4) (h4s : wr.heap.size ≤ W4.heap.size) (h5 : Below W4.heap.size W4 w5) (hs5 : Sub R5 w5) (hR5 : ∀ b o, R5 b = some o → W4.heap.size ≤ b) (hv5 : VtA R5 a l5) (o : Obj)
  (h6 : w6.ownsRow (ob + 1) 38 4 (.slice A6 m6 c6) (q + 1) (L.flatten ++ l5)) (hg : (w5.alloc o).grownBy w6 (Value.slice A m c).ownBlock) (hat : (Value.slice A6 m6 c6).ownBlock = (Value.slice A m c).ownBlock ∨ (Value.slice A6 m6 c6).ownBlock = some (w5.alloc o).heap.size) :
  WhRel a w1 ob s (.int .i64 ((q + 1 : Nat) : Int)) (w6.setCell ⟨ob, 3, none⟩ (.slice A6 m6 c6)) := by
 have hob := hl.lt
 have own := own_block ho
 have s45 := h5.size
 have hz6 : (w5.alloc o).heap.size = w5.heap.size + 1 := by simp
 have hs6 := hg.size
 have hblk : ∀ b, b < w5.heap.size → (Value.slice A m c).ownBlock ≠ some b → w6.heap[b]? = w5.heap[b]? := fun b h1 h2 => (hg.block b (by omega) (fun e => h2 e.symm)).trans (Below.heap_alloc _ _ _ h1)
 have hold : ∀ b, b < wr.heap.size → w5.heap[b]? = wr.heap[b]? := fun b h1 => (h5.block b (by omega)).trans (h4.block b h1)
 have hset : ∀ b, b ≠ ob → (w6.setCell ⟨ob, 3, none⟩ (.slice A6 m6 c6)).heap[b]? = w6.heap[b]? := fun b h1 => Below.heap_setCell _ _ _ _ h1
 have hRlt : ∀ b o, R b = some o → b < wr.heap.size := fun b o h => (Array.getElem?_eq_some_iff.1 (hs b o h)).1
 have hR5lt : ∀ b o, R5 b = some o → b < w5.heap.size := fun b o h => (Array.getElem?_eq_some_iff.1 (hs5 b o h)).1
 have hownob : (Value.slice A m c).ownBlock ≠ some ob := fun e => by have := own ob e; omega
 refine ⟨q + 1, A6, m6, c6, joinM R R5, L ++ [l5], by omega, rfl, by simp [hL], ?_, ?_, ?_, ?_, ?_, ?_⟩
 ·have : Lies w6 ob 38 #[.int .i64 4, .int .i64 0, .string s, .slice A m c] := ((hblk ob (by omega) hownob).trans (hold ob hob)).trans hl
  exact this.set 3 _
 ·rw [List.flatten_append]
  have e : ([l5] : List (List Value)).flatten = l5 := by simp
  rw [e]
  exact own_same h6 fun g h1 _ => hset g (by omega)
 ·intro b x hx
  rcases joinM_or hx with h | h
  ·have h1 := hR b x h
   exact (hset b (by omega)).trans ((hblk b (by have := hRlt b x h; omega) h1.2).trans ((hold b (hRlt b x h)).trans (hs b x h)))
  ·have h1 := hR5 b x h
   exact (hset b (by omega)).trans ((hblk b (hR5lt b x h) (fun e => by have := own b e; omega)).trans (hs5 b x h))
 ·intro b x hx
  rcases joinM_or hx with h | h
  ·have h1 := hR b x h
   have h2 := hRlt b x h
   refine ⟨h1.1, fun e => ?_⟩
   rcases hat with h3 | h3
   ·exact h1.2 (h3.symm.trans e)
   ·rw [h3] at e; cases e; omega
  ·have h1 := hR5 b x h
   have h2 := hR5lt b x h
   refine ⟨by omega, fun e => ?_⟩
   rcases hat with h3 | h3
   ·have := own b (h3.symm.trans e); omega
   ·rw [h3] at e; cases e; omega
 ·intro l hl2
  rcases List.mem_append.1 hl2 with h | h
  ·exact (hv l h).le (joinM_l _ _)
  ·obtain rfl : l = l5 := by simpa using h
   exact hv5.le (joinM_r hRlt (fun b o h => by have := hR5 b o h; omega))
 ·have hb4 : Below ob w1 W4 := hk.trans (h4.mono (by omega))
  have hb5 : Below ob w1 w5 := hb4.trans (h5.mono (by omega))
  have hb6 : Below ob w1 (w5.alloc o) := hb5.alloc (by omega) _
  exact (hb6.grown hg (by omega) (fun r hr => by have := own r hr; omega)).setCell (p := ⟨ob, 3, none⟩) (Nat.le_refl ob) _
theorem wh_end {a : Vt} {w w1 wr W : World} {ob : Nat} {nm : Str} (h : WhRel a w1 ob (ba nm) (.int .i64 2) wr) (hob : w.heap.size ≤ ob) (hw : ∀ b, ob < b → b < wr.heap.size → W.heap[b]? = wr.heap[b]?) (hB : Below w.heap.size w W) :
  ∃ A m c, Lies wr ob 38 #[.int .i64 4, .int .i64 0, .string (ba nm), .slice A m c] ∧ WhEnd w (.mk 4 0 nm [a, a]) (.returned (.agg #[.int .i64 4, .int .i64 0, .string (ba nm), .slice A m c])) W := by
 obtain ⟨q, A, m, c, R, L, hq, hx, hL, hl, ho, hs, hR, hv, hk⟩ := h
 obtain rfl : q = 2 := by
  have : (2 : Int) = (q : Int) := by injection hx
  omega
 obtain ⟨l0, l1, rfl⟩ : ∃ l0 l1, L = [l0, l1] := by
  match L, hL with
  | [l0, l1], _ => exact ⟨_, _, rfl⟩
 obtain ⟨_, _, _, _, _, _, e0⟩ := (hv l0 (by simp)).form
 obtain ⟨_, _, _, _, _, _, e1⟩ := (hv l1 (by simp)).form
 have n0 : l0.length = 4 := by rw [e0]; rfl
 have n1 : l1.length = 4 := by rw [e1]; rfl
 obtain ⟨g, cap, hvg, hg1, hcap, hcells⟩ : ∃ g cap, Value.slice A m c = .slice (some ⟨g, 0, none⟩) 2 cap ∧ ob + 1 ≤ g ∧ 2 ≤ cap ∧ ∀ (j : Nat) u, ([l0, l1].flatten)[j]? = some u → wr.cell? ⟨g, j, none⟩ = some u := by
  have ho2 := ho
  obtain ⟨_, h | ⟨g, cap, cells, hvg, hg, hlies, h1, h2, h3, h4⟩⟩ := ho
  ·exact absurd h.2 (by decide)
  ·refine ⟨g, cap, hvg, hg, by omega, fun j u hu => ?_⟩
   have := World.ownsRow.cells ho2 (g := g) (by rw [hvg]; rfl) j u hu
   rwa [add_zero] at this
 injection hvg with hA hm hc
 subst hA hm hc
 refine ⟨_, _, _, hl, ?_⟩
 have hglt : g < wr.heap.size := by
  have h0 := hcells 0 (l0[0]'(by omega)) (by simp [List.getElem?_append_left (show 0 < l0.length by omega)])
  exact World.block_lt_of_cell? wr ⟨g, 0, none⟩ h0
 have hsw : Sub R W := fun b o hb => (hw b (by have := (hR b o hb).1; omega) (Array.getElem?_eq_some_iff.1 (hs b o hb)).1).trans (hs b o hb)
 have hRg : ∀ o, R g ≠ some o := fun o hb => (hR g o hb).2 rfl
 have hcW : ∀ (j : Nat) u, ([l0, l1].flatten)[j]? = some u → W.cell? ⟨g, j, none⟩ = some u := fun j u hu => (World.cell?_of_block (hw g (by omega) hglt)).trans (hcells j u hu)
 refine ⟨rowM R W g, [.int .i64 4, .int .i64 0, .string (ba nm),   .slice (some ⟨g, 0, none⟩) 2 c], rfl, rowM_sub hsw, fun b o hb => ?_, ?_, hB⟩
 ·unfold rowM at hb
  by_cases e : b = g
  ·omega
  ·rw [if_neg e] at hb; have := (hR b o hb).1; omega
 ·refine .mk 4 0 nm [a, a] _ (fun i => if i = 0 then l0 else l1) ⟨_, _, rfl, hcap, by show 2 ≤ 2000000; omega, fun _ => ⟨g, 0, rfl⟩⟩ (fun i t h => ?_) (fun i hi j u hu => ?_)
  ·match i, h with
   | 0, h => cases h; exact (hv l0 (by simp)).le (rowM_le hRg)
   | 1, h => cases h; exact (hv l1 (by simp)).le (rowM_le hRg)
  ·have hi2 : i < 2 := hi
   show HC _ ⟨g, 0 + i * 4 + j, none⟩ u
   refine rowM_cell (hcW _ u ?_)
   have e : [l0, l1].flatten = l0 ++ l1 := by simp
   rw [e]
   match i, hi2 with
   | 0, _ =>
    have hu2 : l0[j]? = some u := hu
    have := (List.getElem?_eq_some_iff.1 hu2).1
    rw [show 0 + 0 * 4 + j = j by omega, List.getElem?_append_left this]; exact hu2
   | 1, _ =>
    have hu2 : l1[j]? = some u := hu
    rw [show 0 + 1 * 4 + j = l0.length + j by omega, List.getElem?_append_right (by omega), Nat.add_sub_cancel_left]; exact hu2
end So
end Go.Proofs.YtmodmojocclmaaaGreatDoor.K
