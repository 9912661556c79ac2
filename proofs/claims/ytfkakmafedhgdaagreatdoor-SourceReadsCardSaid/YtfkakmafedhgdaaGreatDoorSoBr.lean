/- SourceReads: what is read is printed. -/
import Derived.Test.YtfkakmafedhgdaaGreatDoorSoBf
namespace Go.Proofs.YtfkakmafedhgdaaGreatDoor.K
open Go Go.RowKit
namespace So

theorem reads_call {X : Nat} {w : World} {k : Nat} {ys : List Int} {C : List Value} (hta : TA X w (rT k) C) (hX : X < w.heap.size) {iv : Value} (hi : InV (memOf w) iv ys) (hk : k ≤ 20) (hy : ys.length ≤ 30) :
    Calls Tryz.prog 9 #[.agg ([Value.slice none 0 0, Value.slice none 0 0] ++ C).toArray, iv, .int .i64 1500] w fun e w' => ∃ kk nn A m c st ko, e = .returned (.agg (runL (if k ≤ ys.length then 1 else 3) kk nn (.slice A m c) st ko)) ∧ IntsS w' (.slice A m c) (ys.take k) ∧ Below w.heap.size w w' := by
  obtain ⟨f, hres, h1, h2, htr⟩ := reads_run k [] unitV ys [] 0 1500 (by simp; omega) (by omega)
  have hrun : run 1500 (start (rT k) ys) = f := hres.2
  have hfin : ∀ (kk nn : Int) (o : Int) e w', f.out = o → ToldEnd f kk nn w e w' → ∃ kk nn A m c st ko, e = .returned (.agg (runL o kk nn (.slice A m c) st ko)) ∧ IntsS w' (.slice A m c) (ys.take k) ∧ Below w.heap.size w w' := fun kk nn o e w' ho h => by
    obtain ⟨tv, rfl, hown, hb⟩ := h
    rw [htr, List.nil_append] at hown
    have hin := ints_own hown
    obtain ⟨A, c, rfl, _⟩ := id hin
    exact ⟨kk, nn, A, _, c, _, _, by rw [ho], hin, hb⟩
  by_cases hc : k ≤ ys.length
  · rw [if_pos hc]
    obtain ⟨e1, e2, e3⟩ := h1 hc
    exact (run_val w _ iv 1500 (by omega) (prog_tm hta hX) hi hres.1 (k' := 3) (n' := 0) (by rw [hrun]; exact ⟨e1, e2, e3⟩)).mono fun e w' h => hfin _ _ 1 e w' e1 (by rw [hrun] at h; exact h)
  · rw [if_neg hc]
    have e1 := h2 (by omega)
    exact (run_any w _ iv 1500 (by omega) (prog_tm hta hX) hi hres.1 (by rw [hrun, e1]; decide)).mono fun e w' h => hfin _ _ 3 e w' e1 (by rw [hrun] at h; exact h)
set_option maxRecDepth 100000 in
set_option maxHeartbeats 8000000 in
theorem sourceReads_any (n : Int) (v : Value) (xs : List Int) (w : World) (hv : SrcV w v (xs.map (Value.int .i64 ·))) (hG : Good w) (hl : xs.length ≤ 140737488351232) :
    Calls Tryz.prog 4 #[.int .i64 n, v] w fun e w' => e = .returned (.bool true) ∧ Below w.heap.size w w' := by
  obtain ⟨i0, hi, hz0, hz1, hz2⟩ := info_i
  obtain ⟨ie, hie, hiz, his⟩ := info39
  obtain ⟨A, c, rfl, hlc, hcut⟩ := hv.cut 30
  have hm := min_lenI xs 30
  obtain ⟨ys, hys⟩ : ∃ ys, ys = xs.take 30 := ⟨_, rfl⟩
  rw [← hys] at hm hcut
  have hyl : ys.length ≤ 30 := by rw [hys, List.length_take]; omega
  have hyc : ys.length ≤ c := by rw [hys, List.length_take]; omega
  have hl0 : (0:Int) ≤ (xs.length : Int) := by omega
  obtain ⟨m, hm0, hbits⟩ := and_mask n 65535 (by decide)
  have htm : (bits .and .i64 n 65535).tmod 21 = ((m % 21 : Nat) : Int) := by
    rw [show (65535 : Int) = ((65535 : Nat) : Int) from rfl, hbits]
    rfl
  have hk20 : m % 21 ≤ 20 := by omega
  obtain ⟨k, hk⟩ : ∃ k, k = m % 21 := ⟨_, rfl⟩
  rw [← hk] at htm hk20
  have HM := Lib.hid hm
  have HSH := Lib.hid (shown_any w hG)
  have HCUT := Lib.hid hcut
  have HHE := Lib.hid (show ∀ q ∈ ys.map (Value.int .i64 ·), q.oneCell' = true from fun q hq => by simp at hq; obtain ⟨a, _, rfl⟩ := hq; rfl)
  clear hm hv hcut hys hbits hk hm0 hG
  go_enter Tryz.func4, Tryz.ntmps4
  go_wp2_with fail
  refine HSH.out.mono ?_
  rintro e w1 ⟨rfl, hb1⟩
  have hsr2 := (HCUT.out.later hb1).later (below_new w1 (.cells #[] 3))
  have hB0 : Below w.heap.size w (w1.alloc (.cells #[] 3)) := hb1.alloc hb1.size _
  have ho0 : (w1.alloc (.cells #[] 3)).ownsRow w1.heap.size 3 1 (.slice (some ⟨w1.heap.size, 0, none⟩) 0 0) 0 [] := ⟨rfl, .inr ⟨w1.heap.size, 0, _, rfl, Nat.le_refl _, Lies.new _ _ _, Nat.zero_le _, Nat.zero_le _, rfl, rfl⟩⟩
  have HSR := Lib.hid hsr2
  have HB0 := Lib.hid hB0
  have HO0 := Lib.hid ho0
  have HS1 := Lib.hid hb1.size
  clear hsr2 hB0 ho0 hb1
  go_upto_region 4 with (first | (at_builtin; rw [show ((30 : Int)) = ((30 : Nat) : Int) from rfl, HM.out]; refine wpList_append_srcV rfl (.tmp 15) (.tmp 20) 22 rfl w1.heap.size 3 i0 (.int .i64 0) 8 Tryz.underlying22 hi hz0 hz1 hz2 (by decide) _ 0 [] rfl HO0.out _ (ys.map (Value.int .i64 ·)) rfl HSR.out HHE.out (by unfold maxLen; simp; omega) (by simp; omega) (by simp) ?_; intro v2 w2 ho2 hg2; have HO2 := Lib.hid ho2; have HG2 := Lib.hid hg2; clear ho2 hg2))
  have ho2 := HO2.out
  rw [Nat.zero_add, List.nil_append, List.length_map] at ho2
  have hb2 : Below w.heap.size w w2 := HB0.out.grown HG2.out (by have := HS1.out; simp; omega) (fun r hr => by cases hr; exact HS1.out)
  obtain ⟨A2, c2, hv2, hc2, hcc⟩ := ints_own ho2
  subst hv2
  obtain ⟨UC, hUC⟩ : ∃ C : List Value, C = (tmL 4 (.int .i64 0) [] [] 0 (.slice none 0 0) (.slice none 0 0) [.int .i64 0, .string ⟨#[]⟩, .int .i64 0, .slice none 0 0, .slice none 0 0, .int .i64 0, .slice none 0 0, .int .i64 0, .int .i64 0, .string ⟨#[]⟩, .int .i64 0, .slice none 0 0, .slice none 0 0, .int .i64 0]) := ⟨_, rfl⟩
  obtain ⟨tb, htb⟩ : ∃ tb, tb = w2.heap.size := ⟨_, rfl⟩
  obtain ⟨W3, hW3, hbW3, hzW3, lW3⟩ := keep_term w2 UC.toArray
  have HBU := Lib.hid (show Tryz.prog.built 33 [(0, .int .i64 4)] = some UC.toArray by rw [hUC]; kernel_rfl)
  have HRS := Lib.hid (show (Tryz.prog.info? 33).map (·.size) = some UC.toArray.size by rw [szTerm, hUC]; rfl)
  have HRO := Lib.hid (show UC.toArray.all (·.oneCell') = true by rw [hUC]; simp [tmL, Value.oneCell'])
  have hrz : zC.size = UC.toArray.size := by rw [hUC]; rfl
  have hlz := Lies.new w2 33 zC
  have HRZ := Lib.hid hrz
  have LZ := Lib.hid hlz
  have HW3 := Lib.hid hW3
  have HBW := Lib.hid (show Below w.heap.size w W3 from hb2.trans (hbW3.mono hb2.size))
  have HO2N := Lib.hid ho2
  have HB23 := Lib.hid hbW3
  have HTA0 := Lib.hid (show TA tb W3 unT UC by rw [hUC]; exact unit_ta _ _)
  have HL0 := Lib.hid (show Lies W3 tb 33 UC.toArray by rw [htb]; exact lW3)
  have HZ3 := Lib.hid (show tb < W3.heap.size by omega)
  have HWB := Lib.hid (show w.heap.size ≤ tb by have := hb2.size; omega)
  have HUL := Lib.hid (show UC.length = 21 by rw [hUC]; rfl)
  have HG1 := Lib.hid (show w1.heap.size ≤ tb by have := HG2.out.size; simp at this; omega)
  have HTBW := Lib.hid htb
  clear htb ho2 hb2 hcc hUC hW3 hbW3 hzW3 lW3 hrz hlz HO2 HG2
  unfold zC at HRZ LZ HW3
  go_wp2_with (first
    | (refine wpList_buildTo rfl 33 _ rfl UC.toArray (by rw [Array.toList_map]; exact HBU.out) ?_)
    | (refine wpList_store_rowTo rfl 33 (.tmp 6) (.tmp 22) rfl rfl w2.heap.size UC.toArray rfl rfl 33 _ ?_ HRS.out HRZ.out HRO.out ?_; exact LZ.out; rw [← HW3.out, ← HTBW.out]))
  go_loopw [7] (fun x wr => ∃ (q : Nat) (C : List Value), q ≤ k ∧ x = .int .i64 (q : Int) ∧ TA tb wr (rT q) C ∧ Lies wr tb 33 C.toArray ∧ KX tb W3 wr) (fun x _ => k - (intOf x).toNat)
  case atStart => exact ⟨0, UC, Nat.zero_le _, rfl, HTA0.out, HL0.out, KX.refl _ _⟩
  case round =>
    obtain ⟨q, C, hq, rfl, hta, hlies, hkx⟩ := hrel
    have HTA := Lib.hid hta
    have HL := Lib.hid hlies
    have HKX := Lib.hid hkx
    have HCL := Lib.hid hta.len
    have HCZ := Lib.hid (show (Tryz.prog.info? 33).map (·.size) = some C.length by rw [szTerm, hta.len])
    have HTB := Lib.hid (show tb < wr.heap.size by have := HZ3.out; have := hkx.size; omega)
    have HCS := Lib.hid (show (Tryz.prog.info? 33).map (·.size) = some C.toArray.size by rw [szTerm]; simp [hta.len])
    clear hta hlies hkx
    by_cases hlt : q < k
    · have hqi : (q : Int) < (k : Int) := by omega
      go_wp2_with fail
      refine TillLast.start (S := fun VV => Lies VV tb 33 C.toArray) (z := 5) (by kernel_rfl) ?_
      have hS : Lies wr.drew tb 33 C.toArray := HL.out
      have HDR := Lib.hid (show Below wr.heap.size wr wr.drew from (Below.refl _ _).drew)
      refine TillLast.take (i := 3) (oi := ⟨some 31, _, _, _, _, _⟩) (v := .agg C.toArray) rfl (by kernel_rfl) (by kernel_rfl) (by kernel_rfl) (by kernel_rfl) (by decide) (by kernel_rfl) (fun _ _ _ h => h) (yieldsIf_load_mid (by rfl) 33 (.tmp 6) rfl tb 0 rfl C _ (fun w' hS' => Lies.range hS') Tryz.underlying33 rfl HCZ.out) hS ?_
      try simp only [Act.put, List.setIfInBounds_toArray, List.set_cons_zero, List.set_cons_succ]
      refine TillLast.ready (rs := [0]) (by kernel_rfl) (by simp) ?_
      refine NextAll.cons (o := ⟨some 28, _, _, _, _, _⟩) rfl (fun K hK => ?_) NextAll.nil
      go_simp
      refine (op_ta tb _ [114, 101, 97, 100] (KidsA.none _)).mono ?_
      rintro e w4 ⟨lr, rfl, hta4, hb4⟩
      have HB4 := Lib.hid (show Below wr.heap.size wr w4 from HDR.out.trans hb4)
      have HT4 := Lib.hid hta4
      obtain ⟨D1, hD1⟩ : ∃ D, D = [lr].flatten := ⟨_, rfl⟩
      have HFD1 := Lib.hid (show Instr.fill (fun i => some (i * 21, 21)) ((Array.range (1 * 21)).map ((Value.agg zC).cells[· % (Value.agg zC).cells.size]!)) [(0, Value.agg lr.toArray)] = some D1.toArray by rw [hD1]; exact fill_one' lr hta4.len _ (by simp))
      have HD1 := Lib.hid hD1
      clear hD1
      have HK4 := Lib.hid (show KidsA (memX tb (w4.alloc (.cells D1.toArray 33))) (.slice (some ⟨w4.heap.size, 0, none⟩) 1 1) [opT [114, 101, 97, 100] []] from kids_new (w := w4) (ls := [lr]) rfl (by show 1 ≤ 2000000; omega) (fun i t l h1 h2 => by match i with | 0 => cases h1; cases h2; exact hta4 | i + 1 => cases h1) (by have := HTB.out; have := HB4.out.size; omega) (by rw [← HD1.out]; exact Lies.new w4 33 D1.toArray) (below_new w4 _) rfl)
      have HA4 := Lib.hid (show Below wr.heap.size wr (w4.alloc (.cells D1.toArray 33)) from HB4.out.alloc HB4.out.size _)
      clear hta4 hb4
      (try dsimp only)
      refine hK.out _ _ (fun _ => (HB4.out.block _ HTB.out).trans HL.out) ?_
      clear hK K
      try simp only [Act.put, List.setIfInBounds_toArray, List.set_cons_zero, List.set_cons_succ]
      refine TillLast.ready (rs := [1]) (by kernel_rfl) (by simp) ?_
      refine NextAll.cons (o := ⟨some 29, _, _, _, _, _⟩) rfl (fun K hK => ?_) NextAll.nil
      rw [if_pos (by kernel_rfl)]
      refine wp_buildSlice 24 33 1 _ rfl D1.toArray ie (.agg zC) Tryz.underlying24 hie hiz (by rw [his]; decide) (by rw [his]; decide) (by rw [his, Array.toList_map]; exact HFD1.out) ?_
      refine hK.out _ _ (fun _ => (HA4.out.block _ HTB.out).trans HL.out) ?_
      clear hK K
      try simp only [Act.put, List.setIfInBounds_toArray, List.set_cons_zero, List.set_cons_succ]
      refine TillLast.ready (rs := [2]) (by kernel_rfl) (by simp) ?_
      refine NextAll.cons (o := ⟨some 30, _, _, _, _, _⟩) rfl (fun K hK => ?_) NextAll.nil
      go_simp
      refine (op_ta tb _ [112, 114, 105, 110, 116] HK4.out).mono ?_
      rintro e w5 ⟨lp, rfl, hta5, hb5⟩
      have HB5 := Lib.hid (show Below wr.heap.size wr w5 from HA4.out.trans (hb5.mono HA4.out.size))
      have HT5 := Lib.hid hta5
      clear hta5 hb5
      (try dsimp only)
      refine hK.out _ _ (fun _ => (HB5.out.block _ HTB.out).trans HL.out) ?_
      clear hK K
      try simp only [Act.put, List.setIfInBounds_toArray, List.set_cons_zero, List.set_cons_succ]
      refine TillLast.ready (rs := [4]) (by kernel_rfl) (by simp) ?_
      refine NextAll.cons (o := ⟨some 32, _, _, _, _, _⟩) rfl (fun K hK => ?_) NextAll.nil
      go_simp
      refine (let_ta tb _ (by have := HTB.out; have := HB5.out.size; omega) [95] HT5.out (HTA.out.later HB5.out)).mono ?_
      rintro e w6 ⟨ln, rfl, hta6, hb6⟩
      have HB6 := Lib.hid (show Below wr.heap.size wr w6 from HB5.out.trans (hb6.mono HB5.out.size))
      have HT6 := Lib.hid hta6
      have HNO := Lib.hid hta6.one
      have HNZ := Lib.hid (show C.toArray.size = ln.toArray.size by simp [HCL.out, hta6.len])
      have HNS := Lib.hid (show (Tryz.prog.info? 33).map (·.size) = some ln.toArray.size by rw [szTerm]; simp [hta6.len])
      clear hta6 hb6
      (try dsimp only)
      refine hK.out _ _ (fun _ => (HB6.out.block _ HTB.out).trans HL.out) ?_
      clear hK K
      try simp only [Act.put, List.setIfInBounds_toArray, List.set_cons_zero, List.set_cons_succ]
      refine TillLast.ready (rs := [5]) (by kernel_rfl) (by simp) ?_
      refine NextAll.cons (o := ⟨none, _, _, _, _, _⟩) rfl (fun K hK => ?_) NextAll.nil
      rw [if_pos (by kernel_rfl)]
      refine wp_store_row 33 (.tmp 6) (.tmp 32) rfl tb ln.toArray rfl rfl 33 C.toArray ((HB6.out.block _ HTB.out).trans HL.out) HNS.out HNZ.out HNO.out ?_
      refine hK.out _ _ (fun h => absurd (h.symm.trans (by kernel_rfl : _ = true)) (by decide)) ?_
      clear hK K
      try simp only [Act.put]
      refine TillLast.done (by kernel_rfl) ?_ _
      have HTN := Lib.hid (show TA tb (w6.setRow tb ln.toArray) (rT (q + 1)) ln from HT6.out.set _)
      have HLN := Lib.hid (show Lies (w6.setRow tb ln.toArray) tb 33 ln.toArray from lies_setRow' ((HB6.out.block _ HTB.out).trans HL.out) _)
      have HKN := Lib.hid ((HKX.out.below HB6.out).set ln.toArray)
      go_wp2_with fail
      go_roundw
      case rel => exact ⟨q + 1, ln, by omega, by go_num, HTN.out, HLN.out, HKN.out⟩
      case measure => (simp [intOf] <;> omega)
    · obtain rfl : q = k := by omega
      have hqi : ¬ (q : Int) < (q : Int) := by omega
      have HRUNC := Lib.hid (reads_call HTA.out HTB.out (inv_own (own_same HO2N.out fun g _ hg => (HKX.out.block g (by have := HZ3.out; have := HB23.out.size; omega) (by have := HTBW.out; omega)).trans (HB23.out.block g hg)) (by omega)) hk20 hyl)
      have HBP := Lib.hid (built_prog C HCL.out)
      have HIY := Lib.hid (show IntsS wr (.slice A2 ys.length c2) ys from ints_own (own_same HO2N.out fun g _ hg => (HKX.out.block g (by have := HZ3.out; have := HB23.out.size; omega) (by have := HTBW.out; omega)).trans (HB23.out.block g hg)))
      have HWR := Lib.hid (HKX.out.all HBW.out HWB.out)
      go_wp2_with (first
        | (refine wpList_load_row rfl 33 (.tmp 6) rfl tb rfl 33 C.toArray (0, 0) _ ?_ Tryz.underlying33 rfl HCS.out ?_; exact HL.out)
        | (refine wpList_buildTo rfl 47 _ rfl ([Value.slice none 0 0, Value.slice none 0 0] ++ C).toArray (by rw [Array.toList_map]; exact HBP.out) ?_))
      refine HRUNC.out.mono ?_
      rintro e w7 ⟨kk, nn, A7, m7, c7, st7, ko7, rfl, hin7, hb7⟩
      obtain ⟨R7, hR7⟩ : ∃ R, R = runL (if q ≤ ys.length then 1 else 3) kk nn (.slice A7 m7 c7) st7 ko7 := ⟨_, rfl⟩
      rw [← hR7]
      obtain ⟨W7, hW7, hbW7, hzW7, lW7⟩ := keep_run w7 R7
      have HSZ7 := Lib.hid (show (Tryz.prog.info? 42).map (·.size) = some R7.size by rw [szRun, hR7]; rfl)
      have HON7 := Lib.hid (show R7.all (·.oneCell') = true by rw [hR7]; simp [runL, Value.oneCell'])
      have HZZ7 := Lib.hid (show (#[.int .i64 0, .int .i64 0, .int .i64 0, .string ⟨#[]⟩, .slice none 0 0, .slice none 0 0, .int .i64 0, .int .i64 0] : Array Value).size = R7.size by rw [hR7]; rfl)
      have HR7 := Lib.hid hR7
      have HW7 := Lib.hid hW7
      have LW7 := Lib.hid lW7
      have LV7 := Lib.hid (Lies.new w7 42 #[.int .i64 0, .int .i64 0, .int .i64 0, .string ⟨#[]⟩, .slice none 0 0, .slice none 0 0, .int .i64 0, .int .i64 0])
      have HB7 := Lib.hid (show Below w.heap.size w W7 from (HWR.out.trans (hb7.mono HWR.out.size)).trans (hbW7.mono (by have := HWR.out.size; have := hb7.size; omega)))
      have HI7 := Lib.hid (show IntsS W7 (.slice A7 m7 c7) (ys.take q) from hin7.later hbW7)
      have HY7 := Lib.hid (show IntsS W7 (.slice A2 ys.length c2) ys from (HIY.out.later hb7).later hbW7)
      have HS7 := Lib.hid (show ys.length ≤ 30 from hyl)
      clear hin7 hb7 hR7 hW7 hbW7 hzW7 lW7 hqi
      go_upto_region 10 with (refine wpList_store_rowTo rfl 42 (.tmp 8) (.tmp 36) rfl rfl w7.heap.size R7 rfl rfl 42 _ ?_ HSZ7.out HZZ7.out HON7.out ?_; exact LV7.out; rw [← HW7.out])
      have hc5 : W7.cell? ⟨w7.heap.size, 5, none⟩ = some (.slice A7 m7 c7) := by rw [LW7.out.cell, HR7.out]; rfl
      have HC5 := Lib.hid hc5
      clear hc5
      by_cases hc : q ≤ ys.length
      · have hmin : min (q : Int) (ys.length : Int) = ((q : Nat) : Int) := by omega
        have hpc : (q : Nat) ≤ ys.length := by omega
        have hpc2 : (q : Nat) ≤ c2 := by omega
        have hmq : ¬ (q : Int) < (q : Int) := by omega
        have hc0 : W7.cell? ⟨w7.heap.size, 0, none⟩ = some (.int .i64 1) := by rw [LW7.out.cell, HR7.out, if_pos hc]; rfl
        have HC0 := Lib.hid hc0
        have hlt7 := LW7.out.lt
        have hcell : ∀ V : World, Below W7.heap.size W7 V → V.cell? ⟨w7.heap.size, 0, none⟩ = some (.int .i64 1) ∧ V.cell? ⟨w7.heap.size, 5, none⟩ = some (.slice A7 m7 c7) := fun V hV => ⟨(hV.cell (p := ⟨w7.heap.size, 0, none⟩) hlt7).trans HC0.out, (hV.cell (p := ⟨w7.heap.size, 5, none⟩) hlt7).trans HC5.out⟩
        have HC := Lib.hid hcell
        have HYC := Lib.hid (show IntsS W7 (.slice A2 (q) c2) (ys.take (q)) from HY7.out.cut _ hpc)
        have HST := Lib.hid (show ∀ V : World, Below W7.heap.size W7 V → Calls Tryz.prog 12 #[.slice A7 m7 c7, .slice A2 (q) c2] V fun e w' => e = .returned (.bool true) ∧ Below V.heap.size V w' from fun V hV => (same_trace V _ _ (ys.take q) (ys.take (q)) (HI7.out.later hV) (HYC.out.later hV) (by rw [List.length_take]; omega) (by rw [List.length_take]; omega)).mono fun e w' h => ⟨by rw [h.1, show decide (ys.take q = ys.take (q)) = true from decide_eq_true rfl], h.2⟩)
        clear hcell hlt7 hc0
        go_wp2_with fail
        have hdr : Below W7.heap.size W7 W7.drew := (Below.refl _ _).drew
        focus go_region_held3 (fun V => V.cell? ⟨w7.heap.size, 0, none⟩ = some (.int .i64 1) ∧ V.cell? ⟨w7.heap.size, 5, none⟩ = some (.slice A7 m7 c7))
          (first | with_reducible exact HC.out _ hdr | with_reducible exact HC.out _ hb9)
          ((go_at_call 12; refine (HST.out _ hdr).mono ?_; rintro e w9 ⟨rfl, hb9'⟩; have hb9 : Below W7.heap.size W7 w9 := hdr.trans hb9'; clear hb9'))
        all_goals
          go_wp2_with fail
          go_ret
          exact ⟨rfl, HB7.out.trans (hb9.mono HB7.out.size)⟩
      · have hmin : min (q : Int) (ys.length : Int) = ((ys.length : Nat) : Int) := by omega
        have hpc : (ys.length : Nat) ≤ ys.length := by omega
        have hpc2 : (ys.length : Nat) ≤ c2 := by omega
        have hmq : (ys.length : Int) < (q : Int) := by omega
        have hc0 : W7.cell? ⟨w7.heap.size, 0, none⟩ = some (.int .i64 3) := by rw [LW7.out.cell, HR7.out, if_neg hc]; rfl
        have HC0 := Lib.hid hc0
        have hlt7 := LW7.out.lt
        have hcell : ∀ V : World, Below W7.heap.size W7 V → V.cell? ⟨w7.heap.size, 0, none⟩ = some (.int .i64 3) ∧ V.cell? ⟨w7.heap.size, 5, none⟩ = some (.slice A7 m7 c7) := fun V hV => ⟨(hV.cell (p := ⟨w7.heap.size, 0, none⟩) hlt7).trans HC0.out, (hV.cell (p := ⟨w7.heap.size, 5, none⟩) hlt7).trans HC5.out⟩
        have HC := Lib.hid hcell
        have HYC := Lib.hid (show IntsS W7 (.slice A2 (ys.length) c2) (ys.take (ys.length)) from HY7.out.cut _ hpc)
        have HST := Lib.hid (show ∀ V : World, Below W7.heap.size W7 V → Calls Tryz.prog 12 #[.slice A7 m7 c7, .slice A2 (ys.length) c2] V fun e w' => e = .returned (.bool true) ∧ Below V.heap.size V w' from fun V hV => (same_trace V _ _ (ys.take q) (ys.take (ys.length)) (HI7.out.later hV) (HYC.out.later hV) (by rw [List.length_take]; omega) (by rw [List.length_take]; omega)).mono fun e w' h => ⟨by rw [h.1, show decide (ys.take q = ys.take (ys.length)) = true from decide_eq_true (by rw [List.take_of_length_le (by omega), List.take_of_length_le (Nat.le_refl _)])], h.2⟩)
        clear hcell hlt7 hc0
        go_wp2_with fail
        have hdr : Below W7.heap.size W7 W7.drew := (Below.refl _ _).drew
        focus go_region_held3 (fun V => V.cell? ⟨w7.heap.size, 0, none⟩ = some (.int .i64 3) ∧ V.cell? ⟨w7.heap.size, 5, none⟩ = some (.slice A7 m7 c7))
          (first | with_reducible exact HC.out _ hdr | with_reducible exact HC.out _ hb9)
          ((go_at_call 12; refine (HST.out _ hdr).mono ?_; rintro e w9 ⟨rfl, hb9'⟩; have hb9 : Below W7.heap.size W7 w9 := hdr.trans hb9'; clear hb9'))
        all_goals
          go_wp2_with fail
          go_ret
          exact ⟨rfl, HB7.out.trans (hb9.mono HB7.out.size)⟩
end So
end Go.Proofs.YtfkakmafedhgdaaGreatDoor.K
