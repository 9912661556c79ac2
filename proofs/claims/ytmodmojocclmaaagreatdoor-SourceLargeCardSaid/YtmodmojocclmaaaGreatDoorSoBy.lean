/- SourceLarge: what is too large is told by its outermost piece. -/
import Derived.Test.YtmodmojocclmaaaGreatDoorMg40
namespace Go.Proofs.YtmodmojocclmaaaGreatDoor.K
open Go Go.RowKit
namespace So

theorem yields_buildL {P : Program} {o : Oper} {a : Act} (t : TypeId) (parts : Array (Nat × Operand)) (ho : o.op = .build t parts) {cells : Array Value} (hf : P.built t (parts.map fun (i, x) => (i, a.eval x)).toList = some cells) (w : World) : (execOp a.eval o).run P w = .ok (.value (.agg cells)) w := by
 unfold execOp
 simp only [ho, Sem.run_bind, run_build w t _ cells hf, Result.andThen_ok]
 rfl
theorem lit_nil (H : Mem) : InV H (.slice none 0 0) [] := ⟨⟨none, 0, rfl, Nat.le_refl _, Nat.zero_le _, fun h => absurd h (by simp)⟩, fun i n h => by simp at h⟩
theorem told_zero (v : Int) : told (valP v 0) = .mk 1 v [] [] := by
 rw [told_small v (by omega)]
 unfold valP
 rw [whole]
theorem whole_zero (v : Int) : whole (valP v 0) = .mk 1 v [] [] := by
 unfold valP
 rw [whole]
theorem whole_succ (v : Int) (n : Nat) : whole (valP v (n + 1)) = .mk 4 0 [80] [whole (valP v n), whole (valP v n)] := by
 show whole (.con [80] [valP v n, valP v n]) = _
 rw [whole]
 unfold wholeL wholeL wholeL
 rfl
theorem VtA.num {R : Mem} {v : Int} {l : List Value} (h : VtA R (.mk 1 v [] []) l) : ∃ A m c, l = [.int .i64 1, .int .i64 v, .string (ba []), .slice A m c] := by
 cases h with
 | mk _ _ _ _ kv ls hs hv hl =>
  obtain ⟨A, c, rfl, _⟩ := hs
  exact ⟨_, _, _, rfl⟩
theorem VtA.one {R : Mem} {l : List Value} (h : VtA R (.mk 4 0 [80] []) l) : ∃ A c, l = [.int .i64 4, .int .i64 0, .string (ba [80]), .slice A 0 c] := by
 cases h with
 | mk _ _ _ _ kv ls hs hv hl =>
  obtain ⟨A, c, rfl, _⟩ := hs
  exact ⟨_, _, rfl⟩
theorem VtA.two {R : Mem} {a : Vt} {l : List Value} (h : VtA R (.mk 4 0 [80] [a, a]) l) : ∃ g o c k n s A m d, 2 ≤ c ∧ l = [.int .i64 4, .int .i64 0, .string (ba [80]), .slice (some ⟨g, o, none⟩) 2 c] ∧ HR R g (o + 4) [.int .i64 k, .int .i64 n, .string s, .slice A m d] ∧ VtA R a [.int .i64 k, .int .i64 n, .string s, .slice A m d] := by
 cases h with
 | mk _ _ _ _ kv ls hs hv hl =>
  obtain ⟨A, c, rfl, h1, _, h3⟩ := hs
  obtain ⟨g, o, rfl⟩ := h3 (by simp)
  have hv1 := hv 1 a rfl
  have hl1 := hl 1 (by simp)
  obtain ⟨k, n, s, A', m, d, e⟩ := hv1.form
  rw [e] at hv1 hl1
  exact ⟨g, o, c, k, n, s, A', m, d, h1, rfl, hl1, hv1⟩
def LgEnd (v : Int) (k : Nat) (w : World) (e : Ending) (w' : World) : Prop := ∃ R k8 n8 s8 A8 m8 c8 T8 tn8 tc8 st8 ko8, e = .returned (.agg (runG 1 k8 n8 s8 (.slice A8 m8 c8) (.slice T8 tn8 tc8) st8 ko8)) ∧ Sub R w' ∧ (∀ b o, R b = some o → w.heap.size ≤ b) ∧ VtA R (told (valP v k)) [.int .i64 k8, .int .i64 n8, .string s8, .slice A8 m8 c8] ∧ Below w.heap.size w w'
theorem large_call {X : Nat} {w : World} {v : Int} {k : Nat} {C : List Value} (hta : TA X w (largeT v k) C) (hX : X < w.heap.size) (hk : k ≤ 60) :
  Calls Tryz.prog 9 #[.agg ([Value.slice none 0 0, Value.slice none 0 0] ++ C).toArray, .slice none 0 0, .int .i64 1500] w (LgEnd v k w) := by
 obtain ⟨f, hres, e1, e2, e3⟩ := large_run v k 1500 (by omega)
 have hrun : run 1500 (start (largeT v k) []) = f := hres.2
 refine (run_valG w _ (.slice none 0 0) 1500 (by omega) (prog_tm hta hX) (lit_nil _) hres.1 (v := v) (jj := k) (by rw [hrun]; exact ⟨e1, e2, e3⟩)).mono fun e w' h => ?_
 rw [hrun] at h
 obtain ⟨R, k8, n8, s8, A8, m8, c8, T8, tn8, tc8, rfl, h1, h2, h3, h4⟩ := h
 exact ⟨R, k8, n8, s8, A8, m8, c8, T8, tn8, tc8, _, _, by rw [e1], h1, h2, h3, h4⟩
set_option maxRecDepth 100000 in
set_option maxHeartbeats 8000000 in
theorem sourceLarge_any (n v : Int) (w : World) (hG : Good w) : Calls Tryz.prog 7 #[.int .i64 n, .int .i64 v] w fun e w' => e = .returned (.bool true) ∧ Below w.heap.size w w' := by
 obtain ⟨ie, hie, hiz, his⟩ := info39
 obtain ⟨m, hm0, hbits⟩ := and_mask n 65535 (by decide)
 have htm : (bits .and .i64 n 65535).tmod 61 = ((m % 61 : Nat) : Int) := by
  rw [show (65535 : Int) = ((65535 : Nat) : Int) from rfl, hbits]
  rfl
 obtain ⟨k, hk⟩ : ∃ k, k = m % 61 := ⟨_, rfl⟩
 have hk60 : k ≤ 60 := by omega
 rw [← hk] at htm
 have HK60 := Lib.hid hk60
 have HSH := Lib.hid (shown_any w hG)
 clear hbits hm0 hk hG
 go_enter Tryz.func7, Tryz.ntmps7
 go_wp2_with fail
 refine HSH.out.mono ?_
 rintro e w1 ⟨rfl, hb1⟩
 have HB1 := Lib.hid hb1
 clear hb1
 go_wp2_with fail
 refine (variable_ta w1.heap.size w1 [120]).mono ?_
 rintro e w2 ⟨UC, rfl, htx, hb2⟩
 obtain ⟨tb, htb⟩ : ∃ tb, tb = w2.heap.size := ⟨_, rfl⟩
 obtain ⟨W3, hW3, hbW3, hzW3, lW3⟩ := keep_term w2 UC.toArray
 have HRS := Lib.hid (show (Tryz.prog.info? 33).map (·.size) = some UC.toArray.size by rw [szTerm]; simp [htx.len])
 have HRO := Lib.hid (show UC.toArray.all (·.oneCell') = true from htx.one)
 have HRZ := Lib.hid (show zC.size = UC.toArray.size by simp [htx.len, zC])
 have LZ := Lib.hid (Lies.new w2 33 zC)
 have HW3 := Lib.hid hW3
 have HBW0 := Lib.hid (show Below w.heap.size w W3 from (HB1.out.trans (hb2.mono HB1.out.size)).trans (hbW3.mono (by have := HB1.out.size; have := hb2.size; omega)))
 have HTA0 := Lib.hid (show TA tb W3 (chainT 0) UC from (htx.swap (by rw [htb]; exact Nat.le_refl _)).later hbW3)
 have HL0 := Lib.hid (show Lies W3 tb 33 UC.toArray by rw [htb]; exact lW3)
 have HZ3 := Lib.hid (show tb < W3.heap.size by omega)
 have HWB := Lib.hid (show w.heap.size ≤ tb by have := HB1.out.size; have := hb2.size; omega)
 have HTBW := Lib.hid htb
 clear htb htx hb2 hW3 hbW3 hzW3 lW3
 unfold zC at HRZ LZ HW3
 go_wp2_with (first
  | (refine wpList_store_rowTo rfl 33 (.tmp 6) (.tmp 15) rfl rfl w2.heap.size UC.toArray rfl rfl 33 _ ?_ HRS.out HRZ.out HRO.out ?_; exact LZ.out; rw [← HW3.out, ← HTBW.out]))
 go_loopw [7] (fun x wr => ∃ (q : Nat) (C : List Value), q ≤ k ∧ x = .int .i64 (q : Int) ∧ TA tb wr (chainT q) C ∧ Lies wr tb 33 C.toArray ∧ KX tb W3 wr) (fun x _ => k - (intOf x).toNat)
 case atStart => exact ⟨0, UC, Nat.zero_le _, rfl, HTA0.out, HL0.out, KX.refl _ _⟩
 case round =>
  obtain ⟨q, C, hq, rfl, hta, hlies, hkx⟩ := hrel
  have HTA := Lib.hid hta
  have HL := Lib.hid hlies
  have HKX := Lib.hid hkx
  have HCL := Lib.hid hta.len
  have HCZ := Lib.hid (show (Tryz.prog.info? 33).map (·.size) = some C.length by rw [szTerm, hta.len])
  have HTB := Lib.hid (show tb < wr.heap.size by have := HZ3.out; have := hkx.size; omega)
  clear hta hlies hkx
  by_cases hlt : q < k
  ·have hqi : (q : Int) < (k : Int) := by omega
   go_wp2_with fail
   refine TillLast.start (S := fun VV => Lies VV tb 33 C.toArray) (z := 6) (by kernel_rfl) ?_
   have hS : Lies wr.drew tb 33 C.toArray := HL.out
   have HDR := Lib.hid (show Below wr.heap.size wr wr.drew from (Below.refl _ _).drew)
   refine TillLast.take (i := 4) (oi := ⟨some 25, _, _, _, _, _⟩) (v := .agg C.toArray) rfl (by kernel_rfl) (by kernel_rfl) (by kernel_rfl) (by kernel_rfl) (by decide) (by kernel_rfl) (fun _ _ _ h => h) (yieldsIf_load_mid (by rfl) 33 (.tmp 6) rfl tb 0 rfl C _ (fun w' hS' => Lies.range hS') Tryz.underlying33 rfl HCZ.out) hS ?_
   try simp only [Act.put, List.setIfInBounds_toArray, List.set_cons_zero, List.set_cons_succ]
   refine TillLast.ready (rs := [0]) (by kernel_rfl) (by simp) ?_
   refine NextAll.cons (o := ⟨some 21, _, _, _, _, _⟩) rfl (fun K hK => ?_) NextAll.nil
   go_simp
   refine (variable_ta tb _ [120]).mono ?_
   rintro e w4 ⟨l1, rfl, hta4, hb4⟩
   have HB4 := Lib.hid (show Below wr.heap.size wr w4 from HDR.out.trans hb4)
   have HT4 := Lib.hid hta4
   clear hta4 hb4
   (try dsimp only)
   refine hK.out _ _ (fun _ => (HB4.out.block _ HTB.out).trans HL.out) ?_
   clear hK K
   try simp only [Act.put, List.setIfInBounds_toArray, List.set_cons_zero, List.set_cons_succ]
   refine TillLast.ready (rs := [1]) (by kernel_rfl) (by simp) ?_
   refine NextAll.cons (o := ⟨some 22, _, _, _, _, _⟩) rfl (fun K hK => ?_) NextAll.nil
   go_simp
   refine (variable_ta tb _ [120]).mono ?_
   rintro e w5 ⟨l2, rfl, hta5, hb5⟩
   have HB5 := Lib.hid (show Below wr.heap.size wr w5 from HB4.out.trans (hb5.mono HB4.out.size))
   have HT5 := Lib.hid hta5
   have HA5 := Lib.hid hb5
   clear hta5 hb5
   (try dsimp only)
   refine hK.out _ _ (fun _ => (HB5.out.block _ HTB.out).trans HL.out) ?_
   clear hK K
   try simp only [Act.put, List.setIfInBounds_toArray, List.set_cons_zero, List.set_cons_succ]
   have HT45 := Lib.hid (HT4.out.later HA5.out)
   obtain ⟨E, hE⟩ : ∃ D : List Value, D = [l1, l2].flatten := ⟨_, rfl⟩
   have HFE := Lib.hid (show Instr.fill (fun i => some (i * 21, 21)) ((Array.range (2 * 21)).map ((Value.agg zC).cells[· % (Value.agg zC).cells.size]!)) [(0, Value.agg l1.toArray), (1, Value.agg l2.toArray)] = some E.toArray by rw [hE]; exact fill_two l1 l2 HT4.out.len HT5.out.len _ (by simp))
   have HK5 := Lib.hid (show KidsA (memX tb (w5.alloc (.cells E.toArray 33))) (.slice (some ⟨w5.heap.size, 0, none⟩) 2 2) [varT [120], varT [120]] from kids_two HT45.out HT5.out (by have := HB5.out.size; have := HTB.out; omega) hE)
   obtain ⟨H, hH⟩ : ∃ D : List Value, D = So.tC 11 [80] 0 (.slice (some ⟨w5.heap.size, 0, none⟩) 2 2) nilS := ⟨_, rfl⟩
   have HBUH := Lib.hid (show Tryz.prog.built 33 [(0, .int .i64 11), (2, .string ⟨#[80]⟩), (5, .slice (some ⟨w5.heap.size, 0, none⟩) 2 2)] = some H.toArray by rw [hH]; exact bu_kids 11 [80] _ 2 2)
   have HTH := Lib.hid (show TA tb (w5.alloc (.cells E.toArray 33)) pairT H by rw [hH]; exact TA.tC HK5.out (ArmsA.none _))
   have HB6 := Lib.hid (show Below wr.heap.size wr (w5.alloc (.cells E.toArray 33)) from HB5.out.alloc HB5.out.size _)
   clear hE hH
   refine TillLast.ready (rs := [2]) (by kernel_rfl) (by simp) ?_
   refine NextAll.cons (o := ⟨some 23, _, _, _, _, _⟩) rfl (fun K hK => ?_) NextAll.nil
   rw [if_pos (by kernel_rfl)]
   refine wp_buildSlice 24 33 2 _ rfl E.toArray ie (.agg zC) Tryz.underlying24 hie hiz (by rw [his]; decide) (by rw [his]; decide) (by rw [his, Array.toList_map]; exact HFE.out) ?_
   refine hK.out _ _ (fun _ => (HB6.out.block _ HTB.out).trans HL.out) ?_
   clear hK K
   try simp only [Act.put, List.setIfInBounds_toArray, List.set_cons_zero, List.set_cons_succ]
   refine TillLast.take (i := 3) (oi := ⟨some 24, _, _, _, _, _⟩) (v := .agg H.toArray) rfl (by kernel_rfl) (by kernel_rfl) (by kernel_rfl) (by kernel_rfl) (by decide) (by kernel_rfl) (fun _ _ _ h => h) (Or.inl ⟨by kernel_rfl, fun w' _ => yields_buildL _ _ rfl (by rw [Array.toList_map]; exact HBUH.out) w'⟩) ((HB6.out.block _ HTB.out).trans HL.out) ?_
   try simp only [Act.put, List.setIfInBounds_toArray, List.set_cons_zero, List.set_cons_succ]
   refine TillLast.ready (rs := [5]) (by kernel_rfl) (by simp) ?_
   refine NextAll.cons (o := ⟨some 26, _, _, _, _, _⟩) rfl (fun K hK => ?_) NextAll.nil
   go_simp
   refine (let_ta tb _ (by have := HTB.out; have := HB6.out.size; omega) [120] HTH.out (HTA.out.later HB6.out)).mono ?_
   rintro e w7 ⟨ln, rfl, hta7, hb7⟩
   have HB7 := Lib.hid (show Below wr.heap.size wr w7 from HB6.out.trans (hb7.mono HB6.out.size))
   have HT7 := Lib.hid hta7
   have HNO := Lib.hid hta7.one
   have HNZ := Lib.hid (show C.toArray.size = ln.toArray.size by simp [HCL.out, hta7.len])
   have HNS := Lib.hid (show (Tryz.prog.info? 33).map (·.size) = some ln.toArray.size by rw [szTerm]; simp [hta7.len])
   clear hta7 hb7
   (try dsimp only)
   refine hK.out _ _ (fun _ => (HB7.out.block _ HTB.out).trans HL.out) ?_
   clear hK K
   try simp only [Act.put, List.setIfInBounds_toArray, List.set_cons_zero, List.set_cons_succ]
   refine TillLast.ready (rs := [6]) (by kernel_rfl) (by simp) ?_
   refine NextAll.cons (o := ⟨none, _, _, _, _, _⟩) rfl (fun K hK => ?_) NextAll.nil
   rw [if_pos (by kernel_rfl)]
   refine wp_store_row 33 (.tmp 6) (.tmp 26) rfl tb ln.toArray rfl rfl 33 C.toArray ((HB7.out.block _ HTB.out).trans HL.out) HNS.out HNZ.out HNO.out ?_
   refine hK.out _ _ (fun h => absurd (h.symm.trans (by kernel_rfl : _ = true)) (by decide)) ?_
   clear hK K
   try simp only [Act.put, List.setIfInBounds_toArray, List.set_cons_zero, List.set_cons_succ]
   refine TillLast.done (by kernel_rfl) ?_ _
   have HTN := Lib.hid (show TA tb (w7.setRow tb ln.toArray) (chainT (q + 1)) ln from HT7.out.set _)
   have HLN := Lib.hid (show Lies (w7.setRow tb ln.toArray) tb 33 ln.toArray from lies_setRow' ((HB7.out.block _ HTB.out).trans HL.out) _)
   have HKN := Lib.hid ((HKX.out.below HB7.out).set ln.toArray)
   go_wp2_with fail
   go_roundw
   case rel => exact ⟨q + 1, ln, by omega, by go_num, HTN.out, HLN.out, HKN.out⟩
   case measure => (simp [intOf] <;> omega)
  ·obtain rfl : q = k := by omega
   have hqi : ¬ (q : Int) < (q : Int) := by omega
   have HBW := Lib.hid (HKX.out.all HBW0.out HWB.out)
   go_upto_region 8 with (fail)
   go_cut [8] from 27 to 32 (fun p wx => ∃ gb R k8 n8 s8 A8 m8 c8 T8 tn8 tc8 st8 ko8, p = .pointer (some ⟨gb, 0, none⟩) ∧ Lies wx gb 42 (runG 1 k8 n8 s8 (.slice A8 m8 c8) (.slice T8 tn8 tc8) st8 ko8) ∧ Sub R wx ∧ VtA R (told (valP v q)) [.int .i64 k8, .int .i64 n8, .string s8, .slice A8 m8 c8] ∧ Below w.heap.size w wx ∧ wr.heap.size ≤ gb)
   case first =>
    refine TillLast.start (S := fun VV => Lies VV tb 33 C.toArray) (z := 7) (by kernel_rfl) ?_
    have hS : Lies wr.drew tb 33 C.toArray := HL.out
    have hbd : Below wr.heap.size wr wr.drew := (Below.refl _ _).drew
    generalize wr.drew = V0 at hS hbd ⊢
    have HBV0 := Lib.hid hbd
    clear hbd
    refine TillLast.take (i := 0) (oi := ⟨some 27, _, _, _, _, _⟩) (v := ?_) rfl (by kernel_rfl) (by kernel_rfl) (by kernel_rfl) (by kernel_rfl) (by decide) (by kernel_rfl) (fun _ _ _ h => h) (Or.inl ⟨by kernel_rfl, ?_⟩) hS ?_
    rotate_left
    ·(intro w' hSw; (try dsimp only at hSw); go_split_ands; go_simp; first | done | with_reducible rfl)
    try simp only [Act.put, List.setIfInBounds_toArray, List.set_cons_zero, List.set_cons_succ]
    refine TillLast.take (i := 2) (oi := ⟨some 29, _, _, _, _, _⟩) (v := .agg C.toArray) rfl (by kernel_rfl) (by kernel_rfl) (by kernel_rfl) (by kernel_rfl) (by decide) (by kernel_rfl) (fun _ _ _ h => h) (yieldsIf_load_mid (by rfl) 33 (.tmp 6) rfl tb 0 rfl C _ (fun w' hS' => Lies.range hS') Tryz.underlying33 rfl HCZ.out) hS ?_
    try simp only [Act.put, List.setIfInBounds_toArray, List.set_cons_zero, List.set_cons_succ]
    refine TillLast.ready (rs := [1, 6]) (by kernel_rfl) (by simp) ?_
    refine NextAll.cons (o := ⟨some 28, _, _, _, _, _⟩) rfl (fun K hK => ?_) (NextAll.cons (o := ⟨some 8, _, _, _, _, _⟩) rfl (fun K hK => ?_) NextAll.nil)
    ·go_simp
     refine (number_ta tb _ v).mono ?_
     rintro e V1 ⟨ln, rfl, htn, hbk⟩
     have HBV1 := Lib.hid (show Below wr.heap.size wr V1 from HBV0.out.trans (hbk.mono HBV0.out.size))
     have HAV1 := Lib.hid hbk
     have HNV1 := Lib.hid htn
     clear htn hbk
     (try dsimp only)
     refine hK.out _ _ (fun _ => (HBV1.out.block _ HTB.out).trans HL.out) ?_
     clear hK K
     try simp only [Act.put, List.setIfInBounds_toArray, List.set_cons_zero, List.set_cons_succ]
     refine TillLast.ready (rs := [3, 6]) (by kernel_rfl) (by simp) ?_
     refine NextAll.cons (o := ⟨some 30, _, _, _, _, _⟩) rfl (fun K hK => ?_) (NextAll.cons (o := ⟨some 8, _, _, _, _, _⟩) rfl (fun K hK => ?_) NextAll.nil)
     ·go_simp
      refine (let_ta tb _ (by have := HTB.out; have := HBV1.out.size; omega) [120] HNV1.out (HTA.out.later HBV1.out)).mono ?_
      rintro e V2 ⟨lp, rfl, htn, hbk⟩
      have HBV2 := Lib.hid (show Below wr.heap.size wr V2 from HBV1.out.trans (hbk.mono HBV1.out.size))
      have HAV2 := Lib.hid hbk
      have HPV2 := Lib.hid (show TA tb V2 (largeT v q) lp from htn)
      have HBP := Lib.hid (built_prog lp htn.len)
      clear htn hbk
      (try dsimp only)
      refine hK.out _ _ (fun _ => (HBV2.out.block _ HTB.out).trans HL.out) ?_
      clear hK K
      try simp only [Act.put, List.setIfInBounds_toArray, List.set_cons_zero, List.set_cons_succ]
      refine TillLast.take (i := 4) (oi := ⟨some 31, _, _, _, _, _⟩) (v := .agg ([Value.slice none 0 0, Value.slice none 0 0] ++ lp).toArray) rfl (by kernel_rfl) (by kernel_rfl) (by kernel_rfl) (by kernel_rfl) (by decide) (by kernel_rfl) (fun _ _ _ h => h) (Or.inl ⟨by kernel_rfl, fun w' _ => yields_buildL _ _ rfl (by rw [Array.toList_map]; exact HBP.out) w'⟩) ((HBV2.out.block _ HTB.out).trans HL.out) ?_
      try simp only [Act.put, List.setIfInBounds_toArray, List.set_cons_zero, List.set_cons_succ]
      refine TillLast.ready (rs := [5, 6]) (by kernel_rfl) (by simp) ?_
      refine NextAll.cons (o := ⟨some 32, _, _, _, _, _⟩) rfl (fun K hK => ?_) (NextAll.cons (o := ⟨some 8, _, _, _, _, _⟩) rfl (fun K hK => ?_) NextAll.nil)
      ·go_simp
       refine (large_call HPV2.out (by have := HTB.out; have := HBV2.out.size; omega) HK60.out).mono ?_
       rintro e V3 ⟨R, k8, n8, s8, A8, m8, c8, T8, tn8, tc8, st8, ko8, rfl, hsR, hRR, hvt, hbk⟩
       have HBV3 := Lib.hid (show Below wr.heap.size wr V3 from HBV2.out.trans (hbk.mono HBV2.out.size))
       have HAV3 := Lib.hid hbk
       have HRV3 := Lib.hid hsR
       have HRR := Lib.hid (show ∀ b o, R b = some o → wr.heap.size ≤ b from fun b o hb => Nat.le_trans HBV2.out.size (hRR b o hb))
       have HVT := Lib.hid hvt
       clear hsR hRR hvt hbk
       (try dsimp only)
       refine hK.out _ _ (fun _ => (HBV3.out.block _ HTB.out).trans HL.out) ?_
       clear hK K
       try simp only [Act.put, List.setIfInBounds_toArray, List.set_cons_zero, List.set_cons_succ]
       refine TillLast.ready (rs := [6]) (by kernel_rfl) (by simp) ?_
       refine NextAll.cons (o := ⟨some 8, _, _, _, _, _⟩) rfl (fun K hK => ?_) NextAll.nil
       go_simp
       obtain ⟨V4, hV4⟩ : ∃ W, W = V3.alloc (.cells #[.int .i64 0, .int .i64 0, .int .i64 0, .string ⟨#[]⟩, .slice none 0 0, .slice none 0 0, .int .i64 0, .int .i64 0] 42) := ⟨_, rfl⟩
       obtain ⟨gb, hp⟩ : ∃ p, p = V3.heap.size := ⟨_, rfl⟩
       have HBV4 := Lib.hid (show Below wr.heap.size wr V4 by rw [hV4]; exact HBV3.out.alloc HBV3.out.size _)
       have HAV4 := Lib.hid (show Below V3.heap.size V3 V4 by rw [hV4]; exact below_new _ _)
       have HGV4 := Lib.hid (show Lies V4 gb 42 #[.int .i64 0, .int .i64 0, .int .i64 0, .string ⟨#[]⟩, .slice none 0 0, .slice none 0 0, .int .i64 0, .int .i64 0] by rw [hV4, hp]; exact Lies.new _ _ _)
       have HGE := Lib.hid (show wr.heap.size ≤ gb by rw [hp]; exact HBV3.out.size)
       have HRG := Lib.hid (show ∀ b o, R b = some o → wr.heap.size ≤ b ∧ b ≠ gb from fun b o hb => ⟨HRR.out b o hb, fun e => by have := (Array.getElem?_eq_some_iff.1 (HRV3.out b o hb)).1; rw [e, hp] at this; exact Nat.lt_irrefl _ this⟩)
       rw [← hV4, ← hp]
       clear hV4 hp
       have HRV4 := Lib.hid (HRV3.out.below HAV4.out)
       refine hK.out _ _ (fun _ => (HBV4.out.block _ HTB.out).trans HL.out) ?_
       clear hK K
       try simp only [Act.put, List.setIfInBounds_toArray, List.set_cons_zero, List.set_cons_succ]
       refine TillLast.ready (rs := [7]) (by kernel_rfl) (by simp) ?_
       refine NextAll.cons (o := ⟨none, _, _, _, _, _⟩) rfl (fun K hK => ?_) NextAll.nil
       rw [if_pos (by kernel_rfl)]
       have HRW := Lib.hid (show (runG 1 k8 n8 s8 (.slice A8 m8 c8) (.slice T8 tn8 tc8) st8 ko8 : Array Value).all (·.oneCell') = true by simp [runG, Value.oneCell'])
       refine wp_store_row 42 (.tmp 8) (.tmp 32) rfl gb (runG 1 k8 n8 s8 (.slice A8 m8 c8) (.slice T8 tn8 tc8) st8 ko8) rfl rfl 42 #[.int .i64 0, .int .i64 0, .int .i64 0, .string ⟨#[]⟩, .slice none 0 0, .slice none 0 0, .int .i64 0, .int .i64 0] HGV4.out szRun rfl HRW.out ?_
       refine hK.out _ _ (fun h => absurd (h.symm.trans (by kernel_rfl : _ = true)) (by decide)) ?_
       clear hK K
       try simp only [Act.put, List.setIfInBounds_toArray, List.set_cons_zero, List.set_cons_succ]
       refine TillLast.done (by kernel_rfl) ?_ _
       go_wp2_with fail
       go_meet
       exact ⟨gb, R, k8, n8, s8, A8, m8, c8, T8, tn8, tc8, st8, ko8, rfl, lies_setRow' HGV4.out _, fun b o hb => (heap_setRow' _ _ _ b (HRG.out b o hb).2).trans (HRV4.out b o hb), HVT.out, below_setRow' (HBW.out.trans (HBV4.out.mono HBW.out.size)) (Nat.le_trans HBW.out.size HGE.out) _, HGE.out⟩
      ·go_simp
       obtain ⟨V3, hV3⟩ : ∃ W, W = V2.alloc (.cells #[.int .i64 0, .int .i64 0, .int .i64 0, .string ⟨#[]⟩, .slice none 0 0, .slice none 0 0, .int .i64 0, .int .i64 0] 42) := ⟨_, rfl⟩
       obtain ⟨gb, hp⟩ : ∃ p, p = V2.heap.size := ⟨_, rfl⟩
       have HBV3 := Lib.hid (show Below wr.heap.size wr V3 by rw [hV3]; exact HBV2.out.alloc HBV2.out.size _)
       have HAV3 := Lib.hid (show Below V2.heap.size V2 V3 by rw [hV3]; exact below_new _ _)
       have HGV3 := Lib.hid (show Lies V3 gb 42 #[.int .i64 0, .int .i64 0, .int .i64 0, .string ⟨#[]⟩, .slice none 0 0, .slice none 0 0, .int .i64 0, .int .i64 0] by rw [hV3, hp]; exact Lies.new _ _ _)
       have HGE := Lib.hid (show wr.heap.size ≤ gb by rw [hp]; exact HBV2.out.size)
       rw [← hV3, ← hp]
       clear hV3 hp
       have HPV3 := Lib.hid (HPV2.out.later HAV3.out)
       refine hK.out _ _ (fun _ => (HBV3.out.block _ HTB.out).trans HL.out) ?_
       clear hK K
       try simp only [Act.put, List.setIfInBounds_toArray, List.set_cons_zero, List.set_cons_succ]
       refine TillLast.ready (rs := [5]) (by kernel_rfl) (by simp) ?_
       refine NextAll.cons (o := ⟨some 32, _, _, _, _, _⟩) rfl (fun K hK => ?_) NextAll.nil
       go_simp
       refine (large_call HPV3.out (by have := HTB.out; have := HBV3.out.size; omega) HK60.out).mono ?_
       rintro e V4 ⟨R, k8, n8, s8, A8, m8, c8, T8, tn8, tc8, st8, ko8, rfl, hsR, hRR, hvt, hbk⟩
       have HBV4 := Lib.hid (show Below wr.heap.size wr V4 from HBV3.out.trans (hbk.mono HBV3.out.size))
       have HAV4 := Lib.hid hbk
       have HRV4 := Lib.hid hsR
       have HRR := Lib.hid (show ∀ b o, R b = some o → wr.heap.size ≤ b from fun b o hb => Nat.le_trans HBV3.out.size (hRR b o hb))
       have HRG := Lib.hid (show ∀ b o, R b = some o → wr.heap.size ≤ b ∧ b ≠ gb from fun b o hb => ⟨Nat.le_trans HBV3.out.size (hRR b o hb), fun e => by have h1 := hRR b o hb; have h2 := HGV3.out.lt; rw [e] at h1; exact absurd h2 (Nat.not_lt.2 h1)⟩)
       have HVT := Lib.hid hvt
       clear hsR hRR hvt hbk
       (try dsimp only)
       have HGV4 := Lib.hid (show Lies V4 gb 42 #[.int .i64 0, .int .i64 0, .int .i64 0, .string ⟨#[]⟩, .slice none 0 0, .slice none 0 0, .int .i64 0, .int .i64 0] from (HAV4.out.block _ HGV3.out.lt).trans HGV3.out)
       refine hK.out _ _ (fun _ => (HBV4.out.block _ HTB.out).trans HL.out) ?_
       clear hK K
       try simp only [Act.put, List.setIfInBounds_toArray, List.set_cons_zero, List.set_cons_succ]
       refine TillLast.ready (rs := [7]) (by kernel_rfl) (by simp) ?_
       refine NextAll.cons (o := ⟨none, _, _, _, _, _⟩) rfl (fun K hK => ?_) NextAll.nil
       rw [if_pos (by kernel_rfl)]
       have HRW := Lib.hid (show (runG 1 k8 n8 s8 (.slice A8 m8 c8) (.slice T8 tn8 tc8) st8 ko8 : Array Value).all (·.oneCell') = true by simp [runG, Value.oneCell'])
       refine wp_store_row 42 (.tmp 8) (.tmp 32) rfl gb (runG 1 k8 n8 s8 (.slice A8 m8 c8) (.slice T8 tn8 tc8) st8 ko8) rfl rfl 42 #[.int .i64 0, .int .i64 0, .int .i64 0, .string ⟨#[]⟩, .slice none 0 0, .slice none 0 0, .int .i64 0, .int .i64 0] HGV4.out szRun rfl HRW.out ?_
       refine hK.out _ _ (fun h => absurd (h.symm.trans (by kernel_rfl : _ = true)) (by decide)) ?_
       clear hK K
       try simp only [Act.put, List.setIfInBounds_toArray, List.set_cons_zero, List.set_cons_succ]
       refine TillLast.done (by kernel_rfl) ?_ _
       go_wp2_with fail
       go_meet
       exact ⟨gb, R, k8, n8, s8, A8, m8, c8, T8, tn8, tc8, st8, ko8, rfl, lies_setRow' HGV4.out _, fun b o hb => (heap_setRow' _ _ _ b (HRG.out b o hb).2).trans (HRV4.out b o hb), HVT.out, below_setRow' (HBW.out.trans (HBV4.out.mono HBW.out.size)) (Nat.le_trans HBW.out.size HGE.out) _, HGE.out⟩
     ·go_simp
      obtain ⟨V2, hV2⟩ : ∃ W, W = V1.alloc (.cells #[.int .i64 0, .int .i64 0, .int .i64 0, .string ⟨#[]⟩, .slice none 0 0, .slice none 0 0, .int .i64 0, .int .i64 0] 42) := ⟨_, rfl⟩
      obtain ⟨gb, hp⟩ : ∃ p, p = V1.heap.size := ⟨_, rfl⟩
      have HBV2 := Lib.hid (show Below wr.heap.size wr V2 by rw [hV2]; exact HBV1.out.alloc HBV1.out.size _)
      have HAV2 := Lib.hid (show Below V1.heap.size V1 V2 by rw [hV2]; exact below_new _ _)
      have HGV2 := Lib.hid (show Lies V2 gb 42 #[.int .i64 0, .int .i64 0, .int .i64 0, .string ⟨#[]⟩, .slice none 0 0, .slice none 0 0, .int .i64 0, .int .i64 0] by rw [hV2, hp]; exact Lies.new _ _ _)
      have HGE := Lib.hid (show wr.heap.size ≤ gb by rw [hp]; exact HBV1.out.size)
      rw [← hV2, ← hp]
      clear hV2 hp
      have HNV2 := Lib.hid (HNV1.out.later HAV2.out)
      refine hK.out _ _ (fun _ => (HBV2.out.block _ HTB.out).trans HL.out) ?_
      clear hK K
      try simp only [Act.put, List.setIfInBounds_toArray, List.set_cons_zero, List.set_cons_succ]
      refine TillLast.ready (rs := [3]) (by kernel_rfl) (by simp) ?_
      refine NextAll.cons (o := ⟨some 30, _, _, _, _, _⟩) rfl (fun K hK => ?_) NextAll.nil
      go_simp
      refine (let_ta tb _ (by have := HTB.out; have := HBV2.out.size; omega) [120] HNV2.out (HTA.out.later HBV2.out)).mono ?_
      rintro e V3 ⟨lp, rfl, htn, hbk⟩
      have HBV3 := Lib.hid (show Below wr.heap.size wr V3 from HBV2.out.trans (hbk.mono HBV2.out.size))
      have HAV3 := Lib.hid hbk
      have HPV3 := Lib.hid (show TA tb V3 (largeT v q) lp from htn)
      have HBP := Lib.hid (built_prog lp htn.len)
      clear htn hbk
      (try dsimp only)
      have HGV3 := Lib.hid (show Lies V3 gb 42 #[.int .i64 0, .int .i64 0, .int .i64 0, .string ⟨#[]⟩, .slice none 0 0, .slice none 0 0, .int .i64 0, .int .i64 0] from (HAV3.out.block _ HGV2.out.lt).trans HGV2.out)
      refine hK.out _ _ (fun _ => (HBV3.out.block _ HTB.out).trans HL.out) ?_
      clear hK K
      try simp only [Act.put, List.setIfInBounds_toArray, List.set_cons_zero, List.set_cons_succ]
      refine TillLast.take (i := 4) (oi := ⟨some 31, _, _, _, _, _⟩) (v := .agg ([Value.slice none 0 0, Value.slice none 0 0] ++ lp).toArray) rfl (by kernel_rfl) (by kernel_rfl) (by kernel_rfl) (by kernel_rfl) (by decide) (by kernel_rfl) (fun _ _ _ h => h) (Or.inl ⟨by kernel_rfl, fun w' _ => yields_buildL _ _ rfl (by rw [Array.toList_map]; exact HBP.out) w'⟩) ((HBV3.out.block _ HTB.out).trans HL.out) ?_
      try simp only [Act.put, List.setIfInBounds_toArray, List.set_cons_zero, List.set_cons_succ]
      refine TillLast.ready (rs := [5]) (by kernel_rfl) (by simp) ?_
      refine NextAll.cons (o := ⟨some 32, _, _, _, _, _⟩) rfl (fun K hK => ?_) NextAll.nil
      go_simp
      refine (large_call HPV3.out (by have := HTB.out; have := HBV3.out.size; omega) HK60.out).mono ?_
      rintro e V4 ⟨R, k8, n8, s8, A8, m8, c8, T8, tn8, tc8, st8, ko8, rfl, hsR, hRR, hvt, hbk⟩
      have HBV4 := Lib.hid (show Below wr.heap.size wr V4 from HBV3.out.trans (hbk.mono HBV3.out.size))
      have HAV4 := Lib.hid hbk
      have HRV4 := Lib.hid hsR
      have HRR := Lib.hid (show ∀ b o, R b = some o → wr.heap.size ≤ b from fun b o hb => Nat.le_trans HBV3.out.size (hRR b o hb))
      have HRG := Lib.hid (show ∀ b o, R b = some o → wr.heap.size ≤ b ∧ b ≠ gb from fun b o hb => ⟨Nat.le_trans HBV3.out.size (hRR b o hb), fun e => by have h1 := hRR b o hb; have h2 := HGV3.out.lt; rw [e] at h1; exact absurd h2 (Nat.not_lt.2 h1)⟩)
      have HVT := Lib.hid hvt
      clear hsR hRR hvt hbk
      (try dsimp only)
      have HGV4 := Lib.hid (show Lies V4 gb 42 #[.int .i64 0, .int .i64 0, .int .i64 0, .string ⟨#[]⟩, .slice none 0 0, .slice none 0 0, .int .i64 0, .int .i64 0] from (HAV4.out.block _ HGV3.out.lt).trans HGV3.out)
      refine hK.out _ _ (fun _ => (HBV4.out.block _ HTB.out).trans HL.out) ?_
      clear hK K
      try simp only [Act.put, List.setIfInBounds_toArray, List.set_cons_zero, List.set_cons_succ]
      refine TillLast.ready (rs := [7]) (by kernel_rfl) (by simp) ?_
      refine NextAll.cons (o := ⟨none, _, _, _, _, _⟩) rfl (fun K hK => ?_) NextAll.nil
      rw [if_pos (by kernel_rfl)]
      have HRW := Lib.hid (show (runG 1 k8 n8 s8 (.slice A8 m8 c8) (.slice T8 tn8 tc8) st8 ko8 : Array Value).all (·.oneCell') = true by simp [runG, Value.oneCell'])
      refine wp_store_row 42 (.tmp 8) (.tmp 32) rfl gb (runG 1 k8 n8 s8 (.slice A8 m8 c8) (.slice T8 tn8 tc8) st8 ko8) rfl rfl 42 #[.int .i64 0, .int .i64 0, .int .i64 0, .string ⟨#[]⟩, .slice none 0 0, .slice none 0 0, .int .i64 0, .int .i64 0] HGV4.out szRun rfl HRW.out ?_
      refine hK.out _ _ (fun h => absurd (h.symm.trans (by kernel_rfl : _ = true)) (by decide)) ?_
      clear hK K
      try simp only [Act.put, List.setIfInBounds_toArray, List.set_cons_zero, List.set_cons_succ]
      refine TillLast.done (by kernel_rfl) ?_ _
      go_wp2_with fail
      go_meet
      exact ⟨gb, R, k8, n8, s8, A8, m8, c8, T8, tn8, tc8, st8, ko8, rfl, lies_setRow' HGV4.out _, fun b o hb => (heap_setRow' _ _ _ b (HRG.out b o hb).2).trans (HRV4.out b o hb), HVT.out, below_setRow' (HBW.out.trans (HBV4.out.mono HBW.out.size)) (Nat.le_trans HBW.out.size HGE.out) _, HGE.out⟩
    ·go_simp
     obtain ⟨V1, hV1⟩ : ∃ W, W = V0.alloc (.cells #[.int .i64 0, .int .i64 0, .int .i64 0, .string ⟨#[]⟩, .slice none 0 0, .slice none 0 0, .int .i64 0, .int .i64 0] 42) := ⟨_, rfl⟩
     obtain ⟨gb, hp⟩ : ∃ p, p = V0.heap.size := ⟨_, rfl⟩
     have HBV1 := Lib.hid (show Below wr.heap.size wr V1 by rw [hV1]; exact HBV0.out.alloc HBV0.out.size _)
     have HAV1 := Lib.hid (show Below V0.heap.size V0 V1 by rw [hV1]; exact below_new _ _)
     have HGV1 := Lib.hid (show Lies V1 gb 42 #[.int .i64 0, .int .i64 0, .int .i64 0, .string ⟨#[]⟩, .slice none 0 0, .slice none 0 0, .int .i64 0, .int .i64 0] by rw [hV1, hp]; exact Lies.new _ _ _)
     have HGE := Lib.hid (show wr.heap.size ≤ gb by rw [hp]; exact HBV0.out.size)
     rw [← hV1, ← hp]
     clear hV1 hp
     refine hK.out _ _ (fun _ => (HBV1.out.block _ HTB.out).trans HL.out) ?_
     clear hK K
     try simp only [Act.put, List.setIfInBounds_toArray, List.set_cons_zero, List.set_cons_succ]
     refine TillLast.ready (rs := [1]) (by kernel_rfl) (by simp) ?_
     refine NextAll.cons (o := ⟨some 28, _, _, _, _, _⟩) rfl (fun K hK => ?_) NextAll.nil
     go_simp
     refine (number_ta tb _ v).mono ?_
     rintro e V2 ⟨ln, rfl, htn, hbk⟩
     have HBV2 := Lib.hid (show Below wr.heap.size wr V2 from HBV1.out.trans (hbk.mono HBV1.out.size))
     have HAV2 := Lib.hid hbk
     have HNV2 := Lib.hid htn
     clear htn hbk
     (try dsimp only)
     have HGV2 := Lib.hid (show Lies V2 gb 42 #[.int .i64 0, .int .i64 0, .int .i64 0, .string ⟨#[]⟩, .slice none 0 0, .slice none 0 0, .int .i64 0, .int .i64 0] from (HAV2.out.block _ HGV1.out.lt).trans HGV1.out)
     refine hK.out _ _ (fun _ => (HBV2.out.block _ HTB.out).trans HL.out) ?_
     clear hK K
     try simp only [Act.put, List.setIfInBounds_toArray, List.set_cons_zero, List.set_cons_succ]
     refine TillLast.ready (rs := [3]) (by kernel_rfl) (by simp) ?_
     refine NextAll.cons (o := ⟨some 30, _, _, _, _, _⟩) rfl (fun K hK => ?_) NextAll.nil
     go_simp
     refine (let_ta tb _ (by have := HTB.out; have := HBV2.out.size; omega) [120] HNV2.out (HTA.out.later HBV2.out)).mono ?_
     rintro e V3 ⟨lp, rfl, htn, hbk⟩
     have HBV3 := Lib.hid (show Below wr.heap.size wr V3 from HBV2.out.trans (hbk.mono HBV2.out.size))
     have HAV3 := Lib.hid hbk
     have HPV3 := Lib.hid (show TA tb V3 (largeT v q) lp from htn)
     have HBP := Lib.hid (built_prog lp htn.len)
     clear htn hbk
     (try dsimp only)
     have HGV3 := Lib.hid (show Lies V3 gb 42 #[.int .i64 0, .int .i64 0, .int .i64 0, .string ⟨#[]⟩, .slice none 0 0, .slice none 0 0, .int .i64 0, .int .i64 0] from (HAV3.out.block _ HGV2.out.lt).trans HGV2.out)
     refine hK.out _ _ (fun _ => (HBV3.out.block _ HTB.out).trans HL.out) ?_
     clear hK K
     try simp only [Act.put, List.setIfInBounds_toArray, List.set_cons_zero, List.set_cons_succ]
     refine TillLast.take (i := 4) (oi := ⟨some 31, _, _, _, _, _⟩) (v := .agg ([Value.slice none 0 0, Value.slice none 0 0] ++ lp).toArray) rfl (by kernel_rfl) (by kernel_rfl) (by kernel_rfl) (by kernel_rfl) (by decide) (by kernel_rfl) (fun _ _ _ h => h) (Or.inl ⟨by kernel_rfl, fun w' _ => yields_buildL _ _ rfl (by rw [Array.toList_map]; exact HBP.out) w'⟩) ((HBV3.out.block _ HTB.out).trans HL.out) ?_
     try simp only [Act.put, List.setIfInBounds_toArray, List.set_cons_zero, List.set_cons_succ]
     refine TillLast.ready (rs := [5]) (by kernel_rfl) (by simp) ?_
     refine NextAll.cons (o := ⟨some 32, _, _, _, _, _⟩) rfl (fun K hK => ?_) NextAll.nil
     go_simp
     refine (large_call HPV3.out (by have := HTB.out; have := HBV3.out.size; omega) HK60.out).mono ?_
     rintro e V4 ⟨R, k8, n8, s8, A8, m8, c8, T8, tn8, tc8, st8, ko8, rfl, hsR, hRR, hvt, hbk⟩
     have HBV4 := Lib.hid (show Below wr.heap.size wr V4 from HBV3.out.trans (hbk.mono HBV3.out.size))
     have HAV4 := Lib.hid hbk
     have HRV4 := Lib.hid hsR
     have HRR := Lib.hid (show ∀ b o, R b = some o → wr.heap.size ≤ b from fun b o hb => Nat.le_trans HBV3.out.size (hRR b o hb))
     have HRG := Lib.hid (show ∀ b o, R b = some o → wr.heap.size ≤ b ∧ b ≠ gb from fun b o hb => ⟨Nat.le_trans HBV3.out.size (hRR b o hb), fun e => by have h1 := hRR b o hb; have h2 := HGV3.out.lt; rw [e] at h1; exact absurd h2 (Nat.not_lt.2 h1)⟩)
     have HVT := Lib.hid hvt
     clear hsR hRR hvt hbk
     (try dsimp only)
     have HGV4 := Lib.hid (show Lies V4 gb 42 #[.int .i64 0, .int .i64 0, .int .i64 0, .string ⟨#[]⟩, .slice none 0 0, .slice none 0 0, .int .i64 0, .int .i64 0] from (HAV4.out.block _ HGV3.out.lt).trans HGV3.out)
     refine hK.out _ _ (fun _ => (HBV4.out.block _ HTB.out).trans HL.out) ?_
     clear hK K
     try simp only [Act.put, List.setIfInBounds_toArray, List.set_cons_zero, List.set_cons_succ]
     refine TillLast.ready (rs := [7]) (by kernel_rfl) (by simp) ?_
     refine NextAll.cons (o := ⟨none, _, _, _, _, _⟩) rfl (fun K hK => ?_) NextAll.nil
     rw [if_pos (by kernel_rfl)]
     have HRW := Lib.hid (show (runG 1 k8 n8 s8 (.slice A8 m8 c8) (.slice T8 tn8 tc8) st8 ko8 : Array Value).all (·.oneCell') = true by simp [runG, Value.oneCell'])
     refine wp_store_row 42 (.tmp 8) (.tmp 32) rfl gb (runG 1 k8 n8 s8 (.slice A8 m8 c8) (.slice T8 tn8 tc8) st8 ko8) rfl rfl 42 #[.int .i64 0, .int .i64 0, .int .i64 0, .string ⟨#[]⟩, .slice none 0 0, .slice none 0 0, .int .i64 0, .int .i64 0] HGV4.out szRun rfl HRW.out ?_
     refine hK.out _ _ (fun h => absurd (h.symm.trans (by kernel_rfl : _ = true)) (by decide)) ?_
     clear hK K
     try simp only [Act.put, List.setIfInBounds_toArray, List.set_cons_zero, List.set_cons_succ]
     refine TillLast.done (by kernel_rfl) ?_ _
     go_wp2_with fail
     go_meet
     exact ⟨gb, R, k8, n8, s8, A8, m8, c8, T8, tn8, tc8, st8, ko8, rfl, lies_setRow' HGV4.out _, fun b o hb => (heap_setRow' _ _ _ b (HRG.out b o hb).2).trans (HRV4.out b o hb), HVT.out, below_setRow' (HBW.out.trans (HBV4.out.mono HBW.out.size)) (Nat.le_trans HBW.out.size HGE.out) _, HGE.out⟩
   obtain ⟨gb, R, k8, n8, s8, A8, m8, c8, T8, tn8, tc8, st8, ko8, rfl, hlg, hsr, hvt, hbx, hge⟩ := hcut
   obtain ⟨wx, rfl⟩ : ∃ W, W = wc := ⟨_, rfl⟩
   have HSR := Lib.hid hsr
   have HRX := Lib.hid (show ∀ b o, R b = some o → b ≠ wx.heap.size from fun b o hb e => by have := (Array.getElem?_eq_some_iff.1 (hsr b o hb)).1; omega)
   have HBX := Lib.hid hbx
   have c0 : wx.cell? ⟨gb, 0, none⟩ = some (.int .i64 1) := hlg.cell 0
   have c1 : wx.cell? ⟨gb, 1, none⟩ = some (.int .i64 k8) := hlg.cell 1
   have c2 : wx.cell? ⟨gb, 2, none⟩ = some (.int .i64 n8) := hlg.cell 2
   have c3 : wx.cell? ⟨gb, 3, none⟩ = some (.string s8) := hlg.cell 3
   have c4 : wx.cell? ⟨gb, 4, none⟩ = some (.slice A8 m8 c8) := hlg.cell 4
   clear hlg hsr hbx hge
   by_cases h0 : q = 0
   ·subst h0
    rw [told_zero] at hvt
    obtain ⟨A', m', c', e⟩ := hvt.num
    simp only [List.cons.injEq, Value.int.injEq, Value.string.injEq, Value.slice.injEq, true_and, and_true] at e
    obtain ⟨rfl, rfl, rfl, rfl, rfl, rfl⟩ := e
    clear hvt
    go_wp2
    go_ret
    exact ⟨rfl, HBX.out.alloc HBX.out.size _⟩
   ·have hq0 : ¬ (q : Int) = 0 := by omega
    have hqb : ((q : Int) == 0) = false := by simp; omega
    obtain ⟨j0, hj0⟩ : ∃ j, q = j + 1 := ⟨q - 1, by omega⟩
    by_cases h13 : 13 ≤ q
    ·have e13 : told (valP v q) = .mk 4 0 [80] [] := by
      rw [told_big v h13, hj0]
      show alone (.con [80] [valP v j0, valP v j0]) = _
      rw [alone]
     rw [e13] at hvt
     obtain ⟨A', c', e⟩ := hvt.one
     simp only [List.cons.injEq, Value.int.injEq, Value.string.injEq, Value.slice.injEq, true_and, and_true] at e
     obtain ⟨rfl, rfl, rfl, rfl, rfl, rfl⟩ := e
     clear hvt
     have hge : (13 : Int) ≤ (q : Int) := by omega
     rw [show (ba [80]) = (⟨#[80]⟩ : ByteArray) from rfl] at c3
     go_wp2
     go_ret
     exact ⟨rfl, HBX.out.alloc HBX.out.size _⟩
    ·have h13l : q < 13 := by omega
     have hvt0 := hvt
     rw [told_small v h13l] at hvt0
     have HVT := Lib.hid hvt0
     rw [told_small v h13l, hj0, whole_succ] at hvt
     obtain ⟨g', o', c', k', n', s', A', m', d', _, e, _, _⟩ := hvt.two
     simp only [List.cons.injEq, Value.int.injEq, Value.string.injEq, Value.slice.injEq, true_and, and_true] at e
     obtain ⟨rfl, rfl, rfl, rfl, rfl, rfl⟩ := e
     clear hvt hvt0
     have hge : ¬ (13 : Int) ≤ (q : Int) := by omega
     rw [show (ba [80]) = (⟨#[80]⟩ : ByteArray) from rfl] at c3
     go_wp2_with fail
     obtain ⟨xb, hxb⟩ : ∃ b, b = wx.heap.size := ⟨_, rfl⟩
     have HXB := Lib.hid hxb
     rw [← HXB.out]
     clear hxb
     go_loopw [10] (fun x wr => ∃ (i : Nat) (l : List Value), i ≤ q ∧ x = .int .i64 (i : Int) ∧ Lies wr xb 38 l.toArray ∧ VtA R (whole (valP v (q - i))) l ∧ Sub R wr ∧ Below w.heap.size w wr) (fun x _ => q - (intOf x).toNat)
     case atStart =>
      refine ⟨0, _, Nat.zero_le _, rfl, ?_, HVT.out, HSR.out.alloc _, HBX.out.alloc HBX.out.size _⟩
      rw [HXB.out]; exact Lies.new wx _ _
     case round =>
      obtain ⟨i, l, hi, rfl, hl, hv, hs, hb⟩ := hrel
      by_cases hlt : i < q
      ·have hii : (i : Int) < (q : Int) := by omega
       obtain ⟨j, hj⟩ : ∃ j, q - i = j + 1 := ⟨q - i - 1, by omega⟩
       have hj2 : q - (i + 1) = j := by omega
       rw [hj, whole_succ] at hv
       obtain ⟨g, o, c, k1, n1, s1, A1, m1, d1, hc2, rfl, hr, hv1⟩ := hv.two
       rw [← hj2] at hv1
       have z0 : wr.cell? ⟨xb, 0, none⟩ = some (.int .i64 4) := hl.cell 0
       have z1 : wr.cell? ⟨xb, 1, none⟩ = some (.int .i64 0) := hl.cell 1
       have z2 : wr.cell? ⟨xb, 2, none⟩ = some (.string (ba [80])) := hl.cell 2
       have z3 : wr.cell? ⟨xb, 3, none⟩ = some (.slice (some ⟨g, o, none⟩) 2 c) := hl.cell 3
       have f0 := hl.free 0
       have f1 := hl.free 1
       have f2 := hl.free 2
       have f3 := hl.free 3
       have y0 : wr.cell? ⟨g, o + 4, none⟩ = some (.int .i64 k1) := (hr 0 _ rfl).cell hs
       have y1 : wr.cell? ⟨g, o + 4 + 1, none⟩ = some (.int .i64 n1) := (hr 1 _ rfl).cell hs
       have y2 : wr.cell? ⟨g, o + 4 + 2, none⟩ = some (.string s1) := (hr 2 _ rfl).cell hs
       have y3 : wr.cell? ⟨g, o + 4 + 3, none⟩ = some (.slice A1 m1 d1) := (hr 3 _ rfl).cell hs
       have x1 : wr.cell? ⟨g, o + 5, none⟩ = some (.int .i64 n1) := y1
       have x2 : wr.cell? ⟨g, o + 6, none⟩ = some (.string s1) := y2
       have x3 : wr.cell? ⟨g, o + 7, none⟩ = some (.slice A1 m1 d1) := y3
       have hc1 : 1 < c := by omega
       have HL := Lib.hid hl
       have HV1 := Lib.hid hv1
       have HS := Lib.hid hs
       have HB := Lib.hid hb
       clear hl hv hr hv1 hs hb
       go_wp2_with fail
       go_roundw
       case rel =>
        refine ⟨i + 1, [.int .i64 k1, .int .i64 n1, .string s1, .slice A1 m1 d1], by omega, by go_num, (((HL.out.set 0 _).set 1 _).set 2 _).set 3 _, HV1.out, fun b x hx => ?_, ?_⟩
        ·have hne : b ≠ xb := by rw [HXB.out]; exact HRX.out b x hx
         exact ((Below.heap_setCell _ ⟨_, 3, none⟩ _ b hne).trans ((Below.heap_setCell _ ⟨_, 2, none⟩ _ b hne).trans ((Below.heap_setCell _ ⟨_, 1, none⟩ _ b hne).trans (Below.heap_setCell _ ⟨_, 0, none⟩ _ b hne)))).trans (HS.out b x hx)
        ·have hxw : w.heap.size ≤ xb := by rw [HXB.out]; exact HBX.out.size
         exact (((HB.out.setCell (p := ⟨xb, 0, none⟩) hxw _).setCell (p := ⟨xb, 1, none⟩) hxw _).setCell (p := ⟨xb, 2, none⟩) hxw _).setCell (p := ⟨xb, 3, none⟩) hxw _
       case measure => (simp [intOf] <;> omega)
      ·obtain rfl : i = q := by omega
       have hii : ¬ (i : Int) < (i : Int) := by omega
       rw [Nat.sub_self, whole_zero] at hv
       obtain ⟨A1, m1, c1', rfl⟩ := hv.num
       have z0 : wr.cell? ⟨xb, 0, none⟩ = some (.int .i64 1) := hl.cell 0
       have z1 : wr.cell? ⟨xb, 1, none⟩ = some (.int .i64 v) := hl.cell 1
       clear hl hv hs
       go_wp2
       go_ret
       exact ⟨rfl, hb⟩
end So
end Go.Proofs.YtmodmojocclmaaaGreatDoor.K
