/- Contracts: an expr within others; what stands in brackets; what an arm does. -/
import Derived.Test.YtmodmojocclmaaaGreatDoorMg23
import Derived.Test.YtmodmojocclmaaaGreatDoorMg04
import Derived.Deep.Upon
import Derived.Outline
namespace Go.Proofs.YtmodmojocclmaaaGreatDoor
open Go.RowKit Pz

theorem Lies.setCells {g : Nat} {t : TypeId} : ∀ (vs : List Value) {w : World} {cs : List Value} (o : Nat), Lies w g t cs.toArray → o + vs.length ≤ cs.length → Lies (w.setCells g o vs) g t (cs.take o ++ vs ++ cs.drop (o + vs.length)).toArray
 | [], w, cs, o, h, _ => by simpa [World.setCells] using h
 | v :: r, w, cs, o, h, hle => by
  simp only [List.length_cons] at hle
  have h1 := h.set o v
  have e : cs.toArray.setIfInBounds o v = (cs.set o v).toArray := by simp
  rw [e] at h1
  have h2 := Lies.setCells r (o + 1) h1 (by simp; omega)
  have ho : o < cs.length := by omega
  have e1 : (cs.set o v).take (o + 1) = cs.take o ++ [v] := by
   rw [List.take_succ_eq_append_getElem (by simpa using ho)]
   simp [List.take_set_of_le]
  have e2 : (cs.set o v).drop (o + 1 + r.length) = cs.drop (o + (r.length + 1)) := by
   rw [List.drop_set_of_lt (by omega)]; congr 1; omega
  rw [e1, e2] at h2
  show Lies ((w.setCell ⟨g, o, none⟩ v).setCells g (o + 1) r) g t _
  simpa using h2
theorem size_setCells (g : Nat) : ∀ (vs : List Value) (o : Nat) (w : World), (w.setCells g o vs).heap.size = w.heap.size
 | [], _, _ => rfl
 | v :: r, o, w => by
  show ((w.setCell ⟨g, o, none⟩ v).setCells g (o + 1) r).heap.size = _
  rw [size_setCells g r (o + 1)]; simp [World.setCell]
theorem heap_setCells (g : Nat) : ∀ (vs : List Value) (o : Nat) (w : World) (k : Nat), k ≠ g → (w.setCells g o vs).heap[k]? = w.heap[k]?
 | [], _, _, _, _ => rfl
 | v :: r, o, w, k, h => by
  show ((w.setCell ⟨g, o, none⟩ v).setCells g (o + 1) r).heap[k]? = _
  rw [heap_setCells g r (o + 1) _ k h]; exact Below.heap_setCell _ _ _ _ h
theorem tape_setCells (g : Nat) : ∀ (vs : List Value) (o : Nat) (w : World), (w.setCells g o vs).tape = w.tape
 | [], _, _ => rfl
 | v :: r, o, w => by
  show ((w.setCell ⟨g, o, none⟩ v).setCells g (o + 1) r).tape = _
  rw [tape_setCells g r (o + 1)]; rfl
theorem Kp.setCells {pb : Nat} {a w : World} (h : Kp pb a w) {g : Nat} (hg : a.heap.size ≤ g) (o : Nat) (vs : List Value) : Kp pb a (w.setCells g o vs) :=
 ⟨by rw [World.os_setCells]; exact h.os, by rw [tape_setCells]; exact h.tape, by rw [World.output_setCells]; exact h.output, by rw [size_setCells]; exact h.size, fun i hi hne => (heap_setCells g vs o w i (by omega)).trans (h.block i hi hne)⟩
theorem PA.setCells {w : World} {pb sz : Nat} {s : St} (h : PA w pb sz s) {g : Nat} (hg : pb < g) (o : Nat) (vs : List Value) : PA (w.setCells g o vs) pb sz s := by
 obtain ⟨v, hl, ht⟩ := h
 exact ⟨v, (heap_setCells g vs o w pb (by omega)).trans hl, ht.keep fun k hk => heap_setCells _ _ _ _ _ (by omega)⟩
theorem HT.setCells {w : World} {P : Nat → Prop} {t : Tm} {l : List Value} (h : HT w P t l) {g : Nat} (hP : ∀ k, P k → k ≠ g) (o : Nat) (vs : List Value) : HT (w.setCells g o vs) P t l := h.same fun k h1 _ => heap_setCells _ _ _ _ _ (hP k h1)
theorem Lies.farCells {w : World} {g g' : Nat} {t : TypeId} {cs : Array Value} (h : Lies w g t cs) (o : Nat) (vs : List Value) (hne : g ≠ g') : Lies (w.setCells g' o vs) g t cs := (heap_setCells g' vs o w g hne).trans h

theorem put_within {w : World} {pb sz : Nat} {s : St} (h : PA w pb sz s) (k : Nat) : PA (w.setCell ⟨pb, 2, none⟩ (.int .i64 (k : Int))) pb sz { s with wi := k } := by
 obtain ⟨v, hl, ht⟩ := h
 exact ⟨v, hl.set 2 _, ht.keep fun g hg => Below.heap_setCell _ _ _ _ (by show g ≠ pb; omega)⟩

theorem exprStep_deep {sz : Nat} {ex : St → Tm × St} {s : St} (h : 200 < s.wi) : exprStep sz ex s = (.zero, fail sz 6 s) := by unfold exprStep; rw [if_pos h]
theorem exprStep_here {sz : Nat} {ex : St → Tm × St} {s : St} (h : ¬ 200 < s.wi) : exprStep sz ex s = ((exprHere sz ex { s with wi := s.wi + 1 }).1, { (exprHere sz ex { s with wi := s.wi + 1 }).2 with wi := (exprHere sz ex { s with wi := s.wi + 1 }).2.wi - 1 }) := by
 unfold exprStep; rw [if_neg h]
theorem zero_cells : tmC 0 0 [] [] 0 (.slice none 0 0) (.slice none 0 0) = zC.toList := rfl

set_option maxRecDepth 100000 in
set_option maxHeartbeats 4000000 in
theorem expr_any (ex : St → Tm × St) (pb sz n : Nat) (hxn : Nice ex) (hH : SideOK 80 (exprHere sz ex) pb sz n) : ExOK (exprStep sz ex) pb sz (n + 1) := by
 intro w s hp hn
 have hplt := hp.lt
 have l0 := Lies.new w 33 zC
 by_cases hd : 200 < s.wi
 ·rw [exprStep_deep hd]
  obtain ⟨V, pv, _, _⟩ := hp.open
  obtain ⟨_, _, c2, _, _, _⟩ := pv
  have c2' := fun o => cell_alloc w o c2
  have hd2 : (200 : Int) < (s.wi : Int) := by omega
  have hfa := fail_any 6 _ pb sz s (hp.alloc (.cells zC 33))
  have HF := Lib.hid hfa
  unfold zC at l0
  clear hfa hd c2
  go_enter Tryz.func53, Tryz.ntmps53
  go_wp2_with fail
  refine HF.out.mono ?_
  rintro e w1 ⟨rfl, hg⟩
  have l1 := hg.kp.lies l0 (by omega)
  clear l0
  go_wp2_with (first | (refine wpList_store_rowTo rfl 33 (.tmp 2) (.tmp 11) rfl rfl _ _ rfl rfl 33 _ l1 sz39 rfl (by kernel_rfl) ?_))
  refine bodyPost_ret (v := .agg zC) (results_cell_row rfl _ _ w.heap.size 33 _ (0, 0) _ rfl (l1.setRow _) Tryz.underlying33 rfl sz39) rfl ?_
  refine ⟨zC.toList, rfl, ?_, ?_⟩
  ·rw [← zero_cells]; exact HT.leaf _ _ 0 0 [] [] 0
  ·exact ⟨hg.pa.setRow hplt _, (((Kp.refl pb w).alloc _).trans hg.kp).setRow (Nat.le_refl _) _⟩
 ·rw [exprStep_here hd]
  obtain ⟨V, pv, _, _⟩ := hp.open
  obtain ⟨_, _, c2, _, _, fr⟩ := pv
  have c2' := fun o => cell_alloc w o c2
  have hd1 : (s.wi : Int) ≤ 200 := by omega
  have hd0 : (0 : Int) ≤ (s.wi : Int) := by omega
  have hp1 := (put_within hp (s.wi + 1)).alloc (.cells zC 33)
  have hls : ({ s with wi := s.wi + 1 } : St).ws.length ≤ n := by show s.ws.length ≤ n; omega
  have hcall := hH.2 _ _ hp1 hls
  have hni := (nice_exprHere (sz := sz) hxn { s with wi := s.wi + 1 }).2
  have hkk : Kp pb w ((w.setCell ⟨pb, 2, none⟩ (.int .i64 ((s.wi + 1 : Nat) : Int))).alloc (.cells zC 33)) := ((Kp.refl pb w).setCell (.inl rfl) _).alloc _
  have l1 : Lies ((w.setCell ⟨pb, 2, none⟩ (.int .i64 ((s.wi + 1 : Nat) : Int))).alloc (.cells zC 33)) w.heap.size 33 zC := Lies.new' _ _ _ (by simp [World.setCell])
  have hsz : ((w.setCell ⟨pb, 2, none⟩ (.int .i64 ((s.wi + 1 : Nat) : Int))).alloc (.cells zC 33)).heap.size = w.heap.size + 1 := by simp [World.setCell]
  generalize exprHere sz ex { s with wi := s.wi + 1 } = R at hcall hni ⊢
  have hcast : ((s.wi + 1 : Nat) : Int) = (s.wi : Int) + 1 := by omega
  rw [hcast] at hcall hkk l1 hsz
  have HC := Lib.hid hcall
  have HI := Lib.hid hni
  have HZ := Lib.hid hsz
  unfold zC at l1 hkk
  clear hcall hni hp1 l0 hsz hcast c2
  go_enter Tryz.func53, Tryz.ntmps53
  go_wp2_with fail
  refine HC.out.mono ?_
  rintro e w1 ⟨l, rfl, ht, hg⟩
  have l2 := hg.kp.lies l1 (by omega)
  have hlen := ht.len
  have HL := Lib.hid hlen
  obtain ⟨V1, pv1, _, hl1⟩ := hg.pa.open
  have fr2 := fun o => (hl1.alloc o).free 2
  clear hl1
  obtain ⟨_, _, k2, _, _, fr1⟩ := pv1
  have k2' := fun o => cell_alloc w1 o k2
  have hw1 : (R.2.wi : Int) = (s.wi : Int) + 1 := by rw [HI.out]; simp
  rw [hw1] at k2'
  have lz := Lies.new w1 33 zC
  unfold zC at lz
  clear hlen l1 k2 hw1
  have hszw : w.heap.size + 1 ≤ w1.heap.size := by have := hg.kp.size; rw [HZ.out] at this; exact this
  have l3 := (Lies.new w1 33 l.toArray).far (p := ⟨pb, 2, none⟩) (by show w1.heap.size ≠ pb; omega) (.int .i64 (s.wi : Int))
  have l4 := (l2.alloc (.cells l.toArray 33)).far (p := ⟨pb, 2, none⟩) (by show w.heap.size ≠ pb; omega) (.int .i64 (s.wi : Int))
  go_wp2_with (first | (refine wpList_store_rowTo rfl 33 (.tmp 3) (.tmp 20) rfl rfl _ _ rfl rfl 33 _ lz (by rw [sz39]; simp [HL.out]) (by simp [HL.out]) ht.one ?_; rw [set_new rfl]) | (refine wpList_load_row rfl 33 (.tmp 3) rfl _ rfl 33 _ (0, 0) _ l3 Tryz.underlying33 rfl (by rw [sz39]; simp [HL.out]) ?_) | (refine wpList_store_rowTo rfl 33 (.tmp 2) (.tmp 28) rfl rfl _ _ rfl rfl 33 _ l4 (by rw [sz39]; simp [HL.out]) (by simp [HL.out]) ht.one ?_))
  refine bodyPost_ret (v := .agg l.toArray) (results_cell_row rfl _ _ w.heap.size 33 _ (0, 0) _ rfl (l4.setRow _) Tryz.underlying33 rfl (by rw [sz39]; simp [HL.out])) rfl ?_
  refine ⟨l, rfl, ?_, ?_⟩
  ·refine HT.mono (HT.setRow (HT.kp (ht.later (below_new _ _)) (((Kp.refl pb _).setCell (.inl rfl) _)) (fun g hg' => ?_)) (fun g hg' => ?_) _) (fun g hg' _ => ?_)
   ·rw [HZ.out] at hg'; omega
   ·rw [HZ.out] at hg'; omega
   ·rw [HZ.out] at hg'; omega
  ·have hwi : R.2.wi - 1 = s.wi := by rw [HI.out]; simp
   rw [hwi]
   exact ⟨(put_within (hg.pa.alloc _) s.wi).setRow hplt _, ((((hkk.trans hg.kp).alloc _).setCell (.inl rfl) _).setRow (Nat.le_refl _) _)⟩
end Go.Proofs.YtmodmojocclmaaaGreatDoor

/- Contracts: what stands in brackets; what an arm does. -/
namespace Go.Proofs.YtmodmojocclmaaaGreatDoor
open Go.RowKit Pz

theorem bracketed_shut {sz : Nat} {ex : St → Tm × St} {a : Nat} {s : St} (h : isT [tShut] s = true) : bracketed sz ex a s = (.mk 4 a [] [] 0 [] [], take s) := by unfold bracketed; rw [if_pos h]
theorem bracketed_expr {sz : Nat} {ex : St → Tm × St} {a : Nat} {s : St} (h : isT [tShut] s = false) : bracketed sz ex a s = ((ex s).1, must sz [tShut] (ex s).2) := by unfold bracketed; rw [h]; rfl

set_option maxRecDepth 100000 in
set_option maxHeartbeats 4000000 in
theorem bracketed_any (ex : St → Tm × St) (pb sz n : Nat) (hx : ExOK ex pb sz n) (a : Nat) (w : World) (s : St) (hp : PA w pb sz s) (hn : s.ws.length < n) :
  Calls Tryz.prog 160 #[.pointer (some ⟨pb, 0, none⟩), .int .i64 (a : Int)] w (TermEnd pb sz (fun g => w.heap.size ≤ g) w (bracketed sz ex a s)) := by
 have hplt := hp.lt
 have l0 := (Lies.new w 33 zC).alloc (.cells #[.string (ba tShut)] 9)
 have hp1 := (hp.alloc (.cells zC 33)).alloc (.cells #[.string (ba tShut)] 9)
 have hS : Sl ((w.alloc (.cells zC 33)).alloc (.cells #[.string (ba tShut)] 9)) (.slice (some ⟨w.heap.size + 1, 0, none⟩) 1 1) [tShut] := Sl.new [tShut] (by simp) (by simp) 1 1 rfl rfl
 have hk1 : Kp pb w ((w.alloc (.cells zC 33)).alloc (.cells #[.string (ba tShut)] 9)) := ((Kp.refl pb w).alloc _).alloc _
 have hz1 : ((w.alloc (.cells zC 33)).alloc (.cells #[.string (ba tShut)] 9)).heap.size = w.heap.size + 2 := by simp
 have HZ := Lib.hid hz1
 clear hz1
 cases hT : isT [tShut] s
 ·rw [bracketed_expr hT]
  have hi := takeIf_no _ [tShut] _ pb sz s hp1 hS hT
  have HI := Lib.hid hi
  unfold zC at l0 hk1
  clear hi hT hS
  go_enter Tryz.func160, Tryz.ntmps160
  go_wp2_with fail
  refine HI.out.mono ?_
  rintro e w1 ⟨rfl, hb⟩
  have hp2 := hp1.below hb
  have l1 := l0.later hb
  have hk2 := hk1.below hb hk1.size
  have hsz1 : w.heap.size + 2 ≤ w1.heap.size := by have := hb.size; rw [HZ.out] at this; exact this
  clear l0 hk1
  go_wp2_with fail
  refine (hx w1 s hp2 hn).mono ?_
  rintro e w2 ⟨l, rfl, ht, hg⟩
  have hsz2 : w1.heap.size ≤ w2.heap.size := hg.kp.size
  have l2 := (hg.kp.lies l1 (by omega)).alloc (.cells l.toArray 33)
  have lz := Lies.new w2 33 zC
  unfold zC at lz
  have lb := Lies.new w2 33 l.toArray
  have hlen := ht.len
  have HL := Lib.hid hlen
  have hp3 := hg.pa.alloc (.cells l.toArray 33)
  have hS3 : Sl ((w2.alloc (.cells l.toArray 33)).alloc (.cells #[.string (ba tShut)] 9)) (.slice (some ⟨w2.heap.size + 1, 0, none⟩) 1 1) [tShut] := Sl.new [tShut] (by simp) (by simp) 1 1 rfl rfl
  have hm := must_any _ [tShut] _ pb sz (ex s).2 (hp3.alloc (.cells #[.string (ba tShut)] 9)) hS3 (Off.new (by omega))
  have HM := Lib.hid hm
  have hk3 := (((hk2.trans hg.kp).alloc (.cells l.toArray 33)).alloc (.cells #[.string (ba tShut)] 9))
  have ht3 := (ht.lt.later (below_new w2 (.cells l.toArray 33))).later (below_new _ (.cells #[.string (ba tShut)] 9))
  have l3 := l2.alloc (.cells #[.string (ba tShut)] 9)
  have lb3 := lb.alloc (.cells #[.string (ba tShut)] 9)
  clear hlen l1 hS3 hm
  go_wp2_with (first | (refine wpList_store_rowTo rfl 33 (.tmp 5) (.tmp 14) rfl rfl _ _ rfl rfl 33 _ lz (by rw [sz39]; simp [HL.out]) (by simp [HL.out]) ht.one ?_; rw [set_new rfl]))
  refine HM.out.mono ?_
  rintro e w3 ⟨rfl, hg3⟩
  have l4 := hg3.kp.lies l3 (by omega)
  have lb4 := hg3.kp.lies lb3 (by omega)
  have ht4 := ht3.kp hg3.kp (fun g hg' => by have := hg'.1; omega)
  clear l3 lb3 lz l2 lb
  go_wp2_with (first | (refine wpList_load_row rfl 33 (.tmp 5) rfl _ rfl 33 _ (0, 0) _ lb4 Tryz.underlying33 rfl (by rw [sz39]; simp [HL.out]) ?_) | (refine wpList_store_rowTo rfl 33 (.tmp 4) (.tmp 18) rfl rfl _ _ rfl rfl 33 _ l4 (by rw [sz39]; simp [HL.out]) (by simp [HL.out]) ht.one ?_))
  refine bodyPost_ret (v := .agg l.toArray) (results_cell_row rfl _ _ w.heap.size 33 _ (0, 0) _ rfl (l4.setRow _) Tryz.underlying33 rfl (by rw [sz39]; simp [HL.out])) rfl ?_
  refine ⟨l, rfl, ?_, ?_⟩
  ·exact HT.mono (HT.setRow ht4 (fun g hg' => by have := hg'.1; omega) _) (fun g hg' _ => by have := hg'.1; omega)
  ·exact ⟨hg3.pa.setRow hplt _, (hk3.trans hg3.kp).setRow (Nat.le_refl _) _⟩
 ·rw [bracketed_shut hT]
  have hi := takeIf_yes _ [tShut] _ pb sz s hp1 hS hT
  have HI := Lib.hid hi
  unfold zC at l0 hk1
  clear hi hT hS
  go_enter Tryz.func160, Tryz.ntmps160
  go_wp2_with fail
  refine HI.out.mono ?_
  rintro e w1 ⟨rfl, hg⟩
  have l1 := hg.kp.lies l0 (by omega)
  go_wp2_with (first | (refine wpList_store_rowTo rfl 33 (.tmp 4) (.tmp 12) rfl rfl _ _ rfl rfl 33 _ l1 sz39 rfl (by kernel_rfl) ?_))
  refine bodyPost_ret (v := .agg (tmC 4 a [] [] 0 (.slice none 0 0) (.slice none 0 0)).toArray) (results_cell_row rfl _ _ w.heap.size 33 _ (0, 0) _ rfl (l1.setRow _) Tryz.underlying33 rfl sz39) rfl ?_
  exact ⟨_, rfl, HT.leaf _ _ 4 a [] [] 0, hg.pa.setRow hplt _, (hk1.trans hg.kp).setRow (Nat.le_refl _) _⟩

theorem sz65 : (Tryz.prog.info? 35).map (·.size) = some 23 := by kernel_rfl
def zA : Array Value := (Value.string ⟨#[]⟩ :: Value.slice none 0 0 :: zC.toList).toArray
def ArmEnd (pb sz : Nat) (P : Nat → Prop) (w : World) (r : Arm × St) (e : Ending) (w' : World) : Prop :=
 ∃ l : List Value, e = .returned (.agg l.toArray) ∧ ArmIt w' P r.1 l ∧ Goes pb sz w r.2 w'
theorem arm_cells (nm : Str) (vv : Value) (l : List Value) (hl : l.length = 21) : (([Value.string (ba nm), vv] ++ zC.toList).take 2 ++ l ++ ([Value.string (ba nm), vv] ++ zC.toList).drop (2 + l.length)) = Value.string (ba nm) :: vv :: l := by
 rw [hl]
 rw [show ([Value.string (ba nm), vv] ++ zC.toList).drop (2 + 21) = [] from rfl]
 simp
theorem Lies.there {w : World} {g : Nat} {t : TypeId} {cs : Array Value} (h : Lies w g t cs) (o n : Nat) (hn : o + n ≤ cs.size) : w.there g o n := fun j hj => ⟨by rw [h.cell]; rw [Array.getElem?_eq_getElem (by omega)]; rfl, h.free _⟩

theorem arm_ones (nm : Str) (vv : Value) (l : List Value) (hv : vv.oneCell' = true) (hl : ∀ u ∈ l, u.oneCell' = true) : (Value.string (ba nm) :: vv :: l).toArray.all (·.oneCell') = true := by
 simp only [Array.all_eq_true_iff_forall_mem]
 intro u hu
 simp only [List.mem_toArray, List.mem_cons] at hu
 rcases hu with rfl | rfl | hu
 ·rfl
 ·exact hv
 ·exact hl u hu

set_option maxRecDepth 100000 in
set_option maxHeartbeats 4000000 in
theorem does_any (ex : St → Tm × St) (pb sz n : Nat) (hx : ExOK ex pb sz n) (nm : Str) (vs : List Str) (vv : Value) (P : Nat → Prop) (hP : ∀ g, P g → g ≠ pb) (w : World) (s : St) (hp : PA w pb sz s) (hn : (must1 sz tArrow s).ws.length < n)
  (hv : OwnP w P 9 1 vv vs.length (vs.map fun t => .string (ba t))) :
  Calls Tryz.prog 116 #[.pointer (some ⟨pb, 0, none⟩), .agg ([Value.string (ba nm), vv] ++ zC.toList).toArray] w (ArmEnd pb sz (fun g => P g ∨ w.heap.size ≤ g) w (does sz ex nm vs s)) := by
 have hplt := hp.lt
 obtain ⟨C, hC⟩ : ∃ C, C = [Value.string (ba nm), vv] ++ zC.toList := ⟨_, rfl⟩
 rw [← hC]
 have hCl : C.length = 23 := by rw [hC]; rfl
 have hv1 := hv.one
 have HC := Lib.hid hC
 have HCl := Lib.hid hCl
 have lA := ((Lies.new w 35 C.toArray).alloc (.cells zA 35)).alloc (.cells #[.string (ba tArrow)] 9)
 have lR := (Lies.new' (w.alloc (.cells C.toArray 35)) 35 zA (N := w.heap.size + 1) (by simp)).alloc (.cells #[.string (ba tArrow)] 9)
 have hp1 := ((hp.alloc (.cells C.toArray 35)).alloc (.cells zA 35)).alloc (.cells #[.string (ba tArrow)] 9)
 have hS : Sl (((w.alloc (.cells C.toArray 35)).alloc (.cells zA 35)).alloc (.cells #[.string (ba tArrow)] 9)) (.slice (some ⟨w.heap.size + 2, 0, none⟩) 1 1) [tArrow] := Sl.new [tArrow] (by simp) (by simp) 1 1 rfl rfl
 have hk1 : Kp pb w (((w.alloc (.cells C.toArray 35)).alloc (.cells zA 35)).alloc (.cells #[.string (ba tArrow)] 9)) := (((Kp.refl pb w).alloc _).alloc _).alloc _
 have hz1 : (((w.alloc (.cells C.toArray 35)).alloc (.cells zA 35)).alloc (.cells #[.string (ba tArrow)] 9)).heap.size = w.heap.size + 3 := by simp
 have hm := must_any _ [tArrow] _ pb sz s hp1 hS (Off.new (by omega))
 have HM := Lib.hid hm
 have HZ := Lib.hid hz1
 clear hz1 hm hC hCl hS hp1
 go_enter Tryz.func116, Tryz.ntmps116
 go_wp2_with fail
 refine HM.out.mono ?_
 rintro e w1 ⟨rfl, hg1⟩
 have lA1 := hg1.kp.lies lA (by omega)
 have lR1 := hg1.kp.lies lR (by omega)
 have hsz1 : w.heap.size + 3 ≤ w1.heap.size := by have := hg1.kp.size; rw [HZ.out] at this; exact this
 go_wp2_with fail
 refine (hx w1 _ hg1.pa hn).mono ?_
 rintro e w2 ⟨l, rfl, ht, hg2⟩
 have lA2 := hg2.kp.lies lA1 (by omega)
 have lR2 := hg2.kp.lies lR1 (by omega)
 have hlen := ht.len
 have HL := Lib.hid hlen
 have lA3 := Lies.setCells l 2 lA2 (by have := HCl.out; omega)
 rw [HC.out, arm_cells nm vv l hlen] at lA3
 have lR3 := lR2.farCells (g' := w.heap.size) 2 l (by omega)
 have thr : w2.there w.heap.size 2 l.toArray.size := by show w2.there w.heap.size 2 l.length; rw [hlen]; exact lA2.there 2 21 (by show 2 + 21 ≤ C.length; have := HCl.out; omega)
 have hones := arm_ones nm vv l hv1 ht.ones
 have hs65 : (Tryz.prog.info? 35).map (·.size) = some (Value.string (ba nm) :: vv :: l).toArray.size := by rw [sz65]; simp [hlen]
 have hs39 : (Tryz.prog.info? 33).map (·.size) = some l.toArray.size := by rw [sz39]; simp [hlen]
 have hzA : zA.size = (Value.string (ba nm) :: vv :: l).toArray.size := by simp [hlen, zA, zC]
 have HTHR := Lib.hid thr
 have HON := Lib.hid hones
 have H65 := Lib.hid hs65
 have H39 := Lib.hid hs39
 have HZA := Lib.hid hzA
 clear thr hones hs65 hs39 hzA
 clear hlen lA lR lA1 lR1
 go_wp2_with (first | (refine wpList_store_mid rfl 33 (.tmp 10) (.tmp 9) rfl w.heap.size 2 l.toArray rfl rfl HTHR.out H39.out ht.one ?_; rw [List.toList_toArray]) | (refine wpList_load_row rfl 35 (.tmp 3) rfl _ rfl 35 _ (0, 0) _ lA3 Tryz.underlying35 rfl H65.out ?_) | (refine wpList_store_rowTo rfl 35 (.tmp 4) (.tmp 11) rfl rfl _ _ rfl rfl 35 _ lR3 H65.out HZA.out HON.out ?_))
 refine bodyPost_ret (v := .agg (Value.string (ba nm) :: vv :: l).toArray) (results_cell_row rfl _ _ (w.heap.size + 1) 35 _ (0, 0) _ rfl (lR3.setRow _) Tryz.underlying35 rfl H65.out) rfl ?_
 have hk2 : Kp pb w w2 := (hk1.trans hg1.kp).trans hg2.kp
 have hsz2 := hg2.kp.size
 have hall : ∀ g, g < w.heap.size → g ≠ pb → ((w2.setCells w.heap.size 2 l).setRow (w.heap.size + 1) (Value.string (ba nm) :: vv :: l).toArray).heap[g]? = w.heap[g]? := fun g hg hne => by
  rw [heap_setRow _ _ _ _ (by omega), heap_setCells _ _ _ _ _ (by omega)]
  exact hk2.block g hg (fun e => hne (by injection e))
 refine ⟨_, rfl, ⟨vv, l, rfl, ?_, ?_⟩, ?_⟩
 ·exact (hv.same (fun g hg hlt => hall g hlt (hP g hg))).mono (fun g hg _ => .inl hg)
 ·exact HT.mono (HT.setRow (HT.setCells ht (fun g (hg' : w1.heap.size ≤ g) => by omega) _ _) (fun g (hg' : w1.heap.size ≤ g) => by omega) _) (fun g (hg' : w1.heap.size ≤ g) _ => .inr (by omega))
 ·exact ⟨(hg2.pa.setCells hplt _ _).setRow (by omega) _, (hk2.setCells (Nat.le_refl _) _ _).setRow (by omega) _⟩
end Go.Proofs.YtmodmojocclmaaaGreatDoor

/- The contract of what reads items between two signs. -/
namespace Go.Proofs.YtmodmojocclmaaaGreatDoor
open Go.RowKit Pz

theorem more_no {α : Type} {item : St → α × St} {b : Str} {s : St} (h : isT [b] s = false) (n : Nat) : more item b n s = ([], s) := by
 cases n with
 | zero => rfl
 | succ n => unfold more; rw [h]; rfl
theorem more_yes {α : Type} {item : St → α × St} {b : Str} {s : St} (h : isT [b] s = true) (n : Nat) : more item b (n + 1) s = ((item (take s)).1 :: (more item b n (item (take s)).2).1, (more item b n (item (take s)).2).2) := by
 rw [more, if_pos h]

structure ListCtx {α : Type} (F : Nat) (caps : Array Value) (item : St → α × St) (pb sz n : Nat) (J : World → List α → Prop) : Prop where
 ent : ∀ (args : Array Value) (w : World), (callFunc F args).run Tryz.prog w = .ok (.enter F args) w
 kp : ∀ w w' acc, J w acc → Kp pb w w' → J w' acc
 nice : Nice item
 item : ∀ (w : World) (s : St) (acc : List α), PA w pb sz s → J w acc → acc.length + s.ws.length < n → Calls Tryz.prog F caps w fun e w' => e = .returned (.tuple #[]) ∧ PA w' pb sz (item s).2 ∧ J w' (acc ++ [(item s).1])

structure MoreRel {α : Type} (item : St → α × St) (pb sz n : Nat) (J : World → List α → Prop) (b : Str) (res : List α × St) (g : Nat) (wr : World) (acc : List α) (s : St) : Prop where
 pa : PA wr pb sz s
 j : J wr acc
 lg : s.ws.length ≤ g
 ln : acc.length + s.ws.length ≤ n
 res : res = (acc ++ (more item b g s).1, (more item b g s).2)
def MoreAny {α : Type} (item : St → α × St) (pb sz n : Nat) (J : World → List α → Prop) (b : Str) (res : List α × St) (g : Nat) (wr : World) : Prop := ∃ acc s, MoreRel item pb sz n J b res g wr acc s
def ListPost {α : Type} (pb sz : Nat) (J : World → List α → Prop) (r : List α × St) (e : Ending) (w' : World) : Prop := e = .returned (.tuple #[]) ∧ PA w' pb sz r.2 ∧ J w' r.1

theorem list_shut {α : Type} {item : St → α × St} {sz : Nat} {o b c : Str} {s : St} (h : isT [c] (must1 sz o s) = true) : list sz item o b c s = ([], must1 sz c (must1 sz o s)) := by
 unfold list; dsimp only; rw [if_pos h]
theorem list_items {α : Type} {item : St → α × St} {sz : Nat} {o b c : Str} {s : St} (h : isT [c] (must1 sz o s) = false) :
  list sz item o b c s = ((item (must1 sz o s)).1 :: (more item b (item (must1 sz o s)).2.ws.length (item (must1 sz o s)).2).1, must1 sz c (more item b (item (must1 sz o s)).2.ws.length (item (must1 sz o s)).2).2) := by
 unfold list; dsimp only; rw [h]; rfl

set_option maxRecDepth 100000 in
set_option maxHeartbeats 4000000 in
theorem list_any {α : Type} (F : Nat) (caps : Array Value) (item : St → α × St) (pb sz n : Nat) (J : World → List α → Prop) (X : ListCtx F caps item pb sz n J) (o b c : Str) (w : World) (s : St) (hp : PA w pb sz s) (hJ : J w []) (hn : (must1 sz o s).ws.length < n) :
  Calls Tryz.prog 75 #[.pointer (some ⟨pb, 0, none⟩), .string (ba o), .string (ba b), .string (ba c), .func (.func F) #[] caps] w (ListPost pb sz J (list sz item o b c s)) := by
 have hent := X.ent
 have hplt := hp.lt
 have hb1 := below_new w (.cells #[.string (ba o)] 9)
 have hS1 : Sl (w.alloc (.cells #[.string (ba o)] 9)) (.slice (some ⟨w.heap.size, 0, none⟩) 1 1) [o] := Sl.new [o] rfl (by simp) 1 1 rfl rfl
 have hm1 := must_any _ [o] _ pb sz s (hp.below hb1) hS1 (Off.new (by omega))
 have HM1 := Lib.hid hm1
 have hJ1 := X.kp _ _ _ hJ ((Kp.refl pb w).below hb1 (Nat.le_refl _))
 have HJ1 := Lib.hid hJ1
 have HX := Lib.hid X
 have hno : isT [b] (must1 sz o s) = isT [b] (must1 sz o s) := rfl
 clear hS1 hm1 hJ hJ1 X hno
 cases hT : isT [c] (must1 sz o s)
 ·rw [list_items hT]
  have HT' := Lib.hid hT
  clear hT
  go_enter Tryz.func75, Tryz.ntmps75
  go_wp2_with fail
  refine HM1.out.mono ?_
  rintro e w1 ⟨rfl, hg1⟩
  have hb2 := below_new w1 (.cells #[.string (ba c)] 9)
  have hS2 : Sl (w1.alloc (.cells #[.string (ba c)] 9)) (.slice (some ⟨w1.heap.size, 0, none⟩) 1 1) [c] := Sl.new [c] rfl (by simp) 1 1 rfl rfl
  have hi := is_any _ [c] _ pb sz (must1 sz o s) (hg1.pa.below hb2) hS2
  rw [HT'.out] at hi
  have HI := Lib.hid hi
  clear hS2 hi
  go_wp2_with fail
  refine HI.out.mono ?_
  rintro e w2 ⟨rfl, hb3⟩
  have hp2 : PA w2 pb sz (must1 sz o s) := (hg1.pa.below hb2).below hb3
  have hk2 : Kp pb (w.alloc (.cells #[.string (ba o)] 9)) w2 := ((hg1.kp.below hb2 hg1.kp.size).below hb3 (by have := hg1.kp.size; simp at this ⊢; omega))
  have hit := HX.out.item w2 (must1 sz o s) [] hp2 (HX.out.kp _ _ _ HJ1.out hk2) (by simpa using hn)
  have HIT := Lib.hid hit
  clear hit
  go_wp2_with fail
  refine HIT.out.mono ?_
  rintro e w3 ⟨rfl, hp3, hj3⟩
  have hle := (HX.out.nice (must1 sz o s)).1
  generalize hR : item (must1 sz o s) = R at hp3 hj3 hle ⊢
  have HR := Lib.hid hR
  have hst : MoreRel item pb sz n J b (R.1 :: (more item b R.2.ws.length R.2).1, (more item b R.2.ws.length R.2).2) R.2.ws.length w3 [R.1] R.2 := ⟨hp3, hj3, Nat.le_refl _, by simp; omega, by simp⟩
  clear hR hp2 hk2 hb2 hb3 hg1 hp3 hj3 hp
  generalize hres : (R.1 :: (more item b R.2.ws.length R.2).1, (more item b R.2.ws.length R.2).2) = res at hst
  have e1 : R.1 :: (more item b R.2.ws.length R.2).1 = res.1 := by rw [← hres]
  have e2 : (more item b R.2.ws.length R.2).2 = res.2 := by rw [← hres]
  rw [e1, e2]
  have HE := Lib.hid hres
  clear e1 e2 hres
  go_wp2_with fail
  go_loopg [28] R.2.ws.length (fun g _ wr => MoreAny item pb sz n J b res g wr)
  case atStart => exact ⟨_, _, hst⟩
  case round =>
   obtain ⟨acc, s', hM⟩ := hrel
   have HMR := Lib.hid hM
   have hpr := hM.pa
   have hjr := hM.j
   have hb4 := below_new wr (.cells #[.string (ba b)] 9)
   have hS4 : Sl (wr.alloc (.cells #[.string (ba b)] 9)) (.slice (some ⟨wr.heap.size, 0, none⟩) 1 1) [b] := Sl.new [b] rfl (by simp) 1 1 rfl rfl
   clear hM hst
   cases hTb : isT [b] s'
   ·have hi := takeIf_no _ [b] _ pb sz s' (hpr.below hb4) hS4 hTb
    have HI := Lib.hid hi
    have hres := HMR.out.res
    rw [more_no hTb] at hres
    have HRES := Lib.hid hres
    clear hi hTb hS4 hres
    go_wp2_with fail
    refine HI.out.mono ?_
    rintro e w4 ⟨rfl, hb5⟩
    have hp5 := (hpr.below hb4).below hb5
    have hj5 := HX.out.kp _ _ _ hjr (((Kp.refl pb wr).below hb4 (Nat.le_refl _)).below hb5 (by simp))
    have hb6 := below_new w4 (.cells #[.string (ba c)] 9)
    have hS6 : Sl (w4.alloc (.cells #[.string (ba c)] 9)) (.slice (some ⟨w4.heap.size, 0, none⟩) 1 1) [c] := Sl.new [c] rfl (by simp) 1 1 rfl rfl
    have hm6 := must_any _ [c] _ pb sz s' (hp5.below hb6) hS6 (Off.new hp5.lt)
    have HM6 := Lib.hid hm6
    clear hm6 hS6
    go_wp2_with fail
    refine HM6.out.mono ?_
    rintro e w6 ⟨rfl, hg6⟩
    have hj6 := HX.out.kp _ _ _ hj5 (((Kp.refl pb w4).below hb6 (Nat.le_refl _)).trans hg6.kp)
    go_wp2_with fail
    go_end0
    have hr := HRES.out
    rw [List.append_nil] at hr
    have hE := HE.out.trans hr
    simp only [Prod.mk.injEq] at hE
    obtain ⟨hE1, hE2⟩ := hE
    rw [HR.out, hE1, hE2]
    exact ⟨rfl, hg6.pa, hj6⟩
   ·have hi := takeIf_yes _ [b] _ pb sz s' (hpr.below hb4) hS4 hTb
    have HI := Lib.hid hi
    have HTb := Lib.hid hTb
    have hpos := isT_pos hTb
    have htl := take_lt hpos
    clear hi hTb hS4
    go_wp2_with fail
    refine HI.out.mono ?_
    rintro e w4 ⟨rfl, hg5⟩
    have hj5 := HX.out.kp _ _ _ hjr (((Kp.refl pb wr).below hb4 (Nat.le_refl _)).trans hg5.kp)
    have hln := HMR.out.ln
    have hlg := HMR.out.lg
    have hit := HX.out.item w4 (take s') acc hg5.pa hj5 (by omega)
    have HIT := Lib.hid hit
    clear hit
    go_wp2_with fail
    refine HIT.out.mono ?_
    rintro e w5 ⟨rfl, hp6, hj6⟩
    have hle2 := (HX.out.nice (take s')).1
    go_wp2_with fail
    go_roundg (gk - 1)
    case measure => omega
    case rel =>
     refine ⟨_, _, hp6, hj6, by omega, by simp; omega, ?_⟩
     have hr := HMR.out.res
     obtain ⟨g', rfl⟩ : ∃ g', gk = g' + 1 := ⟨gk - 1, by omega⟩
     rw [more_yes HTb.out] at hr
     rw [hr]
     simp
 ·rw [list_shut hT]
  have HT' := Lib.hid hT
  clear hT
  go_enter Tryz.func75, Tryz.ntmps75
  go_wp2_with fail
  refine HM1.out.mono ?_
  rintro e w1 ⟨rfl, hg1⟩
  have hb2 := below_new w1 (.cells #[.string (ba c)] 9)
  have hS2 : Sl (w1.alloc (.cells #[.string (ba c)] 9)) (.slice (some ⟨w1.heap.size, 0, none⟩) 1 1) [c] := Sl.new [c] rfl (by simp) 1 1 rfl rfl
  have hi := is_any _ [c] _ pb sz (must1 sz o s) (hg1.pa.below hb2) hS2
  rw [HT'.out] at hi
  have HI := Lib.hid hi
  clear hS2 hi
  go_wp2_with fail
  refine HI.out.mono ?_
  rintro e w2 ⟨rfl, hb3⟩
  have hp2 : PA w2 pb sz (must1 sz o s) := (hg1.pa.below hb2).below hb3
  have hk2 : Kp pb (w.alloc (.cells #[.string (ba o)] 9)) w2 := ((hg1.kp.below hb2 hg1.kp.size).below hb3 (by have := hg1.kp.size; simp at this ⊢; omega))
  have hj2 := HX.out.kp _ _ _ HJ1.out hk2
  have hb6 := below_new w2 (.cells #[.string (ba c)] 9)
  have hS6 : Sl (w2.alloc (.cells #[.string (ba c)] 9)) (.slice (some ⟨w2.heap.size, 0, none⟩) 1 1) [c] := Sl.new [c] rfl (by simp) 1 1 rfl rfl
  have hm6 := must_any _ [c] _ pb sz _ (hp2.below hb6) hS6 (Off.new hp2.lt)
  have HM6 := Lib.hid hm6
  clear hm6 hS6
  go_wp2_with fail
  refine HM6.out.mono ?_
  rintro e w6 ⟨rfl, hg6⟩
  have hj6 := HX.out.kp _ _ _ hj2 (((Kp.refl pb w2).below hb6 (Nat.le_refl _)).trans hg6.kp)
  go_wp2_with fail
  go_end0
  exact ⟨rfl, hg6.pa, hj6⟩
end Go.Proofs.YtmodmojocclmaaaGreatDoor

/- Lists in memory that grow by a place, which is filled then. -/
namespace Go.Proofs.YtmodmojocclmaaaGreatDoor
open Go.RowKit Pz

section
variable {α : Type} {It : World → (Nat → Prop) → α → List Value → Prop} {e : TypeId} {sz : Nat} {zL : List Value}
def Acc1 (It : World → (Nat → Prop) → α → List Value → Prop) (e : TypeId) (sz : Nat) (zL : List Value) (w : World) (lo : Nat) (acc : List α) (v : Value) : Prop :=
 ∃ xs : List (List Value), xs.length = acc.length ∧ w.ownsRow lo e sz v (acc.length + 1) (xs.flatten ++ zL) ∧ ∀ (i : Nat) a l, acc[i]? = some a → xs[i]? = some l → It w (fun k => lo ≤ k ∧ some k ≠ v.ownBlock) a l
theorem Acc1.keep (ok : ItOK sz It) {w w' : World} {lo : Nat} {acc : List α} {v : Value} (h : Acc1 It e sz zL w lo acc v) (hs : ∀ g, lo ≤ g → g < w.heap.size → w'.heap[g]? = w.heap[g]?) : Acc1 It e sz zL w' lo acc v := by
 obtain ⟨xs, h1, h2, h3⟩ := h
 exact ⟨xs, h1, OwnP.same (P := fun g => lo ≤ g) h2 (fun g hg hlt => hs g hg hlt), fun i a l ha hl => ok.same (h3 i a l ha hl) (fun g hg hlt => hs g hg.1 hlt)⟩
theorem Acc1.kp (ok : ItOK sz It) {w w' : World} {lo pb : Nat} {acc : List α} {v : Value} (h : Acc1 It e sz zL w lo acc v) (hk : Kp pb w w') (hp : pb < lo) : Acc1 It e sz zL w' lo acc v :=
 h.keep ok (fun g hg hlt => hk.block g hlt (fun e => by injection e; omega))
theorem Acc1.form {w : World} {lo : Nat} {acc : List α} {v : Value} (h : Acc1 It e sz zL w lo acc v) : ∃ g c, v = .slice (some ⟨g, 0, none⟩) (acc.length + 1) c ∧ acc.length + 1 ≤ c ∧ lo ≤ g ∧ g < w.heap.size := by
 obtain ⟨xs, _, h2, _⟩ := h
 rcases h2.2 with ⟨_, h⟩ | ⟨g, c, cur, h3, h4, h5, h6, _⟩
 ·omega
 ·exact ⟨g, c, h3, h6, h4, lt_of_block h5⟩
theorem Acc.form {w : World} {lo : Nat} {acc : List α} {v : Value} (h : Acc It e sz w lo acc v) : ∃ A c, v = .slice A acc.length c ∧ ∀ k, v.ownBlock = some k → lo ≤ k ∧ k < w.heap.size := by
 obtain ⟨xs, _, h2, _⟩ := h
 have hb := own_block h2
 rcases h2.2 with ⟨h3, h4⟩ | ⟨g, c, cur, h3, _⟩
 ·exact ⟨none, 0, by rw [h3, h4], hb⟩
 ·exact ⟨_, c, h3, hb⟩
theorem Acc.place (ok : ItOK sz It) {w w' : World} {lo : Nat} {acc : List α} {v v' : Value} {xs : List (List Value)} (h1 : xs.length = acc.length) (h3 : ∀ (i : Nat) a l, acc[i]? = some a → xs[i]? = some l → It w (fun k => lo ≤ k ∧ some k ≠ v.ownBlock) a l)
  (hown : w'.ownsRow lo e sz v' (acc.length + 1) (xs.flatten ++ zL)) (hg : w.grownBy w' v.ownBlock) (hat : v'.ownBlock = v.ownBlock ∨ v'.ownBlock = some w.heap.size) : Acc1 It e sz zL w' lo acc v' := by
 refine ⟨xs, h1, hown, fun i a l ha hl => ?_⟩
 have hit := ok.mono (Q := fun k => (lo ≤ k ∧ some k ≠ v.ownBlock) ∧ k < w.heap.size) (h3 i a l ha hl) (fun g h hl => ⟨h, hl⟩)
 refine ok.mono (ok.same hit (fun g hg' hlt => hg.block g hlt hg'.1.2)) (fun g hg' _ => ⟨hg'.1.1, ?_⟩)
 rcases hat with hat | hat
 ·rw [hat]; exact hg'.1.2
 ·rw [hat]; intro he; injection he; have := hg'.2; omega
theorem take_append_len {l r : List Value} {n : Nat} (h : l.length = n) : (l ++ r).take n = l := by subst h; simp
theorem Acc1.fill (ok : ItOK sz It) {w : World} {lo : Nat} {acc : List α} {g n c : Nat} {a : α} {l : List Value} (h : Acc1 It e sz zL w lo acc (.slice (some ⟨g, 0, none⟩) n c)) (hz : zL.length = sz) (hi : It w (fun k => lo ≤ k ∧ k ≠ g) a l) :
  Acc It e sz (w.setCells g (acc.length * sz) l) lo (acc ++ [a]) (.slice (some ⟨g, 0, none⟩) n c) := by
 have hl : l.length = sz := ok.len hi
 obtain ⟨xs, h1, h2, h3⟩ := h
 have hne : ∀ k, k ≠ g → (w.setCells g (acc.length * sz) l).heap[k]? = w.heap[k]? := fun k hk => heap_setCells g l _ w k hk
 have hob : (Value.slice (some ⟨g, 0, none⟩) n c).ownBlock = some g := rfl
 have hitem : ∀ (b : α) (m : List Value), It w (fun k => lo ≤ k ∧ k ≠ g) b m → It (w.setCells g (acc.length * sz) l) (fun k => lo ≤ k ∧ some k ≠ (Value.slice (some ⟨g, 0, none⟩) n c).ownBlock) b m := fun b m hb =>
  ok.mono (ok.same hb (fun k hk _ => hne k hk.2)) (fun k hk _ => ⟨hk.1, by rw [hob]; intro he; injection he; exact hk.2 (by assumption)⟩)
 refine ⟨xs ++ [l], by simp [h1], ?_, fun i b m hb hm => ?_⟩
 ·have hfl : xs.flatten.length = acc.length * sz := by
   have := h2.1
   simp only [List.length_append, hz, Nat.succ_mul] at this
   omega
  rcases h2.2 with ⟨h, _⟩ | ⟨g', cap, cur, hv, hlo, hh, hn, hm, hs, ht⟩
  ·cases h
  ·injection hv with hv1 hv2 hv3
   injection hv1 with hv1
   injection hv1 with hv1 _ _
   subst hv1 hv2 hv3
   have hcs : cur.toList.length = c * sz := by simpa using hs
   have hcl : acc.length * sz + l.length ≤ cur.toList.length := by
    have : (acc.length + 1) * sz ≤ c * sz := Nat.mul_le_mul_right _ hn
    rw [hl, hcs]
    simp only [Nat.add_mul, Nat.one_mul] at this
    omega
   have hL : Lies w g e cur.toList.toArray := by rw [Array.toArray_toList]; exact hh
   have hset := Lies.setCells l (acc.length * sz) hL hcl
   have hlen1 : (cur.toList.take (acc.length * sz)).length = acc.length * sz := by rw [List.length_take]; omega
   have htk : cur.toList.take (acc.length * sz) = xs.flatten := by
    have h5 : (cur.toList.take ((acc.length + 1) * sz)).take (acc.length * sz) = (xs.flatten ++ zL).take (acc.length * sz) := by rw [ht]
    rw [List.take_take, Nat.min_eq_left (Nat.mul_le_mul_right _ (by omega)), take_append_len hfl] at h5
    exact h5
   refine ⟨by simp [hfl, hl, Nat.add_mul], .inr ⟨g, c, _, by simp, hlo, hset, by simpa using hn, hm, ?_, ?_⟩⟩
   ·have : acc.length * sz ≤ cur.toList.length := by omega
    simp only [List.size_toArray, List.length_append, List.length_take, List.length_drop]
    rw [Nat.min_eq_left this, hcs]
    rw [hcs] at hcl
    omega
   ·rw [List.toList_toArray, htk]
    simp only [List.length_append, List.length_cons, List.length_nil, List.flatten_append, List.flatten_cons, List.flatten_nil, List.append_nil]
    exact take_append_len (by simp [hfl, hl, Nat.add_mul])
 ·by_cases hlt : i < acc.length
  ·rw [List.getElem?_append_left hlt] at hb
   rw [List.getElem?_append_left (by omega)] at hm
   refine hitem b m (ok.mono (h3 i b m hb hm) (fun k hk _ => ⟨hk.1, fun e => hk.2 (by rw [hob, e])⟩))
  ·have hi' : i = acc.length := by
    have := (List.getElem?_eq_some_iff.1 hb).1
    simp at this; omega
   subst hi'
   rw [List.getElem?_append_right (Nat.le_refl _)] at hb
   rw [List.getElem?_append_right (by omega), h1] at hm
   simp at hb hm
   subst hb hm
   exact hitem _ _ hi
end
end Go.Proofs.YtmodmojocclmaaaGreatDoor

/- Laws for the closures that append an item to a captured list. -/
namespace Go.Proofs.YtmodmojocclmaaaGreatDoor
open Go.RowKit Pz

theorem fill_rows {sz : Nat} (h0 : 0 < sz) (ls : List (List Value)) (hl : ∀ l ∈ ls, l.length = sz) (cells : Array Value) (hc : cells.size = ls.length * sz) :
  Instr.fill (fun i => some (i * sz, sz)) cells (((ls.map fun l => Value.agg l.toArray).zipIdx 0).map fun x => (x.2, x.1)) = some ls.flatten.toArray := by
 obtain ⟨r, hr, hsz, hk⟩ := Great.fill_dense (s := sz) h0 (ls.map fun l => Value.agg l.toArray) 0 cells (by
  intro v hv
  simp only [List.mem_map] at hv
  obtain ⟨l, hl', rfl⟩ := hv
  show l.toArray.size = sz
  simp [hl l hl']) (by simp [hc])
 rw [hr]
 congr 1
 apply Array.ext_getElem?
 intro i
 rw [hk i]
 have hflat : ∀ (ls : List (List Value)), (∀ l ∈ ls, l.length = sz) → ∀ i, ls.flatten[i]? = (ls[i / sz]?).bind fun l => l[i % sz]? := by
  intro ls
  induction ls with
  | nil => intro _ i; simp
  | cons l r ih =>
   intro hl i
   have h1 : l.length = sz := hl l (by simp)
   rw [List.flatten_cons, List.getElem?_append]
   by_cases hi : i < sz
   ·rw [if_pos (by omega), Nat.div_eq_of_lt hi, Nat.mod_eq_of_lt hi]; rfl
   ·rw [if_neg (by omega), ih (fun x hx => hl x (by simp [hx])), h1, show i / sz = (i - sz) / sz + 1 from Nat.div_eq_sub_div h0 (by omega), show i % sz = (i - sz) % sz from Nat.mod_eq_sub_mod (by omega)]; rfl
 simp only [List.getElem?_toArray, hflat ls hl i]
 by_cases hi : i < ls.length * sz
 ·rw [if_pos (by simp; omega)]
  rw [Nat.sub_zero, List.getElem?_map]
  cases ls[i / sz]? with
  | none => rfl
  | some l => show l.toArray[i % sz]? = l[i % sz]?; simp
 ·rw [if_neg (by simp; omega)]
  rw [List.getElem?_eq_none (show ls.length ≤ i / sz from (Nat.le_div_iff_mul_le h0).2 (by omega))]
  simp [hc]; omega
theorem fill_row {sz : Nat} (h0 : 0 < sz) (l : List Value) (hl : l.length = sz) (cells : Array Value) (hc : cells.size = sz) : Instr.fill (fun i => some (i * sz, sz)) cells [(0, Value.agg l.toArray)] = some l.toArray := by
 have h := fill_rows h0 [l] (by simpa using hl) cells (by simpa using hc)
 have e : [l].flatten = l := by simp
 rw [e] at h
 exact h

section
variable {P : Program}
theorem wp_append_at {o : Oper} {a : Act} {w : World} {K : Act → World → Prop} {Q : Exit → Act → World → Prop} (s x : Operand) (t : TypeId)
  (ho : o.op = .call { callee := .builtin .append, args := #[s, x], argTypes := #[t, t] })
  (base : Nat) (e : TypeId) (i : TypeInfo) (z : Value) (size bytes : Nat) (ht : P.underlying t = some (.slice e)) (hi : P.info? e = some i) (hz : i.zero = some z)
  (hsize : i.size = size) (hby : i.bytes = bytes) (hzs : z.cells.size = size) (hsz : 0 < size)
  (v : Value) (n : Nat) (xs : List Value) (hs : a.eval s = v) (hown : w.ownsRow base e size v n xs)
  (ad : Addr) (m c : Nat) (news : List Value) (hx : a.eval x = .slice (some ad) m c) (hl : news.length = m * size) (hnews : ∀ (j : Nat) u, news[j]? = some u → w.cell? (ad.add j) = some u) (h1 : ∀ u ∈ news, u.oneCell' = true)
  (h63 : n + m ≤ maxLen) (hbytes : (n + m) * bytes ≤ 140737488355328) (hbase : base ≤ w.heap.size) (_hty : o.type = t)
  (h : ∀ v' w', w'.ownsRow base e size v' (n + m) (xs ++ news) → w.grownBy w' v.ownBlock → (v'.ownBlock = v.ownBlock ∨ v'.ownBlock = some w.heap.size) → K (a.put o.dst v') w') : o.wp P a w K Q := by
 obtain ⟨v', w', hr, h2, h3, h4, h5⟩ := run_append_own_at (P := P) w base t o.type e i z size bytes ht hi hz hsize hby hzs hsz v n xs hown ad m c news hl hnews h1 h63 hbytes hbase
 unfold Oper.wp execOp
 simp only [ho, resolve, invoke, builtin, Sem.run_bind, Sem.run_pure, Result.andThen_ok, List.map_toArray, List.map_cons, List.map_nil, hs, hx, hr]
 exact h v' w' h2 h3 h5
end

def ItEnd {α : Type} (It : World → (Nat → Prop) → α → List Value → Prop) (pb sz : Nat) (w : World) (r : α × St) (e : Ending) (w' : World) : Prop :=
 ∃ l : List Value, e = .returned (.agg l.toArray) ∧ It w' (fun g => w.heap.size ≤ g) r.1 l ∧ Goes pb sz w r.2 w'
theorem info_arm : (Tryz.prog.info? 35).map (fun i => (i.zero, i.size, i.bytes)) = some (some (.agg zA), 23, 352) := by kernel_rfl
end Go.Proofs.YtmodmojocclmaaaGreatDoor
