/- The contract of Depth. -/
import Derived.Test.YtmodmojocclmaaaGreatDoorMg23
import Derived.Outline
namespace Go.Proofs.YtmodmojocclmaaaGreatDoor
open Go.RowKit Pz

theorem deep_pos (t : Tm) : 1 ≤ t.deep := by cases t; simp only [Tm.deep]; omega
theorem maxL_le : ∀ (l : List Nat) (x : Nat), x ∈ l → x ≤ maxL l
 | [], x, h => by cases h
 | y :: l, x, h => by
  simp only [maxL]
  rcases List.mem_cons.1 h with rfl | h
  ·omega
  ·have := maxL_le l x h; omega
theorem maxL_of_le : ∀ (l : List Nat) (m : Nat), (∀ x ∈ l, x ≤ m) → maxL l ≤ m
 | [], m, _ => by simp [maxL]
 | y :: l, m, h => by
  simp only [maxL]
  have h1 := h y (by simp)
  have h2 := maxL_of_le l m (fun x hx => h x (by simp [hx]))
  omega
theorem maxL_same {l m : List Nat} (h1 : ∀ x ∈ l, x ∈ m) (h2 : ∀ x ∈ m, x ∈ l) : maxL l = maxL m := by
 have a := maxL_of_le l (maxL m) (fun x hx => maxL_le m x (h1 x hx))
 have b := maxL_of_le m (maxL l) (fun x hx => maxL_le l x (h2 x hx))
 omega
theorem sumL_sub {l m : List Nat} (h : l.Sublist m) : sumL l ≤ sumL m := by
 induction h with
 | slnil => exact Nat.le_refl _
 | cons x _ ih => simp only [sumL]; omega
 | cons_cons x _ ih => simp only [sumL]; omega
theorem next_max {w : World} (n : Nat) (L : List Addr) : maxL ((nextA w L).map (dA w n)) = maxL ((L.flatMap (kidsA w)).map (dA w n)) := by
 unfold nextA
 apply maxL_same
 ·intro x hx
  obtain ⟨a, ha, rfl⟩ := List.mem_map.1 hx
  rw [mem_addUs] at ha
  rcases ha with ha | ha
  ·cases ha
  ·exact List.mem_map_of_mem ha
 ·intro x hx
  obtain ⟨a, ha, rfl⟩ := List.mem_map.1 hx
  exact List.mem_map_of_mem (by rw [mem_addUs]; exact .inr ha)
theorem max_flat {w : World} (n : Nat) : ∀ (L : List Addr), L ≠ [] → maxL (L.map (dA w (n + 1))) = 1 + maxL ((L.flatMap (kidsA w)).map (dA w n))
 | [], h => absurd rfl h
 | [a], _ => by simp [maxL, dA]
 | a :: b :: L, _ => by
  have ih := max_flat (w := w) n (b :: L) (by simp)
  rw [List.map_cons, maxL, ih, (List.flatMap_cons : (a :: b :: L).flatMap (kidsA w) = _), List.map_append, maxL_append, dA]
  omega
theorem sum_flat {w : World} (n : Nat) : ∀ (L : List Addr), sumL (L.map (nA w (n + 1))) = L.length + sumL ((L.flatMap (kidsA w)).map (nA w n))
 | [] => by simp [sumL]
 | a :: L => by
  rw [List.map_cons, sumL, sum_flat n L, List.flatMap_cons, List.map_append, sumL_append, nA, List.length_cons]
  omega
theorem sum_one {w : World} : ∀ (L : List Addr), L.length ≤ sumL (L.map (nA w 1))
 | [] => by simp
 | a :: L => by
  have := sum_one (w := w) L
  have h1 : 1 ≤ nA w 1 a := by unfold nA; omega
  simp only [List.map_cons, sumL, List.length_cons]
  omega
structure DRel (w1 : World) (t : Tm) (d : Nat) (L : List Addr) (wr : World) : Prop where
 below : Below w1.heap.size w1 wr
 le : d ≤ t.deep
 ok : ∀ n, ∀ a ∈ L, OkT w1 n a
 max : ∀ n, maxL (L.map (dA w1 n)) = min n (t.deep - d)
 sum : ∀ n, sumL (L.map (nA w1 n)) ≤ t.size
theorem DRel.step {w1 wr wr' : World} {t : Tm} {d : Nat} {L : List Addr} (h : DRel w1 t d L wr) (h0 : L ≠ []) (hb : Below w1.heap.size w1 wr') : DRel w1 t (d + 1) (nextA w1 L) wr' := by
 have hm : ∀ n, maxL ((L.flatMap (kidsA w1)).map (dA w1 n)) = min n (t.deep - (d + 1)) ∧ d + 1 ≤ t.deep := by
  intro n
  have h1 := max_flat (w := w1) n L h0
  rw [h.max (n + 1)] at h1
  omega
 refine ⟨hb, (hm 0).2, fun n a ha => ?_, fun n => by rw [next_max]; exact (hm n).1, fun n => ?_⟩
 ·unfold nextA at ha
  rw [mem_addUs] at ha
  rcases ha with ha | ha
  ·cases ha
  ·obtain ⟨b, hb', hab⟩ := List.mem_flatMap.1 ha
   exact (h.ok (n + 1) b hb').2.2.2.2 a hab
 ·have h1 := sum_flat (w := w1) n L
  have h2 := h.sum (n + 1)
  have h3 : sumL ((nextA w1 L).map (nA w1 n)) ≤ sumL ((L.flatMap (kidsA w1)).map (nA w1 n)) := by
   refine sumL_sub ?_
   have := sub_addUs (L.flatMap (kidsA w1)) []
   rw [List.nil_append] at this
   exact this.map _
  omega
theorem DRel.bound {w1 wr : World} {t : Tm} {d : Nat} {L : List Addr} (h : DRel w1 t d L wr) : L.length ≤ t.size ∧ (L.flatMap (kidsA w1)).length ≤ t.size := by
 have h1 := sum_one (w := w1) L
 have h2 := h.sum 1
 have h3 : sumL (L.map (nA w1 2)) = _ := sum_flat (w := w1) 1 L
 have h4 := h.sum 2
 have h5 := sum_one (w := w1) (L.flatMap (kidsA w1))
 omega
theorem DRel.there {w1 wr : World} {t : Tm} {d : Nat} {L : List Addr} (h : DRel w1 t d L wr) : (∀ a ∈ L, OkT wr 2 a) ∧ L.flatMap (kidsA wr) = L.flatMap (kidsA w1) := by
 refine ⟨fun a ha => (okT_keep (fun g hg => h.below.block g hg) 2 a (h.ok 2 a ha)).1, ?_⟩
 have hk : ∀ a ∈ L, kidsA wr a = kidsA w1 a := fun a ha => kidsA_keep (h.below.block _ (h.ok 1 a ha).2.1.lt)
 have h1 := List.map_congr_left hk
 rw [List.flatMap_def, List.flatMap_def, h1]

set_option maxRecDepth 100000 in
set_option maxHeartbeats 4000000 in
theorem depth_any (l : List Value) (t : Tm) (P : Nat → Prop) (w : World) (ht : HT w P t l) (hs : t.size ≤ 90000000) :
  Calls Tryz.prog 27 #[.agg l.toArray] w fun e w' => e = .returned (.int .i64 ((min t.deep 1000 : Nat) : Int)) ∧ Below w.heap.size w w' := by
 have l0 := Lies.new w 33 l.toArray
 have hb0 := below_new w (.cells l.toArray 33)
 have ht1 := ht.later hb0
 have hr0 : ReadsAt (w.alloc (.cells l.toArray 33)) ⟨w.heap.size, 0, none⟩ l := fun i u hu => by
  have := l0.cell (0 + i)
  rw [this]
  simpa using hu
 have hd := deep_ht ht1 ⟨w.heap.size, 0, none⟩ rfl ⟨_, _, l0⟩ hr0
 have hsz1 : (w.alloc (.cells l.toArray 33)).heap.size = w.heap.size + 1 := by simp
 have hone := ht.one
 have hlen := ht.len
 have hdp := deep_pos t
 have hD0 : DRel (w.alloc (.cells l.toArray 33)) t 0 [⟨w.heap.size, 0, none⟩] (w.alloc (.cells l.toArray 33)) :=
  ⟨Below.refl _ _, Nat.zero_le _, fun n a ha => by rw [List.mem_singleton.1 ha]; exact (hd n).1, fun n => by simp [maxL, (hd n).2.1], fun n => by simp [sumL, (hd n).2.2]⟩
 obtain ⟨w1, hw1⟩ : ∃ w1, w1 = w.alloc (.cells l.toArray 33) := ⟨_, rfl⟩
 rw [← hw1] at hD0 hsz1 hb0
 have hbL := below_new w1 (.cells #[ptrV ⟨w.heap.size, 0, none⟩] 62)
 have hpl := Pl.lit w1 62 [⟨w.heap.size, 0, none⟩] hsz1
 have hD0' : DRel w1 t 0 [⟨w.heap.size, 0, none⟩] (w1.alloc (.cells #[ptrV ⟨w.heap.size, 0, none⟩] 62)) := ⟨hbL, hD0.le, hD0.ok, hD0.max, hD0.sum⟩
 have hth := hD0'.there
 have hbd := hD0'.bound
 have hbel := below_any (w1.alloc (.cells #[ptrV ⟨w.heap.size, 0, none⟩] 62)) _ _ hpl hth.1 (by rw [hth.2]; omega) (by omega)
 have HBEL := Lib.hid hbel
 have HTH := Lib.hid hth
 have HW := Lib.hid hw1
 unfold ptrV at HBEL
 clear hbel hth ht1 hr0 hd l0
 go_enter Tryz.func27, Tryz.ntmps27
 go_wp2_with fail
 rw [← HW.out]
 refine HBEL.out.mono ?_
 rintro e w2 ⟨v2, rfl, hown2, hb2⟩
 have hpl2 := Pl.own hown2
 have hb12 := hbL.trans (hb2.mono hbL.size)
 have hD2 := hD0'.step (by simp) hb12
 have hnx : nextA (w1.alloc (.cells #[ptrV ⟨w.heap.size, 0, none⟩] 62)) [⟨w.heap.size, 0, none⟩] = nextA w1 [⟨w.heap.size, 0, none⟩] := by unfold nextA; rw [HTH.out.2]
 unfold ptrV at hnx
 rw [hnx] at hpl2
 clear HBEL HTH hown2 hbd hD0 hD0'
 have hst : ∃ (d : Nat) (L : List Addr), Value.int .i64 1 = .int .i64 (d : Int) ∧ 1 ≤ d ∧ d ≤ 1000 ∧ Pl w2 v2 L ∧ DRel w1 t d L w2 := ⟨1, _, rfl, by omega, by omega, hpl2, hD2⟩
 clear hD2 hpl2 hnx
 go_wp2_with fail
 go_loopw [3, 4] (fun dv lv wr => ∃ (d : Nat) (L : List Addr), dv = .int .i64 (d : Int) ∧ 1 ≤ d ∧ d ≤ 1000 ∧ Pl wr lv L ∧ DRel w1 t d L wr) (fun dv _ _ => 1000 - (intOf dv).toNat)
 case atStart => exact hst
 case round =>
  obtain ⟨d, L, rfl, hd1, hd2, hpl, hD⟩ := hrel
  clear hst
  have hm1 := hD.max 1
  have hle := hD.le
  have hbw : Below w.heap.size w wr := hb0.trans (hD.below.mono hb0.size)
  by_cases hL : L = []
  ·subst hL
   obtain ⟨A, c, rfl, _, _⟩ := hpl
   have hdeep : t.deep = d := by
    simp only [List.map_nil, maxL] at hm1
    omega
   go_wp2
   go_ret
   have hmin : min t.deep 1000 = d := by omega
   rw [hmin]
   exact ⟨rfl, hbw⟩
  ·have hL0 : 0 < L.length := List.length_pos_iff.2 hL
   have hLi : (0 : Int) < (L.length : Int) := by omega
   have hpl0 := hpl
   obtain ⟨A, c, rfl, hc, _⟩ := hpl
   by_cases hd : d < 1000
   ·have hth := hD.there
    have hbd := hD.bound
    have hbel := below_any wr _ L hpl0 hth.1 (by rw [hth.2]; omega) (by omega)
    have HBEL := Lib.hid hbel
    have hnx : nextA wr L = nextA w1 L := by unfold nextA; rw [hth.2]
    have HNX := Lib.hid hnx
    clear hbel hth hnx
    go_wp2_with fail
    refine HBEL.out.mono ?_
    rintro e w3 ⟨v3, rfl, hown3, hb3⟩
    have hpl3 := Pl.own hown3
    rw [HNX.out] at hpl3
    have hD3 := hD.step hL (hD.below.trans (hb3.mono hD.below.size))
    go_wp2_with fail
    go_roundw
    case rel => exact ⟨d + 1, _, by simp, by omega, by omega, hpl3, hD3⟩
    case measure => (simp [intOf] <;> omega)
   ·have hde : d = 1000 := by omega
    have hdi : ¬ (d : Int) < 1000 := by omega
    go_wp2
    go_ret
    have hmin : min t.deep 1000 = d := by omega
    rw [hmin, hde]
    exact ⟨rfl, hbw⟩
end Go.Proofs.YtmodmojocclmaaaGreatDoor
