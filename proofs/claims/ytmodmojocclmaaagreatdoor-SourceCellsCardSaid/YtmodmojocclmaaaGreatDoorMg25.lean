/- The closure that reads a field and appends it. -/
import Derived.Test.YtmodmojocclmaaaGreatDoorMg24
import Derived.Outline
namespace Go.Proofs.YtmodmojocclmaaaGreatDoor
open Go.RowKit Pz

structure CapJ {α : Type} (It : World → (Nat → Prop) → α → List Value → Prop) (e : TypeId) (csz : Nat) (T : TypeId) (pb vb qb lo : Nat) (w0 w : World) (acc : List α) : Prop where
 ex : ∃ v, Lies w vb T #[v] ∧ Acc It e csz w lo acc v
 q : Lies w qb 133 #[.pointer (some ⟨pb, 0, none⟩)]
 kp : Kp pb w0 w
structure Caps (pb vb qb lo : Nat) (w0 : World) : Prop where
 pv : pb < vb
 pq : pb < qb
 vq : vb ≠ qb
 vl : vb < lo
 ql : qb < lo
 wv : w0.heap.size ≤ vb
 wq : w0.heap.size ≤ qb
def ClosEnd {α : Type} (It : World → (Nat → Prop) → α → List Value → Prop) (e : TypeId) (csz : Nat) (T : TypeId) (pb sz vb qb lo : Nat) (w0 : World) (r : α × St) (acc : List α) (en : Ending) (w' : World) : Prop :=
 en = .returned (.tuple #[]) ∧ PA w' pb sz r.2 ∧ CapJ It e csz T pb vb qb lo w0 w' (acc ++ [r.1])

theorem lies_news {w : World} {g : Nat} {t : TypeId} {l : List Value} (h : Lies w g t l.toArray) : ∀ (j : Nat) u, l[j]? = some u → w.cell? ((⟨g, 0, none⟩ : Addr).add j) = some u := by
 intro j u hj
 rw [Addr.add_mid, Nat.zero_add, h.cell]
 simpa using hj
theorem zC_ones : ∀ u ∈ zC.toList, u.oneCell' = true := by simp [zC, Value.oneCell']
theorem zA_ones : ∀ u ∈ (Value.string ⟨#[]⟩ :: Value.slice none 0 0 :: zC.toList), u.oneCell' = true := by simp [zC, Value.oneCell']
theorem Acc1.there {α : Type} {It : World → (Nat → Prop) → α → List Value → Prop} {e : TypeId} {sz : Nat} {zL : List Value} {w : World} {lo : Nat} {acc : List α} {g n c : Nat} (h : Acc1 It e sz zL w lo acc (.slice (some ⟨g, 0, none⟩) n c)) (_hz : zL.length = sz) : w.there g (acc.length * sz) sz := by
 obtain ⟨xs, _, h2, _⟩ := h
 rcases h2.2 with ⟨h, _⟩ | ⟨g', cap, cur, hv, _, hh, hn, _, hs, _⟩
 ·cases h
 ·injection hv with hv1 hv2 hv3
  injection hv1 with hv1
  injection hv1 with hv1 _ _
  subst hv1 hv2 hv3
  have hL : Lies w g e cur := hh
  refine hL.there _ _ ?_
  have : (acc.length + 1) * sz ≤ c * sz := Nat.mul_le_mul_right _ hn
  rw [hs]
  simp only [Nat.add_mul, Nat.one_mul] at this
  exact this

set_option maxRecDepth 100000 in
set_option maxHeartbeats 16000000 in
theorem fieldsC_any {item : St → Tm × St} (pb sz vb qb lo n : Nat) (w0 : World) (w : World) (s : St) (acc : List Tm) (hp : PA w pb sz s) (hJ : CapJ TmIt 33 21 24 pb vb qb lo w0 w acc) (hc : Caps pb vb qb lo w0) (hlo : lo ≤ w.heap.size) (hnb : n ≤ 2000000) (hacc : acc.length < n)
  (hit : ∀ W, PA W pb sz s → Calls Tryz.prog 53 #[.pointer (some ⟨pb, 0, none⟩)] W (ItEnd TmIt pb sz W (item s))) :
  Calls Tryz.prog 163 #[.pointer (some ⟨vb, 0, none⟩), .pointer (some ⟨qb, 0, none⟩)] w (ClosEnd TmIt 33 21 24 pb sz vb qb lo w0 (item s) acc) := by
 obtain ⟨⟨v, hlv, hA⟩, hlq, hkp⟩ := hJ
 obtain ⟨hpv, hpq, hvq, hvl, hql, hwv, hwq⟩ := hc
 obtain ⟨A, c, hvf, hvb⟩ := hA.form
 subst hvf
 obtain ⟨i0, hi, hz0, hz1, hz2⟩ := info_parts info_term
 have HIT := Lib.hid hit
 clear hit
 go_enter Tryz.func163, Tryz.ntmps163
 go_wp2_with fail
 refine TillLast.start (S := fun w' => Lies w' vb 24 #[.slice A acc.length c] ∧ Lies w' qb 133 #[.pointer (some ⟨pb, 0, none⟩)]) (z := 8) (by kernel_rfl) ?_
 have hS : Lies w.drew vb 24 #[.slice A acc.length c] ∧ Lies w.drew qb 133 #[.pointer (some ⟨pb, 0, none⟩)] := ⟨hlv, hlq⟩
 have hp : PA w.drew pb sz s := hp
 have hA : Acc TmIt 33 21 w.drew lo acc (.slice A acc.length c) := hA.keep tmOK (fun _ _ _ => rfl)
 have hkp : Kp pb w0 w.drew := hkp.drew
 have hlo : lo ≤ w.drew.heap.size := hlo
 have hdr : w.drew.heap.size = w.heap.size := rfl
 refine TillLast.take (i := 0) (oi := _) (v := .slice A acc.length c) rfl (by kernel_rfl) (by kernel_rfl) (by kernel_rfl) (by kernel_rfl) (by decide) (by kernel_rfl) (fun _ _ _ h => h) (Or.inl ⟨by rfl, ?_⟩) hS ?_
 ·intro w' hS'
  have c0 := hS'.1.cell 0
  go_simp
 try simp only [Act.put, List.setIfInBounds_toArray]
 refine TillLast.take (i := 1) (oi := _) (v := .pointer (some ⟨pb, 0, none⟩)) rfl (by kernel_rfl) (by kernel_rfl) (by kernel_rfl) (by kernel_rfl) (by decide) (by kernel_rfl) (fun _ _ _ h => h) (Or.inl ⟨by rfl, ?_⟩) hS ?_
 ·intro w' hS'
  have c0 := hS'.2.cell 0
  go_simp
 try simp only [Act.put]
 refine TillLast.take (i := 3) (oi := _) (v := .int .i64 (acc.length : Int)) rfl (by kernel_rfl) (by kernel_rfl) (by kernel_rfl) (by kernel_rfl) (by decide) (by kernel_rfl) (fun _ _ _ h => h) (Or.inl ⟨by rfl, ?_⟩) hS ?_
 ·intro w' hS'
  go_simp
 try simp only [Act.put]
 refine TillLast.ready (rs := [2, 4]) (by kernel_rfl) (by simp) ?_
 refine NextAll.cons (o := _) rfl (fun K hK => ?_) (NextAll.cons (o := _) rfl (fun K hK => ?_) NextAll.nil)
 ·skip
  go_simp
  refine (HIT.out _ hp).mono ?_
  rintro e w1 ⟨l, rfl, ht, hg6⟩
  try dsimp only
  have hS2 : Lies w1 vb 24 #[.slice A acc.length c] ∧ Lies w1 qb 133 #[.pointer (some ⟨pb, 0, none⟩)] := ⟨hg6.kp.lies hS.1 (by omega), hg6.kp.lies hS.2 (by omega)⟩
  refine hK.out _ _ (fun _ => hS2) ?_
  clear hK K
  have hk3 := hkp.trans hg6.kp
  have hlo4 : lo ≤ w1.heap.size := Nat.le_trans hlo hg6.kp.size
  have hszc := hg6.kp.size
  have ti5 := (tmOK).mono (Q := fun k => (w.drew).heap.size ≤ k ∧ k < w1.heap.size) ht (fun k h1 h2 => ⟨h1, h2⟩)
  clear ht
  have hA7 := hA.kp tmOK hg6.kp (by omega)
  try simp only [Act.put, List.setIfInBounds_toArray, List.set_cons_zero, List.set_cons_succ]
  refine TillLast.ready (rs := [4]) (by kernel_rfl) (by simp) ?_
  refine NextAll.cons (o := _) rfl (fun K hK => ?_) NextAll.nil
  rw [if_pos (by rfl)]
  refine wp_buildSlice 24 33 1 _ rfl (zC.toList).toArray i0 (.agg zC) Tryz.underlying24 hi hz0 (by rw [hz1]; decide) (by rw [hz1]; decide) (by rw [hz1, Array.toList_map]; exact fill_row (sz := 21) (by decide) (zC.toList) rfl ((Array.range (1 * 21)).map ((Value.agg zC).cells[· % (Value.agg zC).cells.size]!)) (by simp)) ?_
  have hb11 := below_new (w1) (.cells (zC.toList).toArray 33)
  have hS8 := And.intro (hS2.1.alloc (.cells (zC.toList).toArray 33)) (hS2.2.alloc (.cells (zC.toList).toArray 33))
  refine hK.out _ _ (fun _ => hS8) ?_
  clear hK K
  have hk9 := hk3.below hb11 hk3.size
  have hlo10 := Nat.le_trans hlo4 hb11.size
  have hN12 := Lies.new (w1) 33 (zC.toList).toArray
  have hpa13 := hg6.pa.below hb11
  have hA14 := hA7.later tmOK hb11
  have ti15 := (tmOK).same ti5 (fun g _ hg => hb11.block g hg)
  have hszb := hb11.size
  try simp only [Act.put, List.setIfInBounds_toArray]
  refine TillLast.ready (rs := [5]) (by kernel_rfl) (by simp) ?_
  refine NextAll.cons (o := _) rfl (fun K hK => ?_) NextAll.nil
  rw [if_pos (by rfl)]
  obtain ⟨xs, hx1, hx2, hx3⟩ := hA14
  refine wp_append_at (.tmp 2) (.tmp 6) 24 rfl lo 33 i0 (.agg zC) 21 312 Tryz.underlying24 hi hz0 hz1 hz2 rfl (by decide) (.slice A acc.length c) acc.length xs.flatten rfl hx2 ⟨(w1).heap.size, 0, none⟩ 1 1 (zC.toList) rfl rfl (lies_news hN12) zC_ones (by unfold maxLen; omega) (by omega) hlo10 rfl ?_
  intro v' w16 hown hgr hat
  have hrow : ∀ k, (Value.slice A acc.length c).ownBlock = some k → lo ≤ k ∧ k < w.heap.size := hvb
  have hS17 : Lies w16 vb 24 #[.slice A acc.length c] ∧ Lies w16 qb 133 #[.pointer (some ⟨pb, 0, none⟩)] := ⟨hS8.1.grown hgr (fun e => by have := (hrow vb e.symm).1; omega), hS8.2.grown hgr (fun e => by have := (hrow qb e.symm).1; omega)⟩
  refine hK.out _ _ (fun _ => hS17) ?_
  clear hK K
  have hB20 := Acc.place tmOK hx1 hx3 hown hgr hat
  have hk18 := hk9.grown hgr (fun k hk => by have := (hrow k hk).1; omega)
  have hlo19 := Nat.le_trans hlo10 hgr.size
  have hpa21 := hpa13.grown hgr (fun k hk => by have := (hrow k hk).1; omega)
  have ti22 := (tmOK).same ti15 (fun g hg hlt => hgr.block g hlt (fun e => by have := (hrow g e.symm).2; have := hg.1; omega))
  obtain ⟨g, c', hvf, hcc, hlg, hgl⟩ := hB20.form
  subst hvf
  have hgat : (lo ≤ g ∧ g < w.heap.size) ∨ g = ((w1).alloc (.cells (zC.toList).toArray 33)).heap.size := hat.imp (fun h => hrow g h.symm) (fun h => by injection h)
  have hgsz := hgr.size
  clear hx1 hx2 hx3 hown hgr hat
  have hc0 : (0 : Int) ≤ (acc.length : Int) := by omega
  have hc1 : (acc.length : Int) < (acc.length : Int) + 1 := by omega
  try simp only [Act.put]
  have hV23 := hS17.1
  have hQ24 := hS17.2
  refine TillLast.ready (rs := [6, 8]) (by kernel_rfl) (by simp) ?_
  refine NextAll.cons (o := _) rfl (fun K hK => ?_) (NextAll.cons (o := _) rfl (fun K hK => ?_) NextAll.nil)
  ·skip
   go_simp
   refine hK.out _ _ (fun _ => And.intro hV23 hQ24) ?_
   clear hK K
   try simp only [Act.put, List.setIfInBounds_toArray, List.set_cons_zero, List.set_cons_succ]
   refine TillLast.ready (rs := [7, 8]) (by kernel_rfl) (by simp) ?_
   refine NextAll.cons (o := _) rfl (fun K hK => ?_) (NextAll.cons (o := _) rfl (fun K hK => ?_) NextAll.nil)
   ·skip
    rw [if_pos (by rfl)]
    have hlen := (tmOK).len ti22
    have hthr := hB20.there rfl
    refine wp_store_mid 33 _ _ rfl g (acc.length * 21) l.toArray (by simp [Act.eval]) rfl (by show World.there _ g _ l.length; rw [hlen]; exact hthr) (by rw [sz39]; simp [hlen]) (all_oneCell_toArray ((tmOK).one ti22)) ?_
    rw [List.toList_toArray]
    have hV25 := hV23.farCells (g' := g) (acc.length * 21) l (by omega)
    have hQ26 := hQ24.farCells (g' := g) (acc.length * 21) l (by omega)
    refine hK.out _ _ (fun _ => And.intro hV25 hQ26) ?_
    clear hK K
    have hF27 := Acc1.fill tmOK hB20 rfl ((tmOK).mono (Q := fun k => lo ≤ k ∧ k ≠ g) ti22 (fun k hk _ => by have h1 := hk.1; have h2 := hk.2; try simp only [World.size_alloc] at h1 h2 hgat hgl; rcases hgat with hgat | hgat <;> omega))
    have hpa28 := hpa21.setCells (g := g) (by omega) (acc.length * 21) l
    have hk29 := hk18.setCells (g := g) (by omega) (acc.length * 21) l
    try simp only [Act.put, List.setIfInBounds_toArray]
    refine TillLast.ready (rs := [8]) (by kernel_rfl) (by simp) ?_
    refine NextAll.cons (o := _) rfl (fun K hK => ?_) NextAll.nil
    have hcv := hV25.cell 0
    have hfv := hV25.free 0
    go_simp
    refine hK.out _ _ (fun h => absurd (h.symm.trans (by kernel_rfl : _ = true)) (by decide)) ?_
    clear hK K hcv hfv
    have hV30 := hV25.set 0 (.slice (some ⟨g, 0, none⟩) (acc.length + 1) c')
    have hQ31 := hQ26.far (p := ⟨vb, 0, none⟩) (fun e => hvq e.symm) (.slice (some ⟨g, 0, none⟩) (acc.length + 1) c')
    have hpa32 := hpa28.far (p := ⟨vb, 0, none⟩) hpv (.slice (some ⟨g, 0, none⟩) (acc.length + 1) c')
    have hk33 := hk29.setCell (p := ⟨vb, 0, none⟩) (.inr hwv) (.slice (some ⟨g, 0, none⟩) (acc.length + 1) c')
    have hF34 := hF27.keep tmOK (w' := ((w16).setCells g (acc.length * 21) l).setCell ⟨vb, 0, none⟩ (.slice (some ⟨g, 0, none⟩) (acc.length + 1) c')) (fun k hk _ => Below.heap_setCell _ _ _ _ (by show k ≠ vb; omega))
    try simp only [Act.put, List.setIfInBounds_toArray, List.set_cons_zero, List.set_cons_succ]
    refine TillLast.done (by kernel_rfl) ?_ _
    go_wp2_with fail
    go_end0
    exact ⟨rfl, hpa32, ⟨_, hV30, hF34⟩, hQ31, hk33⟩
   ·skip
    have hcv := hV23.cell 0
    have hfv := hV23.free 0
    go_simp
    refine hK.out _ _ (fun h => absurd (h.symm.trans (by kernel_rfl : _ = true)) (by decide)) ?_
    clear hK K hcv hfv
    have hV35 := hV23.set 0 (.slice (some ⟨g, 0, none⟩) (acc.length + 1) c')
    have hQ36 := hQ24.far (p := ⟨vb, 0, none⟩) (fun e => hvq e.symm) (.slice (some ⟨g, 0, none⟩) (acc.length + 1) c')
    have hpa37 := hpa21.far (p := ⟨vb, 0, none⟩) hpv (.slice (some ⟨g, 0, none⟩) (acc.length + 1) c')
    have hk38 := hk18.setCell (p := ⟨vb, 0, none⟩) (.inr hwv) (.slice (some ⟨g, 0, none⟩) (acc.length + 1) c')
    have hB39 := hB20.keep tmOK (w' := (w16).setCell ⟨vb, 0, none⟩ (.slice (some ⟨g, 0, none⟩) (acc.length + 1) c')) (fun k hk _ => Below.heap_setCell _ _ _ _ (by show k ≠ vb; omega))
    have ti40 := (tmOK).same (w' := (w16).setCell ⟨vb, 0, none⟩ (.slice (some ⟨g, 0, none⟩) (acc.length + 1) c')) ti22 (fun k hk _ => Below.heap_setCell _ _ _ _ (by have := hk.1; show k ≠ vb; omega))
    try simp only [Act.put, List.setIfInBounds_toArray, List.set_cons_zero, List.set_cons_succ]
    refine TillLast.ready (rs := [7]) (by kernel_rfl) (by simp) ?_
    refine NextAll.cons (o := _) rfl (fun K hK => ?_) NextAll.nil
    rw [if_pos (by rfl)]
    have hlen := (tmOK).len ti40
    have hthr := hB39.there rfl
    refine wp_store_mid 33 _ _ rfl g (acc.length * 21) l.toArray (by simp [Act.eval]) rfl (by show World.there _ g _ l.length; rw [hlen]; exact hthr) (by rw [sz39]; simp [hlen]) (all_oneCell_toArray ((tmOK).one ti40)) ?_
    rw [List.toList_toArray]
    have hV41 := hV35.farCells (g' := g) (acc.length * 21) l (by omega)
    have hQ42 := hQ36.farCells (g' := g) (acc.length * 21) l (by omega)
    refine hK.out _ _ (fun h => absurd (h.symm.trans (by kernel_rfl : _ = true)) (by decide)) ?_
    clear hK K
    have hF43 := Acc1.fill tmOK hB39 rfl ((tmOK).mono (Q := fun k => lo ≤ k ∧ k ≠ g) ti40 (fun k hk _ => by have h1 := hk.1; have h2 := hk.2; try simp only [World.size_alloc] at h1 h2 hgat hgl; rcases hgat with hgat | hgat <;> omega))
    have hpa44 := hpa37.setCells (g := g) (by omega) (acc.length * 21) l
    have hk45 := hk38.setCells (g := g) (by omega) (acc.length * 21) l
    try simp only [Act.put, List.setIfInBounds_toArray]
    refine TillLast.done (by kernel_rfl) ?_ _
    go_wp2_with fail
    go_end0
    exact ⟨rfl, hpa44, ⟨_, hV41, hF43⟩, hQ42, hk45⟩
  ·skip
   have hcv := hV23.cell 0
   have hfv := hV23.free 0
   go_simp
   refine hK.out _ _ (fun h => absurd (h.symm.trans (by kernel_rfl : _ = true)) (by decide)) ?_
   clear hK K hcv hfv
   have hV46 := hV23.set 0 (.slice (some ⟨g, 0, none⟩) (acc.length + 1) c')
   have hQ47 := hQ24.far (p := ⟨vb, 0, none⟩) (fun e => hvq e.symm) (.slice (some ⟨g, 0, none⟩) (acc.length + 1) c')
   have hpa48 := hpa21.far (p := ⟨vb, 0, none⟩) hpv (.slice (some ⟨g, 0, none⟩) (acc.length + 1) c')
   have hk49 := hk18.setCell (p := ⟨vb, 0, none⟩) (.inr hwv) (.slice (some ⟨g, 0, none⟩) (acc.length + 1) c')
   have hB50 := hB20.keep tmOK (w' := (w16).setCell ⟨vb, 0, none⟩ (.slice (some ⟨g, 0, none⟩) (acc.length + 1) c')) (fun k hk _ => Below.heap_setCell _ _ _ _ (by show k ≠ vb; omega))
   have ti51 := (tmOK).same (w' := (w16).setCell ⟨vb, 0, none⟩ (.slice (some ⟨g, 0, none⟩) (acc.length + 1) c')) ti22 (fun k hk _ => Below.heap_setCell _ _ _ _ (by have := hk.1; show k ≠ vb; omega))
   try simp only [Act.put, List.setIfInBounds_toArray, List.set_cons_zero, List.set_cons_succ]
   refine TillLast.ready (rs := [6]) (by kernel_rfl) (by simp) ?_
   refine NextAll.cons (o := _) rfl (fun K hK => ?_) NextAll.nil
   go_simp
   refine hK.out _ _ (fun h => absurd (h.symm.trans (by kernel_rfl : _ = true)) (by decide)) ?_
   clear hK K
   try simp only [Act.put, List.setIfInBounds_toArray, List.set_cons_zero, List.set_cons_succ]
   refine TillLast.ready (rs := [7]) (by kernel_rfl) (by simp) ?_
   refine NextAll.cons (o := _) rfl (fun K hK => ?_) NextAll.nil
   rw [if_pos (by rfl)]
   have hlen := (tmOK).len ti51
   have hthr := hB50.there rfl
   refine wp_store_mid 33 _ _ rfl g (acc.length * 21) l.toArray (by simp [Act.eval]) rfl (by show World.there _ g _ l.length; rw [hlen]; exact hthr) (by rw [sz39]; simp [hlen]) (all_oneCell_toArray ((tmOK).one ti51)) ?_
   rw [List.toList_toArray]
   have hV52 := hV46.farCells (g' := g) (acc.length * 21) l (by omega)
   have hQ53 := hQ47.farCells (g' := g) (acc.length * 21) l (by omega)
   refine hK.out _ _ (fun h => absurd (h.symm.trans (by kernel_rfl : _ = true)) (by decide)) ?_
   clear hK K
   have hF54 := Acc1.fill tmOK hB50 rfl ((tmOK).mono (Q := fun k => lo ≤ k ∧ k ≠ g) ti51 (fun k hk _ => by have h1 := hk.1; have h2 := hk.2; try simp only [World.size_alloc] at h1 h2 hgat hgl; rcases hgat with hgat | hgat <;> omega))
   have hpa55 := hpa48.setCells (g := g) (by omega) (acc.length * 21) l
   have hk56 := hk49.setCells (g := g) (by omega) (acc.length * 21) l
   try simp only [Act.put, List.setIfInBounds_toArray]
   refine TillLast.done (by kernel_rfl) ?_ _
   go_wp2_with fail
   go_end0
   exact ⟨rfl, hpa55, ⟨_, hV52, hF54⟩, hQ53, hk56⟩
 ·skip
  rw [if_pos (by rfl)]
  refine wp_buildSlice 24 33 1 _ rfl (zC.toList).toArray i0 (.agg zC) Tryz.underlying24 hi hz0 (by rw [hz1]; decide) (by rw [hz1]; decide) (by rw [hz1, Array.toList_map]; exact fill_row (sz := 21) (by decide) (zC.toList) rfl ((Array.range (1 * 21)).map ((Value.agg zC).cells[· % (Value.agg zC).cells.size]!)) (by simp)) ?_
  have hb60 := below_new (w.drew) (.cells (zC.toList).toArray 33)
  have hS57 := And.intro (hS.1.alloc (.cells (zC.toList).toArray 33)) (hS.2.alloc (.cells (zC.toList).toArray 33))
  refine hK.out _ _ (fun _ => hS57) ?_
  clear hK K
  have hk58 := hkp.below hb60 hkp.size
  have hlo59 := Nat.le_trans hlo hb60.size
  have hN61 := Lies.new (w.drew) 33 (zC.toList).toArray
  have hpa62 := hp.below hb60
  have hA63 := hA.later tmOK hb60
  have hszb := hb60.size
  try simp only [Act.put]
  refine TillLast.ready (rs := [2]) (by kernel_rfl) (by simp) ?_
  refine NextAll.cons (o := _) rfl (fun K hK => ?_) NextAll.nil
  go_simp
  refine (HIT.out _ hpa62).mono ?_
  rintro e w64 ⟨l, rfl, ht, hg69⟩
  try dsimp only
  have hS65 : Lies w64 vb 24 #[.slice A acc.length c] ∧ Lies w64 qb 133 #[.pointer (some ⟨pb, 0, none⟩)] := ⟨hg69.kp.lies hS57.1 (by omega), hg69.kp.lies hS57.2 (by omega)⟩
  refine hK.out _ _ (fun _ => hS65) ?_
  clear hK K
  have hk66 := hk58.trans hg69.kp
  have hlo67 : lo ≤ w64.heap.size := Nat.le_trans hlo59 hg69.kp.size
  have hszc := hg69.kp.size
  have ti68 := (tmOK).mono (Q := fun k => ((w.drew).alloc (.cells (zC.toList).toArray 33)).heap.size ≤ k ∧ k < w64.heap.size) ht (fun k h1 h2 => ⟨h1, h2⟩)
  clear ht
  have hA70 := hA63.kp tmOK hg69.kp (by omega)
  have hN71 := hg69.kp.lies hN61 (by omega)
  try simp only [Act.put, List.setIfInBounds_toArray, List.set_cons_zero, List.set_cons_succ]
  refine TillLast.ready (rs := [5]) (by kernel_rfl) (by simp) ?_
  refine NextAll.cons (o := _) rfl (fun K hK => ?_) NextAll.nil
  rw [if_pos (by rfl)]
  obtain ⟨xs, hx1, hx2, hx3⟩ := hA70
  refine wp_append_at (.tmp 2) (.tmp 6) 24 rfl lo 33 i0 (.agg zC) 21 312 Tryz.underlying24 hi hz0 hz1 hz2 rfl (by decide) (.slice A acc.length c) acc.length xs.flatten rfl hx2 ⟨(w.drew).heap.size, 0, none⟩ 1 1 (zC.toList) rfl rfl (lies_news hN71) zC_ones (by unfold maxLen; omega) (by omega) hlo67 rfl ?_
  intro v' w72 hown hgr hat
  have hrow : ∀ k, (Value.slice A acc.length c).ownBlock = some k → lo ≤ k ∧ k < w.heap.size := hvb
  have hS73 : Lies w72 vb 24 #[.slice A acc.length c] ∧ Lies w72 qb 133 #[.pointer (some ⟨pb, 0, none⟩)] := ⟨hS65.1.grown hgr (fun e => by have := (hrow vb e.symm).1; omega), hS65.2.grown hgr (fun e => by have := (hrow qb e.symm).1; omega)⟩
  refine hK.out _ _ (fun _ => hS73) ?_
  clear hK K
  have hB76 := Acc.place tmOK hx1 hx3 hown hgr hat
  have hk74 := hk66.grown hgr (fun k hk => by have := (hrow k hk).1; omega)
  have hlo75 := Nat.le_trans hlo67 hgr.size
  have hpa77 := hg69.pa.grown hgr (fun k hk => by have := (hrow k hk).1; omega)
  have ti78 := (tmOK).same ti68 (fun g hg hlt => hgr.block g hlt (fun e => by have := (hrow g e.symm).2; have := hg.1; omega))
  obtain ⟨g, c', hvf, hcc, hlg, hgl⟩ := hB76.form
  subst hvf
  have hgat : (lo ≤ g ∧ g < w.heap.size) ∨ g = (w64).heap.size := hat.imp (fun h => hrow g h.symm) (fun h => by injection h)
  have hgsz := hgr.size
  clear hx1 hx2 hx3 hown hgr hat
  have hc0 : (0 : Int) ≤ (acc.length : Int) := by omega
  have hc1 : (acc.length : Int) < (acc.length : Int) + 1 := by omega
  try simp only [Act.put, List.setIfInBounds_toArray]
  have hV79 := hS73.1
  have hQ80 := hS73.2
  refine TillLast.ready (rs := [6, 8]) (by kernel_rfl) (by simp) ?_
  refine NextAll.cons (o := _) rfl (fun K hK => ?_) (NextAll.cons (o := _) rfl (fun K hK => ?_) NextAll.nil)
  ·skip
   go_simp
   refine hK.out _ _ (fun _ => And.intro hV79 hQ80) ?_
   clear hK K
   try simp only [Act.put, List.setIfInBounds_toArray, List.set_cons_zero, List.set_cons_succ]
   refine TillLast.ready (rs := [7, 8]) (by kernel_rfl) (by simp) ?_
   refine NextAll.cons (o := _) rfl (fun K hK => ?_) (NextAll.cons (o := _) rfl (fun K hK => ?_) NextAll.nil)
   ·skip
    rw [if_pos (by rfl)]
    have hlen := (tmOK).len ti78
    have hthr := hB76.there rfl
    refine wp_store_mid 33 _ _ rfl g (acc.length * 21) l.toArray (by simp [Act.eval]) rfl (by show World.there _ g _ l.length; rw [hlen]; exact hthr) (by rw [sz39]; simp [hlen]) (all_oneCell_toArray ((tmOK).one ti78)) ?_
    rw [List.toList_toArray]
    have hV81 := hV79.farCells (g' := g) (acc.length * 21) l (by omega)
    have hQ82 := hQ80.farCells (g' := g) (acc.length * 21) l (by omega)
    refine hK.out _ _ (fun _ => And.intro hV81 hQ82) ?_
    clear hK K
    have hF83 := Acc1.fill tmOK hB76 rfl ((tmOK).mono (Q := fun k => lo ≤ k ∧ k ≠ g) ti78 (fun k hk _ => by have h1 := hk.1; have h2 := hk.2; try simp only [World.size_alloc] at h1 h2 hgat hgl; rcases hgat with hgat | hgat <;> omega))
    have hpa84 := hpa77.setCells (g := g) (by omega) (acc.length * 21) l
    have hk85 := hk74.setCells (g := g) (by omega) (acc.length * 21) l
    try simp only [Act.put, List.setIfInBounds_toArray]
    refine TillLast.ready (rs := [8]) (by kernel_rfl) (by simp) ?_
    refine NextAll.cons (o := _) rfl (fun K hK => ?_) NextAll.nil
    have hcv := hV81.cell 0
    have hfv := hV81.free 0
    go_simp
    refine hK.out _ _ (fun h => absurd (h.symm.trans (by kernel_rfl : _ = true)) (by decide)) ?_
    clear hK K hcv hfv
    have hV86 := hV81.set 0 (.slice (some ⟨g, 0, none⟩) (acc.length + 1) c')
    have hQ87 := hQ82.far (p := ⟨vb, 0, none⟩) (fun e => hvq e.symm) (.slice (some ⟨g, 0, none⟩) (acc.length + 1) c')
    have hpa88 := hpa84.far (p := ⟨vb, 0, none⟩) hpv (.slice (some ⟨g, 0, none⟩) (acc.length + 1) c')
    have hk89 := hk85.setCell (p := ⟨vb, 0, none⟩) (.inr hwv) (.slice (some ⟨g, 0, none⟩) (acc.length + 1) c')
    have hF90 := hF83.keep tmOK (w' := ((w72).setCells g (acc.length * 21) l).setCell ⟨vb, 0, none⟩ (.slice (some ⟨g, 0, none⟩) (acc.length + 1) c')) (fun k hk _ => Below.heap_setCell _ _ _ _ (by show k ≠ vb; omega))
    try simp only [Act.put, List.setIfInBounds_toArray, List.set_cons_zero, List.set_cons_succ]
    refine TillLast.done (by kernel_rfl) ?_ _
    go_wp2_with fail
    go_end0
    exact ⟨rfl, hpa88, ⟨_, hV86, hF90⟩, hQ87, hk89⟩
   ·skip
    have hcv := hV79.cell 0
    have hfv := hV79.free 0
    go_simp
    refine hK.out _ _ (fun h => absurd (h.symm.trans (by kernel_rfl : _ = true)) (by decide)) ?_
    clear hK K hcv hfv
    have hV91 := hV79.set 0 (.slice (some ⟨g, 0, none⟩) (acc.length + 1) c')
    have hQ92 := hQ80.far (p := ⟨vb, 0, none⟩) (fun e => hvq e.symm) (.slice (some ⟨g, 0, none⟩) (acc.length + 1) c')
    have hpa93 := hpa77.far (p := ⟨vb, 0, none⟩) hpv (.slice (some ⟨g, 0, none⟩) (acc.length + 1) c')
    have hk94 := hk74.setCell (p := ⟨vb, 0, none⟩) (.inr hwv) (.slice (some ⟨g, 0, none⟩) (acc.length + 1) c')
    have hB95 := hB76.keep tmOK (w' := (w72).setCell ⟨vb, 0, none⟩ (.slice (some ⟨g, 0, none⟩) (acc.length + 1) c')) (fun k hk _ => Below.heap_setCell _ _ _ _ (by show k ≠ vb; omega))
    have ti96 := (tmOK).same (w' := (w72).setCell ⟨vb, 0, none⟩ (.slice (some ⟨g, 0, none⟩) (acc.length + 1) c')) ti78 (fun k hk _ => Below.heap_setCell _ _ _ _ (by have := hk.1; show k ≠ vb; omega))
    try simp only [Act.put, List.setIfInBounds_toArray, List.set_cons_zero, List.set_cons_succ]
    refine TillLast.ready (rs := [7]) (by kernel_rfl) (by simp) ?_
    refine NextAll.cons (o := _) rfl (fun K hK => ?_) NextAll.nil
    rw [if_pos (by rfl)]
    have hlen := (tmOK).len ti96
    have hthr := hB95.there rfl
    refine wp_store_mid 33 _ _ rfl g (acc.length * 21) l.toArray (by simp [Act.eval]) rfl (by show World.there _ g _ l.length; rw [hlen]; exact hthr) (by rw [sz39]; simp [hlen]) (all_oneCell_toArray ((tmOK).one ti96)) ?_
    rw [List.toList_toArray]
    have hV97 := hV91.farCells (g' := g) (acc.length * 21) l (by omega)
    have hQ98 := hQ92.farCells (g' := g) (acc.length * 21) l (by omega)
    refine hK.out _ _ (fun h => absurd (h.symm.trans (by kernel_rfl : _ = true)) (by decide)) ?_
    clear hK K
    have hF99 := Acc1.fill tmOK hB95 rfl ((tmOK).mono (Q := fun k => lo ≤ k ∧ k ≠ g) ti96 (fun k hk _ => by have h1 := hk.1; have h2 := hk.2; try simp only [World.size_alloc] at h1 h2 hgat hgl; rcases hgat with hgat | hgat <;> omega))
    have hpa100 := hpa93.setCells (g := g) (by omega) (acc.length * 21) l
    have hk101 := hk94.setCells (g := g) (by omega) (acc.length * 21) l
    try simp only [Act.put, List.setIfInBounds_toArray]
    refine TillLast.done (by kernel_rfl) ?_ _
    go_wp2_with fail
    go_end0
    exact ⟨rfl, hpa100, ⟨_, hV97, hF99⟩, hQ98, hk101⟩
  ·skip
   have hcv := hV79.cell 0
   have hfv := hV79.free 0
   go_simp
   refine hK.out _ _ (fun h => absurd (h.symm.trans (by kernel_rfl : _ = true)) (by decide)) ?_
   clear hK K hcv hfv
   have hV102 := hV79.set 0 (.slice (some ⟨g, 0, none⟩) (acc.length + 1) c')
   have hQ103 := hQ80.far (p := ⟨vb, 0, none⟩) (fun e => hvq e.symm) (.slice (some ⟨g, 0, none⟩) (acc.length + 1) c')
   have hpa104 := hpa77.far (p := ⟨vb, 0, none⟩) hpv (.slice (some ⟨g, 0, none⟩) (acc.length + 1) c')
   have hk105 := hk74.setCell (p := ⟨vb, 0, none⟩) (.inr hwv) (.slice (some ⟨g, 0, none⟩) (acc.length + 1) c')
   have hB106 := hB76.keep tmOK (w' := (w72).setCell ⟨vb, 0, none⟩ (.slice (some ⟨g, 0, none⟩) (acc.length + 1) c')) (fun k hk _ => Below.heap_setCell _ _ _ _ (by show k ≠ vb; omega))
   have ti107 := (tmOK).same (w' := (w72).setCell ⟨vb, 0, none⟩ (.slice (some ⟨g, 0, none⟩) (acc.length + 1) c')) ti78 (fun k hk _ => Below.heap_setCell _ _ _ _ (by have := hk.1; show k ≠ vb; omega))
   try simp only [Act.put, List.setIfInBounds_toArray, List.set_cons_zero, List.set_cons_succ]
   refine TillLast.ready (rs := [6]) (by kernel_rfl) (by simp) ?_
   refine NextAll.cons (o := _) rfl (fun K hK => ?_) NextAll.nil
   go_simp
   refine hK.out _ _ (fun h => absurd (h.symm.trans (by kernel_rfl : _ = true)) (by decide)) ?_
   clear hK K
   try simp only [Act.put, List.setIfInBounds_toArray, List.set_cons_zero, List.set_cons_succ]
   refine TillLast.ready (rs := [7]) (by kernel_rfl) (by simp) ?_
   refine NextAll.cons (o := _) rfl (fun K hK => ?_) NextAll.nil
   rw [if_pos (by rfl)]
   have hlen := (tmOK).len ti107
   have hthr := hB106.there rfl
   refine wp_store_mid 33 _ _ rfl g (acc.length * 21) l.toArray (by simp [Act.eval]) rfl (by show World.there _ g _ l.length; rw [hlen]; exact hthr) (by rw [sz39]; simp [hlen]) (all_oneCell_toArray ((tmOK).one ti107)) ?_
   rw [List.toList_toArray]
   have hV108 := hV102.farCells (g' := g) (acc.length * 21) l (by omega)
   have hQ109 := hQ103.farCells (g' := g) (acc.length * 21) l (by omega)
   refine hK.out _ _ (fun h => absurd (h.symm.trans (by kernel_rfl : _ = true)) (by decide)) ?_
   clear hK K
   have hF110 := Acc1.fill tmOK hB106 rfl ((tmOK).mono (Q := fun k => lo ≤ k ∧ k ≠ g) ti107 (fun k hk _ => by have h1 := hk.1; have h2 := hk.2; try simp only [World.size_alloc] at h1 h2 hgat hgl; rcases hgat with hgat | hgat <;> omega))
   have hpa111 := hpa104.setCells (g := g) (by omega) (acc.length * 21) l
   have hk112 := hk105.setCells (g := g) (by omega) (acc.length * 21) l
   try simp only [Act.put, List.setIfInBounds_toArray]
   refine TillLast.done (by kernel_rfl) ?_ _
   go_wp2_with fail
   go_end0
   exact ⟨rfl, hpa111, ⟨_, hV108, hF110⟩, hQ109, hk112⟩
end Go.Proofs.YtmodmojocclmaaaGreatDoor

/- The contract of what reads the fields of a constructor. -/
namespace Go.Proofs.YtmodmojocclmaaaGreatDoor
open Go.RowKit Pz

theorem enter_fields1 (args : Array Value) (w : World) : (callFunc 163 args).run Tryz.prog w = .ok (.enter 163 args) w := by go_simp
theorem CapJ.keep {α : Type} {It : World → (Nat → Prop) → α → List Value → Prop} {e csz : Nat} (ok : ItOK csz It) {T : TypeId} {pb vb qb lo : Nat} {w0 w w' : World} {acc : List α} (h : CapJ It e csz T pb vb qb lo w0 w acc) (hc : Caps pb vb qb lo w0) (hk : Kp pb w w') : CapJ It e csz T pb vb qb lo w0 w' acc := by
 obtain ⟨⟨v, h1, h2⟩, h3, h4⟩ := h
 have := hc.pv
 have := hc.pq
 have := hc.vl
 exact ⟨⟨v, hk.lies h1 (by omega), h2.kp ok hk (by omega)⟩, hk.lies h3 (by omega), h4.trans hk⟩
theorem fields_no {sz : Nat} {ex : St → Tm × St} {s : St} (h : isT [tOpen] s = false) : fields sz ex s = ([], s) := by unfold fields; rw [h]; rfl
theorem fields_yes {sz : Nat} {ex : St → Tm × St} {s : St} (h : isT [tOpen] s = true) : fields sz ex s = list sz ex tOpen tComma tShut s := by unfold fields; rw [if_pos h]

def JL {α : Type} (It : World → (Nat → Prop) → α → List Value → Prop) (e csz : Nat) (T : TypeId) (pb vb qb lo : Nat) (w0 : World) (W : World) (acc : List α) : Prop := CapJ It e csz T pb vb qb lo w0 W acc ∧ lo ≤ W.heap.size
theorem fieldsCtx {ex : St → Tm × St} {pb sz n vb qb lo : Nat} {w0 : World} (hxn : Nice ex) (hx : ExOK ex pb sz n) (hnb : n ≤ 2000000) (hc : Caps pb vb qb lo w0) :
  ListCtx 163 #[.pointer (some ⟨vb, 0, none⟩), .pointer (some ⟨qb, 0, none⟩)] ex pb sz n (JL TmIt 33 21 24 pb vb qb lo w0) where
 ent := enter_fields1
 kp := fun w w' acc h hk => ⟨h.1.keep tmOK hc hk, Nat.le_trans h.2 hk.size⟩
 nice := hxn
 item := fun w s acc hp hJ hl => by
  have hlen : s.ws.length < n := by omega
  refine (fieldsC_any (item := ex) pb sz vb qb lo n w0 w s acc hp hJ.1 hc hJ.2 hnb (by omega) (fun W hW => (hx W s hW hlen).mono fun _ _ h => h)).mono ?_
  rintro e w' ⟨h1, h2, h3⟩
  refine ⟨h1, h2, h3, ?_⟩
  obtain ⟨v, _, hA⟩ := h3.ex
  obtain ⟨xs, hx1, hx2, _⟩ := hA
  rcases hx2.2 with ⟨_, h⟩ | ⟨g, _, _, _, hg, hh, _⟩
  ·simp at h
  ·have := lt_of_block hh; omega

set_option maxRecDepth 100000 in
set_option maxHeartbeats 4000000 in
theorem fields_any (ex : St → Tm × St) (pb sz n : Nat) (hxn : Nice ex) (hx : ExOK ex pb sz n) (hnb : n ≤ 2000000) (w : World) (s : St) (hp : PA w pb sz s) (hn : s.ws.length ≤ n) :
  Calls Tryz.prog 159 #[.pointer (some ⟨pb, 0, none⟩)] w (ListEnd TmIt 33 21 pb sz w (fields sz ex s)) := by
 have hplt := hp.lt
 have hlq := (Lies.new w 133 #[.pointer (some ⟨pb, 0, none⟩)]).alloc (.cells #[.slice none 0 0] 24)
 have hlv := Lies.new' (w.alloc (.cells #[.pointer (some ⟨pb, 0, none⟩)] 133)) 24 #[.slice none 0 0] (N := w.heap.size + 1) (by simp)
 have hk := ((Kp.refl pb w).alloc (.cells #[.pointer (some ⟨pb, 0, none⟩)] 133)).alloc (.cells #[.slice none 0 0] 24)
 have hp1 := (hp.alloc (.cells #[.pointer (some ⟨pb, 0, none⟩)] 133)).alloc (.cells #[.slice none 0 0] 24)
 have hz : ((w.alloc (.cells #[.pointer (some ⟨pb, 0, none⟩)] 133)).alloc (.cells #[.slice none 0 0] 24)).heap.size = w.heap.size + 2 := by simp
 have hS := Sl.new (w := (w.alloc (.cells #[.pointer (some ⟨pb, 0, none⟩)] 133)).alloc (.cells #[.slice none 0 0] 24)) (t := 9) (N := w.heap.size + 2) [tOpen] (by simp) (by decide) 1 1 rfl rfl
 have hb := below_new ((w.alloc (.cells #[.pointer (some ⟨pb, 0, none⟩)] 133)).alloc (.cells #[.slice none 0 0] 24)) (.cells ([tOpen].map fun (k : Str) => Value.string (ba k)).toArray 9)
 have hi := is_any _ [tOpen] _ pb sz s (hp1.below hb) hS
 have HZ := Lib.hid hz
 clear hS hz
 cases hT : isT [tOpen] s
 ·rw [fields_no hT]
  rw [hT] at hi
  have HI := Lib.hid hi
  have c0 := fun o => (hlq.alloc o).cell 0
  clear hi hT
  go_enter Tryz.func159, Tryz.ntmps159
  go_wp2_with fail
  refine HI.out.mono ?_
  rintro e w1 ⟨rfl, hb1⟩
  have l1 := (hlv.later hb).later hb1
  have d0 := l1.cell 0
  go_wp2_with fail
  go_ret
  exact ⟨_, rfl, Acc.nil _ _, (hp1.below hb).below hb1, (hk.below hb hk.size).below hb1 (by have := hb.size; have := HZ.out; omega)⟩
 ·rw [fields_yes hT]
  rw [hT] at hi
  have HI := Lib.hid hi
  have hln := must1_lt (sz := sz) hT
  have c0 := fun o => (hlq.alloc o).cell 0
  clear hi hT
  go_enter Tryz.func159, Tryz.ntmps159
  go_wp2_with fail
  refine HI.out.mono ?_
  rintro e w1 ⟨rfl, hb1⟩
  have l1 := (hlv.later hb).later hb1
  have q1 := (hlq.later hb).later hb1
  have hk1 : Kp pb w w1 := (hk.below hb hk.size).below hb1 (by have := hb.size; have := HZ.out; omega)
  have hz1 : w.heap.size + 2 ≤ w1.heap.size := by have := hb.size; have := hb1.size; have := HZ.out; omega
  have hcaps : Caps pb (w.heap.size + 1) w.heap.size (w.heap.size + 2) w := ⟨by omega, by omega, by omega, by omega, by omega, by omega, by omega⟩
  have hJ : JL TmIt 33 21 24 pb (w.heap.size + 1) w.heap.size (w.heap.size + 2) w w1 [] := ⟨⟨⟨_, l1, Acc.nil _ _⟩, q1, hk1⟩, hz1⟩
  have hl := list_any 163 _ ex pb sz n _ (fieldsCtx hxn hx hnb hcaps) tOpen tComma tShut w1 s ((hp1.below hb).below hb1) hJ (by omega)
  have HL := Lib.hid hl
  have d0 := q1.cell 0
  clear hl
  go_wp2_with fail
  refine HL.out.mono ?_
  rintro e w2 ⟨rfl, hp2, hJ2⟩
  obtain ⟨⟨⟨v, hlv2, hA2⟩, _, hk2⟩, _⟩ := hJ2
  have d1 := hlv2.cell 0
  go_wp2_with fail
  go_ret
  exact ⟨_, rfl, hA2.low tmOK (by omega), hp2, hk2⟩
end Go.Proofs.YtmodmojocclmaaaGreatDoor

/- The contract of what reads a way of a match. -/
namespace Go.Proofs.YtmodmojocclmaaaGreatDoor
open Go.RowKit Pz

theorem vars_no {s : St} (h : isOf [2] s = false) (n : Nat) : vars n s = ([], s) := by
 cases n with
 | zero => rfl
 | succ n => unfold vars; rw [h]; rfl
theorem vars_yes {s : St} (h : isOf [2] s = true) (n : Nat) : vars (n + 1) s = ((hd s).t :: (vars n (take s)).1, (vars n (take s)).2) := by rw [vars, if_pos h]
theorem info_str : (Tryz.prog.info? 9).map (fun i => (i.zero, i.size, i.bytes)) = some (some (.string ⟨#[]⟩), 1, 16) := by kernel_rfl
def armC (nm : Str) (vv : Value) : List Value := [Value.string (ba nm), vv] ++ zC.toList
theorem armC_one (nm : Str) (vv : Value) (hv : vv.oneCell' = true) : (armC nm vv).toArray.all (·.oneCell') = true := arm_ones nm vv zC.toList hv zC_ones

structure WayRel (pb sz n N M : Nat) (w : World) (nm : Str) (res : List Str × St) (g : Nat) (wr : World) (zs : List Str) (vv : Value) (s : St) : Prop where
 goes : Goes pb sz w s wr
 box : Lies wr M 35 (armC nm vv).toArray
 out : Lies wr N 35 zA
 own : wr.ownsRow (M + 1) 9 1 vv zs.length (zs.map fun t => .string (ba t))
 lg : s.ws.length ≤ g
 ln : zs.length + s.ws.length < n
 res : res = (zs ++ (vars g s).1, (vars g s).2)
def WayAny (pb sz n N M : Nat) (w : World) (nm : Str) (res : List Str × St) (g : Nat) (wr : World) : Prop := ∃ zs vv s, WayRel pb sz n N M w nm res g wr zs vv s

set_option maxRecDepth 100000 in
set_option maxHeartbeats 4000000 in
theorem way_any (ex : St → Tm × St) (pb sz n : Nat) (hx : ExOK ex pb sz n) (hnb : n ≤ 2000000) (w : World) (s : St) (hp : PA w pb sz s) (hn : s.ws.length < n) :
  Calls Tryz.prog 115 #[.pointer (some ⟨pb, 0, none⟩)] w (ItEnd ArmIt pb sz w (way sz ex s)) := by
 have hplt := hp.lt
 have l0 := Lies.new w 35 zA
 have hp0 := hp.alloc (.cells zA 35)
 have hk0 := (Kp.refl pb w).alloc (.cells zA 35)
 have hni := nice_name sz [3] s
 have hla := large_any _ pb sz s hp0
 unfold way
 dsimp only
 generalize name sz [3] s = R at hla hni ⊢
 have HLA := Lib.hid hla
 clear hla
 have lw1 := fun w1 : World => Lies.new w1 35 zA
 unfold zA zC at l0 hp0 hk0 HLA lw1
 go_enter Tryz.func115, Tryz.ntmps115
 go_wp2_with fail
 refine HLA.out.mono ?_
 rintro e w1 ⟨rfl, hg1⟩
 have l1 := hg1.kp.lies l0 (by omega)
 have lz := lw1 w1
 clear lw1 HLA l0
 have hs65 : (Tryz.prog.info? 35).map (·.size) = some (armC R.1 (.slice none 0 0)).toArray.size := by rw [sz65]; rfl
 have hone := armC_one R.1 (.slice none 0 0) rfl
 have H65 := Lib.hid hs65
 have HON := Lib.hid hone
 clear hs65 hone
 go_wp2_with (first | (refine wpList_store_rowTo rfl 35 (.tmp 3) (.tmp 6) rfl rfl w1.heap.size (armC R.1 (.slice none 0 0)).toArray rfl rfl 35 _ lz H65.out rfl HON.out ?_; rw [set_new rfl]))
 have l2 := l1.alloc (.cells (armC R.1 (.slice none 0 0)).toArray 35)
 have lB := Lies.new w1 35 (armC R.1 (.slice none 0 0)).toArray
 have hsz1 : w.heap.size + 1 ≤ w1.heap.size := by have := hg1.kp.size; simp at this; omega
 have hk1 : Kp pb w w1 := hk0.trans hg1.kp
 have hle : R.2.ws.length ≤ s.ws.length := hni.1
 have hst : WayRel pb sz n w.heap.size w1.heap.size w R.1 (vars R.2.ws.length R.2) R.2.ws.length (w1.alloc (.cells (armC R.1 (.slice none 0 0)).toArray 35)) [] (.slice none 0 0) R.2 :=
  ⟨⟨hg1.pa.alloc _, hk1.alloc _⟩, lB, l2, World.ownsRow_nil _ _ _ _, Nat.le_refl _, by simp; omega, by simp⟩
 clear lz l1 l2 lB hg1 hp0 hk0 hk1 HON H65
 go_loopg [11] R.2.ws.length (fun g _ wr => WayAny pb sz n w.heap.size w1.heap.size w R.1 (vars R.2.ws.length R.2) g wr)
 case atStart => exact ⟨_, _, _, hst⟩
 case round =>
  obtain ⟨zs, vv, s', hR⟩ := hrel
  have hpr := hR.goes.pa
  have HR := Lib.hid hR
  have hb2 := below_new wr (.cells #[.int .i64 2] 3)
  have hS2 : Il (wr.alloc (.cells #[.int .i64 2] 3)) (.slice (some ⟨wr.heap.size, 0, none⟩) 1 1) [2] := Il.new [2] (by simp) (by simp) 1 1 rfl rfl
  have hi := isOf_any _ [2] _ pb sz s' (hpr.below hb2) hS2
  have hszr : w1.heap.size < wr.heap.size := hR.box.lt
  have lb2 := hR.box.later hb2
  have lo2 := hR.out.later hb2
  clear hst hS2 hR
  cases hT : isOf [2] s'
  ·rw [hT] at hi
   have HI := Lib.hid hi
   have HT' := Lib.hid hT
   clear hi hT
   go_wp2_with fail
   refine HI.out.mono ?_
   rintro e w' ⟨rfl, rfl⟩
   have hgo := HR.out.goes
   have hres := HR.out.res
   rw [vars_no HT'.out, List.append_nil] at hres
   have hown := (OwnP.of HR.out.own).same (w' := wr.alloc (.cells #[.int .i64 2] 3)) (fun g _ hlt => hb2.block g hlt)
   have hmn := (le_must1 sz tArrow s').1
   have hln := HR.out.ln
   have hdo := does_any ex pb sz n hx R.1 zs vv (fun g => w1.heap.size + 1 ≤ g) (fun g (hg : w1.heap.size + 1 ≤ g) => by omega) _ s' (hpr.below hb2) (by omega) hown
   have HRES := Lib.hid hres
   have HD := Lib.hid hdo
   have hs65 : (Tryz.prog.info? 35).map (·.size) = some (armC R.1 vv).toArray.size := by rw [sz65]; rfl
   have H65 := Lib.hid hs65
   clear hdo hown hmn hs65 hres
   go_wp2_with (first | (refine wpList_load_row rfl 35 (.tmp 3) rfl _ rfl 35 _ (0, 0) _ lb2 Tryz.underlying35 rfl H65.out ?_))
   refine HD.out.mono ?_
   rintro e w3 ⟨l, rfl, ht, hg3⟩
   have l3 := hg3.kp.lies lo2 (by omega)
   have hlen := armOK.len ht
   have hs2 : (Tryz.prog.info? 35).map (·.size) = some l.toArray.size := by rw [sz65]; simp [hlen]
   have H2 := Lib.hid hs2
   have hzz : zA.size = l.toArray.size := by simp [hlen, zA, zC]
   have HZ := Lib.hid hzz
   have hon := all_oneCell_toArray (armOK.one ht)
   have HON := Lib.hid hon
   clear hlen hs2 hzz hon
   go_wp2_with (first | (refine wpList_store_rowTo rfl 35 (.tmp 2) (.tmp 24) rfl rfl _ _ rfl rfl 35 _ l3 H2.out HZ.out HON.out ?_))
   refine bodyPost_ret (v := .agg l.toArray) (results_cell_row rfl _ _ w.heap.size 35 l.toArray (0, 0) _ rfl (l3.setRow _) Tryz.underlying35 rfl H2.out) rfl ?_
   have hgs := (hgo.below hb2).trans hg3
   rw [HRES.out]
   refine ⟨l, rfl, ?_, hgs.pa.setRow hplt _, hgs.kp.setRow (Nat.le_refl _) _⟩
   refine armOK.mono (armOK.same ht (fun g hg _ => heap_setRow _ _ _ _ ?_)) (fun g hg _ => ?_)
   ·rcases hg with hg | hg
    ·have : w1.heap.size + 1 ≤ g := hg
     omega
    ·simp only [World.size_alloc] at hg; omega
   ·rcases hg with hg | hg
    ·have : w1.heap.size + 1 ≤ g := hg
     show w.heap.size ≤ g
     omega
    ·simp only [World.size_alloc] at hg; show w.heap.size ≤ g; omega
  ·rw [hT] at hi
   have HI := Lib.hid hi
   have HT' := Lib.hid hT
   obtain ⟨x, r, hw⟩ := ws_cons (isOf_pos hT)
   clear hi hT
   go_wp2_with fail
   refine HI.out.mono ?_
   rintro e w' ⟨rfl, rfl⟩
   go_wp2_with fail
   have hszb := hb2.size
   refine TillLast.start (S := fun w' => Lies w' w1.heap.size 35 (armC R.1 vv).toArray) (z := 10) (by kernel_rfl) ?_
   have hS : Lies (wr.alloc (.cells #[.int .i64 2] 3)).drew w1.heap.size 35 (armC R.1 vv).toArray := lb2
   have hpd0 := hpr.below hb2
   have hpd : PA (wr.alloc (.cells #[.int .i64 2] 3)).drew pb sz s' := hpd0
   have hkd : Kp pb wr (wr.alloc (.cells #[.int .i64 2] 3)).drew := ((Kp.refl pb wr).below hb2 (Nat.le_refl _)).drew
   have hod : Lies (wr.alloc (.cells #[.int .i64 2] 3)).drew w.heap.size 35 zA := lo2
   have hszd : wr.heap.size ≤ (wr.alloc (.cells #[.int .i64 2] 3)).drew.heap.size := hszb
   generalize (wr.alloc (.cells #[.int .i64 2] 3)).drew = wd at hS hpd hkd hod hszd ⊢
   refine TillLast.take (i := 0) (oi := _) (v := .pointer (some ⟨w1.heap.size, 1, none⟩)) rfl (by kernel_rfl) (by kernel_rfl) (by kernel_rfl) (by kernel_rfl) (by decide) (by kernel_rfl) (fun _ _ _ h => h) (Or.inl ⟨by rfl, ?_⟩) hS ?_
   ·intro w' hS'
    go_simp
   try simp only [Act.put, List.setIfInBounds_toArray]
   refine TillLast.take (i := 1) (oi := _) (v := vv) rfl (by kernel_rfl) (by kernel_rfl) (by kernel_rfl) (by kernel_rfl) (by decide) (by kernel_rfl) (fun _ _ _ h => h) (Or.inl ⟨by rfl, ?_⟩) hS ?_
   ·intro w' hS'
    have c1 : w'.cell? ⟨w1.heap.size, 1, none⟩ = some vv := hS'.cell 1
    go_simp
   try simp only [Act.put]
   refine TillLast.take (i := 2) (oi := _) (v := .pointer (some ⟨pb, 0, none⟩)) rfl (by kernel_rfl) (by kernel_rfl) (by kernel_rfl) (by kernel_rfl) (by decide) (by kernel_rfl) (fun _ _ _ h => h) (Or.inl ⟨by rfl, ?_⟩) hS ?_
   ·intro w' hS'
    go_simp
   try simp only [Act.put]
   refine TillLast.take (i := 3) (oi := _) (v := .pointer (some ⟨pb, 0, none⟩)) rfl (by kernel_rfl) (by kernel_rfl) (by kernel_rfl) (by kernel_rfl) (by decide) (by kernel_rfl) (fun _ _ _ h => h) (Or.inl ⟨by rfl, ?_⟩) hS ?_
   ·intro w' hS'
    go_simp
   try simp only [Act.put]
   refine TillLast.take (i := 4) (oi := _) (v := .pointer (some ⟨pb, 0, none⟩)) rfl (by kernel_rfl) (by kernel_rfl) (by kernel_rfl) (by kernel_rfl) (by decide) (by kernel_rfl) (fun _ _ _ h => h) (Or.inl ⟨by rfl, ?_⟩) hS ?_
   ·intro w' hS'
    go_simp
   try simp only [Act.put]
   refine TillLast.ready (rs := [5]) (by kernel_rfl) (by simp) ?_
   refine NextAll.cons (o := _) rfl (fun K hK => ?_) NextAll.nil
   go_simp
   refine (take_any _ pb sz s' hpd x r hw).mono ?_
   rintro e w3 ⟨rfl, hg3⟩
   try dsimp only
   have hS3 := hg3.kp.lies hS (by omega)
   refine hK.out _ _ (fun _ => hS3) ?_
   clear hK K
   have hk3 := hkd.trans hg3.kp
   have ho3 := hg3.kp.lies hod (by omega)
   have hsz3 := hg3.kp.size
   unfold tkV
   try simp only [Act.put, List.setIfInBounds_toArray, List.set_cons_zero, List.set_cons_succ]
   refine TillLast.ready (rs := [6]) (by kernel_rfl) (by simp) ?_
   refine NextAll.cons (o := _) rfl (fun K hK => ?_) NextAll.nil
   have hfl1 := tok_field1
   go_simp
   refine hK.out _ _ (fun _ => hS3) ?_
   clear hK K hfl1
   try simp only [Act.put, List.setIfInBounds_toArray, List.set_cons_zero, List.set_cons_succ]
   refine TillLast.ready (rs := [7]) (by kernel_rfl) (by simp) ?_
   refine NextAll.cons (o := _) rfl (fun K hK => ?_) NextAll.nil
   go_simp
   have hb4 := below_new w3 (.cells #[.string (ba x.t)] 9)
   have hS4 := hS3.later hb4
   refine hK.out _ _ (fun _ => hS4) ?_
   clear hK K
   have hk4 := hk3.below hb4 hk3.size
   have hp4 := hg3.pa.below hb4
   have ho4 := ho3.later hb4
   have hsz4 := hb4.size
   have hN := Lies.new w3 9 #[.string (ba x.t)]
   have hgo := HR.out.goes
   have hkr : Kp pb wr (w3.alloc (.cells #[.string (ba x.t)] 9)) := hk4
   have hown : (w3.alloc (.cells #[.string (ba x.t)] 9)).ownsRow (w1.heap.size + 1) 9 1 vv zs.length (zs.map fun t => .string (ba t)) := (OwnP.of HR.out.own).same (fun g (hg : w1.heap.size + 1 ≤ g) hlt => hkr.block g hlt (fun e => by injection e with e; omega))
   have hln := HR.out.ln
   have hrow := own_block HR.out.own
   obtain ⟨i0, hi, hz0, hz1, hz2⟩ := info_parts info_str
   try simp only [Act.put, List.setIfInBounds_toArray, List.set_cons_zero, List.set_cons_succ]
   refine TillLast.ready (rs := [8]) (by kernel_rfl) (by simp) ?_
   refine NextAll.cons (o := _) rfl (fun K hK => ?_) NextAll.nil
   rw [if_pos (by rfl)]
   refine wp_append_at (.tmp 13) (.tmp 19) 27 rfl (w1.heap.size + 1) 9 i0 (.string ⟨#[]⟩) 1 16 Tryz.underlying27 hi hz0 hz1 hz2 rfl (by decide) vv zs.length _ rfl hown ⟨w3.heap.size, 0, none⟩ 1 1 [.string (ba x.t)] rfl rfl (lies_news hN) (by simp [Value.oneCell']) (by unfold maxLen; omega) (by omega) (by omega) rfl ?_
   intro v' w5 hown5 hgr hat
   have hrowk : ∀ k, vv.ownBlock = some k → w1.heap.size + 1 ≤ k ∧ k < wr.heap.size := hrow
   have hS5 := hS4.grown hgr (fun e => by have := (hrowk _ e.symm).1; omega)
   have ho5 := ho4.grown hgr (fun e => by have := (hrowk _ e.symm).1; omega)
   refine hK.out _ _ (fun _ => hS5) ?_
   clear hK K
   have hkw5 := (hgo.kp.trans hk4).grown hgr (fun k hk => by have := (hrowk k hk).1; omega)
   have hp5 := hp4.grown hgr (fun k hk => by have := (hrowk k hk).1; omega)
   have hvf : ∃ A k c, v' = .slice A k c := by rcases (OwnP.of hown5).2 with ⟨h, _⟩ | ⟨g, cap, cur, h, _⟩ <;> exact ⟨_, _, _, h⟩
   have hsz5 := hgr.size
   obtain ⟨A5, k5, c5, hvf⟩ := hvf
   subst hvf
   try simp only [Act.put, List.setIfInBounds_toArray]
   refine TillLast.ready (rs := [9]) (by kernel_rfl) (by simp) ?_
   refine NextAll.cons (o := _) rfl (fun K hK => ?_) NextAll.nil
   go_simp
   refine hK.out _ _ (fun _ => hS5) ?_
   clear hK K
   try simp only [Act.put, List.setIfInBounds_toArray, List.set_cons_zero, List.set_cons_succ]
   refine TillLast.ready (rs := [10]) (by kernel_rfl) (by simp) ?_
   refine NextAll.cons (o := _) rfl (fun K hK => ?_) NextAll.nil
   have hcv : w5.cell? ⟨w1.heap.size, 1, none⟩ = some vv := hS5.cell 1
   have hfv := hS5.free 1
   go_simp
   refine hK.out _ _ (fun h => absurd (h.symm.trans (by kernel_rfl : _ = true)) (by decide)) ?_
   clear hK K hcv hfv
   have hB6 : Lies (w5.setCell ⟨w1.heap.size, 1, none⟩ (.slice A5 k5 c5)) w1.heap.size 35 (armC R.1 (.slice A5 k5 c5)).toArray := hS5.set 1 (.slice A5 k5 c5)
   have ho6 := ho5.far (p := ⟨w1.heap.size, 1, none⟩) (by show w.heap.size ≠ w1.heap.size; omega) (.slice A5 k5 c5)
   have hp6 := hp5.far (p := ⟨w1.heap.size, 1, none⟩) (by show pb < w1.heap.size; omega) (.slice A5 k5 c5)
   have hk6 := hkw5.setCell (p := ⟨w1.heap.size, 1, none⟩) (.inr (by show w.heap.size ≤ w1.heap.size; omega)) (.slice A5 k5 c5)
   have hown6 : (w5.setCell ⟨w1.heap.size, 1, none⟩ (.slice A5 k5 c5)).ownsRow (w1.heap.size + 1) 9 1 (.slice A5 k5 c5) (zs ++ [x.t]).length ((zs ++ [x.t]).map fun t => .string (ba t)) := by
    rw [List.length_append, List.map_append]
    exact (OwnP.of hown5).same (fun g (hg : w1.heap.size + 1 ≤ g) _ => Below.heap_setCell _ _ _ _ (by show g ≠ w1.heap.size; omega))
   try simp only [Act.put, List.setIfInBounds_toArray, List.set_cons_zero, List.set_cons_succ]
   refine TillLast.done (by kernel_rfl) ?_ _
   have htl := take_lt (isOf_pos HT'.out)
   have hlg := HR.out.lg
   go_wp2_with fail
   go_roundg (gk - 1)
   case measure => omega
   case rel =>
    refine ⟨zs ++ [x.t], _, take s', ⟨hp6, hk6⟩, hB6, ho6, hown6, by omega, by simp; omega, ?_⟩
    have hr := HR.out.res
    obtain ⟨g', rfl⟩ : ∃ g', gk = g' + 1 := ⟨gk - 1, by omega⟩
    rw [vars_yes HT'.out, hd_cons hw] at hr
    rw [hr]
    simp
end Go.Proofs.YtmodmojocclmaaaGreatDoor
