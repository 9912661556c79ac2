/- exprHere, whichever its way. -/
import Derived.Test.YtmodmojocclmaaaGreatDoorPw
import Derived.Test.YtmodmojocclmaaaGreatDoorMg25
import Derived.Test.YtmodmojocclmaaaGreatDoorMg23
import Derived.Outline
namespace Go.Proofs.YtmodmojocclmaaaGreatDoor
open Go.RowKit Pz

theorem here_any (ex : St → Tm × St) (pb sz n : Nat) (hxn : Nice ex) (hx : ExOK ex pb sz n) (hways : WaysOK ex pb sz n) (hcl : ClausesOK ex pb sz n) (hassign : SideOK 107 (assign sz ex) pb sz n) (w : World) (s : St) (hp : PA w pb sz s) (hn : s.ws.length ≤ n) :
  Calls Tryz.prog 80 #[.pointer (some ⟨pb, 0, none⟩)] w (TermEnd pb sz (fun g => w.heap.size ≤ g) w (exprHere sz ex s)) := by
 by_cases h0 : isT [tFun] s = true
 ·exact here_0 ex pb sz n hxn hx hways hcl hassign w s hp hn (Lib.hid h0)
 rw [Bool.not_eq_true] at h0
 by_cases h1 : isT [tLet] s = true
 ·exact here_1 ex pb sz n hxn hx hways hcl hassign w s hp hn (Lib.hid h0) (Lib.hid h1)
 rw [Bool.not_eq_true] at h1
 by_cases h2 : isT [tRec] s = true
 ·exact here_2 ex pb sz n hxn hx hways hcl hassign w s hp hn (Lib.hid h0) (Lib.hid h1) (Lib.hid h2)
 rw [Bool.not_eq_true] at h2
 by_cases h3 : isT [tIf] s = true
 ·exact here_3 ex pb sz n hxn hx hways hcl hassign w s hp hn (Lib.hid h0) (Lib.hid h1) (Lib.hid h2) (Lib.hid h3)
 rw [Bool.not_eq_true] at h3
 by_cases h4 : isT [tMatch] s = true
 ·exact here_4 ex pb sz n hxn hx hways hcl hassign w s hp hn (Lib.hid h0) (Lib.hid h1) (Lib.hid h2) (Lib.hid h3) (Lib.hid h4)
 rw [Bool.not_eq_true] at h4
 by_cases h5 : isT [tHandle] s = true
 ·exact here_5 ex pb sz n hxn hx hways hcl hassign w s hp hn (Lib.hid h0) (Lib.hid h1) (Lib.hid h2) (Lib.hid h3) (Lib.hid h4) (Lib.hid h5)
 rw [Bool.not_eq_true] at h5
 exact here_6 ex pb sz n hxn hx hways hcl hassign w s hp hn (Lib.hid h0) (Lib.hid h1) (Lib.hid h2) (Lib.hid h3) (Lib.hid h4) (Lib.hid h5)
end Go.Proofs.YtmodmojocclmaaaGreatDoor

/- The contract of what reads the ways of a match. -/
namespace Go.Proofs.YtmodmojocclmaaaGreatDoor
open Go.RowKit Pz

set_option maxRecDepth 100000 in
set_option maxHeartbeats 16000000 in
theorem waysC_any {item : St → Arm × St} (pb sz vb qb lo n : Nat) (w0 : World) (w : World) (s : St) (acc : List Arm) (hp : PA w pb sz s) (hJ : CapJ ArmIt 35 23 25 pb vb qb lo w0 w acc) (hc : Caps pb vb qb lo w0) (hlo : lo ≤ w.heap.size) (hnb : n ≤ 2000000) (hacc : acc.length < n)
  (hit : ∀ W, PA W pb sz s → Calls Tryz.prog 115 #[.pointer (some ⟨pb, 0, none⟩)] W (ItEnd ArmIt pb sz W (item s))) :
  Calls Tryz.prog 114 #[.pointer (some ⟨vb, 0, none⟩), .pointer (some ⟨qb, 0, none⟩)] w (ClosEnd ArmIt 35 23 25 pb sz vb qb lo w0 (item s) acc) := by
 obtain ⟨⟨v, hlv, hA⟩, hlq, hkp⟩ := hJ
 obtain ⟨hpv, hpq, hvq, hvl, hql, hwv, hwq⟩ := hc
 obtain ⟨A, c, hvf, hvb⟩ := hA.form
 subst hvf
 obtain ⟨i0, hi, hz0, hz1, hz2⟩ := info_parts info_arm
 have HIT := Lib.hid hit
 clear hit
 go_enter Tryz.func114, Tryz.ntmps114
 go_wp2_with fail
 refine TillLast.start (S := fun w' => Lies w' vb 25 #[.slice A acc.length c] ∧ Lies w' qb 133 #[.pointer (some ⟨pb, 0, none⟩)]) (z := 8) (by kernel_rfl) ?_
 have hS : Lies w.drew vb 25 #[.slice A acc.length c] ∧ Lies w.drew qb 133 #[.pointer (some ⟨pb, 0, none⟩)] := ⟨hlv, hlq⟩
 have hp : PA w.drew pb sz s := hp
 have hA : Acc ArmIt 35 23 w.drew lo acc (.slice A acc.length c) := hA.keep armOK (fun _ _ _ => rfl)
 have hkp : Kp pb w0 w.drew := hkp.drew
 have hlo : lo ≤ w.drew.heap.size := hlo
 have hdr : w.drew.heap.size = w.heap.size := rfl
 refine TillLast.take (i := 0) (oi := _) (v := .slice A acc.length c) rfl (by kernel_rfl) (by kernel_rfl) (by kernel_rfl) (by kernel_rfl) (by decide) (by kernel_rfl) (fun _ _ _ h => h) (Or.inl ⟨by rfl, ?_⟩) hS ?_
 ·intro w' hS'
  have c0 := hS'.1.cell 0
  go_simp
 try simp only [Act.put, List.setIfInBounds_toArray]
 refine TillLast.take (i := 1) (oi := _) (v := .pointer (some ⟨pb, 0, none⟩)) rfl (by kernel_rfl) (by kernel_rfl) (by kernel_rfl) (by kernel_rfl) (by decide) (by kernel_rfl) (fun _ _ _ h => h) (Or.inl ⟨by rfl, ?_⟩) hS ?_
 ·intro w' hS'
  have c0 := hS'.2.cell 0
  go_simp
 try simp only [Act.put]
 refine TillLast.take (i := 3) (oi := _) (v := .int .i64 (acc.length : Int)) rfl (by kernel_rfl) (by kernel_rfl) (by kernel_rfl) (by kernel_rfl) (by decide) (by kernel_rfl) (fun _ _ _ h => h) (Or.inl ⟨by rfl, ?_⟩) hS ?_
 ·intro w' hS'
  go_simp
 try simp only [Act.put]
 refine TillLast.ready (rs := [2, 4]) (by kernel_rfl) (by simp) ?_
 refine NextAll.cons (o := _) rfl (fun K hK => ?_) (NextAll.cons (o := _) rfl (fun K hK => ?_) NextAll.nil)
 ·skip
  go_simp
  refine (HIT.out _ hp).mono ?_
  rintro e w1 ⟨l, rfl, ht, hg6⟩
  try dsimp only
  have hS2 : Lies w1 vb 25 #[.slice A acc.length c] ∧ Lies w1 qb 133 #[.pointer (some ⟨pb, 0, none⟩)] := ⟨hg6.kp.lies hS.1 (by omega), hg6.kp.lies hS.2 (by omega)⟩
  refine hK.out _ _ (fun _ => hS2) ?_
  clear hK K
  have hk3 := hkp.trans hg6.kp
  have hlo4 : lo ≤ w1.heap.size := Nat.le_trans hlo hg6.kp.size
  have hszc := hg6.kp.size
  have ti5 := (armOK).mono (Q := fun k => (w.drew).heap.size ≤ k ∧ k < w1.heap.size) ht (fun k h1 h2 => ⟨h1, h2⟩)
  clear ht
  have hA7 := hA.kp armOK hg6.kp (by omega)
  try simp only [Act.put, List.setIfInBounds_toArray, List.set_cons_zero, List.set_cons_succ]
  refine TillLast.ready (rs := [4]) (by kernel_rfl) (by simp) ?_
  refine NextAll.cons (o := _) rfl (fun K hK => ?_) NextAll.nil
  rw [if_pos (by rfl)]
  refine wp_buildSlice 25 35 1 _ rfl ((Value.string ⟨#[]⟩ :: Value.slice none 0 0 :: zC.toList)).toArray i0 (.agg zA) Tryz.underlying25 hi hz0 (by rw [hz1]; decide) (by rw [hz1]; decide) (by rw [hz1, Array.toList_map]; exact fill_row (sz := 23) (by decide) ((Value.string ⟨#[]⟩ :: Value.slice none 0 0 :: zC.toList)) rfl ((Array.range (1 * 23)).map ((Value.agg zA).cells[· % (Value.agg zA).cells.size]!)) (by simp)) ?_
  have hb11 := below_new (w1) (.cells ((Value.string ⟨#[]⟩ :: Value.slice none 0 0 :: zC.toList)).toArray 35)
  have hS8 := And.intro (hS2.1.alloc (.cells ((Value.string ⟨#[]⟩ :: Value.slice none 0 0 :: zC.toList)).toArray 35)) (hS2.2.alloc (.cells ((Value.string ⟨#[]⟩ :: Value.slice none 0 0 :: zC.toList)).toArray 35))
  refine hK.out _ _ (fun _ => hS8) ?_
  clear hK K
  have hk9 := hk3.below hb11 hk3.size
  have hlo10 := Nat.le_trans hlo4 hb11.size
  have hN12 := Lies.new (w1) 35 ((Value.string ⟨#[]⟩ :: Value.slice none 0 0 :: zC.toList)).toArray
  have hpa13 := hg6.pa.below hb11
  have hA14 := hA7.later armOK hb11
  have ti15 := (armOK).same ti5 (fun g _ hg => hb11.block g hg)
  have hszb := hb11.size
  try simp only [Act.put, List.setIfInBounds_toArray]
  refine TillLast.ready (rs := [5]) (by kernel_rfl) (by simp) ?_
  refine NextAll.cons (o := _) rfl (fun K hK => ?_) NextAll.nil
  rw [if_pos (by rfl)]
  obtain ⟨xs, hx1, hx2, hx3⟩ := hA14
  refine wp_append_at (.tmp 2) (.tmp 6) 25 rfl lo 35 i0 (.agg zA) 23 352 Tryz.underlying25 hi hz0 hz1 hz2 rfl (by decide) (.slice A acc.length c) acc.length xs.flatten rfl hx2 ⟨(w1).heap.size, 0, none⟩ 1 1 ((Value.string ⟨#[]⟩ :: Value.slice none 0 0 :: zC.toList)) rfl rfl (lies_news hN12) zA_ones (by unfold maxLen; omega) (by omega) hlo10 rfl ?_
  intro v' w16 hown hgr hat
  have hrow : ∀ k, (Value.slice A acc.length c).ownBlock = some k → lo ≤ k ∧ k < w.heap.size := hvb
  have hS17 : Lies w16 vb 25 #[.slice A acc.length c] ∧ Lies w16 qb 133 #[.pointer (some ⟨pb, 0, none⟩)] := ⟨hS8.1.grown hgr (fun e => by have := (hrow vb e.symm).1; omega), hS8.2.grown hgr (fun e => by have := (hrow qb e.symm).1; omega)⟩
  refine hK.out _ _ (fun _ => hS17) ?_
  clear hK K
  have hB20 := Acc.place armOK hx1 hx3 hown hgr hat
  have hk18 := hk9.grown hgr (fun k hk => by have := (hrow k hk).1; omega)
  have hlo19 := Nat.le_trans hlo10 hgr.size
  have hpa21 := hpa13.grown hgr (fun k hk => by have := (hrow k hk).1; omega)
  have ti22 := (armOK).same ti15 (fun g hg hlt => hgr.block g hlt (fun e => by have := (hrow g e.symm).2; have := hg.1; omega))
  obtain ⟨g, c', hvf, hcc, hlg, hgl⟩ := hB20.form
  subst hvf
  have hgat : (lo ≤ g ∧ g < w.heap.size) ∨ g = ((w1).alloc (.cells ((Value.string ⟨#[]⟩ :: Value.slice none 0 0 :: zC.toList)).toArray 35)).heap.size := hat.imp (fun h => hrow g h.symm) (fun h => by injection h)
  have hgsz := hgr.size
  clear hx1 hx2 hx3 hown hgr hat
  have hc0 : (0 : Int) ≤ (acc.length : Int) := by omega
  have hc1 : (acc.length : Int) < (acc.length : Int) + 1 := by omega
  try simp only [Act.put]
  have hV23 := hS17.1
  have hQ24 := hS17.2
  refine TillLast.ready (rs := [6, 8]) (by kernel_rfl) (by simp) ?_
  refine NextAll.cons (o := _) rfl (fun K hK => ?_) (NextAll.cons (o := _) rfl (fun K hK => ?_) NextAll.nil)
  ·skip
   go_simp
   refine hK.out _ _ (fun _ => And.intro hV23 hQ24) ?_
   clear hK K
   try simp only [Act.put, List.setIfInBounds_toArray, List.set_cons_zero, List.set_cons_succ]
   refine TillLast.ready (rs := [7, 8]) (by kernel_rfl) (by simp) ?_
   refine NextAll.cons (o := _) rfl (fun K hK => ?_) (NextAll.cons (o := _) rfl (fun K hK => ?_) NextAll.nil)
   ·skip
    rw [if_pos (by rfl)]
    have hlen := (armOK).len ti22
    have hthr := hB20.there rfl
    refine wp_store_mid 35 _ _ rfl g (acc.length * 23) l.toArray (by simp [Act.eval]) rfl (by show World.there _ g _ l.length; rw [hlen]; exact hthr) (by rw [sz65]; simp [hlen]) (all_oneCell_toArray ((armOK).one ti22)) ?_
    rw [List.toList_toArray]
    have hV25 := hV23.farCells (g' := g) (acc.length * 23) l (by omega)
    have hQ26 := hQ24.farCells (g' := g) (acc.length * 23) l (by omega)
    refine hK.out _ _ (fun _ => And.intro hV25 hQ26) ?_
    clear hK K
    have hF27 := Acc1.fill armOK hB20 rfl ((armOK).mono (Q := fun k => lo ≤ k ∧ k ≠ g) ti22 (fun k hk _ => by have h1 := hk.1; have h2 := hk.2; try simp only [World.size_alloc] at h1 h2 hgat hgl; rcases hgat with hgat | hgat <;> omega))
    have hpa28 := hpa21.setCells (g := g) (by omega) (acc.length * 23) l
    have hk29 := hk18.setCells (g := g) (by omega) (acc.length * 23) l
    try simp only [Act.put, List.setIfInBounds_toArray]
    refine TillLast.ready (rs := [8]) (by kernel_rfl) (by simp) ?_
    refine NextAll.cons (o := _) rfl (fun K hK => ?_) NextAll.nil
    have hcv := hV25.cell 0
    have hfv := hV25.free 0
    go_simp
    refine hK.out _ _ (fun h => absurd (h.symm.trans (by kernel_rfl : _ = true)) (by decide)) ?_
    clear hK K hcv hfv
    have hV30 := hV25.set 0 (.slice (some ⟨g, 0, none⟩) (acc.length + 1) c')
    have hQ31 := hQ26.far (p := ⟨vb, 0, none⟩) (fun e => hvq e.symm) (.slice (some ⟨g, 0, none⟩) (acc.length + 1) c')
    have hpa32 := hpa28.far (p := ⟨vb, 0, none⟩) hpv (.slice (some ⟨g, 0, none⟩) (acc.length + 1) c')
    have hk33 := hk29.setCell (p := ⟨vb, 0, none⟩) (.inr hwv) (.slice (some ⟨g, 0, none⟩) (acc.length + 1) c')
    have hF34 := hF27.keep armOK (w' := ((w16).setCells g (acc.length * 23) l).setCell ⟨vb, 0, none⟩ (.slice (some ⟨g, 0, none⟩) (acc.length + 1) c')) (fun k hk _ => Below.heap_setCell _ _ _ _ (by show k ≠ vb; omega))
    try simp only [Act.put, List.setIfInBounds_toArray, List.set_cons_zero, List.set_cons_succ]
    refine TillLast.done (by kernel_rfl) ?_ _
    go_wp2_with fail
    go_end0
    exact ⟨rfl, hpa32, ⟨_, hV30, hF34⟩, hQ31, hk33⟩
   ·skip
    have hcv := hV23.cell 0
    have hfv := hV23.free 0
    go_simp
    refine hK.out _ _ (fun h => absurd (h.symm.trans (by kernel_rfl : _ = true)) (by decide)) ?_
    clear hK K hcv hfv
    have hV35 := hV23.set 0 (.slice (some ⟨g, 0, none⟩) (acc.length + 1) c')
    have hQ36 := hQ24.far (p := ⟨vb, 0, none⟩) (fun e => hvq e.symm) (.slice (some ⟨g, 0, none⟩) (acc.length + 1) c')
    have hpa37 := hpa21.far (p := ⟨vb, 0, none⟩) hpv (.slice (some ⟨g, 0, none⟩) (acc.length + 1) c')
    have hk38 := hk18.setCell (p := ⟨vb, 0, none⟩) (.inr hwv) (.slice (some ⟨g, 0, none⟩) (acc.length + 1) c')
    have hB39 := hB20.keep armOK (w' := (w16).setCell ⟨vb, 0, none⟩ (.slice (some ⟨g, 0, none⟩) (acc.length + 1) c')) (fun k hk _ => Below.heap_setCell _ _ _ _ (by show k ≠ vb; omega))
    have ti40 := (armOK).same (w' := (w16).setCell ⟨vb, 0, none⟩ (.slice (some ⟨g, 0, none⟩) (acc.length + 1) c')) ti22 (fun k hk _ => Below.heap_setCell _ _ _ _ (by have := hk.1; show k ≠ vb; omega))
    try simp only [Act.put, List.setIfInBounds_toArray, List.set_cons_zero, List.set_cons_succ]
    refine TillLast.ready (rs := [7]) (by kernel_rfl) (by simp) ?_
    refine NextAll.cons (o := _) rfl (fun K hK => ?_) NextAll.nil
    rw [if_pos (by rfl)]
    have hlen := (armOK).len ti40
    have hthr := hB39.there rfl
    refine wp_store_mid 35 _ _ rfl g (acc.length * 23) l.toArray (by simp [Act.eval]) rfl (by show World.there _ g _ l.length; rw [hlen]; exact hthr) (by rw [sz65]; simp [hlen]) (all_oneCell_toArray ((armOK).one ti40)) ?_
    rw [List.toList_toArray]
    have hV41 := hV35.farCells (g' := g) (acc.length * 23) l (by omega)
    have hQ42 := hQ36.farCells (g' := g) (acc.length * 23) l (by omega)
    refine hK.out _ _ (fun h => absurd (h.symm.trans (by kernel_rfl : _ = true)) (by decide)) ?_
    clear hK K
    have hF43 := Acc1.fill armOK hB39 rfl ((armOK).mono (Q := fun k => lo ≤ k ∧ k ≠ g) ti40 (fun k hk _ => by have h1 := hk.1; have h2 := hk.2; try simp only [World.size_alloc] at h1 h2 hgat hgl; rcases hgat with hgat | hgat <;> omega))
    have hpa44 := hpa37.setCells (g := g) (by omega) (acc.length * 23) l
    have hk45 := hk38.setCells (g := g) (by omega) (acc.length * 23) l
    try simp only [Act.put, List.setIfInBounds_toArray]
    refine TillLast.done (by kernel_rfl) ?_ _
    go_wp2_with fail
    go_end0
    exact ⟨rfl, hpa44, ⟨_, hV41, hF43⟩, hQ42, hk45⟩
  ·skip
   have hcv := hV23.cell 0
   have hfv := hV23.free 0
   go_simp
   refine hK.out _ _ (fun h => absurd (h.symm.trans (by kernel_rfl : _ = true)) (by decide)) ?_
   clear hK K hcv hfv
   have hV46 := hV23.set 0 (.slice (some ⟨g, 0, none⟩) (acc.length + 1) c')
   have hQ47 := hQ24.far (p := ⟨vb, 0, none⟩) (fun e => hvq e.symm) (.slice (some ⟨g, 0, none⟩) (acc.length + 1) c')
   have hpa48 := hpa21.far (p := ⟨vb, 0, none⟩) hpv (.slice (some ⟨g, 0, none⟩) (acc.length + 1) c')
   have hk49 := hk18.setCell (p := ⟨vb, 0, none⟩) (.inr hwv) (.slice (some ⟨g, 0, none⟩) (acc.length + 1) c')
   have hB50 := hB20.keep armOK (w' := (w16).setCell ⟨vb, 0, none⟩ (.slice (some ⟨g, 0, none⟩) (acc.length + 1) c')) (fun k hk _ => Below.heap_setCell _ _ _ _ (by show k ≠ vb; omega))
   have ti51 := (armOK).same (w' := (w16).setCell ⟨vb, 0, none⟩ (.slice (some ⟨g, 0, none⟩) (acc.length + 1) c')) ti22 (fun k hk _ => Below.heap_setCell _ _ _ _ (by have := hk.1; show k ≠ vb; omega))
   try simp only [Act.put, List.setIfInBounds_toArray, List.set_cons_zero, List.set_cons_succ]
   refine TillLast.ready (rs := [6]) (by kernel_rfl) (by simp) ?_
   refine NextAll.cons (o := _) rfl (fun K hK => ?_) NextAll.nil
   go_simp
   refine hK.out _ _ (fun h => absurd (h.symm.trans (by kernel_rfl : _ = true)) (by decide)) ?_
   clear hK K
   try simp only [Act.put, List.setIfInBounds_toArray, List.set_cons_zero, List.set_cons_succ]
   refine TillLast.ready (rs := [7]) (by kernel_rfl) (by simp) ?_
   refine NextAll.cons (o := _) rfl (fun K hK => ?_) NextAll.nil
   rw [if_pos (by rfl)]
   have hlen := (armOK).len ti51
   have hthr := hB50.there rfl
   refine wp_store_mid 35 _ _ rfl g (acc.length * 23) l.toArray (by simp [Act.eval]) rfl (by show World.there _ g _ l.length; rw [hlen]; exact hthr) (by rw [sz65]; simp [hlen]) (all_oneCell_toArray ((armOK).one ti51)) ?_
   rw [List.toList_toArray]
   have hV52 := hV46.farCells (g' := g) (acc.length * 23) l (by omega)
   have hQ53 := hQ47.farCells (g' := g) (acc.length * 23) l (by omega)
   refine hK.out _ _ (fun h => absurd (h.symm.trans (by kernel_rfl : _ = true)) (by decide)) ?_
   clear hK K
   have hF54 := Acc1.fill armOK hB50 rfl ((armOK).mono (Q := fun k => lo ≤ k ∧ k ≠ g) ti51 (fun k hk _ => by have h1 := hk.1; have h2 := hk.2; try simp only [World.size_alloc] at h1 h2 hgat hgl; rcases hgat with hgat | hgat <;> omega))
   have hpa55 := hpa48.setCells (g := g) (by omega) (acc.length * 23) l
   have hk56 := hk49.setCells (g := g) (by omega) (acc.length * 23) l
   try simp only [Act.put, List.setIfInBounds_toArray]
   refine TillLast.done (by kernel_rfl) ?_ _
   go_wp2_with fail
   go_end0
   exact ⟨rfl, hpa55, ⟨_, hV52, hF54⟩, hQ53, hk56⟩
 ·skip
  rw [if_pos (by rfl)]
  refine wp_buildSlice 25 35 1 _ rfl ((Value.string ⟨#[]⟩ :: Value.slice none 0 0 :: zC.toList)).toArray i0 (.agg zA) Tryz.underlying25 hi hz0 (by rw [hz1]; decide) (by rw [hz1]; decide) (by rw [hz1, Array.toList_map]; exact fill_row (sz := 23) (by decide) ((Value.string ⟨#[]⟩ :: Value.slice none 0 0 :: zC.toList)) rfl ((Array.range (1 * 23)).map ((Value.agg zA).cells[· % (Value.agg zA).cells.size]!)) (by simp)) ?_
  have hb60 := below_new (w.drew) (.cells ((Value.string ⟨#[]⟩ :: Value.slice none 0 0 :: zC.toList)).toArray 35)
  have hS57 := And.intro (hS.1.alloc (.cells ((Value.string ⟨#[]⟩ :: Value.slice none 0 0 :: zC.toList)).toArray 35)) (hS.2.alloc (.cells ((Value.string ⟨#[]⟩ :: Value.slice none 0 0 :: zC.toList)).toArray 35))
  refine hK.out _ _ (fun _ => hS57) ?_
  clear hK K
  have hk58 := hkp.below hb60 hkp.size
  have hlo59 := Nat.le_trans hlo hb60.size
  have hN61 := Lies.new (w.drew) 35 ((Value.string ⟨#[]⟩ :: Value.slice none 0 0 :: zC.toList)).toArray
  have hpa62 := hp.below hb60
  have hA63 := hA.later armOK hb60
  have hszb := hb60.size
  try simp only [Act.put]
  refine TillLast.ready (rs := [2]) (by kernel_rfl) (by simp) ?_
  refine NextAll.cons (o := _) rfl (fun K hK => ?_) NextAll.nil
  go_simp
  refine (HIT.out _ hpa62).mono ?_
  rintro e w64 ⟨l, rfl, ht, hg69⟩
  try dsimp only
  have hS65 : Lies w64 vb 25 #[.slice A acc.length c] ∧ Lies w64 qb 133 #[.pointer (some ⟨pb, 0, none⟩)] := ⟨hg69.kp.lies hS57.1 (by omega), hg69.kp.lies hS57.2 (by omega)⟩
  refine hK.out _ _ (fun _ => hS65) ?_
  clear hK K
  have hk66 := hk58.trans hg69.kp
  have hlo67 : lo ≤ w64.heap.size := Nat.le_trans hlo59 hg69.kp.size
  have hszc := hg69.kp.size
  have ti68 := (armOK).mono (Q := fun k => ((w.drew).alloc (.cells ((Value.string ⟨#[]⟩ :: Value.slice none 0 0 :: zC.toList)).toArray 35)).heap.size ≤ k ∧ k < w64.heap.size) ht (fun k h1 h2 => ⟨h1, h2⟩)
  clear ht
  have hA70 := hA63.kp armOK hg69.kp (by omega)
  have hN71 := hg69.kp.lies hN61 (by omega)
  try simp only [Act.put, List.setIfInBounds_toArray, List.set_cons_zero, List.set_cons_succ]
  refine TillLast.ready (rs := [5]) (by kernel_rfl) (by simp) ?_
  refine NextAll.cons (o := _) rfl (fun K hK => ?_) NextAll.nil
  rw [if_pos (by rfl)]
  obtain ⟨xs, hx1, hx2, hx3⟩ := hA70
  refine wp_append_at (.tmp 2) (.tmp 6) 25 rfl lo 35 i0 (.agg zA) 23 352 Tryz.underlying25 hi hz0 hz1 hz2 rfl (by decide) (.slice A acc.length c) acc.length xs.flatten rfl hx2 ⟨(w.drew).heap.size, 0, none⟩ 1 1 ((Value.string ⟨#[]⟩ :: Value.slice none 0 0 :: zC.toList)) rfl rfl (lies_news hN71) zA_ones (by unfold maxLen; omega) (by omega) hlo67 rfl ?_
  intro v' w72 hown hgr hat
  have hrow : ∀ k, (Value.slice A acc.length c).ownBlock = some k → lo ≤ k ∧ k < w.heap.size := hvb
  have hS73 : Lies w72 vb 25 #[.slice A acc.length c] ∧ Lies w72 qb 133 #[.pointer (some ⟨pb, 0, none⟩)] := ⟨hS65.1.grown hgr (fun e => by have := (hrow vb e.symm).1; omega), hS65.2.grown hgr (fun e => by have := (hrow qb e.symm).1; omega)⟩
  refine hK.out _ _ (fun _ => hS73) ?_
  clear hK K
  have hB76 := Acc.place armOK hx1 hx3 hown hgr hat
  have hk74 := hk66.grown hgr (fun k hk => by have := (hrow k hk).1; omega)
  have hlo75 := Nat.le_trans hlo67 hgr.size
  have hpa77 := hg69.pa.grown hgr (fun k hk => by have := (hrow k hk).1; omega)
  have ti78 := (armOK).same ti68 (fun g hg hlt => hgr.block g hlt (fun e => by have := (hrow g e.symm).2; have := hg.1; omega))
  obtain ⟨g, c', hvf, hcc, hlg, hgl⟩ := hB76.form
  subst hvf
  have hgat : (lo ≤ g ∧ g < w.heap.size) ∨ g = (w64).heap.size := hat.imp (fun h => hrow g h.symm) (fun h => by injection h)
  have hgsz := hgr.size
  clear hx1 hx2 hx3 hown hgr hat
  have hc0 : (0 : Int) ≤ (acc.length : Int) := by omega
  have hc1 : (acc.length : Int) < (acc.length : Int) + 1 := by omega
  try simp only [Act.put, List.setIfInBounds_toArray]
  have hV79 := hS73.1
  have hQ80 := hS73.2
  refine TillLast.ready (rs := [6, 8]) (by kernel_rfl) (by simp) ?_
  refine NextAll.cons (o := _) rfl (fun K hK => ?_) (NextAll.cons (o := _) rfl (fun K hK => ?_) NextAll.nil)
  ·skip
   go_simp
   refine hK.out _ _ (fun _ => And.intro hV79 hQ80) ?_
   clear hK K
   try simp only [Act.put, List.setIfInBounds_toArray, List.set_cons_zero, List.set_cons_succ]
   refine TillLast.ready (rs := [7, 8]) (by kernel_rfl) (by simp) ?_
   refine NextAll.cons (o := _) rfl (fun K hK => ?_) (NextAll.cons (o := _) rfl (fun K hK => ?_) NextAll.nil)
   ·skip
    rw [if_pos (by rfl)]
    have hlen := (armOK).len ti78
    have hthr := hB76.there rfl
    refine wp_store_mid 35 _ _ rfl g (acc.length * 23) l.toArray (by simp [Act.eval]) rfl (by show World.there _ g _ l.length; rw [hlen]; exact hthr) (by rw [sz65]; simp [hlen]) (all_oneCell_toArray ((armOK).one ti78)) ?_
    rw [List.toList_toArray]
    have hV81 := hV79.farCells (g' := g) (acc.length * 23) l (by omega)
    have hQ82 := hQ80.farCells (g' := g) (acc.length * 23) l (by omega)
    refine hK.out _ _ (fun _ => And.intro hV81 hQ82) ?_
    clear hK K
    have hF83 := Acc1.fill armOK hB76 rfl ((armOK).mono (Q := fun k => lo ≤ k ∧ k ≠ g) ti78 (fun k hk _ => by have h1 := hk.1; have h2 := hk.2; try simp only [World.size_alloc] at h1 h2 hgat hgl; rcases hgat with hgat | hgat <;> omega))
    have hpa84 := hpa77.setCells (g := g) (by omega) (acc.length * 23) l
    have hk85 := hk74.setCells (g := g) (by omega) (acc.length * 23) l
    try simp only [Act.put, List.setIfInBounds_toArray]
    refine TillLast.ready (rs := [8]) (by kernel_rfl) (by simp) ?_
    refine NextAll.cons (o := _) rfl (fun K hK => ?_) NextAll.nil
    have hcv := hV81.cell 0
    have hfv := hV81.free 0
    go_simp
    refine hK.out _ _ (fun h => absurd (h.symm.trans (by kernel_rfl : _ = true)) (by decide)) ?_
    clear hK K hcv hfv
    have hV86 := hV81.set 0 (.slice (some ⟨g, 0, none⟩) (acc.length + 1) c')
    have hQ87 := hQ82.far (p := ⟨vb, 0, none⟩) (fun e => hvq e.symm) (.slice (some ⟨g, 0, none⟩) (acc.length + 1) c')
    have hpa88 := hpa84.far (p := ⟨vb, 0, none⟩) hpv (.slice (some ⟨g, 0, none⟩) (acc.length + 1) c')
    have hk89 := hk85.setCell (p := ⟨vb, 0, none⟩) (.inr hwv) (.slice (some ⟨g, 0, none⟩) (acc.length + 1) c')
    have hF90 := hF83.keep armOK (w' := ((w72).setCells g (acc.length * 23) l).setCell ⟨vb, 0, none⟩ (.slice (some ⟨g, 0, none⟩) (acc.length + 1) c')) (fun k hk _ => Below.heap_setCell _ _ _ _ (by show k ≠ vb; omega))
    try simp only [Act.put, List.setIfInBounds_toArray, List.set_cons_zero, List.set_cons_succ]
    refine TillLast.done (by kernel_rfl) ?_ _
    go_wp2_with fail
    go_end0
    exact ⟨rfl, hpa88, ⟨_, hV86, hF90⟩, hQ87, hk89⟩
   ·skip
    have hcv := hV79.cell 0
    have hfv := hV79.free 0
    go_simp
    refine hK.out _ _ (fun h => absurd (h.symm.trans (by kernel_rfl : _ = true)) (by decide)) ?_
    clear hK K hcv hfv
    have hV91 := hV79.set 0 (.slice (some ⟨g, 0, none⟩) (acc.length + 1) c')
    have hQ92 := hQ80.far (p := ⟨vb, 0, none⟩) (fun e => hvq e.symm) (.slice (some ⟨g, 0, none⟩) (acc.length + 1) c')
    have hpa93 := hpa77.far (p := ⟨vb, 0, none⟩) hpv (.slice (some ⟨g, 0, none⟩) (acc.length + 1) c')
    have hk94 := hk74.setCell (p := ⟨vb, 0, none⟩) (.inr hwv) (.slice (some ⟨g, 0, none⟩) (acc.length + 1) c')
    have hB95 := hB76.keep armOK (w' := (w72).setCell ⟨vb, 0, none⟩ (.slice (some ⟨g, 0, none⟩) (acc.length + 1) c')) (fun k hk _ => Below.heap_setCell _ _ _ _ (by show k ≠ vb; omega))
    have ti96 := (armOK).same (w' := (w72).setCell ⟨vb, 0, none⟩ (.slice (some ⟨g, 0, none⟩) (acc.length + 1) c')) ti78 (fun k hk _ => Below.heap_setCell _ _ _ _ (by have := hk.1; show k ≠ vb; omega))
    try simp only [Act.put, List.setIfInBounds_toArray, List.set_cons_zero, List.set_cons_succ]
    refine TillLast.ready (rs := [7]) (by kernel_rfl) (by simp) ?_
    refine NextAll.cons (o := _) rfl (fun K hK => ?_) NextAll.nil
    rw [if_pos (by rfl)]
    have hlen := (armOK).len ti96
    have hthr := hB95.there rfl
    refine wp_store_mid 35 _ _ rfl g (acc.length * 23) l.toArray (by simp [Act.eval]) rfl (by show World.there _ g _ l.length; rw [hlen]; exact hthr) (by rw [sz65]; simp [hlen]) (all_oneCell_toArray ((armOK).one ti96)) ?_
    rw [List.toList_toArray]
    have hV97 := hV91.farCells (g' := g) (acc.length * 23) l (by omega)
    have hQ98 := hQ92.farCells (g' := g) (acc.length * 23) l (by omega)
    refine hK.out _ _ (fun h => absurd (h.symm.trans (by kernel_rfl : _ = true)) (by decide)) ?_
    clear hK K
    have hF99 := Acc1.fill armOK hB95 rfl ((armOK).mono (Q := fun k => lo ≤ k ∧ k ≠ g) ti96 (fun k hk _ => by have h1 := hk.1; have h2 := hk.2; try simp only [World.size_alloc] at h1 h2 hgat hgl; rcases hgat with hgat | hgat <;> omega))
    have hpa100 := hpa93.setCells (g := g) (by omega) (acc.length * 23) l
    have hk101 := hk94.setCells (g := g) (by omega) (acc.length * 23) l
    try simp only [Act.put, List.setIfInBounds_toArray]
    refine TillLast.done (by kernel_rfl) ?_ _
    go_wp2_with fail
    go_end0
    exact ⟨rfl, hpa100, ⟨_, hV97, hF99⟩, hQ98, hk101⟩
  ·skip
   have hcv := hV79.cell 0
   have hfv := hV79.free 0
   go_simp
   refine hK.out _ _ (fun h => absurd (h.symm.trans (by kernel_rfl : _ = true)) (by decide)) ?_
   clear hK K hcv hfv
   have hV102 := hV79.set 0 (.slice (some ⟨g, 0, none⟩) (acc.length + 1) c')
   have hQ103 := hQ80.far (p := ⟨vb, 0, none⟩) (fun e => hvq e.symm) (.slice (some ⟨g, 0, none⟩) (acc.length + 1) c')
   have hpa104 := hpa77.far (p := ⟨vb, 0, none⟩) hpv (.slice (some ⟨g, 0, none⟩) (acc.length + 1) c')
   have hk105 := hk74.setCell (p := ⟨vb, 0, none⟩) (.inr hwv) (.slice (some ⟨g, 0, none⟩) (acc.length + 1) c')
   have hB106 := hB76.keep armOK (w' := (w72).setCell ⟨vb, 0, none⟩ (.slice (some ⟨g, 0, none⟩) (acc.length + 1) c')) (fun k hk _ => Below.heap_setCell _ _ _ _ (by show k ≠ vb; omega))
   have ti107 := (armOK).same (w' := (w72).setCell ⟨vb, 0, none⟩ (.slice (some ⟨g, 0, none⟩) (acc.length + 1) c')) ti78 (fun k hk _ => Below.heap_setCell _ _ _ _ (by have := hk.1; show k ≠ vb; omega))
   try simp only [Act.put, List.setIfInBounds_toArray, List.set_cons_zero, List.set_cons_succ]
   refine TillLast.ready (rs := [6]) (by kernel_rfl) (by simp) ?_
   refine NextAll.cons (o := _) rfl (fun K hK => ?_) NextAll.nil
   go_simp
   refine hK.out _ _ (fun h => absurd (h.symm.trans (by kernel_rfl : _ = true)) (by decide)) ?_
   clear hK K
   try simp only [Act.put, List.setIfInBounds_toArray, List.set_cons_zero, List.set_cons_succ]
   refine TillLast.ready (rs := [7]) (by kernel_rfl) (by simp) ?_
   refine NextAll.cons (o := _) rfl (fun K hK => ?_) NextAll.nil
   rw [if_pos (by rfl)]
   have hlen := (armOK).len ti107
   have hthr := hB106.there rfl
   refine wp_store_mid 35 _ _ rfl g (acc.length * 23) l.toArray (by simp [Act.eval]) rfl (by show World.there _ g _ l.length; rw [hlen]; exact hthr) (by rw [sz65]; simp [hlen]) (all_oneCell_toArray ((armOK).one ti107)) ?_
   rw [List.toList_toArray]
   have hV108 := hV102.farCells (g' := g) (acc.length * 23) l (by omega)
   have hQ109 := hQ103.farCells (g' := g) (acc.length * 23) l (by omega)
   refine hK.out _ _ (fun h => absurd (h.symm.trans (by kernel_rfl : _ = true)) (by decide)) ?_
   clear hK K
   have hF110 := Acc1.fill armOK hB106 rfl ((armOK).mono (Q := fun k => lo ≤ k ∧ k ≠ g) ti107 (fun k hk _ => by have h1 := hk.1; have h2 := hk.2; try simp only [World.size_alloc] at h1 h2 hgat hgl; rcases hgat with hgat | hgat <;> omega))
   have hpa111 := hpa104.setCells (g := g) (by omega) (acc.length * 23) l
   have hk112 := hk105.setCells (g := g) (by omega) (acc.length * 23) l
   try simp only [Act.put, List.setIfInBounds_toArray]
   refine TillLast.done (by kernel_rfl) ?_ _
   go_wp2_with fail
   go_end0
   exact ⟨rfl, hpa111, ⟨_, hV108, hF110⟩, hQ109, hk112⟩

theorem enter_ways1 (args : Array Value) (w : World) : (callFunc 114 args).run Tryz.prog w = .ok (.enter 114 args) w := by go_simp
theorem waysCtx {ex : St → Tm × St} {pb sz n vb qb lo : Nat} {w0 : World} (hxn : Nice ex) (hx : ExOK ex pb sz n) (hnb : n ≤ 2000000) (hc : Caps pb vb qb lo w0) :
  ListCtx 114 #[.pointer (some ⟨vb, 0, none⟩), .pointer (some ⟨qb, 0, none⟩)] (way sz ex) pb sz n (JL ArmIt 35 23 25 pb vb qb lo w0) where
 ent := enter_ways1
 kp := fun w w' acc h hk => ⟨h.1.keep armOK hc hk, Nat.le_trans h.2 hk.size⟩
 nice := nice_way hxn
 item := fun w s acc hp hJ hl => by
  have hlen : s.ws.length < n := by omega
  refine (waysC_any (item := way sz ex) pb sz vb qb lo n w0 w s acc hp hJ.1 hc hJ.2 hnb (by omega) (fun W hW => (way_any ex pb sz n hx hnb W s hW hlen).mono fun _ _ h => h)).mono ?_
  rintro e w' ⟨h1, h2, h3⟩
  refine ⟨h1, h2, h3, ?_⟩
  obtain ⟨v, _, hA⟩ := h3.ex
  obtain ⟨xs, hx1, hx2, _⟩ := hA
  rcases hx2.2 with ⟨_, h⟩ | ⟨g, _, _, _, hg, hh, _⟩
  ·simp at h
  ·have := lt_of_block hh; omega

set_option maxRecDepth 100000 in
set_option maxHeartbeats 4000000 in
theorem ways_any (ex : St → Tm × St) (pb sz n : Nat) (hxn : Nice ex) (hx : ExOK ex pb sz n) (hnb : n ≤ 2000000) : WaysOK ex pb sz n := by
 intro w s hp hn
 have hplt := hp.lt
 have hlq := (Lies.new w 133 #[.pointer (some ⟨pb, 0, none⟩)]).alloc (.cells #[.slice none 0 0] 25)
 have hlv := Lies.new' (w.alloc (.cells #[.pointer (some ⟨pb, 0, none⟩)] 133)) 25 #[.slice none 0 0] (N := w.heap.size + 1) (by simp)
 have hk := ((Kp.refl pb w).alloc (.cells #[.pointer (some ⟨pb, 0, none⟩)] 133)).alloc (.cells #[.slice none 0 0] 25)
 have hp1 := (hp.alloc (.cells #[.pointer (some ⟨pb, 0, none⟩)] 133)).alloc (.cells #[.slice none 0 0] 25)
 have hz : ((w.alloc (.cells #[.pointer (some ⟨pb, 0, none⟩)] 133)).alloc (.cells #[.slice none 0 0] 25)).heap.size = w.heap.size + 2 := by simp
 have hle := (le_must1 sz tLb s).1
 have hcaps : Caps pb (w.heap.size + 1) w.heap.size (w.heap.size + 2) w := ⟨by omega, by omega, by omega, by omega, by omega, by omega, by omega⟩
 have hJ : JL ArmIt 35 23 25 pb (w.heap.size + 1) w.heap.size (w.heap.size + 2) w ((w.alloc (.cells #[.pointer (some ⟨pb, 0, none⟩)] 133)).alloc (.cells #[.slice none 0 0] 25)) [] := ⟨⟨⟨_, hlv, Acc.nil _ _⟩, hlq, hk⟩, by omega⟩
 have hl := list_any 114 _ (way sz ex) pb sz n _ (waysCtx hxn hx hnb hcaps) tLb tSemi tRb _ s hp1 hJ (by omega)
 have HL := Lib.hid hl
 have d0 := hlq.cell 0
 clear hl
 go_enter Tryz.func105, Tryz.ntmps105
 go_wp2_with fail
 refine HL.out.mono ?_
 rintro e w2 ⟨rfl, hp2, hJ2⟩
 obtain ⟨⟨⟨v, hlv2, hA2⟩, _, hk2⟩, _⟩ := hJ2
 have d1 := hlv2.cell 0
 go_wp2_with fail
 go_ret
 exact ⟨_, rfl, hA2.low armOK (by omega), hp2, hk2⟩
end Go.Proofs.YtmodmojocclmaaaGreatDoor

/- The contract of what reads the clauses of a handle. -/
namespace Go.Proofs.YtmodmojocclmaaaGreatDoor
open Go.RowKit Pz

theorem Acc.lit {α : Type} {It : World → (Nat → Prop) → α → List Value → Prop} {e : TypeId} {sz : Nat} (ok : ItOK sz It) {w : World} {lo : Nat} {a : α} {l : List Value} (ht : It w (fun k => lo ≤ k) a l) (hlo : lo ≤ w.heap.size) : Acc It e sz (w.alloc (.cells l.toArray e)) lo [a] (.slice (some ⟨w.heap.size, 0, none⟩) 1 1) := by
 have hr := Rw.lit w (fun k => lo ≤ k) e sz [l] (by simpa using ok.len ht) rfl hlo (n := 1) rfl (by unfold maxLen; omega)
 have e1 : [l].flatten = l := by simp
 rw [e1] at hr
 refine ⟨[l], rfl, by have h2 : OwnP _ _ _ _ _ _ _ := hr.2; rw [e1] at h2; rw [e1]; exact h2, fun i b m ha hm => ?_⟩
 match i, ha, hm with
 | 0, ha, hm =>
  simp at ha hm
  subst ha hm
  refine ok.mono (ok.same (ok.mono (Q := fun k => lo ≤ k ∧ k < w.heap.size) ht (fun k h hlt => ⟨h, hlt⟩)) (fun g _ hlt => (below_new w (.cells l.toArray e)).block g hlt)) (fun k hk _ => ⟨hk.1, ?_⟩)
  intro he
  have : k = w.heap.size := by injection he
  have := hk.2
  omega
 | i + 1, ha, _ => simp at ha
theorem own_names {w : World} {P : Nat → Prop} (ts : List Str) (hP : P w.heap.size) (n : Nat) (hn : n = ts.length) (hm : n ≤ 1000) : OwnP (w.alloc (.cells (ts.map fun t => Value.string (ba t)).toArray 9)) P 9 1 (.slice (some ⟨w.heap.size, 0, none⟩) n n) ts.length (ts.map fun t => .string (ba t)) := by
 subst hn
 refine ⟨by simp, .inr ⟨w.heap.size, ts.length, _, rfl, hP, Lies.new w 9 _, Nat.le_refl _, by unfold maxLen; omega, by simp, ?_⟩⟩
 rw [List.toList_toArray]
 exact List.take_of_length_le (by simp)

structure ClRel (ex : St → Tm × St) (pb sz n : Nat) (w : World) (res : List Arm × St) (g : Nat) (v : Value) (wr : World) (zs : List Arm) (s : St) : Prop where
 goes : Goes pb sz w s wr
 acc : Acc ArmIt 35 23 wr w.heap.size zs v
 lg : s.ws.length ≤ g
 ln : zs.length + s.ws.length ≤ n
 res : res = (zs ++ (more (clause sz ex) tSemi g s).1, (more (clause sz ex) tSemi g s).2)
def ClAny (ex : St → Tm × St) (pb sz n : Nat) (w : World) (res : List Arm × St) (g : Nat) (v : Value) (wr : World) : Prop := ∃ zs s, ClRel ex pb sz n w res g v wr zs s

set_option maxRecDepth 100000 in
set_option maxHeartbeats 4000000 in
theorem clauses_any (ex : St → Tm × St) (pb sz n : Nat) (hxn : Nice ex) (hx : ExOK ex pb sz n) (hnb : n ≤ 2000000) : ClausesOK ex pb sz n := by
 intro w s hp hn
 have hplt := hp.lt
 have hb0 := below_new w (.cells #[.string (ba tLb), .string (ba tReturn)] 9)
 have hS0 : Sl (w.alloc (.cells #[.string (ba tLb), .string (ba tReturn)] 9)) (.slice (some ⟨w.heap.size, 0, none⟩) 2 2) [tLb, tReturn] := Sl.new [tLb, tReturn] rfl (by simp) 2 2 rfl rfl
 have hm := must_any _ [tLb, tReturn] _ pb sz s (hp.below hb0) hS0 (Off.new (by omega))
 have hle1 := (le_must sz [tLb, tReturn] s).1
 unfold clauses
 dsimp only
 generalize must sz [tLb, tReturn] s = s1 at hm hle1 ⊢
 have hle2 := (nice_name sz [2] s1).1
 have hsm := fun w1 (h : PA w1 pb sz s1) => small_any w1 pb sz s1 h
 generalize name sz [2] s1 = R1 at hle2 hsm ⊢
 have hle3 := (le_must1 sz tArrow R1.2).1
 have hle4 := (nice_does (sz := sz) hxn tReturn [R1.1] R1.2).1
 have HM := Lib.hid hm
 have HSM := Lib.hid hsm
 obtain ⟨i0, hi, hz0, hz1, hz2⟩ := info_parts info_arm
 clear hm hS0 hsm
 go_enter Tryz.func106, Tryz.ntmps106
 go_wp2_with fail
 refine HM.out.mono ?_
 rintro e w1 ⟨rfl, hg1⟩
 go_wp2_with fail
 refine (HSM.out w1 hg1.pa).mono ?_
 rintro e w2 ⟨rfl, hg2⟩
 have hgo2 : Goes pb sz w R1.2 w2 := (Goes.from hp hb0 hg1).trans hg2
 have hsz2 := hgo2.kp.size
 go_wp2_with fail
 have hb3 := below_new w2 (.cells #[.string (ba R1.1)] 9)
 have hgo3 := hgo2.below hb3
 have hown : OwnP (w2.alloc (.cells #[.string (ba R1.1)] 9)) (fun g => w2.heap.size ≤ g) 9 1 (.slice (some ⟨w2.heap.size, 0, none⟩) 1 1) [R1.1].length ([R1.1].map fun t => .string (ba t)) := own_names [R1.1] (Nat.le_refl _) 1 rfl (by omega)
 refine (does_any ex pb sz n hx tReturn [R1.1] _ (fun g => w2.heap.size ≤ g) (fun g (hg : w2.heap.size ≤ g) => by have := hgo2.pa.lt; omega) _ R1.2 hgo3.pa (by omega) hown).mono ?_
 rintro e w4 ⟨l, rfl, ht, hg4⟩
 have hlen := armOK.len ht
 have HL := Lib.hid hlen
 have hsz3 := hgo3.kp.size
 have hgo4 := hgo3.trans hg4
 have hsz4 := hgo4.kp.size
 have hta := armOK.mono (Q := fun k => w.heap.size ≤ k) ht (fun g hg _ => by
  rcases hg with hg | hg
  ·have : w2.heap.size ≤ g := hg
   omega
  ·show w.heap.size ≤ g
   omega)
 have hacc := Acc.lit (e := 35) armOK hta hsz4
 have hgo5 := hgo4.below (below_new w4 (.cells l.toArray 35))
 clear hlen ht hta hgo2 hgo3 hgo4 hg1 hg2 hg4 hown hb0 hb3 HM HSM
 generalize hr0 : does sz ex tReturn [R1.1] R1.2 = r at hle4 hacc hgo5
 have HR0 := Lib.hid hr0
 clear hr0
 have hst : ClRel ex pb sz n w (r.1 :: (more (clause sz ex) tSemi r.2.ws.length r.2).1, (more (clause sz ex) tSemi r.2.ws.length r.2).2) r.2.ws.length (.slice (some ⟨w4.heap.size, 0, none⟩) 1 1) (w4.alloc (.cells l.toArray 35)) [r.1] r.2 :=
  ⟨hgo5, hacc, Nat.le_refl _, by simp; omega, by simp⟩
 clear hacc hgo5
 go_wp2_with (first | (refine wpList_buildSlice rfl 25 35 1 _ rfl l.toArray i0 (.agg zA) Tryz.underlying25 hi hz0 (by rw [hz1]; decide) (by rw [hz1]; decide) (by rw [hz1, Array.toList_map]; exact fill_row (sz := 23) (by decide) l HL.out ((Array.range (1 * 23)).map ((Value.agg zA).cells[· % (Value.agg zA).cells.size]!)) (by simp)) ?_))
 go_loopg [3] r.2.ws.length (fun g v wr => ClAny ex pb sz n w (r.1 :: (more (clause sz ex) tSemi r.2.ws.length r.2).1, (more (clause sz ex) tSemi r.2.ws.length r.2).2) g v wr)
 case atStart => exact ⟨_, _, hst⟩
 case round =>
  obtain ⟨zs, s', hR⟩ := hrel
  clear hst
  have hgo := hR.goes
  have hacc := hR.acc
  have HR := Lib.hid hR
  clear hR
  have hb1 := below_new wr (.cells #[.string (ba tSemi)] 9)
  have hS1 : Sl (wr.alloc (.cells #[.string (ba tSemi)] 9)) (.slice (some ⟨wr.heap.size, 0, none⟩) 1 1) [tSemi] := Sl.new [tSemi] rfl (by simp) 1 1 rfl rfl
  cases hT : isT [tSemi] s'
  ·have hti := takeIf_no _ [tSemi] _ pb sz s' (hgo.pa.below hb1) hS1 hT
   have HI := Lib.hid hti
   have hres := HR.out.res
   rw [more_no hT, List.append_nil] at hres
   have HRES := Lib.hid hres
   clear hti hS1 hres
   go_wp2_with fail
   refine HI.out.mono ?_
   rintro e w5 ⟨rfl, hb5⟩
   have hgo5 := (hgo.below hb1).below hb5
   have hacc5 := (hacc.later armOK hb1).later armOK hb5
   have hb6 := below_new w5 (.cells #[.string (ba tRb)] 9)
   have hS6 : Sl (w5.alloc (.cells #[.string (ba tRb)] 9)) (.slice (some ⟨w5.heap.size, 0, none⟩) 1 1) [tRb] := Sl.new [tRb] rfl (by simp) 1 1 rfl rfl
   have hm6 := must_any _ [tRb] _ pb sz s' (hgo5.pa.below hb6) hS6 (Off.new hgo5.pa.lt)
   have HM6 := Lib.hid hm6
   clear hm6 hS6
   go_wp2_with fail
   refine HM6.out.mono ?_
   rintro e w7 ⟨rfl, hg7⟩
   have hacc7 := (hacc5.later armOK hb6).kp armOK hg7.kp hplt
   have hgo7 := (hgo5.below hb6).trans hg7
   go_wp2_with fail
   go_ret
   have hr := HRES.out
   simp only [Prod.mk.injEq] at hr
   obtain ⟨hr1, hr2⟩ := hr
   rw [HR0.out, hr1, hr2]
   exact ⟨_, rfl, hacc7, hgo7⟩
  ·have hti := takeIf_yes _ [tSemi] _ pb sz s' (hgo.pa.below hb1) hS1 hT
   have HI := Lib.hid hti
   have HT' := Lib.hid hT
   have htl := take_lt (isT_pos hT)
   have hln := HR.out.ln
   have hlg := HR.out.lg
   have hvB : ∀ k, u3.ownBlock = some k → k < wr.heap.size := fun k hk => by
    obtain ⟨ys, _, hy2, _⟩ := hacc
    exact (own_block hy2 k hk).2
   clear hti hS1
   go_wp2_with fail
   refine HI.out.mono ?_
   rintro e w5 ⟨rfl, hg5⟩
   have hG5 := Goes.from hgo.pa hb1 hg5
   go_wp2_with fail
   refine (small_any _ pb sz _ hg5.pa).mono ?_
   rintro e w6 ⟨rfl, hg6⟩
   go_wp2_with fail
   refine (small_any _ pb sz _ hg6.pa).mono ?_
   rintro e w7 ⟨rfl, hg7⟩
   go_wp2_with fail
   refine (small_any _ pb sz _ hg7.pa).mono ?_
   rintro e w8 ⟨rfl, hg8⟩
   have hG8 := ((hG5.trans hg6).trans hg7).trans hg8
   have hl1 := (nice_name sz [2] (take s')).1
   have hl2 := (nice_name sz [2] (name sz [2] (take s')).2).1
   have hl3 := (nice_name sz [2] (name sz [2] (name sz [2] (take s')).2).2).1
   have hl4 := (le_must1 sz tArrow (name sz [2] (name sz [2] (name sz [2] (take s')).2).2).2).1
   go_wp2_with fail
   have hb9 := below_new w8 (.cells #[.string (ba (name sz [2] (name sz [2] (take s')).2).1), .string (ba (name sz [2] (name sz [2] (name sz [2] (take s')).2).2).1)] 9)
   have hG9 := hG8.below hb9
   have hown9 : OwnP (w8.alloc (.cells #[.string (ba (name sz [2] (name sz [2] (take s')).2).1), .string (ba (name sz [2] (name sz [2] (name sz [2] (take s')).2).2).1)] 9)) (fun g => w8.heap.size ≤ g) 9 1 (.slice (some ⟨w8.heap.size, 0, none⟩) 2 2) [(name sz [2] (name sz [2] (take s')).2).1, (name sz [2] (name sz [2] (name sz [2] (take s')).2).2).1].length ([(name sz [2] (name sz [2] (take s')).2).1, (name sz [2] (name sz [2] (name sz [2] (take s')).2).2).1].map fun t => .string (ba t)) := own_names [_, _] (Nat.le_refl _) 2 rfl (by omega)
   refine (does_any ex pb sz n hx (name sz [2] (take s')).1 [(name sz [2] (name sz [2] (take s')).2).1, (name sz [2] (name sz [2] (name sz [2] (take s')).2).2).1] _ (fun g => w8.heap.size ≤ g) (fun g (hg : w8.heap.size ≤ g) => by have := hG8.pa.lt; omega) _ (name sz [2] (name sz [2] (name sz [2] (take s')).2).2).2 hG9.pa (by omega) hown9).mono ?_
   rintro e w10 ⟨l, rfl, ht, hg10⟩
   have hG10 := hG9.trans hg10
   have hlen2 := armOK.len ht
   have HL2 := Lib.hid hlen2
   have hon := armOK.one ht
   have HON := Lib.hid hon
   have hacc10 := (hacc.kp armOK hG10.kp hplt).later armOK (below_new w10 (.cells l.toArray 35))
   obtain ⟨xs, hx1, hx2, hx3⟩ := hacc10
   have hszr := hgo.kp.size
   have hsz8 := hG8.kp.size
   have hsz9 := hG9.kp.size
   have hsz10 := hG10.kp.size
   have hta := armOK.mono (Q := fun k => wr.heap.size ≤ k) ht (fun g hg _ => by
    rcases hg with hg | hg
    ·have : w8.heap.size ≤ g := hg
     omega
    ·show wr.heap.size ≤ g
     omega)
   have HX1 := Lib.hid hx1
   clear hlen2 hon ht hown9 hb9 hb1 hx1
   go_wp2_with (first | (refine wpList_buildSlice rfl 25 35 1 _ rfl l.toArray i0 (.agg zA) Tryz.underlying25 hi hz0 (by rw [hz1]; decide) (by rw [hz1]; decide) (by rw [hz1, Array.toList_map]; exact fill_row (sz := 23) (by decide) l HL2.out ((Array.range (1 * 23)).map ((Value.agg zA).cells[· % (Value.agg zA).cells.size]!)) (by simp)) ?_) | (at_builtin; go_loud (refine wpList_append_own_at _ rfl (.tmp 19) (.tmp 30) 25 rfl w.heap.size 35 i0 (.agg zA) 23 352 Tryz.underlying25 hi hz0 hz1 hz2 rfl (by decide) _ zs.length xs.flatten rfl hx2 ⟨w10.heap.size, 0, none⟩ 1 1 l rfl (by rw [HL2.out]) (new_cells _ _ _ rfl) HON.out (by unfold maxLen; omega) (by omega) (by simp; omega) ?_); intro v' w11 hown hgr _ hat))
   go_roundg (gk - 1)
   case measure => omega
   case rel =>
    have hrow : ∀ q, u3.ownBlock = some q → w.heap.size ≤ q := fun q hq => (own_block hx2 q hq).1
    have hgo2 := hgo.trans hG10
    refine ⟨zs ++ [(clause sz ex (take s')).1], (clause sz ex (take s')).2, ⟨(hgo2.pa.alloc _).grown hgr (fun q hq => by have := hrow q hq; omega), (hgo2.kp.alloc _).grown hgr hrow⟩, ?_, ?_, ?_, ?_⟩
    ·exact Acc.snoc armOK HX1.out hx3 (armOK.same hta (fun g _ hlt => (below_new w10 (.cells l.toArray 35)).block g hlt)) hszr hvB hown hgr hat
    ·have := (nice_clause (sz := sz) hxn (take s')).1
     omega
    ·have := (nice_clause (sz := sz) hxn (take s')).1
     simp
     omega
    ·have hr := HR.out.res
     obtain ⟨g', rfl⟩ : ∃ g', gk = g' + 1 := ⟨gk - 1, by omega⟩
     rw [more_yes HT'.out] at hr
     rw [hr]
     simp
end Go.Proofs.YtmodmojocclmaaaGreatDoor

/- The induction over exprs, from the contract of unary. -/
namespace Go.Proofs.YtmodmojocclmaaaGreatDoor
open Go.RowKit Pz

theorem enter_exprHere (args : Array Value) (w : World) : (callFunc 80 args).run Tryz.prog w = .ok (.enter 80 args) w := by go_simp
def UnaryOK (pb sz : Nat) : Prop := ∀ (ex : St → Tm × St) (n : Nat), Nice ex → ExOK ex pb sz n → n ≤ 2000000 → SideOK 144 (unary sz ex) pb sz n
theorem step_ok {pb sz n : Nat} (hu : UnaryOK pb sz) {ex : St → Tm × St} (hxn : Nice ex) (hx : ExOK ex pb sz n) (hnb : n ≤ 2000000) : ExOK (exprStep sz ex) pb sz (n + 1) := by
 have ha := assign_ok hxn (cmp_ok hxn (sum_ok hxn (prod_ok hxn (hu ex n hxn hx hnb))))
 exact expr_any ex pb sz n hxn ⟨enter_exprHere, fun w s hp hn => here_any ex pb sz n hxn hx (ways_any ex pb sz n hxn hx hnb) (clauses_any ex pb sz n hxn hx hnb) ha w s hp hn⟩
theorem expr_ok {pb sz : Nat} (hu : UnaryOK pb sz) : ∀ n, n ≤ 2000000 → ExOK (expr sz n) pb sz n
 | 0, _ => fun w s hp hn => absurd hn (Nat.not_lt_zero _)
 | n + 1, h => step_ok hu (nice_expr sz n) (expr_ok hu n (by omega)) (by omega)
end Go.Proofs.YtmodmojocclmaaaGreatDoor
