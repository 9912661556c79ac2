/- The closures that read an operation of an effect, a constructor of a data type, and append it. -/
import Derived.Test.YtmodmojocclmaaaGreatDoorMg32
import Derived.Outline
namespace Go.Proofs.YtmodmojocclmaaaGreatDoor
open Go.RowKit Pz

structure FJ {α : Type} (It : World → (Nat → Prop) → α → List Value → Prop) (e : TypeId) (csz : Nat) (T : TypeId) (nm : Str) (pb vb qb rb lo : Nat) (w0 w : World) (acc : List α) : Prop where
 ex : ∃ v, Lies w vb T #[.string (ba nm), v] ∧ Acc It e csz w lo acc v
 q : Lies w qb 133 #[.pointer (some ⟨pb, 0, none⟩)]
 kp : Kp pb w0 w
 out : Lies w rb T (cnA [] (.slice none 0 0))

theorem info_sig : (Tryz.prog.info? 192).map (fun i => (i.zero, i.size, i.bytes)) = some (some (.agg (sgC [] (0, []) (0, [])).toArray), 13, 192) := by kernel_rfl
set_option maxRecDepth 100000 in
set_option maxHeartbeats 4000000 in
theorem sigC_any {item : St → Sig × St} (pb sz vb qb rb lo n : Nat) (nm : Str) (w0 : World) (w : World) (s : St) (acc : List Sig) (hp : PA w pb sz s) (hJ : FJ SigIt 192 13 137 nm pb vb qb rb lo w0 w acc) (hrb : pb < rb ∧ rb ≠ vb ∧ rb < lo) (hc : Caps pb vb qb lo w0) (hlo : lo ≤ w.heap.size) (hnb : n ≤ 2000000) (hacc : acc.length < n)
  (hit : ∀ W, PA W pb sz s → Calls Tryz.prog 77 #[.pointer (some ⟨pb, 0, none⟩)] W (ItEnd SigIt pb sz W (item s))) :
  Calls Tryz.prog 76 #[.pointer (some ⟨vb, 0, none⟩), .pointer (some ⟨qb, 0, none⟩)] w fun e w' => e = .returned (.tuple #[]) ∧ PA w' pb sz (item s).2 ∧ FJ SigIt 192 13 137 nm pb vb qb rb lo w0 w' (acc ++ [(item s).1]) ∧ lo ≤ w'.heap.size := by
 obtain ⟨⟨v, hlv, hA⟩, hlq, hkp, hro⟩ := hJ
 obtain ⟨hr1, hr2, hr3⟩ := hrb
 obtain ⟨hpv, hpq, hvq, hvl, hql, hwv, hwq⟩ := hc
 obtain ⟨i0, hi, hz0, hz1, hz2⟩ := info_parts info_sig
 have HIT := Lib.hid hit
 clear hit
 go_enter Tryz.func76, Tryz.ntmps76
 go_wp2_with fail
 refine TillLast.start (S := fun w' => Lies w' vb 137 #[.string (ba nm), v] ∧ Lies w' qb 133 #[.pointer (some ⟨pb, 0, none⟩)]) (z := 7) (by kernel_rfl) ?_
 have hS : Lies w.drew vb 137 #[.string (ba nm), v] ∧ Lies w.drew qb 133 #[.pointer (some ⟨pb, 0, none⟩)] := ⟨hlv, hlq⟩
 have hp : PA w.drew pb sz s := hp
 have hA : Acc SigIt 192 13 w.drew lo acc v := hA.keep sigOK (fun _ _ _ => rfl)
 have hkp : Kp pb w0 w.drew := hkp.drew
 have hlo : lo ≤ w.drew.heap.size := hlo
 have hro : Lies w.drew rb 137 (cnA [] (.slice none 0 0)) := hro
 generalize w.drew = wd at hS hp hA hkp hlo hro ⊢
 refine TillLast.take (i := 0) (oi := _) (v := .pointer (some ⟨vb, 1, none⟩)) rfl (by kernel_rfl) (by kernel_rfl) (by kernel_rfl) (by kernel_rfl) (by decide) (by kernel_rfl) (fun _ _ _ h => h) (Or.inl ⟨by rfl, ?_⟩) hS ?_
 ·intro w' hS'
  go_simp
 try simp only [Act.put, List.setIfInBounds_toArray]
 refine TillLast.take (i := 1) (oi := _) (v := v) rfl (by kernel_rfl) (by kernel_rfl) (by kernel_rfl) (by kernel_rfl) (by decide) (by kernel_rfl) (fun _ _ _ h => h) (Or.inl ⟨by rfl, ?_⟩) hS ?_
 ·intro w' hS'
  have c0 : w'.cell? ⟨vb, 1, none⟩ = some v := hS'.1.cell 1
  go_simp
 try simp only [Act.put]
 refine TillLast.take (i := 2) (oi := _) (v := .pointer (some ⟨pb, 0, none⟩)) rfl (by kernel_rfl) (by kernel_rfl) (by kernel_rfl) (by kernel_rfl) (by decide) (by kernel_rfl) (fun _ _ _ h => h) (Or.inl ⟨by rfl, ?_⟩) hS ?_
 ·intro w' hS'
  have c0 : w'.cell? ⟨qb, 0, none⟩ = some (.pointer (some ⟨pb, 0, none⟩)) := hS'.2.cell 0
  go_simp
 try simp only [Act.put]
 refine TillLast.ready (rs := [3]) (by kernel_rfl) (by simp) ?_
 refine NextAll.cons (o := _) rfl (fun K hK => ?_) NextAll.nil
 go_simp
 refine (HIT.out _ hp).mono ?_
 rintro e w3 ⟨l, rfl, ht, hg3⟩
 try dsimp only
 have hS3 : Lies w3 vb 137 #[.string (ba nm), v] ∧ Lies w3 qb 133 #[.pointer (some ⟨pb, 0, none⟩)] := ⟨hg3.kp.lies hS.1 (by omega), hg3.kp.lies hS.2 (by omega)⟩
 refine hK.out _ _ (fun _ => hS3) ?_
 clear hK K
 have hsz3 := hg3.kp.size
 have hlen := sigOK.len ht
 have hones := sigOK.one ht
 try simp only [Act.put, List.setIfInBounds_toArray, List.set_cons_zero, List.set_cons_succ]
 refine TillLast.ready (rs := [4]) (by kernel_rfl) (by simp) ?_
 refine NextAll.cons (o := _) rfl (fun K hK => ?_) NextAll.nil
 rw [if_pos (by rfl)]
 refine wp_buildSlice 135 192 1 _ rfl l.toArray i0 (.agg (sgC [] (0, []) (0, [])).toArray) Tryz.underlying135 hi hz0 (by rw [hz1]; decide) (by rw [hz1]; decide) (by rw [hz1, Array.toList_map]; exact fill_row (sz := 13) (by decide) l hlen ((Array.range (1 * 13)).map ((Value.agg (sgC [] (0, []) (0, [])).toArray).cells[· % (Value.agg (sgC [] (0, []) (0, [])).toArray).cells.size]!)) (by simp)) ?_
 have hb4 := below_new w3 (.cells l.toArray 192)
 have hS4 := And.intro (hS3.1.later hb4) (hS3.2.later hb4)
 refine hK.out _ _ (fun _ => hS4) ?_
 clear hK K
 have hN4 := Lies.new w3 192 l.toArray
 have hA4 := (hA.kp sigOK hg3.kp (by omega)).later sigOK hb4
 obtain ⟨xs, hx1, hx2, hx3⟩ := hA4
 have hrow := fun k hk => own_block hx2 k hk
 have hvB : ∀ k, v.ownBlock = some k → k < wd.heap.size := fun k hk => by
  obtain ⟨ys, _, hy2, _⟩ := hA
  exact (own_block hy2 k hk).2
 have hsz4 := hb4.size
 try simp only [Act.put, List.setIfInBounds_toArray]
 refine TillLast.ready (rs := [5]) (by kernel_rfl) (by simp) ?_
 refine NextAll.cons (o := _) rfl (fun K hK => ?_) NextAll.nil
 rw [if_pos (by rfl)]
 refine wp_append_at (.tmp 3) (.tmp 6) 135 rfl lo 192 i0 (.agg (sgC [] (0, []) (0, [])).toArray) 13 192 Tryz.underlying135 hi hz0 hz1 hz2 rfl (by decide) v acc.length xs.flatten rfl hx2 ⟨w3.heap.size, 0, none⟩ 1 1 l rfl (by rw [hlen]) (lies_news hN4) hones (by unfold maxLen; omega) (by omega) (by omega) rfl ?_
 intro v' w5 hown hgr hat
 have hS5 := And.intro (hS4.1.grown hgr (fun e => by have := (hrow _ e.symm).1; omega)) (hS4.2.grown hgr (fun e => by have := (hrow _ e.symm).1; omega))
 refine hK.out _ _ (fun _ => hS5) ?_
 clear hK K
 have hk5 := ((hkp.trans hg3.kp).below hb4 (hkp.trans hg3.kp).size).grown hgr (fun k hk => by have := (hrow k hk).1; have := hkp.size; omega)
 have hp5 := (hg3.pa.below hb4).grown hgr (fun k hk => by have := (hrow k hk).1; omega)
 have hacc5 := Acc.snoc sigOK (B := wd.heap.size) hx1 hx3 (sigOK.same ht (fun g _ hlt => hb4.block g hlt)) hlo hvB hown hgr hat
 have hsz5 := hgr.size
 have hro5 := ((hg3.kp.lies hro (by omega)).later hb4).grown hgr (fun e => by have := (hrow _ e.symm).1; omega)
 obtain ⟨A5, k5, c5, hvf⟩ := own_slice hown
 subst hvf
 try simp only [Act.put]
 refine TillLast.ready (rs := [6]) (by kernel_rfl) (by simp) ?_
 refine NextAll.cons (o := _) rfl (fun K hK => ?_) NextAll.nil
 go_simp
 refine hK.out _ _ (fun _ => hS5) ?_
 clear hK K
 try simp only [Act.put, List.setIfInBounds_toArray, List.set_cons_zero, List.set_cons_succ]
 refine TillLast.ready (rs := [7]) (by kernel_rfl) (by simp) ?_
 refine NextAll.cons (o := _) rfl (fun K hK => ?_) NextAll.nil
 have hcv : w5.cell? ⟨vb, 1, none⟩ = some v := hS5.1.cell 1
 have hfv := hS5.1.free 1
 go_simp
 refine hK.out _ _ (fun h => absurd (h.symm.trans (by kernel_rfl : _ = true)) (by decide)) ?_
 clear hK K hcv hfv
 have hV : Lies (w5.setCell ⟨vb, 1, none⟩ (.slice A5 k5 c5)) vb 137 #[.string (ba nm), .slice A5 k5 c5] := hS5.1.set 1 (.slice A5 k5 c5)
 have hQ := hS5.2.far (p := ⟨vb, 1, none⟩) (by show qb ≠ vb; omega) (.slice A5 k5 c5)
 have hpX := hp5.far (p := ⟨vb, 1, none⟩) (by show pb < vb; omega) (.slice A5 k5 c5)
 have hkX := hk5.setCell (p := ⟨vb, 1, none⟩) (.inr (by show w0.heap.size ≤ vb; omega)) (.slice A5 k5 c5)
 have hroX := hro5.far (p := ⟨vb, 1, none⟩) (by show rb ≠ vb; omega) (.slice A5 k5 c5)
 have haX := hacc5.keep sigOK (w' := w5.setCell ⟨vb, 1, none⟩ (.slice A5 k5 c5)) (fun g hg _ => Below.heap_setCell _ _ _ _ (by show g ≠ vb; omega))
 have hszX : lo ≤ (w5.setCell ⟨vb, 1, none⟩ (.slice A5 k5 c5)).heap.size := by simp [World.setCell]; omega
 try simp only [Act.put, List.setIfInBounds_toArray, List.set_cons_zero, List.set_cons_succ]
 refine TillLast.done (by kernel_rfl) ?_ _
 go_wp2_with fail
 go_end0
 exact ⟨rfl, hpX, ⟨⟨_, hV, haX⟩, hQ, hkX, hroX⟩, hszX⟩

theorem info_con : (Tryz.prog.info? 195).map (fun i => (i.zero, i.size, i.bytes)) = some (some (.agg (cnA [] (.slice none 0 0))), 2, 40) := by kernel_rfl
set_option maxRecDepth 100000 in
set_option maxHeartbeats 4000000 in
theorem conC_any {item : St → Con × St} (pb sz vb qb rb lo n : Nat) (nm : Str) (w0 : World) (w : World) (s : St) (acc : List Con) (hp : PA w pb sz s) (hJ : FJ ConIt 195 2 142 nm pb vb qb rb lo w0 w acc) (hrb : pb < rb ∧ rb ≠ vb ∧ rb < lo) (hc : Caps pb vb qb lo w0) (hlo : lo ≤ w.heap.size) (hnb : n ≤ 2000000) (hacc : acc.length < n)
  (hit : ∀ W, PA W pb sz s → Calls Tryz.prog 79 #[.pointer (some ⟨pb, 0, none⟩)] W (ItEnd ConIt pb sz W (item s))) :
  Calls Tryz.prog 78 #[.pointer (some ⟨vb, 0, none⟩), .pointer (some ⟨qb, 0, none⟩)] w fun e w' => e = .returned (.tuple #[]) ∧ PA w' pb sz (item s).2 ∧ FJ ConIt 195 2 142 nm pb vb qb rb lo w0 w' (acc ++ [(item s).1]) ∧ lo ≤ w'.heap.size := by
 obtain ⟨⟨v, hlv, hA⟩, hlq, hkp, hro⟩ := hJ
 obtain ⟨hr1, hr2, hr3⟩ := hrb
 obtain ⟨hpv, hpq, hvq, hvl, hql, hwv, hwq⟩ := hc
 obtain ⟨i0, hi, hz0, hz1, hz2⟩ := info_parts info_con
 have HIT := Lib.hid hit
 clear hit
 go_enter Tryz.func78, Tryz.ntmps78
 go_wp2_with fail
 refine TillLast.start (S := fun w' => Lies w' vb 142 #[.string (ba nm), v] ∧ Lies w' qb 133 #[.pointer (some ⟨pb, 0, none⟩)]) (z := 7) (by kernel_rfl) ?_
 have hS : Lies w.drew vb 142 #[.string (ba nm), v] ∧ Lies w.drew qb 133 #[.pointer (some ⟨pb, 0, none⟩)] := ⟨hlv, hlq⟩
 have hp : PA w.drew pb sz s := hp
 have hA : Acc ConIt 195 2 w.drew lo acc v := hA.keep conOK (fun _ _ _ => rfl)
 have hkp : Kp pb w0 w.drew := hkp.drew
 have hlo : lo ≤ w.drew.heap.size := hlo
 have hro : Lies w.drew rb 142 (cnA [] (.slice none 0 0)) := hro
 generalize w.drew = wd at hS hp hA hkp hlo hro ⊢
 refine TillLast.take (i := 0) (oi := _) (v := .pointer (some ⟨vb, 1, none⟩)) rfl (by kernel_rfl) (by kernel_rfl) (by kernel_rfl) (by kernel_rfl) (by decide) (by kernel_rfl) (fun _ _ _ h => h) (Or.inl ⟨by rfl, ?_⟩) hS ?_
 ·intro w' hS'
  go_simp
 try simp only [Act.put, List.setIfInBounds_toArray]
 refine TillLast.take (i := 1) (oi := _) (v := v) rfl (by kernel_rfl) (by kernel_rfl) (by kernel_rfl) (by kernel_rfl) (by decide) (by kernel_rfl) (fun _ _ _ h => h) (Or.inl ⟨by rfl, ?_⟩) hS ?_
 ·intro w' hS'
  have c0 : w'.cell? ⟨vb, 1, none⟩ = some v := hS'.1.cell 1
  go_simp
 try simp only [Act.put]
 refine TillLast.take (i := 2) (oi := _) (v := .pointer (some ⟨pb, 0, none⟩)) rfl (by kernel_rfl) (by kernel_rfl) (by kernel_rfl) (by kernel_rfl) (by decide) (by kernel_rfl) (fun _ _ _ h => h) (Or.inl ⟨by rfl, ?_⟩) hS ?_
 ·intro w' hS'
  have c0 : w'.cell? ⟨qb, 0, none⟩ = some (.pointer (some ⟨pb, 0, none⟩)) := hS'.2.cell 0
  go_simp
 try simp only [Act.put]
 refine TillLast.ready (rs := [3]) (by kernel_rfl) (by simp) ?_
 refine NextAll.cons (o := _) rfl (fun K hK => ?_) NextAll.nil
 go_simp
 refine (HIT.out _ hp).mono ?_
 rintro e w3 ⟨l, rfl, ht, hg3⟩
 try dsimp only
 have hS3 : Lies w3 vb 142 #[.string (ba nm), v] ∧ Lies w3 qb 133 #[.pointer (some ⟨pb, 0, none⟩)] := ⟨hg3.kp.lies hS.1 (by omega), hg3.kp.lies hS.2 (by omega)⟩
 refine hK.out _ _ (fun _ => hS3) ?_
 clear hK K
 have hsz3 := hg3.kp.size
 have hlen := conOK.len ht
 have hones := conOK.one ht
 try simp only [Act.put, List.setIfInBounds_toArray, List.set_cons_zero, List.set_cons_succ]
 refine TillLast.ready (rs := [4]) (by kernel_rfl) (by simp) ?_
 refine NextAll.cons (o := _) rfl (fun K hK => ?_) NextAll.nil
 rw [if_pos (by rfl)]
 refine wp_buildSlice 140 195 1 _ rfl l.toArray i0 (.agg (cnA [] (.slice none 0 0))) Tryz.underlying140 hi hz0 (by rw [hz1]; decide) (by rw [hz1]; decide) (by rw [hz1, Array.toList_map]; exact fill_row (sz := 2) (by decide) l hlen ((Array.range (1 * 2)).map ((Value.agg (cnA [] (.slice none 0 0))).cells[· % (Value.agg (cnA [] (.slice none 0 0))).cells.size]!)) (by simp)) ?_
 have hb4 := below_new w3 (.cells l.toArray 195)
 have hS4 := And.intro (hS3.1.later hb4) (hS3.2.later hb4)
 refine hK.out _ _ (fun _ => hS4) ?_
 clear hK K
 have hN4 := Lies.new w3 195 l.toArray
 have hA4 := (hA.kp conOK hg3.kp (by omega)).later conOK hb4
 obtain ⟨xs, hx1, hx2, hx3⟩ := hA4
 have hrow := fun k hk => own_block hx2 k hk
 have hvB : ∀ k, v.ownBlock = some k → k < wd.heap.size := fun k hk => by
  obtain ⟨ys, _, hy2, _⟩ := hA
  exact (own_block hy2 k hk).2
 have hsz4 := hb4.size
 try simp only [Act.put, List.setIfInBounds_toArray]
 refine TillLast.ready (rs := [5]) (by kernel_rfl) (by simp) ?_
 refine NextAll.cons (o := _) rfl (fun K hK => ?_) NextAll.nil
 rw [if_pos (by rfl)]
 refine wp_append_at (.tmp 3) (.tmp 6) 140 rfl lo 195 i0 (.agg (cnA [] (.slice none 0 0))) 2 40 Tryz.underlying140 hi hz0 hz1 hz2 rfl (by decide) v acc.length xs.flatten rfl hx2 ⟨w3.heap.size, 0, none⟩ 1 1 l rfl (by rw [hlen]) (lies_news hN4) hones (by unfold maxLen; omega) (by omega) (by omega) rfl ?_
 intro v' w5 hown hgr hat
 have hS5 := And.intro (hS4.1.grown hgr (fun e => by have := (hrow _ e.symm).1; omega)) (hS4.2.grown hgr (fun e => by have := (hrow _ e.symm).1; omega))
 refine hK.out _ _ (fun _ => hS5) ?_
 clear hK K
 have hk5 := ((hkp.trans hg3.kp).below hb4 (hkp.trans hg3.kp).size).grown hgr (fun k hk => by have := (hrow k hk).1; have := hkp.size; omega)
 have hp5 := (hg3.pa.below hb4).grown hgr (fun k hk => by have := (hrow k hk).1; omega)
 have hacc5 := Acc.snoc conOK (B := wd.heap.size) hx1 hx3 (conOK.same ht (fun g _ hlt => hb4.block g hlt)) hlo hvB hown hgr hat
 have hsz5 := hgr.size
 have hro5 := ((hg3.kp.lies hro (by omega)).later hb4).grown hgr (fun e => by have := (hrow _ e.symm).1; omega)
 obtain ⟨A5, k5, c5, hvf⟩ := own_slice hown
 subst hvf
 try simp only [Act.put]
 refine TillLast.ready (rs := [6]) (by kernel_rfl) (by simp) ?_
 refine NextAll.cons (o := _) rfl (fun K hK => ?_) NextAll.nil
 go_simp
 refine hK.out _ _ (fun _ => hS5) ?_
 clear hK K
 try simp only [Act.put, List.setIfInBounds_toArray, List.set_cons_zero, List.set_cons_succ]
 refine TillLast.ready (rs := [7]) (by kernel_rfl) (by simp) ?_
 refine NextAll.cons (o := _) rfl (fun K hK => ?_) NextAll.nil
 have hcv : w5.cell? ⟨vb, 1, none⟩ = some v := hS5.1.cell 1
 have hfv := hS5.1.free 1
 go_simp
 refine hK.out _ _ (fun h => absurd (h.symm.trans (by kernel_rfl : _ = true)) (by decide)) ?_
 clear hK K hcv hfv
 have hV : Lies (w5.setCell ⟨vb, 1, none⟩ (.slice A5 k5 c5)) vb 142 #[.string (ba nm), .slice A5 k5 c5] := hS5.1.set 1 (.slice A5 k5 c5)
 have hQ := hS5.2.far (p := ⟨vb, 1, none⟩) (by show qb ≠ vb; omega) (.slice A5 k5 c5)
 have hpX := hp5.far (p := ⟨vb, 1, none⟩) (by show pb < vb; omega) (.slice A5 k5 c5)
 have hkX := hk5.setCell (p := ⟨vb, 1, none⟩) (.inr (by show w0.heap.size ≤ vb; omega)) (.slice A5 k5 c5)
 have hroX := hro5.far (p := ⟨vb, 1, none⟩) (by show rb ≠ vb; omega) (.slice A5 k5 c5)
 have haX := hacc5.keep conOK (w' := w5.setCell ⟨vb, 1, none⟩ (.slice A5 k5 c5)) (fun g hg _ => Below.heap_setCell _ _ _ _ (by show g ≠ vb; omega))
 have hszX : lo ≤ (w5.setCell ⟨vb, 1, none⟩ (.slice A5 k5 c5)).heap.size := by simp [World.setCell]; omega
 try simp only [Act.put, List.setIfInBounds_toArray, List.set_cons_zero, List.set_cons_succ]
 refine TillLast.done (by kernel_rfl) ?_ _
 go_wp2_with fail
 go_end0
 exact ⟨rfl, hpX, ⟨⟨_, hV, haX⟩, hQ, hkX, hroX⟩, hszX⟩
end Go.Proofs.YtmodmojocclmaaaGreatDoor

/- The contracts of what reads a declaration. -/
namespace Go.Proofs.YtmodmojocclmaaaGreatDoor
open Go.RowKit Pz

theorem FJ.keep {α : Type} {It : World → (Nat → Prop) → α → List Value → Prop} {e csz : Nat} (ok : ItOK csz It) {T : TypeId} {nm : Str} {pb vb qb rb lo : Nat} {w0 w w' : World} {acc : List α} (h : FJ It e csz T nm pb vb qb rb lo w0 w acc) (hc : Caps pb vb qb lo w0) (hr : pb < rb) (hk : Kp pb w w') : FJ It e csz T nm pb vb qb rb lo w0 w' acc := by
 obtain ⟨⟨v, h1, h2⟩, h3, h4, h5⟩ := h
 have := hc.pv
 have := hc.pq
 have := hc.vl
 exact ⟨⟨v, hk.lies h1 (by omega), h2.kp ok hk (by omega)⟩, hk.lies h3 (by omega), h4.trans hk, hk.lies h5 (by omega)⟩
def DIt {α : Type} (It : World → (Nat → Prop) → α → List Value → Prop) (e : TypeId) (csz : Nat) (w : World) (P : Nat → Prop) (c : Str × List α) (l : List Value) : Prop :=
 ∃ v xs, l = [.string (ba c.1), v] ∧ List.length xs = c.2.length ∧ OwnP w P e csz v c.2.length (List.flatten xs) ∧ ∀ (i : Nat) a m, c.2[i]? = some a → xs[i]? = some m → It w P a m
theorem dit_ok {α : Type} {It : World → (Nat → Prop) → α → List Value → Prop} {e csz : Nat} (ok : ItOK csz It) : ItOK 2 (DIt It e csz) :=
 ⟨fun ⟨v, xs, h1, h2, h3, h4⟩ hs => ⟨v, xs, h1, h2, h3.same hs, fun i a m ha hm => ok.same (h4 i a m ha hm) hs⟩,
  fun ⟨v, xs, h1, h2, h3, h4⟩ hs => ⟨v, xs, h1, h2, h3.mono hs, fun i a m ha hm => ok.mono (h4 i a m ha hm) hs⟩,
  fun ⟨v, xs, h1, _⟩ => by rw [h1]; rfl, fun ⟨v, xs, h1, h2, h3, h4⟩ => by
   intro u hu
   rw [h1] at hu
   simp only [List.mem_cons, List.not_mem_nil, or_false] at hu
   rcases hu with rfl | rfl
   ·rfl
   ·exact h3.one⟩
theorem dit_of {α : Type} {It : World → (Nat → Prop) → α → List Value → Prop} {e csz : Nat} (ok : ItOK csz It) {w : World} {lo : Nat} {nm : Str} {zs : List α} {v : Value} (h : Acc It e csz w lo zs v) : DIt It e csz w (fun g => lo ≤ g) (nm, zs) [.string (ba nm), v] := by
 obtain ⟨xs, h1, h2, h3⟩ := h
 exact ⟨v, xs, rfl, h1, h2, fun i a m ha hm => ok.mono (h3 i a m ha hm) (fun k hk _ => hk.1)⟩

theorem enter_effect1 (args : Array Value) (w : World) : (callFunc 76 args).run Tryz.prog w = .ok (.enter 76 args) w := by go_simp
theorem sz_effect : (Tryz.prog.info? 137).map (·.size) = some 2 := by kernel_rfl
theorem effectCtx {pb sz n vb qb rb lo : Nat} {nm : Str} {w0 : World} (hnb : n ≤ 2000000) (hc : Caps pb vb qb lo w0) (hrb : pb < rb ∧ rb ≠ vb ∧ rb < lo) :
  ListCtx 76 #[.pointer (some ⟨vb, 0, none⟩), .pointer (some ⟨qb, 0, none⟩)] (sig sz) pb sz n (fun W acc => FJ SigIt 192 13 137 nm pb vb qb rb lo w0 W acc ∧ lo ≤ W.heap.size) where
 ent := enter_effect1
 kp := fun w w' acc h hk => ⟨h.1.keep sigOK hc hrb.1 hk, Nat.le_trans h.2 hk.size⟩
 nice := nice_sig sz
 item := fun w s acc hp hJ hl => by
  refine (sigC_any (item := sig sz) pb sz vb qb rb lo n nm w0 w s acc hp hJ.1 hrb hc hJ.2 hnb (by omega) (fun W hW => sig_any pb sz W s hW)).mono ?_
  rintro e w' ⟨h1, h2, h3, h4⟩
  exact ⟨h1, h2, h3, h4⟩

set_option maxRecDepth 100000 in
set_option maxHeartbeats 1000000 in
theorem effect_any (pb sz n : Nat) (hnb : n ≤ 2000000) (w : World) (s : St) (hp : PA w pb sz s) (hn : s.ws.length < n) :
  Calls Tryz.prog 50 #[.pointer (some ⟨pb, 0, none⟩)] w (ItEnd (DIt SigIt 192 13) pb sz w (effect sz s)) := by
 have hplt := hp.lt
 have q0 := (Lies.new w 133 #[.pointer (some ⟨pb, 0, none⟩)]).alloc (.cells (cnA [] (.slice none 0 0)) 137)
 have l0 := Lies.new' (w.alloc (.cells #[.pointer (some ⟨pb, 0, none⟩)] 133)) 137 (cnA [] (.slice none 0 0)) (N := w.heap.size + 1) (by simp)
 have hk0 := ((Kp.refl pb w).alloc (.cells #[.pointer (some ⟨pb, 0, none⟩)] 133)).alloc (.cells (cnA [] (.slice none 0 0)) 137)
 have hp0 := (hp.alloc (.cells #[.pointer (some ⟨pb, 0, none⟩)] 133)).alloc (.cells (cnA [] (.slice none 0 0)) 137)
 have hz0 : ((w.alloc (.cells #[.pointer (some ⟨pb, 0, none⟩)] 133)).alloc (.cells (cnA [] (.slice none 0 0)) 137)).heap.size = w.heap.size + 2 := by simp
 have hni := (nice_name sz [3] s).1
 have hle := (le_must1 sz tLb (name sz [3] s).2).1
 have hla := large_any _ pb sz s hp0
 have HLA := Lib.hid hla
 have HZ := Lib.hid hz0
 have c0 := q0.cell 0
 unfold cnA at c0
 clear hla hz0
 unfold effect
 dsimp only
 go_enter Tryz.func50, Tryz.ntmps50
 go_wp2_with fail
 refine HLA.out.mono ?_
 rintro e w1 ⟨rfl, hg1⟩
 have l1 := hg1.kp.lies l0 (by omega)
 have q1 := hg1.kp.lies q0 (by omega)
 have hsz1 : w.heap.size + 2 ≤ w1.heap.size := by have := hg1.kp.size; have := HZ.out; omega
 have hk1 : Kp pb w w1 := hk0.trans hg1.kp
 have lz := Lies.new w1 137 (cnA [] (.slice none 0 0))
 have l2 := l1.alloc (.cells (cnA (name sz [3] s).1 (.slice none 0 0)) 137)
 have q2 := q1.alloc (.cells (cnA (name sz [3] s).1 (.slice none 0 0)) 137)
 have b2 := Lies.new w1 137 (cnA (name sz [3] s).1 (.slice none 0 0))
 have hcaps : Caps pb w1.heap.size w.heap.size (w1.heap.size + 1) w := ⟨by omega, by omega, by omega, by omega, by omega, by omega, by omega⟩
 have hJ : FJ SigIt 192 13 137 (name sz [3] s).1 pb w1.heap.size w.heap.size (w.heap.size + 1) (w1.heap.size + 1) w (w1.alloc (.cells (cnA (name sz [3] s).1 (.slice none 0 0)) 137)) [] := ⟨⟨_, b2, Acc.nil _ _⟩, q2, hk1.alloc _, l2⟩
 have hl := list_any 76 _ (sig sz) pb sz n _ (effectCtx (nm := (name sz [3] s).1) hnb hcaps (rb := w.heap.size + 1) ⟨by omega, by omega, by omega⟩) tLb tSemi tRb _ (name sz [3] s).2 (hg1.pa.alloc _) ⟨hJ, by simp⟩ (by omega)
 have HL := Lib.hid hl
 have d0 := q2.cell 0
 clear hl hJ c0
 go_wp2_with (first | (refine wpList_store_rowTo rfl 137 (.tmp 3) (.tmp 6) rfl rfl _ (cnA (name sz [3] s).1 (.slice none 0 0)) rfl rfl 137 _ lz sz_effect rfl (by kernel_rfl) ?_; rw [set_new rfl]))
 refine HL.out.mono ?_
 rintro e w3 ⟨rfl, hp3, ⟨⟨⟨v, hv3, hA3⟩, _, hk3, l3⟩, hs3⟩⟩
 have hk23 : w1.heap.size + 1 ≤ w3.heap.size := hs3
 have hvone : v.oneCell' = true := by obtain ⟨xs, _, h2, _⟩ := hA3; exact (OwnP.of h2).one
 have hon : (cnA (name sz [3] s).1 v).all (·.oneCell') = true := by simp [cnA, Value.oneCell'] at hvone ⊢; exact hvone
 have HON := Lib.hid hon
 clear hon
 go_wp2_with (first | (refine wpList_load_row rfl 137 (.tmp 3) rfl _ rfl 137 _ (0, 0) _ hv3 Tryz.underlying137 rfl sz_effect ?_) | (refine wpList_store_rowTo rfl 137 (.tmp 2) (.tmp 10) rfl rfl _ (cnA (name sz [3] s).1 v) rfl rfl 137 _ l3 sz_effect rfl HON.out ?_))
 refine bodyPost_ret (v := .agg (cnA (name sz [3] s).1 v)) (results_cell_row rfl _ _ (w.heap.size + 1) 137 (cnA (name sz [3] s).1 v) (0, 0) _ rfl (l3.setRow _) Tryz.underlying137 rfl sz_effect) rfl ?_
 refine ⟨[.string (ba (name sz [3] s).1), v], rfl, ?_, hp3.setRow (by omega) _, hk3.setRow (by omega) _⟩
 exact (dit_ok sigOK).mono ((dit_ok sigOK).same (dit_of sigOK hA3) (fun g (hg : w1.heap.size + 1 ≤ g) _ => heap_setRow _ _ _ _ (by omega))) (fun g (hg : w1.heap.size + 1 ≤ g) _ => by show w.heap.size ≤ g; omega)

theorem enter_data1 (args : Array Value) (w : World) : (callFunc 78 args).run Tryz.prog w = .ok (.enter 78 args) w := by go_simp
theorem sz_data : (Tryz.prog.info? 142).map (·.size) = some 2 := by kernel_rfl
theorem dataCtx {pb sz n vb qb rb lo : Nat} {nm : Str} {w0 : World} (hnb : n ≤ 2000000) (hc : Caps pb vb qb lo w0) (hrb : pb < rb ∧ rb ≠ vb ∧ rb < lo) :
  ListCtx 78 #[.pointer (some ⟨vb, 0, none⟩), .pointer (some ⟨qb, 0, none⟩)] (con sz) pb sz n (fun W acc => FJ ConIt 195 2 142 nm pb vb qb rb lo w0 W acc ∧ lo ≤ W.heap.size) where
 ent := enter_data1
 kp := fun w w' acc h hk => ⟨h.1.keep conOK hc hrb.1 hk, Nat.le_trans h.2 hk.size⟩
 nice := nice_con sz
 item := fun w s acc hp hJ hl => by
  refine (conC_any (item := con sz) pb sz vb qb rb lo n nm w0 w s acc hp hJ.1 hrb hc hJ.2 hnb (by omega) (fun W hW => con_any pb sz n hnb W s hW (by omega))).mono ?_
  rintro e w' ⟨h1, h2, h3, h4⟩
  exact ⟨h1, h2, h3, h4⟩

set_option maxRecDepth 100000 in
set_option maxHeartbeats 1000000 in
theorem data_any (pb sz n : Nat) (hnb : n ≤ 2000000) (w : World) (s : St) (hp : PA w pb sz s) (hn : s.ws.length < n) :
  Calls Tryz.prog 52 #[.pointer (some ⟨pb, 0, none⟩)] w (ItEnd (DIt ConIt 195 2) pb sz w (data sz s)) := by
 have hplt := hp.lt
 have q0 := (Lies.new w 133 #[.pointer (some ⟨pb, 0, none⟩)]).alloc (.cells (cnA [] (.slice none 0 0)) 142)
 have l0 := Lies.new' (w.alloc (.cells #[.pointer (some ⟨pb, 0, none⟩)] 133)) 142 (cnA [] (.slice none 0 0)) (N := w.heap.size + 1) (by simp)
 have hk0 := ((Kp.refl pb w).alloc (.cells #[.pointer (some ⟨pb, 0, none⟩)] 133)).alloc (.cells (cnA [] (.slice none 0 0)) 142)
 have hp0 := (hp.alloc (.cells #[.pointer (some ⟨pb, 0, none⟩)] 133)).alloc (.cells (cnA [] (.slice none 0 0)) 142)
 have hz0 : ((w.alloc (.cells #[.pointer (some ⟨pb, 0, none⟩)] 133)).alloc (.cells (cnA [] (.slice none 0 0)) 142)).heap.size = w.heap.size + 2 := by simp
 have hni := (nice_name sz [3] s).1
 have hle := (le_must1 sz tLb (name sz [3] s).2).1
 have hla := large_any _ pb sz s hp0
 have HLA := Lib.hid hla
 have HZ := Lib.hid hz0
 have c0 := q0.cell 0
 unfold cnA at c0
 clear hla hz0
 unfold data
 dsimp only
 go_enter Tryz.func52, Tryz.ntmps52
 go_wp2_with fail
 refine HLA.out.mono ?_
 rintro e w1 ⟨rfl, hg1⟩
 have l1 := hg1.kp.lies l0 (by omega)
 have q1 := hg1.kp.lies q0 (by omega)
 have hsz1 : w.heap.size + 2 ≤ w1.heap.size := by have := hg1.kp.size; have := HZ.out; omega
 have hk1 : Kp pb w w1 := hk0.trans hg1.kp
 have lz := Lies.new w1 142 (cnA [] (.slice none 0 0))
 have l2 := l1.alloc (.cells (cnA (name sz [3] s).1 (.slice none 0 0)) 142)
 have q2 := q1.alloc (.cells (cnA (name sz [3] s).1 (.slice none 0 0)) 142)
 have b2 := Lies.new w1 142 (cnA (name sz [3] s).1 (.slice none 0 0))
 have hcaps : Caps pb w1.heap.size w.heap.size (w1.heap.size + 1) w := ⟨by omega, by omega, by omega, by omega, by omega, by omega, by omega⟩
 have hJ : FJ ConIt 195 2 142 (name sz [3] s).1 pb w1.heap.size w.heap.size (w.heap.size + 1) (w1.heap.size + 1) w (w1.alloc (.cells (cnA (name sz [3] s).1 (.slice none 0 0)) 142)) [] := ⟨⟨_, b2, Acc.nil _ _⟩, q2, hk1.alloc _, l2⟩
 have hl := list_any 78 _ (con sz) pb sz n _ (dataCtx (nm := (name sz [3] s).1) hnb hcaps (rb := w.heap.size + 1) ⟨by omega, by omega, by omega⟩) tLb tSemi tRb _ (name sz [3] s).2 (hg1.pa.alloc _) ⟨hJ, by simp⟩ (by omega)
 have HL := Lib.hid hl
 have d0 := q2.cell 0
 clear hl hJ c0
 go_wp2_with (first | (refine wpList_store_rowTo rfl 142 (.tmp 3) (.tmp 6) rfl rfl _ (cnA (name sz [3] s).1 (.slice none 0 0)) rfl rfl 142 _ lz sz_data rfl (by kernel_rfl) ?_; rw [set_new rfl]))
 refine HL.out.mono ?_
 rintro e w3 ⟨rfl, hp3, ⟨⟨⟨v, hv3, hA3⟩, _, hk3, l3⟩, hs3⟩⟩
 have hk23 : w1.heap.size + 1 ≤ w3.heap.size := hs3
 have hvone : v.oneCell' = true := by obtain ⟨xs, _, h2, _⟩ := hA3; exact (OwnP.of h2).one
 have hon : (cnA (name sz [3] s).1 v).all (·.oneCell') = true := by simp [cnA, Value.oneCell'] at hvone ⊢; exact hvone
 have HON := Lib.hid hon
 clear hon
 go_wp2_with (first | (refine wpList_load_row rfl 142 (.tmp 3) rfl _ rfl 142 _ (0, 0) _ hv3 Tryz.underlying142 rfl sz_data ?_) | (refine wpList_store_rowTo rfl 142 (.tmp 2) (.tmp 10) rfl rfl _ (cnA (name sz [3] s).1 v) rfl rfl 142 _ l3 sz_data rfl HON.out ?_))
 refine bodyPost_ret (v := .agg (cnA (name sz [3] s).1 v)) (results_cell_row rfl _ _ (w.heap.size + 1) 142 (cnA (name sz [3] s).1 v) (0, 0) _ rfl (l3.setRow _) Tryz.underlying142 rfl sz_data) rfl ?_
 refine ⟨[.string (ba (name sz [3] s).1), v], rfl, ?_, hp3.setRow (by omega) _, hk3.setRow (by omega) _⟩
 exact (dit_ok conOK).mono ((dit_ok conOK).same (dit_of conOK hA3) (fun g (hg : w1.heap.size + 1 ≤ g) _ => heap_setRow _ _ _ _ (by omega))) (fun g (hg : w1.heap.size + 1 ≤ g) _ => by show w.heap.size ≤ g; omega)
end Go.Proofs.YtmodmojocclmaaaGreatDoor
