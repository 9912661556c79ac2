/- The machine of package source: what it prints, and its cells, grow. -/
import Derived.Test.YtmodmojocclmaaaGreatDoorMg06
import Derived.Test.YtmodmojocclmaaaGreatDoorSoF
import Derived.Deep.AppendLies
import Derived.Laws.AppendOwn
import Derived.BigRegion
import Derived.OwnWalk
import Derived.Deep.LoopGhost
namespace Go.Proofs.YtmodmojocclmaaaGreatDoor.K
open Go Go.RowKit
namespace So

theorem own_at {w w' : World} {B : Nat} {e : TypeId} {size n : Nat} {v : Value} {xs : List Value} (h : w.ownsRow B e size v n xs) (hs : ∀ g, v.ownBlock = some g → w'.heap[g]? = w.heap[g]?) : w'.ownsRow B e size v n xs := by
 refine ⟨h.1, ?_⟩
 rcases h.2 with h0 | ⟨g, cap, cur, h1, h2, h3, h4⟩
 ·exact .inl h0
 ·exact .inr ⟨g, cap, cur, h1, h2, (hs g (by rw [h1]; rfl)).trans h3, h4⟩
section
variable {w0 : World} {mb : Nat} {H : Mem} {cv lv : Value} {cells : List Val} {trace : List Int} {w : World}
theorem Core.traced (h : Core w0 mb H cv lv cells trace w) {w1 w2 : World} (hb : Below w.heap.size w w1) (hg : w1.grownBy w2 lv.ownBlock) {g m c : Nat} {n : Int}
  (hown : w2.ownsRow (mb + 1) 3 1 (.slice (some ⟨g, 0, none⟩) m c) (trace.length + 1) (trace.map (Value.int .i64 ·) ++ [.int .i64 n])) (hat : lv.ownBlock = some g ∨ g = w1.heap.size) :
  Core w0 mb H cv (.slice (some ⟨g, 0, none⟩) m c) cells (trace ++ [n]) w2 := by
 obtain ⟨hts, htf⟩ := h.ts
 have hle := hb.size
 have hne : ∀ b o, H b = some o → some b ≠ lv.ownBlock := fun b o hx e => by rw [htf b e.symm] at hx; cases hx
 have hbl : ∀ b, b < w.heap.size → some b ≠ lv.ownBlock → w2.heap[b]? = w.heap[b]? := fun b h1 h2 => (hg.block b (by omega) h2).trans (hb.block b h1)
 have hgn : H g = none := by
  rcases hat with e | e
  ·exact htf g e
  ·cases hq : H g with
   | none => rfl
   | some o => have := h.dom _ _ hq; omega
 refine ⟨(hg.os.trans hb.os).trans h.os, (hg.tape.trans hb.tape).trans h.tape, (hg.output.trans hb.output).trans h.output, h.base, fun b o hx => (hbl b (h.dom b o hx) (hne b o hx)).trans (h.sub b o hx), fun b o hx => by have := h.dom b o hx; have := hg.size; omega, h.old, h.free, ?_, ⟨by simpa using hown, fun b hb' => ?_⟩, fun b hb' e => ?_⟩
 ·obtain ⟨⟨ls, h1, h2, h3⟩, h4⟩ := h.cs
  exact ⟨⟨ls, h1, own_at h2 (fun b hb' => hbl b (own_lt h2 hb').2 (fun e => h.ne b hb' e.symm)), h3⟩, h4⟩
 ·obtain rfl : g = b := by simpa [Value.ownBlock] using hb'
  exact hgn
 ·obtain rfl : g = b := by simpa [Value.ownBlock] using e
  rcases hat with e2 | e2
  ·exact h.ne _ hb' e2
  ·obtain ⟨⟨ls, h1, h2, h3⟩, h4⟩ := h.cs
   have := (own_lt h2 hb').2
   omega
theorem Core.celled (h : Core w0 mb H cv lv cells trace w) {w1 w2 : World} (hb : Below w.heap.size w w1) (hg : w1.grownBy w2 cv.ownBlock) {g m c : Nat} {v : Val} {l : List Value} (hv : VV H cells.length v l) {xs : List Value}
  (hxs : ∀ ls : List (List Value), w.ownsRow (mb + 1) 68 4 cv cells.length ls.flatten → xs = ls.flatten)
  (hown : w2.ownsRow (mb + 1) 68 4 (.slice (some ⟨g, 0, none⟩) m c) (cells.length + 1) (xs ++ l)) (hat : cv.ownBlock = some g ∨ g = w1.heap.size) :
  Core w0 mb H (.slice (some ⟨g, 0, none⟩) m c) lv (cells ++ [v]) trace w2 := by
 obtain ⟨⟨ls, h1, h2, h3⟩, htf⟩ := h.cs
 obtain rfl := hxs ls h2
 have hle := hb.size
 have hne : ∀ b o, H b = some o → some b ≠ cv.ownBlock := fun b o hx e => by rw [htf b e.symm] at hx; cases hx
 have hbl : ∀ b, b < w.heap.size → some b ≠ cv.ownBlock → w2.heap[b]? = w.heap[b]? := fun b h1 h2 => (hg.block b (by omega) h2).trans (hb.block b h1)
 have hgn : H g = none := by
  rcases hat with e | e
  ·exact htf g e
  ·cases hq : H g with
   | none => rfl
   | some o => have := h.dom _ _ hq; omega
 refine ⟨(hg.os.trans hb.os).trans h.os, (hg.tape.trans hb.tape).trans h.tape, (hg.output.trans hb.output).trans h.output, h.base, fun b o hx => (hbl b (h.dom b o hx) (hne b o hx)).trans (h.sub b o hx), fun b o hx => by have := h.dom b o hx; have := hg.size; omega, h.old, h.free, ⟨⟨ls ++ [l], by simp [h1], by simpa using hown, fun i x u hx hu => ?_⟩, fun b hb' => ?_⟩, ?_, fun b hb' e => ?_⟩
 ·rw [List.length_append]
  by_cases hi : i < cells.length
  ·rw [List.getElem?_append_left hi] at hx
   rw [List.getElem?_append_left (by omega)] at hu
   exact (h3 i x u hx hu).le (MLe.refl H) (by omega)
  ·obtain rfl : i = cells.length := by
    have := (List.getElem?_eq_some_iff.1 hx).1
    simp at this; omega
   rw [List.getElem?_append_right (Nat.le_refl _)] at hx
   rw [List.getElem?_append_right (by omega), h1] at hu
   simp at hx hu
   subst hx hu
   exact hv.le (MLe.refl H) (by omega)
 ·obtain rfl : g = b := by simpa [Value.ownBlock] using hb'
  exact hgn
 ·exact ⟨own_at h.ts.1 (fun b hb' => hbl b (own_lt h.ts.1 hb').2 (fun e => h.ne b e.symm hb')), h.ts.2⟩
 ·obtain rfl : g = b := by simpa [Value.ownBlock] using hb'
  rcases hat with e2 | e2
  ·exact h.ne _ e2 e
  ·have := (own_lt h.ts.1 e).2
   omega
end
theorem MR.later {w0 : World} {mb : Nat} {H : Mem} {s : St} {tv ev v0 v1 v2 v3 fv hv cv iv lv : Value} {w w' : World} (h : MR w0 mb H s tv ev v0 v1 v2 v3 fv hv cv iv lv w) (hb : Below w.heap.size w w') : MR w0 mb H s tv ev v0 v1 v2 v3 fv hv cv iv lv w' :=
 ⟨h.core.later hb, h.lies.later hb, h.at_, h.above, h.hs, h.input⟩
theorem MR.traced {w0 : World} {mb : Nat} {H : Mem} {s : St} {tv ev v0 v1 v2 v3 fv hv cv iv lv : Value} {w w2 : World} (h : MR w0 mb H s tv ev v0 v1 v2 v3 fv hv cv iv lv w) {lv' : Value} {n : Int} (hc : Core w0 mb H cv lv' s.cells (s.trace ++ [n]) w2)
  (hl : Lies w2 mb 75 (mC tv ev v0 v1 v2 v3 fv hv cv iv lv s.out s.steps s.konts)) : MS w0 mb H { s with trace := s.trace ++ [n] } (w2.setCell ⟨mb, 10, none⟩ lv') :=
 ⟨_, _, _, _, _, _, _, _, _, _, _, hc.set 10 lv', hl.set 10 _, h.at_, h.above, h.hs, h.input⟩
theorem MR.celled {w0 : World} {mb : Nat} {H : Mem} {s : St} {tv ev v0 v1 v2 v3 fv hv cv iv lv : Value} {w w2 : World} (h : MR w0 mb H s tv ev v0 v1 v2 v3 fv hv cv iv lv w) {cv' : Value} {v : Val} (hc : Core w0 mb H cv' lv (s.cells ++ [v]) s.trace w2)
  (hl : Lies w2 mb 75 (mC tv ev v0 v1 v2 v3 fv hv cv iv lv s.out s.steps s.konts)) : MS w0 mb H { s with cells := s.cells ++ [v] } (w2.setCell ⟨mb, 8, none⟩ cv') := by
 have hN : s.cells.length ≤ (s.cells ++ [v]).length := by simp
 exact ⟨_, _, _, _, _, _, _, _, _, _, _, hc.set 8 cv', hl.set 8 _, h.at_.le (MLe.refl H) hN, h.above.le (MLe.refl H) hN, h.hs.le (MLe.refl H) hN, h.input⟩
theorem info_int : (Tryz.prog.info? 3).map (fun i => (i.zero, i.size, i.bytes)) = some (some (.int .i64 0), 1, 8) := by kernel_rfl
theorem info_i : ∃ i, Tryz.prog.info? 3 = some i ∧ i.zero = some (.int .i64 0) ∧ i.size = 1 ∧ i.bytes = 8 := by
 have h := info_int
 cases hq : Tryz.prog.info? 3 with
 | none => rw [hq] at h; cases h
 | some i =>
  rw [hq] at h
  simp only [Option.map_some, Option.some.injEq, Prod.mk.injEq] at h
  exact ⟨i, rfl, h.1, h.2.1, h.2.2⟩
set_option maxRecDepth 100000 in
set_option maxHeartbeats 4000000 in
theorem print_int {w0 : World} {mb : Nat} {H : Mem} {s : St} {w : World} (h : MS w0 mb H s w) (n : Int) (hb : s.trace.length ≤ 1000000) :
  Calls Tryz.prog 85 #[pt mb, .agg (litL 1 n).toArray] w (MEnd w0 mb H { s.has unitV with trace := s.trace ++ [n] }) := by
 obtain ⟨wo, hwo⟩ : ∃ wo, wo = w.alloc (.cells #[.int .i64 1, .int .i64 n, .pointer none, .nilIface] 68) := ⟨_, rfl⟩
 have lb : Lies wo w.heap.size 68 (litL 1 n).toArray := by rw [hwo]; exact Lies.new w _ _
 have hbo : Below w.heap.size w wo := by rw [hwo]; exact below_new w _
 obtain ⟨tv, ev, v0, v1, v2, v3, fv, hv, cv, iv, lv, h⟩ := h
 have hmw : mb < w.heap.size := h.lies.lt
 have hnb : ∀ b, lv.ownBlock = some b → mb + 1 ≤ b ∧ b < w.heap.size := fun b hb => own_lt h.core.ts.1 hb
 have h := h.later hbo
 obtain ⟨i0, hi, hz0, hz1, hz2⟩ := info_i
 obtain ⟨AX, nX, cX, rfl⟩ := own_slice h.core.ts.1
 have hUA : Below wo.heap.size wo (wo.alloc (.cells #[.int .i64 n] 3)).drew := (below_new wo _).drew
 have HOA := Lib.hid (own_later h.core.ts.1 hUA)
 have c0 : wo.cell? ⟨w.heap.size, 0, none⟩ = some (.int .i64 1) := lb.cell 0
 have c1 : wo.cell? ⟨w.heap.size, 1, none⟩ = some (.int .i64 n) := lb.cell 1
 have hlm := h.lies.lt
 have hlw := lb.lt
 have hwlt : w.heap.size ≤ wo.heap.size := hbo.size
 have hstep : ∀ (g c : Nat) (WA : World), WA.ownsRow (mb + 1) 3 1 (.slice (some ⟨g, 0, none⟩) (s.trace.length + 1) c) (s.trace.length + 1) (s.trace.map (Value.int .i64 ·) ++ [.int .i64 n]) → (wo.alloc (.cells #[.int .i64 n] 3)).drew.grownBy WA (Value.slice AX nX cX).ownBlock → ((Value.slice AX nX cX).ownBlock = some g ∨ g = (wo.alloc (.cells #[.int .i64 n] 3)).drew.heap.size) →
   MS w0 mb H { s with trace := s.trace ++ [n] } (WA.setCell ⟨mb, 10, none⟩ (.slice (some ⟨g, 0, none⟩) (s.trace.length + 1) c)) ∧ WA.cell? ⟨w.heap.size, 1, none⟩ = some (.int .i64 n) ∧ WA.cell? ⟨mb, 10, none⟩ = some (.slice AX nX cX) ∧ WA.frozen? ⟨mb, 10, none⟩ = false ∧ (WA.setCell ⟨mb, 10, none⟩ (.slice (some ⟨g, 0, none⟩) (s.trace.length + 1) c)).cell? ⟨w.heap.size, 1, none⟩ = some (.int .i64 n) := by
  intro g c WA hown hgr hat
  have hfar : ∀ b, b < wo.heap.size → (Value.slice AX nX cX).ownBlock ≠ some b → WA.heap[b]? = wo.heap[b]? := fun b hb hn => (hgr.block b (Nat.lt_of_lt_of_le hb hUA.size) (fun e => hn e.symm)).trans (hUA.block b hb)
  have hl : Lies WA mb 75 (mC tv ev v0 v1 v2 v3 fv hv cv iv (.slice AX nX cX) s.out s.steps s.konts) := (hfar mb hlm (fun e => by have := (hnb _ e).1; omega)).trans h.lies
  have hl2 : Lies WA w.heap.size 68 (litL 1 n).toArray := (hfar _ hlw (fun e => by have := (hnb _ e).2; omega)).trans lb
  have hms := h.traced (h.core.traced hUA hgr hown hat) hl
  exact ⟨hms, hl2.cell 1, hl.cell 10, hl.free 10, (hl2.far (p := ⟨mb, 10, none⟩) (by show w.heap.size ≠ mb; omega) _).cell 1⟩
 have z6d : wo.drew.cell? ⟨mb, 10, none⟩ = some (.slice AX nX cX) := h.lies.cell 10
 have z6u : (wo.alloc (.cells #[.int .i64 n] 3)).drew.cell? ⟨mb, 10, none⟩ = some (.slice AX nX cX) := (h.lies.alloc _).cell 10
 have c1u : (wo.alloc (.cells #[.int .i64 n] 3)).drew.cell? ⟨w.heap.size, 1, none⟩ = some (.int .i64 n) := (lb.alloc _).cell 1
 have HSTEP := Lib.hid hstep
 have HW := Lib.hid hwo
 clear hwo lb hbo h hUA hnb hstep
 unfold pt litL
 go_enter Tryz.func85, Tryz.ntmps85
 go_wp2_with fail
 rw [← HW.out]
 go_wp2_with fail
 refine wp_region_held_drew (S := fun VV => VV.cell? ⟨w.heap.size, 1, none⟩ = some (.int .i64 n)) (by kernel_rfl) ?_ (fun hHeld => ?_)
 ·exact c1
 refine tkH 0 9 rfl ?_
 try simp only [Act.put, s1, s2, s3]
 refine tkH 1 10 rfl ?_
 try simp only [Act.put, s1, s2, s3]
 refine tkH 2 11 rfl ?_
 try simp only [Act.put, s1, s2, s3]
 refine tkH 3 12 rfl ?_
 try simp only [Act.put, s1, s2, s3]
 refine tkH 5 14 rfl ?_
 try simp only [Act.put, s1, s2, s3]
 refine tkH 6 15 rfl ?_
 try simp only [Act.put, s1, s2, s3]
 refine wpAnyH_ready (rs := [4, 7]) (by kernel_rfl) (by simp) ?_
 refine AllReadyH.cons (o := ⟨some 13, _, _, _, _, _⟩) rfl (fun K hK => ?_) (AllReadyH.cons (o := ⟨some 16, _, _, _, _, _⟩) rfl (fun K hK => ?_) AllReadyH.nil)
 ·go_simp
  refine hK.out _ _ ?_ (fun hHeld => ?_)
  ·exact c1
  clear hK K
  try simp only [Act.put, s1, s2, s3]
  refine rd1 7 (some 16) rfl fun K hK => ?_
  go_simp
  refine hK.out _ _ ?_ (fun hHeld => ?_)
  ·exact c1u
  clear hK K
  try simp only [Act.put, s1, s2, s3]
  refine rd1 8 (some 17) rfl fun K hK => ?_
  refine step_append_lies _ rfl (.tmp 13) (.tmp 16) 22 rfl (mb + 1) 3 i0 (.int .i64 0) 1 8 Tryz.underlying22 hi hz0 hz1 hz2 rfl (by decide) (Value.slice AX nX cX) s.trace.length _ rfl HOA.out ⟨wo.heap.size, 0, none⟩ 1 1 [.int .i64 n] rfl rfl (World.news_of_block (Lies.new wo 3 #[.int .i64 n])) (by simp [Value.oneCell']) (by decide) (by unfold maxLen; omega) (by omega) (by show mb + 1 ≤ (wo.alloc _).heap.size; rw [World.size_alloc]; omega) _ rfl ?_
  intro g c WA hown hgr hat hlt
  obtain ⟨hms, k1, k2, k3, k4⟩ := HSTEP.out _ _ _ hown hgr hat
  have HMS := Lib.hid hms
  have K4 := Lib.hid k4
  clear hms hown hgr hat k4
  refine hK.out _ _ ?_ (fun hHeld => ?_)
  ·exact k1
  clear hK K
  try simp only [Act.put, s1, s2, s3]
  refine tkH 9 18 rfl ?_
  try simp only [Act.put, s1, s2, s3]
  refine tkH 10 19 rfl ?_
  try simp only [Act.put, s1, s2, s3]
  refine rd1 11 none rfl fun K hK => ?_
  go_simp
  refine hK.out _ _ ?_ (fun hHeld => ?_)
  ·exact K4.out
  clear hK K
  try simp only [Act.put, s1, s2, s3]
  refine wpAnyH_done (by kernel_rfl) ?_ _
  go_wp2_with fail
  refine (unit_any _).mono ?_
  rintro e w5 ⟨rfl, hb5⟩
  have HM5 := Lib.hid (HMS.out.later hb5)
  clear hb5 k1 k2 k3
  go_wp2_with fail
  refine (answer_any HM5.out (.lit 3 0 (by simp))).mono ?_
  rintro e w6 ⟨rfl, H6, k6, m6⟩
  go_wp2
  go_end0
  exact ⟨rfl, H6, k6, m6⟩
 ·go_simp
  refine hK.out _ _ ?_ (fun hHeld => ?_)
  ·exact c1u
  clear hK K
  try simp only [Act.put, s1, s2, s3]
  refine rd1 4 (some 13) rfl fun K hK => ?_
  go_simp
  refine hK.out _ _ ?_ (fun hHeld => ?_)
  ·exact c1u
  clear hK K
  try simp only [Act.put, s1, s2, s3]
  refine rd1 8 (some 17) rfl fun K hK => ?_
  refine step_append_lies _ rfl (.tmp 13) (.tmp 16) 22 rfl (mb + 1) 3 i0 (.int .i64 0) 1 8 Tryz.underlying22 hi hz0 hz1 hz2 rfl (by decide) (Value.slice AX nX cX) s.trace.length _ rfl HOA.out ⟨wo.heap.size, 0, none⟩ 1 1 [.int .i64 n] rfl rfl (World.news_of_block (Lies.new wo 3 #[.int .i64 n])) (by simp [Value.oneCell']) (by decide) (by unfold maxLen; omega) (by omega) (by show mb + 1 ≤ (wo.alloc _).heap.size; rw [World.size_alloc]; omega) _ rfl ?_
  intro g c WA hown hgr hat hlt
  obtain ⟨hms, k1, k2, k3, k4⟩ := HSTEP.out _ _ _ hown hgr hat
  have HMS := Lib.hid hms
  have K4 := Lib.hid k4
  clear hms hown hgr hat k4
  refine hK.out _ _ ?_ (fun hHeld => ?_)
  ·exact k1
  clear hK K
  try simp only [Act.put, s1, s2, s3]
  refine tkH 9 18 rfl ?_
  try simp only [Act.put, s1, s2, s3]
  refine tkH 10 19 rfl ?_
  try simp only [Act.put, s1, s2, s3]
  refine rd1 11 none rfl fun K hK => ?_
  go_simp
  refine hK.out _ _ ?_ (fun hHeld => ?_)
  ·exact K4.out
  clear hK K
  try simp only [Act.put, s1, s2, s3]
  refine wpAnyH_done (by kernel_rfl) ?_ _
  go_wp2_with fail
  refine (unit_any _).mono ?_
  rintro e w5 ⟨rfl, hb5⟩
  have HM5 := Lib.hid (HMS.out.later hb5)
  clear hb5 k1 k2 k3
  go_wp2_with fail
  refine (answer_any HM5.out (.lit 3 0 (by simp))).mono ?_
  rintro e w6 ⟨rfl, H6, k6, m6⟩
  go_wp2
  go_end0
  exact ⟨rfl, H6, k6, m6⟩
end So
end Go.Proofs.YtmodmojocclmaaaGreatDoor.K

/- The machine of package source: what is read, and what cells hold. -/
namespace Go.Proofs.YtmodmojocclmaaaGreatDoor.K
open Go Go.RowKit
namespace So

theorem VV.kind {H : Mem} {N : Nat} {v : Val} {l : List Value} (h : VV H N v l) : ∃ n c f, l = [.int .i64 (kV v), .int .i64 n, .pointer c, f] ∧ IfV f := by
 cases h
 ·exact ⟨_, _, _, rfl, .inl rfl⟩
 ·exact ⟨_, _, _, rfl, .inl rfl⟩
 ·exact ⟨_, _, _, rfl, .inr ⟨_, _, rfl⟩⟩
 ·exact ⟨_, _, _, rfl, .inr ⟨_, _, rfl⟩⟩
theorem of_kind1 {v : Val} (h : kV v = 1) : ∃ n, v = .lit 1 n := by
 cases v with
 | lit k n => exact ⟨n, by rw [show k = 1 from h]⟩
 | con => cases h
 | clo => cases h
 | res => cases h
theorem of_kind5 {v : Val} (h : kV v = 5) : ∃ n, v = .lit 5 n := by
 cases v with
 | lit k n => exact ⟨n, by rw [show k = 5 from h]⟩
 | con => cases h
 | clo => cases h
 | res => cases h
set_option maxRecDepth 100000 in
set_option maxHeartbeats 4000000 in
theorem print_stuck {w0 : World} {mb : Nat} {H : Mem} {s : St} {w : World} (h : MS w0 mb H s w) {v : Val} {l : List Value} (hv : VV H s.cells.length v l) (hk : kV v ≠ 1) :
  Calls Tryz.prog 85 #[pt mb, .agg l.toArray] w (MEnd w0 mb H (s.ends 4)) := by
 obtain ⟨n, c, f, rfl, hf⟩ := hv.kind
 obtain ⟨k, hkk⟩ : ∃ k, k = kV v := ⟨_, rfl⟩
 rw [← hkk] at hk ⊢
 have hne : (k == 1) = false := by rw [beq_eq_false_iff_ne]; exact hk
 have HM := Lib.hid h
 clear h hv hkk
 unfold pt
 rcases hf with rfl | ⟨ft, fx, rfl⟩
 all_goals
  go_enter Tryz.func85, Tryz.ntmps85
  go_wp2_with fail
  refine (end_any (HM.out.later (below_new _ _)) 4).mono ?_
  rintro e w3 ⟨rfl, H3, k3, m3⟩
  go_wp2
  exact bodyPost_ret (results_none rfl _ _ _) rfl ⟨rfl, H3, k3, m3⟩
set_option maxRecDepth 100000 in
set_option maxHeartbeats 4000000 in
theorem load_stuck {w0 : World} {mb : Nat} {H : Mem} {s : St} {w : World} (h : MS w0 mb H s w) {v : Val} {l : List Value} (hv : VV H s.cells.length v l) (hk : kV v ≠ 5) :
  Calls Tryz.prog 87 #[pt mb, .agg l.toArray] w (MEnd w0 mb H (s.ends 4)) := by
 obtain ⟨n, c, f, rfl, hf⟩ := hv.kind
 obtain ⟨k, hkk⟩ : ∃ k, k = kV v := ⟨_, rfl⟩
 rw [← hkk] at hk ⊢
 have hne : (k == 5) = false := by rw [beq_eq_false_iff_ne]; exact hk
 have HM := Lib.hid h
 clear h hv hkk
 unfold pt
 rcases hf with rfl | ⟨ft, fx, rfl⟩
 all_goals
  go_enter Tryz.func87, Tryz.ntmps87
  go_wp2_with fail
  refine (end_any (HM.out.later (below_new _ _)) 4).mono ?_
  rintro e w3 ⟨rfl, H3, k3, m3⟩
  go_wp2
  exact bodyPost_ret (results_none rfl _ _ _) rfl ⟨rfl, H3, k3, m3⟩
set_option maxRecDepth 100000 in
set_option maxHeartbeats 4000000 in
theorem read_none {w0 : World} {mb : Nat} {H : Mem} {s : St} {w : World} (h : MS w0 mb H s w) (hi : s.input = []) :
  Calls Tryz.prog 84 #[pt mb] w (MEnd w0 mb H (s.ends 3)) := by
 have hm := h
 obtain ⟨tv, ev, v0, v1, v2, v3, fv, hv, cv, iv, lv, h⟩ := h
 obtain ⟨⟨A, c, rfl, _, _, _⟩, _⟩ := h.input
 rw [hi] at h
 have z9 : w.cell? ⟨mb, 9, none⟩ = some (.slice A 0 c) := h.lies.cell 9
 have HM := Lib.hid hm
 clear hm h hi
 unfold pt
 go_enter Tryz.func84, Tryz.ntmps84
 go_wp2_with fail
 refine (end_any HM.out 3).mono ?_
 rintro e w3 ⟨rfl, H3, k3, m3⟩
 go_wp2
 exact bodyPost_ret (results_none rfl _ _ _) rfl ⟨rfl, H3, k3, m3⟩
set_option maxRecDepth 100000 in
set_option maxHeartbeats 4000000 in
theorem read_some {w0 : World} {mb : Nat} {H : Mem} {s : St} {w : World} (h : MS w0 mb H s w) {n : Int} {r : List Int} (hi : s.input = n :: r) :
  Calls Tryz.prog 84 #[pt mb] w (MEnd w0 mb H { s.has (.lit 1 n) with input := r }) := by
 have hm := h
 obtain ⟨tv, ev, v0, v1, v2, v3, fv, hv, cv, iv, lv, h⟩ := h
 obtain ⟨⟨A, c, rfl, hc, hl, hA⟩, hin⟩ := h.input
 rw [hi] at hc hl hA h hin
 obtain ⟨g, o, rfl⟩ := hA (by simp)
 have z9 : w.cell? ⟨mb, 9, none⟩ = some (.slice (some ⟨g, o, none⟩) (r.length + 1) c) := h.lies.cell 9
 have hn : w.cell? ⟨g, o, none⟩ = some (.int .i64 n) := (hin 0 n rfl).cell h.core.sub
 have hne : ((r.length : Int) + 1 == 0) = false := by rw [beq_eq_false_iff_ne]; omega
 have hpos : (0 : Int) < (r.length : Int) + 1 := by omega
 have hcc : r.length + 1 ≤ c := by simpa using hc
 have HM := Lib.hid hm
 have HH := Lib.hid h
 have HIN := Lib.hid hin
 have HI := Lib.hid hi
 clear hm h hi hin hA hc
 unfold pt
 go_enter Tryz.func84, Tryz.ntmps84
 go_wp2_with fail
 refine (number_any _ n).mono ?_
 rintro e w2 ⟨rfl, hb2⟩
 have HM2 := Lib.hid (HM.out.later hb2)
 clear hb2
 unfold litL
 go_wp2_with fail
 refine (answer_any HM2.out (.lit 1 n (by simp))).mono ?_
 rintro e w3 ⟨rfl, H3, k3, tv3, ev3, v03, v13, v23, v33, fv3, hv3, cv3, iv3, lv3, h3⟩
 obtain ⟨⟨A3, c3, rfl, hc3, hl3, hA3⟩, hin3⟩ := h3.input
 have hi3 : (s.has (.lit 1 n)).input = n :: r := HI.out
 rw [hi3] at hc3 hl3 hA3 h3 hin3
 obtain ⟨g3, o3, rfl⟩ := hA3 (by simp)
 have y9 : w3.cell? ⟨mb, 9, none⟩ = some (.slice (some ⟨g3, o3, none⟩) (r.length + 1) c3) := h3.lies.cell 9
 have f9 := h3.lies.free 9
 have hcc3 : r.length + 1 ≤ c3 := by simpa using hc3
 have hll3 : r.length + 1 ≤ 2000000 := by simpa using hl3
 have hcci : (1 : Int) ≤ (c3 : Int) := by omega
 have HK3 := Lib.hid k3
 have HH3 := Lib.hid h3
 have HIN3 := Lib.hid hin3
 clear k3 h3 hin3 hA3 hc3 hi3
 by_cases hcap : c3 = 1
 ·go_wp2
  go_end0
  refine ⟨rfl, H3, HK3.out, _, _, _, _, _, _, _, _, _, _, _, HH3.out.core.set 9 _, HH3.out.lies.set 9 _, HH3.out.at_, HH3.out.above, HH3.out.hs, ⟨⟨_, _, rfl, by show r.length ≤ 0; omega, by show r.length ≤ _; omega, fun h => ?_⟩, fun i x hx => ?_⟩⟩
  ·have h : 0 < r.length := h
   omega
  ·have := (List.getElem?_eq_some_iff.1 hx).1
   have : i < r.length := this
   omega
 ·go_wp2
  go_end0
  refine ⟨rfl, H3, HK3.out, _, _, _, _, _, _, _, _, _, _, _, HH3.out.core.set 9 _, HH3.out.lies.set 9 _, HH3.out.at_, HH3.out.above, HH3.out.hs, ⟨⟨_, _, rfl, by show r.length ≤ _; omega, by show r.length ≤ _; omega, fun h => ⟨_, _, rfl⟩⟩, fun i x hx => ?_⟩⟩
  have h := HIN3.out (i + 1) x (by simpa using hx)
  simpa [blk, off, Nat.add_assoc, Nat.add_comm 1 i] using h
theorem flat_idx {α : Type} (sz : Nat) : ∀ (ls : List (List α)), (∀ l ∈ ls, l.length = sz) → ∀ (i j : Nat) (l : List α) (u : α), ls[i]? = some l → l[j]? = some u → ls.flatten[i * sz + j]? = some u
 | [], _, i, j, l, u, h, _ => by simp at h
 | x :: r, hs, 0, j, l, u, h, hu => by
  obtain rfl : x = l := by simpa using h
  have hj := (List.getElem?_eq_some_iff.1 hu).1
  rw [List.flatten_cons, Nat.zero_mul, Nat.zero_add, List.getElem?_append_left hj]
  exact hu
 | x :: r, hs, i + 1, j, l, u, h, hu => by
  have hx := hs x (by simp)
  rw [List.flatten_cons, List.getElem?_append_right (by rw [hx, Nat.add_mul]; omega), hx, show (i + 1) * sz + j - sz = i * sz + j by rw [Nat.add_mul]; omega]
  exact flat_idx sz r (fun l hl => hs l (by simp [hl])) i j l u (by simpa using h) hu
theorem flat_set4 {α : Type} : ∀ (ls : List (List α)), (∀ l ∈ ls, l.length = 4) → ∀ (i : Nat), i < ls.length → ∀ a b c d : α, (ls.set i [a, b, c, d]).flatten = (((ls.flatten.set (i * 4) a).set (i * 4 + 1) b).set (i * 4 + 2) c).set (i * 4 + 3) d
 | [], _, i, h, _, _, _, _ => by simp at h
 | x :: r, hs, 0, _, a, b, c, d => by
  have hx := hs x (by simp)
  match x, hx with
  | [p, q, t, u], _ => simp
 | x :: r, hs, i + 1, h, a, b, c, d => by
  have hx := hs x (by simp)
  have ih := flat_set4 r (fun l hl => hs l (by simp [hl])) i (by simpa using h) a b c d
  match x, hx with
  | [p, q, t, u], _ =>
   rw [List.set_cons_succ, List.flatten_cons, ih]
   simp [show (i + 1) * 4 = i * 4 + 1 + 1 + 1 + 1 by omega]
section
variable {w0 : World} {mb : Nat} {H : Mem} {cv lv : Value} {cells : List Val} {trace : List Int} {w : World}
theorem CsV.four {lo : Nat} (h : CsV H lo w cv cells) {i : Nat} {v : Val} (hv : cells[i]? = some v) : ∃ g c k n p f, cv = .slice (some ⟨g, 0, none⟩) cells.length c ∧ cells.length ≤ c ∧ VV H cells.length v [.int .i64 k, .int .i64 n, .pointer p, f] ∧ IfV f ∧ lo ≤ g ∧
  w.cell? ⟨g, i * 4, none⟩ = some (.int .i64 k) ∧ w.cell? ⟨g, i * 4 + 1, none⟩ = some (.int .i64 n) ∧ w.cell? ⟨g, i * 4 + 2, none⟩ = some (.pointer p) ∧ w.cell? ⟨g, i * 4 + 3, none⟩ = some f ∧ ∀ o, w.frozen? ⟨g, o, none⟩ = false := by
 obtain ⟨⟨ls, h1, h2, h3⟩, _⟩ := h
 have hi := (List.getElem?_eq_some_iff.1 hv).1
 obtain ⟨l, hl⟩ : ∃ l, ls[i]? = some l := ⟨_, List.getElem?_eq_getElem (by omega)⟩
 have hvv := h3 i v l hv hl
 obtain ⟨k, n, p, f, rfl, hf⟩ := hvv.four
 have hall : ∀ l ∈ ls, l.length = 4 := fun l hl => by
  obtain ⟨j, hj⟩ := List.getElem?_of_mem hl
  have hj' := (List.getElem?_eq_some_iff.1 hj).1
  obtain ⟨x, hx⟩ : ∃ x, cells[j]? = some x := ⟨_, List.getElem?_eq_getElem (by omega)⟩
  obtain ⟨_, _, _, _, rfl, _⟩ := (h3 j x l hx hj).four
  rfl
 have hlo := own_block h2
 rcases own_cells h2 with ⟨_, h0⟩ | ⟨g, c, rfl, hc, _, ⟨cs, t, hcs⟩, hg⟩
 ·omega
 ·exact ⟨g, c, k, n, p, f, rfl, hc, hvv, hf, (hlo g rfl).1, hg _ _ (flat_idx 4 ls hall i 0 _ _ hl rfl), hg _ _ (flat_idx 4 ls hall i 1 _ _ hl rfl), hg _ _ (flat_idx 4 ls hall i 2 _ _ hl rfl), hg _ _ (flat_idx 4 ls hall i 3 _ _ hl rfl), fun o => Lies.free (t := t) hcs o⟩
end
set_option maxRecDepth 100000 in
set_option maxHeartbeats 4000000 in
theorem load_ref {w0 : World} {mb : Nat} {H : Mem} {s : St} {w : World} (h : MS w0 mb H s w) (i : Nat) {v : Val} (hv : s.cells[i]? = some v) :
  Calls Tryz.prog 87 #[pt mb, .agg (litL 5 (i : Int)).toArray] w (MEnd w0 mb H (s.has v)) := by
 obtain ⟨wo, hwo⟩ : ∃ wo, wo = w.alloc (.cells #[.int .i64 5, .int .i64 (i : Int), .pointer none, .nilIface] 68) := ⟨_, rfl⟩
 have lb : Lies wo w.heap.size 68 (litL 5 (i : Int)).toArray := by rw [hwo]; exact Lies.new w _ _
 have hbo : Below w.heap.size w wo := by rw [hwo]; exact below_new w _
 have hm := h.later hbo
 obtain ⟨tv, ev, v0, v1, v2, v3, fv, hv', cv, iv, lv, h⟩ := hm
 obtain ⟨g, c, k, n, p, f, rfl, hc, hvv, hf, _, q0, q1, q2, q3, _⟩ := h.core.cs.four hv
 have hi := (List.getElem?_eq_some_iff.1 hv).1
 have hii : (i : Int) < (s.cells.length : Int) := by omega
 have z8 : wo.cell? ⟨mb, 8, none⟩ = some (.slice (some ⟨g, 0, none⟩) s.cells.length c) := h.lies.cell 8
 have c0 : wo.cell? ⟨w.heap.size, 0, none⟩ = some (.int .i64 5) := lb.cell 0
 have c1 : wo.cell? ⟨w.heap.size, 1, none⟩ = some (.int .i64 (i : Int)) := lb.cell 1
 have HM := Lib.hid (show MS w0 mb H s wo from ⟨tv, ev, v0, v1, v2, v3, fv, hv', _, iv, lv, h⟩)
 have HV := Lib.hid hvv
 have HW := Lib.hid hwo
 clear hwo lb hbo h hvv hv
 unfold pt litL
 rcases hf with rfl | ⟨ft, fx, rfl⟩
 all_goals
  go_enter Tryz.func87, Tryz.ntmps87
  go_wp2_with fail
  rw [← HW.out]
  go_wp2_with fail
  go_still_tail 9, (by kernel_rfl)
  change wpList _ _ _ _ _ wo.drew
  go_wp2_with fail
  refine (answer_any HM.out.drew HV.out).mono ?_
  rintro e w3 ⟨rfl, H3, k3, m3⟩
  go_wp2
  go_end0
  exact ⟨rfl, H3, k3, m3⟩
end So
end Go.Proofs.YtmodmojocclmaaaGreatDoor.K

/- The machine of package source: cells are written; numbers are reckoned with. -/
namespace Go.Proofs.YtmodmojocclmaaaGreatDoor.K
open Go Go.RowKit
namespace So

theorem own_set4 {w : World} {B n i : Nat} {e : TypeId} {g c : Nat} {xs : List Value} (h : w.ownsRow B e 4 (.slice (some ⟨g, 0, none⟩) n c) n xs) (a b d f : Value) :
  ((((w.setCell ⟨g, i * 4, none⟩ a).setCell ⟨g, i * 4 + 1, none⟩ b).setCell ⟨g, i * 4 + 2, none⟩ d).setCell ⟨g, i * 4 + 3, none⟩ f).ownsRow B e 4 (.slice (some ⟨g, 0, none⟩) n c) n ((((xs.set (i * 4) a).set (i * 4 + 1) b).set (i * 4 + 2) d).set (i * 4 + 3) f) := by
 refine ⟨by simpa using h.1, ?_⟩
 rcases h.2 with ⟨h0, _⟩ | ⟨g', cap, cur, h1, h2, h3, h4, h5, h6, h7⟩
 ·cases h0
 ·injection h1 with e1 e2 e3
  injection e1 with e1
  injection e1 with e1
  subst e1 e3
  have hl : Lies w g e cur := h3
  refine .inr ⟨g, c, _, rfl, h2, (((hl.set (i * 4) a).set (i * 4 + 1) b).set (i * 4 + 2) d).set (i * 4 + 3) f, h4, h5, by simpa using h6, ?_⟩
  rw [← h7]
  simp only [Array.toList_setIfInBounds, List.take_set]
section
variable {w0 : World} {mb : Nat} {H : Mem} {cv lv : Value} {cells : List Val} {trace : List Int} {w : World}
theorem Core.stored (h : Core w0 mb H cv lv cells trace w) {i : Nat} (hi : i < cells.length) {g m c : Nat} (hcv : cv = .slice (some ⟨g, 0, none⟩) m c) {v : Val} {a b d f : Value} (hv : VV H cells.length v [a, b, d, f]) :
  Core w0 mb H cv lv (cells.set i v) trace ((((w.setCell ⟨g, i * 4, none⟩ a).setCell ⟨g, i * 4 + 1, none⟩ b).setCell ⟨g, i * 4 + 2, none⟩ d).setCell ⟨g, i * 4 + 3, none⟩ f) := by
 subst hcv
 obtain ⟨⟨ls, h1, h2, h3⟩, htf⟩ := h.cs
 obtain rfl : m = cells.length := by
  rcases h2.2 with ⟨h0, _⟩ | ⟨g', cap, cur, h1, _⟩
  ·cases h0
  ·injection h1
 have hgH : H g = none := htf g rfl
 have hgm := (own_block h2 g rfl)
 have hb : ∀ q, q ≠ g → ((((w.setCell ⟨g, i * 4, none⟩ a).setCell ⟨g, i * 4 + 1, none⟩ b).setCell ⟨g, i * 4 + 2, none⟩ d).setCell ⟨g, i * 4 + 3, none⟩ f).heap[q]? = w.heap[q]? := fun q hq => by
  rw [Below.heap_setCell _ _ _ _ hq, Below.heap_setCell _ _ _ _ hq, Below.heap_setCell _ _ _ _ hq, Below.heap_setCell _ _ _ _ hq]
 have hall : ∀ l ∈ ls, l.length = 4 := fun l hl => by
  obtain ⟨j, hj⟩ := List.getElem?_of_mem hl
  have hj' := (List.getElem?_eq_some_iff.1 hj).1
  obtain ⟨x, hx⟩ : ∃ x, cells[j]? = some x := ⟨_, List.getElem?_eq_getElem (by omega)⟩
  obtain ⟨_, _, _, _, rfl, _⟩ := (h3 j x l hx hj).four
  rfl
 refine ⟨h.os, h.tape, h.output, h.base, fun q o hx => (hb q fun e => ?_).trans (h.sub q o hx), fun q o hx => by simpa using h.dom q o hx, h.old, h.free, ⟨⟨ls.set i [a, b, d, f], by simp [h1], ?_, fun j x u hx hu => ?_⟩, htf⟩, ⟨own_at h.ts.1 fun q hq => hb q fun e => ?_, h.ts.2⟩, h.ne⟩
 ·rw [e, hgH] at hx; cases hx
 ·rw [flat_set4 ls hall i (by omega), List.length_set]
  exact own_set4 h2 a b d f
 ·rw [List.length_set]
  rw [List.getElem?_set] at hx hu
  split at hx
  ·rename_i hij
   subst hij
   rw [if_pos rfl, if_pos (by omega)] at hu
   simp only [Option.some.injEq] at hx hu
   subst hx hu
   exact hv
  ·rename_i hij
   rw [if_neg hij] at hu
   exact h3 j x u hx hu
 ·exact h.ne g rfl (by rw [hq, e])
end
theorem MR.stored {w0 : World} {mb : Nat} {H : Mem} {s : St} {tv ev v0 v1 v2 v3 fv hv cv iv lv : Value} {w : World} (h : MR w0 mb H s tv ev v0 v1 v2 v3 fv hv cv iv lv w) {i : Nat} (hi : i < s.cells.length) {g m c : Nat} (hcv : cv = .slice (some ⟨g, 0, none⟩) m c) {v : Val} {a b d f : Value} (hv' : VV H s.cells.length v [a, b, d, f]) (hgm : mb ≠ g) :
  MS w0 mb H { s with cells := s.cells.set i v } ((((w.setCell ⟨g, i * 4, none⟩ a).setCell ⟨g, i * 4 + 1, none⟩ b).setCell ⟨g, i * 4 + 2, none⟩ d).setCell ⟨g, i * 4 + 3, none⟩ f) := by
 have hN : s.cells.length ≤ (s.cells.set i v).length := by simp
 exact ⟨_, _, _, _, _, _, _, _, _, _, _, h.core.stored hi hcv hv', (((h.lies.far (p := ⟨g, i * 4, none⟩) hgm a).far (p := ⟨g, i * 4 + 1, none⟩) hgm b).far (p := ⟨g, i * 4 + 2, none⟩) hgm d).far (p := ⟨g, i * 4 + 3, none⟩) hgm f, h.at_.le (MLe.refl H) hN, h.above.le (MLe.refl H) hN, h.hs.le (MLe.refl H) hN, h.input⟩
set_option maxRecDepth 100000 in
set_option maxHeartbeats 4000000 in
theorem store_stuck {w0 : World} {mb : Nat} {H : Mem} {s : St} {w : World} (h : MS w0 mb H s w) {v x : Val} {l lx : List Value} (hv : VV H s.cells.length v l) (hx : VV H s.cells.length x lx) (hk : kV v ≠ 5) :
  Calls Tryz.prog 88 #[pt mb, .agg l.toArray, .agg lx.toArray] w (MEnd w0 mb H (s.ends 4)) := by
 obtain ⟨n, c, f, rfl, hf⟩ := hv.kind
 obtain ⟨n2, c2, f2, rfl, hf2⟩ := hx.kind
 obtain ⟨k, hkk⟩ : ∃ k, k = kV v := ⟨_, rfl⟩
 obtain ⟨k2, hkk2⟩ : ∃ k, k = kV x := ⟨_, rfl⟩
 rw [← hkk] at hk ⊢
 rw [← hkk2]
 have hne : (k == 5) = false := by rw [beq_eq_false_iff_ne]; exact hk
 have HM := Lib.hid (fun o o' => h.later ((below_new w o).trans ((below_new (w.alloc o) o').mono (by simp))))
 clear h hv hkk hx hkk2
 unfold pt
 rcases hf with rfl | ⟨ft, fx, rfl⟩ <;> rcases hf2 with rfl | ⟨ft2, fx2, rfl⟩
 all_goals
  go_enter Tryz.func88, Tryz.ntmps88
  go_wp2_with fail
  refine (end_any (HM.out _ _) 4).mono ?_
  rintro e w3 ⟨rfl, H3, k3, m3⟩
  go_wp2
  exact bodyPost_ret (results_none rfl _ _ _) rfl ⟨rfl, H3, k3, m3⟩
set_option maxRecDepth 100000 in
set_option maxHeartbeats 4000000 in
theorem store_ref {w0 : World} {mb : Nat} {H : Mem} {s : St} {w : World} (h : MS w0 mb H s w) (i : Nat) (hi : i < s.cells.length) {v : Val} {lx : List Value} (hx : VV H s.cells.length v lx) :
  Calls Tryz.prog 88 #[pt mb, .agg (litL 5 (i : Int)).toArray, .agg lx.toArray] w (MEnd w0 mb H { s.has unitV with cells := s.cells.set i v }) := by
 obtain ⟨k2, n2, c2, f2, rfl, hf2⟩ := hx.four
 obtain ⟨wo, hwo⟩ : ∃ wo, wo = (w.alloc (.cells #[.int .i64 5, .int .i64 (i : Int), .pointer none, .nilIface] 68)).alloc (.cells #[.int .i64 k2, .int .i64 n2, .pointer c2, f2] 68) := ⟨_, rfl⟩
 have lb : Lies wo w.heap.size 68 (litL 5 (i : Int)).toArray := by rw [hwo]; exact (Lies.new w _ _).alloc _
 have lc : Lies wo (w.heap.size + 1) 68 #[.int .i64 k2, .int .i64 n2, .pointer c2, f2] := by rw [hwo]; exact Lies.new' _ _ _ (by simp)
 have hbo : Below w.heap.size w wo := by rw [hwo]; exact (below_new w _).trans ((below_new _ _).mono (by simp))
 have hm := h.later hbo
 obtain ⟨tv, ev, v0, v1, v2, v3, fv, hv', cv, iv, lv, h⟩ := hm
 obtain ⟨vo, hvo⟩ : ∃ vo, s.cells[i]? = some vo := ⟨_, List.getElem?_eq_getElem hi⟩
 obtain ⟨g, c, k, n, p, f, rfl, hc, hvv, hf, hg, q0, q1, q2, q3, qf⟩ := h.core.cs.four hvo
 have hii : (i : Int) < (s.cells.length : Int) := by omega
 have z8 : wo.cell? ⟨mb, 8, none⟩ = some (.slice (some ⟨g, 0, none⟩) s.cells.length c) := h.lies.cell 8
 have c0 : wo.cell? ⟨w.heap.size, 0, none⟩ = some (.int .i64 5) := lb.cell 0
 have c1 : wo.cell? ⟨w.heap.size, 1, none⟩ = some (.int .i64 (i : Int)) := lb.cell 1
 have d0 : wo.cell? ⟨w.heap.size + 1, 0, none⟩ = some (.int .i64 k2) := lc.cell 0
 have d1 : wo.cell? ⟨w.heap.size + 1, 1, none⟩ = some (.int .i64 n2) := lc.cell 1
 have d2 : wo.cell? ⟨w.heap.size + 1, 2, none⟩ = some (.pointer c2) := lc.cell 2
 have d3 : wo.cell? ⟨w.heap.size + 1, 3, none⟩ = some f2 := lc.cell 3
 have r0 := qf (i * 4)
 have r1 := qf (i * 4 + 1)
 have r2 := qf (i * 4 + 2)
 have r3 := qf (i * 4 + 3)
 have HMS := Lib.hid (h.stored hi rfl hx (by omega))
 have HW := Lib.hid hwo
 clear hwo lb lc hbo h hvv hvo hx qf
 unfold pt litL
 rcases hf2 with rfl | ⟨ft2, fx2, rfl⟩
 all_goals
  go_enter Tryz.func88, Tryz.ntmps88
  go_wp2_with fail
  rw [← HW.out]
  go_wp2_with fail
  go_region
  all_goals
   go_wp2_with fail
   refine (unit_any _).mono ?_
   rintro e w5 ⟨rfl, hb5⟩
   have HM5 := Lib.hid (HMS.out.drew.later hb5)
   clear hb5
   go_wp2_with fail
   refine (answer_any HM5.out (.lit 3 0 (by simp))).mono ?_
   rintro e w6 ⟨rfl, H6, k6, m6⟩
   go_wp2
   go_end0
   exact ⟨rfl, H6, k6, m6⟩
theorem opR_kind {nm : Str} {a b : Int} (h : (opR nm a b).2.2 = true) : (opR nm a b).1 = 1 ∨ (opR nm a b).1 = 2 := by
 unfold opR at h ⊢
 repeat' split at h
 all_goals (first | exact .inl rfl | exact .inr rfl | cases h | skip)
 all_goals simp_all
set_option maxRecDepth 100000 in
set_option maxHeartbeats 4000000 in
theorem calc_stuck_a {w0 : World} {mb : Nat} {H : Mem} {s : St} {w : World} (h : MS w0 mb H s w) {v x : Val} {l lx : List Value} (hv : VV H s.cells.length v l) (hx : VV H s.cells.length x lx) (op : Str) (hk : kV v ≠ 1) :
  Calls Tryz.prog 89 #[pt mb, .string (ba op), .agg l.toArray, .agg lx.toArray] w (MEnd w0 mb H (s.ends 4)) := by
 obtain ⟨n, c, f, rfl, hf⟩ := hv.kind
 obtain ⟨n2, c2, f2, rfl, hf2⟩ := hx.kind
 obtain ⟨k, hkk⟩ : ∃ k, k = kV v := ⟨_, rfl⟩
 obtain ⟨k2, hkk2⟩ : ∃ k, k = kV x := ⟨_, rfl⟩
 rw [← hkk, ← hkk2]
 rw [← hkk] at hk
 have hne : (k == 1) = false := by rw [beq_eq_false_iff_ne]; exact hk
 have HM := Lib.hid (fun o o' => h.later ((below_new w o).trans ((below_new (w.alloc o) o').mono (by simp))))
 clear h hv hkk hx hkk2
 unfold pt
 rcases hf with rfl | ⟨ft, fx, rfl⟩ <;> rcases hf2 with rfl | ⟨ft2, fx2, rfl⟩
 all_goals
  go_enter Tryz.func89, Tryz.ntmps89
  go_wp2_with fail
  refine (end_any (HM.out _ _) 4).mono ?_
  rintro e w3 ⟨rfl, H3, k3, m3⟩
  go_wp2
  exact bodyPost_ret (results_none rfl _ _ _) rfl ⟨rfl, H3, k3, m3⟩
set_option maxRecDepth 100000 in
set_option maxHeartbeats 4000000 in
theorem calc_stuck_b {w0 : World} {mb : Nat} {H : Mem} {s : St} {w : World} (h : MS w0 mb H s w) {v x : Val} {l lx : List Value} (hv : VV H s.cells.length v l) (hx : VV H s.cells.length x lx) (op : Str) (hk : kV x ≠ 1) :
  Calls Tryz.prog 89 #[pt mb, .string (ba op), .agg l.toArray, .agg lx.toArray] w (MEnd w0 mb H (s.ends 4)) := by
 obtain ⟨n, c, f, rfl, hf⟩ := hv.kind
 obtain ⟨n2, c2, f2, rfl, hf2⟩ := hx.kind
 obtain ⟨k, hkk⟩ : ∃ k, k = kV v := ⟨_, rfl⟩
 obtain ⟨k2, hkk2⟩ : ∃ k, k = kV x := ⟨_, rfl⟩
 rw [← hkk, ← hkk2]
 rw [← hkk2] at hk
 have hne : (k2 == 1) = false := by rw [beq_eq_false_iff_ne]; exact hk
 have HM := Lib.hid (fun o o' => h.later ((below_new w o).trans ((below_new (w.alloc o) o').mono (by simp))))
 clear h hv hkk hx hkk2
 unfold pt
 by_cases hk1 : k = 1
 ·subst hk1
  rcases hf with rfl | ⟨ft, fx, rfl⟩ <;> rcases hf2 with rfl | ⟨ft2, fx2, rfl⟩
  all_goals
   go_enter Tryz.func89, Tryz.ntmps89
   go_wp2_with fail
   refine (end_any (HM.out _ _) 4).mono ?_
   rintro e w3 ⟨rfl, H3, k3, m3⟩
   go_wp2
   exact bodyPost_ret (results_none rfl _ _ _) rfl ⟨rfl, H3, k3, m3⟩
 have hne1 : (k == 1) = false := by rw [beq_eq_false_iff_ne]; exact hk1
 rcases hf with rfl | ⟨ft, fx, rfl⟩ <;> rcases hf2 with rfl | ⟨ft2, fx2, rfl⟩
 all_goals
  go_enter Tryz.func89, Tryz.ntmps89
  go_wp2_with fail
  refine (end_any (HM.out _ _) 4).mono ?_
  rintro e w3 ⟨rfl, H3, k3, m3⟩
  go_wp2
  exact bodyPost_ret (results_none rfl _ _ _) rfl ⟨rfl, H3, k3, m3⟩
set_option maxRecDepth 100000 in
set_option maxHeartbeats 4000000 in
theorem calc_ok {w0 : World} {mb : Nat} {H : Mem} {s : St} {w : World} (h : MS w0 mb H s w) (op : Str) (a b : Int) (hk : (opR op a b).2.2 = true) :
  Calls Tryz.prog 89 #[pt mb, .string (ba op), .agg (litL 1 a).toArray, .agg (litL 1 b).toArray] w (MEnd w0 mb H (s.has (.lit (opR op a b).1 (opR op a b).2.1))) := by
 have hop := fun W => op_any op a b W
 obtain ⟨k, hkk⟩ : ∃ k, k = (opR op a b).1 := ⟨_, rfl⟩
 obtain ⟨n, hnn⟩ : ∃ n, n = (opR op a b).2.1 := ⟨_, rfl⟩
 have hkd := opR_kind hk
 rw [← hkk] at hkd
 have HKD := Lib.hid hkd
 clear hkd
 rw [hk, ← hkk, ← hnn] at hop
 rw [← hkk, ← hnn]
 have HOP := Lib.hid hop
 have HM := Lib.hid (fun o o' => h.later ((below_new w o).trans ((below_new (w.alloc o) o').mono (by simp))))
 clear h hop hk hkk hnn
 unfold pt litL
 go_enter Tryz.func89, Tryz.ntmps89
 go_wp2_with fail
 refine (HOP.out _).mono ?_
 rintro e w2 ⟨rfl, hb2⟩
 have HM2 := Lib.hid ((HM.out _ _).later hb2)
 clear hb2
 unfold numV
 go_wp2_with fail
 refine (answer_any (HM2.out.later (below_new _ _)) (.lit k n (by rcases HKD.out with h | h <;> simp [h]))).mono ?_
 rintro e w3 ⟨rfl, H3, k3, m3⟩
 go_wp2
 go_end0
 exact ⟨rfl, H3, k3, m3⟩
set_option maxRecDepth 100000 in
set_option maxHeartbeats 4000000 in
theorem calc_zero {w0 : World} {mb : Nat} {H : Mem} {s : St} {w : World} (h : MS w0 mb H s w) (op : Str) (a b : Int) (hk : (opR op a b).2.2 = false) :
  Calls Tryz.prog 89 #[pt mb, .string (ba op), .agg (litL 1 a).toArray, .agg (litL 1 b).toArray] w (MEnd w0 mb H (s.ends 2)) := by
 have hop := fun W => op_any op a b W
 obtain ⟨k, hkk⟩ : ∃ k, k = (opR op a b).1 := ⟨_, rfl⟩
 obtain ⟨n, hnn⟩ : ∃ n, n = (opR op a b).2.1 := ⟨_, rfl⟩
 rw [hk, ← hkk, ← hnn] at hop
 have HOP := Lib.hid hop
 have HM := Lib.hid (fun o o' => h.later ((below_new w o).trans ((below_new (w.alloc o) o').mono (by simp))))
 clear h hop hk hkk hnn
 unfold pt litL
 go_enter Tryz.func89, Tryz.ntmps89
 go_wp2_with fail
 refine (HOP.out _).mono ?_
 rintro e w2 ⟨rfl, hb2⟩
 have HM2 := Lib.hid ((HM.out _ _).later hb2)
 clear hb2
 unfold numV
 go_wp2_with fail
 refine (end_any (HM2.out.later (below_new _ _)) 2).mono ?_
 rintro e w3 ⟨rfl, H3, k3, m3⟩
 go_wp2
 exact bodyPost_ret (results_none rfl _ _ _) rfl ⟨rfl, H3, k3, m3⟩
end So
end Go.Proofs.YtmodmojocclmaaaGreatDoor.K

/- The machine of package source: the values that were gathered, as a list. -/
namespace Go.Proofs.YtmodmojocclmaaaGreatDoor.K
open Go Go.RowKit
namespace So

theorem info_computed : (Tryz.prog.info? 68).map (fun i => (i.zero, i.size, i.bytes)) = some (some (.agg (litL 0 0).toArray), 4, 40) := by kernel_rfl
theorem info_c : ∃ i, Tryz.prog.info? 68 = some i ∧ i.zero = some (.agg (litL 0 0).toArray) ∧ i.size = 4 ∧ i.bytes = 40 := by
 have h := info_computed
 cases hq : Tryz.prog.info? 68 with
 | none => rw [hq] at h; cases h
 | some i =>
  rw [hq] at h
  simp only [Option.map_some, Option.some.injEq, Prod.mk.injEq] at h
  exact ⟨i, rfl, h.1, h.2.1, h.2.2⟩
def RowAt (H : Mem) (N : Nat) (cur : Array Value) (l : List Val) (m : Nat) : Prop := ∀ (i : Nat) v, m ≤ i → l[i]? = some v → ∃ a b c d, VV H N v [a, b, c, d] ∧ cur[i * 4]? = some a ∧ cur[i * 4 + 1]? = some b ∧ cur[i * 4 + 2]? = some c ∧ cur[i * 4 + 3]? = some d
def AllRel (H : Mem) (N : Nat) (done : List Val) (g : Nat) (w : World) (k : Nat) (n x : Value) (wr : World) : Prop :=
 ∃ front r cur, done = front ++ r ∧ r.length = k ∧ n = .int .i64 (r.length : Int) ∧ RV H N r x ∧ Lies wr g 68 cur ∧ cur.size = done.length * 4 ∧ RowAt H N cur done.reverse r.length ∧ Below g w wr
def AllEnd (H : Mem) (N : Nat) (l : List Val) (w : World) (e : Ending) (w' : World) : Prop :=
 ∃ g cur, e = .returned (.slice (some ⟨g, 0, none⟩) l.length l.length) ∧ w.heap.size ≤ g ∧ Lies w' g 68 cur ∧ cur.size = l.length * 4 ∧ RowAt H N cur l 0 ∧ Below w.heap.size w w'
theorem RV.open {H : Mem} {N : Nat} {r : List Val} {x : Value} (h : RV H N r x) : (r = [] ∧ x = .pointer none) ∨ ∃ v r' b k n c f y, r = v :: r' ∧ x = pt b ∧ HR H b 0 [.int .i64 k, .int .i64 n, .pointer c, f, .pointer y] ∧ IfV f ∧ VV H N v [.int .i64 k, .int .i64 n, .pointer c, f] ∧ RV H N r' (.pointer y) := by
 cases h with
 | nil => exact .inl ⟨rfl, rfl⟩
 | cons v r b l ov hr hv ht =>
  obtain ⟨k, n, c, f, rfl, hf⟩ := hv.four
  obtain ⟨y, rfl⟩ : ∃ y, ov = .pointer y := by cases ht <;> exact ⟨_, rfl⟩
  exact .inr ⟨v, r, b, k, n, c, f, y, rfl, rfl, hr, hf, hv, ht⟩
theorem RowAt.put {H : Mem} {N : Nat} {cur : Array Value} {l : List Val} {m : Nat} (h : RowAt H N cur l (m + 1)) {v : Val} (hv : l[m]? = some v) {a b c d : Value} (hvv : VV H N v [a, b, c, d]) (hs : m * 4 + 4 ≤ cur.size) :
  RowAt H N ((((cur.setIfInBounds (m * 4) a).setIfInBounds (m * 4 + 1) b).setIfInBounds (m * 4 + 2) c).setIfInBounds (m * 4 + 3) d) l m := by
 have hget : ∀ q, ((((cur.setIfInBounds (m * 4) a).setIfInBounds (m * 4 + 1) b).setIfInBounds (m * 4 + 2) c).setIfInBounds (m * 4 + 3) d)[q]? = if m * 4 + 3 = q then some d else if m * 4 + 2 = q then some c else if m * 4 + 1 = q then some b else if m * 4 = q then some a else cur[q]? := fun q => by
  simp only [Array.getElem?_setIfInBounds, Array.size_setIfInBounds]
  repeat' split
  all_goals (first | rfl | omega)
 intro i u hi hu
 by_cases he : i = m
 ·subst he
  obtain rfl : v = u := by rw [hv] at hu; exact Option.some.inj hu
  refine ⟨a, b, c, d, hvv, ?_, ?_, ?_, ?_⟩ <;> rw [hget] <;> simp
 ·obtain ⟨a', b', c', d', k1, k2, k3, k4, k5⟩ := h i u (by omega) hu
  refine ⟨a', b', c', d', k1, ?_, ?_, ?_, ?_⟩ <;> rw [hget] <;> (repeat rw [if_neg (by omega)]) <;> assumption
set_option maxRecDepth 100000 in
set_option maxHeartbeats 4000000 in
theorem all_any {H : Mem} {N : Nat} {w : World} (hs : Sub H w) (b : Nat) (tv ev lv : Value) (done : List Val) (hr : HR H b 0 [tv, ev, .int .i64 (done.length : Int), lv]) (hd : RV H N done lv) (hn : done.length ≤ 2000000) :
  Calls Tryz.prog 59 #[pt b] w (AllEnd H N done.reverse w) := by
 obtain ⟨i0, hi, hz0, hz1, hz2⟩ := info_c
 obtain ⟨y, rfl⟩ : ∃ y, lv = .pointer y := by cases hd <;> exact ⟨_, rfl⟩
 have q2 : w.cell? ⟨b, 2, none⟩ = some (.int .i64 (done.length : Int)) := (hr 2 _ rfl).cell hs
 have q3 : w.cell? ⟨b, 3, none⟩ = some (.pointer y) := (hr 3 _ rfl).cell hs
 have hbl : b < w.heap.size := World.block_lt_of_cell? w _ q2
 have HS := Lib.hid hs
 have HD := Lib.hid hd
 have HN := Lib.hid hn
 clear hs hd hr
 unfold pt
 go_enter Tryz.func59, Tryz.ntmps59
 go_wp2_with ((refine wpList_make_full _ rfl (.tmp 9) (.tmp 9) 73 rfl w.heap.size 68 i0 (.agg (litL 0 0).toArray) 4 Tryz.underlying73 hi hz0 hz1 .i64 .i64 _ _ done.length rfl rfl rfl rfl (by rw [hz2]; omega) (by unfold maxLen; omega) (by omega) ?_); intro w1 ho1 hg1; have hb1 : Below w.heap.size w w1 := (Below.refl _ _).grown hg1 (Nat.le_refl _) (by simp); have x2 := (hb1.cell (p := ⟨b, 2, none⟩) hbl).trans q2; have x3 := (hb1.cell (p := ⟨b, 3, none⟩) hbl).trans q3; have HB1 := Lib.hid hb1; have HO1 := Lib.hid ho1; clear hb1 ho1 hg1)
 go_region
 all_goals
  go_wp2_with fail
  have HB1d := Lib.hid (HB1.out.drew)
  obtain ⟨W, hW⟩ : ∃ W, W = w1.drew := ⟨_, rfl⟩
  have ho := HO1.out
  have hlie : ∃ cur, Lies w1 w.heap.size 68 cur ∧ cur.size = done.length * 4 := by
   rcases ho.2 with ⟨h0, _⟩ | ⟨g', cap, cur, h1, _, h3, _, _, h6, _⟩
   ·cases h0
   ·injection h1 with e1 e2 e3
    injection e1 with e1
    injection e1 with e1
    subst e1 e3
    exact ⟨cur, h3, h6⟩
  obtain ⟨cur0, hl0, hs0⟩ := hlie
  have HL0 := Lib.hid hl0
  have HS0 := Lib.hid hs0
  clear ho hl0 hs0 hW W
  go_loopg [4, 5] done.length (fun k n x wr => AllRel H N done w.heap.size w k n x wr)
  case atStart => exact ⟨[], done, cur0, rfl, rfl, rfl, HD.out, HL0.out, HS0.out, fun i v h1 h2 => absurd (List.getElem?_eq_some_iff.1 h2).1 (by simp; omega), HB1d.out⟩
  case round =>
   obtain ⟨front, r, cur, hdn, hk, rfl, hrv, hl, hsz, hrow, hB⟩ := hrel
   have HDN := Lib.hid hdn
   have HK := Lib.hid hk
   have HL := Lib.hid hl
   have HSZ := Lib.hid hsz
   have HROW := Lib.hid hrow
   have HB := Lib.hid hB
   clear hdn hk hl hsz hrow hB
   rcases hrv.open with ⟨rfl, rfl⟩ | ⟨v, r', p, k', n', c', f', y', rfl, rfl, hr', hf', hv', ht'⟩
   ·go_wp2
    go_ret
    refine ⟨w.heap.size, cur, by rw [List.length_reverse]; rfl, Nat.le_refl _, HL.out, by rw [List.length_reverse]; exact HSZ.out, HROW.out, HB.out⟩
   ·have hpl := World.block_lt_of_cell? w _ ((hr' 0 _ rfl).cell HS.out)
    have hp0 : p < w.heap.size := hpl
    have p0 : wr.cell? ⟨p, 0, none⟩ = some (.int .i64 k') := (HB.out.cell (p := ⟨p, 0, none⟩) hp0).trans ((hr' 0 _ rfl).cell HS.out)
    have p1 : wr.cell? ⟨p, 1, none⟩ = some (.int .i64 n') := (HB.out.cell (p := ⟨p, 1, none⟩) hp0).trans ((hr' 1 _ rfl).cell HS.out)
    have p2 : wr.cell? ⟨p, 2, none⟩ = some (.pointer c') := (HB.out.cell (p := ⟨p, 2, none⟩) hp0).trans ((hr' 2 _ rfl).cell HS.out)
    have p3 : wr.cell? ⟨p, 3, none⟩ = some f' := (HB.out.cell (p := ⟨p, 3, none⟩) hp0).trans ((hr' 3 _ rfl).cell HS.out)
    have p4 : wr.cell? ⟨p, 4, none⟩ = some (.pointer y') := (HB.out.cell (p := ⟨p, 4, none⟩) hp0).trans ((hr' 4 _ rfl).cell HS.out)
    have hlm : r'.length + 1 ≤ done.length := by rw [HDN.out]; simp
    have hg : ∀ j, j < 4 → ∃ u, wr.cell? ⟨w.heap.size, r'.length * 4 + j, none⟩ = some u := fun j hj => by
     rw [HL.out.cell]
     exact ⟨_, Array.getElem?_eq_getElem (by rw [HSZ.out]; omega)⟩
    obtain ⟨u0, g0⟩ := hg 0 (by decide)
    obtain ⟨u1, g1⟩ := hg 1 (by decide)
    obtain ⟨u2, g2⟩ := hg 2 (by decide)
    obtain ⟨u3, g3⟩ := hg 3 (by decide)
    rw [Nat.add_zero] at g0
    have e0 := HL.out.free (r'.length * 4)
    have e1 := HL.out.free (r'.length * 4 + 1)
    have e2 := HL.out.free (r'.length * 4 + 2)
    have e3 := HL.out.free (r'.length * 4 + 3)
    have hli : (r'.length : Int) < (done.length : Int) := by omega
    have hlb : (r'.length : Int) + 1 ≤ 2000001 := by have := HN.out; omega
    have hget : done.reverse[r'.length]? = some v := by
     rw [HDN.out, List.reverse_append, List.reverse_cons, List.append_assoc, List.getElem?_append_right (by simp)]
     simp
    have HGET := Lib.hid hget
    have HPUT := Lib.hid (HROW.out.put hget hv' (by rw [HSZ.out]; omega))
    have HDR := Lib.hid hr'
    clear hg hr' hpl hget
    rw [show (v :: r').length = r'.length + 1 from rfl]
    unfold pt
    rcases hf' with rfl | ⟨ft, fx, rfl⟩
    all_goals
     go_wp2
     go_roundg r'.length
     case measure => rw [← HK.out]; simp
     case rel =>
      refine ⟨front ++ [v], r', _, by rw [HDN.out]; simp, rfl, by go_num, ht', (((HL.out.set _ _).set _ _).set _ _).set _ _, by simpa using HSZ.out, HPUT.out, (((HB.out.setCell (p := ⟨w.heap.size, _, none⟩) (Nat.le_refl _) _).setCell (p := ⟨w.heap.size, _, none⟩) (Nat.le_refl _) _).setCell (p := ⟨w.heap.size, _, none⟩) (Nat.le_refl _) _).setCell (p := ⟨w.heap.size, _, none⟩) (Nat.le_refl _) _⟩
end So
end Go.Proofs.YtmodmojocclmaaaGreatDoor.K

/- The machine of package source: what an operator makes of its values. -/
namespace Go.Proofs.YtmodmojocclmaaaGreatDoor.K
open Go Go.RowKit
namespace So

theorem of_kind1' {v : Val} (h : kV v = 1) : v = .lit 1 (nV v) := by
 obtain ⟨n, rfl⟩ := of_kind1 h
 rfl
theorem of_kind5' {v : Val} (h : kV v = 5) : v = .lit 5 (nV v) := by
 obtain ⟨n, rfl⟩ := of_kind5 h
 rfl
theorem VV.ref5 {H : Mem} {N : Nat} {m : Int} {l : List Value} (h : VV H N (.lit 5 m) l) : l = litL 5 m ∧ 0 ≤ m ∧ m < (N : Int) := by
 cases h with
 | lit _ _ hc => exact ⟨rfl, by omega, by omega⟩
structure ArgsAt (H : Mem) (N : Nat) (l : List Val) (g : Nat) (cur : Array Value) : Prop where
 mem : H g = some (.cells cur 68 (0, 0))
 size : cur.size = l.length * 4
 row : RowAt H N cur l 0
theorem ArgsAt.get {H : Mem} {N : Nat} {w : World} {l : List Val} {g : Nat} {cur : Array Value} (h : ArgsAt H N l g cur) (hs : Sub H w) {i : Nat} {v : Val} (hv : l[i]? = some v) :
  ∃ k n p f, VV H N v [.int .i64 k, .int .i64 n, .pointer p, f] ∧ IfV f ∧ w.cell? ⟨g, i * 4, none⟩ = some (.int .i64 k) ∧ w.cell? ⟨g, i * 4 + 1, none⟩ = some (.int .i64 n) ∧ w.cell? ⟨g, i * 4 + 2, none⟩ = some (.pointer p) ∧ w.cell? ⟨g, i * 4 + 3, none⟩ = some f := by
 obtain ⟨a, b, c, d, hvv, h0, h1, h2, h3⟩ := h.row i v (Nat.zero_le _) hv
 obtain ⟨k, n, p, f, he, hf⟩ := hvv.four
 simp only [List.cons.injEq, and_true] at he
 obtain ⟨rfl, rfl, rfl, rfl⟩ := he
 have hl : Lies w g 68 cur := hs _ _ h.mem
 exact ⟨k, n, p, _, hvv, hf, (hl.cell _).trans h0, (hl.cell _).trans h1, (hl.cell _).trans h2, (hl.cell _).trans h3⟩
set_option maxRecDepth 100000 in
set_option maxHeartbeats 4000000 in
theorem operate_read {w0 : World} {mb : Nat} {H : Mem} {s : St} {w : World} (h : MS w0 mb H s w) {l : List Val} {g : Nat} {cur : Array Value} (_ha : ArgsAt H s.cells.length l g cur) :
  Calls Tryz.prog 60 #[pt mb, .string (ba [114, 101, 97, 100]), .slice (some ⟨g, 0, none⟩) l.length l.length] w (MEnd w0 mb H (operate [114, 101, 97, 100] l s)) := by
 have t_read := tl_is (m := [114, 101, 97, 100]) (l := [114, 101, 97, 100]) rfl
 obtain ⟨n, hn⟩ : ∃ n, n = l.length := ⟨_, rfl⟩
 rw [← hn]
 have hr : Calls Tryz.prog 84 #[pt mb] w (MEnd w0 mb H (operate [114, 101, 97, 100] l s)) := by
  cases hi : s.input with
  | nil =>
   have e : operate [114, 101, 97, 100] l s = s.ends 3 := by unfold operate; rw [if_pos rfl, hi]
   rw [e]
   exact read_none h hi
  | cons n r =>
   have e : operate [114, 101, 97, 100] l s = { s.has (.lit 1 n) with input := r } := by unfold operate; rw [if_pos rfl, hi]
   rw [e]
   exact read_some h hi
 have HR := Lib.hid hr
 clear hr _ha h hn
 unfold pt at HR ⊢
 go_enter Tryz.func60, Tryz.ntmps60
 go_wp2_with fail
 refine HR.out.mono ?_
 rintro e w3 ⟨rfl, H3, k3, m3⟩
 go_wp2
 go_end0
 exact ⟨rfl, H3, k3, m3⟩
set_option maxRecDepth 100000 in
set_option maxHeartbeats 4000000 in
theorem operate_print {w0 : World} {mb : Nat} {H : Mem} {s : St} {w : World} (h : MS w0 mb H s w) {l : List Val} {g : Nat} {cur : Array Value} (ha : ArgsAt H s.cells.length l g cur) (hl : l.length = 1) (hb : s.trace.length ≤ 1000000) :
  Calls Tryz.prog 60 #[pt mb, .string (ba [112, 114, 105, 110, 116]), .slice (some ⟨g, 0, none⟩) l.length l.length] w (MEnd w0 mb H (operate [112, 114, 105, 110, 116] l s)) := by
 have t_read := tl_not (m := [112, 114, 105, 110, 116]) (l := [114, 101, 97, 100]) (by decide)
 have t_print := tl_is (m := [112, 114, 105, 110, 116]) (l := [112, 114, 105, 110, 116]) rfl
 obtain ⟨v, rfl⟩ : ∃ v, l = [v] := by
  match l, hl with
  | [v], _ => exact ⟨v, rfl⟩
 obtain ⟨k, n, p, f, hvv, hf, q0, q1, q2, q3⟩ := ha.get h.sub (i := 0) (v := v) rfl
 have q0 : w.cell? ⟨g, 0, none⟩ = some (.int .i64 k) := q0
 have q1 : w.cell? ⟨g, 1, none⟩ = some (.int .i64 n) := q1
 have q2 : w.cell? ⟨g, 2, none⟩ = some (.pointer p) := q2
 have q3 : w.cell? ⟨g, 3, none⟩ = some f := q3
 have hr : Calls Tryz.prog 85 #[pt mb, .agg #[.int .i64 k, .int .i64 n, .pointer p, f]] w (MEnd w0 mb H (operate [112, 114, 105, 110, 116] [v] s)) := by
  by_cases hk : kV v = 1
  ·have e : operate [112, 114, 105, 110, 116] [v] s = { s.has unitV with trace := s.trace ++ [nV v] } := by unfold operate; rw [if_neg (by decide), if_pos rfl]; exact if_pos hk
   rw [e]
   have hv1 := of_kind1' hk
   obtain ⟨m, hm⟩ : ∃ m, m = nV v := ⟨_, rfl⟩
   rw [← hm] at hv1 ⊢
   subst hv1
   have hh := print_int h m hb
   cases hvv
   exact hh
  ·have e : operate [112, 114, 105, 110, 116] [v] s = s.ends 4 := by unfold operate; rw [if_neg (by decide), if_pos rfl]; exact if_neg hk
   rw [e]
   exact print_stuck h hvv hk
 have HR := Lib.hid hr
 clear hr ha h hvv hl
 unfold pt at HR ⊢
 rcases hf with rfl | ⟨ft, fx, rfl⟩
 all_goals
  go_enter Tryz.func60, Tryz.ntmps60
  go_wp2_with fail
  refine HR.out.mono ?_
  rintro e w3 ⟨rfl, H3, k3, m3⟩
  go_wp2
  go_end0
  exact ⟨rfl, H3, k3, m3⟩
set_option maxRecDepth 100000 in
set_option maxHeartbeats 4000000 in
theorem operate_deref {w0 : World} {mb : Nat} {H : Mem} {s : St} {w : World} (h : MS w0 mb H s w) {l : List Val} {g : Nat} {cur : Array Value} (ha : ArgsAt H s.cells.length l g cur) (hl : l.length = 1) :
  Calls Tryz.prog 60 #[pt mb, .string (ba [33]), .slice (some ⟨g, 0, none⟩) l.length l.length] w (MEnd w0 mb H (operate [33] l s)) := by
 have t_read := tl_not (m := [33]) (l := [114, 101, 97, 100]) (by decide)
 have t_print := tl_not (m := [33]) (l := [112, 114, 105, 110, 116]) (by decide)
 have t_ref := tl_not (m := [33]) (l := [114, 101, 102]) (by decide)
 have t_deref := tl_is (m := [33]) (l := [33]) rfl
 obtain ⟨v, rfl⟩ : ∃ v, l = [v] := by
  match l, hl with
  | [v], _ => exact ⟨v, rfl⟩
 obtain ⟨k, n, p, f, hvv, hf, q0, q1, q2, q3⟩ := ha.get h.sub (i := 0) (v := v) rfl
 have q0 : w.cell? ⟨g, 0, none⟩ = some (.int .i64 k) := q0
 have q1 : w.cell? ⟨g, 1, none⟩ = some (.int .i64 n) := q1
 have q2 : w.cell? ⟨g, 2, none⟩ = some (.pointer p) := q2
 have q3 : w.cell? ⟨g, 3, none⟩ = some f := q3
 have hr : Calls Tryz.prog 87 #[pt mb, .agg #[.int .i64 k, .int .i64 n, .pointer p, f]] w (MEnd w0 mb H (operate [33] [v] s)) := by
  by_cases hk : kV v = 5
  ·have e : operate [33] [v] s = s.has (s.cells.getD (nV v).toNat unitV) := by unfold operate; rw [if_neg (by decide), if_neg (by decide), if_neg (by decide), if_pos rfl]; exact if_pos hk
   rw [e]
   have hv1 := of_kind5' hk
   obtain ⟨m, hm⟩ : ∃ m, m = nV v := ⟨_, rfl⟩
   rw [← hm] at hv1 ⊢
   subst hv1
   obtain ⟨he, h0, h1⟩ := hvv.ref5
   obtain ⟨i, rfl⟩ : ∃ i : Nat, m = (i : Int) := ⟨m.toNat, by omega⟩
   have hi : i < s.cells.length := by omega
   have hg : s.cells[i]? = some (s.cells.getD (i : Int).toNat unitV) := by
    rw [show (i : Int).toNat = i from rfl, List.getD_eq_getElem?_getD, List.getElem?_eq_getElem hi]
    rfl
   rw [show (#[.int .i64 k, .int .i64 n, .pointer p, f] : Array Value) = (litL 5 (i : Int)).toArray from congrArg List.toArray he]
   exact load_ref h i hg
  ·have e : operate [33] [v] s = s.ends 4 := by unfold operate; rw [if_neg (by decide), if_neg (by decide), if_neg (by decide), if_pos rfl]; exact if_neg hk
   rw [e]
   exact load_stuck h hvv hk
 have HR := Lib.hid hr
 clear hr ha h hvv hl
 unfold pt at HR ⊢
 rcases hf with rfl | ⟨ft, fx, rfl⟩
 all_goals
  go_enter Tryz.func60, Tryz.ntmps60
  go_wp2_with fail
  refine HR.out.mono ?_
  rintro e w3 ⟨rfl, H3, k3, m3⟩
  go_wp2
  go_end0
  exact ⟨rfl, H3, k3, m3⟩
end So
end Go.Proofs.YtmodmojocclmaaaGreatDoor.K
