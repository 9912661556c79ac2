/- Vars of the call's own types: all that stands there, each once. -/
import Derived.Test.YthdfomcpoofkaaaGf
import Derived.Test.YthdfomcpoofkaaaMg20
import Derived.Deep.QuietTactic
import Derived.BigQuiet
import Derived.Outline
import Derived.Deep.RegionHeld3
namespace Go.Proofs.Ythdfomcpoofkaaa
open Go.RowKit

theorem TFV.new {w : World} {t : Ty} {l : List Value} (h : TFV w t l) (e : TypeId) : TF (w.alloc (.cells l.toArray e)) ⟨w.heap.size, 0, none⟩ t := by
  obtain ⟨k, nm, v, kids, ls, rv⟩ := t
  obtain ⟨kv, lv, rfl, hk, hlv, hi, hks⟩ := h
  have hb := below_new w (.cells (tyC k nm v kv lv rv).toArray e)
  have hl := Lies.new w e (tyC k nm v kv lv rv).toArray
  refine .mk _ k nm v kids ls rv kv lv rfl ⟨_, _, hl⟩ (fun i u hu => ?_) (hk.keep hb.block) (hlv.keep hb.block) hi fun i t ht => (hks i t ht).keep hb.block
  have := hl.cell i
  rw [Nat.zero_add, this]
  simpa using hu

set_option maxRecDepth 100000 in
set_option maxHeartbeats 4000000 in
theorem varsE_any (l : List Value) (t : Ty) (w : World) (ht : TFV w t l) (hs : t.size ≤ 40000000) :
    Calls Try.prog 47 #[.agg l.toArray] w fun e w' => ∃ v1 v2 K R, e = .returned (.tuple #[v1, v2]) ∧ OwnI w' w.heap.size v1 K ∧ OwnI w' w.heap.size v2 R ∧
      Ext1 (inK t) (2 * t.size) [] K ∧ Ext1 (inR t) (2 * t.size) [] R ∧ (∀ n, inK t n → n ∈ K) ∧ (∀ n, inR t n → n ∈ R) ∧ Below w.heap.size w w' := by
  have hta := ht.new 28
  obtain ⟨k, nm, v, kids, ls, rv⟩ := t
  obtain ⟨kv, lv, rfl, hk, hlv, _, _⟩ := ht
  obtain ⟨A3, c3, rfl, _, _⟩ := hk.slr.form
  obtain ⟨A, n, c, rfl⟩ : ∃ A n c, lv = .slice A n c := by rcases hlv.1 with ⟨rfl, _⟩ | ⟨_, _, rfl, _⟩ <;> exact ⟨_, _, _, rfl⟩
  generalize hT : Ty.mk k nm v kids ls rv = T at *
  obtain ⟨n3, hn3⟩ : ∃ n3, n3 = kids.length := ⟨_, rfl⟩
  rw [← hn3] at hta ⊢
  obtain ⟨w0, hw0⟩ : ∃ w0, w0 = w.alloc (.cells (tyC k nm v (.slice A3 n3 c3) (.slice A n c) rv).toArray 28) := ⟨_, rfl⟩
  have hb0 : Below w.heap.size w w0 := by rw [hw0]; exact below_new w _
  have hs0 : w0.heap.size = w.heap.size + 1 := by rw [hw0]; simp
  rw [← hw0] at hta
  unfold tyC at *
  have HW := Lib.hid hw0
  have HT := Lib.hid hta
  have HS0 := Lib.hid hs0
  have hmm := @run_makeMap Try.prog
  clear hw0 hT hta hs0 hk hn3 hlv
  go_enter Try.func47, Try.ntmps47
  go_wp2_with fail
  rw [← HW.out]
  obtain ⟨m1, hm1⟩ : ∃ m1, m1 = w0.alloc (.map #[] 0) := ⟨_, rfl⟩
  rw [← hm1]
  obtain ⟨m2, hm2⟩ : ∃ m2, m2 = m1.alloc (.map #[] 0) := ⟨_, rfl⟩
  rw [← hm2]
  obtain ⟨m3, hm3⟩ : ∃ m3, m3 = m2.alloc (.map #[] 0) := ⟨_, rfl⟩
  rw [← hm3]
  have z0 := HS0.out
  have z1 : m1.heap.size = w.heap.size + 2 := by rw [hm1, World.size_alloc, z0]
  have z2 : m2.heap.size = w.heap.size + 3 := by rw [hm2, World.size_alloc, z1]
  have z3 : m3.heap.size = w.heap.size + 4 := by rw [hm3, World.size_alloc, z2]
  have hG : GE w0 (w.heap.size + 1) (w.heap.size + 2) (w.heap.size + 3) (w.heap.size + 4) (w.heap.size + 5) [] [] [] (m3.alloc (.cells (gD (w.heap.size + 1) (w.heap.size + 2) (.slice none 0 0) (w.heap.size + 3) (.slice none 0 0)) 123)) := by
    have s1 := Sn.made w0
    rw [← hm1, z0] at s1
    have i2 := IMap.made m1
    rw [← hm2, z1] at i2
    have i3 := IMap.made m2
    rw [← hm3, z2] at i3
    have b1 : Below w0.heap.size w0 m1 := by rw [hm1]; exact below_new _ _
    have b2 : Below m1.heap.size m1 m2 := by rw [hm2]; exact below_new _ _
    have b3 : Below m2.heap.size m2 m3 := by rw [hm3]; exact below_new _ _
    have b4 := below_new m3 (.cells (gD (w.heap.size + 1) (w.heap.size + 2) (.slice none 0 0) (w.heap.size + 3) (.slice none 0 0)) 123)
    refine ⟨⟨none, 0, 0, none, 0, 0, Lies.new' m3 _ _ z3, World.ownsRow_nil _ _ _ _, World.ownsRow_nil _ _ _ _, fun q h => by simp [Value.ownBlock] at h⟩, ?_, (fun x hx => by cases hx), (i2.keep (b3.block _ i2.lt)).keep (b4.block _ (by omega)), i3.keep (b4.block _ i3.lt), ?_, by simp [z3]⟩
    · exact ((s1.keep b2.block).keep b3.block).keep b4.block
    · exact ((b1.trans (b2.mono b1.size)).trans (b3.mono (by omega))).trans (b4.mono (by omega))
  have hgb : GB w0 (w.heap.size + 1) (w.heap.size + 2) (w.heap.size + 3) (w.heap.size + 4) (w.heap.size + 5) := ⟨by omega, by omega, by omega, by omega, by omega⟩
  have hcall := gatherE_any w0 _ _ _ _ _ hgb T.size _ T HT.out (Nat.le_refl _) _ [] [] [] [] hG (fun a h => by cases h) (fun a h => by cases h) (by simp; omega) (by simp; omega)
  refine hcall.mono ?_
  rintro e W1 ⟨rfl, M, K, R, hG1, _, hE, hF, hk, hr⟩
  have HKK := Lib.hid hk
  have HRR := Lib.hid hr
  obtain ⟨⟨A5, k5, c5, A6, k6, c6, hl5, hown5, hown6, _⟩, _, _, _, _, hB1, _⟩ := hG1
  have d2 : W1.cell? ⟨w.heap.size + 1 + 1 + 1 + 1, 2, none⟩ = some (.slice A5 k5 c5) := hl5.cell 2
  have d4 : W1.cell? ⟨w.heap.size + 1 + 1 + 1 + 1, 4, none⟩ = some (.slice A6 k6 c6) := hl5.cell 4
  have HB1 := Lib.hid (hb0.trans (hB1.mono hb0.size))
  have HO5 := Lib.hid hown5
  have HO6 := Lib.hid hown6
  have HE := Lib.hid hE
  have HF := Lib.hid hF
  clear hcall hG hl5 hown5 hown6 hm1 hm2 hm3 hE hF hB1 hgb hk hr
  go_wp2
  go_quiet (fail)
  go_wp2
  go_ret2
  exact ⟨_, _, K, R, rfl, own_mono (own_later HO5.out (below_drewS _ _)) (by omega), own_mono (own_later HO6.out (below_drewS _ _)) (by omega), HE.out, HF.out, HKK.out, HRR.out, HB1.out.trans ((below_drewS _ _).mono HB1.out.size)⟩
end Go.Proofs.Ythdfomcpoofkaaa

/- Package scheme: Free, where the type is the call's own. -/
namespace Go.Proofs.Ythdfomcpoofkaaa
open Go.RowKit

theorem Ext1.ok0 {P : Int → Prop} {s : Nat} {K : List Int} (h : Ext1 P s [] K) : ∀ n ∈ K, i64ok n := h.ok (fun n hn => by cases hn)
theorem lessL_ok {K A : List Int} (h : ∀ n ∈ K, i64ok n) : ∀ n ∈ lessL K A, i64ok n := fun n hn => h n (List.mem_filter.1 hn).1
theorem mem_lessL {K A : List Int} {n : Int} : n ∈ lessL K A ↔ n ∈ K ∧ n ∉ A := by unfold lessL; simp [List.mem_filter]
theorem IntR.one {w : World} {v : Value} {L : List Int} (h : IntR w v L) : ∃ A c, v = .slice A L.length c := by
  obtain ⟨A, c, h1, _⟩ := h
  exact ⟨A, c, h1⟩

set_option maxRecDepth 100000 in
set_option maxHeartbeats 8000000 in
theorem free_any (w : World) (v1 v2 : Value) (A B : List Int) (t : Ty) (l : List Value) (h1 : IntR w v1 A) (h2 : IntR w v2 B) (ht : TFV w t l) (hA : A.length ≤ 100000000) (hB : B.length ≤ 100000000) (hs : t.size ≤ 40000000) :
    Calls Try.prog 28 #[.agg (v1 :: v2 :: l).toArray] w fun e w' => ∃ u1 u2 K R, e = .returned (.tuple #[u1, u2]) ∧ OwnI w' w.heap.size u1 (lessL K A) ∧ OwnI w' w.heap.size u2 (lessL R B) ∧
      Ext1 (inK t) (2 * t.size) [] K ∧ Ext1 (inR t) (2 * t.size) [] R ∧ (∀ n, inK t n → n ∈ K) ∧ (∀ n, inR t n → n ∈ R) ∧ Below w.heap.size w w' := by
  have hv := fun w7 (hb : Below w.heap.size w w7) => varsE_any l t w7 (ht.later hb) hs
  obtain ⟨A1, c1, rfl⟩ := h1.one
  obtain ⟨A2, c2, rfl⟩ := h2.one
  obtain ⟨k, nm, v, kids, ls, rv⟩ := t
  obtain ⟨kv, lv, rfl, hk, hlv, _, _⟩ := ht
  obtain ⟨A3, c3, rfl, _, _⟩ := hk.slr.form
  obtain ⟨A4, n4, c4, rfl⟩ : ∃ A n c, lv = .slice A n c := by rcases hlv.1 with ⟨rfl, _⟩ | ⟨_, _, rfl, _⟩ <;> exact ⟨_, _, _, rfl⟩
  generalize hT : Ty.mk k nm v kids ls rv = T at *
  obtain ⟨n1, hn1⟩ : ∃ n, n = A.length := ⟨_, rfl⟩
  obtain ⟨n2, hn2⟩ : ∃ n, n = B.length := ⟨_, rfl⟩
  obtain ⟨n3, hn3⟩ : ∃ n, n = kids.length := ⟨_, rfl⟩
  rw [← hn1] at h1 ⊢
  rw [← hn2] at h2 ⊢
  rw [← hn3] at hv ⊢
  unfold tyC at *
  obtain ⟨W, hW⟩ : ∃ W, W = w.alloc (.cells #[.slice A1 n1 c1, .slice A2 n2 c2, .int .i64 k, .string (ba nm), .int .i64 v, .slice A3 n3 c3, .slice A4 n4 c4, .int .i64 rv] 62) := ⟨_, rfl⟩
  have hb : Below w.heap.size w W := by rw [hW]; exact below_new _ _
  have k0 : Lies W w.heap.size 62 #[.slice A1 n1 c1, .slice A2 n2 c2, .int .i64 k, .string (ba nm), .int .i64 v, .slice A3 n3 c3, .slice A4 n4 c4, .int .i64 rv] := by rw [hW]; exact Lies.new _ _ _
  have hsz : W.heap.size = w.heap.size + 1 := by rw [hW]; simp
  have HW := Lib.hid hW
  have HB := Lib.hid hb
  have HK0 := Lib.hid k0
  have HSZ := Lib.hid hsz
  have HV := Lib.hid (hv W hb)
  have H1 := Lib.hid h1
  have H2 := Lib.hid h2
  have HS := Lib.hid hs
  have HA := Lib.hid hA
  have HBB := Lib.hid hB
  have d2 := k0.cell 2
  have d3 := k0.cell 3
  have d4 := k0.cell 4
  have d5 := k0.cell 5
  have d6 := k0.cell 6
  have d7 := k0.cell 7
  clear hW hb k0 hsz hv h1 h2 hk hlv hT hn1 hn2 hn3 hs hA hB
  go_enter Try.func28, Try.ntmps28
  go_wp2_with fail
  rw [← HW.out]
  refine HV.out.mono ?_
  rintro e W1 ⟨u1, u2, K, R, rfl, hu1, hu2, hE, hF, hKK, hRR, hb1⟩
  obtain ⟨A5, n5, c5, rfl⟩ := own_slice hu1
  obtain ⟨A6, n6, c6, rfl⟩ := own_slice hu2
  have hB1 : Below w.heap.size w W1 := HB.out.trans (hb1.mono HB.out.size)
  have k1 := HK0.out.later hb1
  have e0 := k1.cell 0
  have e1 := k1.cell 1
  have hlt := k1.lt
  have hcell : ∀ V : World, Below W1.heap.size W1 V → V.cell? ⟨w.heap.size, 0, none⟩ = some (.slice A1 n1 c1) ∧ V.cell? ⟨w.heap.size, 1, none⟩ = some (.slice A2 n2 c2) := fun V hV => ⟨(hV.cell (p := ⟨w.heap.size, 0, none⟩) hlt).trans e0, (hV.cell (p := ⟨w.heap.size, 1, none⟩) hlt).trans e1⟩
  have HC := Lib.hid hcell
  have HB1 := Lib.hid hB1
  have HE := Lib.hid hE
  have HF := Lib.hid hF
  have HKK := Lib.hid hKK
  have HRR := Lib.hid hRR
  have HU1 := Lib.hid hu1
  have HU2 := Lib.hid hu2
  have HWW := Lib.hid hb1
  have HI1 := Lib.hid (fun V (hV : Below W1.heap.size W1 V) => (IntR.of_own hu1 hE.ok0).later hV)
  have HI2 := Lib.hid (fun V (hV : Below W1.heap.size W1 V) => (IntR.of_own hu2 hF.ok0).later hV)
  have HL1 := Lib.hid (show K.length ≤ 100000000 by have h1 := hE.len; have h2 := HS.out; rw [List.length_nil] at h1; omega)
  have HL2 := Lib.hid (show R.length ≤ 100000000 by have h1 := hF.len; have h2 := HS.out; rw [List.length_nil] at h1; omega)
  clear hcell hB1 hE hF hKK hRR hu1 hu2 hb1 k1 e0 e1 hlt d2 d3 d4 d5 d6 d7 HV
  go_wp2_with fail
  have hdr : Below W1.heap.size W1 W1.drew := (Below.refl _ _).drew
  go_region_held3 (fun V => V.cell? ⟨w.heap.size, 0, none⟩ = some (.slice A1 n1 c1) ∧ V.cell? ⟨w.heap.size, 1, none⟩ = some (.slice A2 n2 c2))
    (first | with_reducible exact HC.out _ hdr | with_reducible exact HC.out _ hq1 | with_reducible exact HC.out _ hq2 | with_reducible exact HC.out _ hq3 | with_reducible exact HC.out _ hq4)
    (first
      | (go_at_call 50; refine (setOf_any x2 B _ (H2.out.later (HB1.out.trans (hq2.mono HB1.out.size))) HBB.out).mono ?_; rintro e x3 ⟨b3, hb3, rfl, hM3, hy3⟩; have hq3 : Below W1.heap.size W1 x3 := hq2.trans (hy3.mono hq2.size); have HM3 := Lib.hid hM3; have HY3 := Lib.hid hy3; clear hM3 hy3)
      | (go_at_call 50; refine (setOf_any W1.drew A _ (H1.out.later (HB1.out.trans (hdr.mono HB1.out.size))) HA.out).mono ?_; rintro e x1 ⟨b1, hb1, rfl, hM1, hy1⟩; have hq1 : Below W1.heap.size W1 x1 := hdr.trans hy1; have HM1 := Lib.hid hM1; clear hM1 hy1)
      | (go_at_call 48; refine (without_any x3 b3 _ B R _ HM3.out (HI2.out x3 hq3) HL2.out).mono ?_; rintro e x4 ⟨v4, rfl, ho4, hy4⟩; obtain ⟨A8, n8, c8, rfl⟩ := own_slice ho4; have hq4 : Below W1.heap.size W1 x4 := hq3.trans (hy4.mono hq3.size); have HO4 := Lib.hid ho4; have HY4 := Lib.hid hy4; have HX3 := Lib.hid (show W1.heap.size ≤ x3.heap.size from hq3.size); clear ho4 hy4)
      | (go_at_call 48; refine (without_any x1 b1 _ A K _ HM1.out (HI1.out x1 hq1) HL1.out).mono ?_; rintro e x2 ⟨v3, rfl, ho3, hy2⟩; obtain ⟨A7, n7, c7, rfl⟩ := own_slice ho3; have hq2 : Below W1.heap.size W1 x2 := hq1.trans (hy2.mono hq1.size); have HO3 := Lib.hid ho3; have HX1 := Lib.hid (show W1.heap.size ≤ x1.heap.size from hq1.size); clear ho3 hy2))
  all_goals
    go_wp2_with fail
    go_ret2
    have e3 := HB1.out.size
    have e4 := HX1.out
    have e5 := HX3.out
    refine ⟨_, _, K, R, rfl, own_mono (own_later (own_later HO3.out HY3.out) HY4.out) (by omega), own_mono HO4.out (by omega), HE.out, HF.out, HKK.out, HRR.out, HB1.out.trans (hq4.mono HB1.out.size)⟩
end Go.Proofs.Ythdfomcpoofkaaa

/- Package scheme: Bare. -/
namespace Go.Proofs.Ythdfomcpoofkaaa
open Go.RowKit

def schemeV (v1 v2 : Value) (l : List Value) : Value := .agg (v1 :: v2 :: l).toArray
theorem size_Sc : (Try.prog.info? 62).map (fun i => i.size) = some 8 := by kernel_rfl
set_option maxRecDepth 100000 in
set_option maxHeartbeats 8000000 in
theorem bare_any (w : World) (t : Ty) (l : List Value) (ht : TRV w t l) (hp : t.size ≤ 1000) :
    Calls Try.prog 23 #[.agg l.toArray] w fun e w' => ∃ l', e = .returned (schemeV (.slice none 0 0) (.slice none 0 0) l') ∧ TFV w' t l' ∧ Below w.heap.size w w' := by
  have hcp := fun w7 (hb : Below w.heap.size w w7) => scopied_any w7 t l (ht.later hb) hp
  obtain ⟨k, nm, v, kids, ls, rv⟩ := t
  obtain ⟨A3, n3, c3, A4, n4, c4, rfl⟩ := ht.shape
  unfold tyC at *
  obtain ⟨W, hW⟩ : ∃ W, W = (w.alloc (.cells #[.int .i64 k, .string (ba nm), .int .i64 v, .slice A3 n3 c3, .slice A4 n4 c4, .int .i64 rv] 28)).alloc (.cells #[.slice none 0 0, .slice none 0 0, .int .i64 0, .string ⟨#[]⟩, .int .i64 0, .slice none 0 0, .slice none 0 0, .int .i64 0] 62) := ⟨_, rfl⟩
  have hb : Below w.heap.size w W := by rw [hW]; exact ((Below.refl _ w).alloc (Nat.le_refl _) _).alloc (by simp) _
  have k1 : Lies W w.heap.size 28 #[.int .i64 k, .string (ba nm), .int .i64 v, .slice A3 n3 c3, .slice A4 n4 c4, .int .i64 rv] := by rw [hW]; exact (Lies.new _ _ _).alloc _
  have k2 : Lies W (w.heap.size + 1) 62 #[.slice none 0 0, .slice none 0 0, .int .i64 0, .string ⟨#[]⟩, .int .i64 0, .slice none 0 0, .slice none 0 0, .int .i64 0] := by rw [hW]; exact Lies.new' _ _ _ (by simp)
  have a0 := k1.cell 0
  have a1 := k1.cell 1
  have a2 := k1.cell 2
  have a3 := k1.cell 3
  have a4 := k1.cell 4
  have a5 := k1.cell 5
  have HW := Lib.hid hW
  have HB := Lib.hid hb
  have HK2 := Lib.hid k2
  have HC := Lib.hid (hcp W hb)
  have HWs := Lib.hid (show W.heap.size = w.heap.size + 2 by rw [hW]; simp)
  clear hW hb k1 k2 hcp ht
  go_enter Try.func23, Try.ntmps23
  go_wp2_with fail
  rw [← HW.out]
  refine HC.out.mono ?_
  rintro e w8 ⟨l', rfl, htf, hb8⟩
  have HTF := Lib.hid htf
  obtain ⟨A5, n5, c5, A6, n6, c6, rfl⟩ := (htf w8 ⟨Nat.le_refl _, fun _ _ _ => rfl⟩).trv.shape
  have m2 := HK2.out.later hb8
  have HM2 := Lib.hid m2
  have HB8 := Lib.hid hb8
  have mc0 := m2.cell 0
  have mc1 := m2.cell 1
  have mc2 := m2.cell 2
  have mc3 := m2.cell 3
  have mc4 := m2.cell 4
  have mc5 := m2.cell 5
  have mc6 := m2.cell 6
  have mc7 := m2.cell 7
  have mf0 := m2.free 0
  have mf1 := m2.free 1
  have mf2 := m2.free 2
  have mf3 := m2.free 3
  have mf4 := m2.free 4
  have mf5 := m2.free 5
  have mf6 := m2.free 6
  have mf7 := m2.free 7
  unfold tyC
  clear m2 htf hb8 a0 a1 a2 a3 a4 a5 HC
  go_wp2_with fail
  obtain ⟨Z, hZ⟩ : ∃ Z, Z = ((((((((w8.setCell ⟨w.heap.size + 1, 0, none⟩ (.slice none 0 0)).setCell ⟨w.heap.size + 1, 1, none⟩ (.slice none 0 0)).setCell ⟨w.heap.size + 1, 2, none⟩ (.int .i64 k)).setCell ⟨w.heap.size + 1, 3, none⟩ (.string (ba nm))).setCell ⟨w.heap.size + 1, 4, none⟩ (.int .i64 v)).setCell ⟨w.heap.size + 1, 5, none⟩ (.slice A5 n5 c5)).setCell ⟨w.heap.size + 1, 6, none⟩ (.slice A6 n6 c6)).setCell ⟨w.heap.size + 1, 7, none⟩ (.int .i64 rv)) := ⟨_, rfl⟩
  have nz : Lies Z (w.heap.size + 1) 62 #[.slice none 0 0, .slice none 0 0, .int .i64 k, .string (ba nm), .int .i64 v, .slice A5 n5 c5, .slice A6 n6 c6, .int .i64 rv] := by rw [hZ]; exact ((((((((HM2.out.set 0 (.slice none 0 0)).set 1 (.slice none 0 0)).set 2 (.int .i64 k)).set 3 (.string (ba nm))).set 4 (.int .i64 v)).set 5 (.slice A5 n5 c5)).set 6 (.slice A6 n6 c6)).set 7 (.int .i64 rv))
  have hqa : Below (w.heap.size + 1) w8 Z := by rw [hZ]; exact ((((((((Below.refl (w.heap.size + 1) w8).setCell (p := ⟨w.heap.size + 1, 0, none⟩) (Nat.le_refl _) _).setCell (p := ⟨w.heap.size + 1, 1, none⟩) (Nat.le_refl _) _).setCell (p := ⟨w.heap.size + 1, 2, none⟩) (Nat.le_refl _) _).setCell (p := ⟨w.heap.size + 1, 3, none⟩) (Nat.le_refl _) _).setCell (p := ⟨w.heap.size + 1, 4, none⟩) (Nat.le_refl _) _).setCell (p := ⟨w.heap.size + 1, 5, none⟩) (Nat.le_refl _) _).setCell (p := ⟨w.heap.size + 1, 6, none⟩) (Nat.le_refl _) _).setCell (p := ⟨w.heap.size + 1, 7, none⟩) (Nat.le_refl _) _
  have hqo : ∀ g, g ≠ w.heap.size + 1 → Z.heap[g]? = w8.heap[g]? := fun g hg => by rw [hZ]; exact ((Below.heap_setCell _ ⟨w.heap.size + 1, 7, none⟩ _ g hg).trans ((Below.heap_setCell _ ⟨w.heap.size + 1, 6, none⟩ _ g hg).trans ((Below.heap_setCell _ ⟨w.heap.size + 1, 5, none⟩ _ g hg).trans ((Below.heap_setCell _ ⟨w.heap.size + 1, 4, none⟩ _ g hg).trans ((Below.heap_setCell _ ⟨w.heap.size + 1, 3, none⟩ _ g hg).trans ((Below.heap_setCell _ ⟨w.heap.size + 1, 2, none⟩ _ g hg).trans ((Below.heap_setCell _ ⟨w.heap.size + 1, 1, none⟩ _ g hg).trans (Below.heap_setCell _ ⟨w.heap.size + 1, 0, none⟩ _ g hg))))))))
  rw [← hZ]
  refine bodyPost_ret (v := .agg #[.slice none 0 0, .slice none 0 0, .int .i64 k, .string (ba nm), .int .i64 v, .slice A5 n5 c5, .slice A6 n6 c6, .int .i64 rv]) (results_cell_row rfl _ _ (w.heap.size + 1) 62 _ (0, 0) _ rfl nz Try.underlying62 rfl size_Sc) rfl ?_
  have hws := HWs.out
  refine ⟨[.int .i64 k, .string (ba nm), .int .i64 v, .slice A5 n5 c5, .slice A6 n6 c6, .int .i64 rv], rfl, HTF.out Z ⟨hqa.size, fun b hlt hn => hqo b fun e => hn (by show b < W.heap.size + 2; omega)⟩, (HB.out.trans (HB8.out.mono HB.out.size)).trans (hqa.mono (Nat.le_succ _))⟩
end Go.Proofs.Ythdfomcpoofkaaa
