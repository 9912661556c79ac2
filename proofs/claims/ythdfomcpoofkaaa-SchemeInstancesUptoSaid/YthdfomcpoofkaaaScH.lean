/- Package scheme: General, over bare schemes, of a type that came in. -/
import Derived.Test.YthdfomcpoofkaaaMg22
import Derived.Deep.RegionHeld3
import Derived.Outline
namespace Go.Proofs.Ythdfomcpoofkaaa
open Go.RowKit

/-- A list of bare schemes. -/
def EnvB (w : World) (v : Value) (E : List Ty) : Prop :=
  ∃ A c, v = .slice A E.length c ∧ E.length ≤ c ∧ ∀ (i : Nat) t, E[i]? = some t → ∃ g o l, A = some ⟨g, o, none⟩ ∧ TFV w t l ∧ ReadsAt w ⟨g, o + i * 8, none⟩ (.slice none 0 0 :: .slice none 0 0 :: l)
/-- What is free somewhere. -/
def AnyK (E : List Ty) (n : Int) : Prop := ∃ u ∈ E, inK u n
def AnyR (E : List Ty) (n : Int) : Prop := ∃ u ∈ E, inR u n
theorem lessL_nil (K : List Int) : lessL K [] = K := by unfold lessL; simp
theorem any_step {P : Ty → Int → Prop} {E : List Ty} {j : Nat} {t : Ty} {F K : List Int} (ht : E[j]? = some t) (hF : ∀ n, n ∈ F ↔ ∃ u ∈ E.take j, P u n) (h1 : ∀ n ∈ K, n ∈ ([] : List Int) ∨ P t n) (h2 : ∀ n, P t n → n ∈ K) : ∀ n, n ∈ F ++ K ↔ ∃ u ∈ E.take (j + 1), P u n := by
  intro n
  rw [take_step E j t ht, List.mem_append, hF]
  constructor
  · rintro (⟨u, h3, h4⟩ | h3)
    · exact ⟨u, List.mem_append_left _ h3, h4⟩
    · exact ⟨t, by simp, (h1 n h3).resolve_left (by simp)⟩
  · rintro ⟨u, h3, h4⟩
    rcases List.mem_append.1 h3 with h3 | h3
    · exact .inl ⟨u, h3, h4⟩
    · rw [List.mem_singleton.1 h3] at h4
      exact .inr (h2 n h4)

set_option maxRecDepth 100000 in
set_option maxHeartbeats 8000000 in
theorem general_core (X : List Int → List Int → Prop) (w : World) (ev : Value) (E : List Ty) (t : Ty) (l : List Value) (he : EnvB w ev E) (hE : E.length ≤ 1000) (hEs : ∀ u ∈ E, u.size ≤ 1000) (ht : TRV w t l) (hs : t.size ≤ 1000)
    (hvr : ∀ w7, Below w.heap.size w w7 → Calls Try.prog 47 #[.agg l.toArray] w7 fun e w' => ∃ v1 v2 K R, e = .returned (.tuple #[v1, v2]) ∧ OwnI w' w7.heap.size v1 K ∧ OwnI w' w7.heap.size v2 R ∧ Ext1 (inK t) (2 * t.size) [] K ∧ Ext1 (inR t) (2 * t.size) [] R ∧ X K R ∧ Below w7.heap.size w7 w') :
    Calls Try.prog 24 #[ev, .agg l.toArray] w fun e w' => ∃ v1 v2 l' FK FR K R, e = .returned (schemeV v1 v2 l') ∧ OwnI w' w.heap.size v1 (lessL K FK) ∧ OwnI w' w.heap.size v2 (lessL R FR) ∧ (TFV w' t l' ∧ Tree1 (w.heap.size + 2) l' w') ∧
      Ext1 (inK t) (2 * t.size) [] K ∧ Ext1 (inR t) (2 * t.size) [] R ∧ (∀ n, n ∈ FK ↔ AnyK E n) ∧ (∀ n, n ∈ FR ↔ AnyR E n) ∧ X K R ∧ Below w.heap.size w w' := by
  have hcp := fun w7 (hb : Below w.heap.size w w7) => scopied_anyJ w7 t l (ht.later hb) hs
  obtain ⟨k, nm, v, kids, ls, rv⟩ := t
  obtain ⟨A3, n3, c3, A4, n4, c4, rfl⟩ := ht.shape
  obtain ⟨AE, cE, rfl, hcE, he⟩ := he
  obtain ⟨NE, hNE⟩ : ∃ N, N = E.length := ⟨_, rfl⟩
  rw [← hNE] at hcE hE ⊢
  have hshape := fun w'' l'' (h : TFV w'' (.mk k nm v kids ls rv) l'') => h.trv.shape
  generalize hT : Ty.mk k nm v kids ls rv = T at *
  unfold tyC at *
  have HSHP := Lib.hid hshape
  clear hshape
  obtain ⟨W, hW⟩ : ∃ W, W = (((w.alloc (.cells #[.int .i64 k, .string (ba nm), .int .i64 v, .slice A3 n3 c3, .slice A4 n4 c4, .int .i64 rv] 28)).alloc (.cells #[.slice none 0 0, .slice none 0 0, .int .i64 0, .string ⟨#[]⟩, .int .i64 0, .slice none 0 0, .slice none 0 0, .int .i64 0] 62)).alloc (.map #[] 0)).alloc (.map #[] 0) := ⟨_, rfl⟩
  have hb : Below w.heap.size w W := by rw [hW]; exact ((((Below.refl _ w).alloc (Nat.le_refl _) _).alloc (by simp) _).alloc (by simp; omega) _).alloc (by simp; omega) _
  have k1 : Lies W w.heap.size 28 #[.int .i64 k, .string (ba nm), .int .i64 v, .slice A3 n3 c3, .slice A4 n4 c4, .int .i64 rv] := by rw [hW]; exact (((Lies.new _ _ _).alloc _).alloc _).alloc _
  have k2 : Lies W (w.heap.size + 1) 62 #[.slice none 0 0, .slice none 0 0, .int .i64 0, .string ⟨#[]⟩, .int .i64 0, .slice none 0 0, .slice none 0 0, .int .i64 0] := by rw [hW]; exact ((Lies.new' _ _ _ (by simp)).alloc _).alloc _
  have hsz : W.heap.size = w.heap.size + 4 := by rw [hW]; simp
  have m1 : MapI W 0 (w.heap.size + 2) 0 (inG []) := by
    rw [hW, inG_nil]
    have h := MapI.made ((w.alloc (.cells #[.int .i64 k, .string (ba nm), .int .i64 v, .slice A3 n3 c3, .slice A4 n4 c4, .int .i64 rv] 28)).alloc (.cells #[.slice none 0 0, .slice none 0 0, .int .i64 0, .string ⟨#[]⟩, .int .i64 0, .slice none 0 0, .slice none 0 0, .int .i64 0] 62)) 0
    simp only [World.size_alloc] at h
    exact h.later (below_new _ _)
  have m2 : MapI W 0 (w.heap.size + 3) 0 (inG []) := by
    rw [hW, inG_nil]
    have h := MapI.made (((w.alloc (.cells #[.int .i64 k, .string (ba nm), .int .i64 v, .slice A3 n3 c3, .slice A4 n4 c4, .int .i64 rv] 28)).alloc (.cells #[.slice none 0 0, .slice none 0 0, .int .i64 0, .string ⟨#[]⟩, .int .i64 0, .slice none 0 0, .slice none 0 0, .int .i64 0] 62)).alloc (.map #[] 0)) 0
    simp only [World.size_alloc] at h
    exact h
  have HW := Lib.hid hW
  have HB := Lib.hid hb
  have HK1 := Lib.hid k1
  have HK2 := Lib.hid k2
  have HSZ := Lib.hid hsz
  have HM1 := Lib.hid m1
  have HM2 := Lib.hid m2
  have HCP := Lib.hid hcp
  have HVR := Lib.hid hvr
  have HEN := Lib.hid he
  have HES := Lib.hid hEs
  have HNE := Lib.hid hNE
  have HS := Lib.hid hs
  have hmm := @run_makeMap Try.prog
  clear hW hb k1 k2 hsz m1 m2 hcp hvr he hEs hNE ht hT hs
  go_enter Try.func24, Try.ntmps24
  go_wp2_with fail
  rw [← HW.out]
  go_loopw [17] (fun i wr => ∃ (j : Nat) (FK FR : List Int) (p q : Nat), j ≤ NE ∧ i = .int .i64 j ∧ p ≤ j * 2000 ∧ q ≤ j * 2000 ∧ MapI wr 0 (w.heap.size + 2) p (inG FK) ∧ MapI wr 0 (w.heap.size + 3) q (inG FR) ∧ (∀ n, n ∈ FK ↔ AnyK (E.take j) n) ∧ (∀ n, n ∈ FR ↔ AnyR (E.take j) n) ∧ Below (w.heap.size + 2) W wr) (fun i _ => NE - (intOf i).toNat)
  case atStart => exact ⟨0, [], [], 0, 0, Nat.zero_le _, rfl, by omega, by omega, HM1.out, HM2.out, fun n => by simp [AnyK], fun n => by simp [AnyR], (Below.refl _ W)⟩
  case round =>
    obtain ⟨j, FK, FR, p, q, hj, rfl, hp, hq, hM, hR, hFK, hFR, hB⟩ := hrel
    have hszw := hB.size
    have hs4 := HSZ.out
    have HMj := Lib.hid hM
    have HRj := Lib.hid hR
    have HFK := Lib.hid hFK
    have HFR := Lib.hid hFR
    have HBj := Lib.hid hB
    clear hM hR hFK hFR hB
    by_cases hlt : j < NE
    · obtain ⟨u, hu⟩ : ∃ t, E[j]? = some t := ⟨_, List.getElem?_eq_getElem (by have := HNE.out; omega)⟩
      obtain ⟨g, o, lu, rfl, htf, hrd⟩ := HEN.out j u hu
      have hus := HES.out u (List.mem_of_getElem? hu)
      have htr := htf.trv
      obtain ⟨ku, nmu, vu, kidsu, lsu, rvu⟩ := u
      obtain ⟨A9, n9, c9, A0, n0, c0, rfl⟩ := htr.shape
      generalize hU : Ty.mk ku nmu vu kidsu lsu rvu = U at *
      unfold tyC at htf hrd
      have hgl : g < w.heap.size := World.block_lt_of_cell? w _ (hrd 0 _ rfl)
      have hbw : Below w.heap.size w wr := HB.out.trans (HBj.out.mono (by omega))
      have hrd' : ReadsAt wr ⟨g, o + j * 8, none⟩ [.slice none 0 0, .slice none 0 0, .int .i64 ku, .string (ba nmu), .int .i64 vu, .slice A9 n9 c9, .slice A0 n0 c0, .int .i64 rvu] := hrd.keep (hbw.block _ hgl)
      have z0 := hrd' 0 _ rfl
      have z1 := hrd' 1 _ rfl
      have z2 := hrd' 2 _ rfl
      have z3 := hrd' 3 _ rfl
      have z4 := hrd' 4 _ rfl
      have z5 := hrd' 5 _ rfl
      have z6 := hrd' 6 _ rfl
      have z7 := hrd' 7 _ rfl
      simp only [Nat.add_zero] at z0
      obtain ⟨wx, hwx⟩ : ∃ X, X = wr.alloc (.cells #[.slice none 0 0, .slice none 0 0, .int .i64 ku, .string (ba nmu), .int .i64 vu, .slice A9 n9 c9, .slice A0 n0 c0, .int .i64 rvu] 62) := ⟨_, rfl⟩
      have hbx0 : Below wr.heap.size wr wx := by rw [hwx]; exact below_new _ _
      have lx : Lies wx wr.heap.size 62 #[.slice none 0 0, .slice none 0 0, .int .i64 ku, .string (ba nmu), .int .i64 vu, .slice A9 n9 c9, .slice A0 n0 c0, .int .i64 rvu] := by rw [hwx]; exact Lies.new _ _ _
      have q0 := lx.cell 0
      have q1 := lx.cell 1
      have q2 := lx.cell 2
      have q3 := lx.cell 3
      have q4 := lx.cell 4
      have q5 := lx.cell 5
      have q6 := lx.cell 6
      have q7 := lx.cell 7
      have hbx : Below w.heap.size w wx := hbw.trans (hbx0.mono hbw.size)
      have hfr := free_any wx (.slice none 0 0) (.slice none 0 0) [] [] U _ (IntR.nil wx) (IntR.nil wx) (htf.later hbx) (by simp) (by simp) (by omega)
      have HFRE := Lib.hid hfr
      have HX := Lib.hid hwx
      have HBX0 := Lib.hid hbx0
      have HU := Lib.hid hu
      have HUS := Lib.hid hus
      have hjc : j < cE := by omega
      have hji : (j : Int) < (NE : Int) := by omega
      clear hu hus htf hrd hrd' htr hbw hbx hbx0 hwx hfr lx hU
      go_wp2_with fail
      rw [← HX.out]
      refine HFRE.out.mono ?_
      rintro e W1 ⟨u1, u2, KU, RU, rfl, hu1, hu2, hEU, hFU, hKU, hRU, hb1⟩
      rw [lessL_nil] at hu1 hu2
      obtain ⟨A7, n7, c7, rfl⟩ := own_slice hu1
      obtain ⟨A8, n8, c8, rfl⟩ := own_slice hu2
      have hb1r : Below wr.heap.size wr W1 := HBX0.out.trans (hb1.mono HBX0.out.size)
      have hb1W : Below (w.heap.size + 2) W W1 := HBj.out.trans (hb1r.mono (by omega))
      have hlk : KU.length ≤ 2000 := by have h1 := hEU.len; have h2 := HUS.out; rw [List.length_nil] at h1; omega
      have hlr : RU.length ≤ 2000 := by have h1 := hFU.len; have h2 := HUS.out; rw [List.length_nil] at h1; omega
      have hc1 := setAdd_any W1 (w.heap.size + 2) p FK KU _ (HMj.out.later hb1r) (IntR.of_own hu1 hEU.ok0) (by omega)
      have HC1 := Lib.hid hc1
      have HI2 := Lib.hid (IntR.of_own hu2 hFU.ok0)
      have HM1' := Lib.hid (HMj.out.later hb1r)
      have HR1' := Lib.hid (HRj.out.later hb1r)
      have HB1W := Lib.hid hb1W
      have HEU := Lib.hid hEU
      have HFU := Lib.hid hFU
      have HKU := Lib.hid hKU
      have HRU := Lib.hid hRU
      have HLK := Lib.hid hlk
      have HLR := Lib.hid hlr
      clear hu1 hu2 hEU hFU hKU hRU hb1 hb1r hb1W hlk hlr hc1 z0 z1 z2 z3 z4 z5 z6 z7 q0 q1 q2 q3 q4 q5 q6 q7
      go_wp2_with fail
      refine HC1.out.mono ?_
      rintro e W2 ⟨rfl, hM2, hbt2⟩
      have hmap1 : ∃ es c, W1.heap[w.heap.size + 2]? = some (.map es c) := by
        obtain ⟨es, c, h1, _⟩ := HM1'.out.isMap
        exact ⟨es, c, h1⟩
      have hc2 := setAdd_any W2 (w.heap.size + 3) q FR RU _ (HR1'.out.keep (hbt2.block _ HR1'.out.lt (by omega))) (HI2.out.bt hbt2 hmap1) (by have := HLR.out; omega)
      have HC2 := Lib.hid hc2
      have HM2' := Lib.hid hM2
      have HB2W := Lib.hid (HB1W.out.trans (hbt2.below (B := w.heap.size + 2) (Nat.le_refl _) (by have := HB1W.out.size; omega)))
      clear hc2 hM2 hbt2 hmap1
      go_wp2_with fail
      refine HC2.out.mono ?_
      rintro e W3 ⟨rfl, hR3, hbt3⟩
      have HM3 := Lib.hid (HM2'.out.keep (hbt3.block _ HM2'.out.lt (by omega)))
      have HR3 := Lib.hid hR3
      have HB3W := Lib.hid (HB2W.out.trans (hbt3.below (B := w.heap.size + 2) (by omega) (by have := HB2W.out.size; omega)))
      have HFK3 := Lib.hid (any_step (P := inK) HU.out HFK.out HEU.out.mem HKU.out)
      have HFR3 := Lib.hid (any_step (P := inR) HU.out HFR.out HFU.out.mem HRU.out)
      clear hR3 hbt3
      go_wp2_with fail
      go_roundw
      case rel => exact ⟨j + 1, _, _, _, _, by omega, by simp, by have := HLK.out; omega, by have := HLR.out; omega, HM3.out, HR3.out, HFK3.out, HFR3.out, HB3W.out⟩
      case measure => simp [intOf]; omega
    · obtain rfl : j = NE := by omega
      have hall : E.take j = E := List.take_of_length_le (by have := HNE.out; omega)
      have hFKa := HFK.out
      have hFRa := HFR.out
      rw [hall] at hFKa hFRa
      have hbw : Below w.heap.size w wr := HB.out.trans (HBj.out.mono (by omega))
      have k1 := HK1.out.below HBj.out (by omega)
      have k2 := HK2.out.below HBj.out (by omega)
      have d0 := k1.cell 0
      have d1 := k1.cell 1
      have d2 := k1.cell 2
      have d3 := k1.cell 3
      have d4 := k1.cell 4
      have d5 := k1.cell 5
      have HVC := Lib.hid (HVR.out wr hbw)
      have HK1r := Lib.hid k1
      have HK2r := Lib.hid k2
      have HBw := Lib.hid hbw
      have HFKa := Lib.hid hFKa
      have HFRa := Lib.hid hFRa
      have HWR := Lib.hid (show w.heap.size + 2 ≤ wr.heap.size by omega)
      clear hall hFKa hFRa hbw k1 k2
      obtain ⟨wo, rfl⟩ : ∃ wo, wo = wr := ⟨_, rfl⟩
      go_wp2_with fail
      refine HVC.out.mono ?_
      rintro e W1 ⟨u1, u2, K, R, rfl, hu1, hu2, hEt, hFt, hXX, hb1⟩
      obtain ⟨A1, n1, c1, rfl⟩ := own_slice hu1
      obtain ⟨A2, n2, c2, rfl⟩ := own_slice hu2
      have hB1 : Below w.heap.size w W1 := HBw.out.trans (hb1.mono HBw.out.size)
      have k1 := HK1r.out.later hb1
      have hlt1 := k1.lt
      have hS1 : (fun V : World => V.cell? ⟨w.heap.size, 0, none⟩ = some (.int .i64 k) ∧ V.cell? ⟨w.heap.size, 1, none⟩ = some (.string (ba nm)) ∧ V.cell? ⟨w.heap.size, 2, none⟩ = some (.int .i64 v) ∧ V.cell? ⟨w.heap.size, 3, none⟩ = some (.slice A3 n3 c3) ∧ V.cell? ⟨w.heap.size, 4, none⟩ = some (.slice A4 n4 c4) ∧ V.cell? ⟨w.heap.size, 5, none⟩ = some (.int .i64 rv)) W1 := ⟨k1.cell 0, k1.cell 1, k1.cell 2, k1.cell 3, k1.cell 4, k1.cell 5⟩
      have hSK : ∀ V V' : World, (fun V : World => V.cell? ⟨w.heap.size, 0, none⟩ = some (.int .i64 k) ∧ V.cell? ⟨w.heap.size, 1, none⟩ = some (.string (ba nm)) ∧ V.cell? ⟨w.heap.size, 2, none⟩ = some (.int .i64 v) ∧ V.cell? ⟨w.heap.size, 3, none⟩ = some (.slice A3 n3 c3) ∧ V.cell? ⟨w.heap.size, 4, none⟩ = some (.slice A4 n4 c4) ∧ V.cell? ⟨w.heap.size, 5, none⟩ = some (.int .i64 rv)) V → V'.heap[w.heap.size]? = V.heap[w.heap.size]? → (fun V : World => V.cell? ⟨w.heap.size, 0, none⟩ = some (.int .i64 k) ∧ V.cell? ⟨w.heap.size, 1, none⟩ = some (.string (ba nm)) ∧ V.cell? ⟨w.heap.size, 2, none⟩ = some (.int .i64 v) ∧ V.cell? ⟨w.heap.size, 3, none⟩ = some (.slice A3 n3 c3) ∧ V.cell? ⟨w.heap.size, 4, none⟩ = some (.slice A4 n4 c4) ∧ V.cell? ⟨w.heap.size, 5, none⟩ = some (.int .i64 rv)) V' := fun V V' h hh => by
        have e : ∀ i, V'.cell? ⟨w.heap.size, i, none⟩ = V.cell? ⟨w.heap.size, i, none⟩ := fun i => World.cell?_of_block (w := V) (a := ⟨w.heap.size, i, none⟩) hh
        obtain ⟨h0, h1, h2, h3, h4, h5⟩ := h
        exact ⟨(e 0).trans h0, (e 1).trans h1, (e 2).trans h2, (e 3).trans h3, (e 4).trans h4, (e 5).trans h5⟩
      have HSC := Lib.hid (fun V (hV : Below W1.heap.size W1 V) => hSK W1 V hS1 (hV.block _ hlt1))
      have HSK := Lib.hid hSK
      have HK2s := Lib.hid (HK2r.out.later hb1)
      have HB1 := Lib.hid hB1
      have HI1 := Lib.hid (fun V (hV : Below W1.heap.size W1 V) => (IntR.of_own hu1 hEt.ok0).later hV)
      have HI2 := Lib.hid (fun V (hV : Below W1.heap.size W1 V) => (IntR.of_own hu2 hFt.ok0).later hV)
      have HMf := Lib.hid (fun V (hV : Below W1.heap.size W1 V) => (HMj.out.later hb1).later hV)
      have HRf := Lib.hid (fun V (hV : Below W1.heap.size W1 V) => (HRj.out.later hb1).later hV)
      have HL1 := Lib.hid (show K.length ≤ 100000000 by have h1 := hEt.len; have h2 := HS.out; rw [List.length_nil] at h1; omega)
      have HL2 := Lib.hid (show R.length ≤ 100000000 by have h1 := hFt.len; have h2 := HS.out; rw [List.length_nil] at h1; omega)
      have HXX := Lib.hid hXX
      have HEt := Lib.hid hEt
      have HFt := Lib.hid hFt
      have HW1 := Lib.hid (show w.heap.size + 2 ≤ W1.heap.size from Nat.le_trans HWR.out hb1.size)
      clear hXX hu1 hu2 hEt hFt hb1 hB1 k1 hlt1 hS1 hSK d0 d1 d2 d3 d4 d5 hszw hs4
      go_wp2_with fail
      have hdr : Below W1.heap.size W1 W1.drew := (Below.refl _ _).drew
      go_region_held3 (fun V => V.cell? ⟨w.heap.size, 0, none⟩ = some (.int .i64 k) ∧ V.cell? ⟨w.heap.size, 1, none⟩ = some (.string (ba nm)) ∧ V.cell? ⟨w.heap.size, 2, none⟩ = some (.int .i64 v) ∧ V.cell? ⟨w.heap.size, 3, none⟩ = some (.slice A3 n3 c3) ∧ V.cell? ⟨w.heap.size, 4, none⟩ = some (.slice A4 n4 c4) ∧ V.cell? ⟨w.heap.size, 5, none⟩ = some (.int .i64 rv))
        (first | with_reducible exact HSC.out _ hdr | with_reducible exact HSC.out _ hq7 | with_reducible exact HSC.out _ hq8 | with_reducible exact HSC.out _ hq9 | with_reducible exact HSK.out _ _ (HSC.out _ hq9) hq0)
        (first
          | (go_at_call 48; refine (without_any x7 (w.heap.size + 3) q FR R _ (HRf.out x7 hq7) (HI2.out x7 hq7) HL2.out).mono ?_; rintro e x8 ⟨v8, rfl, ho8, hy8⟩; obtain ⟨A8, n8, c8, rfl⟩ := own_slice ho8; have hq8 : Below W1.heap.size W1 x8 := hq7.trans (hy8.mono hq7.size); have HO8 := Lib.hid ho8; have HY8 := Lib.hid hy8; have HX7 := Lib.hid (show W1.heap.size ≤ x7.heap.size from hq7.size); clear ho8 hy8)
          | (go_at_call 48; refine (without_any W1.drew (w.heap.size + 2) p FK K _ (HMf.out _ hdr) (HI1.out _ hdr) HL1.out).mono ?_; rintro e x7 ⟨v7, rfl, ho7, hy7⟩; obtain ⟨A7, n7, c7, rfl⟩ := own_slice ho7; have hq7 : Below W1.heap.size W1 x7 := hdr.trans hy7; have HO7 := Lib.hid ho7; clear ho7 hy7)
          | (go_at_call 45; refine (HCP.out x8 (HB1.out.trans (hq8.mono HB1.out.size))).mono ?_; rintro e x9 ⟨l', rfl, htf, hy9⟩; have HTF := Lib.hid htf; obtain ⟨A5, n5, c5, A6, n6, c6, rfl⟩ := HSHP.out _ _ (htf x9 ⟨Nat.le_refl _, fun _ _ _ => rfl⟩).1; have hq9 : Below W1.heap.size W1 x9 := hq8.trans (hy9.mono hq8.size); have HY9 := Lib.hid hy9; have HX8 := Lib.hid (show W1.heap.size ≤ x8.heap.size from hq8.size); have m2 := HK2s.out.later hq9; have HM2 := Lib.hid m2; have mc0 := m2.cell 0; have mc1 := m2.cell 1; have mc2 := m2.cell 2; have mc3 := m2.cell 3; have mc4 := m2.cell 4; have mc5 := m2.cell 5; have mc6 := m2.cell 6; have mc7 := m2.cell 7; have mf0 := m2.free 0; have mf1 := m2.free 1; have mf2 := m2.free 2; have mf3 := m2.free 3; have mf4 := m2.free 4; have mf5 := m2.free 5; have mf6 := m2.free 6; have mf7 := m2.free 7; have ml := m2.lt; have hq0 : (((((((((x9.setCell ⟨w.heap.size + 1, 0, none⟩ (.slice A7 n7 c7)).setCell ⟨w.heap.size + 1, 1, none⟩ (.slice A8 n8 c8)).setCell ⟨w.heap.size + 1, 2, none⟩ (.int .i64 k)).setCell ⟨w.heap.size + 1, 3, none⟩ (.string (ba nm))).setCell ⟨w.heap.size + 1, 4, none⟩ (.int .i64 v)).setCell ⟨w.heap.size + 1, 5, none⟩ (.slice A5 n5 c5)).setCell ⟨w.heap.size + 1, 6, none⟩ (.slice A6 n6 c6)).setCell ⟨w.heap.size + 1, 7, none⟩ (.int .i64 rv))).heap[w.heap.size]? = x9.heap[w.heap.size]? := (((((((((Below.refl (w.heap.size + 1) x9).setCell (p := ⟨w.heap.size + 1, 0, none⟩) (Nat.le_refl _) _).setCell (p := ⟨w.heap.size + 1, 1, none⟩) (Nat.le_refl _) _).setCell (p := ⟨w.heap.size + 1, 2, none⟩) (Nat.le_refl _) _).setCell (p := ⟨w.heap.size + 1, 3, none⟩) (Nat.le_refl _) _).setCell (p := ⟨w.heap.size + 1, 4, none⟩) (Nat.le_refl _) _).setCell (p := ⟨w.heap.size + 1, 5, none⟩) (Nat.le_refl _) _).setCell (p := ⟨w.heap.size + 1, 6, none⟩) (Nat.le_refl _) _).setCell (p := ⟨w.heap.size + 1, 7, none⟩) (Nat.le_refl _) _).block _ (Nat.lt_succ_self _); clear m2 htf hy9))
      all_goals
        go_wp2_with fail
        obtain ⟨Z, hZ⟩ : ∃ Z, Z = ((((((((x9.setCell ⟨w.heap.size + 1, 0, none⟩ (.slice A7 n7 c7)).setCell ⟨w.heap.size + 1, 1, none⟩ (.slice A8 n8 c8)).setCell ⟨w.heap.size + 1, 2, none⟩ (.int .i64 k)).setCell ⟨w.heap.size + 1, 3, none⟩ (.string (ba nm))).setCell ⟨w.heap.size + 1, 4, none⟩ (.int .i64 v)).setCell ⟨w.heap.size + 1, 5, none⟩ (.slice A5 n5 c5)).setCell ⟨w.heap.size + 1, 6, none⟩ (.slice A6 n6 c6)).setCell ⟨w.heap.size + 1, 7, none⟩ (.int .i64 rv)) := ⟨_, rfl⟩
        have nz : Lies Z (w.heap.size + 1) 62 #[.slice A7 n7 c7, .slice A8 n8 c8, .int .i64 k, .string (ba nm), .int .i64 v, .slice A5 n5 c5, .slice A6 n6 c6, .int .i64 rv] := by rw [hZ]; exact ((((((((HM2.out.set 0 (.slice A7 n7 c7)).set 1 (.slice A8 n8 c8)).set 2 (.int .i64 k)).set 3 (.string (ba nm))).set 4 (.int .i64 v)).set 5 (.slice A5 n5 c5)).set 6 (.slice A6 n6 c6)).set 7 (.int .i64 rv))
        have hqa : Below (w.heap.size + 1) x9 Z := by rw [hZ]; exact ((((((((Below.refl (w.heap.size + 1) x9).setCell (p := ⟨w.heap.size + 1, 0, none⟩) (Nat.le_refl _) _).setCell (p := ⟨w.heap.size + 1, 1, none⟩) (Nat.le_refl _) _).setCell (p := ⟨w.heap.size + 1, 2, none⟩) (Nat.le_refl _) _).setCell (p := ⟨w.heap.size + 1, 3, none⟩) (Nat.le_refl _) _).setCell (p := ⟨w.heap.size + 1, 4, none⟩) (Nat.le_refl _) _).setCell (p := ⟨w.heap.size + 1, 5, none⟩) (Nat.le_refl _) _).setCell (p := ⟨w.heap.size + 1, 6, none⟩) (Nat.le_refl _) _).setCell (p := ⟨w.heap.size + 1, 7, none⟩) (Nat.le_refl _) _
        have hqo : ∀ g, g ≠ w.heap.size + 1 → Z.heap[g]? = x9.heap[g]? := fun g hg => by rw [hZ]; exact ((Below.heap_setCell _ ⟨w.heap.size + 1, 7, none⟩ _ g hg).trans ((Below.heap_setCell _ ⟨w.heap.size + 1, 6, none⟩ _ g hg).trans ((Below.heap_setCell _ ⟨w.heap.size + 1, 5, none⟩ _ g hg).trans ((Below.heap_setCell _ ⟨w.heap.size + 1, 4, none⟩ _ g hg).trans ((Below.heap_setCell _ ⟨w.heap.size + 1, 3, none⟩ _ g hg).trans ((Below.heap_setCell _ ⟨w.heap.size + 1, 2, none⟩ _ g hg).trans ((Below.heap_setCell _ ⟨w.heap.size + 1, 1, none⟩ _ g hg).trans (Below.heap_setCell _ ⟨w.heap.size + 1, 0, none⟩ _ g hg))))))))
        rw [← hZ]
        refine bodyPost_ret (v := .agg #[.slice A7 n7 c7, .slice A8 n8 c8, .int .i64 k, .string (ba nm), .int .i64 v, .slice A5 n5 c5, .slice A6 n6 c6, .int .i64 rv]) (results_cell_row rfl _ _ (w.heap.size + 1) 62 _ (0, 0) _ rfl nz Try.underlying62 rfl size_Sc) rfl ?_
        have e1 := HW1.out
        have e7 := HX7.out
        have e8 := HX8.out
        have o7 : OwnI x9 (w.heap.size + 2) (.slice A7 n7 c7) (lessL K FK) := own_mono (own_later (own_later HO7.out HY8.out) HY9.out) (by show w.heap.size + 2 ≤ W1.drew.heap.size; exact e1)
        have o8 : OwnI x9 (w.heap.size + 2) (.slice A8 n8 c8) (lessL R FR) := own_mono (own_later HO8.out HY9.out) (by omega)
        have o7' : OwnI Z w.heap.size (.slice A7 n7 c7) (lessL K FK) := own_mono (own_same o7 fun g hg _ => hqo g (by omega)) (by omega)
        have o8' : OwnI Z w.heap.size (.slice A8 n8 c8) (lessL R FR) := own_mono (own_same o8 fun g hg _ => hqo g (by omega)) (by omega)
        refine ⟨_, _, [.int .i64 k, .string (ba nm), .int .i64 v, .slice A5 n5 c5, .slice A6 n6 c6, .int .i64 rv], FK, FR, K, R, rfl, o7', o8', And.imp id (fun h => Tree1.mono h (by omega)) (HTF.out Z ⟨hqa.size, fun b hlt hn => hqo b fun e => hn (by show b < x8.heap.size + 2; omega)⟩), HEt.out, HFt.out, HFKa.out, HFRa.out, HXX.out, (HB1.out.trans (hq9.mono HB1.out.size)).trans (hqa.mono (Nat.le_succ _))⟩
theorem general_any (w : World) (ev : Value) (E : List Ty) (t : Ty) (l : List Value) (he : EnvB w ev E) (hE : E.length ≤ 1000) (hEs : ∀ u ∈ E, u.size ≤ 1000) (ht : TRV w t l) (htw : TWV w t l) (hs : t.size ≤ 1000) :
    Calls Try.prog 24 #[ev, .agg l.toArray] w fun e w' => ∃ v1 v2 l' FK FR K R, e = .returned (schemeV v1 v2 l') ∧ OwnI w' w.heap.size v1 (lessL K FK) ∧ OwnI w' w.heap.size v2 (lessL R FR) ∧ (TFV w' t l' ∧ Tree1 (w.heap.size + 2) l' w') ∧
      Ext1 (inK t) (2 * t.size) [] K ∧ Ext1 (inR t) (2 * t.size) [] R ∧ (∀ n, n ∈ FK ↔ AnyK E n) ∧ (∀ n, n ∈ FR ↔ AnyR E n) ∧ True ∧ Below w.heap.size w w' :=
  general_core (fun _ _ => True) w ev E t l he hE hEs ht hs fun w7 hb => (varsW_any l t w7 (htw.later hb) (by omega)).mono fun e w' ⟨v1, v2, K, R, h1, h2, h3, h4, h5, h6⟩ => ⟨v1, v2, K, R, h1, h2, h3, h4, h5, trivial, h6⟩
theorem generalE_any (w : World) (ev : Value) (E : List Ty) (t : Ty) (l : List Value) (he : EnvB w ev E) (hE : E.length ≤ 1000) (hEs : ∀ u ∈ E, u.size ≤ 1000) (ht : TFV w t l) (hs : t.size ≤ 1000) :
    Calls Try.prog 24 #[ev, .agg l.toArray] w fun e w' => ∃ v1 v2 l' FK FR K R, e = .returned (schemeV v1 v2 l') ∧ OwnI w' w.heap.size v1 (lessL K FK) ∧ OwnI w' w.heap.size v2 (lessL R FR) ∧ (TFV w' t l' ∧ Tree1 (w.heap.size + 2) l' w') ∧
      Ext1 (inK t) (2 * t.size) [] K ∧ Ext1 (inR t) (2 * t.size) [] R ∧ (∀ n, n ∈ FK ↔ AnyK E n) ∧ (∀ n, n ∈ FR ↔ AnyR E n) ∧ ((∀ n, inK t n → n ∈ K) ∧ ∀ n, inR t n → n ∈ R) ∧ Below w.heap.size w w' :=
  general_core (fun K R => (∀ n, inK t n → n ∈ K) ∧ ∀ n, inR t n → n ∈ R) w ev E t l he hE hEs ht.trv hs fun w7 hb => (varsE_any l t w7 (ht.later hb) (by omega)).mono fun e w' ⟨v1, v2, K, R, h1, h2, h3, h4, h5, h6, h7, h8⟩ => ⟨v1, v2, K, R, h1, h2, h3, h4, h5, ⟨h6, h7⟩, h8⟩
end Go.Proofs.Ythdfomcpoofkaaa
