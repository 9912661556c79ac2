/- Package scheme: Instance, where the one type becomes the other one. -/
import Derived.Test.YthdfomcpoofkaaaMg39
import Derived.Test.YthdfomcpoofkaaaScMc
import Derived.Test.YthdfomcpoofkaaaMg33
import Derived.Test.YthdfomcpoofkaaaMg24
import Derived.Test.YthdfomcpoofkaaaMg20
import Derived.Test.YthdfomcpoofkaaaScMw
import Derived.Test.YthdfomcpoofkaaaMg13
import Derived.Test.YthdfomcpoofkaaaMg12
import Derived.Outline
namespace Go.Proofs.Ythdfomcpoofkaaa.Si
open Go.RowKit

/-- What Instance asks of a scheme's type, and of what becomes of it. -/
structure InstJ (s : Ins) (t : Ty) : Prop where
  small : t.size ≤ 900
  smallU : (ins s t).size ≤ 1000
  srt : srtT t
  fit : Fit s
theorem inst_tail (w x z : World) (p bm bk br : Nat) (s1 s2 : Value) (s : Ins) (t : Ty) {l lu : List Value} (ht : TFV w t l) (hu : TRV w (ins s t) lu ∧ TWV w (ins s t) lu) (htree : ∃ N0, Tree1 N0 l w) (hok : InstJ s t) (hsz : z.heap.size = x.heap.size) (hoz : ∀ g, g ≠ p → z.heap[g]? = x.heap[g]?) (hxl : ∃ c, Lies x p 97 c)
    (hl : Lies z p 97 (matC s1 s2 l bk br (.slice none 0 0) (.slice none 0 0) (.slice none 0 0) bm))
    (hA : MapI x 0 bk s.K.length (inG s.K)) (hB : MapI x 0 br s.R.length (inG s.R)) (hM : KeyM x bm []) (hlow : w.heap.size ≤ p ∧ p < x.heap.size ∧ w.heap.size ≤ bk ∧ w.heap.size ≤ bm ∧ w.heap.size ≤ br) (hne : bm ≠ bk ∧ bm ≠ br) (hbel : Below w.heap.size w z) :
    Calls Try.prog 51 #[.pointer (some ⟨p, 0, none⟩), .agg lu.toArray] z fun e w' => e = .returned (.bool true) ∧ Below w.heap.size w w' := by
  obtain ⟨l1, l2, l3, l4, l5⟩ := hlow
  obtain ⟨N0, htree⟩ := htree
  have a1 := hA.lt
  have b1 := hB.lt
  have m1' := hM.lt
  obtain ⟨cx, hxl⟩ := hxl
  have hxl : x.heap[p]? = _ := hxl
  have e1 : p ≠ bm := fun e => by
    obtain ⟨es, c, h⟩ := hM.isMap
    rw [← e, hxl] at h
    cases h
  have e2 : p ≠ bk := fun e => by
    obtain ⟨es, c, h, _⟩ := hA.isMap
    rw [← e, hxl] at h
    cases h
  have e3 : p ≠ br := fun e => by
    obtain ⟨es, c, h, _⟩ := hB.isMap
    rw [← e, hxl] at h
    cases h
  refine becomes_ins (w0 := w) (p := p) (bm := bm) (bk := bk) (br := br) (B := z.heap.size) (s1 := s1) (s2 := s2) (s := s) ⟨⟨by omega, by omega⟩, ⟨by omega, by omega⟩, ⟨by omega, by omega⟩, ⟨by omega, by omega⟩, e1, e2, e3, hne.1, hne.2⟩ hok.fit ht htree hu.1 hu.2 ⟨⟨.slice none 0 0, .slice none 0 0, .slice none 0 0, ⟨hl, World.ownsRow_nil _ _ _ _, hM.keep (hoz bm (fun e => e1 e.symm)) (fun x hx => by cases hx)⟩, SubV.none _ _⟩, ⟨_, hA.keep (hoz bk (fun e => e2 e.symm))⟩, ⟨_, hB.keep (hoz br (fun e => e3 e.symm))⟩, hbel, Nat.le_refl _, fun x hx => by cases hx⟩ hok.small hok.smallU hok.srt
theorem instance_ins (w : World) (v1 v2 : Value) (s : Ins) (t : Ty) (l lu : List Value) (h1 : IntR w v1 s.K) (hA : s.K.length ≤ 100000000) (h2 : IntR w v2 s.R) (hBl : s.R.length ≤ 100000000) (ht : TFV w t l) (htree : ∃ N0, Tree1 N0 l w) (hu : TRV w (ins s t) lu) (huw : TWV w (ins s t) lu) (hok : InstJ s t) :
    Calls Try.prog 27 #[schemeV v1 v2 l, .agg lu.toArray] w fun e w' => e = .returned (.bool true) ∧ Below w.heap.size w w' :=
  instance_core w v1 v2 s.K s.R _ t (ins s t) l lu h1 hA h2 hBl ht.trv hu fun x z p bm bk br s1 s2 hsz hoz hxl hl hA' hB' hM hlow hne hbel => inst_tail w x z p bm bk br s1 s2 s t ht ⟨hu, huw⟩ htree hok hsz hoz hxl hl hA' hB' hM hlow hne hbel
end Go.Proofs.Ythdfomcpoofkaaa.Si

/- SchemeInstances: what is put in the stead of bound variables, as logic. -/
namespace Go.Proofs.Ythdfomcpoofkaaa.Si
open Go.RowKit

theorem instJ_of {K R : List Int} {T : Int → Option Ty} {Q : Int → Option (List Str × Int)} {t : Ty} (hn : nice t) (hs : t.size ≤ 30) (h0 : (0 : Int) ∉ R) (hK : ∀ n ∈ K, i64ok n) (hR : ∀ n ∈ R, i64ok n) (ho : Only K R T Q) (hQ : ∀ n u, Q n = some u → Rw.sortS u.1 = u.1) (hT : ∀ n u, T n = some u → u.size ≤ 10) : InstJ (insOf K R T Q) t := by
  refine ⟨by omega, ?_, hn.srt, ⟨h0, fun n _ => ?_, hK, hR⟩⟩
  · rw [← ap_ins ho h0 t hn, Ri.pcs_size]
    have := pcs_le (T := T) (by decide) hT t
    show pcsT T t ≤ 1000
    omega
  · show Rw.sortS ((Q n).getD ([], n)).1 = ((Q n).getD ([], n)).1
    cases hq : Q n with
    | none => simp [Rw.sortS]
    | some u => exact hQ n u hq
theorem only_id (K R : List Int) : Only K R T0 R0 := ⟨fun _ _ => rfl, fun _ _ => rfl⟩
theorem only_fr (K R : List Int) (a b : Int) : Only K R (frT K a T0) (frR R b R0) := ⟨fun n hn => by rw [frT_no _ _ _ _ hn]; rfl, fun n hn => by rw [frR_no _ _ _ _ hn]; rfl⟩
theorem fr_small (K : List Int) (a n : Int) (u : Ty) (h : frT K a T0 n = some u) : u.size ≤ 1 := by
  by_cases hn : n ∈ K
  · obtain ⟨k, _, e⟩ := frT_in K a T0 n hn
    rw [e] at h
    injection h with h
    rw [← h]
    simp [tvT8, Ty.size, Ty.sizeL]
  · rw [frT_no _ _ _ _ hn] at h
    cases h
theorem fr_row (R : List Int) (a n : Int) (u : List Str × Int) (h : frR R a R0 n = some u) : u.1 = [] := by
  by_cases hn : n ∈ R
  · obtain ⟨k, _, e⟩ := frR_in R a R0 n hn
    rw [e] at h
    injection h with h
    rw [← h]
  · rw [frR_no _ _ _ _ hn] at h
    cases h
def withT (K : List Int) (o : Ty) : Int → Option Ty := match K with | [] => T0 | a :: _ => setF T0 a o
def withR (R : List Int) (r : List Str × Int) : Int → Option (List Str × Int) := match R with | [] => R0 | a :: _ => setF R0 a r
theorem withT_is {K : List Int} {o : Ty} {n : Int} {u : Ty} (h : withT K o n = some u) : n ∈ K ∧ u = o := by
  cases K with
  | nil => cases h
  | cons a r =>
    have h : (if n = a then some o else T0 n) = some u := h
    by_cases e : n = a
    · rw [if_pos e] at h; injection h with h; exact ⟨by rw [e]; exact List.mem_cons_self .., h.symm⟩
    · rw [if_neg e] at h; cases h
theorem withR_is {R : List Int} {r : List Str × Int} {n : Int} {u : List Str × Int} (h : withR R r n = some u) : n ∈ R ∧ u = r := by
  cases R with
  | nil => cases h
  | cons a l =>
    have h : (if n = a then some r else R0 n) = some u := h
    by_cases e : n = a
    · rw [if_pos e] at h; injection h with h; exact ⟨by rw [e]; exact List.mem_cons_self .., h.symm⟩
    · rw [if_neg e] at h; cases h
theorem only_with (K R : List Int) (o : Ty) (r : List Str × Int) : Only K R (withT K o) (withR R r) := by
  refine ⟨fun n hn => ?_, fun n hn => ?_⟩
  · cases h : withT K o n with
    | none => rfl
    | some u => exact absurd (withT_is h).1 hn
  · cases h : withR R r n with
    | none => rfl
    | some u => exact absurd (withR_is h).1 hn
/-- The three that are asked: as it is, fresh, and with something in the stead of the first ones. -/
theorem inst_id {K R : List Int} {t : Ty} (hn : nice t) (hs : t.size ≤ 30) (h0 : (0 : Int) ∉ R) (hK : ∀ n ∈ K, i64ok n) (hR : ∀ n ∈ R, i64ok n) : InstJ (insOf K R T0 R0) t :=
  instJ_of hn hs h0 hK hR (only_id K R) (fun n u h => by cases h) (fun n u h => by cases h)
theorem inst_fr {K R : List Int} {t : Ty} (a b : Int) (hn : nice t) (hs : t.size ≤ 30) (h0 : (0 : Int) ∉ R) (hK : ∀ n ∈ K, i64ok n) (hR : ∀ n ∈ R, i64ok n) : InstJ (insOf K R (frT K a T0) (frR R b R0)) t :=
  instJ_of hn hs h0 hK hR (only_fr K R a b) (fun n u h => by rw [fr_row _ _ _ _ h]; simp [Rw.sortS]) (fun n u h => Nat.le_trans (fr_small _ _ _ _ h) (by omega))
theorem inst_with {K R : List Int} {t o : Ty} {r : List Str × Int} (hn : nice t) (hs : t.size ≤ 30) (hos : o.size ≤ 10) (hr : Rw.sortS r.1 = r.1) (h0 : (0 : Int) ∉ R) (hK : ∀ n ∈ K, i64ok n) (hR : ∀ n ∈ R, i64ok n) : InstJ (insOf K R (withT K o) (withR R r)) t :=
  instJ_of hn hs h0 hK hR (only_with K R o r) (fun n u h => by rw [(withR_is h).2]; exact hr) (fun n u h => by rw [(withT_is h).2]; exact hos)
theorem free_fr {K R : List Int} {t : Ty} {m : Nat} (a b : Int) (hm : m ≤ 1500000) (hl : labs m t) : Ri.rowsFree ⟨frT K a T0, frR R b R0⟩ t := labs_fit hm (fun n u h => by rw [fr_row _ _ _ _ h]; simp) t hl
theorem free_with {K R : List Int} {t o : Ty} {r : List Str × Int} {m : Nat} (hm : m ≤ 1500000) (hl : labs m t) (hr : r.1.length ≤ 100000) : Ri.rowsFree ⟨withT K o, withR R r⟩ t := labs_fit hm (fun n u h => by rw [(withR_is h).2]; exact hr) t hl
theorem pcs_fr {K : List Int} {t : Ty} (a : Int) (hs : t.size ≤ 30) : pcsT (frT K a T0) t ≤ 1000 := by
  have := pcs_le (T := frT K a T0) (M := 1) (by decide) (fun n u h => fr_small _ _ _ _ h) t
  omega
theorem pcs_with {K : List Int} {t o : Ty} (hs : t.size ≤ 30) (hos : o.size ≤ 10) : pcsT (withT K o) t ≤ 1000 := by
  have := pcs_le (T := withT K o) (M := 10) (by decide) (fun n u h => by rw [(withT_is h).2]; exact hos) t
  omega
end Go.Proofs.Ythdfomcpoofkaaa.Si

/- Package scheme: Fresh, where one type variable is bound, and no row variable. -/
namespace Go.Proofs.Ythdfomcpoofkaaa
open Go.RowKit

theorem onceL_one (a : Int) : onceL [a] = [a] := by simp [onceL]
theorem onceL_nil : onceL [] = [] := by simp [onceL]
set_option maxRecDepth 100000 in
set_option maxHeartbeats 16000000 in
theorem fresh1_any (w : World) (v1 v2 : Value) (a nx : Int) (ha : i64ok a) (hx0 : 0 ≤ nx) (hx1 : nx ≤ 1000000) (t : Ty) (l : List Value) (h1 : IntR w v1 [a]) (h2 : IntR w v2 []) (ht : TFV w t l) (hp : pcsT (setF T0 a (tvT8 nx)) t ≤ 1000) :
    Calls Try.prog 26 #[schemeV v1 v2 l, .int .i64 nx] w fun e w' => ∃ l', e = .returned (.tuple #[.agg l'.toArray, .int .i64 (nx + 1)]) ∧ TFV w' (apT (setF T0 a (tvT8 nx)) t) l' ∧ Below w.heap.size w w' := by
  obtain ⟨A1, c1, rfl⟩ := h1.one
  obtain ⟨A2, c2, rfl⟩ := h2.one
  have ht0 := ht
  obtain ⟨k, nm, v, kids, ls, rv⟩ := t
  obtain ⟨A3, n3, c3, A4, n4, c4, rfl⟩ := ht.trv.shape
  generalize hT : Ty.mk k nm v kids ls rv = t at *
  unfold schemeV
  unfold tyC at ht0 ⊢
  obtain ⟨W, hW⟩ : ∃ W, W = (w.alloc (.cells #[.slice A1 1 c1, .slice A2 0 c2, .int .i64 k, .string (ba nm), .int .i64 v, .slice A3 n3 c3, .slice A4 n4 c4, .int .i64 rv] 62)).alloc (.cells zeroT 28) := ⟨_, rfl⟩
  have hb : Below w.heap.size w W := by rw [hW]; exact ((Below.refl _ w).alloc (Nat.le_refl _) _).alloc (by simp) _
  have k0 : Lies W w.heap.size 62 #[.slice A1 1 c1, .slice A2 0 c2, .int .i64 k, .string (ba nm), .int .i64 v, .slice A3 n3 c3, .slice A4 n4 c4, .int .i64 rv] := by rw [hW]; exact (Lies.new _ _ _).alloc _
  have k4 : Lies W (w.heap.size + 1) 28 zeroT := by rw [hW]; exact Lies.new' _ _ _ (by simp)
  have hsW : W.heap.size = w.heap.size + 2 := by rw [hW]; simp
  have hn := none_any W
  unfold noneV at hn
  have HN := Lib.hid hn
  have HW := Lib.hid hW
  have HB := Lib.hid hb
  have HK0 := Lib.hid k0
  have HK4 := Lib.hid k4
  have HSW := Lib.hid hsW
  have H1 := Lib.hid h1
  have H2 := Lib.hid h2
  have HT := Lib.hid ht0
  have HP := Lib.hid hp
  unfold zeroT at HW
  clear hn hW hb k0 k4 h1 h2 ht ht0 hT hsW hp
  go_enter Try.func26, Try.ntmps26
  go_wp2_with fail
  rw [← HW.out]
  refine HN.out.mono ?_
  rintro e w1 ⟨rfl, hb1⟩
  have hB1 := HB.out.trans (hb1.mono HB.out.size)
  obtain ⟨X, hX⟩ : ∃ X, X = w1.alloc (.cells #[.slice none 0 0, .slice none 0 0] 38) := ⟨_, rfl⟩
  have hbX : Below W.heap.size W X := by rw [hX]; exact hb1.trans ((below_new w1 _).mono hb1.size)
  have l6 : Lies X w1.heap.size 38 #[.slice none 0 0, .slice none 0 0] := by rw [hX]; exact Lies.new _ _ _
  have q0 : w1.cell? ⟨w.heap.size, 0, none⟩ = some (.slice A1 1 c1) := (HK0.out.later hb1).cell 0
  have qX := (HK0.out.later hbX).cell 0
  rw [hX] at qX
  have hw1 := hb1.size
  have hsW := HSW.out
  have ho := once_any X [a] _ (H1.out.later (HB.out.trans (hbX.mono HB.out.size))) (by simp)
  rw [onceL_one] at ho
  have HX := Lib.hid hX
  have HBX := Lib.hid hbX
  have HL6 := Lib.hid l6
  have HO := Lib.hid ho
  clear hX hbX l6 ho hb1 hB1
  go_wp2_with fail
  rw [← HX.out]
  refine HO.out.mono ?_
  rintro e w2 ⟨v2', rfl, ho2, hb2⟩
  obtain ⟨A5, c5, rfl, hc5, _, h5⟩ := IntR.of_own ho2 (by intro n hn; rw [List.mem_singleton.1 hn]; exact ha)
  obtain ⟨_, g5, o5, rfl, x5⟩ := h5 0 a rfl
  simp only [List.length_cons, List.length_nil, Nat.zero_add, Nat.add_zero] at x5 hc5 ⊢
  have hX2 : Below W.heap.size W w2 := HBX.out.trans (hb2.mono HBX.out.size)
  have l2 := HL6.out.later hb2
  have hgl : g5 < w2.heap.size := World.block_lt_of_cell? w2 _ x5
  have hg5 : g5 ≠ w1.heap.size := by
    intro e
    have h0 := own_block ho2 g5 rfl
    have h1 := HL6.out.lt
    omega
  have HX2 := Lib.hid hX2
  have HL2 := Lib.hid l2
  have HB2 := Lib.hid hb2
  have HO2 := Lib.hid ho2
  clear hX2 l2 hb2 ho2 h5
  go_wp2_with fail
  go_loopw [1, 16] (fun nn i wr => Below W.heap.size W wr ∧ wr.cell? ⟨g5, o5, none⟩ = some (.int .i64 a) ∧ ((i = .int .i64 0 ∧ nn = .int .i64 nx ∧ Lies wr w1.heap.size 38 #[.slice none 0 0, .slice none 0 0]) ∨
    (i = .int .i64 1 ∧ nn = .int .i64 (nx + 1) ∧ ∃ C1 m1 d1 C2 m2 d2, Lies wr w1.heap.size 38 #[.slice C1 m1 d1, .slice C2 m2 d2] ∧ SubV wr (.agg #[.slice C1 m1 d1, .slice C2 m2 d2]) 1 (setF T0 a (tvT8 nx)) R0))) (fun _ i _ => 1 - (intOf i).toNat)
  case atStart => exact ⟨HX2.out, x5, .inl ⟨rfl, rfl, HL2.out⟩⟩
  case round =>
    obtain ⟨hBr, xr, hcase⟩ := hrel
    obtain ⟨wo, rfl⟩ : ∃ wo, wo = wr := ⟨_, rfl⟩
    rcases hcase with ⟨rfl, rfl, hl⟩ | ⟨rfl, rfl, C1, m1, d1, C2, m2, d2, hl, hsv⟩
    · have y0 := hl.cell 0
      have y1 := hl.cell 1
      have hst := setType_any (fun b => b = w1.heap.size) wo noneV 0 T0 R0 (SubV.none _ _) (by omega) a ha (tvT8 nx) _ (leaf_tfv wo 7 nx (i64s 7 (by omega) (by omega)) (i64s nx (by omega) (by omega))).trv (by simp [tvT8, Ty.size, Ty.sizeL])
      unfold noneV at hst
      have HST := Lib.hid hst
      have HLo := Lib.hid hl
      have HBr := Lib.hid hBr
      have HXR := Lib.hid xr
      clear hst hl hBr
      go_wp2_with fail
      refine HST.out.mono ?_
      rintro e w4 ⟨sv, rfl, hsv, hb4⟩
      obtain ⟨C1, m1, d1, C2, m2, d2, rfl⟩ : ∃ B1 m1 d1 B2 m2 d2, sv = .agg #[.slice B1 m1 d1, .slice B2 m2 d2] := by
        obtain ⟨vt, vr, _, _, h1, h2, h3, _⟩ := hsv w4 ⟨Nat.le_refl _, fun _ _ _ => rfl⟩
        obtain ⟨a1, a2, a3, rfl⟩ := h2.one
        obtain ⟨a4, a5, a6, rfl⟩ := h3.one
        exact ⟨_, _, _, _, _, _, h1⟩
      have l4 := HLo.out.later hb4
      have f0 := l4.free 0
      have f1 := l4.free 1
      have y0 := l4.cell 0
      have y1 := l4.cell 1
      have HSV := Lib.hid hsv
      have HB4 := Lib.hid hb4
      have HL4 := Lib.hid l4
      clear hsv hb4 l4
      go_wp2_with fail
      obtain ⟨w5, hw5⟩ : ∃ w5, w5 = (w4.setCell ⟨w1.heap.size, 0, none⟩ (.slice C1 m1 d1)).setCell ⟨w1.heap.size, 1, none⟩ (.slice C2 m2 d2) := ⟨_, rfl⟩
      have hoth : ∀ g, g ≠ w1.heap.size → w5.heap[g]? = w4.heap[g]? := fun g hg => by rw [hw5]; exact (Below.heap_setCell _ ⟨w1.heap.size, 1, none⟩ _ g hg).trans (Below.heap_setCell _ ⟨w1.heap.size, 0, none⟩ _ g hg)
      have hs5 : w5.heap.size = w4.heap.size := by rw [hw5]; simp [World.size_setCell]
      have hl5 : Lies w5 w1.heap.size 38 #[.slice C1 m1 d1, .slice C2 m2 d2] := by rw [hw5]; exact (HL4.out.set 0 _).set 1 _
      have hb5 : Below W.heap.size W w5 := (HBr.out.trans (HB4.out.mono HBr.out.size)).trans (by rw [hw5]; exact ((Below.refl W.heap.size w4).setCell (p := ⟨w1.heap.size, 0, none⟩) (by show W.heap.size ≤ w1.heap.size; exact hw1) _).setCell (p := ⟨w1.heap.size, 1, none⟩) (by show W.heap.size ≤ w1.heap.size; exact hw1) _)
      have hsv5 := HSV.out w5 ⟨by omega, fun b hb hn => hoth b (fun e => hn ⟨e, by have := HLo.out.lt; omega⟩)⟩
      have hxr5 : w5.cell? ⟨g5, o5, none⟩ = some (.int .i64 a) := (World.cell?_of_block (w := wo) (a := ⟨g5, o5, none⟩) ((hoth g5 hg5).trans (HB4.out.block g5 (World.block_lt_of_cell? wo _ HXR.out)))).trans HXR.out
      rw [← hw5]
      clear hw5
      go_roundw
      case rel => exact ⟨hb5, hxr5, .inr ⟨by simp, by simp, C1, m1, d1, C2, m2, d2, hl5, hsv5⟩⟩
      case measure => (simp [intOf] <;> omega)
    · have r1 := (HK0.out.later hBr).cell 1
      have hwo := HB.out.trans (hBr.mono HB.out.size)
      have ho3 := once_any wo [] _ (H2.out.later hwo) (by simp)
      rw [onceL_nil] at ho3
      have HO3 := Lib.hid ho3
      have HBr := Lib.hid hBr
      have HSVo := Lib.hid hsv
      have HLo := Lib.hid hl
      clear ho3 hBr hsv hl xr hwo
      go_wp2_with fail
      refine HO3.out.mono ?_
      rintro e w6 ⟨v6, rfl, ho6, hb6⟩
      obtain ⟨A6, c6, rfl, _⟩ := IntR.of_own ho6 (by simp)
      simp only [List.length_nil]
      have hBr6 := HBr.out.trans (hb6.mono HBr.out.size)
      have HB6 := Lib.hid hb6
      have HBr6 := Lib.hid hBr6
      clear ho6 hb6 hBr6 r1
      go_wp2_with fail
      go_loopw [1, 32] (fun nn i wr => nn = .int .i64 (nx + 1) ∧ i = .int .i64 0 ∧ wr = w6) (fun _ _ _ => 0)
      case atStart => exact ⟨rfl, rfl, rfl⟩
      case round =>
        obtain ⟨rfl, rfl, hwr⟩ := hrel
        subst hwr
        have l6 := HLo.out.later HB6.out
        have y0 := l6.cell 0
        have y1 := l6.cell 1
        have m2 := HK0.out.later HBr6.out
        have z2 := m2.cell 2
        have z3 := m2.cell 3
        have z4 := m2.cell 4
        have z5 := m2.cell 5
        have z6 := m2.cell 6
        have z7 := m2.cell 7
        have hw6 := HB.out.trans (HBr6.out.mono HB.out.size)
        have hap := apply_any _ _ 1 _ R0 (HSVo.out.later HB6.out) (by omega) t _ (HT.out.keep hw6.block).trv (rowsFree0 _ t) HP.out
        have m4 := HK4.out.later HBr6.out
        have HAP := Lib.hid hap
        have HM4 := Lib.hid m4
        have HW6 := Lib.hid hw6
        clear hap m4 l6 m2 hw6
        go_wp2_with fail
        refine HAP.out.mono ?_
        rintro e w7 ⟨l7, rfl, htf, hb7⟩
        have htf7 := htf w7 ⟨Nat.le_refl _, fun _ _ _ => rfl⟩
        obtain ⟨k7, nm7, v7, A7, n7, c7, B7, m7, d7, rv7, rfl⟩ := htf7.trv.shp
        unfold tyC at htf ⊢
        have m47 := HM4.out.later hb7
        unfold zeroT at m47
        have f0 := m47.free 0
        have f1 := m47.free 1
        have f2 := m47.free 2
        have f3 := m47.free 3
        have f4 := m47.free 4
        have f5 := m47.free 5
        have g0 := m47.cell 0
        have g1 := m47.cell 1
        have g2 := m47.cell 2
        have g3 := m47.cell 3
        have g4 := m47.cell 4
        have g5' := m47.cell 5
        have HTF := Lib.hid htf
        have HB7 := Lib.hid hb7
        have HM47 := Lib.hid m47
        clear htf hb7 m47 htf7 y0 y1 z2 z3 z4 z5 z6 z7
        go_wp2_with fail
        have hz := (((((HM47.out.set 0 (.int .i64 k7)).set 1 (.string (ba nm7))).set 2 (.int .i64 v7)).set 3 (.slice A7 n7 c7)).set 4 (.slice B7 m7 d7)).set 5 (.int .i64 rv7)
        obtain ⟨Z, hZ⟩ : ∃ Z, Z = (((((w7.setCell ⟨w.heap.size + 1, 0, none⟩ (.int .i64 k7)).setCell ⟨w.heap.size + 1, 1, none⟩ (.string (ba nm7))).setCell ⟨w.heap.size + 1, 2, none⟩ (.int .i64 v7)).setCell ⟨w.heap.size + 1, 3, none⟩ (.slice A7 n7 c7)).setCell ⟨w.heap.size + 1, 4, none⟩ (.slice B7 m7 d7)).setCell ⟨w.heap.size + 1, 5, none⟩ (.int .i64 rv7) := ⟨_, rfl⟩
        have hoz : ∀ g, g ≠ w.heap.size + 1 → Z.heap[g]? = w7.heap[g]? := fun g hg => by rw [hZ]; exact (Below.heap_setCell _ ⟨w.heap.size + 1, 5, none⟩ _ g hg).trans ((Below.heap_setCell _ ⟨w.heap.size + 1, 4, none⟩ _ g hg).trans ((Below.heap_setCell _ ⟨w.heap.size + 1, 3, none⟩ _ g hg).trans ((Below.heap_setCell _ ⟨w.heap.size + 1, 2, none⟩ _ g hg).trans ((Below.heap_setCell _ ⟨w.heap.size + 1, 1, none⟩ _ g hg).trans (Below.heap_setCell _ ⟨w.heap.size + 1, 0, none⟩ _ g hg)))))
        have hsz : Z.heap.size = w7.heap.size := by rw [hZ]; simp [World.size_setCell]
        have hbz : Below w.heap.size w7 Z := by rw [hZ]; exact (((((((Below.refl (w.heap.size + 1) w7).setCell (p := ⟨w.heap.size + 1, 0, none⟩) (Nat.le_refl _) _).setCell (p := ⟨w.heap.size + 1, 1, none⟩) (Nat.le_refl _) _).setCell (p := ⟨w.heap.size + 1, 2, none⟩) (Nat.le_refl _) _).setCell (p := ⟨w.heap.size + 1, 3, none⟩) (Nat.le_refl _) _).setCell (p := ⟨w.heap.size + 1, 4, none⟩) (Nat.le_refl _) _).setCell (p := ⟨w.heap.size + 1, 5, none⟩) (Nat.le_refl _) _).mono (Nat.le_succ _)
        rw [← hZ] at hz ⊢
        refine bodyPost_ret (Sb.results_ct rfl _ _ (w.heap.size + 1) 28 _ (0, 0) _ rfl hz Try.underlying28 rfl (by kernel_rfl) rfl) rfl ?_
        have hw67 := HB7.out.size
        have hw6s := HBr6.out.size
        refine ⟨_, rfl, HTF.out Z ⟨by omega, fun b hb hn => hoz b (fun e => hn ?_)⟩, HW6.out.trans ((HB7.out.mono HW6.out.size).trans hbz)⟩
        show b < _ + 3
        omega
end Go.Proofs.Ythdfomcpoofkaaa
