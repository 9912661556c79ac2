/- Package scheme: can a part of a type become another type, but for what is put down? -/
import Derived.Test.YthdfomcpoofkaaaMg14
import Derived.Test.YthdfomcpoofkaaaMg15
import Derived.Test.YthdfomcpoofkaaaMg16
import Derived.Outline
namespace Go.Proofs.Ythdfomcpoofkaaa
open Go.RowKit

/-- Can the head of a type become that of another one? -/
def hdM (K : List Int) : Ty → Ty → Bool
  | .mk k nm v kids ls rv, .mk k' nm' v' kids' ls' rv' => if k = 7 ∧ v ∈ K then true else decide (k = k' ∧ nm = nm' ∧ v = v' ∧ kids.length = kids'.length ∧ rv = rv' ∧ ls = ls')
def BdOk (K : List Int) (k v : Int) (T : Int → Option Ty) : Prop := k = 7 → v ∈ K → T v = none
def NotB (K : List Int) (k v : Int) : Prop := ¬ (k = 7 ∧ v ∈ K)
theorem hdM_neg {K : List Int} {k : Int} {nm : Str} {v : Int} {kids : List Ty} {ls : List Str} {rv : Int} {k' : Int} {nm' : Str} {v' : Int} {kids' : List Ty} {ls' : List Str} {rv' : Int} (h : NotB K k v) : hdM K (.mk k nm v kids ls rv) (.mk k' nm' v' kids' ls' rv') = decide (k = k' ∧ nm = nm' ∧ v = v' ∧ kids.length = kids'.length ∧ rv = rv' ∧ ls = ls') := if_neg h
theorem hdM_pos {K : List Int} {k : Int} {nm : Str} {v : Int} {kids : List Ty} {ls : List Str} {rv : Int} (u : Ty) (h : k = 7 ∧ v ∈ K) : hdM K (.mk k nm v kids ls rv) u = true := by
  obtain ⟨k', nm', v', kids', ls', rv'⟩ := u
  exact if_pos h
def PartRel (K : List Int) (m : Nat) (T : Int → Option Ty) (L : List Nat) (ks : List Pr) (t u : Ty) (fv tv : Value) (m' : Nat) (T' : Int → Option Ty) (L' : List Nat) (ks' : List Pr) : Prop :=
  match t with
  | .mk k _ v kids _ _ => match u with
    | .mk _ _ _ kids' _ _ => ((k = 7 ∧ v ∈ K) ∧ m' = m + 1 ∧ T' = setF T v u ∧ L' = L ∧ ks' = ks) ∨ (¬ (k = 7 ∧ v ∈ K) ∧ m' = m ∧ T' = T ∧ LatRel L ks fv tv kids.length kids'.length L' ks')
def PartEnd (w0 : World) (p bm bk br B : Nat) (s1 s2 : Value) (l : List Value) (K : List Int) (m : Nat) (T : Int → Option Ty) (L : List Nat) (ks : List Pr) (t u : Ty) (fv tv : Value) (e : Ending) (W' : World) : Prop :=
  ∃ b, e = .returned (.bool b) ∧ b = hdM K t u ∧ Below w0.heap.size w0 W' ∧ (b = true → ∃ m' T' L' ks', MT w0 p bm bk br B s1 s2 l K m' T' L' ks' W' ∧ PartRel K m T L ks t u fv tv m' T' L' ks')
def cell3 (l : List Value) : Value := l[3]?.getD undef
set_option maxRecDepth 100000 in
set_option maxHeartbeats 40000000 in
theorem part_any {w0 : World} {p bm bk br B : Nat} (hc : MC w0 p bm bk br B) {s1 s2 : Value} {l : List Value} (hl6 : l.length = 6) {K : List Int} {m : Nat} {T : Int → Option Ty} {L : List Nat} {ks : List Pr} {w : World} (h : MT w0 p bm bk br B s1 s2 l K m T L ks w) (hks : ks.length ≤ 1000000) (hm : m ≤ 1000)
    (t u : Ty) (lf lu : List Value) (hf : TFV w0 t lf) (hu : TRV w0 u lu) (hts : t.size ≤ 1000000) (hus : u.size ≤ 1000)
    (hsrt : ∀ k nm v kids ls rv, t = .mk k nm v kids ls rv → Rw.sortS ls = ls) (hnew : ∀ g, rtOf lf g → g ∉ L) (hbd : ∀ k nm v kids ls rv, t = .mk k nm v kids ls rv → k = 7 → v ∈ K → T v = none) :
    Calls Try.prog 64 #[.pointer (some ⟨p, 0, none⟩), .agg lf.toArray, .agg lu.toArray] w (PartEnd w0 p bm bk br B s1 s2 l K m T L ks t u (cell3 lf) (cell3 lu)) := by
  obtain ⟨k, nm, v, kids, ls, rv⟩ := t
  have hu0 := hu
  have hus0 := hus
  obtain ⟨kv, lv, rfl, hkv, hlv, hok, _⟩ := hf
  have hsr := hsrt _ _ _ _ _ _ rfl
  have hbd := hbd _ _ _ _ _ _ rfl
  obtain ⟨ku, nmu, vu, kidsu, lsu, rvu⟩ := u
  obtain ⟨kv2, lv2, rfl, hkv2, hlv2, hok2, _⟩ := hu
  have hkl : kids.length ≤ 1000000 := by have := sizeL_lenG kids; simp only [Ty.size] at hts; omega
  have hkl2 : kidsu.length ≤ 1000000 := by have := sizeL_lenG kidsu; simp only [Ty.size] at hus; omega
  have hlat := later_u hc hl6 h hks kv kv2 kids.length kidsu.length hkv hkl hkv2 hkl2 (fun g e => hnew g ⟨_, _, by rw [e]; rfl⟩)
  have hrow := fun W m' L' ks' (h' : MT w0 p bm bk br B s1 s2 l K m' T L' ks' W) (hm' : m' ≤ 1000) => (show Calls Try.prog 79 #[.pointer (some ⟨p, 0, none⟩), .agg #[lv, .int .i64 rv], .agg #[lv2, .int .i64 rvu]] W fun e w' => e = .returned (.bool (decide (rv = rvu ∧ ls = lsu))) ∧ Below W.heap.size W w' from by
    obtain ⟨⟨v1, v2, td, ⟨a1, a2, a3⟩, a4⟩, a5, a6, a7, a8, a9⟩ := h'
    exact mrow_any W p s1 s2 l hl6 bk br v1 v2 td bm a1 m' T (a4.keepL (blank_to (Y := fun _ => False) (Kept.of_below (Below.refl _ _)) (fun _ _ h => h.elim))) (by omega) a6 lv lv2 ls lsu rv rvu (hlv.keep a7.block) (hlv2.keep a7.block) hok.2.2 hsr)
  obtain ⟨A3, n3, c3, rfl⟩ : ∃ A n c, kv = .slice A n c := by obtain ⟨A, c, h, _⟩ := hkv.slr.form; exact ⟨_, _, _, h⟩
  obtain ⟨B3, o3, d3, rfl⟩ : ∃ A n c, kv2 = .slice A n c := by obtain ⟨A, c, h, _⟩ := hkv2.form; exact ⟨_, _, _, h⟩
  obtain ⟨A4, n4, c4, rfl⟩ : ∃ A n c, lv = .slice A n c := by rcases hlv.1 with ⟨rfl, _⟩ | ⟨_, _, rfl, _⟩ <;> exact ⟨_, _, _, rfl⟩
  obtain ⟨B4, o4, d4, rfl⟩ : ∃ A n c, lv2 = .slice A n c := by rcases hlv2.1 with ⟨rfl, _⟩ | ⟨_, _, rfl, _⟩ <;> exact ⟨_, _, _, rfl⟩
  obtain rfl : n3 = kids.length := by obtain ⟨A, c, h, _⟩ := hkv.slr.form; injection h
  obtain rfl : o3 = kidsu.length := by obtain ⟨A, c, h, _⟩ := hkv2.form; injection h
  obtain ⟨n3, hn3⟩ : ∃ n, n = kids.length := ⟨_, rfl⟩
  obtain ⟨o3, ho3⟩ : ∃ n, n = kidsu.length := ⟨_, rfl⟩
  have HN3 := Lib.hid hn3
  have HO3 := Lib.hid ho3
  have e8 : ∀ W, Below w.heap.size w W → p < w.heap.size ∧ W.cell? ⟨p, 8, none⟩ = some (.map (some bk)) := fun W hb => by
    obtain ⟨⟨v1, v2, td, ⟨a1, _, _⟩, _⟩, _⟩ := h.later hb
    obtain ⟨⟨b1, b2, btd, ⟨c1, _, _⟩, _⟩, _⟩ := h
    refine ⟨c1.lt, ?_⟩
    obtain ⟨x0, x1, x2, x3, x4, x5, rfl⟩ : ∃ a b c d e f, l = [a, b, c, d, e, f] := by
      match l, hl6 with
      | [a, b, c, d, e, f], _ => exact ⟨a, b, c, d, e, f, rfl⟩
    exact a1.cell 8
  unfold tyC at hu0 ⊢
  rw [← hn3, ← ho3] at hlat
  rw [← ho3] at hu0
  have HU0 := Lib.hid hu0
  rw [← hn3, ← ho3]
  obtain ⟨W, hW⟩ : ∃ W, W = (w.alloc (.cells #[.int .i64 k, .string (ba nm), .int .i64 v, .slice A3 n3 c3, .slice A4 n4 c4, .int .i64 rv] 28)).alloc (.cells #[.int .i64 ku, .string (ba nmu), .int .i64 vu, .slice B3 o3 d3, .slice B4 o4 d4, .int .i64 rvu] 28) := ⟨_, rfl⟩
  have hb : Below w.heap.size w W := by rw [hW]; exact ((Below.refl _ w).alloc (Nat.le_refl _) _).alloc (by simp) _
  have k0 : Lies W w.heap.size 28 #[.int .i64 k, .string (ba nm), .int .i64 v, .slice A3 n3 c3, .slice A4 n4 c4, .int .i64 rv] := by rw [hW]; exact (Lies.new _ _ _).alloc _
  have k1 : Lies W (w.heap.size + 1) 28 #[.int .i64 ku, .string (ba nmu), .int .i64 vu, .slice B3 o3 d3, .slice B4 o4 d4, .int .i64 rvu] := by rw [hW]; exact Lies.new' _ _ _ (by simp)
  have hSS : ∀ V, Below W.heap.size W V → V.cell? ⟨w.heap.size, 0, none⟩ = some (.int .i64 k) ∧ V.cell? ⟨w.heap.size, 2, none⟩ = some (.int .i64 v) ∧ V.cell? ⟨p, 8, none⟩ = some (.map (some bk)) := fun V hV =>
    ⟨(hV.cell (p := ⟨w.heap.size, 0, none⟩) k0.lt).trans (k0.cell 0), (hV.cell (p := ⟨w.heap.size, 2, none⟩) k0.lt).trans (k0.cell 2), (e8 V (hb.trans (hV.mono hb.size))).2⟩
  have hpl := (e8 w (Below.refl _ _)).1
  have HSZ := Lib.hid (show w.heap.size + 2 ≤ W.heap.size by rw [hW]; simp)
  have HM10 := Lib.hid hm
  have hd : Below W.heap.size W W.drew := (Below.refl _ _).drew
  have HW := Lib.hid hW
  have HB := Lib.hid hb
  have HK0 := Lib.hid k0
  have HK1 := Lib.hid k1
  have HSS := Lib.hid hSS
  have HLAT := Lib.hid hlat
  have HROW := Lib.hid hrow
  have HM := Lib.hid h
  have HC := Lib.hid hc
  have HBD := Lib.hid (show BdOk K k v T from hbd)
  have HOK := Lib.hid hok
  have HUS := Lib.hid hus0
  have HL6 := Lib.hid hl6
  clear hW hb k0 k1 hSS hlat hrow h hc hbd hok hus0 hok2 hu0 e8 hn3 ho3 hkv hlv hkv2 hlv2 hnew hsrt hts hus hkl hkl2 hsr hl6 hks
  go_enter Try.func64, Try.ntmps64
  go_wp2_with fail
  rw [← HW.out]
  by_cases hk7 : k = 7
  case neg =>
    have hk7b : (k == 7) = false := by simpa using hk7
    have HNB := Lib.hid (show NotB K k v from fun h => hk7 h.1)
    refine wp_region_held_drew (S := (fun V => V.cell? ⟨w.heap.size, 0, none⟩ = some (.int .i64 k) ∧ V.cell? ⟨w.heap.size, 2, none⟩ = some (.int .i64 v) ∧ V.cell? ⟨p, 8, none⟩ = some (.map (some bk)))) (by kernel_rfl) ?_ (fun hHeld => ?_)
    · exact HSS.out _ hd
    refine wpAnyH_take (i := 0) (oi := ⟨some 7, _, _, _, _, _⟩) (v := ?_) rfl (by kernel_rfl) (by kernel_rfl) (by kernel_rfl) (fun _ _ _ h => h) (Or.inl ⟨by kernel_rfl, ?_⟩) (by assumption) ?_
    rotate_left
    · (intro w' hSw; (try dsimp only at hSw); go_split_ands; go_simp; first | done | with_reducible rfl)
    try simp only [Act.put, List.setIfInBounds_toArray, List.set_cons_zero, List.set_cons_succ]
    refine wpAnyH_take (i := 1) (oi := ⟨some 8, _, _, _, _, _⟩) (v := ?_) rfl (by kernel_rfl) (by kernel_rfl) (by kernel_rfl) (fun _ _ _ h => h) (Or.inl ⟨by kernel_rfl, ?_⟩) (by assumption) ?_
    rotate_left
    · (intro w' hSw; (try dsimp only at hSw); go_split_ands; go_simp; first | done | with_reducible rfl)
    try simp only [Act.put, List.setIfInBounds_toArray, List.set_cons_zero, List.set_cons_succ]
    refine wpAnyH_take (i := 2) (oi := ⟨some 9, _, _, _, _, _⟩) (v := ?_) rfl (by kernel_rfl) (by kernel_rfl) (by kernel_rfl) (fun _ _ _ h => h) (Or.inl ⟨by kernel_rfl, ?_⟩) (by assumption) ?_
    rotate_left
    · (intro w' hSw; (try dsimp only at hSw); go_split_ands; go_simp; first | done | with_reducible rfl)
    try simp only [Act.put, List.setIfInBounds_toArray, List.set_cons_zero, List.set_cons_succ]
    refine wpAnyH_take (i := 3) (oi := ⟨some 10, _, _, _, _, _⟩) (v := ?_) rfl (by kernel_rfl) (by kernel_rfl) (by kernel_rfl) (fun _ _ _ h => h) (Or.inl ⟨by kernel_rfl, ?_⟩) (by assumption) ?_
    rotate_left
    · (intro w' hSw; (try dsimp only at hSw); go_split_ands; go_simp; first | done | with_reducible rfl)
    try simp only [Act.put, List.setIfInBounds_toArray, List.set_cons_zero, List.set_cons_succ]
    refine wpAnyH_take (i := 4) (oi := ⟨some 11, _, _, _, _, _⟩) (v := undef) rfl (by kernel_rfl) (by kernel_rfl) (by kernel_rfl) (fun _ _ _ h => h) (Or.inr ⟨by kernel_rfl, rfl⟩) (by assumption) ?_
    try simp only [Act.put, List.setIfInBounds_toArray, List.set_cons_zero, List.set_cons_succ]
    refine wpAnyH_take (i := 5) (oi := ⟨some 12, _, _, _, _, _⟩) (v := undef) rfl (by kernel_rfl) (by kernel_rfl) (by kernel_rfl) (fun _ _ _ h => h) (Or.inr ⟨by kernel_rfl, rfl⟩) (by assumption) ?_
    try simp only [Act.put, List.setIfInBounds_toArray, List.set_cons_zero, List.set_cons_succ]
    refine wpAnyH_take (i := 6) (oi := ⟨some 13, _, _, _, _, _⟩) (v := undef) rfl (by kernel_rfl) (by kernel_rfl) (by kernel_rfl) (fun _ _ _ h => h) (Or.inr ⟨by kernel_rfl, rfl⟩) (by assumption) ?_
    try simp only [Act.put, List.setIfInBounds_toArray, List.set_cons_zero, List.set_cons_succ]
    refine wpAnyH_take (i := 7) (oi := ⟨some 14, _, _, _, _, _⟩) (v := undef) rfl (by kernel_rfl) (by kernel_rfl) (by kernel_rfl) (fun _ _ _ h => h) (Or.inr ⟨by kernel_rfl, rfl⟩) (by assumption) ?_
    try simp only [Act.put, List.setIfInBounds_toArray, List.set_cons_zero, List.set_cons_succ]
    refine wpAnyH_take (i := 8) (oi := ⟨some 15, _, _, _, _, _⟩) (v := undef) rfl (by kernel_rfl) (by kernel_rfl) (by kernel_rfl) (fun _ _ _ h => h) (Or.inr ⟨by kernel_rfl, rfl⟩) (by assumption) ?_
    try simp only [Act.put, List.setIfInBounds_toArray, List.set_cons_zero, List.set_cons_succ]
    refine wpAnyH_take (i := 9) (oi := ⟨some 16, _, _, _, _, _⟩) (v := undef) rfl (by kernel_rfl) (by kernel_rfl) (by kernel_rfl) (fun _ _ _ h => h) (Or.inr ⟨by kernel_rfl, rfl⟩) (by assumption) ?_
    try simp only [Act.put, List.setIfInBounds_toArray, List.set_cons_zero, List.set_cons_succ]
    refine wpAnyH_take (i := 10) (oi := ⟨some 17, _, _, _, _, _⟩) (v := undef) rfl (by kernel_rfl) (by kernel_rfl) (by kernel_rfl) (fun _ _ _ h => h) (Or.inr ⟨by kernel_rfl, rfl⟩) (by assumption) ?_
    try simp only [Act.put, List.setIfInBounds_toArray, List.set_cons_zero, List.set_cons_succ]
    refine wpAnyH_take (i := 11) (oi := ⟨some 18, _, _, _, _, _⟩) (v := ?_) rfl (by kernel_rfl) (by kernel_rfl) (by kernel_rfl) (fun _ _ _ h => h) (Or.inl ⟨by kernel_rfl, ?_⟩) (by assumption) ?_
    rotate_left
    · (intro w' hSw; (try dsimp only at hSw); go_split_ands; go_simp; first | done | with_reducible rfl)
    try simp only [Act.put, List.setIfInBounds_toArray, List.set_cons_zero, List.set_cons_succ]
    refine wpAnyH_done (by kernel_rfl) ?_ _
    have y3 := (HK0.out.later hd).cell 3
    have z3 := (HK1.out.later hd).cell 3
    go_wp2_with fail
    clear y3 z3
    refine (HLAT.out W.drew (HB.out.trans (hd.mono HB.out.size))).mono ?_
    rintro e w9 ⟨rfl, ⟨L', ks', hrel, hmt⟩, hs9, hke9⟩
    have hsW : w.heap.size + 2 ≤ W.heap.size := HSZ.out
    have hsX := hd.size
    have m0 : Lies w9 w.heap.size 28 _ := (hke9 w.heap.size (Nat.le_refl _) (by omega)).trans (HK0.out.later hd)
    have m1 : Lies w9 (w.heap.size + 1) 28 _ := (hke9 (w.heap.size + 1) (by omega) (by omega)).trans (HK1.out.later hd)
    have hm10 := HM10.out
    have hro := HROW.out w9 m L' ks' hmt hm10
    have hw09 := hmt.bel
    have a0 := m0.cell 0
    have b0 := m1.cell 0
    have a1 := m0.cell 1
    have b1 := m1.cell 1
    have a2 := m0.cell 2
    have b2 := m1.cell 2
    have a3 := m0.cell 3
    have b3 := m1.cell 3
    have a4 := m0.cell 4
    have b4 := m1.cell 4
    have a5 := m0.cell 5
    have b5 := m1.cell 5
    have HRO := Lib.hid hro
    have HREL := Lib.hid hrel
    have HMT := Lib.hid hmt
    have HW09 := Lib.hid hw09
    clear hrel hmt hs9 hke9 hsX m0 m1 hro hw09
    by_cases hkk : k = ku
    case neg =>
      go_wp2_with fail
      go_ret
      exact ⟨false, ret_bool (by simp), (by rw [hdM_neg HNB.out]; simp [hkk]), HW09.out, fun h => (by cases h)⟩
    subst hkk
    by_cases hnn : nm = nmu
    case neg =>
      have hbne : ((ba nm).toList == (ba nmu).toList) = false := by simpa [baS_toList] using hnn
      go_wp2_with fail
      go_ret
      exact ⟨false, ret_bool (by simp), (by rw [hdM_neg HNB.out]; simp [hnn]), HW09.out, fun h => (by cases h)⟩
    subst hnn
    by_cases hvv : v = vu
    case neg =>
      go_wp2_with fail
      go_ret
      exact ⟨false, ret_bool (by simp), (by rw [hdM_neg HNB.out]; simp [hvv]), HW09.out, fun h => (by cases h)⟩
    subst hvv
    by_cases hll : n3 = o3
    case neg =>
      have hlli : ¬ (n3 : Int) = (o3 : Int) := by omega
      go_wp2_with fail
      go_ret
      exact ⟨false, ret_bool (by simp), (by rw [hdM_neg HNB.out, ← HN3.out, ← HO3.out]; simp [hll]), HW09.out, fun h => (by cases h)⟩
    have hlli : (n3 : Int) = (o3 : Int) := by omega
    go_wp2_with fail
    refine HRO.out.mono ?_
    rintro e w10 ⟨rfl, hb10⟩
    go_wp2_with fail
    go_ret
    have hk3 := HN3.out
    have ho3 := HO3.out
    refine ⟨_, ret_bool rfl, ?_, HW09.out.trans (hb10.mono HW09.out.size), fun _ => ⟨m, T, L', ks', HMT.out.later hb10, ?_⟩⟩
    · rw [hdM_neg HNB.out]
      simp [← hk3, ← ho3, hll]
    · unfold PartRel
      refine .inr ⟨HNB.out, rfl, rfl, ?_⟩
      rw [← hk3, ← ho3]
      exact HREL.out
  case pos =>
    subst hk7
    obtain ⟨q8, hq8⟩ := HM.out.kin
    have hhas := has_any W.drew bk q8 K v (hq8.later (HB.out.trans (hd.mono HB.out.size))) HOK.out.2.1
    have HHAS := Lib.hid hhas
    clear hhas hq8
    go_region_held3 (fun V => V.cell? ⟨w.heap.size, 0, none⟩ = some (.int .i64 7) ∧ V.cell? ⟨w.heap.size, 2, none⟩ = some (.int .i64 v) ∧ V.cell? ⟨p, 8, none⟩ = some (.map (some bk)))
      (first | with_reducible exact HSS.out _ hd | with_reducible exact HSS.out _ hq9)
      (first | (go_at_call 63; refine HHAS.out.mono ?_; rintro e w8 ⟨rfl, hb8⟩; have hq9 : Below W.heap.size W w8 := hd.trans (hb8.mono hd.size)))
    by_cases hvK : v ∈ K
    case neg =>
      have HNB := Lib.hid (show NotB K 7 v from fun h => hvK h.2)
      have hvd : decide (v ∈ K) = false := decide_eq_false hvK
      rw [hvd]
      have y3 := (HK0.out.later hq9).cell 3
      have z3 := (HK1.out.later hq9).cell 3
      go_wp2_with fail
      clear y3 z3
      refine (HLAT.out w8 (HB.out.trans (hq9.mono HB.out.size))).mono ?_
      rintro e w9 ⟨rfl, ⟨L', ks', hrel, hmt⟩, hs9, hke9⟩
      have hsW : w.heap.size + 2 ≤ W.heap.size := HSZ.out
      have hsX := hq9.size
      have m0 : Lies w9 w.heap.size 28 _ := (hke9 w.heap.size (Nat.le_refl _) (by omega)).trans (HK0.out.later hq9)
      have m1 : Lies w9 (w.heap.size + 1) 28 _ := (hke9 (w.heap.size + 1) (by omega) (by omega)).trans (HK1.out.later hq9)
      have hm10 := HM10.out
      have hro := HROW.out w9 m L' ks' hmt hm10
      have hw09 := hmt.bel
      have a0 := m0.cell 0
      have b0 := m1.cell 0
      have a1 := m0.cell 1
      have b1 := m1.cell 1
      have a2 := m0.cell 2
      have b2 := m1.cell 2
      have a3 := m0.cell 3
      have b3 := m1.cell 3
      have a4 := m0.cell 4
      have b4 := m1.cell 4
      have a5 := m0.cell 5
      have b5 := m1.cell 5
      have HRO := Lib.hid hro
      have HREL := Lib.hid hrel
      have HMT := Lib.hid hmt
      have HW09 := Lib.hid hw09
      clear hrel hmt hs9 hke9 hsX m0 m1 hro hw09
      by_cases hkk : (7:Int) = ku
      case neg =>
        go_wp2_with fail
        go_ret
        exact ⟨false, ret_bool (by simp), (by rw [hdM_neg HNB.out]; simp [hkk]), HW09.out, fun h => (by cases h)⟩
      subst hkk
      by_cases hnn : nm = nmu
      case neg =>
        have hbne : ((ba nm).toList == (ba nmu).toList) = false := by simpa [baS_toList] using hnn
        go_wp2_with fail
        go_ret
        exact ⟨false, ret_bool (by simp), (by rw [hdM_neg HNB.out]; simp [hnn]), HW09.out, fun h => (by cases h)⟩
      subst hnn
      by_cases hvv : v = vu
      case neg =>
        go_wp2_with fail
        go_ret
        exact ⟨false, ret_bool (by simp), (by rw [hdM_neg HNB.out]; simp [hvv]), HW09.out, fun h => (by cases h)⟩
      subst hvv
      by_cases hll : n3 = o3
      case neg =>
        have hlli : ¬ (n3 : Int) = (o3 : Int) := by omega
        go_wp2_with fail
        go_ret
        exact ⟨false, ret_bool (by simp), (by rw [hdM_neg HNB.out, ← HN3.out, ← HO3.out]; simp [hll]), HW09.out, fun h => (by cases h)⟩
      have hlli : (n3 : Int) = (o3 : Int) := by omega
      go_wp2_with fail
      refine HRO.out.mono ?_
      rintro e w10 ⟨rfl, hb10⟩
      go_wp2_with fail
      go_ret
      have hk3 := HN3.out
      have ho3 := HO3.out
      refine ⟨_, ret_bool rfl, ?_, HW09.out.trans (hb10.mono HW09.out.size), fun _ => ⟨m, T, L', ks', HMT.out.later hb10, ?_⟩⟩
      · rw [hdM_neg HNB.out]
        simp [← hk3, ← ho3, hll]
      · unfold PartRel
        refine .inr ⟨HNB.out, rfl, rfl, ?_⟩
        rw [← hk3, ← ho3]
        exact HREL.out
    case pos =>
      have hvd : decide (v ∈ K) = true := decide_eq_true hvK
      rw [hvd]
      have hw8 := HB.out.trans (hq9.mono HB.out.size)
      obtain ⟨⟨v1, v2, td, ⟨a1, a2, a3⟩, a4⟩, ⟨q5, a5⟩, a6, a7, a8, a9⟩ := HM.out.later hw8
      have hTv := HBD.out rfl hvK
      have hbn := bound_any (fun b => b = p ∨ b = bm ∨ td.ownBlock = some b) w8 p (.inl rfl) s1 s2 l HL6.out bk br v1 v2 td bm a1 m T a4 HM10.out v HOK.out.2.1 hTv (by rw [hTv]; intro u hu; cases hu) _ _ (HU0.out.keep a7.block) HUS.out
      have hpo : ∀ x, td.ownBlock = some x → B ≤ x ∧ x < w8.heap.size := own_block a2
      have HBN := Lib.hid hbn
      have HA := Lib.hid (And.intro a1 (And.intro a2 (And.intro a3 (And.intro a5 (And.intro a6 (And.intro a7 a8))))))
      have HPO := Lib.hid hpo
      have HTV := Lib.hid hTv
      clear hbn a1 a2 a3 a4 a5 a6 a7 a8 hpo hTv hw8
      have y2 := (HK0.out.later hq9).cell 2
      have z0 := (HK1.out.later hq9).cell 0
      have z1 := (HK1.out.later hq9).cell 1
      have z2 := (HK1.out.later hq9).cell 2
      have z3 := (HK1.out.later hq9).cell 3
      have z4 := (HK1.out.later hq9).cell 4
      have z5 := (HK1.out.later hq9).cell 5
      go_wp2_with fail
      refine HBN.out.mono ?_
      rintro e w9 ⟨x1, x2, rfl, hl9, hsv, hch⟩
      have HL9 := Lib.hid hl9
      have HSV := Lib.hid hsv
      have HCH := Lib.hid hch
      clear hl9 hsv hch y2 z0 z1 z2 z3 z4 z5
      go_wp2_with fail
      go_ret
      obtain ⟨a1, a2, a3, a5, a6, a7, a8⟩ := HA.out
      obtain ⟨⟨p1, p2⟩, ⟨m1, m2⟩, ⟨k1, k2⟩, ⟨r1, r2⟩, n1, n2, n3, n4, n5⟩ := HC.out
      have hch := HCH.out
      have hke : ∀ i, i < w8.heap.size → i ≠ p → w9.heap[i]? = w8.heap[i]? := fun i h1 h2 => hch.block i h1 h2 h2 (fun e => by cases e)
      have hpo := HPO.out
      have hbw : Below w0.heap.size w0 w9 := ⟨hch.os.trans a7.os, hch.tape.trans a7.tape, hch.output.trans a7.output, Nat.le_trans a7.size hch.size, fun i hi => (hke i (by have := a7.size; omega) (by omega)).trans (a7.block i hi)⟩
      refine ⟨true, ret_bool (by simp), (hdM_pos _ ⟨rfl, hvK⟩).symm, hbw, fun _ => ⟨m + 1, _, L, ks, ⟨⟨x1, x2, td, ⟨HL9.out, own_same a2 fun i hi hlt => hke i hlt (by omega), a3.keep (hke bm a3.lt (fun e => n1 e.symm)) fun x hx => hke _ (a3.2 x hx).lt fun e => ?_⟩, HSV.out _ ⟨?_, fun b hb hn => blank_at fun hx => hn ⟨hx, ?_⟩⟩⟩, ⟨q5, a5.keep (hke bk (by omega) (fun e => n2 e.symm))⟩, a6.keep (hke br (by omega) (fun e => n3 e.symm)), hbw, by have := hch.size; omega, a9⟩, .inl ⟨⟨rfl, hvK⟩, rfl, rfl, rfl, rfl⟩⟩⟩
      · obtain ⟨y, hy, rfl⟩ := List.mem_map.1 hx
        have := a9 y hy
        have e : y = p := e
        omega
      · rw [blank_size]
        exact Nat.le_refl _
      · rcases hx with rfl | rfl | h
        · omega
        · omega
        · exact (hpo b h).2
end Go.Proofs.Ythdfomcpoofkaaa
