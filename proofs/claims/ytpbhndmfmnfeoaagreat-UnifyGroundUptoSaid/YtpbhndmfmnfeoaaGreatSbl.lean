/- become: what becomes of a type, but that its Args are still to do. -/
import Derived.Test.YtpbhndmfmnfeoaaGreatMg06
import Derived.Outline
namespace Go.Proofs.YtpbhndmfmnfeoaaGreat
open Go.RowKit

/-- The type that is copied, and whether it is met in what is said. -/
def hdT (T : Int → Option Ty) (said : Bool) (t : Ty) : Ty × Bool :=
  match t with
  | .mk k nm v kids ls rv => if said then (.mk k nm v kids ls rv, true) else match insT T k v with | some u => (u, true) | none => (.mk k nm v kids ls rv, false)
/-- What becomes of a type. -/
def fsT (T : Int → Option Ty) (said : Bool) (t : Ty) : Ty := if said then t else apT T t
theorem fsT_hd (T : Int → Option Ty) (said : Bool) (t : Ty) {k : Int} {nm : Str} {v : Int} {kids : List Ty} {ls : List Str} {rv : Int} {s0 : Bool} (h : hdT T said t = (.mk k nm v kids ls rv, s0)) : fsT T said t = .mk k nm v (kids.map (fsT T s0)) ls rv := by
  obtain ⟨k', nm', v', kids', ls', rv'⟩ := t
  have hid : ∀ l : List Ty, l.map (fsT T true) = l := fun l => by
    have : fsT T true = id := by funext t; rfl
    rw [this, List.map_id]
  cases said with
  | true =>
    simp only [hdT, if_true, Prod.mk.injEq] at h
    obtain ⟨h1, rfl⟩ := h
    rw [hid]
    exact h1
  | false =>
    simp only [hdT, Bool.false_eq_true, if_false] at h
    cases hi : insT T k' v' with
    | some u =>
      rw [hi] at h
      simp only [Prod.mk.injEq] at h
      obtain ⟨h1, rfl⟩ := h
      rw [hid]
      simp only [fsT, Bool.false_eq_true, if_false, apT, hi]
      exact h1
    | none =>
      rw [hi] at h
      simp only [Prod.mk.injEq, Ty.mk.injEq] at h
      obtain ⟨⟨rfl, rfl, rfl, rfl, rfl, rfl⟩, rfl⟩ := h
      have hf : fsT T false = apT T := by funext t; rfl
      simp only [hf, apT, hi, apTL_map]
/-- What become leaves. -/
def BecEnd (w0 w : World) (p B : Nat) (vt vr td : Value) (n : Nat) (tc : List Value) (k : Int) (nm : Str) (v : Int) (kids : List Ty) (ls : List Str) (rv : Int) (s0 : Bool) (e : Ending) (w' : World) : Prop :=
  ∃ kv' lv' td' n' tc', e = .returned (.agg (tyC k nm v kv' lv' rv).toArray) ∧ StrR w' lv' ls ∧ (∀ b, lv'.ownBlock = some b → w.heap.size ≤ b ∧ b < w'.heap.size ∧ td'.ownBlock ≠ some b) ∧ ApS w' p B vt vr td' n' tc' ∧
    (td'.ownBlock = td.ownBlock ∨ ∃ b, td'.ownBlock = some b ∧ w.heap.size ≤ b) ∧ Chg p td w w' ∧
    ((kids = [] ∧ kv' = .slice none 0 0 ∧ n' = n ∧ tc' = tc) ∨ (0 < kids.length ∧ ∃ G cur kv0, kv' = .slice (some ⟨G, 0, none⟩) kids.length kids.length ∧ w.heap.size ≤ G ∧ Lies w' G 44 cur ∧ cur.size = kids.length * 6 ∧ td'.ownBlock ≠ some G ∧
      (∀ b, lv'.ownBlock = some b → b ≠ G) ∧ n' = n + 1 ∧ tc' = tc ++ [kv0, kv', .bool s0] ∧ SlR kv0 kids.length ∧ ∀ (i : Nat) t, kids[i]? = some t → TR w0 (kidAt kv0 i) t))
theorem own_sameB {w w' : World} {B : Nat} {e : TypeId} {size n : Nat} {v : Value} {xs : List Value} (h : w.ownsRow B e size v n xs) (hs : ∀ g, v.ownBlock = some g → w'.heap[g]? = w.heap[g]?) : w'.ownsRow B e size v n xs := by
  refine ⟨h.1, ?_⟩
  rcases h.2 with h0 | ⟨g, cap, cur, h1, h2, h3, h4⟩
  · exact .inl h0
  · exact .inr ⟨g, cap, cur, h1, h2, (hs g (by rw [h1]; rfl)).trans h3, h4⟩
theorem insR_none {R : Int → Option (List Str × Int)} {rv : Int} (h : rv = 0 ∨ R rv = none) : insR R rv = none := by
  unfold insR
  by_cases h0 : rv = 0
  · rw [if_pos h0]
  · rw [if_neg h0]
    rcases h with h | h
    · exact absurd h h0
    · exact h
theorem ApS.below {w w' : World} {p B : Nat} {vt vr td : Value} {k : Nat} {tc : List Value} (h : ApS w p B vt vr td k tc) (hb : Below w.heap.size w w') : ApS w' p B vt vr td k tc := ⟨h.at_.later hb, own_later h.row hb⟩

set_option maxRecDepth 100000 in
set_option maxHeartbeats 16000000 in
theorem become_any (w0 w : World) (p B : Nat) (vt vr td : Value) (n : Nat) (tc : List Value) (m : Nat) (T : Int → Option Ty) (R : Int → Option (List Str × Int)) (hs : SubV w0 (.agg #[vt, vr]) m T R) (hm : m ≤ 1000000) (hB0 : Below w0.heap.size w0 w) (hpB : p < B) (hBw : B ≤ w.heap.size) (haps : ApS w p B vt vr td n tc) (hn : n ≤ 1000000)
    (t : Ty) (l : List Value) (ht : TRV w0 t l) (said : Bool) (hrf : said = true ∨ rowsFree R T t) (k : Int) (nm : Str) (v : Int) (kids : List Ty) (ls : List Str) (rv : Int) (s0 : Bool) (hd : hdT T said t = (.mk k nm v kids ls rv, s0)) (hkl : kids.length ≤ 1000000) :
    Calls Tryz.prog 44 #[.pointer (some ⟨p, 0, none⟩), .agg l.toArray, .bool said] w (BecEnd w0 w p B vt vr td n tc k nm v kids ls rv s0) := by
  obtain ⟨kO, nmO, vO, kidsO, lsO, rvO⟩ := t
  have ht0 := ht
  obtain ⟨kvO, lvO, rfl, hkvO, hlvO, hokO, hksO⟩ := ht
  obtain ⟨AO, cO, rfl, _, _⟩ := hkvO.form
  obtain ⟨AP, nP, cP, rfl⟩ : ∃ A n c, lvO = .slice A n c := by rcases hlvO.1 with ⟨rfl, _⟩ | ⟨_, _, rfl, _⟩ <;> exact ⟨_, _, _, rfl⟩
  have hsv := hs
  obtain ⟨vt', vr', gt, gr, hv, hst, hsr, htm, hrm⟩ := hs
  injection hv with hv
  obtain ⟨rfl, rfl⟩ : vt = vt' ∧ vr = vr' := by simpa using hv
  obtain ⟨A1, n1, c1, rfl⟩ := hst.one
  obtain ⟨A2, n2, c2, rfl⟩ := hsr.one
  clear hv
  unfold tyC at ht0 ⊢
  have HB0 := Lib.hid hB0
  have HAPS := Lib.hid haps
  have HKL := Lib.hid hkl
  have hap := haps.at_
  have hplt := hap.lt
  have c0 := hap.cell 0
  have c1' := hap.cell 1
  have HBwB := Lib.hid hBw
  obtain ⟨W, hW⟩ : ∃ W, W = ((w.alloc (.cells #[.int .i64 kO, .string (ba nmO), .int .i64 vO, .slice AO kidsO.length cO, .slice AP nP cP, .int .i64 rvO] 44)).alloc (.cells zeroT 44)).alloc (.cells #[.slice A1 n1 c1, .slice A2 n2 c2] 34) := ⟨_, rfl⟩
  have hbW : Below w.heap.size w W := by rw [hW]; exact (((Below.refl _ w).alloc (Nat.le_refl _) _).alloc (by simp) _).alloc (by simp; omega) _
  have k4 : Lies W w.heap.size 44 #[.int .i64 kO, .string (ba nmO), .int .i64 vO, .slice AO kidsO.length cO, .slice AP nP cP, .int .i64 rvO] := by rw [hW]; exact ((Lies.new' _ _ _ (by simp)).alloc _).alloc _
  have k6 : Lies W (w.heap.size + 1) 44 zeroT := by rw [hW]; exact (Lies.new' _ _ _ (by simp)).alloc _
  have k7 : Lies W (w.heap.size + 2) 34 #[.slice A1 n1 c1, .slice A2 n2 c2] := by rw [hW]; exact Lies.new' _ _ _ (by simp)
  have HW := Lib.hid hW
  have HBW := Lib.hid hbW
  have HK4 := Lib.hid k4
  have HK6 := Lib.hid k6
  have HK7 := Lib.hid k7
  clear hW hbW k4 k6 k7 hap
  unfold zeroT at HW
  cases said with
  | true =>
    simp only [hdT, if_true, Prod.mk.injEq] at hd
    obtain ⟨h1, h2⟩ := hd
    have h1 := h1.symm
    injection h1 with e1 e2 e3 e4 e5 e6
    subst e1 e2 e3 e4 e5 e6 h2
    have HSL := Lib.hid hkvO
    have HLS := Lib.hid hlvO
    have HOKS := Lib.hid hokO
    have HKIDS := Lib.hid hksO
    have HT0 := Lib.hid ht0
    have HNO := Lib.hid (show insR R0 rv = none by unfold insR R0; split <;> rfl)
    clear hkvO hlvO hokO hksO ht0 hrf hst hsr htm hrm hsv haps hB0 hBw hkl
    go_enter Tryz.func44, Tryz.ntmps44
    go_wp2_with fail
    rw [← HW.out]
    refine (none_any W).mono ?_
    rintro e w1 ⟨rfl, hb1⟩
    have j7 := HK7.out.later hb1
    unfold noneV
    go_wp2_with (first | (refine wpList_store_rowTo rfl 34 (.tmp 7) (.tmp 15) rfl rfl (w.heap.size + 2) #[.slice none 0 0, .slice none 0 0] rfl rfl 34 _ j7 (by kernel_rfl) rfl (by kernel_rfl) ?_; obtain ⟨V1, hV1⟩ : ∃ V1, V1 = w1.setRow (w.heap.size + 2) #[.slice none 0 0, .slice none 0 0] := ⟨_, rfl⟩; rw [← hV1]; have i7 : Lies V1 (w.heap.size + 2) 34 #[.slice none 0 0, .slice none 0 0] := (by rw [hV1]; exact Sb.setRow_at j7 _); have i4 : Lies V1 w.heap.size 44 #[.int .i64 k, .string (ba nm), .int .i64 v, .slice AO kids.length cO, .slice AP nP cP, .int .i64 rv] := (by rw [hV1]; exact Sb.setRow_far (HK4.out.later hb1) _ (by omega)); have i6 : Lies V1 (w.heap.size + 1) 44 zeroT := (by rw [hV1]; exact Sb.setRow_far (HK6.out.later hb1) _ (by omega)); have hbV1 : Below w.heap.size w V1 := (by rw [hV1]; exact Sb.below_setRow (HBW.out.trans (hb1.mono HBW.out.size)) (by omega) _); have s0' := i7.cell 0; have s1' := i7.cell 1; have t0' := i4.cell 0; have t1' := i4.cell 1; have t2' := i4.cell 2; have t3' := i4.cell 3; have t4' := i4.cell 4; have t5' := i4.cell 5; have HI7 := Lib.hid i7; have HI4 := Lib.hid i4; have HI6 := Lib.hid i6; have HBV1 := Lib.hid hbV1; have HV1 := Lib.hid hV1; clear i7 i4 i6 hbV1 hV1 j7))
    refine (insTb_any w0 w0 V1 (.slice none 0 0) (.slice none 0 0) 0 T0 noG (SaidV.none V1 6 0) ⟨_, _, _, rfl⟩ (fun n _ => rfl) (by omega) k nm v kids ls rv _ HT0.out).mono ?_
    rintro e w2 ⟨hins, hb2⟩
    rw [insT0] at hins
    obtain rfl := hins
    obtain ⟨V, hVW⟩ : ∃ V, V = w2.alloc (.cells zeroT 44) := ⟨_, rfl⟩
    have hb2V : Below V1.heap.size V1 V := by rw [hVW]; exact hb2.trans ((below_new _ _).mono hb2.size)
    have bT := HI4.out.later hb2V
    have bZ := HI6.out.later hb2V
    have bS := HI7.out.later hb2V
    have hbV : Below w.heap.size w V := HBV1.out.trans (hb2V.mono HBV1.out.size)
    have HVW := Lib.hid hVW
    unfold zeroT at HVW ⊢
    clear hVW hb2V s0' s1' t0' t1' t2' t3' t4' t5'
    have HV := Lib.hid (hbV : Below w.heap.size w V)
    have z0 := bT.cell 4
    have z1 := bT.cell 5
    have y0 := bS.cell 0
    have y1 := bS.cell 1
    rw [HVW.out] at z0 z1 y0 y1
    have hBV0 : Below w0.heap.size w0 V := HB0.out.trans (hbV.mono HB0.out.size)
    have hrow := applyRow_any V noneV 0 T0 R0 (SubV.none V 0) (by omega) (.slice AP nP cP) ls rv (HLS.out.keep hBV0.block) HOKS.out.2.2 HNO.out
    have HROW := Lib.hid hrow
    have HBT := Lib.hid bT
    have HBZ := Lib.hid bZ
    have HBS := Lib.hid bS
    have lV := hbV.size
    have ltT := bT.lt
    have ltZ := bZ.lt
    clear hrow bT bZ bS hbV
    go_wp2_with fail
    rw [← HVW.out]
    refine HROW.out.mono ?_
    rintro e w5 ⟨lv', rfl, hol, hb5⟩
    have cT := HBT.out.later hb5
    have a4 := cT.cell 4
    have a5 := cT.cell 5
    have g4 := cT.free 4
    have g5 := cT.free 5
    have lt5 := cT.lt
    have HOL := Lib.hid hol
    obtain ⟨A7, n7, c7, rfl⟩ := own_slice hol
    obtain ⟨w6, hw6⟩ : ∃ w6, w6 = (w5.setCell ⟨w.heap.size, 4, none⟩ (.slice A7 n7 c7)).setCell ⟨w.heap.size, 5, none⟩ (.int .i64 rv) := ⟨_, rfl⟩
    have hb56 : Below w.heap.size w5 w6 := by rw [hw6]; exact ((Below.refl _ _).setCell (p := ⟨w.heap.size, 4, none⟩) (Nat.le_refl _) _).setCell (p := ⟨w.heap.size, 5, none⟩) (Nat.le_refl _) _
    have hob56 : ∀ i, i ≠ w.heap.size → w6.heap[i]? = w5.heap[i]? := fun i hi => by rw [hw6]; exact (Below.heap_setCell _ ⟨w.heap.size, 5, none⟩ _ i hi).trans (Below.heap_setCell _ ⟨w.heap.size, 4, none⟩ _ i hi)
    have hs56 : w6.heap.size = w5.heap.size := by rw [hw6]; simp [World.size_setCell]
    have dT : Lies w6 w.heap.size 44 #[.int .i64 k, .string (ba nm), .int .i64 v, .slice AO kids.length cO, .slice A7 n7 c7, .int .i64 rv] := by rw [hw6]; exact (cT.set 4 _).set 5 _
    have dZ : Lies w6 (w.heap.size + 1) 44 zeroT := (hob56 _ (by omega)).trans (HBZ.out.later hb5)
    have hBw5 : Below w.heap.size w w5 := HV.out.trans (hb5.mono HV.out.size)
    have hBw6 : Below w.heap.size w w6 := hBw5.trans hb56
    have aps6 : ApS w6 p B (.slice A1 n1 c1) (.slice A2 n2 c2) td n tc := HAPS.out.below hBw6
    have x3 := dT.cell 3
    rw [hw6] at x3
    have HW6 := Lib.hid hw6
    have HOB := Lib.hid hob56
    have HBW6 := Lib.hid hBw6
    have HDT := Lib.hid dT
    have HDZ := Lib.hid dZ
    have HAPS6 := Lib.hid aps6
    have HS56 := Lib.hid hs56
    have HB5 := Lib.hid hb5
    have hl6 : OwnL w6 V.heap.size (.slice A7 n7 c7) ls := own_same HOL.out fun i hi _ => HOB.out i (by omega)
    have HL6 := Lib.hid hl6
    have hV5 := hb5.size
    clear hol cT hw6 hb56 hob56 hs56 dT dZ hBw5 hBw6 aps6 hb5 hl6
    rcases Nat.eq_zero_or_pos kids.length with hk0 | hk0
    · have hkn : kids = [] := List.length_eq_zero_iff.1 hk0
      have hca := args_none w6 p (.slice AO kids.length cO) (by rw [hk0]; have := HSL.out; rw [hk0] at this; exact this) true
      have HCA := Lib.hid hca
      have HK0 := Lib.hid hk0
      have HKN := Lib.hid hkn
      clear hca hk0 hkn
      go_wp2_with fail
      rw [← HW6.out]
      refine HCA.out.mono ?_
      rintro e w7 ⟨rfl, rfl⟩
      have q3 := HDT.out.free 3
      have q3c := HDT.out.cell 3
      have q3l := HDT.out.lt
      have eT : Lies (w7.setCell ⟨w.heap.size, 3, none⟩ (.slice none 0 0)) w.heap.size 44 #[.int .i64 k, .string (ba nm), .int .i64 v, .slice none 0 0, .slice A7 n7 c7, .int .i64 rv] := HDT.out.set 3 (.slice none 0 0)
      have u0 := eT.cell 0
      have u1 := eT.cell 1
      have u2 := eT.cell 2
      have u3 := eT.cell 3
      have u4 := eT.cell 4
      have u5 := eT.cell 5
      have eZ := HDZ.out.far (p := ⟨w.heap.size, 3, none⟩) (by show w.heap.size + 1 ≠ w.heap.size; omega) (.slice none 0 0)
      have HET := Lib.hid eT
      clear eT
      have hc1 : (#[Value.int .i64 k, .string (ba nm), .int .i64 v, .slice none 0 0, .slice A7 n7 c7, .int .i64 rv] : Array Value).all (·.oneCell') = true := by kernel_rfl
      go_wp2_with (first | (refine wpList_store_rowTo rfl 44 (.tmp 6) (.tmp 36) rfl rfl (w.heap.size + 1) #[.int .i64 k, .string (ba nm), .int .i64 v, .slice none 0 0, .slice A7 n7 c7, .int .i64 rv] rfl rfl 44 _ eZ (by rw [size_T]; rfl) rfl hc1 ?_))
      have fT := Sb.setRow_at eZ #[.int .i64 k, .string (ba nm), .int .i64 v, .slice none 0 0, .slice A7 n7 c7, .int .i64 rv]
      refine bodyPost_ret (results_cell_row rfl _ _ (w.heap.size + 1) 44 _ (0, 0) _ rfl fT Tryz.underlying44 rfl (by rw [size_T]; rfl)) rfl ?_
      have hoth : ∀ i, i ≠ w.heap.size → i ≠ w.heap.size + 1 → ((w7.setCell ⟨w.heap.size, 3, none⟩ (.slice none 0 0)).setRow (w.heap.size + 1) #[.int .i64 k, .string (ba nm), .int .i64 v, .slice none 0 0, .slice A7 n7 c7, .int .i64 rv]).heap[i]? = w7.heap[i]? := fun i h1 h2 => (Sb.setRow_other _ _ _ i h2).trans (Below.heap_setCell _ ⟨w.heap.size, 3, none⟩ _ i h1)
      have hbF : Below w.heap.size w ((w7.setCell ⟨w.heap.size, 3, none⟩ (.slice none 0 0)).setRow (w.heap.size + 1) #[.int .i64 k, .string (ba nm), .int .i64 v, .slice none 0 0, .slice A7 n7 c7, .int .i64 rv]) := Sb.below_setRow (HBW6.out.setCell (p := ⟨w.heap.size, 3, none⟩) (Nat.le_refl _) _) (by omega) _
      have hown := own_same HL6.out fun i hi _ => hoth i (by omega) (by omega)
      refine ⟨.slice none 0 0, .slice A7 n7 c7, td, n, tc, rfl, OwnL.str hown HLS.out.2, fun b hb => ?_, HAPS.out.below hbF, .inl rfl, .of_below hbF, .inl ⟨HKN.out, rfl, rfl, rfl⟩⟩
      obtain ⟨h1, h2⟩ := own_block hown b hb
      exact ⟨by omega, h2, fun e => by have := (own_block HAPS.out.row b e).2; omega⟩
    · have hca := args_any w6 p B (.slice A1 n1 c1) (.slice A2 n2 c2) td n tc hpB (by have := HBW6.out.size; have := HBwB.out; omega) HAPS6.out hn (.slice AO kids.length cO) kids.length HSL.out hk0 HKL.out true
      have HCA := Lib.hid hca
      have HK0 := Lib.hid hk0
      clear hca hk0
      go_wp2_with fail
      rw [← HW6.out]
      refine HCA.out.mono ?_
      rintro e w7 ⟨G, td', cur, rfl, hG, hlG, hcur, haps, htG, htd, hchg⟩
      have htdw : ∀ i, w.heap.size ≤ i → td.ownBlock ≠ some i := fun i hi e => by have := (own_block HAPS.out.row i e).2; omega
      have h67 : ∀ i, w.heap.size ≤ i → i < w6.heap.size → w7.heap[i]? = w6.heap[i]? := fun i h1 h2 => hchg.block i h2 (by omega) (htdw i h1)
      have hw6s := HBW6.out.size
      have hw67 := hchg.size
      have hl6s := HDT.out.lt
      have hz6s := HDZ.out.lt
      have eT0 : Lies w7 w.heap.size 44 #[.int .i64 k, .string (ba nm), .int .i64 v, .slice AO kids.length cO, .slice A7 n7 c7, .int .i64 rv] := (h67 _ (Nat.le_refl _) hl6s).trans HDT.out
      have eZ0 : Lies w7 (w.heap.size + 1) 44 zeroT := (h67 _ (by omega) hz6s).trans HDZ.out
      have q3 := eT0.free 3
      have q3l := eT0.lt
      have q3c := eT0.cell 3
      have eT : Lies (w7.setCell ⟨w.heap.size, 3, none⟩ (.slice (some ⟨G, 0, none⟩) kids.length kids.length)) w.heap.size 44 #[.int .i64 k, .string (ba nm), .int .i64 v, .slice (some ⟨G, 0, none⟩) kids.length kids.length, .slice A7 n7 c7, .int .i64 rv] := eT0.set 3 (.slice (some ⟨G, 0, none⟩) kids.length kids.length)
      have u0 := eT.cell 0
      have u1 := eT.cell 1
      have u2 := eT.cell 2
      have u3 := eT.cell 3
      have u4 := eT.cell 4
      have u5 := eT.cell 5
      have eZ := eZ0.far (p := ⟨w.heap.size, 3, none⟩) (by show w.heap.size + 1 ≠ w.heap.size; omega) (.slice (some ⟨G, 0, none⟩) kids.length kids.length)
      have HCH := Lib.hid hchg
      have HLG := Lib.hid hlG
      have HAP := Lib.hid haps
      have HTD := Lib.hid htd
      have HTG := Lib.hid htG
      have HCUR := Lib.hid hcur
      have H67 := Lib.hid h67
      clear eT eT0 eZ0 hchg hlG haps htd htG hcur h67
      have hc1 : (#[Value.int .i64 k, .string (ba nm), .int .i64 v, .slice (some ⟨G, 0, none⟩) kids.length kids.length, .slice A7 n7 c7, .int .i64 rv] : Array Value).all (·.oneCell') = true := by kernel_rfl
      go_wp2_with (first | (refine wpList_store_rowTo rfl 44 (.tmp 6) (.tmp 36) rfl rfl (w.heap.size + 1) #[.int .i64 k, .string (ba nm), .int .i64 v, .slice (some ⟨G, 0, none⟩) kids.length kids.length, .slice A7 n7 c7, .int .i64 rv] rfl rfl 44 _ eZ (by rw [size_T]; rfl) rfl hc1 ?_))
      have fT := Sb.setRow_at eZ #[.int .i64 k, .string (ba nm), .int .i64 v, .slice (some ⟨G, 0, none⟩) kids.length kids.length, .slice A7 n7 c7, .int .i64 rv]
      refine bodyPost_ret (results_cell_row rfl _ _ (w.heap.size + 1) 44 _ (0, 0) _ rfl fT Tryz.underlying44 rfl (by rw [size_T]; rfl)) rfl ?_
      obtain ⟨wF, hwF⟩ : ∃ wF, wF = ((w7.setCell ⟨w.heap.size, 3, none⟩ (.slice (some ⟨G, 0, none⟩) kids.length kids.length)).setRow (w.heap.size + 1) #[.int .i64 k, .string (ba nm), .int .i64 v, .slice (some ⟨G, 0, none⟩) kids.length kids.length, .slice A7 n7 c7, .int .i64 rv]) := ⟨_, rfl⟩
      have hoth : ∀ i, i ≠ w.heap.size → i ≠ w.heap.size + 1 → wF.heap[i]? = w7.heap[i]? := fun i h1 h2 => by rw [hwF]; exact (Sb.setRow_other _ _ _ i h2).trans (Below.heap_setCell _ ⟨w.heap.size, 3, none⟩ _ i h1)
      have hsF : wF.heap.size = w7.heap.size := by rw [hwF, size_setRow, World.size_setCell]
      have hbF : Below w.heap.size w7 wF := by rw [hwF]; exact Sb.below_setRow ((Below.refl w.heap.size w7).setCell (p := ⟨w.heap.size, 3, none⟩) (Nat.le_refl _) _) (Nat.le_succ _) _
      rw [← hwF]
      have hw6c : w.heap.size + 2 ≤ w6.heap.size := by have := HDZ.out.lt; omega
      have hGs := HLG.out.lt
      have htdb : ∀ b, td'.ownBlock = some b → b < w.heap.size ∨ w6.heap.size ≤ b := fun b hb => by
        rcases HTD.out with h | ⟨b', h, h2⟩
        · rw [h] at hb; exact .inl (own_block HAPS.out.row b hb).2
        · rw [h] at hb; injection hb with hb; omega
      have hown : OwnL wF V.heap.size (.slice A7 n7 c7) ls := own_same HL6.out fun i hi h2 => (hoth i (by omega) (by omega)).trans (H67.out i (by omega) h2)
      have hlb : ∀ b, Value.ownBlock (.slice A7 n7 c7) = some b → V.heap.size ≤ b ∧ b < w6.heap.size := own_block HL6.out
      refine ⟨.slice (some ⟨G, 0, none⟩) kids.length kids.length, .slice A7 n7 c7, td', n + 1, _, rfl, OwnL.str hown HLS.out.2, fun b hb => ?_, ⟨(hoth p (by omega) (by omega)).trans HAP.out.at_, own_sameB HAP.out.row fun i hi => (hoth i (by rcases htdb i hi with h | h <;> omega) (by rcases htdb i hi with h | h <;> omega))⟩, ?_, ?_, .inr ⟨HK0.out, G, cur, .slice AO kids.length cO, rfl, by omega, (hoth G (by omega) (by omega)).trans HLG.out, HCUR.out, HTG.out, fun b hb => ?_, rfl, rfl, HSL.out, HKIDS.out⟩⟩
      · have h1 := hlb b hb
        exact ⟨by omega, by omega, fun e => by rcases htdb b e with h | h <;> omega⟩
      · rcases HTD.out with h | ⟨b', h, h2⟩
        · exact .inl h
        · exact .inr ⟨b', h, by omega⟩
      · refine ⟨hbF.os.trans (HCH.out.os.trans HBW6.out.os), hbF.tape.trans (HCH.out.tape.trans HBW6.out.tape), hbF.output.trans (HCH.out.output.trans HBW6.out.output), by omega, fun i h1 h2 h3 => (hbF.block i h1).trans ((HCH.out.block i (by omega) h2 h3).trans (HBW6.out.block i h1))⟩
      · have h1 := hlb b hb
        omega
  | false =>
    have hT0W : SaidV W 6 (.slice A1 n1 c1) m gt := hst.keep (HB0.out.trans (HBW.out.mono HB0.out.size)).block
    have hcall := insTb_any w0 w0 W (.slice A1 n1 c1) (.slice A2 n2 c2) m T gt hT0W ⟨_, _, _, rfl⟩ htm hm kO nmO vO kidsO lsO rvO _ ht0
    have HCALL := Lib.hid hcall
    have HSV := Lib.hid hsv
    have HHD := Lib.hid hd
    have HRF := Lib.hid hrf
    have HKV := Lib.hid hkvO
    have HLV := Lib.hid hlvO
    have HOK := Lib.hid hokO
    have HKSO := Lib.hid hksO
    clear hT0W hcall hst hsr htm hrm hsv haps hB0 hBw hkl hd hrf hkvO hlvO hokO hksO ht0
    go_enter Tryz.func44, Tryz.ntmps44
    go_wp2_with fail
    rw [← HW.out]
    refine HCALL.out.mono ?_
    rintro e w2 ⟨hins, hb2⟩
    cases hI : insT T kO vO with
    | none =>
      have hd := HHD.out
      have hrf := HRF.out
      simp only [hdT, Bool.false_eq_true, if_false, hI, Prod.mk.injEq] at hd
      simp only [Bool.false_eq_true, false_or, rowsFree, hI, Option.isSome_none] at hrf
      rw [hI] at hins
      obtain rfl := hins
      obtain ⟨h1, h2⟩ := hd
      have h1 := h1.symm
      injection h1 with e1 e2 e3 e4 e5 e6
      subst e1 e2 e3 e4 e5 e6 h2
      have HSL := HKV
      have HLS := HLV
      have HOKS := HOK
      have HKIDS := HKSO
      have HNO := Lib.hid (insR_none hrf.1)
      obtain ⟨V, hVW⟩ : ∃ V, V = w2.alloc (.cells zeroT 44) := ⟨_, rfl⟩
      have hb2V : Below W.heap.size W V := by rw [hVW]; exact hb2.trans ((below_new _ _).mono hb2.size)
      have bT := HK4.out.later hb2V
      have bZ := HK6.out.later hb2V
      have bS := HK7.out.later hb2V
      have hbV : Below w.heap.size w V := HBW.out.trans (hb2V.mono HBW.out.size)
      have HVW := Lib.hid hVW
      unfold zeroT at HVW ⊢
      clear hVW hb2V hrf hI
      have HV := Lib.hid (hbV : Below w.heap.size w V)
      have z0 := bT.cell 4
      have z1 := bT.cell 5
      have y0 := bS.cell 0
      have y1 := bS.cell 1
      rw [HVW.out] at z0 z1 y0 y1
      have hBV0 : Below w0.heap.size w0 V := HB0.out.trans (hbV.mono HB0.out.size)
      have hrow := applyRow_any V (.agg #[.slice A1 n1 c1, .slice A2 n2 c2]) m T R (HSV.out.later hBV0) hm (.slice AP nP cP) ls rv (HLS.out.keep hBV0.block) HOKS.out.2.2 HNO.out
      have HROW := Lib.hid hrow
      have HBT := Lib.hid bT
      have HBZ := Lib.hid bZ
      have HBS := Lib.hid bS
      have lV := hbV.size
      have ltT := bT.lt
      have ltZ := bZ.lt
      clear hrow bT bZ bS hbV
      go_wp2_with fail
      rw [← HVW.out]
      refine HROW.out.mono ?_
      rintro e w5 ⟨lv', rfl, hol, hb5⟩
      have cT := HBT.out.later hb5
      have a4 := cT.cell 4
      have a5 := cT.cell 5
      have g4 := cT.free 4
      have g5 := cT.free 5
      have lt5 := cT.lt
      have HOL := Lib.hid hol
      obtain ⟨A7, n7, c7, rfl⟩ := own_slice hol
      obtain ⟨w6, hw6⟩ : ∃ w6, w6 = (w5.setCell ⟨w.heap.size, 4, none⟩ (.slice A7 n7 c7)).setCell ⟨w.heap.size, 5, none⟩ (.int .i64 rv) := ⟨_, rfl⟩
      have hb56 : Below w.heap.size w5 w6 := by rw [hw6]; exact ((Below.refl _ _).setCell (p := ⟨w.heap.size, 4, none⟩) (Nat.le_refl _) _).setCell (p := ⟨w.heap.size, 5, none⟩) (Nat.le_refl _) _
      have hob56 : ∀ i, i ≠ w.heap.size → w6.heap[i]? = w5.heap[i]? := fun i hi => by rw [hw6]; exact (Below.heap_setCell _ ⟨w.heap.size, 5, none⟩ _ i hi).trans (Below.heap_setCell _ ⟨w.heap.size, 4, none⟩ _ i hi)
      have hs56 : w6.heap.size = w5.heap.size := by rw [hw6]; simp [World.size_setCell]
      have dT : Lies w6 w.heap.size 44 #[.int .i64 k, .string (ba nm), .int .i64 v, .slice AO kids.length cO, .slice A7 n7 c7, .int .i64 rv] := by rw [hw6]; exact (cT.set 4 _).set 5 _
      have dZ : Lies w6 (w.heap.size + 1) 44 zeroT := (hob56 _ (by omega)).trans (HBZ.out.later hb5)
      have hBw5 : Below w.heap.size w w5 := HV.out.trans (hb5.mono HV.out.size)
      have hBw6 : Below w.heap.size w w6 := hBw5.trans hb56
      have aps6 : ApS w6 p B (.slice A1 n1 c1) (.slice A2 n2 c2) td n tc := HAPS.out.below hBw6
      have x3 := dT.cell 3
      rw [hw6] at x3
      have HW6 := Lib.hid hw6
      have HOB := Lib.hid hob56
      have HBW6 := Lib.hid hBw6
      have HDT := Lib.hid dT
      have HDZ := Lib.hid dZ
      have HAPS6 := Lib.hid aps6
      have HS56 := Lib.hid hs56
      have HB5 := Lib.hid hb5
      have hl6 : OwnL w6 V.heap.size (.slice A7 n7 c7) ls := own_same HOL.out fun i hi _ => HOB.out i (by omega)
      have HL6 := Lib.hid hl6
      have hV5 := hb5.size
      clear hol cT hw6 hb56 hob56 hs56 dT dZ hBw5 hBw6 aps6 hb5 hl6
      rcases Nat.eq_zero_or_pos kids.length with hk0 | hk0
      · have hkn : kids = [] := List.length_eq_zero_iff.1 hk0
        have hca := args_none w6 p (.slice AO kids.length cO) (by rw [hk0]; have := HSL.out; rw [hk0] at this; exact this) false
        have HCA := Lib.hid hca
        have HK0 := Lib.hid hk0
        have HKN := Lib.hid hkn
        clear hca hk0 hkn
        go_wp2_with fail
        rw [← HW6.out]
        refine HCA.out.mono ?_
        rintro e w7 ⟨rfl, rfl⟩
        have q3 := HDT.out.free 3
        have q3c := HDT.out.cell 3
        have q3l := HDT.out.lt
        have eT : Lies (w7.setCell ⟨w.heap.size, 3, none⟩ (.slice none 0 0)) w.heap.size 44 #[.int .i64 k, .string (ba nm), .int .i64 v, .slice none 0 0, .slice A7 n7 c7, .int .i64 rv] := HDT.out.set 3 (.slice none 0 0)
        have u0 := eT.cell 0
        have u1 := eT.cell 1
        have u2 := eT.cell 2
        have u3 := eT.cell 3
        have u4 := eT.cell 4
        have u5 := eT.cell 5
        have eZ := HDZ.out.far (p := ⟨w.heap.size, 3, none⟩) (by show w.heap.size + 1 ≠ w.heap.size; omega) (.slice none 0 0)
        have HET := Lib.hid eT
        clear eT
        have hc1 : (#[Value.int .i64 k, .string (ba nm), .int .i64 v, .slice none 0 0, .slice A7 n7 c7, .int .i64 rv] : Array Value).all (·.oneCell') = true := by kernel_rfl
        go_wp2_with (first | (refine wpList_store_rowTo rfl 44 (.tmp 6) (.tmp 36) rfl rfl (w.heap.size + 1) #[.int .i64 k, .string (ba nm), .int .i64 v, .slice none 0 0, .slice A7 n7 c7, .int .i64 rv] rfl rfl 44 _ eZ (by rw [size_T]; rfl) rfl hc1 ?_))
        have fT := Sb.setRow_at eZ #[.int .i64 k, .string (ba nm), .int .i64 v, .slice none 0 0, .slice A7 n7 c7, .int .i64 rv]
        refine bodyPost_ret (results_cell_row rfl _ _ (w.heap.size + 1) 44 _ (0, 0) _ rfl fT Tryz.underlying44 rfl (by rw [size_T]; rfl)) rfl ?_
        have hoth : ∀ i, i ≠ w.heap.size → i ≠ w.heap.size + 1 → ((w7.setCell ⟨w.heap.size, 3, none⟩ (.slice none 0 0)).setRow (w.heap.size + 1) #[.int .i64 k, .string (ba nm), .int .i64 v, .slice none 0 0, .slice A7 n7 c7, .int .i64 rv]).heap[i]? = w7.heap[i]? := fun i h1 h2 => (Sb.setRow_other _ _ _ i h2).trans (Below.heap_setCell _ ⟨w.heap.size, 3, none⟩ _ i h1)
        have hbF : Below w.heap.size w ((w7.setCell ⟨w.heap.size, 3, none⟩ (.slice none 0 0)).setRow (w.heap.size + 1) #[.int .i64 k, .string (ba nm), .int .i64 v, .slice none 0 0, .slice A7 n7 c7, .int .i64 rv]) := Sb.below_setRow (HBW6.out.setCell (p := ⟨w.heap.size, 3, none⟩) (Nat.le_refl _) _) (by omega) _
        have hown := own_same HL6.out fun i hi _ => hoth i (by omega) (by omega)
        refine ⟨.slice none 0 0, .slice A7 n7 c7, td, n, tc, rfl, OwnL.str hown HLS.out.2, fun b hb => ?_, HAPS.out.below hbF, .inl rfl, .of_below hbF, .inl ⟨HKN.out, rfl, rfl, rfl⟩⟩
        obtain ⟨h1, h2⟩ := own_block hown b hb
        exact ⟨by omega, h2, fun e => by have := (own_block HAPS.out.row b e).2; omega⟩
      · have hca := args_any w6 p B (.slice A1 n1 c1) (.slice A2 n2 c2) td n tc hpB (by have := HBW6.out.size; have := HBwB.out; omega) HAPS6.out hn (.slice AO kids.length cO) kids.length HSL.out hk0 HKL.out false
        have HCA := Lib.hid hca
        have HK0 := Lib.hid hk0
        clear hca hk0
        go_wp2_with fail
        rw [← HW6.out]
        refine HCA.out.mono ?_
        rintro e w7 ⟨G, td', cur, rfl, hG, hlG, hcur, haps, htG, htd, hchg⟩
        have htdw : ∀ i, w.heap.size ≤ i → td.ownBlock ≠ some i := fun i hi e => by have := (own_block HAPS.out.row i e).2; omega
        have h67 : ∀ i, w.heap.size ≤ i → i < w6.heap.size → w7.heap[i]? = w6.heap[i]? := fun i h1 h2 => hchg.block i h2 (by omega) (htdw i h1)
        have hw6s := HBW6.out.size
        have hw67 := hchg.size
        have hl6s := HDT.out.lt
        have hz6s := HDZ.out.lt
        have eT0 : Lies w7 w.heap.size 44 #[.int .i64 k, .string (ba nm), .int .i64 v, .slice AO kids.length cO, .slice A7 n7 c7, .int .i64 rv] := (h67 _ (Nat.le_refl _) hl6s).trans HDT.out
        have eZ0 : Lies w7 (w.heap.size + 1) 44 zeroT := (h67 _ (by omega) hz6s).trans HDZ.out
        have q3 := eT0.free 3
        have q3l := eT0.lt
        have q3c := eT0.cell 3
        have eT : Lies (w7.setCell ⟨w.heap.size, 3, none⟩ (.slice (some ⟨G, 0, none⟩) kids.length kids.length)) w.heap.size 44 #[.int .i64 k, .string (ba nm), .int .i64 v, .slice (some ⟨G, 0, none⟩) kids.length kids.length, .slice A7 n7 c7, .int .i64 rv] := eT0.set 3 (.slice (some ⟨G, 0, none⟩) kids.length kids.length)
        have u0 := eT.cell 0
        have u1 := eT.cell 1
        have u2 := eT.cell 2
        have u3 := eT.cell 3
        have u4 := eT.cell 4
        have u5 := eT.cell 5
        have eZ := eZ0.far (p := ⟨w.heap.size, 3, none⟩) (by show w.heap.size + 1 ≠ w.heap.size; omega) (.slice (some ⟨G, 0, none⟩) kids.length kids.length)
        have HCH := Lib.hid hchg
        have HLG := Lib.hid hlG
        have HAP := Lib.hid haps
        have HTD := Lib.hid htd
        have HTG := Lib.hid htG
        have HCUR := Lib.hid hcur
        have H67 := Lib.hid h67
        clear eT eT0 eZ0 hchg hlG haps htd htG hcur h67
        have hc1 : (#[Value.int .i64 k, .string (ba nm), .int .i64 v, .slice (some ⟨G, 0, none⟩) kids.length kids.length, .slice A7 n7 c7, .int .i64 rv] : Array Value).all (·.oneCell') = true := by kernel_rfl
        go_wp2_with (first | (refine wpList_store_rowTo rfl 44 (.tmp 6) (.tmp 36) rfl rfl (w.heap.size + 1) #[.int .i64 k, .string (ba nm), .int .i64 v, .slice (some ⟨G, 0, none⟩) kids.length kids.length, .slice A7 n7 c7, .int .i64 rv] rfl rfl 44 _ eZ (by rw [size_T]; rfl) rfl hc1 ?_))
        have fT := Sb.setRow_at eZ #[.int .i64 k, .string (ba nm), .int .i64 v, .slice (some ⟨G, 0, none⟩) kids.length kids.length, .slice A7 n7 c7, .int .i64 rv]
        refine bodyPost_ret (results_cell_row rfl _ _ (w.heap.size + 1) 44 _ (0, 0) _ rfl fT Tryz.underlying44 rfl (by rw [size_T]; rfl)) rfl ?_
        obtain ⟨wF, hwF⟩ : ∃ wF, wF = ((w7.setCell ⟨w.heap.size, 3, none⟩ (.slice (some ⟨G, 0, none⟩) kids.length kids.length)).setRow (w.heap.size + 1) #[.int .i64 k, .string (ba nm), .int .i64 v, .slice (some ⟨G, 0, none⟩) kids.length kids.length, .slice A7 n7 c7, .int .i64 rv]) := ⟨_, rfl⟩
        have hoth : ∀ i, i ≠ w.heap.size → i ≠ w.heap.size + 1 → wF.heap[i]? = w7.heap[i]? := fun i h1 h2 => by rw [hwF]; exact (Sb.setRow_other _ _ _ i h2).trans (Below.heap_setCell _ ⟨w.heap.size, 3, none⟩ _ i h1)
        have hsF : wF.heap.size = w7.heap.size := by rw [hwF, size_setRow, World.size_setCell]
        have hbF : Below w.heap.size w7 wF := by rw [hwF]; exact Sb.below_setRow ((Below.refl w.heap.size w7).setCell (p := ⟨w.heap.size, 3, none⟩) (Nat.le_refl _) _) (Nat.le_succ _) _
        rw [← hwF]
        have hw6c : w.heap.size + 2 ≤ w6.heap.size := by have := HDZ.out.lt; omega
        have hGs := HLG.out.lt
        have htdb : ∀ b, td'.ownBlock = some b → b < w.heap.size ∨ w6.heap.size ≤ b := fun b hb => by
          rcases HTD.out with h | ⟨b', h, h2⟩
          · rw [h] at hb; exact .inl (own_block HAPS.out.row b hb).2
          · rw [h] at hb; injection hb with hb; omega
        have hown : OwnL wF V.heap.size (.slice A7 n7 c7) ls := own_same HL6.out fun i hi h2 => (hoth i (by omega) (by omega)).trans (H67.out i (by omega) h2)
        have hlb : ∀ b, Value.ownBlock (.slice A7 n7 c7) = some b → V.heap.size ≤ b ∧ b < w6.heap.size := own_block HL6.out
        refine ⟨.slice (some ⟨G, 0, none⟩) kids.length kids.length, .slice A7 n7 c7, td', n + 1, _, rfl, OwnL.str hown HLS.out.2, fun b hb => ?_, ⟨(hoth p (by omega) (by omega)).trans HAP.out.at_, own_sameB HAP.out.row fun i hi => (hoth i (by rcases htdb i hi with h | h <;> omega) (by rcases htdb i hi with h | h <;> omega))⟩, ?_, ?_, .inr ⟨HK0.out, G, cur, .slice AO kids.length cO, rfl, by omega, (hoth G (by omega) (by omega)).trans HLG.out, HCUR.out, HTG.out, fun b hb => ?_, rfl, rfl, HSL.out, HKIDS.out⟩⟩
        · have h1 := hlb b hb
          exact ⟨by omega, by omega, fun e => by rcases htdb b e with h | h <;> omega⟩
        · rcases HTD.out with h | ⟨b', h, h2⟩
          · exact .inl h
          · exact .inr ⟨b', h, by omega⟩
        · refine ⟨hbF.os.trans (HCH.out.os.trans HBW6.out.os), hbF.tape.trans (HCH.out.tape.trans HBW6.out.tape), hbF.output.trans (HCH.out.output.trans HBW6.out.output), by omega, fun i h1 h2 h3 => (hbF.block i h1).trans ((HCH.out.block i (by omega) h2 h3).trans (HBW6.out.block i h1))⟩
        · have h1 := hlb b hb
          omega
    | some u =>
      have hd := HHD.out
      simp only [hdT, Bool.false_eq_true, if_false, hI, Prod.mk.injEq] at hd
      rw [hI] at hins
      obtain ⟨l2, rfl, htu⟩ := hins
      obtain ⟨h1, h2⟩ := hd
      subst h1 h2
      obtain ⟨kv, lv, rfl, hkv, hlv, hok, hks⟩ := htu
      obtain ⟨A3, c3, rfl, _, _⟩ := hkv.form
      obtain ⟨A4, n4, c4, rfl⟩ : ∃ A n c, lv = .slice A n c := by rcases hlv.1 with ⟨rfl, _⟩ | ⟨_, _, rfl, _⟩ <;> exact ⟨_, _, _, rfl⟩
      have HSL := Lib.hid hkv
      have HLS := Lib.hid hlv
      have HOKS := Lib.hid hok
      have HKIDS := Lib.hid hks
      have HNO := Lib.hid (show insR R0 rv = none by unfold insR R0; split <;> rfl)
      unfold tyC
      have l8 := Lies.new w2 44 #[.int .i64 k, .string (ba nm), .int .i64 v, .slice A3 kids.length c3, .slice A4 n4 c4, .int .i64 rv]
      have hb8 : Below W.heap.size W (w2.alloc (.cells #[.int .i64 k, .string (ba nm), .int .i64 v, .slice A3 kids.length c3, .slice A4 n4 c4, .int .i64 rv] 44)) := hb2.trans ((below_new _ _).mono hb2.size)
      obtain ⟨V8, hV8⟩ : ∃ V8, V8 = w2.alloc (.cells #[.int .i64 k, .string (ba nm), .int .i64 v, .slice A3 kids.length c3, .slice A4 n4 c4, .int .i64 rv] 44) := ⟨_, rfl⟩
      rw [← hV8] at l8 hb8
      have hw8 : Below w.heap.size w V8 := HBW.out.trans (hb8.mono HBW.out.size)
      have hS : (V8.cell? ⟨w2.heap.size, 0, none⟩ = some (.int .i64 k) ∧ V8.cell? ⟨w2.heap.size, 1, none⟩ = some (.string (ba nm)) ∧ V8.cell? ⟨w2.heap.size, 2, none⟩ = some (.int .i64 v) ∧ V8.cell? ⟨w2.heap.size, 3, none⟩ = some (.slice A3 kids.length c3) ∧ V8.cell? ⟨w2.heap.size, 4, none⟩ = some (.slice A4 n4 c4) ∧ V8.cell? ⟨w2.heap.size, 5, none⟩ = some (.int .i64 rv)) ∧ Below w.heap.size w V8 := ⟨⟨l8.cell 0, l8.cell 1, l8.cell 2, l8.cell 3, l8.cell 4, l8.cell 5⟩, hw8⟩
      have hk : ∀ V V' : World, ((V.cell? ⟨w2.heap.size, 0, none⟩ = some (.int .i64 k) ∧ V.cell? ⟨w2.heap.size, 1, none⟩ = some (.string (ba nm)) ∧ V.cell? ⟨w2.heap.size, 2, none⟩ = some (.int .i64 v) ∧ V.cell? ⟨w2.heap.size, 3, none⟩ = some (.slice A3 kids.length c3) ∧ V.cell? ⟨w2.heap.size, 4, none⟩ = some (.slice A4 n4 c4) ∧ V.cell? ⟨w2.heap.size, 5, none⟩ = some (.int .i64 rv)) ∧ Below w.heap.size w V) → V'.heap[w2.heap.size]? = V.heap[w2.heap.size]? → Below w.heap.size V V' → ((V'.cell? ⟨w2.heap.size, 0, none⟩ = some (.int .i64 k) ∧ V'.cell? ⟨w2.heap.size, 1, none⟩ = some (.string (ba nm)) ∧ V'.cell? ⟨w2.heap.size, 2, none⟩ = some (.int .i64 v) ∧ V'.cell? ⟨w2.heap.size, 3, none⟩ = some (.slice A3 kids.length c3) ∧ V'.cell? ⟨w2.heap.size, 4, none⟩ = some (.slice A4 n4 c4) ∧ V'.cell? ⟨w2.heap.size, 5, none⟩ = some (.int .i64 rv)) ∧ Below w.heap.size w V') := fun V V' h hb hb2 => by
        obtain ⟨⟨h0, h1, h2, h3, h4, h5⟩, h6⟩ := h
        have e : ∀ j, V'.cell? ⟨w2.heap.size, j, none⟩ = V.cell? ⟨w2.heap.size, j, none⟩ := fun j => World.cell?_of_block (w := V) (a := ⟨w2.heap.size, j, none⟩) hb
        exact ⟨⟨(e 0).trans h0, (e 1).trans h1, (e 2).trans h2, (e 3).trans h3, (e 4).trans h4, (e 5).trans h5⟩, h6.trans hb2⟩
      have HK := Lib.hid hk
      have hlt8 := l8.lt
      have hdr : V8.drew.heap[w2.heap.size]? = V8.heap[w2.heap.size]? := rfl
      have hWs8 : W.heap.size ≤ w2.heap.size := hb2.size
      have hWW := HK7.out.lt
      have hne1 : w2.heap.size ≠ w.heap.size := by omega
      have hne2 : w2.heap.size ≠ w.heap.size + 2 := by omega
      have HM4 := Lib.hid (HK4.out.later hb8)
      have HM6 := Lib.hid (HK6.out.later hb8)
      have HM7 := Lib.hid (HK7.out.later hb8)
      have HW8 := Lib.hid hw8
      have HV8 := Lib.hid hV8
      clear hkv hlv hok hks hV8 hk hw8 l8 hI
      go_wp2_with fail
      rw [← HV8.out]
      go_region_held3 (fun VV => (VV.cell? ⟨w2.heap.size, 0, none⟩ = some (.int .i64 k) ∧ VV.cell? ⟨w2.heap.size, 1, none⟩ = some (.string (ba nm)) ∧ VV.cell? ⟨w2.heap.size, 2, none⟩ = some (.int .i64 v) ∧ VV.cell? ⟨w2.heap.size, 3, none⟩ = some (.slice A3 kids.length c3) ∧ VV.cell? ⟨w2.heap.size, 4, none⟩ = some (.slice A4 n4 c4) ∧ VV.cell? ⟨w2.heap.size, 5, none⟩ = some (.int .i64 rv)) ∧ Below w.heap.size w VV)
        (first | with_reducible exact HK.out _ _ hS hdr (Below.refl _ _).drew | with_reducible exact HK.out _ _ hS (hb7.block _ hlt8) (hb7.mono HW8.out.size) | with_reducible exact HK.out _ _ hS ((hqo1 _ hne1).trans (hb7.block _ hlt8)) ((hb7.mono HW8.out.size).trans hq1) | with_reducible exact HK.out _ _ hS ((hqo2 _ hne1 hne2).trans (hb7.block _ hlt8)) ((hb7.mono HW8.out.size).trans hq2))
        (first | (go_at_call 8; refine (none_any _).mono ?_; rintro e w7 ⟨rfl, hb7a⟩; have hb7 : Below V8.heap.size V8 w7 := (Below.refl _ _).drew.trans hb7a; unfold noneV; have m4 := HM4.out.later hb7; have m7 := HM7.out.later hb7; have mc0 := m4.cell 0; have mf0 := m4.free 0; have mc1 := m4.cell 1; have mf1 := m4.free 1; have mc2 := m4.cell 2; have mf2 := m4.free 2; have mc3 := m4.cell 3; have mf3 := m4.free 3; have mc4 := m4.cell 4; have mf4 := m4.free 4; have mc5 := m4.cell 5; have mf5 := m4.free 5; have nc0 := m7.cell 0; have nf0 := m7.free 0; have nc1 := m7.cell 1; have nf1 := m7.free 1; have ml4 := m4.lt; have ml7 := m7.lt; have hq1 : Below w.heap.size w7 ((((((w7.setCell ⟨w.heap.size, 0, none⟩ (.int .i64 k)).setCell ⟨w.heap.size, 1, none⟩ (.string (ba nm))).setCell ⟨w.heap.size, 2, none⟩ (.int .i64 v)).setCell ⟨w.heap.size, 3, none⟩ (.slice A3 kids.length c3)).setCell ⟨w.heap.size, 4, none⟩ (.slice A4 n4 c4)).setCell ⟨w.heap.size, 5, none⟩ (.int .i64 rv)) := (((((((Below.refl w.heap.size w7).setCell (p := ⟨w.heap.size, 0, none⟩) (Nat.le_refl _) _).setCell (p := ⟨w.heap.size, 1, none⟩) (Nat.le_refl _) _).setCell (p := ⟨w.heap.size, 2, none⟩) (Nat.le_refl _) _).setCell (p := ⟨w.heap.size, 3, none⟩) (Nat.le_refl _) _).setCell (p := ⟨w.heap.size, 4, none⟩) (Nat.le_refl _) _).setCell (p := ⟨w.heap.size, 5, none⟩) (Nat.le_refl _) _); have hq2 : Below w.heap.size w7 ((((((((w7.setCell ⟨w.heap.size, 0, none⟩ (.int .i64 k)).setCell ⟨w.heap.size, 1, none⟩ (.string (ba nm))).setCell ⟨w.heap.size, 2, none⟩ (.int .i64 v)).setCell ⟨w.heap.size, 3, none⟩ (.slice A3 kids.length c3)).setCell ⟨w.heap.size, 4, none⟩ (.slice A4 n4 c4)).setCell ⟨w.heap.size, 5, none⟩ (.int .i64 rv)).setCell ⟨w.heap.size + 2, 0, none⟩ (.slice none 0 0)).setCell ⟨w.heap.size + 2, 1, none⟩ (.slice none 0 0)) := (((((((((Below.refl w.heap.size w7).setCell (p := ⟨w.heap.size, 0, none⟩) (Nat.le_refl _) _).setCell (p := ⟨w.heap.size, 1, none⟩) (Nat.le_refl _) _).setCell (p := ⟨w.heap.size, 2, none⟩) (Nat.le_refl _) _).setCell (p := ⟨w.heap.size, 3, none⟩) (Nat.le_refl _) _).setCell (p := ⟨w.heap.size, 4, none⟩) (Nat.le_refl _) _).setCell (p := ⟨w.heap.size, 5, none⟩) (Nat.le_refl _) _).setCell (p := ⟨w.heap.size + 2, 0, none⟩) (Nat.le_add_right _ _) _).setCell (p := ⟨w.heap.size + 2, 1, none⟩) (Nat.le_add_right _ _) _); have hqo1 : ∀ i, i ≠ w.heap.size → (((((((w7.setCell ⟨w.heap.size, 0, none⟩ (.int .i64 k)).setCell ⟨w.heap.size, 1, none⟩ (.string (ba nm))).setCell ⟨w.heap.size, 2, none⟩ (.int .i64 v)).setCell ⟨w.heap.size, 3, none⟩ (.slice A3 kids.length c3)).setCell ⟨w.heap.size, 4, none⟩ (.slice A4 n4 c4)).setCell ⟨w.heap.size, 5, none⟩ (.int .i64 rv))).heap[i]? = w7.heap[i]? := (fun i h1 => ((Below.heap_setCell _ ⟨w.heap.size, 5, none⟩ _ i h1).trans ((Below.heap_setCell _ ⟨w.heap.size, 4, none⟩ _ i h1).trans ((Below.heap_setCell _ ⟨w.heap.size, 3, none⟩ _ i h1).trans ((Below.heap_setCell _ ⟨w.heap.size, 2, none⟩ _ i h1).trans ((Below.heap_setCell _ ⟨w.heap.size, 1, none⟩ _ i h1).trans (Below.heap_setCell _ ⟨w.heap.size, 0, none⟩ _ i h1))))))); have hqo2 : ∀ i, i ≠ w.heap.size → i ≠ w.heap.size + 2 → (((((((((w7.setCell ⟨w.heap.size, 0, none⟩ (.int .i64 k)).setCell ⟨w.heap.size, 1, none⟩ (.string (ba nm))).setCell ⟨w.heap.size, 2, none⟩ (.int .i64 v)).setCell ⟨w.heap.size, 3, none⟩ (.slice A3 kids.length c3)).setCell ⟨w.heap.size, 4, none⟩ (.slice A4 n4 c4)).setCell ⟨w.heap.size, 5, none⟩ (.int .i64 rv)).setCell ⟨w.heap.size + 2, 0, none⟩ (.slice none 0 0)).setCell ⟨w.heap.size + 2, 1, none⟩ (.slice none 0 0))).heap[i]? = w7.heap[i]? := (fun i h1 h2 => ((Below.heap_setCell _ ⟨w.heap.size + 2, 1, none⟩ _ i h2).trans ((Below.heap_setCell _ ⟨w.heap.size + 2, 0, none⟩ _ i h2).trans ((Below.heap_setCell _ ⟨w.heap.size, 5, none⟩ _ i h1).trans ((Below.heap_setCell _ ⟨w.heap.size, 4, none⟩ _ i h1).trans ((Below.heap_setCell _ ⟨w.heap.size, 3, none⟩ _ i h1).trans ((Below.heap_setCell _ ⟨w.heap.size, 2, none⟩ _ i h1).trans ((Below.heap_setCell _ ⟨w.heap.size, 1, none⟩ _ i h1).trans (Below.heap_setCell _ ⟨w.heap.size, 0, none⟩ _ i h1))))))))); have HM4' := Lib.hid m4; have HM7' := Lib.hid m7; clear m4 m7))
      obtain ⟨V, hVW⟩ : ∃ V, V = ((((((((w7.setCell ⟨w.heap.size, 0, none⟩ (.int .i64 k)).setCell ⟨w.heap.size, 1, none⟩ (.string (ba nm))).setCell ⟨w.heap.size, 2, none⟩ (.int .i64 v)).setCell ⟨w.heap.size, 3, none⟩ (.slice A3 kids.length c3)).setCell ⟨w.heap.size, 4, none⟩ (.slice A4 n4 c4)).setCell ⟨w.heap.size, 5, none⟩ (.int .i64 rv)).setCell ⟨w.heap.size + 2, 0, none⟩ (.slice none 0 0)).setCell ⟨w.heap.size + 2, 1, none⟩ (.slice none 0 0)) := ⟨_, rfl⟩
      have r4 : Lies ((((((w7.setCell ⟨w.heap.size, 0, none⟩ (.int .i64 k)).setCell ⟨w.heap.size, 1, none⟩ (.string (ba nm))).setCell ⟨w.heap.size, 2, none⟩ (.int .i64 v)).setCell ⟨w.heap.size, 3, none⟩ (.slice A3 kids.length c3)).setCell ⟨w.heap.size, 4, none⟩ (.slice A4 n4 c4)).setCell ⟨w.heap.size, 5, none⟩ (.int .i64 rv)) w.heap.size 44 #[.int .i64 k, .string (ba nm), .int .i64 v, .slice A3 kids.length c3, .slice A4 n4 c4, .int .i64 rv] := ((((((HM4'.out.set 0 _).set 1 _).set 2 _).set 3 _).set 4 _).set 5 _)
      have r7 : Lies ((((((w7.setCell ⟨w.heap.size, 0, none⟩ (.int .i64 k)).setCell ⟨w.heap.size, 1, none⟩ (.string (ba nm))).setCell ⟨w.heap.size, 2, none⟩ (.int .i64 v)).setCell ⟨w.heap.size, 3, none⟩ (.slice A3 kids.length c3)).setCell ⟨w.heap.size, 4, none⟩ (.slice A4 n4 c4)).setCell ⟨w.heap.size, 5, none⟩ (.int .i64 rv)) (w.heap.size + 2) 34 #[.slice A1 n1 c1, .slice A2 n2 c2] := (hqo1 _ (by omega)).trans HM7'.out
      have bT : Lies V w.heap.size 44 #[.int .i64 k, .string (ba nm), .int .i64 v, .slice A3 kids.length c3, .slice A4 n4 c4, .int .i64 rv] := by rw [hVW]; exact (r4.far (p := ⟨w.heap.size + 2, 0, none⟩) (by show w.heap.size ≠ w.heap.size + 2; omega) _).far (p := ⟨w.heap.size + 2, 1, none⟩) (by show w.heap.size ≠ w.heap.size + 2; omega) _
      have bS : Lies V (w.heap.size + 2) 34 #[.slice none 0 0, .slice none 0 0] := by rw [hVW]; exact (r7.set 0 _).set 1 _
      have bZ : Lies V (w.heap.size + 1) 44 zeroT := by rw [hVW]; exact (hqo2 _ (by omega) (by omega)).trans (HM6.out.later hb7)
      have hbV : Below w.heap.size w V := by rw [hVW]; exact (HW8.out.trans (hb7.mono HW8.out.size)).trans hq2
      have HVW := Lib.hid hVW
      clear hVW hq1 hq2 hqo1 hqo2 r4 r7 hS
      have HV := Lib.hid (hbV : Below w.heap.size w V)
      have z0 := bT.cell 4
      have z1 := bT.cell 5
      have y0 := bS.cell 0
      have y1 := bS.cell 1
      rw [HVW.out] at z0 z1 y0 y1
      have hBV0 : Below w0.heap.size w0 V := HB0.out.trans (hbV.mono HB0.out.size)
      have hrow := applyRow_any V noneV 0 T0 R0 (SubV.none V 0) (by omega) (.slice A4 n4 c4) ls rv (HLS.out.keep hBV0.block) HOKS.out.2.2 HNO.out
      have HROW := Lib.hid hrow
      have HBT := Lib.hid bT
      have HBZ := Lib.hid bZ
      have HBS := Lib.hid bS
      have lV := hbV.size
      have ltT := bT.lt
      have ltZ := bZ.lt
      clear hrow bT bZ bS hbV
      go_wp2_with fail
      rw [← HVW.out]
      refine HROW.out.mono ?_
      rintro e w5 ⟨lv', rfl, hol, hb5⟩
      have cT := HBT.out.later hb5
      have a4 := cT.cell 4
      have a5 := cT.cell 5
      have g4 := cT.free 4
      have g5 := cT.free 5
      have lt5 := cT.lt
      have HOL := Lib.hid hol
      obtain ⟨A7, n7, c7, rfl⟩ := own_slice hol
      obtain ⟨w6, hw6⟩ : ∃ w6, w6 = (w5.setCell ⟨w.heap.size, 4, none⟩ (.slice A7 n7 c7)).setCell ⟨w.heap.size, 5, none⟩ (.int .i64 rv) := ⟨_, rfl⟩
      have hb56 : Below w.heap.size w5 w6 := by rw [hw6]; exact ((Below.refl _ _).setCell (p := ⟨w.heap.size, 4, none⟩) (Nat.le_refl _) _).setCell (p := ⟨w.heap.size, 5, none⟩) (Nat.le_refl _) _
      have hob56 : ∀ i, i ≠ w.heap.size → w6.heap[i]? = w5.heap[i]? := fun i hi => by rw [hw6]; exact (Below.heap_setCell _ ⟨w.heap.size, 5, none⟩ _ i hi).trans (Below.heap_setCell _ ⟨w.heap.size, 4, none⟩ _ i hi)
      have hs56 : w6.heap.size = w5.heap.size := by rw [hw6]; simp [World.size_setCell]
      have dT : Lies w6 w.heap.size 44 #[.int .i64 k, .string (ba nm), .int .i64 v, .slice A3 kids.length c3, .slice A7 n7 c7, .int .i64 rv] := by rw [hw6]; exact (cT.set 4 _).set 5 _
      have dZ : Lies w6 (w.heap.size + 1) 44 zeroT := (hob56 _ (by omega)).trans (HBZ.out.later hb5)
      have hBw5 : Below w.heap.size w w5 := HV.out.trans (hb5.mono HV.out.size)
      have hBw6 : Below w.heap.size w w6 := hBw5.trans hb56
      have aps6 : ApS w6 p B (.slice A1 n1 c1) (.slice A2 n2 c2) td n tc := HAPS.out.below hBw6
      have x3 := dT.cell 3
      rw [hw6] at x3
      have HW6 := Lib.hid hw6
      have HOB := Lib.hid hob56
      have HBW6 := Lib.hid hBw6
      have HDT := Lib.hid dT
      have HDZ := Lib.hid dZ
      have HAPS6 := Lib.hid aps6
      have HS56 := Lib.hid hs56
      have HB5 := Lib.hid hb5
      have hl6 : OwnL w6 V.heap.size (.slice A7 n7 c7) ls := own_same HOL.out fun i hi _ => HOB.out i (by omega)
      have HL6 := Lib.hid hl6
      have hV5 := hb5.size
      clear hol cT hw6 hb56 hob56 hs56 dT dZ hBw5 hBw6 aps6 hb5 hl6
      rcases Nat.eq_zero_or_pos kids.length with hk0 | hk0
      · have hkn : kids = [] := List.length_eq_zero_iff.1 hk0
        have hca := args_none w6 p (.slice A3 kids.length c3) (by rw [hk0]; have := HSL.out; rw [hk0] at this; exact this) true
        have HCA := Lib.hid hca
        have HK0 := Lib.hid hk0
        have HKN := Lib.hid hkn
        clear hca hk0 hkn
        go_wp2_with fail
        rw [← HW6.out]
        refine HCA.out.mono ?_
        rintro e w7 ⟨rfl, rfl⟩
        have q3 := HDT.out.free 3
        have q3c := HDT.out.cell 3
        have q3l := HDT.out.lt
        have eT : Lies (w7.setCell ⟨w.heap.size, 3, none⟩ (.slice none 0 0)) w.heap.size 44 #[.int .i64 k, .string (ba nm), .int .i64 v, .slice none 0 0, .slice A7 n7 c7, .int .i64 rv] := HDT.out.set 3 (.slice none 0 0)
        have u0 := eT.cell 0
        have u1 := eT.cell 1
        have u2 := eT.cell 2
        have u3 := eT.cell 3
        have u4 := eT.cell 4
        have u5 := eT.cell 5
        have eZ := HDZ.out.far (p := ⟨w.heap.size, 3, none⟩) (by show w.heap.size + 1 ≠ w.heap.size; omega) (.slice none 0 0)
        have HET := Lib.hid eT
        clear eT
        have hc1 : (#[Value.int .i64 k, .string (ba nm), .int .i64 v, .slice none 0 0, .slice A7 n7 c7, .int .i64 rv] : Array Value).all (·.oneCell') = true := by kernel_rfl
        go_wp2_with (first | (refine wpList_store_rowTo rfl 44 (.tmp 6) (.tmp 36) rfl rfl (w.heap.size + 1) #[.int .i64 k, .string (ba nm), .int .i64 v, .slice none 0 0, .slice A7 n7 c7, .int .i64 rv] rfl rfl 44 _ eZ (by rw [size_T]; rfl) rfl hc1 ?_))
        have fT := Sb.setRow_at eZ #[.int .i64 k, .string (ba nm), .int .i64 v, .slice none 0 0, .slice A7 n7 c7, .int .i64 rv]
        refine bodyPost_ret (results_cell_row rfl _ _ (w.heap.size + 1) 44 _ (0, 0) _ rfl fT Tryz.underlying44 rfl (by rw [size_T]; rfl)) rfl ?_
        have hoth : ∀ i, i ≠ w.heap.size → i ≠ w.heap.size + 1 → ((w7.setCell ⟨w.heap.size, 3, none⟩ (.slice none 0 0)).setRow (w.heap.size + 1) #[.int .i64 k, .string (ba nm), .int .i64 v, .slice none 0 0, .slice A7 n7 c7, .int .i64 rv]).heap[i]? = w7.heap[i]? := fun i h1 h2 => (Sb.setRow_other _ _ _ i h2).trans (Below.heap_setCell _ ⟨w.heap.size, 3, none⟩ _ i h1)
        have hbF : Below w.heap.size w ((w7.setCell ⟨w.heap.size, 3, none⟩ (.slice none 0 0)).setRow (w.heap.size + 1) #[.int .i64 k, .string (ba nm), .int .i64 v, .slice none 0 0, .slice A7 n7 c7, .int .i64 rv]) := Sb.below_setRow (HBW6.out.setCell (p := ⟨w.heap.size, 3, none⟩) (Nat.le_refl _) _) (by omega) _
        have hown := own_same HL6.out fun i hi _ => hoth i (by omega) (by omega)
        refine ⟨.slice none 0 0, .slice A7 n7 c7, td, n, tc, rfl, OwnL.str hown HLS.out.2, fun b hb => ?_, HAPS.out.below hbF, .inl rfl, .of_below hbF, .inl ⟨HKN.out, rfl, rfl, rfl⟩⟩
        obtain ⟨h1, h2⟩ := own_block hown b hb
        exact ⟨by omega, h2, fun e => by have := (own_block HAPS.out.row b e).2; omega⟩
      · have hca := args_any w6 p B (.slice A1 n1 c1) (.slice A2 n2 c2) td n tc hpB (by have := HBW6.out.size; have := HBwB.out; omega) HAPS6.out hn (.slice A3 kids.length c3) kids.length HSL.out hk0 HKL.out true
        have HCA := Lib.hid hca
        have HK0 := Lib.hid hk0
        clear hca hk0
        go_wp2_with fail
        rw [← HW6.out]
        refine HCA.out.mono ?_
        rintro e w7 ⟨G, td', cur, rfl, hG, hlG, hcur, haps, htG, htd, hchg⟩
        have htdw : ∀ i, w.heap.size ≤ i → td.ownBlock ≠ some i := fun i hi e => by have := (own_block HAPS.out.row i e).2; omega
        have h67 : ∀ i, w.heap.size ≤ i → i < w6.heap.size → w7.heap[i]? = w6.heap[i]? := fun i h1 h2 => hchg.block i h2 (by omega) (htdw i h1)
        have hw6s := HBW6.out.size
        have hw67 := hchg.size
        have hl6s := HDT.out.lt
        have hz6s := HDZ.out.lt
        have eT0 : Lies w7 w.heap.size 44 #[.int .i64 k, .string (ba nm), .int .i64 v, .slice A3 kids.length c3, .slice A7 n7 c7, .int .i64 rv] := (h67 _ (Nat.le_refl _) hl6s).trans HDT.out
        have eZ0 : Lies w7 (w.heap.size + 1) 44 zeroT := (h67 _ (by omega) hz6s).trans HDZ.out
        have q3 := eT0.free 3
        have q3l := eT0.lt
        have q3c := eT0.cell 3
        have eT : Lies (w7.setCell ⟨w.heap.size, 3, none⟩ (.slice (some ⟨G, 0, none⟩) kids.length kids.length)) w.heap.size 44 #[.int .i64 k, .string (ba nm), .int .i64 v, .slice (some ⟨G, 0, none⟩) kids.length kids.length, .slice A7 n7 c7, .int .i64 rv] := eT0.set 3 (.slice (some ⟨G, 0, none⟩) kids.length kids.length)
        have u0 := eT.cell 0
        have u1 := eT.cell 1
        have u2 := eT.cell 2
        have u3 := eT.cell 3
        have u4 := eT.cell 4
        have u5 := eT.cell 5
        have eZ := eZ0.far (p := ⟨w.heap.size, 3, none⟩) (by show w.heap.size + 1 ≠ w.heap.size; omega) (.slice (some ⟨G, 0, none⟩) kids.length kids.length)
        have HCH := Lib.hid hchg
        have HLG := Lib.hid hlG
        have HAP := Lib.hid haps
        have HTD := Lib.hid htd
        have HTG := Lib.hid htG
        have HCUR := Lib.hid hcur
        have H67 := Lib.hid h67
        clear eT eT0 eZ0 hchg hlG haps htd htG hcur h67
        have hc1 : (#[Value.int .i64 k, .string (ba nm), .int .i64 v, .slice (some ⟨G, 0, none⟩) kids.length kids.length, .slice A7 n7 c7, .int .i64 rv] : Array Value).all (·.oneCell') = true := by kernel_rfl
        go_wp2_with (first | (refine wpList_store_rowTo rfl 44 (.tmp 6) (.tmp 36) rfl rfl (w.heap.size + 1) #[.int .i64 k, .string (ba nm), .int .i64 v, .slice (some ⟨G, 0, none⟩) kids.length kids.length, .slice A7 n7 c7, .int .i64 rv] rfl rfl 44 _ eZ (by rw [size_T]; rfl) rfl hc1 ?_))
        have fT := Sb.setRow_at eZ #[.int .i64 k, .string (ba nm), .int .i64 v, .slice (some ⟨G, 0, none⟩) kids.length kids.length, .slice A7 n7 c7, .int .i64 rv]
        refine bodyPost_ret (results_cell_row rfl _ _ (w.heap.size + 1) 44 _ (0, 0) _ rfl fT Tryz.underlying44 rfl (by rw [size_T]; rfl)) rfl ?_
        obtain ⟨wF, hwF⟩ : ∃ wF, wF = ((w7.setCell ⟨w.heap.size, 3, none⟩ (.slice (some ⟨G, 0, none⟩) kids.length kids.length)).setRow (w.heap.size + 1) #[.int .i64 k, .string (ba nm), .int .i64 v, .slice (some ⟨G, 0, none⟩) kids.length kids.length, .slice A7 n7 c7, .int .i64 rv]) := ⟨_, rfl⟩
        have hoth : ∀ i, i ≠ w.heap.size → i ≠ w.heap.size + 1 → wF.heap[i]? = w7.heap[i]? := fun i h1 h2 => by rw [hwF]; exact (Sb.setRow_other _ _ _ i h2).trans (Below.heap_setCell _ ⟨w.heap.size, 3, none⟩ _ i h1)
        have hsF : wF.heap.size = w7.heap.size := by rw [hwF, size_setRow, World.size_setCell]
        have hbF : Below w.heap.size w7 wF := by rw [hwF]; exact Sb.below_setRow ((Below.refl w.heap.size w7).setCell (p := ⟨w.heap.size, 3, none⟩) (Nat.le_refl _) _) (Nat.le_succ _) _
        rw [← hwF]
        have hw6c : w.heap.size + 2 ≤ w6.heap.size := by have := HDZ.out.lt; omega
        have hGs := HLG.out.lt
        have htdb : ∀ b, td'.ownBlock = some b → b < w.heap.size ∨ w6.heap.size ≤ b := fun b hb => by
          rcases HTD.out with h | ⟨b', h, h2⟩
          · rw [h] at hb; exact .inl (own_block HAPS.out.row b hb).2
          · rw [h] at hb; injection hb with hb; omega
        have hown : OwnL wF V.heap.size (.slice A7 n7 c7) ls := own_same HL6.out fun i hi h2 => (hoth i (by omega) (by omega)).trans (H67.out i (by omega) h2)
        have hlb : ∀ b, Value.ownBlock (.slice A7 n7 c7) = some b → V.heap.size ≤ b ∧ b < w6.heap.size := own_block HL6.out
        refine ⟨.slice (some ⟨G, 0, none⟩) kids.length kids.length, .slice A7 n7 c7, td', n + 1, _, rfl, OwnL.str hown HLS.out.2, fun b hb => ?_, ⟨(hoth p (by omega) (by omega)).trans HAP.out.at_, own_sameB HAP.out.row fun i hi => (hoth i (by rcases htdb i hi with h | h <;> omega) (by rcases htdb i hi with h | h <;> omega))⟩, ?_, ?_, .inr ⟨HK0.out, G, cur, .slice A3 kids.length c3, rfl, by omega, (hoth G (by omega) (by omega)).trans HLG.out, HCUR.out, HTG.out, fun b hb => ?_, rfl, rfl, HSL.out, HKIDS.out⟩⟩
        · have h1 := hlb b hb
          exact ⟨by omega, by omega, fun e => by rcases htdb b e with h | h <;> omega⟩
        · rcases HTD.out with h | ⟨b', h, h2⟩
          · exact .inl h
          · exact .inr ⟨b', h, by omega⟩
        · refine ⟨hbF.os.trans (HCH.out.os.trans HBW6.out.os), hbF.tape.trans (HCH.out.tape.trans HBW6.out.tape), hbF.output.trans (HCH.out.output.trans HBW6.out.output), by omega, fun i h1 h2 h3 => (hbF.block i h1).trans ((HCH.out.block i (by omega) h2 h3).trans (HBW6.out.block i h1))⟩
        · have h1 := hlb b hb
          omega
end Go.Proofs.YtpbhndmfmnfeoaaGreat
