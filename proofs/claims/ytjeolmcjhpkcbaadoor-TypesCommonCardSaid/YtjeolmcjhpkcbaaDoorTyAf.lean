/- The small makers of types; what must be in any case. -/
import Derived.Test.YtjeolmcjhpkcbaaDoorTyAe
import Derived.Test.YtjeolmcjhpkcbaaDoorTyAb
import Derived.Test.YtjeolmcjhpkcbaaDoorTyH
import Derived.Test.YtjeolmcjhpkcbaaDoorTyY
import Derived.Outline
namespace Go.Proofs.YtjeolmcjhpkcbaaDoor
open Go.RowKit Go.Shelf

def tyInt : Ty := .mk 1 [] 0 [] [] 0
def tyBool : Ty := .mk 2 [] 0 [] [] 0
def nilS : Value := .slice none 0 0
theorem SlOk.nil (w : World) : SlOk w (.slice none 0 0) 0 := ⟨none, 0, rfl, Nat.le_refl _, by unfold maxLen; omega, fun h => absurd h (by omega)⟩
theorem TV.leaf (w : World) (k : Int) (nm : Str) (v rv : Int) : TV w (.mk k nm v [] [] rv) (tyC k nm v (.slice none 0 0) (.slice none 0 0) rv) := ⟨_, _, rfl, SlOk.nil w, Strs.nil w, by simp⟩
theorem sz_ty : (Tryd.prog.info? 27).map (·.size) = some 6 := by kernel_rfl
set_option maxRecDepth 100000 in
set_option maxHeartbeats 2000000 in
theorem whole_any (w : World) : Calls Tryd.prog 28 #[] w fun e w' => e = .returned (.agg (tyC 1 [] 0 (.slice none 0 0) (.slice none 0 0) 0).toArray) ∧ Below w.heap.size w w' := by
  go_enter Tryd.func28, Tryd.ntmps28
  go_wp2
  refine bodyPost_ret (results_cell_row rfl _ _ w.heap.size 27 _ (0, 0) _ rfl (Lies.new w 27 (tyC 1 [] 0 (.slice none 0 0) (.slice none 0 0) 0).toArray) Tryd.underlying27 rfl sz_ty) rfl ⟨rfl, below_new _ _⟩
set_option maxRecDepth 100000 in
set_option maxHeartbeats 2000000 in
theorem truth_any (w : World) : Calls Tryd.prog 31 #[] w fun e w' => e = .returned (.agg (tyC 2 [] 0 (.slice none 0 0) (.slice none 0 0) 0).toArray) ∧ Below w.heap.size w w' := by
  go_enter Tryd.func31, Tryd.ntmps31
  go_wp2
  refine bodyPost_ret (results_cell_row rfl _ _ w.heap.size 27 _ (0, 0) _ rfl (Lies.new w 27 (tyC 2 [] 0 (.slice none 0 0) (.slice none 0 0) 0).toArray) Tryd.underlying27 rfl sz_ty) rfl ⟨rfl, below_new _ _⟩
/-- Two types laid one behind the other are the kids of a function. -/
theorem TV.two {w : World} {t u : Ty} {la lb : List Value} (ht : TV w t la) (hu : TV w u lb) {g : Nat} (hl : Lies w g 27 (la ++ lb).toArray) (k : Int) (nm : Str) (v : Int) {lv : Value} {ls : List Str} (hs : Strs w lv ls) (rv : Int) :
    TV w (.mk k nm v [t, u] ls rv) (tyC k nm v (.slice (some ⟨g, 0, none⟩) 2 2) lv rv) := by
  have h1 := ht.len
  have h2 := hu.len
  refine ⟨_, _, rfl, ⟨_, 2, rfl, Nat.le_refl _, by unfold maxLen; omega, fun _ => ⟨g, 0, rfl, _, _, hl⟩⟩, hs, fun i x hx => ?_⟩
  match i, hx with
  | 0, hx =>
    have : t = x := by simpa using hx
    subst this
    refine ht.at_ rfl ⟨_, _, hl⟩ (fun j y hy => ?_)
    have hj : j < 6 := by rw [← h1]; exact (List.getElem?_eq_some_iff.1 hy).1
    show w.cell? ⟨g, 0 + 0 * 6 + j, none⟩ = some y
    rw [hl.cell]
    simp only [Nat.zero_mul, Nat.zero_add, List.getElem?_toArray]
    rw [List.getElem?_append_left (by omega)]
    exact hy
  | 1, hx =>
    have : u = x := by simpa using hx
    subst this
    refine hu.at_ rfl ⟨_, _, hl⟩ (fun j y hy => ?_)
    show w.cell? ⟨g, 0 + 1 * 6 + j, none⟩ = some y
    rw [hl.cell]
    simp only [Nat.one_mul, Nat.zero_add, List.getElem?_toArray]
    rw [List.getElem?_append_right (by omega), h1, show 6 + j - 6 = j by omega]
    exact hy
theorem TV.one {w : World} {t : Ty} {la : List Value} (ht : TV w t la) {g : Nat} (hl : Lies w g 27 la.toArray) (k : Int) (nm : Str) (v : Int) {lv : Value} {ls : List Str} (hs : Strs w lv ls) (rv : Int) :
    TV w (.mk k nm v [t] ls rv) (tyC k nm v (.slice (some ⟨g, 0, none⟩) 1 1) lv rv) := by
  refine ⟨_, _, rfl, ⟨_, 1, rfl, Nat.le_refl _, by unfold maxLen; omega, fun _ => ⟨g, 0, rfl, _, _, hl⟩⟩, hs, fun i x hx => ?_⟩
  match i, hx with
  | 0, hx =>
    have : t = x := by simpa using hx
    subst this
    refine ht.at_ rfl ⟨_, _, hl⟩ (fun j y hy => ?_)
    show w.cell? ⟨g, 0 + 0 * 6 + j, none⟩ = some y
    rw [hl.cell]
    simpa using hy
set_option maxRecDepth 100000 in
set_option maxHeartbeats 4000000 in
theorem fun_any (w : World) (k : Int) (nm : Str) (v : Int) (A : Option Addr) (n q : Nat) (A2 : Option Addr) (n2 q2 : Nat) (rv : Int) (k' : Int) (nm' : Str) (v' : Int) (B : Option Addr) (m p : Nat) (B2 : Option Addr) (m2 p2 : Nat) (rv' : Int) (C : Option Addr) (n3 q3 : Nat) (rw' : Int) :
    Calls Tryd.prog 24 #[.agg (tyC k nm v (.slice A n q) (.slice A2 n2 q2) rv).toArray, .agg #[.slice C n3 q3, .int .i64 rw'], .agg (tyC k' nm' v' (.slice B m p) (.slice B2 m2 p2) rv').toArray] w fun e w' =>
      ∃ g, e = .returned (.agg (tyC 5 [] 0 (.slice (some ⟨g, 0, none⟩) 2 2) (.slice C n3 q3) rw').toArray) ∧ w.heap.size ≤ g ∧ Lies w' g 27 (tyC k nm v (.slice A n q) (.slice A2 n2 q2) rv ++ tyC k' nm' v' (.slice B m p) (.slice B2 m2 p2) rv').toArray ∧ Below w.heap.size w w' := by
  unfold tyC
  go_enter Tryd.func24, Tryd.ntmps24
  go_wp2
  have b1 : Below w.heap.size w (w.alloc (.cells (tyC k nm v (.slice A n q) (.slice A2 n2 q2) rv).toArray 27)) := below_new _ _
  have b2 := b1.alloc (by simp) (.cells #[.slice C n3 q3, .int .i64 rw'] 25)
  have b3 := b2.alloc (by simp; omega) (.cells (tyC k' nm' v' (.slice B m p) (.slice B2 m2 p2) rv').toArray 27)
  have b4 := b3.alloc (by simp; omega) (.cells (tyC 5 [] 0 (.slice (some ⟨w.heap.size + 4, 0, none⟩) 2 2) (.slice C n3 q3) rw').toArray 27)
  have b5 := b4.alloc (by simp; omega) (.cells (tyC k nm v (.slice A n q) (.slice A2 n2 q2) rv ++ tyC k' nm' v' (.slice B m p) (.slice B2 m2 p2) rv').toArray 27)
  have l4 := (Lies.new' (((w.alloc (.cells (tyC k nm v (.slice A n q) (.slice A2 n2 q2) rv).toArray 27)).alloc (.cells #[.slice C n3 q3, .int .i64 rw'] 25)).alloc (.cells (tyC k' nm' v' (.slice B m p) (.slice B2 m2 p2) rv').toArray 27)) 27 (tyC 5 [] 0 (.slice (some ⟨w.heap.size + 4, 0, none⟩) 2 2) (.slice C n3 q3) rw').toArray (N := w.heap.size + 3) (by simp)).alloc (.cells (tyC k nm v (.slice A n q) (.slice A2 n2 q2) rv ++ tyC k' nm' v' (.slice B m p) (.slice B2 m2 p2) rv').toArray 27)
  have l5 := Lies.new' ((((w.alloc (.cells (tyC k nm v (.slice A n q) (.slice A2 n2 q2) rv).toArray 27)).alloc (.cells #[.slice C n3 q3, .int .i64 rw'] 25)).alloc (.cells (tyC k' nm' v' (.slice B m p) (.slice B2 m2 p2) rv').toArray 27)).alloc (.cells (tyC 5 [] 0 (.slice (some ⟨w.heap.size + 4, 0, none⟩) 2 2) (.slice C n3 q3) rw').toArray 27)) 27 (tyC k nm v (.slice A n q) (.slice A2 n2 q2) rv ++ tyC k' nm' v' (.slice B m p) (.slice B2 m2 p2) rv').toArray (N := w.heap.size + 4) (by simp)
  refine bodyPost_ret (results_cell_row rfl _ _ (w.heap.size + 3) 27 _ (0, 0) _ rfl l4 Tryd.underlying27 rfl sz_ty) rfl ⟨w.heap.size + 4, rfl, by omega, l5, b5⟩
def tyRef : Ty := .mk 6 [] 0 [tyBool] [] 0
def tyT : Ty := .mk 5 [] 0 [tyInt, tyRef] [conB] 3
theorem dec3 : Lib.decDigits 3 = [51] := by rw [Lib.decDigits]; rfl
theorem join_con : joinB [conB] = conB := by unfold joinB; exact Lib.join_one _ _
theorem row_t : rowB [conB] 3 = [60, 99, 111, 110, 115, 111, 108, 101, 124, 51, 62, 32] := by
  unfold rowB
  rw [join_con, if_neg (by decide), if_neg (by decide), show (3 : Int).toNat = 3 from rfl, dec3]
  rfl
theorem tx_t : txT tyT = [105, 110, 116, 32, 45, 62, 32, 60, 99, 111, 110, 115, 111, 108, 101, 124, 51, 62, 32, 114, 101, 102, 32, 98, 111, 111, 108] := by
  show brB [5] (1, [105, 110, 116]) ++ [32, 45, 62, 32] ++ rowB [conB] 3 ++ _ = _
  rw [row_t]
  rfl
theorem ok_t : okX tyT = true := by
  have h := tx_t
  unfold tyT at h ⊢
  rw [txT] at h
  rw [okX, h, join_con]
  decide
theorem right_t : rightT tyT = true := by decide
theorem rw_t : rwT tyT [] = [3] := by decide
theorem addrs_t {W : World} {a : Addr} {g h : Nat} (k1 : kidsA W a = [⟨g, 0, none⟩, ⟨g, 6, none⟩]) (k2 : kidsA W ⟨g, 0, none⟩ = []) (k3 : kidsA W ⟨g, 6, none⟩ = [⟨h, 0, none⟩]) (k4 : kidsA W ⟨h, 0, none⟩ = []) (h1 : a.block ≠ g) (h2 : a.block ≠ h) (h3 : g ≠ h) : (addrs W tyT.deep a).Nodup := by
  have hd : tyT.deep = 3 := by decide
  have e1 : a ≠ ⟨g, 0, none⟩ := fun e => h1 (by rw [e])
  have e2 : a ≠ ⟨g, 6, none⟩ := fun e => h1 (by rw [e])
  have e3 : a ≠ ⟨h, 0, none⟩ := fun e => h2 (by rw [e])
  have e4 : (⟨g, 0, none⟩ : Addr) ≠ ⟨h, 0, none⟩ := fun e => h3 (by injection e)
  have e5 : (⟨g, 6, none⟩ : Addr) ≠ ⟨h, 0, none⟩ := fun e => h3 (by injection e)
  rw [hd]
  simp only [addrs, k1, k2, k3, k4, List.flatMap_cons, List.flatMap_nil, List.append_nil]
  simp [e1, e2, e3, e4, e5]
theorem keep6 {w w' : World} {B : Nat} {v0 v1 v2 v3 v4 v5 : Value} (h : w.cell? ⟨B, 0, none⟩ = some v0 ∧ w.cell? ⟨B, 1, none⟩ = some v1 ∧ w.cell? ⟨B, 2, none⟩ = some v2 ∧ w.cell? ⟨B, 3, none⟩ = some v3 ∧ w.cell? ⟨B, 4, none⟩ = some v4 ∧ w.cell? ⟨B, 5, none⟩ = some v5) (hb : Below w.heap.size w w') :
    w'.cell? ⟨B, 0, none⟩ = some v0 ∧ w'.cell? ⟨B, 1, none⟩ = some v1 ∧ w'.cell? ⟨B, 2, none⟩ = some v2 ∧ w'.cell? ⟨B, 3, none⟩ = some v3 ∧ w'.cell? ⟨B, 4, none⟩ = some v4 ∧ w'.cell? ⟨B, 5, none⟩ = some v5 ∧ Below w.heap.size w w' := by
  obtain ⟨a0, a1, a2, a3, a4, a5⟩ := h
  have K : ∀ (p : Addr) (v : Value), w.cell? p = some v → w'.cell? p = some v := fun p v hp => (hb.cell (World.block_lt_of_cell? w _ hp)).trans hp
  exact ⟨K _ _ a0, K _ _ a1, K _ _ a2, K _ _ a3, K _ _ a4, K _ _ a5, hb⟩
set_option maxRecDepth 100000 in
set_option maxHeartbeats 8000000 in
theorem shown_any (w : World) : Calls Tryd.prog 11 #[] w fun e w' => e = .returned (.bool true) ∧ Below w.heap.size w w' := by
  have hw1 := whole_any w
  have HW1 := Lib.hid hw1
  unfold tyC at HW1
  clear hw1
  go_enter Tryd.func11, Tryd.ntmps11
  go_wp2_with fail
  refine HW1.out.mono ?_
  rintro e w1 ⟨rfl, hb1⟩
  have ht1 := truth_any (w1.alloc (.cells #[.string (ba conB)] 9))
  have hbl := below_new w1 (.cells #[.string (ba conB)] 9)
  have ll := Lies.new w1 9 #[.string (ba conB)]
  have HT1 := Lib.hid ht1
  have HLL := Lib.hid ll
  have HBL := Lib.hid hbl
  unfold tyC ba conB at HT1
  clear ht1 hbl ll
  go_wp2_with fail
  refine HT1.out.mono ?_
  rintro e w2 ⟨rfl, hb2⟩
  have hbr := below_new w2 (.cells (tyC 2 [] 0 (.slice none 0 0) (.slice none 0 0) 0).toArray 27)
  have lr := Lies.new w2 27 (tyC 2 [] 0 (.slice none 0 0) (.slice none 0 0) 0).toArray
  have hf := fun_any (w2.alloc (.cells (tyC 2 [] 0 (.slice none 0 0) (.slice none 0 0) 0).toArray 27)) 1 [] 0 none 0 0 none 0 0 0 6 [] 0 (some ⟨w2.heap.size, 0, none⟩) 1 1 none 0 0 0 (some ⟨w1.heap.size, 0, none⟩) 1 1 3
  have HF := Lib.hid hf
  have HLR := Lib.hid lr
  have HBR := Lib.hid hbr
  unfold tyC at HF
  clear hf lr hbr
  go_wp2_with fail
  refine HF.out.mono ?_
  rintro e w3 ⟨g, rfl, hg, hlg, hb3⟩
  have hb3' := hb3
  have B2 : Below w2.heap.size w2 w3 := HBR.out.trans (hb3.mono HBR.out.size)
  have hg2 : w2.heap.size < g := by rw [World.size_alloc] at hg; omega
  have B12 := HBL.out.trans (hb2.mono HBL.out.size)
  have B1 : Below w1.heap.size w1 w3 := B12.trans (B2.mono B12.size)
  have B0 : Below w.heap.size w w3 := hb1.trans (B1.mono hb1.size)
  have hls : Strs w3 (.slice (some ⟨w1.heap.size, 0, none⟩) 1 1) [conB] := by
    have l1 := (HLL.out.later hb2).later B2
    refine ⟨_, 1, rfl, Nat.le_refl _, by unfold maxLen; omega, fun _ => ⟨w1.heap.size, 0, rfl, fun i s hs => ?_⟩⟩
    match i, hs with
    | 0, hs =>
      have : conB = s := by simpa using hs
      subst this
      exact l1.cell 0
  have hlr3 : Lies w3 w2.heap.size 27 (tyC 2 [] 0 (.slice none 0 0) (.slice none 0 0) 0).toArray := HLR.out.later hb3
  have htr : TV w3 tyRef (tyC 6 [] 0 (.slice (some ⟨w2.heap.size, 0, none⟩) 1 1) (.slice none 0 0) 0) := TV.one (TV.leaf w3 2 [] 0 0) hlr3 6 [] 0 (Strs.nil _) 0
  have htv : TV w3 tyT (tyC 5 [] 0 (.slice (some ⟨g, 0, none⟩) 2 2) (.slice (some ⟨w1.heap.size, 0, none⟩) 1 1) 3) := TV.two (TV.leaf w3 1 [] 0 0) htr hlg 5 [] 0 hls 3
  have hgl := hlg.lt
  obtain ⟨w4, hw4⟩ : ∃ w4, w4 = w3.alloc (.cells (tyC 5 [] 0 (.slice (some ⟨g, 0, none⟩) 2 2) (.slice (some ⟨w1.heap.size, 0, none⟩) 1 1) 3).toArray 27) := ⟨_, rfl⟩
  have hb4 : Below w3.heap.size w3 w4 := by rw [hw4]; exact below_new _ _
  have l4 : Lies w4 w3.heap.size 27 (tyC 5 [] 0 (.slice (some ⟨g, 0, none⟩) 2 2) (.slice (some ⟨w1.heap.size, 0, none⟩) 1 1) 3).toArray := by rw [hw4]; exact Lies.new _ _ _
  have hs4 : w4.heap.size = w3.heap.size + 1 := by rw [hw4]; simp
  have htv4 := htv.later hb4
  have hb5 := below_new w4 (.cells (tyC 5 [] 0 (.slice (some ⟨g, 0, none⟩) 2 2) (.slice (some ⟨w1.heap.size, 0, none⟩) 1 1) 3).toArray 27)
  have hvars := vars_any _ tyT w4 htv4 (by decide) (by decide) (by
    have hta := htv4.new 27 rfl
    have hlg5 := (hlg.later hb4).later hb5
    have hlr5 := (hlr3.later hb4).later hb5
    have l5 := Lies.new w4 27 (tyC 5 [] 0 (.slice (some ⟨g, 0, none⟩) 2 2) (.slice (some ⟨w1.heap.size, 0, none⟩) 1 1) 3).toArray
    refine addrs_t (g := g) (h := w2.heap.size) ?_ ?_ ?_ ?_ (by show w4.heap.size ≠ g; omega) (by show w4.heap.size ≠ w2.heap.size; omega) (by omega)
    · unfold kidsA; rw [show (⟨w4.heap.size, 0 + 3, none⟩ : Addr) = ⟨w4.heap.size, 3, none⟩ from rfl, l5.cell 3]; rfl
    · unfold kidsA; rw [show (⟨g, 0 + 3, none⟩ : Addr) = ⟨g, 3, none⟩ from rfl, hlg5.cell 3]; rfl
    · unfold kidsA; rw [show (⟨g, 6 + 3, none⟩ : Addr) = ⟨g, 9, none⟩ from rfl, hlg5.cell 9]; rfl
    · unfold kidsA; rw [show (⟨w2.heap.size, 0 + 3, none⟩ : Addr) = ⟨w2.heap.size, 3, none⟩ from rfl, hlr5.cell 3]; rfl)
  rw [rw_t] at hvars
  have HV := Lib.hid hvars
  have HW4 := Lib.hid hw4
  have HTV := Lib.hid htv4
  have HL4 := Lib.hid l4
  have HLS := Lib.hid hls
  unfold tyC at HV HW4 HTV HL4
  clear hvars hw4 htv4 l4 htv htr hls hlr3 hlg hb3 hb3' HF HT1 HW1 hb5 HLR HLL hs4 hg hg2 hgl
  go_wp2_with fail
  rw [← HW4.out]
  refine HV.out.mono ?_
  rintro e w5 ⟨v2, rfl, how, hb6⟩
  have hB45 : Below w4.heap.size w4 w5 := hb6
  have hB5 : Below w.heap.size w w5 := (B0.trans (hb4.mono B0.size)).trans (hb6.mono (by have := B0.size; have := hb4.size; omega))
  have l5 := HL4.out.later hB45
  have hS : w5.cell? ⟨w3.heap.size, 0, none⟩ = some (.int .i64 5) ∧ w5.cell? ⟨w3.heap.size, 1, none⟩ = some (.string (ba [])) ∧ w5.cell? ⟨w3.heap.size, 2, none⟩ = some (.int .i64 0) ∧ w5.cell? ⟨w3.heap.size, 3, none⟩ = some (.slice (some ⟨g, 0, none⟩) 2 2) ∧ w5.cell? ⟨w3.heap.size, 4, none⟩ = some (.slice (some ⟨w1.heap.size, 0, none⟩) 1 1) ∧ w5.cell? ⟨w3.heap.size, 5, none⟩ = some (.int .i64 3) := ⟨l5.cell 0, l5.cell 1, l5.cell 2, l5.cell 3, l5.cell 4, l5.cell 5⟩
  have tv5 : TV w5 tyT (tyC 5 [] 0 (.slice (some ⟨g, 0, none⟩) 2 2) (.slice (some ⟨w1.heap.size, 0, none⟩) 1 1) 3) := HTV.out.later hB45
  have ls5 : Strs w5 (.slice (some ⟨w1.heap.size, 0, none⟩) 1 1) [conB] := (HLS.out.later hb4).later hB45
  have hR : ∀ W, Below w5.heap.size w5 W → Calls Tryd.prog 13 #[.agg #[.int .i64 5, .string (ba []), .int .i64 0, .slice (some ⟨g, 0, none⟩) 2 2, .slice (some ⟨w1.heap.size, 0, none⟩) 1 1, .int .i64 3]] W fun e w' => e = .returned (.bool true) ∧ Below w5.heap.size w5 w' := fun W hW => (rightAll_any _ tyT W (tv5.later hW) (by decide)).mono fun e w' h => ⟨by rw [h.1, right_t], hW.trans (h.2.mono hW.size)⟩
  have hX : ∀ W, Below w5.heap.size w5 W → Calls Tryd.prog 14 #[.agg #[.int .i64 5, .string (ba []), .int .i64 0, .slice (some ⟨g, 0, none⟩) 2 2, .slice (some ⟨w1.heap.size, 0, none⟩) 1 1, .int .i64 3]] W fun e w' => e = .returned (.string ⟨#[105, 110, 116, 32, 45, 62, 32, 60, 99, 111, 110, 115, 111, 108, 101, 124, 51, 62, 32, 114, 101, 102, 32, 98, 111, 111, 108]⟩) ∧ Below w5.heap.size w5 w' := fun W hW => (textAll_any _ tyT W (tv5.later hW) (by decide) ok_t).mono fun e w' h => ⟨by rw [h.1, right_t, if_pos rfl, tx_t]; rfl, hW.trans (h.2.mono hW.size)⟩
  have hS1 : ∀ W, Below w5.heap.size w5 W → Calls Tryd.prog 17 #[.agg #[.int .i64 5, .string (ba []), .int .i64 0, .slice (some ⟨g, 0, none⟩) 2 2, .slice (some ⟨w1.heap.size, 0, none⟩) 1 1, .int .i64 3], .agg #[.int .i64 5, .string (ba []), .int .i64 0, .slice (some ⟨g, 0, none⟩) 2 2, .slice (some ⟨w1.heap.size, 0, none⟩) 1 1, .int .i64 3]] W fun e w' => e = .returned (.bool true) ∧ Below w5.heap.size w5 w' := fun W hW => (same_self _ tyT W (tv5.later hW) (by decide)).mono fun e w' h => ⟨h.1, hW.trans (h.2.mono hW.size)⟩
  have hWh : ∀ W, Below w5.heap.size w5 W → Calls Tryd.prog 28 #[] W fun e w' => e = .returned (.agg #[.int .i64 1, .string (ba []), .int .i64 0, .slice none 0 0, .slice none 0 0, .int .i64 0]) ∧ Below w5.heap.size w5 w' := fun W hW => (whole_any W).mono fun e w' h => ⟨h.1, hW.trans (h.2.mono hW.size)⟩
  have hS2 : ∀ W, Below w5.heap.size w5 W → Calls Tryd.prog 17 #[.agg #[.int .i64 5, .string (ba []), .int .i64 0, .slice (some ⟨g, 0, none⟩) 2 2, .slice (some ⟨w1.heap.size, 0, none⟩) 1 1, .int .i64 3], .agg #[.int .i64 1, .string (ba []), .int .i64 0, .slice none 0 0, .slice none 0 0, .int .i64 0]] W fun e w' => e = .returned (.bool false) ∧ Below w5.heap.size w5 w' := fun W hW => (same_kinds 5 [] 0 [tyInt, tyRef] [conB] 3 1 [] 0 [] [] 0 _ _ W (tv5.later hW) (TV.leaf W 1 [] 0 0) (by decide)).mono fun e w' h => ⟨h.1, hW.trans (h.2.mono hW.size)⟩
  have hD : ∀ W, Below w5.heap.size w5 W → Calls Tryd.prog 23 #[.agg #[.int .i64 5, .string (ba []), .int .i64 0, .slice (some ⟨g, 0, none⟩) 2 2, .slice (some ⟨w1.heap.size, 0, none⟩) 1 1, .int .i64 3]] W fun e w' => e = .returned (.int .i64 3) ∧ Below w5.heap.size w5 w' := fun W hW => (depth_any _ tyT W (tv5.later hW) (by decide)).mono fun e w' h => ⟨by rw [h.1]; rfl, hW.trans (h.2.mono hW.size)⟩
  have hC1 : ∀ W, Below w5.heap.size w5 W → Calls Tryd.prog 22 #[.agg #[.slice (some ⟨w1.heap.size, 0, none⟩) 1 1, .int .i64 3]] W fun e w' => e = .returned (.bool false) ∧ Below w5.heap.size w5 w' := fun W hW => (calm_any _ [conB] 3 W (ls5.later hW) (by decide)).mono fun e w' h => ⟨by rw [h.1]; rfl, hW.trans (h.2.mono hW.size)⟩
  have hC2 : ∀ W, Below w5.heap.size w5 W → Calls Tryd.prog 22 #[.agg #[.slice none 0 0, .int .i64 0]] W fun e w' => e = .returned (.bool true) ∧ Below w5.heap.size w5 w' := fun W hW => (calm_any _ [] 0 W (Strs.nil W) (by decide)).mono fun e w' h => ⟨by rw [h.1]; rfl, hW.trans (h.2.mono hW.size)⟩
  obtain ⟨A7, n7, q7, rfl⟩ := own_slice how
  have hn7 : n7 = 1 := by
    rcases how.2 with ⟨h0, h1⟩ | ⟨_, _, _, h0, _⟩
    · simp at h1
    · injection h0
  subst hn7
  have HS := Lib.hid hS
  clear hS tv5 ls5 l5 how HTV HLS HL4 HV
  go_wp2
  go_region_held3 (fun w' => w'.cell? ⟨w3.heap.size, 0, none⟩ = some (.int .i64 5) ∧ w'.cell? ⟨w3.heap.size, 1, none⟩ = some (.string (ba [])) ∧ w'.cell? ⟨w3.heap.size, 2, none⟩ = some (.int .i64 0) ∧ w'.cell? ⟨w3.heap.size, 3, none⟩ = some (.slice (some ⟨g, 0, none⟩) 2 2) ∧ w'.cell? ⟨w3.heap.size, 4, none⟩ = some (.slice (some ⟨w1.heap.size, 0, none⟩) 1 1) ∧ w'.cell? ⟨w3.heap.size, 5, none⟩ = some (.int .i64 3) ∧ Below w5.heap.size w5 w')
    (first | exact keep6 HS.out (Below.refl _ _).drew | exact keep6 HS.out b8 | exact keep6 HS.out b7 | exact keep6 HS.out b6 | exact keep6 HS.out b5 | exact keep6 HS.out b4 | exact keep6 HS.out b3 | exact keep6 HS.out b2 | exact keep6 HS.out b1)
    (first | (go_at_call 13; refine (hR _ (Below.refl _ _).drew).mono ?_; rintro e v1 ⟨rfl, b1⟩) | (go_at_call 14; refine (hX _ b1).mono ?_; rintro e v2 ⟨rfl, b2⟩) | (go_at_call_of 17 (Value.int .i64 1); refine (hS2 _ b4).mono ?_; rintro e v5 ⟨rfl, b5⟩) | (go_at_call 17; refine (hS1 _ b2).mono ?_; rintro e v3 ⟨rfl, b3⟩) | (go_at_call 28; refine (hWh _ b3).mono ?_; rintro e v4 ⟨rfl, b4⟩) | (go_at_call 23; refine (hD _ b5).mono ?_; rintro e v6 ⟨rfl, b6⟩) | (go_at_call_of 22 (Value.int .i64 3); refine (hC1 _ b6).mono ?_; rintro e v7 ⟨rfl, b7⟩) | (go_at_call 22; refine (hC2 _ b7).mono ?_; rintro e v8 ⟨rfl, b8⟩))
  have hbw := hB5.trans (b8.mono hB5.size)
  clear hR hX hS1 hWh hS2 hD hC1 hC2
  go_wp2
  go_ret
  exact ⟨rfl, hbw⟩
end Go.Proofs.YtjeolmcjhpkcbaaDoor
