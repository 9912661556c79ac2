/- A unifier goes on with what is said of a row variable. -/
import Derived.Test.YtpooocfogpileaaGreatMaM
import Derived.Test.YtpooocfogpileaaGreatMaN
import Derived.Deep.CutRange
import Derived.Outline
import Derived.Laws.Tables
import Derived.Maps.AppendAt
namespace Go.Proofs.YtpooocfogpileaaGreat
open Go.RowKit

theorem blank_below {BX : Nat → Prop} {w X : World} (hb : Below w.heap.size w X) : ∀ g, live (blank BX w) g → (blank BX X).heap[g]? = (blank BX w).heap[g]? := fun g hg => by
  obtain ⟨h1, h2⟩ := blank_live hg
  rw [blank_at h1, blank_at h1]
  exact hb.block g h2
theorem kept_blank (BX : Nat → Prop) (n : Nat) (w : World) (h : ∀ b, BX b → b < n) : Kept (fun b => BX b ∧ b < n) w (blank BX w) := ⟨by rw [blank_size]; exact Nat.le_refl _, fun b _ hn => blank_at (fun hb => hn ⟨hb, h b hb⟩)⟩
theorem blank_two {bu K : Nat} {w X : World} (hK : w.heap.size ≤ K) (hb : Below w.heap.size w X) : ∀ g, live (blank (fun b => b = bu) w) g → (blank (fun b => b = bu ∨ b = K) X).heap[g]? = (blank (fun b => b = bu) w).heap[g]? := fun g hg => by
  obtain ⟨h1, h2⟩ := blank_live hg
  rw [blank_at (X := fun b => b = bu) (w := w) h1, blank_at (X := fun b => b = bu ∨ b = K) (fun e => by rcases e with e | e; exact h1 e; omega)]
  exact hb.block g h2
set_option maxRecDepth 100000 in
set_option maxHeartbeats 8000000 in
theorem goOn_any (w : World) (bu : Nat) (A1 : Option Addr) (n1 c1 : Nat) (A2 : Option Addr) (n2 c2 : Nat) (nx : Int) (m m' : Nat) (R R2 : Int → Option (List Str × Int)) (nv : Value) (hu : Lies w bu 53 #[.slice A1 n1 c1, .slice A2 n2 c2, .int .i64 nx])
    (hs : SubV (blank (fun b => b = bu) w) (.agg #[.slice A1 n1 c1, .slice A2 n2 c2]) m T0 R) (hn : SubV (blank (fun b => b = bu) w) nv m' T0 R2) (hm : m ≤ 1000) (hm' : m' ≤ 1000) (hcl : ∀ n r, i64ok n → R n = some r → insR R2 r.2 = none) :
    Calls Tryz.prog 49 #[.pointer (some ⟨bu, 0, none⟩), nv] w fun e w' => e = .returned (.int .i64 0) ∧ ∃ A5 n5 c5 A6 n6 c6, Lies w' bu 53 #[.slice A5 n5 c5, .slice A6 n6 c6, .int .i64 nx] ∧
      SubV (blank (fun b => b = bu) w') (.agg #[.slice A5 n5 c5, .slice A6 n6 c6]) (m + m' + 1) T0 (thenF R R2) ∧ w.grownBy w' (some bu) := by
  obtain ⟨A3, n3, c3, A4, n4, c4, rfl⟩ := hn.shape
  obtain ⟨W, hW⟩ : ∃ W, W = w.alloc (.cells #[.slice A3 n3 c3, .slice A4 n4 c4] 34) := ⟨_, rfl⟩
  have hb : Below w.heap.size w W := by rw [hW]; exact below_new w _
  have k0 : Lies W w.heap.size 34 #[.slice A3 n3 c3, .slice A4 n4 c4] := by rw [hW]; exact Lies.new _ _ _
  have HC := Lib.hid (anyLarge_any W _ m' R2 (hn.keepL (blank_self hb)) (by omega))
  have HW := Lib.hid hW
  have HB := Lib.hid hb
  have HU := Lib.hid hu
  have hbu : bu < w.heap.size := hu.lt
  have HK0 := Lib.hid k0
  have hct : ∀ (K : Nat) (hK : w.heap.size ≤ K) (X : World) (hx : Below w.heap.size w X), _ := fun K hK X hx => then_any (fun b => b = bu ∨ b = K) X _ _ m m' R R2 (hs.keepL (blank_two hK hx)) (hn.keepL (blank_two hK hx)) (by omega) (by omega) hcl
  have HCT := Lib.hid hct
  clear hW hb hu k0 hct hs hn hcl
  go_enter Tryz.func49, Tryz.ntmps49
  go_wp2_with fail
  rw [← HW.out]
  refine HC.out.mono ?_
  rintro e w1 ⟨rfl, hb1⟩
  have hB1 := HB.out.trans (hb1.mono HB.out.size)
  have hk1 := HK0.out.later hb1
  have hu1 := HU.out.later hB1
  have HK := Lib.hid (show ∀ X : World, Below w1.heap.size w1 X → (X.cell? ⟨bu, 0, none⟩ = some (.slice A1 n1 c1) ∧ X.cell? ⟨bu, 1, none⟩ = some (.slice A2 n2 c2)) ∧ X.cell? ⟨w.heap.size, 0, none⟩ = some (.slice A3 n3 c3) ∧ X.cell? ⟨w.heap.size, 1, none⟩ = some (.slice A4 n4 c4) from
    fun X hx => ⟨⟨(hu1.later hx).cell 0, (hu1.later hx).cell 1⟩, (hk1.later hx).cell 0, (hk1.later hx).cell 1⟩)
  have HB1 := Lib.hid hB1
  have HU1 := Lib.hid hu1
  clear hB1 hk1 hu1 hb1 HC
  go_upto_region 3 with fail
  go_cut [5] from 8 to 13 (fun p wx => ∃ (g : Nat) (A5 : Option Addr) (n5 c5 : Nat) (A6 : Option Addr) (n6 c6 : Nat), p = .pointer (some ⟨g, 0, none⟩) ∧ w.heap.size ≤ g ∧ Lies wx g 34 #[.slice A5 n5 c5, .slice A6 n6 c6] ∧
    (∀ wf, Kept (fun b => b = bu ∨ b = g) wx wf → SubV wf (.agg #[.slice A5 n5 c5, .slice A6 n6 c6]) (m + m' + 1) T0 (thenF R R2)) ∧ Below w1.heap.size w1 wx)
  case first =>
    go_region_held3 (fun X => (X.cell? ⟨bu, 0, none⟩ = some (.slice A1 n1 c1) ∧ X.cell? ⟨bu, 1, none⟩ = some (.slice A2 n2 c2)) ∧ X.cell? ⟨w.heap.size, 0, none⟩ = some (.slice A3 n3 c3) ∧ X.cell? ⟨w.heap.size, 1, none⟩ = some (.slice A4 n4 c4))
      (first | exact HK.out _ (Below.refl _ _).drew | exact HK.out _ ((Below.refl _ _).alloc (Nat.le_refl _) _).drew | exact HK.out _ hb3 | exact HK.out _ (hb3.alloc hb3.size _) | exact HK.out _ ((hb3.setCell (p := ⟨w1.heap.size, 0, none⟩) (Nat.le_refl _) _).setCell (p := ⟨w1.heap.size, 1, none⟩) (Nat.le_refl _) _))
      (first
        | (go_at_call 66; refine (HCT.out w1.heap.size HB1.out.size _ (HB1.out.trans ((Below.refl w1.heap.size w1).drew.mono HB1.out.size))).mono ?_; rintro e x3 ⟨A5, n5, c5, A6, n6, c6, rfl, hn5, hba⟩; have hb3 : Below w1.heap.size w1 x3 := (Below.refl _ _).drew.trans hba; have HN5 := Lib.hid hn5; clear hba hn5)
        | (go_at_call 66; refine (HCT.out w1.heap.size HB1.out.size _ (HB1.out.trans (((Below.refl w1.heap.size w1).alloc (Nat.le_refl _) _).drew.mono HB1.out.size))).mono ?_; rintro e x3 ⟨A5, n5, c5, A6, n6, c6, rfl, hn5, hba⟩; have hb3 : Below w1.heap.size w1 x3 := (((Below.refl w1.heap.size w1).alloc (Nat.le_refl _) _).drew).trans (hba.mono (by simp)); have nb : Lies x3 w1.heap.size _ _ := Lies.later (w := ((w1.alloc (.cells #[.slice none 0 0, .slice none 0 0] 34)).drew)) (Lies.new w1 _ _) hba; have q0 := nb.cell 0; have q1 := nb.cell 1; have f0 := nb.free 0; have f1 := nb.free 1; have l2 := nb.lt; have HN5 := Lib.hid hn5; clear hba hn5))
    · go_wp2_with fail
      go_meet
      have hw1 := HB1.out.size
      refine ⟨x3.heap.size, A5, n5, c5, A6, n6, c6, rfl, by have := hb3.size; omega, Lies.new x3 _ _, fun wf hkf => HN5.out wf ⟨?_, fun b hb hn => ?_⟩, hb3.alloc hb3.size _⟩
      · have := hkf.1; simp at this; omega
      · exact (hkf.2 b (by simp; omega) (fun e => by rcases e with e | e; exact hn ⟨.inl e, by show b < w1.heap.size; omega⟩; omega)).trans (Below.heap_alloc x3 _ b hb)
    · go_wp2_with fail
      go_meet
      have hw1 := HB1.out.size
      obtain ⟨Z, hZ⟩ : ∃ Z, Z = (x3.setCell ⟨w1.heap.size, 0, none⟩ (.slice A5 n5 c5)).setCell ⟨w1.heap.size, 1, none⟩ (.slice A6 n6 c6) := ⟨_, rfl⟩
      rw [← hZ]
      have nz : Lies Z w1.heap.size 34 #[.slice A5 n5 c5, .slice A6 n6 c6] := by rw [hZ]; exact (nb.set 0 _).set 1 _
      have hzz : Z.heap.size = x3.heap.size := by rw [hZ]; simp [World.setCell]
      have hfz : ∀ i, i ≠ w1.heap.size → Z.heap[i]? = x3.heap[i]? := fun i h1 => by
        rw [hZ]
        exact (Below.heap_setCell _ ⟨w1.heap.size, 1, none⟩ _ i h1).trans (Below.heap_setCell _ ⟨w1.heap.size, 0, none⟩ _ i h1)
      have hbz : Below w1.heap.size w1 Z := by
        rw [hZ]
        exact (hb3.setCell (p := ⟨w1.heap.size, 0, none⟩) (Nat.le_refl _) _).setCell (p := ⟨w1.heap.size, 1, none⟩) (Nat.le_refl _) _
      refine ⟨w1.heap.size, A5, n5, c5, A6, n6, c6, rfl, hw1, nz, fun wf hkf => HN5.out wf ⟨?_, fun b hb hn => ?_⟩, hbz⟩
      · have := hkf.1; omega
      · exact (hkf.2 b (by omega) (fun e => by rcases e with e | e; exact hn ⟨.inl e, by show b < (w1.alloc _).heap.size; simp; omega⟩; exact hn ⟨.inr e, by show b < (w1.alloc _).heap.size; simp; omega⟩)).trans (hfz b (fun e => hn ⟨.inr e, by show b < (w1.alloc _).heap.size; simp; omega⟩))
  case rest =>
    obtain ⟨g, A5, n5, c5, A6, n6, c6, rfl, hg, hl, hsv, hbx⟩ := hcut
    obtain ⟨w4, rfl⟩ : ∃ w4, w4 = wc := ⟨_, rfl⟩
    have hB4 := HB1.out.trans (hbx.mono HB1.out.size)
    have HAL := Lib.hid (anyLarge_any w4 _ (m + m' + 1) _ (hsv w4 ⟨Nat.le_refl _, fun _ _ _ => rfl⟩) (by omega))
    have x0 := hl.cell 0
    have x1 := hl.cell 1
    have HL := Lib.hid hl
    have HSV := Lib.hid hsv
    have HB4 := Lib.hid hB4
    have HG := Lib.hid hg
    have HU4 := Lib.hid (HU1.out.later hbx)
    clear hl hsv hB4 hg hbx
    go_wp2_with fail
    refine HAL.out.mono ?_
    rintro e w5 ⟨rfl, hb5⟩
    have hl5 := HL.out.later hb5
    have hu5 := HU4.out.later hb5
    have y0 := hl5.cell 0
    have y1 := hl5.cell 1
    have z0 := hu5.cell 0
    have z1 := hu5.cell 1
    have f0 := hu5.free 0
    have f1 := hu5.free 1
    have lu := hu5.lt
    have HU5 := Lib.hid hu5
    have HB5 := Lib.hid hb5
    clear hl5 hu5 hb5 HAL x0 x1
    go_wp2_with fail
    go_ret
    have hb5 := HB5.out
    have hb45 := HB4.out.trans (hb5.mono HB4.out.size)
    have hfz : ∀ i, i ≠ bu → ((w5.setCell ⟨bu, 0, none⟩ (.slice A5 n5 c5)).setCell ⟨bu, 1, none⟩ (.slice A6 n6 c6)).heap[i]? = w5.heap[i]? := fun i h1 =>
      (Below.heap_setCell _ ⟨bu, 1, none⟩ _ i h1).trans (Below.heap_setCell _ ⟨bu, 0, none⟩ _ i h1)
    refine ⟨rfl, A5, n5, c5, A6, n6, c6, (HU5.out.set 0 _).set 1 _, HSV.out _ ⟨?_, fun b hb hn => ?_⟩, hb45.os, hb45.tape, hb45.output, ?_, fun k hk hne => ?_⟩
    · rw [blank_size]; simp [World.setCell]; exact hb5.size
    · rw [blank_at (X := fun b => b = bu) (fun e => hn (.inl e)), hfz b (fun e => hn (.inl e))]
      exact hb5.block b hb
    · simp [World.setCell]; exact hb45.size
    · rw [hfz k (fun e => hne (by rw [e]))]
      exact hb45.block k hk
end Go.Proofs.YtpooocfogpileaaGreat

/- A row variable is to be a row. -/
namespace Go.Proofs.YtpooocfogpileaaGreat
open Go.RowKit

theorem setRB (BX : Nat → Prop) {w : World} (hBX : ∀ b, BX b → b < w.heap.size) {sv : Value} {m : Nat} {R : Int → Option (List Str × Int)} (hs : SubV (blank BX w) sv m T0 R) (hm : m ≤ 1000) (n : Int) (hn : i64ok n) (ls : List Str) (rv : Int) (l : List Value) (hr : RwV w (ls, rv) l) :
    Calls Tryz.prog 50 #[sv, .int .i64 n, .agg l.toArray] w fun e w' => ∃ A1 n1 c1 A2 n2 c2, e = .returned (.agg #[.slice A1 n1 c1, .slice A2 n2 c2]) ∧ SubV (blank BX w') (.agg #[.slice A1 n1 c1, .slice A2 n2 c2]) (m + 1) T0 (setF R n (ls, rv)) ∧ Below w.heap.size w w' := by
  refine (setRow_any BX w sv m T0 R hs hm n hn ls rv l hr).mono ?_
  rintro e w' ⟨sv', rfl, h1, h2⟩
  have h3 := h1 _ (kept_blank BX w.heap.size w' hBX)
  obtain ⟨A1, n1, c1, A2, n2, c2, rfl⟩ := h3.shape
  exact ⟨_, _, _, _, _, _, rfl, h3, h2⟩
/-- A unifier in block bu, that has said R of rows, nothing of types; its next number. -/
def UnV (w : World) (bu m : Nat) (R : Int → Option (List Str × Int)) (nx : Int) : Prop :=
  ∃ A1 n1 c1 A2 n2 c2, Lies w bu 53 #[.slice A1 n1 c1, .slice A2 n2 c2, .int .i64 nx] ∧ SubV (blank (fun b => b = bu) w) (.agg #[.slice A1 n1 c1, .slice A2 n2 c2]) m T0 R
theorem UnV.later {w w' : World} {bu m : Nat} {R : Int → Option (List Str × Int)} {nx : Int} (h : UnV w bu m R nx) (hb : Below w.heap.size w w') : UnV w' bu m R nx := by
  obtain ⟨A1, n1, c1, A2, n2, c2, h1, h2⟩ := h
  exact ⟨A1, n1, c1, A2, n2, c2, h1.later hb, h2.keepL (blank_below hb)⟩
theorem UnV.lt {w : World} {bu m : Nat} {R : Int → Option (List Str × Int)} {nx : Int} (h : UnV w bu m R nx) : bu < w.heap.size := by
  obtain ⟨A1, n1, c1, A2, n2, c2, h1, h2⟩ := h
  exact h1.lt
theorem below_grown {w X Y : World} {row : Option Nat} (h : Below w.heap.size w X) (g : X.grownBy Y row) : w.grownBy Y row :=
  ⟨g.os.trans h.os, g.tape.trans h.tape, g.output.trans h.output, Nat.le_trans h.size g.size, fun k hk hn => (g.block k (Nat.lt_of_lt_of_le hk h.size) hn).trans (h.block k hk)⟩
set_option maxRecDepth 100000 in
set_option maxHeartbeats 8000000 in
theorem beRow_any (w : World) (bu m : Nat) (R : Int → Option (List Str × Int)) (nx : Int) (hu : UnV w bu m R nx) (hm : m ≤ 1000) (n : Int) (hn : i64ok n) (lv : Value) (ls : List Str) (rv : Int) (hr : StrR w lv ls) (hrv : i64ok rv) (hcl : ∀ k r, i64ok k → R k = some r → r.2 = 0 ∨ r.2 ≠ n) :
    Calls Tryz.prog 31 #[.pointer (some ⟨bu, 0, none⟩), .int .i64 n, .agg #[lv, .int .i64 rv]] w fun e w' => e = .returned (.int .i64 0) ∧ UnV w' bu (m + 2) (thenF R (setF R0 n (ls, rv))) nx ∧ w.grownBy w' (some bu) := by
  have hbu := hu.lt
  obtain ⟨A4, n4, c4, rfl⟩ : ∃ A n c, lv = .slice A n c := by rcases hr.1 with ⟨rfl, _⟩ | ⟨_, _, rfl, _⟩ <;> exact ⟨_, _, _, rfl⟩
  obtain ⟨W, hW⟩ : ∃ W, W = w.alloc (.cells #[.slice A4 n4 c4, .int .i64 rv] 24) := ⟨_, rfl⟩
  have hb : Below w.heap.size w W := by rw [hW]; exact below_new w _
  have k0 : Lies W w.heap.size 24 #[.slice A4 n4 c4, .int .i64 rv] := by rw [hW]; exact Lies.new _ _ _
  have HK := Lib.hid (show ∀ X : World, Below W.heap.size W X → X.cell? ⟨w.heap.size, 0, none⟩ = some (.slice A4 n4 c4) ∧ X.cell? ⟨w.heap.size, 1, none⟩ = some (.int .i64 rv) from fun X hx => ⟨(k0.later hx).cell 0, (k0.later hx).cell 1⟩)
  have hc2 : ∀ X : World, Below W.heap.size W X → _ := fun X hx => setRB (fun b => b = bu) (w := X) (fun b e => by have := hx.size; have := hb.size; rw [e]; omega) (SubV.none (blank (fun b => b = bu) X) 0) (by omega) n hn ls rv [.slice A4 n4 c4, .int .i64 rv] ⟨_, rfl, hr.keep (hb.trans (hx.mono hb.size)).block, hrv⟩
  have HW := Lib.hid hW
  have HB := Lib.hid hb
  have HU := Lib.hid hu
  have HC2 := Lib.hid hc2
  have HCL := Lib.hid (show ∀ k r, i64ok k → R k = some r → insR (setF R0 n (ls, rv)) r.2 = none from fun k r hk hr => by
    unfold insR setF
    split
    · rfl
    · rename_i h0
      rcases hcl k r hk hr with h | h
      · exact absurd h h0
      · rw [if_neg h]; rfl)
  clear hW hb hu k0 hc2 hr hrv hcl
  unfold noneV at HC2
  go_enter Tryz.func31, Tryz.ntmps31
  go_wp2_with fail
  rw [← HW.out]
  go_region_held3 (fun X => X.cell? ⟨w.heap.size, 0, none⟩ = some (.slice A4 n4 c4) ∧ X.cell? ⟨w.heap.size, 1, none⟩ = some (.int .i64 rv))
    (first | exact HK.out _ (Below.refl _ _).drew | exact HK.out _ hb3 | exact HK.out _ hb4 | exact HK5.out)
    (first
      | (go_at_call 8; refine (none_any _).mono ?_; unfold noneV; rintro e x3 ⟨rfl, hba⟩; have hb3 : Below W.heap.size W x3 := (Below.refl _ _).drew.trans hba; clear hba)
      | (go_at_call 50; refine (HC2.out _ hb3).mono ?_; rintro e x4 ⟨A5, n5, c5, A6, n6, c6, rfl, hn5, hba⟩; have hb4 : Below W.heap.size W x4 := hb3.trans (hba.mono hb3.size); have HN5 := Lib.hid hn5; clear hba hn5)
      | (go_at_call 49
         obtain ⟨B1, d1, e1, B2, d2, e2, hl1, hs1⟩ := HU.out.later (HB.out.trans (hb4.mono HB.out.size))
         refine (goOn_any x4 bu B1 d1 e1 B2 d2 e2 nx m 1 R _ _ hl1 hs1 HN5.out hm (by omega) HCL.out).mono ?_
         rintro e x5 ⟨rfl, B3, d3, e3, B4, d4, e4, hl5, hs5, hg5⟩
         have HR5 := Lib.hid (show UnV x5 bu (m + 2) (thenF R (setF R0 n (ls, rv))) nx from ⟨_, _, _, _, _, _, hl5, hs5⟩)
         have HG5 := Lib.hid (below_grown (HB.out.trans (hb4.mono HB.out.size)) hg5)
         have hlt := hb4.size
         have hws := HB.out.size
         have HK5 := Lib.hid (show x5.cell? ⟨w.heap.size, 0, none⟩ = some (.slice A4 n4 c4) ∧ x5.cell? ⟨w.heap.size, 1, none⟩ = some (.int .i64 rv) from by
           have hk := HK.out _ hb4
           have hbk : x5.heap[w.heap.size]? = x4.heap[w.heap.size]? := hg5.block _ (by have := World.block_lt_of_cell? x4 _ hk.1; exact this) (fun e => by have := Option.some.inj e; omega)
           exact ⟨(World.cell?_of_block (a := ⟨w.heap.size, 0, none⟩) hbk).trans hk.1, (World.cell?_of_block (a := ⟨w.heap.size, 1, none⟩) hbk).trans hk.2⟩)
         clear hl1 hs1 hl5 hs5 hg5 hlt hws))
  go_wp2
  go_ret
  exact ⟨rfl, HR5.out, HG5.out⟩
end Go.Proofs.YtpooocfogpileaaGreat

/- The ends of two rows with the same labels; steps in order; what two rows have more, with a fresh variable behind. -/
namespace Go.Proofs.YtpooocfogpileaaGreat
open Go.RowKit

abbrev RowF := Int → Option (List Str × Int)
theorem thenF_R0 (R : RowF) : thenF R0 R = R := rfl
def endsF (va vb : Int) : RowF := if va = vb then R0 else if va = 0 then setF R0 vb ([], 0) else setF R0 va ([], vb)
theorem UnV.mono {w : World} {bu m m' : Nat} {R : RowF} {nx : Int} (h : UnV w bu m R nx) (hm : m ≤ m') : UnV w bu m' R nx := by
  obtain ⟨A1, n1, c1, A2, n2, c2, h1, h2⟩ := h
  exact ⟨A1, n1, c1, A2, n2, c2, h1, h2.mono hm⟩
theorem strR_nil (w : World) : StrR w (.slice none 0 0) [] := ⟨.inl ⟨rfl, rfl⟩, by simp⟩
theorem grown_refl (w : World) (row : Option Nat) : w.grownBy w row := ⟨rfl, rfl, rfl, Nat.le_refl _, fun _ _ _ => rfl⟩
set_option maxRecDepth 100000 in
set_option maxHeartbeats 8000000 in
theorem ends_any (w : World) (bu m : Nat) (nx : Int) (hu : UnV w bu m R0 nx) (hm : m ≤ 1000) (va vb : Int) (hva : i64ok va) (hvb : i64ok vb) :
    Calls Tryz.prog 30 #[.pointer (some ⟨bu, 0, none⟩), .int .i64 va, .int .i64 vb] w fun e w' => e = .returned (.int .i64 0) ∧ UnV w' bu (m + 2) (endsF va vb) nx ∧ w.grownBy w' (some bu) := by
  by_cases h1 : va = vb
  · have h1b : (va == vb) = true := by simp [h1]
    have HE := Lib.hid (show endsF va vb = R0 from if_pos h1)
    have HU := Lib.hid hu
    clear hu h1 hva hvb
    go_enter Tryz.func30, Tryz.ntmps30
    go_wp2_with fail
    go_ret
    exact ⟨rfl, by rw [HE.out]; exact HU.out.mono (by omega), grown_refl _ _⟩
  · have h1b : (va == vb) = false := by simp [h1]
    have hnc : ∀ k r, i64ok k → R0 k = some r → r.2 = 0 ∨ r.2 ≠ vb := fun k r _ h => by cases h
    have hnc2 : ∀ k r, i64ok k → R0 k = some r → r.2 = 0 ∨ r.2 ≠ va := fun k r _ h => by cases h
    by_cases h0 : va = 0
    · subst h0
      have HE := Lib.hid (show endsF 0 vb = setF R0 vb ([], 0) from by unfold endsF; rw [if_neg h1, if_pos rfl])
      have HB := Lib.hid (beRow_any w bu m R0 nx hu hm vb hvb (.slice none 0 0) [] 0 (strR_nil w) (i64ok_of (by omega) (by omega)) hnc)
      clear hu h1 hva hvb hnc hnc2
      go_enter Tryz.func30, Tryz.ntmps30
      go_wp2_with fail
      refine HB.out.mono ?_
      rintro e w1 ⟨rfl, h2, h3⟩
      have H2 := Lib.hid h2
      have H3 := Lib.hid h3
      clear h2 h3
      go_wp2
      go_ret
      exact ⟨rfl, by rw [HE.out]; exact H2.out, H3.out⟩
    · have h0b : (va == 0) = false := by simp [h0]
      have HE := Lib.hid (show endsF va vb = setF R0 va ([], vb) from by unfold endsF; rw [if_neg h1, if_neg h0])
      have HB := Lib.hid (beRow_any w bu m R0 nx hu hm va hva (.slice none 0 0) [] vb (strR_nil w) hvb hnc2)
      clear hu h1 hva hvb hnc hnc2 h0
      go_enter Tryz.func30, Tryz.ntmps30
      go_wp2_with fail
      refine HB.out.mono ?_
      rintro e w1 ⟨rfl, h2, h3⟩
      have H2 := Lib.hid h2
      have H3 := Lib.hid h3
      clear h2 h3
      go_wp2
      go_ret
      exact ⟨rfl, by rw [HE.out]; exact H2.out, H3.out⟩

set_option maxRecDepth 100000 in
set_option maxHeartbeats 8000000 in
/-- A row variable is to be what the other row has more, with the fresh variable behind: as a function that knows where all stands. -/
theorem rowsA_any (w : World) (bx ba bm bf bu m : Nat) (R : RowF) (nx va fr : Int) (lv : Value) (ls : List Str) (hx : w.cell? ⟨bx, 0, none⟩ = some (.pointer (some ⟨bu, 0, none⟩))) (ha : w.cell? ⟨ba, 1, none⟩ = some (.int .i64 va)) (hmm : w.cell? ⟨bm, 0, none⟩ = some lv) (hf : w.cell? ⟨bf, 0, none⟩ = some (.int .i64 fr))
    (hu : UnV w bu m R nx) (hm : m ≤ 1000) (hva : i64ok va) (hr : StrR w lv ls) (hfr : i64ok fr) (hcl : ∀ k r, i64ok k → R k = some r → r.2 = 0 ∨ r.2 ≠ va) :
    Calls Tryz.prog 33 #[.pointer (some ⟨bx, 0, none⟩), .pointer (some ⟨ba, 0, none⟩), .pointer (some ⟨bm, 0, none⟩), .pointer (some ⟨bf, 0, none⟩)] w fun e w' => e = .returned (.int .i64 0) ∧ UnV w' bu (m + 2) (thenF R (setF R0 va (ls, fr))) nx ∧ w.grownBy w' (some bu) := by
  have HB := Lib.hid (beRow_any w bu m R nx hu hm va hva lv ls fr hr hfr hcl)
  obtain ⟨A4, n4, c4, rfl⟩ : ∃ A n c, lv = .slice A n c := by rcases hr.1 with ⟨rfl, _⟩ | ⟨_, _, rfl, _⟩ <;> exact ⟨_, _, _, rfl⟩
  clear hu hva hr hfr hcl
  go_enter Tryz.func33, Tryz.ntmps33
  go_wp2_with fail
  refine HB.out.mono ?_
  rintro e w1 ⟨rfl, h2, h3⟩
  have H2 := Lib.hid h2
  have H3 := Lib.hid h3
  clear h2 h3
  go_wp2
  go_ret
  exact ⟨rfl, H2.out, H3.out⟩
set_option maxRecDepth 100000 in
set_option maxHeartbeats 8000000 in
theorem rowsB_any (w : World) (bx ba bm bf bu m : Nat) (R : RowF) (nx va fr : Int) (lv : Value) (ls : List Str) (hx : w.cell? ⟨bx, 0, none⟩ = some (.pointer (some ⟨bu, 0, none⟩))) (ha : w.cell? ⟨ba, 1, none⟩ = some (.int .i64 va)) (hmm : w.cell? ⟨bm, 0, none⟩ = some lv) (hf : w.cell? ⟨bf, 0, none⟩ = some (.int .i64 fr))
    (hu : UnV w bu m R nx) (hm : m ≤ 1000) (hva : i64ok va) (hr : StrR w lv ls) (hfr : i64ok fr) (hcl : ∀ k r, i64ok k → R k = some r → r.2 = 0 ∨ r.2 ≠ va) :
    Calls Tryz.prog 34 #[.pointer (some ⟨bx, 0, none⟩), .pointer (some ⟨ba, 0, none⟩), .pointer (some ⟨bm, 0, none⟩), .pointer (some ⟨bf, 0, none⟩)] w fun e w' => e = .returned (.int .i64 0) ∧ UnV w' bu (m + 2) (thenF R (setF R0 va (ls, fr))) nx ∧ w.grownBy w' (some bu) := by
  have HB := Lib.hid (beRow_any w bu m R nx hu hm va hva lv ls fr hr hfr hcl)
  obtain ⟨A4, n4, c4, rfl⟩ : ∃ A n c, lv = .slice A n c := by rcases hr.1 with ⟨rfl, _⟩ | ⟨_, _, rfl, _⟩ <;> exact ⟨_, _, _, rfl⟩
  clear hu hva hr hfr hcl
  go_enter Tryz.func34, Tryz.ntmps34
  go_wp2_with fail
  refine HB.out.mono ?_
  rintro e w1 ⟨rfl, h2, h3⟩
  have H2 := Lib.hid h2
  have H3 := Lib.hid h3
  clear h2 h3
  go_wp2
  go_ret
  exact ⟨rfl, H2.out, H3.out⟩
set_option maxRecDepth 100000 in
set_option maxHeartbeats 8000000 in
/-- The two steps for two unlike variables, one behind the other. -/
theorem inOrder_any (w : World) (g : Nat) (b1 b2 : Array Value) (P1 P2 : World → Prop) (h0 : w.cell? ⟨g, 0, none⟩ = some (.func (.func 33) #[] b1)) (_h1 : w.cell? ⟨g, 1, none⟩ = some (.func (.func 34) #[] b2))
    (hc1 : Calls Tryz.prog 33 b1 w fun e w' => e = .returned (.int .i64 0) ∧ w'.cell? ⟨g, 1, none⟩ = some (.func (.func 34) #[] b2) ∧ P1 w')
    (hc2 : ∀ w1, P1 w1 → Calls Tryz.prog 34 b2 w1 fun e w' => e = .returned (.int .i64 0) ∧ P2 w') :
    Calls Tryz.prog 32 #[.slice (some ⟨g, 0, none⟩) 2 2] w fun e w' => e = .returned (.int .i64 0) ∧ P2 w' := by
  have H1 := Lib.hid hc1
  have H2 := Lib.hid hc2
  clear hc1 hc2
  go_enter Tryz.func32, Tryz.ntmps32
  go_wp2_with fail
  refine wp_loop_rounds 3 ?_
  rw [rounds_succ]
  go_wp2_with fail
  refine H1.out.mono ?_
  rintro e w1 ⟨rfl, q1, hp1⟩
  have HP := Lib.hid hp1
  clear hp1
  go_wp2_with fail
  try rw [rounds_succ]
  go_wp2_with fail
  refine (H2.out w1 HP.out).mono ?_
  rintro e w2 ⟨rfl, hp2⟩
  have HP2 := Lib.hid hp2
  clear hp2
  go_wp2_with fail
  try rw [rounds_succ]
  go_wp2
  go_ret
  exact ⟨rfl, HP2.out⟩
end Go.Proofs.YtpooocfogpileaaGreat

/- A store of a list into a cell. -/
namespace Go.Proofs.YtpooocfogpileaaGreat
open Go.RowKit

set_option maxRecDepth 100000 in
theorem wp_store_strs {o : Oper} {a : Act} {w : World} {K : Act → World → Prop} {Q : Exit → Act → World → Prop} (x y : Operand) (ho : o.op = .store 22 x y)
    (g : Nat) (A : Option Addr) (n c : Nat) (hx : a.eval x = .pointer (some ⟨g, 0, none⟩)) (hy : a.eval y = .slice A n c) (t : TypeId) (old : Value) (hg : Lies w g t #[old])
    (h : K (a.put o.dst undef) (w.setCell ⟨g, 0, none⟩ (.slice A n c))) : o.wp Tryz.prog a w K Q := by
  have c0 := hg.cell 0
  have f0 := hg.free 0
  have l0 := hg.lt
  unfold Oper.wp execOp
  simp only [ho, hx, hy]
  go_simp
  exact h
theorem wp_append_at {P : Program} {o : Oper} {a : Act} {w : World} {K : Act → World → Prop} {Q : Exit → Act → World → Prop} (s x : Operand) (t : TypeId)
    (ho : o.op = .call { callee := .builtin .append, args := #[s, x], argTypes := #[t, t] })
    (base : Nat) (e : TypeId) (i : TypeInfo) (z : Value) (size bytes : Nat) (ht : P.underlying t = some (.slice e)) (hi : P.info? e = some i) (hz : i.zero = some z)
    (hsize : i.size = size) (hby : i.bytes = bytes) (hzs : z.cells.size = size) (hsz : 0 < size)
    (v : Value) (n : Nat) (xs : List Value) (hs : a.eval s = v) (hown : w.ownsRow base e size v n xs)
    (ad : Addr) (m c : Nat) (news : List Value) (hx : a.eval x = .slice (some ad) m c) (hl : news.length = m * size) (hnews : ∀ (j : Nat) u, news[j]? = some u → w.cell? (ad.add j) = some u) (h1 : ∀ u ∈ news, u.oneCell' = true)
    (h63 : n + m ≤ maxLen) (hbytes : (n + m) * bytes ≤ 140737488355328) (hbase : base ≤ w.heap.size) (_hty : o.type = t)
    (h : ∀ v' w', w'.ownsRow base e size v' (n + m) (xs ++ news) → w.grownBy w' v.ownBlock → (v'.ownBlock = v.ownBlock ∨ v'.ownBlock = some w.heap.size) → K (a.put o.dst v') w') : o.wp P a w K Q := by
  obtain ⟨v', w', hr, h2, h3, h4, h5⟩ := run_append_own_at (P := P) w base t o.type e i z size bytes ht hi hz hsize hby hzs hsz v n xs hown ad m c news hl hnews h1 h63 hbytes hbase
  unfold Oper.wp execOp
  simp only [ho, resolve, invoke, builtin, Sem.run_bind, Sem.run_pure, Result.andThen_ok, List.map_toArray, List.map_cons, List.map_nil, hs, hx, hr]
  exact h v' w' h2 h3 h5
end Go.Proofs.YtpooocfogpileaaGreat
