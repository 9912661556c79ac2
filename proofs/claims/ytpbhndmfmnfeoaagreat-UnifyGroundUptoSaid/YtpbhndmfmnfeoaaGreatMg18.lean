/- A row variable is to be a row. -/
import Derived.Test.YtpbhndmfmnfeoaaGreatMg17
import Derived.Outline
namespace Go.Proofs.YtpbhndmfmnfeoaaGreat
open Go.RowKit

theorem setRB (BX : Nat → Prop) {w : World} (hBX : ∀ b, BX b → b < w.heap.size) {sv : Value} {m : Nat} {R : Int → Option (List Str × Int)} (hs : SubV (blank BX w) sv m T0 R) (hm : m ≤ 1000) (n : Int) (hn : i64ok n) (ls : List Str) (rv : Int) (l : List Value) (hr : RwV w (ls, rv) l) :
    Calls Tryz.prog 50 #[sv, .int .i64 n, .agg l.toArray] w fun e w' => ∃ A1 n1 c1 A2 n2 c2, e = .returned (.agg #[.slice A1 n1 c1, .slice A2 n2 c2]) ∧ SubV (blank BX w') (.agg #[.slice A1 n1 c1, .slice A2 n2 c2]) (m + 1) T0 (setF R n (ls, rv)) ∧ Below w.heap.size w w' := by
  refine (setRow_any BX w sv m T0 R hs hm n hn ls rv l hr).mono ?_
  rintro e w' ⟨sv', rfl, h1, h2⟩
  have h3 := h1 _ (kept_blank BX w.heap.size w' hBX)
  obtain ⟨A1, n1, c1, A2, n2, c2, rfl⟩ := h3.shape
  exact ⟨_, _, _, _, _, _, rfl, h3, h2⟩
/-- A unifier in block bu, that has said R of rows, nothing of types; its next number. -/
def UnV (w : World) (bu m : Nat) (R : Int → Option (List Str × Int)) (nx : Int) : Prop :=
  ∃ A1 n1 c1 A2 n2 c2, Lies w bu 53 #[.slice A1 n1 c1, .slice A2 n2 c2, .int .i64 nx] ∧ SubV (blank (fun b => b = bu) w) (.agg #[.slice A1 n1 c1, .slice A2 n2 c2]) m T0 R
theorem UnV.later {w w' : World} {bu m : Nat} {R : Int → Option (List Str × Int)} {nx : Int} (h : UnV w bu m R nx) (hb : Below w.heap.size w w') : UnV w' bu m R nx := by
  obtain ⟨A1, n1, c1, A2, n2, c2, h1, h2⟩ := h
  exact ⟨A1, n1, c1, A2, n2, c2, h1.later hb, h2.keepL (blank_below hb)⟩
theorem UnV.lt {w : World} {bu m : Nat} {R : Int → Option (List Str × Int)} {nx : Int} (h : UnV w bu m R nx) : bu < w.heap.size := by
  obtain ⟨A1, n1, c1, A2, n2, c2, h1, h2⟩ := h
  exact h1.lt
theorem below_grown {w X Y : World} {row : Option Nat} (h : Below w.heap.size w X) (g : X.grownBy Y row) : w.grownBy Y row :=
  ⟨g.os.trans h.os, g.tape.trans h.tape, g.output.trans h.output, Nat.le_trans h.size g.size, fun k hk hn => (g.block k (Nat.lt_of_lt_of_le hk h.size) hn).trans (h.block k hk)⟩
set_option maxRecDepth 100000 in
set_option maxHeartbeats 8000000 in
theorem beRow_any (w : World) (bu m : Nat) (R : Int → Option (List Str × Int)) (nx : Int) (hu : UnV w bu m R nx) (hm : m ≤ 1000) (n : Int) (hn : i64ok n) (lv : Value) (ls : List Str) (rv : Int) (hr : StrR w lv ls) (hrv : i64ok rv) (hcl : ∀ k r, i64ok k → R k = some r → r.2 = 0 ∨ r.2 ≠ n) :
    Calls Tryz.prog 31 #[.pointer (some ⟨bu, 0, none⟩), .int .i64 n, .agg #[lv, .int .i64 rv]] w fun e w' => e = .returned (.int .i64 0) ∧ UnV w' bu (m + 2) (thenF R (setF R0 n (ls, rv))) nx ∧ w.grownBy w' (some bu) := by
  have hbu := hu.lt
  obtain ⟨A4, n4, c4, rfl⟩ : ∃ A n c, lv = .slice A n c := by rcases hr.1 with ⟨rfl, _⟩ | ⟨_, _, rfl, _⟩ <;> exact ⟨_, _, _, rfl⟩
  obtain ⟨W, hW⟩ : ∃ W, W = w.alloc (.cells #[.slice A4 n4 c4, .int .i64 rv] 24) := ⟨_, rfl⟩
  have hb : Below w.heap.size w W := by rw [hW]; exact below_new w _
  have k0 : Lies W w.heap.size 24 #[.slice A4 n4 c4, .int .i64 rv] := by rw [hW]; exact Lies.new _ _ _
  have HK := Lib.hid (show ∀ X : World, Below W.heap.size W X → X.cell? ⟨w.heap.size, 0, none⟩ = some (.slice A4 n4 c4) ∧ X.cell? ⟨w.heap.size, 1, none⟩ = some (.int .i64 rv) from fun X hx => ⟨(k0.later hx).cell 0, (k0.later hx).cell 1⟩)
  have hc2 : ∀ X : World, Below W.heap.size W X → _ := fun X hx => setRB (fun b => b = bu) (w := X) (fun b e => by have := hx.size; have := hb.size; rw [e]; omega) (SubV.none (blank (fun b => b = bu) X) 0) (by omega) n hn ls rv [.slice A4 n4 c4, .int .i64 rv] ⟨_, rfl, hr.keep (hb.trans (hx.mono hb.size)).block, hrv⟩
  have HW := Lib.hid hW
  have HB := Lib.hid hb
  have HU := Lib.hid hu
  have HC2 := Lib.hid hc2
  have HCL := Lib.hid (show ∀ k r, i64ok k → R k = some r → insR (setF R0 n (ls, rv)) r.2 = none from fun k r hk hr => by
    unfold insR setF
    split
    · rfl
    · rename_i h0
      rcases hcl k r hk hr with h | h
      · exact absurd h h0
      · rw [if_neg h]; rfl)
  clear hW hb hu k0 hc2 hr hrv hcl
  unfold noneV at HC2
  go_enter Tryz.func31, Tryz.ntmps31
  go_wp2_with fail
  rw [← HW.out]
  go_region_held3 (fun X => X.cell? ⟨w.heap.size, 0, none⟩ = some (.slice A4 n4 c4) ∧ X.cell? ⟨w.heap.size, 1, none⟩ = some (.int .i64 rv))
    (first | exact HK.out _ (Below.refl _ _).drew | exact HK.out _ hb3 | exact HK.out _ hb4 | exact HK5.out)
    (first
      | (go_at_call 8; refine (none_any _).mono ?_; unfold noneV; rintro e x3 ⟨rfl, hba⟩; have hb3 : Below W.heap.size W x3 := (Below.refl _ _).drew.trans hba; clear hba)
      | (go_at_call 50; refine (HC2.out _ hb3).mono ?_; rintro e x4 ⟨A5, n5, c5, A6, n6, c6, rfl, hn5, hba⟩; have hb4 : Below W.heap.size W x4 := hb3.trans (hba.mono hb3.size); have HN5 := Lib.hid hn5; clear hba hn5)
      | (go_at_call 49
         obtain ⟨B1, d1, e1, B2, d2, e2, hl1, hs1⟩ := HU.out.later (HB.out.trans (hb4.mono HB.out.size))
         refine (goOn_any x4 bu B1 d1 e1 B2 d2 e2 nx m 1 R _ _ hl1 hs1 HN5.out hm (by omega) HCL.out).mono ?_
         rintro e x5 ⟨rfl, B3, d3, e3, B4, d4, e4, hl5, hs5, hg5⟩
         have HR5 := Lib.hid (show UnV x5 bu (m + 2) (thenF R (setF R0 n (ls, rv))) nx from ⟨_, _, _, _, _, _, hl5, hs5⟩)
         have HG5 := Lib.hid (below_grown (HB.out.trans (hb4.mono HB.out.size)) hg5)
         have hlt := hb4.size
         have hws := HB.out.size
         have HK5 := Lib.hid (show x5.cell? ⟨w.heap.size, 0, none⟩ = some (.slice A4 n4 c4) ∧ x5.cell? ⟨w.heap.size, 1, none⟩ = some (.int .i64 rv) from by
           have hk := HK.out _ hb4
           have hbk : x5.heap[w.heap.size]? = x4.heap[w.heap.size]? := hg5.block _ (by have := World.block_lt_of_cell? x4 _ hk.1; exact this) (fun e => by have := Option.some.inj e; omega)
           exact ⟨(World.cell?_of_block (a := ⟨w.heap.size, 0, none⟩) hbk).trans hk.1, (World.cell?_of_block (a := ⟨w.heap.size, 1, none⟩) hbk).trans hk.2⟩)
         clear hl1 hs1 hl5 hs5 hg5 hlt hws))
  go_wp2
  go_ret
  exact ⟨rfl, HR5.out, HG5.out⟩
end Go.Proofs.YtpbhndmfmnfeoaaGreat

/- The ends of two rows with the same labels; steps in order; what two rows have more, with a fresh variable behind. -/
namespace Go.Proofs.YtpbhndmfmnfeoaaGreat
open Go.RowKit

abbrev RowF := Int → Option (List Str × Int)
theorem thenF_R0 (R : RowF) : thenF R0 R = R := rfl
def endsF (va vb : Int) : RowF := if va = vb then R0 else if va = 0 then setF R0 vb ([], 0) else setF R0 va ([], vb)
theorem UnV.mono {w : World} {bu m m' : Nat} {R : RowF} {nx : Int} (h : UnV w bu m R nx) (hm : m ≤ m') : UnV w bu m' R nx := by
  obtain ⟨A1, n1, c1, A2, n2, c2, h1, h2⟩ := h
  exact ⟨A1, n1, c1, A2, n2, c2, h1, h2.mono hm⟩
theorem strR_nil (w : World) : StrR w (.slice none 0 0) [] := ⟨.inl ⟨rfl, rfl⟩, by simp⟩
theorem grown_refl (w : World) (row : Option Nat) : w.grownBy w row := ⟨rfl, rfl, rfl, Nat.le_refl _, fun _ _ _ => rfl⟩
set_option maxRecDepth 100000 in
set_option maxHeartbeats 8000000 in
theorem ends_any (w : World) (bu m : Nat) (nx : Int) (hu : UnV w bu m R0 nx) (hm : m ≤ 1000) (va vb : Int) (hva : i64ok va) (hvb : i64ok vb) :
    Calls Tryz.prog 30 #[.pointer (some ⟨bu, 0, none⟩), .int .i64 va, .int .i64 vb] w fun e w' => e = .returned (.int .i64 0) ∧ UnV w' bu (m + 2) (endsF va vb) nx ∧ w.grownBy w' (some bu) := by
  by_cases h1 : va = vb
  · have h1b : (va == vb) = true := by simp [h1]
    have HE := Lib.hid (show endsF va vb = R0 from if_pos h1)
    have HU := Lib.hid hu
    clear hu h1 hva hvb
    go_enter Tryz.func30, Tryz.ntmps30
    go_wp2_with fail
    go_ret
    exact ⟨rfl, by rw [HE.out]; exact HU.out.mono (by omega), grown_refl _ _⟩
  · have h1b : (va == vb) = false := by simp [h1]
    have hnc : ∀ k r, i64ok k → R0 k = some r → r.2 = 0 ∨ r.2 ≠ vb := fun k r _ h => by cases h
    have hnc2 : ∀ k r, i64ok k → R0 k = some r → r.2 = 0 ∨ r.2 ≠ va := fun k r _ h => by cases h
    by_cases h0 : va = 0
    · subst h0
      have HE := Lib.hid (show endsF 0 vb = setF R0 vb ([], 0) from by unfold endsF; rw [if_neg h1, if_pos rfl])
      have HB := Lib.hid (beRow_any w bu m R0 nx hu hm vb hvb (.slice none 0 0) [] 0 (strR_nil w) (i64ok_of (by omega) (by omega)) hnc)
      clear hu h1 hva hvb hnc hnc2
      go_enter Tryz.func30, Tryz.ntmps30
      go_wp2_with fail
      refine HB.out.mono ?_
      rintro e w1 ⟨rfl, h2, h3⟩
      have H2 := Lib.hid h2
      have H3 := Lib.hid h3
      clear h2 h3
      go_wp2
      go_ret
      exact ⟨rfl, by rw [HE.out]; exact H2.out, H3.out⟩
    · have h0b : (va == 0) = false := by simp [h0]
      have HE := Lib.hid (show endsF va vb = setF R0 va ([], vb) from by unfold endsF; rw [if_neg h1, if_neg h0])
      have HB := Lib.hid (beRow_any w bu m R0 nx hu hm va hva (.slice none 0 0) [] vb (strR_nil w) hvb hnc2)
      clear hu h1 hva hvb hnc hnc2 h0
      go_enter Tryz.func30, Tryz.ntmps30
      go_wp2_with fail
      refine HB.out.mono ?_
      rintro e w1 ⟨rfl, h2, h3⟩
      have H2 := Lib.hid h2
      have H3 := Lib.hid h3
      clear h2 h3
      go_wp2
      go_ret
      exact ⟨rfl, by rw [HE.out]; exact H2.out, H3.out⟩

set_option maxRecDepth 100000 in
set_option maxHeartbeats 8000000 in
/-- A row variable is to be what the other row has more, with the fresh variable behind: as a function that knows where all stands. -/
theorem rowsA_any (w : World) (bx ba bm bf bu m : Nat) (R : RowF) (nx va fr : Int) (lv : Value) (ls : List Str) (hx : w.cell? ⟨bx, 0, none⟩ = some (.pointer (some ⟨bu, 0, none⟩))) (ha : w.cell? ⟨ba, 1, none⟩ = some (.int .i64 va)) (hmm : w.cell? ⟨bm, 0, none⟩ = some lv) (hf : w.cell? ⟨bf, 0, none⟩ = some (.int .i64 fr))
    (hu : UnV w bu m R nx) (hm : m ≤ 1000) (hva : i64ok va) (hr : StrR w lv ls) (hfr : i64ok fr) (hcl : ∀ k r, i64ok k → R k = some r → r.2 = 0 ∨ r.2 ≠ va) :
    Calls Tryz.prog 33 #[.pointer (some ⟨bx, 0, none⟩), .pointer (some ⟨ba, 0, none⟩), .pointer (some ⟨bm, 0, none⟩), .pointer (some ⟨bf, 0, none⟩)] w fun e w' => e = .returned (.int .i64 0) ∧ UnV w' bu (m + 2) (thenF R (setF R0 va (ls, fr))) nx ∧ w.grownBy w' (some bu) := by
  have HB := Lib.hid (beRow_any w bu m R nx hu hm va hva lv ls fr hr hfr hcl)
  obtain ⟨A4, n4, c4, rfl⟩ : ∃ A n c, lv = .slice A n c := by rcases hr.1 with ⟨rfl, _⟩ | ⟨_, _, rfl, _⟩ <;> exact ⟨_, _, _, rfl⟩
  clear hu hva hr hfr hcl
  go_enter Tryz.func33, Tryz.ntmps33
  go_wp2_with fail
  refine HB.out.mono ?_
  rintro e w1 ⟨rfl, h2, h3⟩
  have H2 := Lib.hid h2
  have H3 := Lib.hid h3
  clear h2 h3
  go_wp2
  go_ret
  exact ⟨rfl, H2.out, H3.out⟩
set_option maxRecDepth 100000 in
set_option maxHeartbeats 8000000 in
theorem rowsB_any (w : World) (bx ba bm bf bu m : Nat) (R : RowF) (nx va fr : Int) (lv : Value) (ls : List Str) (hx : w.cell? ⟨bx, 0, none⟩ = some (.pointer (some ⟨bu, 0, none⟩))) (ha : w.cell? ⟨ba, 1, none⟩ = some (.int .i64 va)) (hmm : w.cell? ⟨bm, 0, none⟩ = some lv) (hf : w.cell? ⟨bf, 0, none⟩ = some (.int .i64 fr))
    (hu : UnV w bu m R nx) (hm : m ≤ 1000) (hva : i64ok va) (hr : StrR w lv ls) (hfr : i64ok fr) (hcl : ∀ k r, i64ok k → R k = some r → r.2 = 0 ∨ r.2 ≠ va) :
    Calls Tryz.prog 34 #[.pointer (some ⟨bx, 0, none⟩), .pointer (some ⟨ba, 0, none⟩), .pointer (some ⟨bm, 0, none⟩), .pointer (some ⟨bf, 0, none⟩)] w fun e w' => e = .returned (.int .i64 0) ∧ UnV w' bu (m + 2) (thenF R (setF R0 va (ls, fr))) nx ∧ w.grownBy w' (some bu) := by
  have HB := Lib.hid (beRow_any w bu m R nx hu hm va hva lv ls fr hr hfr hcl)
  obtain ⟨A4, n4, c4, rfl⟩ : ∃ A n c, lv = .slice A n c := by rcases hr.1 with ⟨rfl, _⟩ | ⟨_, _, rfl, _⟩ <;> exact ⟨_, _, _, rfl⟩
  clear hu hva hr hfr hcl
  go_enter Tryz.func34, Tryz.ntmps34
  go_wp2_with fail
  refine HB.out.mono ?_
  rintro e w1 ⟨rfl, h2, h3⟩
  have H2 := Lib.hid h2
  have H3 := Lib.hid h3
  clear h2 h3
  go_wp2
  go_ret
  exact ⟨rfl, H2.out, H3.out⟩
set_option maxRecDepth 100000 in
set_option maxHeartbeats 8000000 in
/-- The two steps for two unlike variables, one behind the other. -/
theorem inOrder_any (w : World) (g : Nat) (b1 b2 : Array Value) (P1 P2 : World → Prop) (h0 : w.cell? ⟨g, 0, none⟩ = some (.func (.func 33) #[] b1)) (_h1 : w.cell? ⟨g, 1, none⟩ = some (.func (.func 34) #[] b2))
    (hc1 : Calls Tryz.prog 33 b1 w fun e w' => e = .returned (.int .i64 0) ∧ w'.cell? ⟨g, 1, none⟩ = some (.func (.func 34) #[] b2) ∧ P1 w')
    (hc2 : ∀ w1, P1 w1 → Calls Tryz.prog 34 b2 w1 fun e w' => e = .returned (.int .i64 0) ∧ P2 w') :
    Calls Tryz.prog 32 #[.slice (some ⟨g, 0, none⟩) 2 2] w fun e w' => e = .returned (.int .i64 0) ∧ P2 w' := by
  have H1 := Lib.hid hc1
  have H2 := Lib.hid hc2
  clear hc1 hc2
  go_enter Tryz.func32, Tryz.ntmps32
  go_wp2_with fail
  refine wp_loop_rounds 3 ?_
  rw [rounds_succ]
  go_wp2_with fail
  refine H1.out.mono ?_
  rintro e w1 ⟨rfl, q1, hp1⟩
  have HP := Lib.hid hp1
  clear hp1
  go_wp2_with fail
  try rw [rounds_succ]
  go_wp2_with fail
  refine (H2.out w1 HP.out).mono ?_
  rintro e w2 ⟨rfl, hp2⟩
  have HP2 := Lib.hid hp2
  clear hp2
  go_wp2_with fail
  try rw [rounds_succ]
  go_wp2
  go_ret
  exact ⟨rfl, HP2.out⟩
end Go.Proofs.YtpbhndmfmnfeoaaGreat
