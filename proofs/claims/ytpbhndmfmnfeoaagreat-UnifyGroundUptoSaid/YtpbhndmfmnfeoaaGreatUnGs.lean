/- The steps of types at functions; three steps in order. -/
import Derived.Test.YtpbhndmfmnfeoaaGreatMg18
import Derived.Outline
namespace Go.Proofs.YtpbhndmfmnfeoaaGreat.Ug
open Go.RowKit

set_option maxRecDepth 100000 in
set_option maxHeartbeats 8000000 in
/-- The kids 0 of two types are unified: as a function that knows where all stands. -/
theorem step1_any (w : World) (bx bk1 bk2 bl bu g1 o1 g2 o2 n c3 c4 : Nat) (lvl : Int) (k1 v1 rv1 k2 v2 rv2 : Int) (nm1 nm2 : Str) (A1 A2 B1 B2 : Option Addr) (n1 c1 m1 d1 n2 c2 m2 d2 : Nat) (hl0 : 0 ≤ lvl) (hl1 : lvl ≤ 1000)
    (hn : 0 < n) (hn3 : n ≤ c3) (hn4 : n ≤ c4) (hbu : bu ≠ bx ∧ bu ≠ bk1 ∧ bu ≠ bk2 ∧ bu ≠ bl ∧ bu ≠ g1 ∧ bu ≠ g2) (P : Int → World → Prop)
    (hS : w.cell? ⟨bx, 0, none⟩ = some (.pointer (some ⟨bu, 0, none⟩)) ∧ w.cell? ⟨bl, 0, none⟩ = some (.int .i64 lvl) ∧ w.cell? ⟨bk1, 3, none⟩ = some (.slice (some ⟨g1, o1, none⟩) n c3) ∧ w.cell? ⟨bk2, 3, none⟩ = some (.slice (some ⟨g2, o2, none⟩) n c4) ∧ (w.cell? ⟨g1, o1, none⟩ = some (.int .i64 k1) ∧ w.cell? ⟨g1, o1 + 1, none⟩ = some (.string (ba nm1)) ∧ w.cell? ⟨g1, o1 + 2, none⟩ = some (.int .i64 v1) ∧ w.cell? ⟨g1, o1 + 3, none⟩ = some (.slice A1 n1 c1) ∧ w.cell? ⟨g1, o1 + 4, none⟩ = some (.slice B1 m1 d1) ∧ w.cell? ⟨g1, o1 + 5, none⟩ = some (.int .i64 rv1)) ∧ (w.cell? ⟨g2, o2, none⟩ = some (.int .i64 k2) ∧ w.cell? ⟨g2, o2 + 1, none⟩ = some (.string (ba nm2)) ∧ w.cell? ⟨g2, o2 + 2, none⟩ = some (.int .i64 v2) ∧ w.cell? ⟨g2, o2 + 3, none⟩ = some (.slice A2 n2 c2) ∧ w.cell? ⟨g2, o2 + 4, none⟩ = some (.slice B2 m2 d2) ∧ w.cell? ⟨g2, o2 + 5, none⟩ = some (.int .i64 rv2)))
    (hc : ∀ X, Below w.heap.size w X → Calls Tryz.prog 22 #[.pointer (some ⟨bu, 0, none⟩), .agg #[.int .i64 k1, .string (ba nm1), .int .i64 v1, .slice A1 n1 c1, .slice B1 m1 d1, .int .i64 rv1], .agg #[.int .i64 k2, .string (ba nm2), .int .i64 v2, .slice A2 n2 c2, .slice B2 m2 d2, .int .i64 rv2], .int .i64 (lvl + 1)] X fun e w' => ∃ err, e = .returned (.int .i64 err) ∧ P err w' ∧ X.grownBy w' (some bu)) :
    Calls Tryz.prog 40 #[.pointer (some ⟨bx, 0, none⟩), .pointer (some ⟨bk1, 0, none⟩), .pointer (some ⟨bk2, 0, none⟩), .pointer (some ⟨bl, 0, none⟩)] w fun e w' => ∃ err, e = .returned (.int .i64 err) ∧ P err w' ∧ w.grownBy w' (some bu) := by
  have hlv : IntKind.i64.wrap (lvl + 1) = lvl + 1 := IntWalk.i64_in _ (by omega)
  have hni : (0 : Int) < (n : Int) := by omega
  have HK := Lib.hid (show ∀ X : World, w.grownBy X (some bu) → X.cell? ⟨bx, 0, none⟩ = some (.pointer (some ⟨bu, 0, none⟩)) ∧ X.cell? ⟨bl, 0, none⟩ = some (.int .i64 lvl) ∧ X.cell? ⟨bk1, 3, none⟩ = some (.slice (some ⟨g1, o1, none⟩) n c3) ∧ X.cell? ⟨bk2, 3, none⟩ = some (.slice (some ⟨g2, o2, none⟩) n c4) ∧ (X.cell? ⟨g1, o1, none⟩ = some (.int .i64 k1) ∧ X.cell? ⟨g1, o1 + 1, none⟩ = some (.string (ba nm1)) ∧ X.cell? ⟨g1, o1 + 2, none⟩ = some (.int .i64 v1) ∧ X.cell? ⟨g1, o1 + 3, none⟩ = some (.slice A1 n1 c1) ∧ X.cell? ⟨g1, o1 + 4, none⟩ = some (.slice B1 m1 d1) ∧ X.cell? ⟨g1, o1 + 5, none⟩ = some (.int .i64 rv1)) ∧ (X.cell? ⟨g2, o2, none⟩ = some (.int .i64 k2) ∧ X.cell? ⟨g2, o2 + 1, none⟩ = some (.string (ba nm2)) ∧ X.cell? ⟨g2, o2 + 2, none⟩ = some (.int .i64 v2) ∧ X.cell? ⟨g2, o2 + 3, none⟩ = some (.slice A2 n2 c2) ∧ X.cell? ⟨g2, o2 + 4, none⟩ = some (.slice B2 m2 d2) ∧ X.cell? ⟨g2, o2 + 5, none⟩ = some (.int .i64 rv2)) from fun X hx => by
    have e : ∀ (p : Addr) (u : Value), w.cell? p = some u → p.block ≠ bu → X.cell? p = some u := fun p u hp hne => (World.cell?_of_block (hx.block p.block (World.block_lt_of_cell? w _ hp) (fun h => hne (Option.some.inj h)))).trans hp
    obtain ⟨b1, b2, b3, b4, b5, b6⟩ := hbu
    obtain ⟨s1, s2, s3, s4, ⟨p0, p1, p2, p3, p4, p5⟩, ⟨q0, q1, q2, q3, q4, q5⟩⟩ := hS
    exact ⟨e _ _ s1 (Ne.symm b1), e _ _ s2 (Ne.symm b4), e _ _ s3 (Ne.symm b2), e _ _ s4 (Ne.symm b3), ⟨e _ _ p0 (Ne.symm b5), e _ _ p1 (Ne.symm b5), e _ _ p2 (Ne.symm b5), e _ _ p3 (Ne.symm b5), e _ _ p4 (Ne.symm b5), e _ _ p5 (Ne.symm b5)⟩, e _ _ q0 (Ne.symm b6), e _ _ q1 (Ne.symm b6), e _ _ q2 (Ne.symm b6), e _ _ q3 (Ne.symm b6), e _ _ q4 (Ne.symm b6), e _ _ q5 (Ne.symm b6)⟩)
  have HC := Lib.hid hc
  clear hc
  have HG0 := Lib.hid (show w.grownBy w.drew (some bu) from below_grown (Below.refl _ _).drew (grown_refl _ _))
  obtain ⟨s1, s2, s3, s4, ⟨p0, p1, p2, p3, p4, p5⟩, ⟨q0, q1, q2, q3, q4, q5⟩⟩ := hS
  go_enter Tryz.func40, Tryz.ntmps40
  go_wp2_with fail
  go_region_held3 (fun X => X.cell? ⟨bx, 0, none⟩ = some (.pointer (some ⟨bu, 0, none⟩)) ∧ X.cell? ⟨bl, 0, none⟩ = some (.int .i64 lvl) ∧ X.cell? ⟨bk1, 3, none⟩ = some (.slice (some ⟨g1, o1, none⟩) n c3) ∧ X.cell? ⟨bk2, 3, none⟩ = some (.slice (some ⟨g2, o2, none⟩) n c4) ∧ (X.cell? ⟨g1, o1, none⟩ = some (.int .i64 k1) ∧ X.cell? ⟨g1, o1 + 1, none⟩ = some (.string (ba nm1)) ∧ X.cell? ⟨g1, o1 + 2, none⟩ = some (.int .i64 v1) ∧ X.cell? ⟨g1, o1 + 3, none⟩ = some (.slice A1 n1 c1) ∧ X.cell? ⟨g1, o1 + 4, none⟩ = some (.slice B1 m1 d1) ∧ X.cell? ⟨g1, o1 + 5, none⟩ = some (.int .i64 rv1)) ∧ (X.cell? ⟨g2, o2, none⟩ = some (.int .i64 k2) ∧ X.cell? ⟨g2, o2 + 1, none⟩ = some (.string (ba nm2)) ∧ X.cell? ⟨g2, o2 + 2, none⟩ = some (.int .i64 v2) ∧ X.cell? ⟨g2, o2 + 3, none⟩ = some (.slice A2 n2 c2) ∧ X.cell? ⟨g2, o2 + 4, none⟩ = some (.slice B2 m2 d2) ∧ X.cell? ⟨g2, o2 + 5, none⟩ = some (.int .i64 rv2)))
    (first | exact HK.out _ HG0.out | exact HK.out _ HG5.out)
    (first | (go_at_call 22; refine (HC.out _ (Below.refl _ _).drew).mono ?_; rintro e x5 ⟨err, rfl, hp5, hg5⟩; have HP5 := Lib.hid hp5; have HG5 := Lib.hid (below_grown (Below.refl _ _).drew hg5); clear hp5 hg5))
  go_wp2
  go_ret
  exact ⟨err, rfl, HP5.out, HG5.out⟩
set_option maxRecDepth 100000 in
set_option maxHeartbeats 8000000 in
/-- The kids 1 of two types are unified: as a function that knows where all stands. -/
theorem step3_any (w : World) (bx bk1 bk2 bl bu g1 o1 g2 o2 n c3 c4 : Nat) (lvl : Int) (k1 v1 rv1 k2 v2 rv2 : Int) (nm1 nm2 : Str) (A1 A2 B1 B2 : Option Addr) (n1 c1 m1 d1 n2 c2 m2 d2 : Nat) (hl0 : 0 ≤ lvl) (hl1 : lvl ≤ 1000)
    (hn : 1 < n) (hn3 : n ≤ c3) (hn4 : n ≤ c4) (hbu : bu ≠ bx ∧ bu ≠ bk1 ∧ bu ≠ bk2 ∧ bu ≠ bl ∧ bu ≠ g1 ∧ bu ≠ g2) (P : Int → World → Prop)
    (hS : w.cell? ⟨bx, 0, none⟩ = some (.pointer (some ⟨bu, 0, none⟩)) ∧ w.cell? ⟨bl, 0, none⟩ = some (.int .i64 lvl) ∧ w.cell? ⟨bk1, 3, none⟩ = some (.slice (some ⟨g1, o1, none⟩) n c3) ∧ w.cell? ⟨bk2, 3, none⟩ = some (.slice (some ⟨g2, o2, none⟩) n c4) ∧ (w.cell? ⟨g1, o1 + 6, none⟩ = some (.int .i64 k1) ∧ w.cell? ⟨g1, o1 + 6 + 1, none⟩ = some (.string (ba nm1)) ∧ w.cell? ⟨g1, o1 + 6 + 2, none⟩ = some (.int .i64 v1) ∧ w.cell? ⟨g1, o1 + 6 + 3, none⟩ = some (.slice A1 n1 c1) ∧ w.cell? ⟨g1, o1 + 6 + 4, none⟩ = some (.slice B1 m1 d1) ∧ w.cell? ⟨g1, o1 + 6 + 5, none⟩ = some (.int .i64 rv1)) ∧ (w.cell? ⟨g2, o2 + 6, none⟩ = some (.int .i64 k2) ∧ w.cell? ⟨g2, o2 + 6 + 1, none⟩ = some (.string (ba nm2)) ∧ w.cell? ⟨g2, o2 + 6 + 2, none⟩ = some (.int .i64 v2) ∧ w.cell? ⟨g2, o2 + 6 + 3, none⟩ = some (.slice A2 n2 c2) ∧ w.cell? ⟨g2, o2 + 6 + 4, none⟩ = some (.slice B2 m2 d2) ∧ w.cell? ⟨g2, o2 + 6 + 5, none⟩ = some (.int .i64 rv2)))
    (hc : ∀ X, Below w.heap.size w X → Calls Tryz.prog 22 #[.pointer (some ⟨bu, 0, none⟩), .agg #[.int .i64 k1, .string (ba nm1), .int .i64 v1, .slice A1 n1 c1, .slice B1 m1 d1, .int .i64 rv1], .agg #[.int .i64 k2, .string (ba nm2), .int .i64 v2, .slice A2 n2 c2, .slice B2 m2 d2, .int .i64 rv2], .int .i64 (lvl + 1)] X fun e w' => ∃ err, e = .returned (.int .i64 err) ∧ P err w' ∧ X.grownBy w' (some bu)) :
    Calls Tryz.prog 42 #[.pointer (some ⟨bx, 0, none⟩), .pointer (some ⟨bk1, 0, none⟩), .pointer (some ⟨bk2, 0, none⟩), .pointer (some ⟨bl, 0, none⟩)] w fun e w' => ∃ err, e = .returned (.int .i64 err) ∧ P err w' ∧ w.grownBy w' (some bu) := by
  have hlv : IntKind.i64.wrap (lvl + 1) = lvl + 1 := IntWalk.i64_in _ (by omega)
  have hni : (1 : Int) < (n : Int) := by omega
  have HK := Lib.hid (show ∀ X : World, w.grownBy X (some bu) → X.cell? ⟨bx, 0, none⟩ = some (.pointer (some ⟨bu, 0, none⟩)) ∧ X.cell? ⟨bl, 0, none⟩ = some (.int .i64 lvl) ∧ X.cell? ⟨bk1, 3, none⟩ = some (.slice (some ⟨g1, o1, none⟩) n c3) ∧ X.cell? ⟨bk2, 3, none⟩ = some (.slice (some ⟨g2, o2, none⟩) n c4) ∧ (X.cell? ⟨g1, o1 + 6, none⟩ = some (.int .i64 k1) ∧ X.cell? ⟨g1, o1 + 6 + 1, none⟩ = some (.string (ba nm1)) ∧ X.cell? ⟨g1, o1 + 6 + 2, none⟩ = some (.int .i64 v1) ∧ X.cell? ⟨g1, o1 + 6 + 3, none⟩ = some (.slice A1 n1 c1) ∧ X.cell? ⟨g1, o1 + 6 + 4, none⟩ = some (.slice B1 m1 d1) ∧ X.cell? ⟨g1, o1 + 6 + 5, none⟩ = some (.int .i64 rv1)) ∧ (X.cell? ⟨g2, o2 + 6, none⟩ = some (.int .i64 k2) ∧ X.cell? ⟨g2, o2 + 6 + 1, none⟩ = some (.string (ba nm2)) ∧ X.cell? ⟨g2, o2 + 6 + 2, none⟩ = some (.int .i64 v2) ∧ X.cell? ⟨g2, o2 + 6 + 3, none⟩ = some (.slice A2 n2 c2) ∧ X.cell? ⟨g2, o2 + 6 + 4, none⟩ = some (.slice B2 m2 d2) ∧ X.cell? ⟨g2, o2 + 6 + 5, none⟩ = some (.int .i64 rv2)) from fun X hx => by
    have e : ∀ (p : Addr) (u : Value), w.cell? p = some u → p.block ≠ bu → X.cell? p = some u := fun p u hp hne => (World.cell?_of_block (hx.block p.block (World.block_lt_of_cell? w _ hp) (fun h => hne (Option.some.inj h)))).trans hp
    obtain ⟨b1, b2, b3, b4, b5, b6⟩ := hbu
    obtain ⟨s1, s2, s3, s4, ⟨p0, p1, p2, p3, p4, p5⟩, ⟨q0, q1, q2, q3, q4, q5⟩⟩ := hS
    exact ⟨e _ _ s1 (Ne.symm b1), e _ _ s2 (Ne.symm b4), e _ _ s3 (Ne.symm b2), e _ _ s4 (Ne.symm b3), ⟨e _ _ p0 (Ne.symm b5), e _ _ p1 (Ne.symm b5), e _ _ p2 (Ne.symm b5), e _ _ p3 (Ne.symm b5), e _ _ p4 (Ne.symm b5), e _ _ p5 (Ne.symm b5)⟩, e _ _ q0 (Ne.symm b6), e _ _ q1 (Ne.symm b6), e _ _ q2 (Ne.symm b6), e _ _ q3 (Ne.symm b6), e _ _ q4 (Ne.symm b6), e _ _ q5 (Ne.symm b6)⟩)
  have HC := Lib.hid hc
  clear hc
  have HG0 := Lib.hid (show w.grownBy w.drew (some bu) from below_grown (Below.refl _ _).drew (grown_refl _ _))
  obtain ⟨s1, s2, s3, s4, ⟨p0, p1, p2, p3, p4, p5⟩, ⟨q0, q1, q2, q3, q4, q5⟩⟩ := hS
  go_enter Tryz.func42, Tryz.ntmps42
  go_wp2_with fail
  go_region_held3 (fun X => X.cell? ⟨bx, 0, none⟩ = some (.pointer (some ⟨bu, 0, none⟩)) ∧ X.cell? ⟨bl, 0, none⟩ = some (.int .i64 lvl) ∧ X.cell? ⟨bk1, 3, none⟩ = some (.slice (some ⟨g1, o1, none⟩) n c3) ∧ X.cell? ⟨bk2, 3, none⟩ = some (.slice (some ⟨g2, o2, none⟩) n c4) ∧ (X.cell? ⟨g1, o1 + 6, none⟩ = some (.int .i64 k1) ∧ X.cell? ⟨g1, o1 + 6 + 1, none⟩ = some (.string (ba nm1)) ∧ X.cell? ⟨g1, o1 + 6 + 2, none⟩ = some (.int .i64 v1) ∧ X.cell? ⟨g1, o1 + 6 + 3, none⟩ = some (.slice A1 n1 c1) ∧ X.cell? ⟨g1, o1 + 6 + 4, none⟩ = some (.slice B1 m1 d1) ∧ X.cell? ⟨g1, o1 + 6 + 5, none⟩ = some (.int .i64 rv1)) ∧ (X.cell? ⟨g2, o2 + 6, none⟩ = some (.int .i64 k2) ∧ X.cell? ⟨g2, o2 + 6 + 1, none⟩ = some (.string (ba nm2)) ∧ X.cell? ⟨g2, o2 + 6 + 2, none⟩ = some (.int .i64 v2) ∧ X.cell? ⟨g2, o2 + 6 + 3, none⟩ = some (.slice A2 n2 c2) ∧ X.cell? ⟨g2, o2 + 6 + 4, none⟩ = some (.slice B2 m2 d2) ∧ X.cell? ⟨g2, o2 + 6 + 5, none⟩ = some (.int .i64 rv2)))
    (first | exact HK.out _ HG0.out | exact HK.out _ HG5.out)
    (first | (go_at_call 22; refine (HC.out _ (Below.refl _ _).drew).mono ?_; rintro e x5 ⟨err, rfl, hp5, hg5⟩; have HP5 := Lib.hid hp5; have HG5 := Lib.hid (below_grown (Below.refl _ _).drew hg5); clear hp5 hg5))
  go_wp2
  go_ret
  exact ⟨err, rfl, HP5.out, HG5.out⟩
set_option maxRecDepth 100000 in
set_option maxHeartbeats 8000000 in
/-- The rows of two types are unified. -/
theorem step2_any (w : World) (bx bk1 bk2 bu : Nat) (B1 B2 : Option Addr) (m1 d1 m2 d2 : Nat) (rv1 rv2 : Int) (P : Int → World → Prop)
    (hS : w.cell? ⟨bx, 0, none⟩ = some (.pointer (some ⟨bu, 0, none⟩)) ∧ (w.cell? ⟨bk1, 4, none⟩ = some (.slice B1 m1 d1) ∧ w.cell? ⟨bk1, 5, none⟩ = some (.int .i64 rv1)) ∧ (w.cell? ⟨bk2, 4, none⟩ = some (.slice B2 m2 d2) ∧ w.cell? ⟨bk2, 5, none⟩ = some (.int .i64 rv2)))
    (hc : Calls Tryz.prog 18 #[.pointer (some ⟨bu, 0, none⟩), .agg #[.slice B1 m1 d1, .int .i64 rv1], .agg #[.slice B2 m2 d2, .int .i64 rv2]] w fun e w' => ∃ err, e = .returned (.int .i64 err) ∧ P err w') :
    Calls Tryz.prog 41 #[.pointer (some ⟨bx, 0, none⟩), .pointer (some ⟨bk1, 0, none⟩), .pointer (some ⟨bk2, 0, none⟩)] w fun e w' => ∃ err, e = .returned (.int .i64 err) ∧ P err w' := by
  have HC := Lib.hid hc
  clear hc
  obtain ⟨s1, ⟨p4, p5⟩, ⟨q4, q5⟩⟩ := hS
  go_enter Tryz.func41, Tryz.ntmps41
  go_wp2_with fail
  refine HC.out.mono ?_
  rintro e x5 ⟨err, rfl, hp5⟩
  have HP5 := Lib.hid hp5
  clear hp5
  go_wp2
  go_ret
  exact ⟨err, rfl, HP5.out⟩
set_option maxRecDepth 100000 in
set_option maxHeartbeats 8000000 in
/-- Three steps, until one fails. -/
theorem inOrder3_any (w : World) (g : Nat) (b1 b2 b3 : Array Value) (F : Int → World → Prop) (P1 P2 P3 : World → Prop) (h0 : w.cell? ⟨g, 0, none⟩ = some (.func (.func 40) #[] b1))
    (hc1 : Calls Tryz.prog 40 b1 w fun e w' => ∃ err, e = .returned (.int .i64 err) ∧ (err ≠ 0 → F err w') ∧ (err = 0 → P1 w'))
    (hc2 : ∀ w1, P1 w1 → w1.cell? ⟨g, 1, none⟩ = some (.func (.func 41) #[] b2) ∧ Calls Tryz.prog 41 b2 w1 fun e w' => ∃ err, e = .returned (.int .i64 err) ∧ (err ≠ 0 → F err w') ∧ (err = 0 → P2 w'))
    (hc3 : ∀ w1, P2 w1 → w1.cell? ⟨g, 2, none⟩ = some (.func (.func 42) #[] b3) ∧ Calls Tryz.prog 42 b3 w1 fun e w' => ∃ err, e = .returned (.int .i64 err) ∧ (err ≠ 0 → F err w') ∧ (err = 0 → P3 w')) :
    Calls Tryz.prog 32 #[.slice (some ⟨g, 0, none⟩) 3 3] w fun e w' => ∃ err, e = .returned (.int .i64 err) ∧ (err ≠ 0 → F err w') ∧ (err = 0 → P3 w') := by
  have H1 := Lib.hid hc1
  have H2 := Lib.hid hc2
  have H3 := Lib.hid hc3
  clear hc1 hc2 hc3
  go_enter Tryz.func32, Tryz.ntmps32
  go_wp2_with fail
  refine wp_loop_rounds 4 ?_
  rw [rounds_succ]
  go_wp2_with fail
  refine H1.out.mono ?_
  rintro e w1 ⟨err1, rfl, hf1, hp1⟩
  by_cases he1 : err1 = 0
  case neg =>
    have heb : (err1 == 0) = false := by simpa using he1
    have HE := Lib.hid (And.intro (hf1 he1) he1)
    clear hf1 hp1 he1
    go_wp2
    go_ret
    exact ⟨err1, rfl, fun _ => HE.out.1, fun h => absurd h HE.out.2⟩
  subst he1
  have HP := Lib.hid (hp1 rfl)
  have q1 := (H2.out w1 HP.out).1
  clear hp1 hf1
  go_wp2_with fail
  try rw [rounds_succ]
  go_wp2_with fail
  refine (H2.out w1 HP.out).2.mono ?_
  rintro e w2 ⟨err2, rfl, hf2, hp2⟩
  by_cases he2 : err2 = 0
  case neg =>
    have heb : (err2 == 0) = false := by simpa using he2
    have HE := Lib.hid (And.intro (hf2 he2) he2)
    clear hf2 hp2 he2
    go_wp2
    go_ret
    exact ⟨err2, rfl, fun _ => HE.out.1, fun h => absurd h HE.out.2⟩
  subst he2
  have HP2 := Lib.hid (hp2 rfl)
  have q2 := (H3.out w2 HP2.out).1
  clear hp2 hf2
  go_wp2_with fail
  try rw [rounds_succ]
  go_wp2_with fail
  refine (H3.out w2 HP2.out).2.mono ?_
  rintro e w3 ⟨err3, rfl, hf3, hp3⟩
  by_cases he3 : err3 = 0
  case neg =>
    have heb : (err3 == 0) = false := by simpa using he3
    have HE := Lib.hid (And.intro (hf3 he3) he3)
    clear hf3 hp3 he3
    go_wp2
    go_ret
    exact ⟨err3, rfl, fun _ => HE.out.1, fun h => absurd h HE.out.2⟩
  subst he3
  have HP3 := Lib.hid (hp3 rfl)
  clear hp3 hf3
  go_wp2_with fail
  try rw [rounds_succ]
  go_wp2
  go_ret
  exact ⟨0, rfl, fun h => absurd rfl h, fun _ => HP3.out⟩
end Go.Proofs.YtpbhndmfmnfeoaaGreat.Ug
