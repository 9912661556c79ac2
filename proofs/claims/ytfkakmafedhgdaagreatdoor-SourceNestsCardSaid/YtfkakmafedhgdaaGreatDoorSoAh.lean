/- The machine of package source: what is told of a value without kids. -/
import Derived.Test.YtfkakmafedhgdaaGreatDoorSoAg
namespace Go.Proofs.YtfkakmafedhgdaaGreatDoor.K
open Go Go.RowKit
namespace So

/-- What is told of a value without kids. -/
def vtL (k n : Int) : Array Value := #[.int .i64 k, .int .i64 n, .string ⟨#[]⟩, .slice none 0 0]
set_option maxRecDepth 100000 in
set_option maxHeartbeats 4000000 in
theorem kids_lit (w : World) (k n : Int) : Calls Tryz.prog 61 #[.agg (litL k n).toArray] w fun e w' => e = .returned (.slice none 0 0) ∧ Below w.heap.size w w' := by
  unfold litL
  go_enter Tryz.func61, Tryz.ntmps61
  go_wp2
  go_ret
  exact ⟨rfl, (Below.refl _ _).alloc (Nat.le_refl _) _⟩
set_option maxRecDepth 100000 in
set_option maxHeartbeats 4000000 in
theorem pieces_lit (w : World) (k n : Int) (most : Int) : Calls Tryz.prog 42 #[.agg (litL k n).toArray, .int .i64 most] w fun e w' => e = .returned (.int .i64 1) ∧ Below w.heap.size w w' := by
  unfold litL
  go_enter Tryz.func42, Tryz.ntmps42
  go_wp2_with fail
  have hk := kids_lit (w.alloc (.cells [.int .i64 k, .int .i64 n, .pointer none, .nilIface].toArray 68)) k n
  unfold litL at hk
  refine hk.mono ?_
  rintro e w1 ⟨rfl, hb⟩
  have HB := Lib.hid (((Below.refl w.heap.size w).alloc (Nat.le_refl _) _).trans (hb.mono (by simp)))
  clear hk hb
  go_wp2_with fail
  go_loopw [5, 11] (fun c x wr => c = .int .i64 1 ∧ x = .int .i64 0 ∧ wr = w1) (fun _ _ _ => 0)
  case atStart => exact ⟨rfl, rfl, rfl⟩
  case round =>
    obtain ⟨rfl, rfl, rfl⟩ := hrel
    go_wp2
    go_ret
    exact ⟨rfl, HB.out⟩
theorem szV : (Tryz.prog.info? 38).map (·.size) = some 4 := by kernel_rfl
set_option maxRecDepth 100000 in
set_option maxHeartbeats 4000000 in
theorem alone_lit (w : World) (k n : Int) : Calls Tryz.prog 43 #[.agg (litL k n).toArray] w fun e w' => e = .returned (.agg (vtL k n)) ∧ Below w.heap.size w w' := by
  unfold litL
  go_enter Tryz.func43, Tryz.ntmps43
  go_wp2
  have hl : Lies (((w.alloc (.cells #[.int .i64 k, .int .i64 n, .pointer none, .nilIface] 68)).alloc (.cells (vtL k n) 38)).alloc (.cells (vtL k n) 38)) (w.heap.size + 1) 38 (vtL k n) := by
    have := (Lies.new (w.alloc (.cells #[.int .i64 k, .int .i64 n, .pointer none, .nilIface] 68)) 38 (vtL k n)).alloc (.cells (vtL k n) 38)
    simpa using this
  refine bodyPost_ret (v := .agg (vtL k n)) (results_cell_row rfl _ _ (w.heap.size + 1) 38 _ (0, 0) _ rfl hl Tryz.underlying38 rfl szV) rfl ?_
  exact ⟨rfl, (((Below.refl _ _).alloc (Nat.le_refl _) _).alloc (by simp) _).alloc (by simp; omega) _⟩
set_option maxRecDepth 100000 in
set_option maxHeartbeats 4000000 in
theorem whole_lit (w : World) (k n : Int) : Calls Tryz.prog 44 #[.agg (litL k n).toArray] w fun e w' => e = .returned (.agg (vtL k n)) ∧ Below w.heap.size w w' := by
  unfold litL
  go_enter Tryz.func44, Tryz.ntmps44
  obtain ⟨W0, hW0⟩ : ∃ W0, W0 = (w.alloc (.cells #[.int .i64 k, .int .i64 n, .pointer none, .nilIface] 68)).alloc (.cells #[.int .i64 0, .int .i64 0, .string ⟨#[]⟩, .slice none 0 0] 38) := ⟨_, rfl⟩
  have hz0 : W0.heap.size = w.heap.size + 1 + 1 := by rw [hW0]; simp
  have hB0 : Below w.heap.size w W0 := by rw [hW0]; exact ((Below.refl _ _).alloc (Nat.le_refl _) _).alloc (by simp) _
  have lb0 : Lies W0 w.heap.size 68 #[.int .i64 k, .int .i64 n, .pointer none, .nilIface] := by rw [hW0]; exact (Lies.new w _ _).alloc _
  have lz0 : Lies W0 (w.heap.size + 1) 38 #[.int .i64 0, .int .i64 0, .string ⟨#[]⟩, .slice none 0 0] := by
    rw [hW0]
    have := Lies.new (w.alloc (.cells #[.int .i64 k, .int .i64 n, .pointer none, .nilIface] 68)) 38 #[.int .i64 0, .int .i64 0, .string ⟨#[]⟩, .slice none 0 0]
    simpa using this
  have ha := alone_lit W0 k n
  unfold litL vtL at ha
  rw [hW0] at ha
  have HA := Lib.hid ha
  clear ha
  go_wp2_with fail
  refine HA.out.mono ?_
  rintro e w1 ⟨rfl, hb1⟩
  rw [← hW0] at hb1
  have lb1 : Lies w1 w.heap.size 68 #[.int .i64 k, .int .i64 n, .pointer none, .nilIface] := (hb1.block _ (by omega)).trans lb0
  have lz1 : Lies w1 (w.heap.size + 1) 38 #[.int .i64 0, .int .i64 0, .string ⟨#[]⟩, .slice none 0 0] := (hb1.block _ (by omega)).trans lz0
  have hs1 := hb1.size
  have p0 : w1.cell? ⟨w.heap.size, 0, none⟩ = some (.int .i64 k) := lb1.cell 0
  have p1 : w1.cell? ⟨w.heap.size, 1, none⟩ = some (.int .i64 n) := lb1.cell 1
  have p2 : w1.cell? ⟨w.heap.size, 2, none⟩ = some (.pointer none) := lb1.cell 2
  have p3 : w1.cell? ⟨w.heap.size, 3, none⟩ = some .nilIface := lb1.cell 3
  have lba := lb1.alloc (.cells #[.int .i64 k, .int .i64 n, .string ⟨#[]⟩, .slice none 0 0] 38)
  have a0 : (w1.alloc (.cells #[.int .i64 k, .int .i64 n, .string ⟨#[]⟩, .slice none 0 0] 38)).cell? ⟨w.heap.size, 0, none⟩ = some (.int .i64 k) := lba.cell 0
  have a1 : (w1.alloc (.cells #[.int .i64 k, .int .i64 n, .string ⟨#[]⟩, .slice none 0 0] 38)).cell? ⟨w.heap.size, 1, none⟩ = some (.int .i64 n) := lba.cell 1
  have a2 : (w1.alloc (.cells #[.int .i64 k, .int .i64 n, .string ⟨#[]⟩, .slice none 0 0] 38)).cell? ⟨w.heap.size, 2, none⟩ = some (.pointer none) := lba.cell 2
  have a3 : (w1.alloc (.cells #[.int .i64 k, .int .i64 n, .string ⟨#[]⟩, .slice none 0 0] 38)).cell? ⟨w.heap.size, 3, none⟩ = some .nilIface := lba.cell 3
  have hk := kids_lit (w1.alloc (.cells (vtL k n) 38)) k n
  unfold litL vtL at hk
  have HK := Lib.hid hk
  have HB1 := Lib.hid hb1
  have HB0 := Lib.hid hB0
  have LZ := Lib.hid lz1
  clear hk hb1 lb1 lba lz1 hB0 lb0 lz0 hW0
  go_wp2_with fail
  refine HK.out.mono ?_
  rintro e w2 ⟨rfl, hb2⟩
  have HB2 := Lib.hid hb2
  clear hb2
  go_wp2_with fail
  go_loopw [11] (fun x wr => x = .int .i64 0 ∧ wr = w2) (fun _ _ => 0)
  case atStart => exact ⟨rfl, rfl⟩
  case round =>
    obtain ⟨rfl, rfl⟩ := hrel
    have l3 : Lies wr w1.heap.size 38 (vtL k n) := (HB2.out.block _ (by simp)).trans (Lies.new w1 _ _)
    have l2 : Lies wr (w.heap.size + 1) 38 #[.int .i64 0, .int .i64 0, .string ⟨#[]⟩, .slice none 0 0] := (HB2.out.block _ (by simp; omega)).trans (LZ.out.alloc _)
    have q0 : wr.cell? ⟨w1.heap.size, 0, none⟩ = some (.int .i64 k) := l3.cell 0
    have q1 : wr.cell? ⟨w1.heap.size, 1, none⟩ = some (.int .i64 n) := l3.cell 1
    have q2 : wr.cell? ⟨w1.heap.size, 2, none⟩ = some (.string ⟨#[]⟩) := l3.cell 2
    have q3 : wr.cell? ⟨w1.heap.size, 3, none⟩ = some (.slice none 0 0) := l3.cell 3
    have z0 : wr.cell? ⟨w.heap.size + 1, 0, none⟩ = some (.int .i64 0) := l2.cell 0
    have z1 : wr.cell? ⟨w.heap.size + 1, 1, none⟩ = some (.int .i64 0) := l2.cell 1
    have z2 : wr.cell? ⟨w.heap.size + 1, 2, none⟩ = some (.string ⟨#[]⟩) := l2.cell 2
    have z3 : wr.cell? ⟨w.heap.size + 1, 3, none⟩ = some (.slice none 0 0) := l2.cell 3
    have f0 := l2.free 0
    have f1 := l2.free 1
    have f2 := l2.free 2
    have f3 := l2.free 3
    go_wp2
    have l4 : Lies ((((wr.setCell ⟨w.heap.size + 1, 0, none⟩ (.int .i64 k)).setCell ⟨w.heap.size + 1, 1, none⟩ (.int .i64 n)).setCell ⟨w.heap.size + 1, 2, none⟩ (.string ⟨#[]⟩)).setCell ⟨w.heap.size + 1, 3, none⟩ (.slice none 0 0)) (w.heap.size + 1) 38 (vtL k n) := (((l2.set 0 _).set 1 _).set 2 _).set 3 _
    have hA : Below w.heap.size w wr := ((HB0.out.trans (HB1.out.mono (by omega))).alloc (by have := HB1.out.size; omega) _).trans (HB2.out.mono (by simp; omega))
    refine bodyPost_ret (v := .agg (vtL k n)) (results_cell_row rfl _ _ (w.heap.size + 1) 38 _ (0, 0) _ rfl l4 Tryz.underlying38 rfl szV) rfl ?_
    exact ⟨rfl, (((hA.setCell (p := ⟨w.heap.size + 1, 0, none⟩) (by show w.heap.size ≤ w.heap.size + 1; omega) _).setCell (p := ⟨w.heap.size + 1, 1, none⟩) (by show w.heap.size ≤ w.heap.size + 1; omega) _).setCell (p := ⟨w.heap.size + 1, 2, none⟩) (by show w.heap.size ≤ w.heap.size + 1; omega) _).setCell (p := ⟨w.heap.size + 1, 3, none⟩) (by show w.heap.size ≤ w.heap.size + 1; omega) _⟩
set_option maxRecDepth 100000 in
set_option maxHeartbeats 4000000 in
theorem told_lit (w : World) (k n : Int) : Calls Tryz.prog 24 #[.agg (litL k n).toArray] w fun e w' => e = .returned (.agg (vtL k n)) ∧ Below w.heap.size w w' := by
  unfold litL
  go_enter Tryz.func24, Tryz.ntmps24
  obtain ⟨W0, hW0⟩ : ∃ W0, W0 = (w.alloc (.cells #[.int .i64 k, .int .i64 n, .pointer none, .nilIface] 68)).alloc (.cells #[.int .i64 0, .int .i64 0, .string ⟨#[]⟩, .slice none 0 0] 38) := ⟨_, rfl⟩
  have hz0 : W0.heap.size = w.heap.size + 1 + 1 := by rw [hW0]; simp
  have hB0 : Below w.heap.size w W0 := by rw [hW0]; exact ((Below.refl _ _).alloc (Nat.le_refl _) _).alloc (by simp) _
  have lb0 : Lies W0 w.heap.size 68 #[.int .i64 k, .int .i64 n, .pointer none, .nilIface] := by rw [hW0]; exact (Lies.new w _ _).alloc _
  have lz0 : Lies W0 (w.heap.size + 1) 38 #[.int .i64 0, .int .i64 0, .string ⟨#[]⟩, .slice none 0 0] := by
    rw [hW0]
    have := Lies.new (w.alloc (.cells #[.int .i64 k, .int .i64 n, .pointer none, .nilIface] 68)) 38 #[.int .i64 0, .int .i64 0, .string ⟨#[]⟩, .slice none 0 0]
    simpa using this
  have ha := pieces_lit W0 k n 10000
  unfold litL at ha
  rw [hW0] at ha
  have HA := Lib.hid ha
  clear ha
  go_wp2_with fail
  refine HA.out.mono ?_
  rintro e w1 ⟨rfl, hb1⟩
  rw [← hW0] at hb1
  have lb1 : Lies w1 w.heap.size 68 #[.int .i64 k, .int .i64 n, .pointer none, .nilIface] := (hb1.block _ (by omega)).trans lb0
  have lz1 : Lies w1 (w.heap.size + 1) 38 #[.int .i64 0, .int .i64 0, .string ⟨#[]⟩, .slice none 0 0] := (hb1.block _ (by omega)).trans lz0
  have hs1 := hb1.size
  have p0 : w1.cell? ⟨w.heap.size, 0, none⟩ = some (.int .i64 k) := lb1.cell 0
  have p1 : w1.cell? ⟨w.heap.size, 1, none⟩ = some (.int .i64 n) := lb1.cell 1
  have p2 : w1.cell? ⟨w.heap.size, 2, none⟩ = some (.pointer none) := lb1.cell 2
  have p3 : w1.cell? ⟨w.heap.size, 3, none⟩ = some .nilIface := lb1.cell 3
  have hk := whole_lit w1 k n
  unfold litL vtL at hk
  have HK := Lib.hid hk
  have HB1 := Lib.hid hb1
  have HB0 := Lib.hid hB0
  have LZ := Lib.hid lz1
  clear hk hb1 lb1 lz1 hB0 lb0 lz0 hW0
  go_wp2_with fail
  refine HK.out.mono ?_
  rintro e wr ⟨rfl, hb2⟩
  have HB2 := Lib.hid hb2
  clear hb2
  have l2 : Lies wr (w.heap.size + 1) 38 #[.int .i64 0, .int .i64 0, .string ⟨#[]⟩, .slice none 0 0] := (HB2.out.block _ (by omega)).trans LZ.out
  have z0 : wr.cell? ⟨w.heap.size + 1, 0, none⟩ = some (.int .i64 0) := l2.cell 0
  have z1 : wr.cell? ⟨w.heap.size + 1, 1, none⟩ = some (.int .i64 0) := l2.cell 1
  have z2 : wr.cell? ⟨w.heap.size + 1, 2, none⟩ = some (.string ⟨#[]⟩) := l2.cell 2
  have z3 : wr.cell? ⟨w.heap.size + 1, 3, none⟩ = some (.slice none 0 0) := l2.cell 3
  have f0 := l2.free 0
  have f1 := l2.free 1
  have f2 := l2.free 2
  have f3 := l2.free 3
  go_wp2
  have l4 : Lies ((((wr.setCell ⟨w.heap.size + 1, 0, none⟩ (.int .i64 k)).setCell ⟨w.heap.size + 1, 1, none⟩ (.int .i64 n)).setCell ⟨w.heap.size + 1, 2, none⟩ (.string ⟨#[]⟩)).setCell ⟨w.heap.size + 1, 3, none⟩ (.slice none 0 0)) (w.heap.size + 1) 38 (vtL k n) := (((l2.set 0 _).set 1 _).set 2 _).set 3 _
  have hA : Below w.heap.size w wr := (HB0.out.trans (HB1.out.mono (by omega))).trans (HB2.out.mono (by have := HB1.out.size; omega))
  refine bodyPost_ret (v := .agg (vtL k n)) (results_cell_row rfl _ _ (w.heap.size + 1) 38 _ (0, 0) _ rfl l4 Tryz.underlying38 rfl szV) rfl ?_
  exact ⟨rfl, (((hA.setCell (p := ⟨w.heap.size + 1, 0, none⟩) (by show w.heap.size ≤ w.heap.size + 1; omega) _).setCell (p := ⟨w.heap.size + 1, 1, none⟩) (by show w.heap.size ≤ w.heap.size + 1; omega) _).setCell (p := ⟨w.heap.size + 1, 2, none⟩) (by show w.heap.size ≤ w.heap.size + 1; omega) _).setCell (p := ⟨w.heap.size + 1, 3, none⟩) (by show w.heap.size ≤ w.heap.size + 1; omega) _⟩

end So
end Go.Proofs.YtfkakmafedhgdaaGreatDoor.K
