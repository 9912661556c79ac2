/- Vars, at types without type variables whose places are all unlike. -/
import Derived.Test.YtjeolmcjhpkcbaaDoorTyG
import Derived.Test.YtjeolmcjhpkcbaaDoorTyR
import Derived.Deep.QuietTactic
import Derived.BigQuiet
import Derived.Outline
namespace Go.Proofs.YtjeolmcjhpkcbaaDoor
open Go.RowKit

set_option maxRecDepth 100000 in
set_option maxHeartbeats 4000000 in
theorem vars_any (l : List Value) (t : Ty) (w : World) (ht : TV w t l) (hs : t.size ≤ 90000000) (hnv : noV t = true) (hnd : (addrs (w.alloc (.cells l.toArray 27)) t.deep ⟨w.heap.size, 0, none⟩).Nodup) :
    Calls Tryd.prog 25 #[.agg l.toArray] w fun e w' => ∃ v2, e = .returned (.tuple #[.slice none 0 0, v2]) ∧ w'.ownsRow w.heap.size 3 1 v2 (rwT t []).length ((rwT t []).map fun i => .int .i64 i) ∧ Below w.heap.size w w' := by
  have htv := ht
  obtain ⟨k, nm, v, kids, ls, rv⟩ := t
  obtain ⟨kv, lv, rfl, hsk, hsl, _⟩ := ht
  obtain ⟨A, q, rfl, _⟩ := hsk
  obtain ⟨A2, q2, rfl, _⟩ := hsl.slice
  generalize hT : Ty.mk k nm v kids ls rv = T at *
  obtain ⟨w0, hw0⟩ : ∃ w0, w0 = w.alloc (.cells (tyC k nm v (.slice A kids.length q) (.slice A2 ls.length q2) rv).toArray 27) := ⟨_, rfl⟩
  have hb0 : Below w.heap.size w w0 := by rw [hw0]; exact below_new w _
  have hta : TA w0 ⟨w.heap.size, 0, none⟩ T := by rw [hw0]; exact htv.new _ rfl
  have hs0 : w0.heap.size = w.heap.size + 1 := by rw [hw0]; simp
  rw [← hw0] at hnd
  unfold tyC at *
  have HW := Lib.hid hw0
  have HND := Lib.hid hnd
  have HT := Lib.hid hta
  have HS0 := Lib.hid hs0
  have hmm := @run_makeMap Tryd.prog
  clear hw0 hsl hT hnd hta hs0
  go_enter Tryd.func25, Tryd.ntmps25
  go_wp2_with fail
  rw [← HW.out]
  obtain ⟨m1, hm1⟩ : ∃ m1, m1 = w0.alloc (.map #[] 0) := ⟨_, rfl⟩
  rw [← hm1]
  obtain ⟨m2, hm2⟩ : ∃ m2, m2 = m1.alloc (.map #[] 0) := ⟨_, rfl⟩
  rw [← hm2]
  obtain ⟨m3, hm3⟩ : ∃ m3, m3 = m2.alloc (.map #[] 0) := ⟨_, rfl⟩
  rw [← hm3]
  have z0 := HS0.out
  have z1 : m1.heap.size = w.heap.size + 2 := by rw [hm1, World.size_alloc, z0]
  have z2 : m2.heap.size = w.heap.size + 3 := by rw [hm2, World.size_alloc, z1]
  have z3 : m3.heap.size = w.heap.size + 4 := by rw [hm3, World.size_alloc, z2]
  have hG : GSt w0 (w.heap.size + 1) (w.heap.size + 2) (w.heap.size + 3) (w.heap.size + 4) (w.heap.size + 5) [] [] (m3.alloc (.cells (gC (w.heap.size + 1) (w.heap.size + 2) (w.heap.size + 3) (.slice none 0 0)) 83)) := by
    have s1 := Sn.made w0
    rw [← hm1, z0] at s1
    have i3 := IMap.made m2
    rw [← hm3, z2] at i3
    have b1 : Below w0.heap.size w0 m1 := by rw [hm1]; exact below_new _ _
    have b2 : Below m1.heap.size m1 m2 := by rw [hm2]; exact below_new _ _
    have b3 : Below m2.heap.size m2 m3 := by rw [hm3]; exact below_new _ _
    have b4 := below_new m3 (.cells (gC (w.heap.size + 1) (w.heap.size + 2) (w.heap.size + 3) (.slice none 0 0)) 83)
    refine ⟨⟨none, 0, 0, Lies.new' m3 _ _ z3, World.ownsRow_nil _ _ _ _⟩, ?_, i3.keep (b4.block _ i3.lt), ?_, (fun x hx => by cases hx), by simp [z3]⟩
    · exact ((s1.keep b2.block).keep b3.block).keep b4.block
    · exact ((b1.trans (b2.mono b1.size)).trans (b3.mono (by omega))).trans (b4.mono (by omega))
  have hcall := gather_any w0 (w.heap.size + 1) (w.heap.size + 2) (w.heap.size + 3) (w.heap.size + 4) (w.heap.size + 5) (by omega) (by omega) (by omega) (by omega) (by omega) (by omega) (by omega) (by omega) (by omega) T.deep _ T HT.out (Nat.le_refl _) hnv _ [] [] hG (by simpa using HND.out) (by simp; omega)
  refine hcall.mono ?_
  rintro e W1 ⟨rfl, hG1⟩
  obtain ⟨A5, k5, c5, hl5, hown5⟩ := hG1.own
  have d2 : W1.cell? ⟨w.heap.size + 1 + 1 + 1 + 1, 2, none⟩ = some (.slice none 0 0) := hl5.cell 2
  have d4 : W1.cell? ⟨w.heap.size + 1 + 1 + 1 + 1, 4, none⟩ = some (.slice A5 k5 c5) := hl5.cell 4
  have hB1 : Below w.heap.size w W1 := hb0.trans (hG1.below.mono (by omega))
  have HO := Lib.hid hown5
  clear hcall hG hG1 hl5 hown5 hm1 hm2 hm3
  go_wp2
  go_quiet (fail)
  go_wp2
  go_ret2
  exact ⟨_, rfl, own_mono (own_later HO.out (below_drewN _ _)) (by omega), hB1.trans ((below_drewN _ _).mono hB1.size)⟩
end Go.Proofs.YtjeolmcjhpkcbaaDoor
