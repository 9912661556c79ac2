/- Same of a value with kids and itself. -/
import Derived.Test.YtkdjmobplknmgaaDoorVsS
namespace Go.Proofs.YtkdjmobplknmgaaDoor
open Go Go.RowKit

theorem below_drewN (w : World) (n : Nat) : Below w.heap.size w (w.drewN n) := ⟨rfl, rfl, rfl, Nat.le_refl _, fun _ _ => rfl⟩
theorem EMap.new (w : World) {N : Nat} (hN : w.heap.size = N) : EMap (w.alloc (.map #[] 0)) N := by
  subst hN
  exact (MapKept.heap_alloc w _).1
theorem EMap.alloc {w : World} {b : Nat} (h : EMap w b) (o : Obj) : EMap (w.alloc o) b := (Below.heap_alloc w o b (lt_of_block h)).trans h
theorem EMap.later {w w' : World} {b : Nat} (h : EMap w b) (hb : Below w.heap.size w w') : EMap w' b := (hb.block b (lt_of_block h)).trans h
def lenOf : Value → Nat
  | .slice _ n _ => n
  | _ => 0
def SameRel (w W : World) (b3 : Nat) (todo : Value) (wr : World) : Prop := (todo = .slice (some ⟨b3, 0, none⟩) 1 1 ∧ wr = W) ∨ (todo = .slice (some ⟨b3, 0, none⟩) 0 1 ∧ Below w.heap.size w wr)
set_option maxRecDepth 100000 in
set_option maxHeartbeats 8000000 in
theorem same_self (w : World) (k n : Int) (nm : Str) (g m c : Nat) (hm : 0 < m) (hmc : m ≤ c) (hcm : c ≤ maxLen) :
    Calls Tryd.prog 18 #[.agg #[.int .i64 k, .int .i64 n, .string (ba nm), .slice (some ⟨g, 0, none⟩) m c], .agg #[.int .i64 k, .int .i64 n, .string (ba nm), .slice (some ⟨g, 0, none⟩) m c]] w fun e w' => e = .returned (.bool true) ∧ Below w.heap.size w w' := by
  have hmm := @run_makeMap Tryd.prog
  obtain ⟨W, hW⟩ : ∃ W, W = (((w.alloc (.cells #[.int .i64 k, .int .i64 n, .string (ba nm), .slice (some ⟨g, 0, none⟩) m c] 24)).alloc (.cells #[.int .i64 k, .int .i64 n, .string (ba nm), .slice (some ⟨g, 0, none⟩) m c] 24)).alloc (.map #[] 0)).alloc (.cells #[.pointer (some ⟨w.heap.size, 0, none⟩), .pointer (some ⟨w.heap.size + 1, 0, none⟩)] 61) := ⟨_, rfl⟩
  have hbW : Below w.heap.size w W := by rw [hW]; exact ((((Below.refl _ w).alloc (Nat.le_refl _) _).alloc (by simp) _).alloc (by simp; omega) _).alloc (by simp; omega) _
  have l0 : Lies W w.heap.size 24 (vC k n nm (.slice (some ⟨g, 0, none⟩) m c)).toArray := by rw [hW]; exact (((Lies.new w _ _).alloc _).alloc _).alloc _
  have l1 : Lies W (w.heap.size + 1) 24 (vC k n nm (.slice (some ⟨g, 0, none⟩) m c)).toArray := by rw [hW]; exact ((Lies.new' _ _ _ (by simp)).alloc _).alloc _
  have hem : EMap W (w.heap.size + 1 + 1) := by
    rw [hW]
    exact (EMap.new _ (by simp)).alloc _
  have l3 : Lies W (w.heap.size + 1 + 1 + 1) 61 #[.pointer (some ⟨w.heap.size, 0, none⟩), .pointer (some ⟨w.heap.size + 1, 0, none⟩)] := by rw [hW]; exact Lies.new' _ _ _ (by simp)
  have rd : ∀ {V : World} {b : Nat}, Lies V b 24 (vC k n nm (.slice (some ⟨g, 0, none⟩) m c)).toArray → ReadsAt V ⟨b, 0, none⟩ (vC k n nm (.slice (some ⟨g, 0, none⟩) m c)) := fun {V b} h i u hu => by
    rw [show (⟨b, 0 + i, none⟩ : Addr) = ⟨b, i, none⟩ by rw [Nat.zero_add], h.cell]
    simpa using hu
  have c0 : W.cell? ⟨w.heap.size + 1 + 1 + 1, 0, none⟩ = some (.pointer (some ⟨w.heap.size, 0, none⟩)) := l3.cell 0
  have c1 : W.cell? ⟨w.heap.size + 1 + 1 + 1, 1, none⟩ = some (.pointer (some ⟨w.heap.size + 1, 0, none⟩)) := l3.cell 1
  have hsz : w.heap.size + 1 + 1 + 1 < W.heap.size := l3.lt
  have HW := Lib.hid hW
  have HB := Lib.hid hbW
  have H0 := Lib.hid l0
  have H1 := Lib.hid l1
  have HE := Lib.hid hem
  have H3 := Lib.hid l3
  clear hW hbW l0 l1 hem l3
  go_enter Tryd.func18, Tryd.ntmps18
  go_wp2_with fail
  rw [← HW.out]
  go_loopw [6] (fun t wr => SameRel w W (w.heap.size + 1 + 1 + 1) t wr) (fun t _ => lenOf t)
  case atStart => exact .inl ⟨rfl, rfl⟩
  case round =>
    rcases hrel with ⟨rfl, rfl⟩ | ⟨rfl, hB⟩
    · have hs0 : w.heap.size < wr.heap.size := by omega
      have hs1 : w.heap.size + 1 < wr.heap.size := by omega
      obtain ⟨w5, hw5⟩ : ∃ w5, w5 = wr.alloc (.cells #[.pointer (some ⟨w.heap.size, 0, none⟩), .pointer (some ⟨w.heap.size + 1, 0, none⟩)] 61) := ⟨_, rfl⟩
      have hb5 : Below wr.heap.size wr w5 := by rw [hw5]; exact below_new _ _
      have l5 : Lies w5 wr.heap.size 61 #[.pointer (some ⟨w.heap.size, 0, none⟩), .pointer (some ⟨w.heap.size + 1, 0, none⟩)] := by rw [hw5]; exact Lies.new _ _ _
      have z0 : w5.cell? ⟨wr.heap.size, 0, none⟩ = some (.pointer (some ⟨w.heap.size, 0, none⟩)) := l5.cell 0
      have z1 : w5.cell? ⟨wr.heap.size, 1, none⟩ = some (.pointer (some ⟨w.heap.size + 1, 0, none⟩)) := l5.cell 1
      have hsa := sameAlone_any w5 w.heap.size 0 (w.heap.size + 1) 0 k n nm _ _ m c c (rd (H0.out.later hb5)) (rd (H1.out.later hb5))
      have HSA := Lib.hid hsa
      have HW5 := Lib.hid hw5
      have HB5 := Lib.hid hb5
      have HL5 := Lib.hid l5
      clear hw5 hb5 l5 hsa
      go_wp2_with fail
      rw [← HW5.out]
      refine HSA.out.mono ?_
      rintro e w6 ⟨rfl, q6, hq6⟩
      have hd6 : Below w5.heap.size w5 w6 := by rw [hq6]; exact below_drewN w5 q6
      clear hq6
      have h56 := HB5.out.trans (hd6.mono HB5.out.size)
      have hk0 : ∀ V, Below wr.heap.size wr V → Calls Tryd.prog 38 #[.pointer (some ⟨w.heap.size, 0, none⟩)] V fun e w' => e = .returned (.agg #[.pointer (some ⟨g, 0, none⟩), .int .i64 (m : Int)]) ∧ Below V.heap.size V w' := fun V hV => kids_any V w.heap.size 0 g k n nm m c (rd (H0.out.later hV)) hm hmc hcm
      have hk1 : ∀ V, Below wr.heap.size wr V → Calls Tryd.prog 38 #[.pointer (some ⟨w.heap.size + 1, 0, none⟩)] V fun e w' => e = .returned (.agg #[.pointer (some ⟨g, 0, none⟩), .int .i64 (m : Int)]) ∧ Below V.heap.size V w' := fun V hV => kids_any V (w.heap.size + 1) 0 g k n nm m c (rd (H1.out.later hV)) hm hmc hcm
      have hjo : ∀ V, Below wr.heap.size wr V → Calls Tryd.prog 37 #[.map (some (w.heap.size + 1 + 1)), .agg #[.pointer (some ⟨g, 0, none⟩), .int .i64 (m : Int)], .agg #[.pointer (some ⟨g, 0, none⟩), .int .i64 (m : Int)]] V fun e w' => e = .returned (.bool false) ∧ Below V.heap.size V w' := fun V hV => join_any V _ g m (HE.out.later hV)
      have hS : ∀ V, Below w6.heap.size w6 V → V.cell? ⟨wr.heap.size, 0, none⟩ = some (.pointer (some ⟨w.heap.size, 0, none⟩)) ∧ V.cell? ⟨wr.heap.size, 1, none⟩ = some (.pointer (some ⟨w.heap.size + 1, 0, none⟩)) ∧ V.cell? ⟨w.heap.size, 3, none⟩ = some (.slice (some ⟨g, 0, none⟩) m c) := fun V hV => by
        have h0 := hd6.trans (hV.mono hd6.size)
        have h1 := HL5.out.later h0
        have h2 := H0.out.later (HB5.out.trans (h0.mono HB5.out.size))
        exact ⟨h1.cell 0, h1.cell 1, h2.cell 3⟩
      have hdr : Below w6.heap.size w6 w6.drew := (Below.refl _ _).drew
      obtain ⟨x0, x1, x2⟩ := hS _ hdr
      have hmi : ((m : Int) == 0) = false := beq_false_of_ne (by omega)
      have hmi2 : ¬ (m : Int) = 0 := by omega
      have HK0 := Lib.hid hk0
      have HK1 := Lib.hid hk1
      have HJO := Lib.hid hjo
      have HS := Lib.hid hS
      have HDR := Lib.hid hdr
      have H56 := Lib.hid h56
      clear hk0 hk1 hjo hS hdr hd6 h56
      go_wp2_with fail
      go_region_held3 (fun V => V.cell? ⟨wr.heap.size, 0, none⟩ = some (.pointer (some ⟨w.heap.size, 0, none⟩)) ∧ V.cell? ⟨wr.heap.size, 1, none⟩ = some (.pointer (some ⟨w.heap.size + 1, 0, none⟩)) ∧ V.cell? ⟨w.heap.size, 3, none⟩ = some (.slice (some ⟨g, 0, none⟩) m c))
        (first | with_reducible exact HS.out _ HDR.out | with_reducible exact HS.out _ hq7 | with_reducible exact HS.out _ hq8 | with_reducible exact HS.out _ hq9)
        (first
          | (go_at_call 37; refine (HJO.out _ (H56.out.trans (hq8.mono H56.out.size))).mono ?_; rintro e w9 ⟨rfl, hb9⟩; have hq9 := hq8.trans (hb9.mono hq8.size))
          | (go_at_call 38; have hx := hq7; with_reducible refine (HK1.out _ (H56.out.trans (hq7.mono H56.out.size))).mono ?_; rintro e w8 ⟨rfl, hb8⟩; have hq8 := hq7.trans (hb8.mono hq7.size))
          | (go_at_call 38; with_reducible refine (HK0.out _ (H56.out.trans (HDR.out.mono H56.out.size))).mono ?_; rintro e w7 ⟨rfl, hb7⟩; have hq7 := HDR.out.trans (hb7.mono HDR.out.size)))
      all_goals
        have HQ := Lib.hid (H56.out.trans (hq9.mono H56.out.size))
        clear hq7 hq8 hq9
        go_wp2
        go_roundw
        case rel => exact .inr ⟨rfl, HB.out.trans (HQ.out.mono HB.out.size)⟩
        case measure => simp [lenOf]
    · have HBB := Lib.hid hB
      clear hB
      go_wp2
      go_ret
      exact ⟨rfl, HBB.out⟩
end Go.Proofs.YtkdjmobplknmgaaDoor
