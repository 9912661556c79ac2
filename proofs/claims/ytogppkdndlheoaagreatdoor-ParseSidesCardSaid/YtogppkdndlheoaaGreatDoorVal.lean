/- The contract of value: what a term of numbers and signs is worth. -/
import Derived.Test.YtogppkdndlheoaaGreatDoorLpApps
import Derived.Test.YtogppkdndlheoaaGreatDoorGpSides
import Derived.Outline
namespace Go.Proofs.YtogppkdndlheoaaGreatDoor
open Go.RowKit Pz

theorem open_op {w : World} {P : Nat → Prop} {g p : Nat} {a b : Tm} {l : List Value} (h : HT w P (.mk 10 p (sgB g) [] 0 [a, b] []) l) : ∃ gk ck ka kb av, l = tmC 10 p (sgB g) [] 0 (.slice (some ⟨gk, 0, none⟩) 2 ck) av ∧ 2 ≤ ck ∧
    w.rangeAt gk 0 ka ∧ w.rangeAt gk 21 kb ∧ HT w P a ka ∧ HT w P b kb := by
  cases h with
  | mk _ _ _ _ _ _ _ kv av kc vv bc hk hkl hks hvl hbl ha hav has =>
  have hkl' : kc.length = 2 := hkl
  obtain ⟨k0, k1, rfl⟩ : ∃ k0 k1, kc = [k0, k1] := by
    match kc, hkl' with
    | [k0, k1], _ => exact ⟨k0, k1, rfl⟩
  have t0 := hks 0 _ k0 rfl rfl
  have t1 := hks 1 _ k1 rfl rfl
  have hl0 := t0.len
  rcases own_cells hk.2 with ⟨_, h0⟩ | ⟨gk, ck, rfl, hck, _, _, hcK⟩
  · cases h0
  refine ⟨gk, ck, k0, k1, av, rfl, hck, ?_, ?_, t0, t1⟩
  · intro i u hu
    have hi : i < k0.length := (List.getElem?_eq_some_iff.1 hu).1
    have := hcK i u (by
      simp only [List.flatten_cons]
      rw [List.getElem?_append_left hi]
      exact hu)
    simpa using this
  · intro i u hu
    exact hcK (21 + i) u (by
      simp only [List.flatten_cons, List.flatten_nil, List.append_nil]
      rw [List.getElem?_append_right (by omega), hl0, show 21 + i - 21 = i by omega]
      exact hu)

set_option maxRecDepth 100000 in
set_option maxHeartbeats 4000000 in
theorem value_any {t : Tm} {x : Int} (h : Va t x) : ∀ (l : List Value) (P : Nat → Prop) (w : World), HT w P t l → Calls Tryz.prog 21 #[.agg l.toArray] w fun e w' => e = .returned (.int .i64 x) ∧ Below w.heap.size w w' := by
  induction h with
  | int p n hn =>
    intro l P w ht
    have l0 := Lies.new w 39 l.toArray
    have hb0 := below_new w (.cells l.toArray 39)
    have hl : l[0]? = some (.int .i64 2) ∧ l[4]? = some (.int .i64 (n : Int)) := by cases ht; exact ⟨rfl, rfl⟩
    have c0 : (w.alloc (.cells l.toArray 39)).cell? ⟨w.heap.size, 0, none⟩ = some (.int .i64 2) := by rw [l0.cell]; simpa using hl.1
    have c4 : (w.alloc (.cells l.toArray 39)).cell? ⟨w.heap.size, 4, none⟩ = some (.int .i64 (n : Int)) := by rw [l0.cell]; simpa using hl.2
    clear ht hl l0
    go_enter Tryz.func21, Tryz.ntmps21
    go_wp2_with fail
    go_ret
    exact ⟨rfl, hb0⟩
  | op g p a b x y hg ha hb iha ihb =>
    intro l P w ht
    have l0 := Lies.new w 39 l.toArray
    have hb0 := below_new w (.cells l.toArray 39)
    have hx := ha.range
    have hy := hb.range
    obtain ⟨gk, ck, ka, kb, av, hl, hck, hra, hrb, hta, htb⟩ := open_op ht
    have c0 : (w.alloc (.cells l.toArray 39)).cell? ⟨w.heap.size, 0, none⟩ = some (.int .i64 10) := by rw [l0.cell, hl]; rfl
    have c5 : (w.alloc (.cells l.toArray 39)).cell? ⟨w.heap.size, 5, none⟩ = some (.slice (some ⟨gk, 0, none⟩) 2 ck) := by rw [l0.cell, hl]; rfl
    have c2 : (w.alloc (.cells l.toArray 39)).cell? ⟨w.heap.size, 2, none⟩ = some (.string (ba (sgB g))) := by rw [l0.cell, hl]; rfl
    have hra1 : (w.alloc (.cells l.toArray 39)).rangeAt gk 0 ka := fun i v hv => (hb0.cell (World.block_lt_of_cell? w _ (hra i v hv))).trans (hra i v hv)
    have hta1 := hta.later hb0
    have htb1 := htb.later hb0
    have hla := hta.len
    have hlb := htb.len
    have HLA := Lib.hid hla
    have HLB := Lib.hid hlb
    clear hl ht hta hla hlb
    go_enter Tryz.func21, Tryz.ntmps21
    go_wp2_with (first | (refine wpList_load_mid rfl 39 (.tmp 21) rfl gk 0 rfl ka _ hra1 Tryz.underlying39 rfl (by rw [sz39, HLA.out]) ?_))
    refine (iha ka P _ hta1).mono ?_
    rintro e w2 ⟨rfl, hb2⟩
    have hb02 := hb0.trans (hb2.mono hb0.size)
    have hs0 := hb0.size
    have d2 := (hb2.cell (p := ⟨w.heap.size, 2, none⟩) (World.block_lt_of_cell? _ _ c2)).trans c2
    have d5 := (hb2.cell (p := ⟨w.heap.size, 5, none⟩) (World.block_lt_of_cell? _ _ c5)).trans c5
    have hrb2 : w2.rangeAt gk 21 kb := fun i v hv => (hb02.cell (World.block_lt_of_cell? w _ (hrb i v hv))).trans (hrb i v hv)
    have htb2 := htb.later hb02
    clear c0 c2 c5 hra1 hta1 htb1
    go_wp2_with (first | (refine wpList_load_mid rfl 39 (.tmp 26) rfl gk 21 rfl kb _ hrb2 Tryz.underlying39 rfl (by rw [sz39, HLB.out]) ?_))
    refine (ihb kb P _ htb2).mono ?_
    rintro e w3 ⟨rfl, hb3⟩
    have hb03 := hb02.trans (hb3.mono hb02.size)
    have e2 := (hb3.cell (p := ⟨w.heap.size, 2, none⟩) (World.block_lt_of_cell? _ _ d2)).trans d2
    clear d2 d5 hrb2 htb2
    have hxy : 0 ≤ x * y ∧ x * y ≤ 1000003 * 1000003 := ⟨Int.mul_nonneg hx.1 hy.1, Int.mul_le_mul (by omega) (by omega) hy.1 (by decide)⟩
    have hw : IntKind.i64.wrap (x * y) = x * y := by
      generalize x * y = z at hxy
      unfold IntKind.wrap
      simp [IntKind.bits, IntKind.signed]
      omega
    have m0 : (x + y).tmod 1000003 = (x + y) % 1000003 := Int.tmod_eq_emod_of_nonneg (by omega)
    have m1 : (x - y + 1000003).tmod 1000003 = (x - y + 1000003) % 1000003 := Int.tmod_eq_emod_of_nonneg (by omega)
    have m2 : (x * y).tmod 1000003 = x * y % 1000003 := Int.tmod_eq_emod_of_nonneg hxy.1
    have hg3 : g = 0 ∨ g = 1 ∨ g = 2 := by omega
    rcases hg3 with rfl | rfl | rfl
    · rw [show ba (sgB 0) = ⟨#[43]⟩ from rfl] at e2
      go_wp2_with fail
      go_ret
      exact ⟨rfl, hb03⟩
    · rw [show ba (sgB 1) = ⟨#[45]⟩ from rfl] at e2
      have hm : opS 1 x y = (x - y) % 1000003 := by show (x - y + 1000003) % 1000003 = _; omega
      go_wp2_with fail
      go_ret
      exact ⟨by rw [hm]; rfl, hb03⟩
    · rw [show ba (sgB 2) = ⟨#[42]⟩ from rfl] at e2
      go_wp2_with fail
      go_ret
      exact ⟨rfl, hb03⟩
end Go.Proofs.YtogppkdndlheoaaGreatDoor
