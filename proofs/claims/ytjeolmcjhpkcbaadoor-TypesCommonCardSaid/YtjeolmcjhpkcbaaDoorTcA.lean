/- The reference's SameRow on equal rows. -/
import Derived.Test.YtjeolmcjhpkcbaaDoorTsC
import Derived.Outline
namespace Go.Proofs.YtjeolmcjhpkcbaaDoor
open Go.RowKit Go.Shelf Go.Sort

set_option maxRecDepth 100000 in
set_option maxHeartbeats 4000000 in
theorem refSame_any (v u : Value) (L : List Str) (rv : Int) (w : World) (hv : Strs w v L) (hu : Strs w u L) (hb : L.length ≤ 1000) :
    Calls Tryd.prog 30 #[.agg #[v, .int .i64 rv], .agg #[u, .int .i64 rv]] w fun e w' => e = .returned (.bool true) ∧ Below w.heap.size w w' := by
  obtain ⟨A, c, rfl, hc, hm⟩ := hv.slice
  obtain ⟨B, d, rfl, hd, hm2⟩ := hu.slice
  have hb1 := below_new w (.cells #[.slice A L.length c, .int .i64 rv] 25)
  have hb2 := hb1.alloc (by simp) (.cells #[.slice B L.length d, .int .i64 rv] 25)
  have HV := Lib.hid (hv.later hb2)
  have HU := Lib.hid (hu.later hb2)
  clear hv hu
  go_enter Tryd.func30, Tryd.ntmps30
  have n0 := (Lies.new w 25 #[.slice A L.length c, .int .i64 rv]).alloc (.cells #[.slice B L.length d, .int .i64 rv] 25)
  have n1 := Lies.new' (w.alloc (.cells #[.slice A L.length c, .int .i64 rv] 25)) 25 #[.slice B L.length d, .int .i64 rv] (N := w.heap.size + 1) (by simp)
  have HN0 := Lib.hid n0
  have HN1 := Lib.hid n1
  have HB2 := Lib.hid hb2
  clear n0 n1 hb1 hb2
  go_wp2
  go_loopw [5] (fun i wr => ∃ k : Nat, k ≤ L.length ∧ i = .int .i64 k ∧ Below ((w.alloc (.cells #[.slice A L.length c, .int .i64 rv] 25)).alloc (.cells #[.slice B L.length d, .int .i64 rv] 25)).heap.size ((w.alloc (.cells #[.slice A L.length c, .int .i64 rv] 25)).alloc (.cells #[.slice B L.length d, .int .i64 rv] 25)) wr) (fun i _ => L.length - (intOf i).toNat)
  case atStart => exact ⟨0, Nat.zero_le _, rfl, Below.refl _ _⟩
  case round =>
    obtain ⟨k, hk, rfl, hB⟩ := hrel
    have c0 := (HN0.out.later hB).cell 0
    have c1 := (HN1.out.later hB).cell 0
    by_cases hlt : k < L.length
    · obtain ⟨x, hx⟩ : ∃ x, L[k]? = some x := ⟨_, List.getElem?_eq_getElem hlt⟩
      obtain ⟨A', c', h1, _, _, h4⟩ := HV.out.later hB
      obtain ⟨g, o, h5, h6⟩ := h4 (by omega)
      injection h1 with h1 _ hcc
      subst h1 h5 hcc
      obtain ⟨B', d', h1, _, _, h7⟩ := HU.out.later hB
      obtain ⟨g2, o2, h8, h9⟩ := h7 (by omega)
      injection h1 with h1 _ hcc
      subst h1 h8 hcc
      have hS : wr.cell? ⟨w.heap.size, 0, none⟩ = some (.slice (some ⟨g, o, none⟩) L.length c) ∧ wr.cell? ⟨w.heap.size + 1, 0, none⟩ = some (.slice (some ⟨g2, o2, none⟩) L.length d) ∧ wr.cell? ⟨g, o + k, none⟩ = some (.string (ba x)) ∧ wr.cell? ⟨g2, o2 + k, none⟩ = some (.string (ba x)) := ⟨c0, c1, h6 k x hx, h9 k x hx⟩
      have HS := Lib.hid hS
      have HBr := Lib.hid hB
      have hlti : (k : Int) < (L.length : Int) := by omega
      clear h4 h6 h7 h9 hx hS hB c1
      go_wp2
      go_region_held3 (fun w' => w'.cell? ⟨w.heap.size, 0, none⟩ = some (.slice (some ⟨g, o, none⟩) L.length c) ∧ w'.cell? ⟨w.heap.size + 1, 0, none⟩ = some (.slice (some ⟨g2, o2, none⟩) L.length d) ∧ w'.cell? ⟨g, o + k, none⟩ = some (.string (ba x)) ∧ w'.cell? ⟨g2, o2 + k, none⟩ = some (.string (ba x)))
        (exact HS.out) (fail)
      go_wp2
      go_roundw
      case rel => exact ⟨k + 1, by omega, by go_num, HBr.out.drew⟩
      case measure => simp [intOf]; omega
    · obtain rfl : k = L.length := by omega
      go_wp2
      go_ret
      exact ⟨rfl, HB2.out.trans (hB.mono HB2.out.size)⟩
end Go.Proofs.YtjeolmcjhpkcbaaDoor
