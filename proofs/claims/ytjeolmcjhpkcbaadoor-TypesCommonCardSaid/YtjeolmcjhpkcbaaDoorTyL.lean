/- The text of a type. -/
import Derived.Test.YtjeolmcjhpkcbaaDoorTyK
import Derived.Test.YtjeolmcjhpkcbaaDoorTyD
import Derived.Deep.RegionHeld3
import Derived.Outline
namespace Go.Proofs.YtjeolmcjhpkcbaaDoor
open Go.RowKit Go.Shelf

def brB (ks : List Int) (p : Int × Str) : Str := if ks.contains p.1 then 40 :: (p.2 ++ [41]) else p.2
def txK (k : Int) (nm : Str) (v : Int) (ls : List Str) (rv : Int) (ks : List (Int × Str)) : Str :=
  if k = 1 then [105, 110, 116] else if k = 2 then [98, 111, 111, 108] else if k = 3 then [117, 110, 105, 116] else if k = 7 then 39 :: Lib.decDigits v.toNat
  else if k = 6 then (match ks with | p :: _ => [114, 101, 102, 32] ++ brB [5, 6] p | [] => [])
  else if k = 5 then (match ks with | p :: q :: _ => brB [5] p ++ [32, 45, 62, 32] ++ rowB ls rv ++ q.2 | _ => []) else nm
mutual
def txT : Ty → Str
  | .mk k nm v kids ls rv => txK k nm v ls rv (txL kids)
def txL : List Ty → List (Int × Str)
  | [] => []
  | t :: r => (t.kind, txT t) :: txL r
end
mutual
def okX : Ty → Bool
  | .mk k nm v kids ls rv => (!decide (k = 7) || decide (0 ≤ v) && decide (v < 100)) && (!decide (k = 6) || decide (1 ≤ kids.length)) && (!decide (k = 5) || decide (2 ≤ kids.length) && decide (0 ≤ rv) && decide (rv < 100) && decide (ls.length ≤ 1000) && decide ((joinB ls).length ≤ 100000)) && decide ((txK k nm v ls rv (txL kids)).length ≤ 100000) && okXL kids
def okXL : List Ty → Bool
  | [] => true
  | t :: r => okX t && okXL r
end
theorem okX_len : ∀ t, okX t = true → (txT t).length ≤ 100000
  | .mk k nm v kids ls rv, h => by
    simp only [okX, Bool.and_eq_true, decide_eq_true_eq] at h
    rw [txT]
    exact h.1.2
theorem ba_sz {s : Str} (h : s.length ≤ 100000) : (ba s).size ≤ 100000 := by rw [ba_size]; exact h
set_option maxRecDepth 100000 in
set_option maxHeartbeats 4000000 in
theorem bracketed_any (t : Ty) (l : List Value) (w : World) (ht : TV w t l) (ks : List Int) (N m : Nat) (hm : ks.length = m) (hm2 : m ≤ 10) (hks : ∀ (j : Nat) x, ks[j]? = some x → w.cell? ⟨N, j, none⟩ = some (.int .i64 x)) (hlen : (txT t).length ≤ 100000)
    (htx : ∀ W, TV W t l → Calls Tryd.prog 34 #[.agg l.toArray] W fun e w' => e = .returned (.string (ba (txT t))) ∧ Below W.heap.size W w') :
    Calls Tryd.prog 53 #[.agg l.toArray, .slice (some ⟨N, 0, none⟩) m m] w fun e w' => e = .returned (.string (ba (brB ks (t.kind, txT t)))) ∧ Below w.heap.size w w' := by
  have htv := ht
  obtain ⟨k, nm, v, kids, ls, rv⟩ := t
  obtain ⟨kv, lv, rfl, hsk, hsl, _⟩ := ht
  obtain ⟨A, q, rfl, _⟩ := hsk
  obtain ⟨A2, q2, rfl, _⟩ := hsl.slice
  have hkd : (Ty.mk k nm v kids ls rv).kind = k := rfl
  generalize hT : Ty.mk k nm v kids ls rv = T at *
  have hb0 := below_new w (.cells (tyC k nm v (.slice A kids.length q) (.slice A2 ls.length q2) rv).toArray 27)
  have htx0 := htx _ (htv.later hb0)
  have hcells : ∀ j, j < ks.length → (w.alloc (.cells (tyC k nm v (.slice A kids.length q) (.slice A2 ls.length q2) rv).toArray 27)).cell? ⟨N, 0 + j, none⟩ = some (.int .i64 (ks.getD j 0)) := by
    intro j hj
    have h1 := hks j _ (List.getElem?_eq_getElem hj)
    rw [Nat.zero_add, hb0.cell (p := ⟨N, j, none⟩) (World.block_lt_of_cell? w _ h1), h1]
    simp [List.getD_eq_getElem?_getD, hj]
  have hct := Any.slices_Contains_int Tryd.lays107 N 0 m m ks k _ (by omega) (by omega) hcells
  rw [← hm, List.take_length, hm] at hct
  unfold tyC at *
  have HTX := Lib.hid htx0
  have HCT := Lib.hid hct
  have HKD := Lib.hid hkd
  have hsz := hb0.size
  have htl := ba_sz hlen
  obtain ⟨R, hR⟩ : ∃ R, R = brB ks (T.kind, txT T) := ⟨_, rfl⟩
  rw [← hR]
  unfold brB at hR
  rw [hkd] at hR
  have HR := Lib.hid hR
  clear hR htx0 hct hkd hT htx hsl hcells htv hks
  go_enter Tryd.func53, Tryd.ntmps53
  go_wp2_with fail
  refine HCT.out.mono ?_
  rintro e w1 ⟨rfl, rfl⟩
  cases hc : ks.contains k
  · go_wp2_with fail
    refine HTX.out.mono ?_
    rintro e w2 ⟨rfl, hb2⟩
    go_wp2
    go_ret
    exact ⟨by rw [HR.out, hc, if_neg (by decide)]; rfl, hb0.trans (hb2.mono hsz)⟩
  · go_wp2_with fail
    refine HTX.out.mono ?_
    rintro e w2 ⟨rfl, hb2⟩
    go_wp2
    go_ret
    refine ⟨?_, hb0.trans (hb2.mono hsz)⟩
    rw [HR.out, hc, if_pos rfl, show (40 :: (txT T ++ [41]) : Str) = [40] ++ txT T ++ [41] from rfl, ← ba_app, ← ba_app]
    rfl
end Go.Proofs.YtjeolmcjhpkcbaaDoor
