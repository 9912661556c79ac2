/- Package scheme: the labels that a list has more than another one. -/
import Derived.Test.YthdfomcpoofkaaaMg18
import Derived.Test.YthdfomcpoofkaaaMg15
import Derived.OwnWalk
import Derived.Outline
namespace Go.Proofs.Ythdfomcpoofkaaa.Si
open Go.RowKit

def mstep (s : List Str × List Str) (a : Str) : List Str × List Str :=
  match s.1 with
  | [] => ([], s.2 ++ [a])
  | b :: o => if a = b then (o, s.2) else (b :: o, s.2 ++ [a])
def mst (ls ms : List Str) : List Str × List Str := ms.foldl mstep (ls, [])
theorem mst_of : ∀ (ms o out : List Str), (ms.foldl mstep (o, out)).2 = out ++ moreS ms o
  | [], o, out => by simp [moreS]
  | a :: r, [], out => by rw [List.foldl_cons]; show (r.foldl mstep ([], out ++ [a])).2 = _; rw [mst_of r [] (out ++ [a]), moreS]; simp
  | a :: r, b :: o, out => by
    rw [List.foldl_cons, moreS]
    by_cases e : a = b
    · rw [if_pos e]
      show (r.foldl mstep (if a = b then (o, out) else _)).2 = _
      rw [if_pos e, mst_of r o out]
    · rw [if_neg e]
      show (r.foldl mstep (if a = b then (o, out) else (b :: o, out ++ [a]))).2 = _
      rw [if_neg e, mst_of r (b :: o) (out ++ [a])]
      simp
theorem mst_all (ls ms : List Str) : (mst ls ms).2 = moreS ms ls := by
  have := mst_of ms ls []
  simpa [mst] using this
theorem mst_step (ls ms : List Str) (k : Nat) (x : Str) (h : ms[k]? = some x) : mst ls (ms.take (k + 1)) = mstep (mst ls (ms.take k)) x := by
  unfold mst
  rw [take_step ms k x h, List.foldl_append]
  rfl
theorem mst_len : ∀ (ms o out : List Str), (ms.foldl mstep (o, out)).2.length ≤ out.length + ms.length
  | [], o, out => by simp
  | a :: r, o, out => by
    rw [List.foldl_cons]
    have h1 : (r.foldl mstep (mstep (o, out) a)).2.length ≤ (mstep (o, out) a).2.length + r.length := mst_len r (mstep (o, out) a).1 (mstep (o, out) a).2
    have h2 : (mstep (o, out) a).2.length ≤ out.length + 1 := by
      unfold mstep
      dsimp only
      split
      · simp
      · split <;> simp
    simp only [List.length_cons]
    omega
theorem tail_strs {w : World} {g o n c : Nat} {b : Str} {r : List Str} (h : ∀ (i : Nat) s, (b :: r)[i]? = some s → w.cell? ⟨g, o + i, none⟩ = some (.string (ba s))) (hn : n = r.length) (hc : n ≤ c) : Rw.Strs w (.slice (some ⟨g, o + 1, none⟩) n c) r := by
  subst hn
  refine ⟨_, c, rfl, hc, fun _ => ⟨g, o + 1, rfl, fun i s hs => ?_⟩⟩
  have := h (i + 1) s (by rw [List.getElem?_cons_succ]; exact hs)
  rw [show o + 1 + i = o + (i + 1) by omega]
  exact this

set_option maxRecDepth 100000 in
set_option maxHeartbeats 8000000 in
theorem more_any (w : World) (lv ov : Value) (ms ls : List Str) (hl : Rw.Strs w lv ms) (ho : Rw.Strs w ov ls) (hm : ms.length ≤ 2000000) :
    Calls Try.prog 83 #[lv, ov] w fun e w' => ∃ v', e = .returned v' ∧ w'.ownsRow w.heap.size 9 1 v' (moreS ms ls).length ((moreS ms ls).map encS) ∧ Below w.heap.size w w' := by
  obtain ⟨i0, hi, hz0, hz1, hz2⟩ := info_parts Rw.info_str
  obtain ⟨A0, c0, rfl, hc0, ha0⟩ := ho
  have ho : Rw.Strs w (.slice A0 ls.length c0) ls := ⟨A0, c0, rfl, hc0, ha0⟩
  obtain ⟨A, cA, rfl, hcA, h4⟩ := hl
  obtain ⟨NA, hNA⟩ : ∃ N, N = ms.length := ⟨_, rfl⟩
  have HNA := Lib.hid hNA
  have HV := Lib.hid h4
  have HO0 := Lib.hid ho
  have hM := hm
  rw [← hNA] at hcA hm ⊢
  obtain ⟨n0, hn0⟩ : ∃ n, n = ls.length := ⟨_, rfl⟩
  have HN0 := Lib.hid hn0
  rw [← hn0] at hc0 ⊢
  clear hNA h4 ho ha0 hn0
  go_enter Try.func83, Try.ntmps83
  go_wp2_with fail
  go_loopw [10, 1, 5] (fun i oth ov wr => ∃ (k : Nat) (A1 : Option Addr) (n1 c1 : Nat) (A9 : Option Addr) (n9 c9 : Nat), k ≤ NA ∧ i = .int .i64 k ∧ oth = .slice A1 n1 c1 ∧ ov = .slice A9 n9 c9 ∧ Rw.Strs w (.slice A1 n1 c1) (mst ls (ms.take k)).1 ∧ wr.ownsRow w.heap.size 9 1 (.slice A9 n9 c9) (mst ls (ms.take k)).2.length ((mst ls (ms.take k)).2.map encS) ∧ Below w.heap.size w wr) (fun i _ _ _ => NA - (intOf i).toNat)
  case atStart => exact ⟨0, A0, n0, c0, none, 0, 0, Nat.zero_le _, rfl, rfl, rfl, by rw [HN0.out]; exact HO0.out, World.ownsRow_nil _ _ _ _, Below.refl _ w⟩
  case round =>
    obtain ⟨k, A1, n1, c1, A9, n9, c9, hk, rfl, rfl, rfl, hS, hO, hB⟩ := hrel
    have HB := Lib.hid hB
    have HO := Lib.hid hO
    by_cases hlt : k < NA
    · obtain ⟨x, hx⟩ : ∃ x, ms[k]? = some x := ⟨_, List.getElem?_eq_getElem (by have := HNA.out; omega)⟩
      obtain ⟨g, o, rfl, h6a⟩ := HV.out (by have := HNA.out; omega)
      have h6 := h6a k x hx
      clear h6a
      have z6 := (hB.cell (p := ⟨g, o + k, none⟩) (World.block_lt_of_cell? w _ h6)).trans h6
      have hst := mst_step ls ms k x hx
      have hln := mst_len (ms.take k) ls []
      have hln2 : (ms.take k).length ≤ k := by rw [List.length_take]; omega
      have HLN := Lib.hid (show (mst ls (ms.take k)).2.length ≤ 2000000 by
        have : (mst ls (ms.take k)).2.length ≤ 0 + (ms.take k).length := hln
        omega)
      have HST := Lib.hid hst
      have hlti : (k : Int) < (NA : Int) := by omega
      have hkc : k < cA := by omega
      have hone : ∀ u ∈ [Value.string (ba x)], u.oneCell' = true := by simp [Value.oneCell']
      have HBN := Lib.hid (below_new wr (.cells #[.string (ba x)] 9))
      have hrow : ∀ k, Value.ownBlock (.slice A9 n9 c9) = some k → w.heap.size ≤ k := fun k hk => (own_block hO k hk).1
      have HROW := Lib.hid hrow
      have hsw := hB.size
      clear h6 hx hB hO hst hln hln2 hrow
      cases hq : (mst ls (ms.take k)).1 with
      | nil =>
        rw [hq] at hS
        obtain ⟨A2, c2, e2, hrest⟩ := hS
        clear hrest
        injection e2 with e2 e3 e4
        subst e2 e4
        obtain rfl : n1 = 0 := e3
        have HS2 := Lib.hid (show mst ls (ms.take (k + 1)) = ([], (mst ls (ms.take k)).2 ++ [x]) by rw [HST.out]; unfold mstep; rw [hq])
        clear hq
        go_wp2_with (first | (at_builtin; go_loud (refine wpList_append_own_at _ rfl (.tmp 26) (.tmp 28) 24 rfl w.heap.size 9 i0 (.string ⟨#[]⟩) 1 16 Try.underlying24 hi hz0 hz1 hz2 rfl (by decide) _ (mst ls (ms.take k)).2.length ((mst ls (ms.take k)).2.map encS) rfl (own_later HO.out HBN.out) ⟨wr.heap.size, 0, none⟩ 1 1 [.string (ba x)] rfl rfl (new_cells wr _ _ rfl) hone (by have := HLN.out; unfold maxLen; omega) (by have := HLN.out; omega) (by simp; omega) ?_)))
        intro v' w2 hown hgr hnil hat
        obtain ⟨A8, n8, c8, rfl⟩ := own_slice hown
        have HB2 := Lib.hid (Below.grown (HB.out.trans (HBN.out.mono hsw)) hgr (by simp; omega) (fun j hj => by have := HROW.out j hj; omega))
        have HO2 := Lib.hid hown
        clear hown hgr hnil hat
        go_wp2_with fail
        go_roundw
        case rel => exact ⟨k + 1, _, _, _, _, _, _, by omega, by simp, rfl, rfl, by rw [HS2.out]; exact ⟨_, _, rfl, Nat.zero_le _, fun h => absurd h (by simp)⟩, by rw [HS2.out]; rw [List.length_append, List.map_append]; exact HO2.out, HB2.out⟩
        case measure => simp [intOf]; omega
      | cons b r =>
        rw [hq] at hS
        obtain ⟨A2, c2, e2, hc2, h5⟩ := hS
        injection e2 with e2 e3 e4
        subst e2 e4
        obtain rfl : n1 = r.length + 1 := e3
        obtain ⟨g1, o1, rfl, h7⟩ := h5 (by simp)
        have z7 := h7 0 b rfl
        rw [Nat.add_zero] at z7
        have z7 := (HB.out.cell (p := ⟨g1, o1, none⟩) (World.block_lt_of_cell? w _ z7)).trans z7
        have hcr : r.length + 1 ≤ c1 := hc2
        have hpos : (0 : Int) < (r.length : Int) + 1 := by omega
        have HT := Lib.hid (fun (nn cc : Nat) (h1 : nn = r.length) (h2 : nn ≤ cc) => tail_strs (w := w) (g := g1) (o := o1) (n := nn) (c := cc) (b := b) (r := r) h7 h1 h2)
        have HTI := Lib.hid (show Rw.Strs w (.slice (if c1 = 1 then some ⟨g1, o1, none⟩ else some ⟨g1, o1 + 1, none⟩) r.length (c1 - 1)) r by
          by_cases hc : c1 = 1
          · have hr0 : r = [] := List.eq_nil_of_length_eq_zero (by omega)
            subst hr0
            exact ⟨_, _, rfl, Nat.zero_le _, fun h => absurd h (by simp)⟩
          · rw [if_neg hc]
            exact HT.out _ _ rfl (by omega))
        have HH := Lib.hid (show Rw.Strs w (.slice (some ⟨g1, o1, none⟩) (r.length + 1) c1) (b :: r) from ⟨_, _, rfl, hcr, fun _ => ⟨g1, o1, rfl, h7⟩⟩)
        clear h5 h7 hc2
        by_cases hxb : x = b
        · subst hxb
          have HS2 := Lib.hid (show mst ls (ms.take (k + 1)) = (r, (mst ls (ms.take k)).2) by rw [HST.out]; unfold mstep; rw [hq]; simp)
          clear hq
          go_wp2_with fail
          go_roundw
          case rel => exact ⟨k + 1, _, r.length, c1 - 1, _, _, _, by omega, by simp, rfl, rfl, by rw [HS2.out]; exact HTI.out, by rw [HS2.out]; exact HO.out, HB.out⟩
          case measure => simp [intOf]; omega
        · have hbne : ((ba x).toList == (ba b).toList) = false := by simpa [baS_toList] using hxb
          have HS2 := Lib.hid (show mst ls (ms.take (k + 1)) = (b :: r, (mst ls (ms.take k)).2 ++ [x]) by rw [HST.out]; unfold mstep; rw [hq]; simp [hxb])
          clear hq
          go_wp2_with (first | (at_builtin; go_loud (refine wpList_append_own_at _ rfl (.tmp 26) (.tmp 28) 24 rfl w.heap.size 9 i0 (.string ⟨#[]⟩) 1 16 Try.underlying24 hi hz0 hz1 hz2 rfl (by decide) _ (mst ls (ms.take k)).2.length ((mst ls (ms.take k)).2.map encS) rfl (own_later HO.out HBN.out) ⟨wr.heap.size, 0, none⟩ 1 1 [.string (ba x)] rfl rfl (new_cells wr _ _ rfl) hone (by have := HLN.out; unfold maxLen; omega) (by have := HLN.out; omega) (by simp; omega) ?_)))
          intro v' w2 hown hgr hnil hat
          obtain ⟨A8, n8, c8, rfl⟩ := own_slice hown
          have HB2 := Lib.hid (Below.grown (HB.out.trans (HBN.out.mono hsw)) hgr (by simp; omega) (fun j hj => by have := HROW.out j hj; omega))
          have HO2 := Lib.hid hown
          clear hown hgr hnil hat
          go_wp2_with fail
          go_roundw
          case rel => exact ⟨k + 1, _, _, _, _, _, _, by omega, by simp, rfl, rfl, by rw [HS2.out]; exact HH.out, by rw [HS2.out]; rw [List.length_append, List.map_append]; exact HO2.out, HB2.out⟩
          case measure => simp [intOf]; omega
    · have HO0 := HO0.out
      obtain rfl : k = NA := by omega
      rw [HNA.out, List.take_length, mst_all] at hO
      clear HO
      have HO := Lib.hid hO
      clear hO hB hS
      go_wp2_with fail
      go_ret
      exact ⟨_, rfl, HO.out, HB.out⟩
end Go.Proofs.Ythdfomcpoofkaaa.Si
