/- Maps whose keys are strings, whose elements are ints: how many of a string there are. -/
import Derived.Test.YtpooocfogpileaaGreatMaE
import Derived.Test.YtpooocfogpileaaGreatMaL
import Derived.Maps.Own
import Derived.StringKeys
import Derived.Outline
import Derived.OwnWalk
namespace Go.Proofs.YtpooocfogpileaaGreat
open Go Go.RowKit Go.MapKept Go.ChangeMaps

/-- What a datum says of strings: 0 where it says nothing. -/
def SaysC (D : DataW Value) (c : Str → Int) : Prop := ∀ s : Str, D.atKey (.string s) (.lit (.int .i64 0)) = .lit (.int .i64 (c s))
/-- The map in block b says c of strings; it has at most m of them. -/
def MapC (w : World) (b m : Nat) (c : Str → Int) : Prop := ∃ D, w.ownsMap Tryz.prog 9 (plainElem (H := Value) Tryz.prog 3) b m D ∧ SaysC D c
def setC (c : Str → Int) (s : Str) (v : Int) : Str → Int := fun k => if k = s then v else c k
theorem keyedC : Maps.Keyed Tryz.prog 9 := Maps.string_keyed Tryz.underlying9
theorem keyC {s : Str} (h : s.length ≤ maxLen) : keyOf Tryz.prog 9 (.string (ba s)) = some (.string s) := by
  rw [Go.WideMaps.keyOf_string_mk Tryz.underlying9 (by rw [ba_size]; exact h), ba_list]
theorem MapC.made (w : World) : MapC (w.alloc (.map #[] 0)) w.heap.size 0 (fun _ => 0) := ⟨_, World.ownsMap_made w Tryz.prog 9 _, fun _ => rfl⟩
theorem MapC.lt {w : World} {b m : Nat} {c : Str → Int} (h : MapC w b m c) : b < w.heap.size := by
  obtain ⟨D, h1, _⟩ := h
  exact h1.lt
theorem MapC.mono {w : World} {b m m' : Nat} {c : Str → Int} (h : MapC w b m c) (hm : m ≤ m') : MapC w b m' c := by
  obtain ⟨D, h1, h2⟩ := h
  exact ⟨D, h1.mono hm, h2⟩
theorem MapC.keep {w w' : World} {b m : Nat} {c : Str → Int} (h : MapC w b m c) (hk : w'.heap[b]? = w.heap[b]?) : MapC w' b m c := by
  obtain ⟨D, ⟨es, clock, hb, h1⟩, h2⟩ := h
  exact ⟨D, ⟨es, clock, hk.trans hb, h1⟩, h2⟩
theorem MapC.later {w w' : World} {b m : Nat} {c : Str → Int} (h : MapC w b m c) (hb : Below w.heap.size w w') : MapC w' b m c := h.keep (hb.block b h.lt)
set_option maxRecDepth 100000 in
/-- 'm[s]'. -/
theorem MapC.look {w : World} {b m : Nat} {c : Str → Int} (h : MapC w b m c) {s : Str} (hs : s.length ≤ maxLen) :
    (Instr.lookup 87 (.map (some b)) (.string (ba s)) false).run Tryz.prog w = .ok (.int .i64 (c s)) w := by
  obtain ⟨D, h1, h2⟩ := h
  obtain ⟨a, hrun, hat, _⟩ := h1.lookup_int keyedC Tryz.underlying87 Tryz.underlying3 (by kernel_rfl) (keyC hs)
  rw [h2 s] at hat
  injection hat with hat
  injection hat with _ hat
  rw [hrun, hat]
set_option maxRecDepth 100000 in
/-- 'm[s] = v'. -/
theorem wpList_cput {w : World} {ops : Array Oper} {rest : List Oper} {o : Oper} {a : Act} {Q : Exit → Act → World → Prop}
    (hg : o.guard = none) (m x v : Operand) (hop : o.op = Op.mapUpdate 87 m x v) {b k : Nat} {c : Str → Int} (h : MapC w b k c) (hk : k < maxLen)
    (hm : a.eval m = .map (some b)) {s : Str} (hs : s.length ≤ maxLen) (hx : a.eval x = .string (ba s)) (u : Int) (hv : a.eval v = .int .i64 u) (hu : i64ok u)
    (hK : ∀ w', MapC w' b (k + 1) (setC c s u) → w.grownBy w' (some b) → w'.heap.size = w.heap.size → wpList Tryz.prog ops Q rest (a.put o.dst undef) w') : wpList Tryz.prog ops Q (o :: rest) a w := by
  obtain ⟨D, ⟨es, clock, hb, F, hsz, rfl⟩, h2⟩ := h
  have hM : Maps.IsMap (DataW.map ((es.toList.map (WideElems.rg Tryz.prog 9 (plainElem (H := Value) Tryz.prog 3))).foldr DataW.insert [])) := ⟨_, rfl⟩
  obtain ⟨es', clock', hrun, F', hput, _⟩ := Maps.fit_store (R' := plainElem (H := Value) Tryz.prog 3) keyedC Tryz.underlying87 hb F (Nat.lt_of_le_of_lt hsz hk) (fun _ _ _ _ hz => hz) (keyC hs) (plainElem_int Tryz.underlying3 hu)
  obtain ⟨w', hrun', hown, hgr⟩ := World.ownsMap.update (w := w) (n := k) ⟨es, clock, hb, F, hsz, rfl⟩ keyedC Tryz.underlying87 hk (keyC hs) (plainElem_int Tryz.underlying3 hu)
  have hsize : w'.heap.size = w.heap.size := by
    rw [hrun] at hrun'
    injection hrun' with _ hw
    rw [← hw]
    simp [setBlock]
  have h3 : MapC w' b (k + 1) (setC c s u) := ⟨_, hown, fun j => by
    unfold setC
    by_cases hj : j = s
    · subst hj
      rw [Maps.atKey_put_same hM (show WideAt.IsKeyLit (.string j) from trivial), if_pos rfl]
    · rw [Maps.atKey_put_other (by intro e; injection e with e; exact hj e), if_neg hj]
      exact h2 j⟩
  refine wpList_plain hg fun K' hK' => ?_
  unfold Oper.wp
  simp [execOp, hop, hm, hx, hv, hrun', Result.andThen]
  exact hK' _ _ (hK w' h3 hgr hsize)
end Go.Proofs.YtpooocfogpileaaGreat

/- What a list of labels has more than another one. -/
namespace Go.Proofs.YtpooocfogpileaaGreat
open Go.RowKit

/-- A label is taken away from the counts, or else put down. -/
def mStep (st : (Str → Int) × List Str) (x : Str) : (Str → Int) × List Str := if 0 < st.1 x then (setC st.1 x (st.1 x - 1), st.2) else (st.1, st.2 ++ [x])
def cntC (L : List Str) : Str → Int := fun s => (L.count s : Int)
def mAll (lb la : List Str) : (Str → Int) × List Str := la.foldl mStep (cntC lb, [])
/-- What la has more than lb. -/
def moreL (la lb : List Str) : List Str := (mAll lb la).2
theorem cntC_nil : cntC [] = fun _ => 0 := by funext s; simp [cntC]
theorem cntC_step (L : List Str) (k : Nat) (x : Str) (h : L[k]? = some x) : cntC (L.take (k + 1)) = setC (cntC (L.take k)) x (cntC (L.take k) x + 1) := by
  rw [take_step L k x h]
  funext s
  unfold cntC setC
  rw [List.count_append]
  by_cases hs : s = x
  · subst hs; simp
  · rw [if_neg hs]
    have : List.count s [x] = 0 := List.count_eq_zero.2 (by simpa using hs)
    show ((List.count s (L.take k) + List.count s [x] : Nat) : Int) = (List.count s (L.take k) : Int)
    omega
theorem cntC_le (L : List Str) (s : Str) : 0 ≤ cntC L s ∧ cntC L s ≤ L.length := by
  unfold cntC
  have := List.count_le_length (a := s) (l := L)
  omega
theorem mAll_step (lb la : List Str) (k : Nat) (x : Str) (h : la[k]? = some x) : mAll lb (la.take (k + 1)) = mStep (mAll lb (la.take k)) x := by
  unfold mAll
  rw [take_step la k x h, List.foldl_append]
  rfl
theorem mStep_ok (N : Int) (st : (Str → Int) × List Str) (x : Str) (h : ∀ s, 0 ≤ st.1 s ∧ st.1 s ≤ N) : ∀ s, 0 ≤ (mStep st x).1 s ∧ (mStep st x).1 s ≤ N := by
  intro s
  unfold mStep
  split
  · simp only [setC]
    have := h x
    have := h s
    split <;> omega
  · exact h s
theorem mStep_len (st : (Str → Int) × List Str) (x : Str) : (mStep st x).2.length ≤ st.2.length + 1 := by
  unfold mStep
  split <;> simp
theorem foldl_ok (N : Int) : ∀ (la : List Str) (st : (Str → Int) × List Str), (∀ s, 0 ≤ st.1 s ∧ st.1 s ≤ N) → ∀ s, 0 ≤ (la.foldl mStep st).1 s ∧ (la.foldl mStep st).1 s ≤ N
  | [], _, h => h
  | x :: r, st, h => foldl_ok N r _ (mStep_ok N st x h)
theorem foldl_len : ∀ (la : List Str) (st : (Str → Int) × List Str), (la.foldl mStep st).2.length ≤ st.2.length + la.length
  | [], _ => by simp
  | x :: r, st => by
    have h1 := foldl_len r (mStep st x)
    have h2 := mStep_len st x
    simp only [List.foldl_cons, List.length_cons]
    omega
theorem mAll_ok (lb la : List Str) (s : Str) : 0 ≤ (mAll lb la).1 s ∧ (mAll lb la).1 s ≤ lb.length := foldl_ok lb.length la _ (cntC_le lb) s
theorem mAll_len (lb la : List Str) : (mAll lb la).2.length ≤ la.length := by
  have := foldl_len la (cntC lb, [])
  simpa [mAll] using this
theorem moreL_len (la lb : List Str) : (moreL la lb).length ≤ la.length := mAll_len lb la
theorem info_strU : (Tryz.prog.info? 9).map (fun i => (i.zero, i.size, i.bytes)) = some (some (.string ⟨#[]⟩), 1, 16) := by kernel_rfl

set_option maxRecDepth 100000 in
set_option maxHeartbeats 4000000 in
theorem more_any (w : World) (va vb : Value) (la lb : List Str) (ha : StrR w va la) (hb : StrR w vb lb) (hsa : ∀ s ∈ la, s.length ≤ maxLen) (hsb : ∀ s ∈ lb, s.length ≤ maxLen) :
    Calls Tryz.prog 29 #[va, vb] w fun e w' => ∃ v', e = .returned v' ∧ OwnL w' w.heap.size v' (moreL la lb) ∧ Below w.heap.size w w' := by
  have hla := ha.2
  have hlb := hb.2
  obtain ⟨A, cA, rfl, hcA, hmA⟩ := ha.form
  obtain ⟨B, cB, rfl, hcB, hmB⟩ := hb.form
  have HVA := Lib.hid (fun (j : Nat) s (h : la[j]? = some s) => hmA j s h)
  have HVB := Lib.hid (fun (j : Nat) s (h : lb[j]? = some s) => hmB j s h)
  obtain ⟨NA, hNA⟩ : ∃ N, N = la.length := ⟨_, rfl⟩
  obtain ⟨NB, hNB⟩ : ∃ N, N = lb.length := ⟨_, rfl⟩
  have HNA := Lib.hid hNA
  have HNB := Lib.hid hNB
  have HSA := Lib.hid (fun (k : Nat) x (h : la[k]? = some x) => hsa x (List.mem_of_getElem? h))
  have HSB := Lib.hid (fun (k : Nat) x (h : lb[k]? = some x) => hsb x (List.mem_of_getElem? h))
  rw [← hNA] at hla hcA ⊢
  rw [← hNB] at hlb hcB ⊢
  clear hNA hNB ha hb hmA hmB hsa hsb
  obtain ⟨i0, hi, hz0, hz1, hz2⟩ := info_parts info_strU
  have hmm := @run_makeMap Tryz.prog
  go_enter Tryz.func29, Tryz.ntmps29
  go_wp2_with fail
  go_loopw [14] (fun i wr => ∃ k : Nat, k ≤ NB ∧ i = .int .i64 k ∧ MapC wr w.heap.size k (cntC (lb.take k)) ∧ Below w.heap.size w wr) (fun i _ => NB - (intOf i).toNat)
  case atStart => exact ⟨0, Nat.zero_le _, rfl, by rw [List.take_zero, cntC_nil]; exact MapC.made w, below_new w _⟩
  case round =>
    obtain ⟨k, hk, rfl, hM, hB⟩ := hrel
    have HB := Lib.hid hB
    by_cases hlt : k < NB
    · obtain ⟨x, hx⟩ : ∃ x, lb[k]? = some x := ⟨_, List.getElem?_eq_getElem (by have := HNB.out; omega)⟩
      obtain ⟨g, o, rfl, h6⟩ := HVB.out k x hx
      have z6 := (hB.cell (p := ⟨g, o + k, none⟩) (World.block_lt_of_cell? w _ h6)).trans h6
      have hs := HSB.out k x hx
      have hlk := hM.look hs
      have hcl := cntC_le (lb.take k) x
      have hst := cntC_step lb k x hx
      obtain ⟨n, hn⟩ : ∃ n, n = cntC (lb.take k) x := ⟨_, rfl⟩
      rw [← hn] at hlk hcl hst
      have HST := Lib.hid hst
      have hkl : (lb.take k).length ≤ k := by rw [List.length_take]; omega
      have hwr : IntKind.i64.wrap (n + 1) = n + 1 := IntWalk.i64_in _ (by omega)
      have hlti : (k : Int) < (NB : Int) := by omega
      have hkc : k < cB := by omega
      have hok : i64ok (n + 1) := i64ok_of (by omega) (by omega)
      have HOK := Lib.hid hok
      have HM := Lib.hid hM
      clear h6 hx hB hM hst hn hkl hok
      go_wp2_with (first | (at_mapUpdate; refine wpList_cput rfl (.tmp 18) (.tmp 19) (.tmp 21) rfl HM.out (by unfold maxLen; omega) rfl hs rfl (n + 1) rfl HOK.out ?_))
      intro w1 hM1 hg1 hz1
      rw [← HST.out] at hM1
      have HM1 := Lib.hid hM1
      have HB1 := Lib.hid (HB.out.grown hg1 HB.out.size (fun j hj => by cases hj; exact Nat.le_refl _))
      clear hM1 hg1 hz1 hlk
      go_wp2_with fail
      go_roundw
      case rel => exact ⟨k + 1, by omega, by simp, HM1.out, HB1.out⟩
      case measure => simp [intOf]; omega
    · obtain rfl : k = NB := by omega
      have hM2 : MapC wr w.heap.size k (mAll lb (la.take 0)).1 := by
        rw [HNB.out, List.take_length] at hM
        rw [← HNB.out] at hM
        exact hM
      have HM2 := Lib.hid hM2
      obtain ⟨wo, rfl⟩ : ∃ wo, wo = wr := ⟨_, rfl⟩
      clear hM hB hM2
      go_wp2_with fail
      go_loopw [25, 8] (fun i ov wr => ∃ (q : Nat) (A9 : Option Addr) (n9 c9 : Nat), q ≤ NA ∧ i = .int .i64 q ∧ ov = .slice A9 n9 c9 ∧ MapC wr w.heap.size (k + q) (mAll lb (la.take q)).1 ∧ OwnL wr (w.heap.size + 1) (.slice A9 n9 c9) (mAll lb (la.take q)).2 ∧ Below w.heap.size w wr) (fun i _ _ => NA - (intOf i).toNat)
      case atStart => exact ⟨0, none, 0, 0, Nat.zero_le _, rfl, rfl, HM2.out, World.ownsRow_nil _ _ _ _, HB.out⟩
      case round =>
        obtain ⟨q, A9, n9, c9, hq, rfl, rfl, hM, hO, hB⟩ := hrel
        have HB2 := Lib.hid hB
        have HM := Lib.hid hM
        have HO := Lib.hid hO
        by_cases hlt : q < NA
        · obtain ⟨x, hx⟩ : ∃ x, la[q]? = some x := ⟨_, List.getElem?_eq_getElem (by have := HNA.out; omega)⟩
          obtain ⟨g, o, rfl, h6⟩ := HVA.out q x hx
          have z6 := (hB.cell (p := ⟨g, o + q, none⟩) (World.block_lt_of_cell? w _ h6)).trans h6
          have hs := HSA.out q x hx
          have hlk := hM.look hs
          have hst := mAll_step lb la q x hx
          have hok := mAll_ok lb (la.take q) x
          have hln := mAll_len lb (la.take q)
          rw [← HNB.out] at hok
          have hln2 : (la.take q).length ≤ q := by rw [List.length_take]; omega
          obtain ⟨st, hste⟩ : ∃ st, st = mAll lb (la.take q) := ⟨_, rfl⟩
          rw [← hste] at hlk hst hok hln HM HO
          obtain ⟨n, hn⟩ : ∃ n, n = st.1 x := ⟨_, rfl⟩
          rw [← hn] at hlk hok
          have HST := Lib.hid hst
          have HN := Lib.hid hn
          have HLN := Lib.hid (show st.2.length ≤ 2000000 by omega)
          have hlti : (q : Int) < (NA : Int) := by omega
          have hqc : q < cA := by omega
          have hwr : IntKind.i64.wrap (n - 1) = n - 1 := IntWalk.i64_in _ (by omega)
          have HOK := Lib.hid (show i64ok (n - 1) from i64ok_of (by omega) (by omega))
          clear h6 hx hB hM hO hst hste hn hln hln2
          by_cases hpos : 0 < n
          · have hposd : decide (0 < n) = true := by simp [hpos]
            go_wp2_with (first | (at_mapUpdate; refine wpList_cput rfl (.tmp 33) (.tmp 34) (.tmp 36) rfl HM.out (by unfold maxLen; omega) rfl hs rfl (n - 1) rfl HOK.out ?_))
            intro w1 hM1 hg1 hz1
            have hst2 : mAll lb (la.take (q + 1)) = (setC st.1 x (n - 1), st.2) := by rw [HST.out]; unfold mStep; rw [← HN.out, if_pos hpos]
            have HS2 := Lib.hid hst2
            have HM1 := Lib.hid hM1
            have HB1 := Lib.hid (HB2.out.grown hg1 HB2.out.size (fun j hj => by cases hj; exact Nat.le_refl _))
            have HO1 := Lib.hid (own_same HO.out (w' := w1) (fun g hg hlt => hg1.block g hlt (fun e => by injection e with e; omega)))
            clear hM1 hg1 hz1 hst2 hlk
            go_wp2_with fail
            go_roundw
            case rel => exact ⟨q + 1, _, _, _, by omega, by simp, rfl, by rw [HS2.out]; exact HM1.out, by rw [HS2.out]; exact HO1.out, HB1.out⟩
            case measure => simp [intOf]; omega
          · have hposd : decide (0 < n) = false := by simp [hpos]
            have hbn := below_new wr (.cells #[.string (ba x)] 9)
            have hone : ∀ u ∈ [Value.string (ba x)], u.oneCell' = true := by simp [Value.oneCell']
            have HBN := Lib.hid hbn
            have hbsz := HB2.out.size
            have hmlt := HM.out.lt
            clear hbn
            go_wp2_with (first | (at_builtin; go_loud (refine wpList_append_own_at _ rfl (.tmp 37) (.tmp 39) 22 rfl (w.heap.size + 1) 9 i0 (.string ⟨#[]⟩) 1 16 Tryz.underlying22 hi hz0 hz1 hz2 rfl (by decide) _ st.2.length (st.2.map encS) rfl (own_later HO.out HBN.out) ⟨wr.heap.size, 0, none⟩ 1 1 [.string (ba x)] rfl rfl (new_cells wr _ _ rfl) hone (by have := HLN.out; unfold maxLen; omega) (by have := HLN.out; omega) (by simp; omega) ?_)))
            intro v' w1 hown hgr hnil hat
            obtain ⟨A8, n8, c8, rfl⟩ := own_slice hown
            have hst2 : mAll lb (la.take (q + 1)) = (st.1, st.2 ++ [x]) := by rw [HST.out]; unfold mStep; rw [← HN.out, if_neg (by omega)]
            have HS2 := Lib.hid hst2
            have hrow : ∀ k, Value.ownBlock (.slice A9 n9 c9) = some k → w.heap.size + 1 ≤ k := fun k hk => (own_block HO.out k hk).1
            have HM1 := Lib.hid ((HM.out.later HBN.out).keep (w' := w1) (hgr.block _ (by simp; omega) (fun e => by have := hrow _ e.symm; omega)))
            have HB1 := Lib.hid (Below.grown (HB2.out.trans (HBN.out.mono hbsz)) hgr (by simp; omega) (fun j hj => by have := hrow j hj; omega))
            have HO1 := Lib.hid hown
            clear hown hgr hnil hat hst2 hrow hlk
            go_wp2_with fail
            go_roundw
            case rel => exact ⟨q + 1, _, _, _, by omega, by simp, rfl, by rw [HS2.out]; exact HM1.out.mono (by omega), by rw [HS2.out]; unfold OwnL; rw [List.length_append, List.map_append]; exact HO1.out, HB1.out⟩
            case measure => simp [intOf]; omega
        · obtain rfl : q = NA := by omega
          rw [HNA.out, List.take_length] at hO
          clear hM HM HO
          have HO := Lib.hid hO
          clear hO
          go_wp2_with fail
          go_ret
          exact ⟨_, rfl, own_mono HO.out (by omega), HB2.out⟩
end Go.Proofs.YtpooocfogpileaaGreat
