/- Package scheme: a list without what is in a set; a list with each number once. -/
import Derived.Test.YtclaabnjokkbjaaMg08
import Derived.Test.YtclaabnjokkbjaaMg06
import Derived.OwnWalk
import Derived.Outline
import Derived.Deep.RegionHeld3
namespace Go.Proofs.Ytclaabnjokkbjaa
open Go.RowKit

theorem info_intS : (Try.prog.info? 3).map (fun i => (i.zero, i.size, i.bytes)) = some (some (.int .i64 0), 1, 8) := by kernel_rfl
/-- A list of numbers of the call's own. -/
abbrev OwnI (w : World) (B : Nat) (v : Value) (L : List Int) : Prop := w.ownsRow B 3 1 v L.length (L.map fun i => .int .i64 i)
/-- A list without what is in another one. -/
def lessL (R L : List Int) : List Int := R.filter fun n => decide (n ∉ L)
theorem lessL_step (R L : List Int) (k : Nat) (x : Int) (h : R[k]? = some x) : lessL (R.take (k + 1)) L = if x ∈ L then lessL (R.take k) L else lessL (R.take k) L ++ [x] := by
  unfold lessL
  rw [take_step R k x h, List.filter_append]
  by_cases hx : x ∈ L <;> simp [hx]
theorem lessL_len (R L : List Int) : (lessL R L).length ≤ R.length := List.length_filter_le _ _
/-- A list with each number once. -/
def onceL (R : List Int) : List Int := R.foldl (fun l n => if n ∈ l then l else l ++ [n]) []
theorem onceL_step (R : List Int) (k : Nat) (x : Int) (h : R[k]? = some x) : onceL (R.take (k + 1)) = if x ∈ onceL (R.take k) then onceL (R.take k) else onceL (R.take k) ++ [x] := by
  unfold onceL
  rw [take_step R k x h, List.foldl_append]
  rfl
theorem onceF_len : ∀ (R l : List Int), (R.foldl (fun l n => if n ∈ l then l else l ++ [n]) l).length ≤ l.length + R.length
  | [], l => by simp
  | x :: R, l => by
    have h1 := onceF_len R (if x ∈ l then l else l ++ [x])
    simp only [List.foldl_cons, List.length_cons]
    split at h1 <;> simp_all <;> omega
theorem onceL_len (R : List Int) : (onceL R).length ≤ R.length := by
  have := onceF_len R []
  simpa [onceL] using this

set_option maxRecDepth 100000 in
set_option maxHeartbeats 4000000 in
theorem without_any (w : World) (b m : Nat) (L R : List Int) (v : Value) (h : MapI w 0 b m (inG L)) (hr : IntR w v R) (hm : R.length ≤ 100000000) :
    Calls Try.prog 48 #[v, .map (some b)] w fun e w' => ∃ v', e = .returned v' ∧ OwnI w' w.heap.size v' (lessL R L) ∧ Below w.heap.size w w' := by
  obtain ⟨A, cA, rfl, hcA, hmA, h4⟩ := hr
  obtain ⟨i0, hi, hz0, hz1, hz2⟩ := info_parts info_intS
  obtain ⟨NA, hNA⟩ : ∃ N, N = R.length := ⟨_, rfl⟩
  have HNA := Lib.hid hNA
  have HV := Lib.hid h4
  have H0 := Lib.hid h
  have hM := hm
  rw [← hNA] at hcA hm ⊢
  clear hNA h4 h
  go_enter Try.func48, Try.ntmps48
  go_wp2_with fail
  go_loopw [10, 5] (fun i ov wr => ∃ (k : Nat) (A9 : Option Addr) (n9 c9 : Nat), k ≤ NA ∧ i = .int .i64 k ∧ ov = .slice A9 n9 c9 ∧ OwnI wr w.heap.size (.slice A9 n9 c9) (lessL (R.take k) L) ∧ Below w.heap.size w wr) (fun i _ _ => NA - (intOf i).toNat)
  case atStart => exact ⟨0, none, 0, 0, Nat.zero_le _, rfl, rfl, World.ownsRow_nil _ _ _ _, Below.refl _ w⟩
  case round =>
    obtain ⟨k, A9, n9, c9, hk, rfl, rfl, hO, hB⟩ := hrel
    have HB := Lib.hid hB
    have HO := Lib.hid hO
    by_cases hlt : k < NA
    · obtain ⟨x, hx⟩ : ∃ x, R[k]? = some x := ⟨_, List.getElem?_eq_getElem (by have := HNA.out; omega)⟩
      obtain ⟨hok, g, o, rfl, h6⟩ := HV.out k x hx
      have z6 := (hB.cell (p := ⟨g, o + k, none⟩) (World.block_lt_of_cell? w _ h6)).trans h6
      have hst := lessL_step R L k x hx
      have hln := lessL_len (R.take k) L
      have hln2 : (R.take k).length ≤ k := by rw [List.length_take]; omega
      have HLN := Lib.hid (show (lessL (R.take k) L).length ≤ 100000000 by omega)
      have HST := Lib.hid hst
      have hlti : (k : Int) < (NA : Int) := by omega
      have hkc : k < cA := by omega
      have hc := has_any wr b m L x (H0.out.keep (hB.block b H0.out.lt)) hok
      have HC := Lib.hid hc
      clear h6 hx hB hO hst hln hln2 hok hc
      go_wp2_with fail
      refine HC.out.mono ?_
      rintro e w1 ⟨rfl, hb1⟩
      have HB1 := Lib.hid (HB.out.trans (hb1.mono HB.out.size))
      have HO1 := Lib.hid (own_later HO.out hb1)
      have hs1 : w.heap.size ≤ w1.heap.size := Nat.le_trans HB.out.size hb1.size
      clear hb1
      by_cases hin : x ∈ L
      · have hd : decide (x ∈ L) = true := by simp [hin]
        have HS2 := Lib.hid (show lessL (R.take (k + 1)) L = lessL (R.take k) L by rw [HST.out, if_pos hin])
        rw [hd]
        clear hd
        go_wp2_with fail
        go_roundw
        case rel => exact ⟨k + 1, _, _, _, by omega, by simp, rfl, by rw [HS2.out]; exact HO1.out, HB1.out⟩
        case measure => simp [intOf]; omega
      · have hd : decide (x ∈ L) = false := by simp [hin]
        have HS2 := Lib.hid (show lessL (R.take (k + 1)) L = lessL (R.take k) L ++ [x] by rw [HST.out, if_neg hin])
        have hone : ∀ u ∈ [Value.int .i64 x], u.oneCell' = true := by simp [Value.oneCell']
        have HBN := Lib.hid (below_new w1 (.cells #[.int .i64 x] 3))
        rw [hd]
        clear hd
        go_wp2_with (first | (at_builtin; go_loud (refine wpList_append_own_at _ rfl (.tmp 18) (.tmp 20) 39 rfl w.heap.size 3 i0 (.int .i64 0) 1 8 Try.underlying39 hi hz0 hz1 hz2 rfl (by decide) _ (lessL (R.take k) L).length ((lessL (R.take k) L).map fun i => .int .i64 i) rfl (own_later HO1.out HBN.out) ⟨w1.heap.size, 0, none⟩ 1 1 [.int .i64 x] rfl rfl (new_cells w1 _ _ rfl) hone (by have := HLN.out; unfold maxLen; omega) (by have := HLN.out; omega) (by simp; omega) ?_)))
        intro v' w2 hown hgr hnil hat
        obtain ⟨A8, n8, c8, rfl⟩ := own_slice hown
        have hrow : ∀ k, Value.ownBlock (.slice A9 n9 c9) = some k → w.heap.size ≤ k := fun k hk => (own_block HO1.out k hk).1
        have HB2 := Lib.hid (Below.grown (HB1.out.trans (HBN.out.mono hs1)) hgr (by simp; omega) (fun j hj => by have := hrow j hj; omega))
        have HO2 := Lib.hid hown
        clear hown hgr hnil hat hrow
        go_wp2_with fail
        go_roundw
        case rel => exact ⟨k + 1, _, _, _, by omega, by simp, rfl, by rw [HS2.out]; unfold OwnI; rw [List.length_append, List.map_append]; exact HO2.out, HB2.out⟩
        case measure => simp [intOf]; omega
    · obtain rfl : k = NA := by omega
      rw [HNA.out, List.take_length] at hO
      clear HO
      have HO := Lib.hid hO
      clear hO hB
      go_wp2_with fail
      go_ret
      exact ⟨_, rfl, HO.out, HB.out⟩
end Go.Proofs.Ytclaabnjokkbjaa

/- copiedRow, and what is said of a type or a row. -/
namespace Go.Proofs.Ytclaabnjokkbjaa
open Go.RowKit

theorem encS_one (ls : List Str) : ∀ q ∈ ls.map encS, q.oneCell' = true := by
  intro q hq
  obtain ⟨s, _, rfl⟩ := List.mem_map.1 hq
  rfl
/-- The labels in a row of the call's own. -/
def OwnL (w : World) (B : Nat) (v : Value) (ls : List Str) : Prop := w.ownsRow B 9 1 v ls.length (ls.map encS)
theorem OwnL.str {w : World} {B : Nat} {v : Value} {ls : List Str} (h : OwnL w B v ls) (hb : ls.length ≤ 2000000) : StrR w v ls := ⟨own_row_src h, hb⟩
theorem concat1_any (lv : Value) (ls : List Str) (w w' : World) (hv : StrR w lv ls) (hb : Below w.heap.size w w') (b : Nat) (hl : Lies w' b 24 #[lv]) :
    Calls Try.prog 56 #[.slice (some ⟨b, 0, none⟩) 1 1] w' fun e w2 => ∃ v, e = .returned v ∧ OwnL w2 w'.heap.size v ls ∧ Below w'.heap.size w' w2 := by
  have hlen := hv.2
  refine (concatS_any [(lv, ls.map encS)] b 1 w' hl (Nat.le_refl 1) (fun p hp => ?_) (fun p hp => ?_) (by simp; omega) (by simp)).mono ?_
  · rw [List.mem_singleton.1 hp]
    exact hv.1.later hb
  · rw [List.mem_singleton.1 hp]
    exact encS_one ls
  · rintro e w2 ⟨v, rfl, ho, hb2⟩
    refine ⟨v, rfl, ?_, hb2⟩
    simp at ho
    unfold OwnL
    simpa using ho
set_option maxRecDepth 100000 in
set_option maxHeartbeats 4000000 in
theorem copiedRow_any (lv : Value) (ls : List Str) (rv : Int) (w : World) (hv : StrR w lv ls) :
    Calls Try.prog 35 #[.agg #[lv, .int .i64 rv]] w fun e w' => ∃ v', e = .returned (.agg #[v', .int .i64 rv]) ∧ OwnL w' w.heap.size v' ls ∧ Below w.heap.size w w' := by
  have hb1 := below_new w (.cells #[lv, .int .i64 rv] 26)
  have hb2 := hb1.alloc (by simp) (.cells #[.slice none 0 0, .int .i64 0] 26)
  have n0 := (Lies.new w 26 #[lv, .int .i64 rv]).alloc (.cells #[.slice none 0 0, .int .i64 0] 26)
  have n1 := Lies.new' (w.alloc (.cells #[lv, .int .i64 rv] 26)) 26 #[.slice none 0 0, .int .i64 0] (N := w.heap.size + 1) (by simp)
  have hco := concat1_any lv ls w
  have HC := Lib.hid hco
  have HV := Lib.hid hv
  obtain ⟨A, n, c, rfl⟩ : ∃ A n c, lv = .slice A n c := by rcases hv.1 with ⟨rfl, _⟩ | ⟨_, _, rfl, _⟩ <;> exact ⟨_, _, _, rfl⟩
  clear hco hv
  go_enter Try.func35, Try.ntmps35
  obtain ⟨W, hW⟩ : ∃ W, W = (w.alloc (.cells #[.slice A n c, .int .i64 rv] 26)).alloc (.cells #[.slice none 0 0, .int .i64 0] 26) := ⟨_, rfl⟩
  go_wp2
  rw [← hW] at n0 n1 hb2 ⊢
  have c0 := n0.cell 0
  have c1 := n0.cell 1
  have HN1 := Lib.hid n1
  have HN0 := Lib.hid n0
  have HB2 := Lib.hid hb2
  clear hW n1 hb1 hb2 n0
  have hS : W.cell? ⟨w.heap.size, 0, none⟩ = some (.slice A n c) ∧ W.cell? ⟨w.heap.size, 1, none⟩ = some (.int .i64 rv) ∧ Below w.heap.size w W := ⟨c0, c1, HB2.out⟩
  have hk : ∀ v v' : World, (v.cell? ⟨w.heap.size, 0, none⟩ = some (.slice A n c) ∧ v.cell? ⟨w.heap.size, 1, none⟩ = some (.int .i64 rv) ∧ Below w.heap.size w v) → v'.heap[w.heap.size]? = v.heap[w.heap.size]? → Below w.heap.size v v' → (v'.cell? ⟨w.heap.size, 0, none⟩ = some (.slice A n c) ∧ v'.cell? ⟨w.heap.size, 1, none⟩ = some (.int .i64 rv) ∧ Below w.heap.size w v') := fun v v' h hb hb2 => by
    exact ⟨(World.cell?_of_block (w := v) (a := ⟨w.heap.size, 0, none⟩) hb).trans h.1, (World.cell?_of_block (w := v) (a := ⟨w.heap.size, 1, none⟩) hb).trans h.2.1, h.2.2.trans hb2⟩
  have HK := Lib.hid hk
  clear hk
  have hltW := HN0.out.lt
  have hbB : Below W.heap.size W (W.alloc (.cells #[.slice A n c] 24)).drew := (below_new W _).drew
  have hlB : Lies (W.alloc (.cells #[.slice A n c] 24)).drew W.heap.size 24 #[.slice A n c] := Lies.new W _ _
  have hcc := HC.out (W.alloc (.cells #[.slice A n c] 24)).drew HV.out ((HB2.out.trans (hbB.mono HB2.out.size))) W.heap.size hlB
  have HCC := Lib.hid hcc
  have hsB : W.heap.size ≤ (W.alloc (.cells #[.slice A n c] 24)).drew.heap.size := hbB.size
  clear hcc
  go_region_held3 (fun w' => w'.cell? ⟨w.heap.size, 0, none⟩ = some (.slice A n c) ∧ w'.cell? ⟨w.heap.size, 1, none⟩ = some (.int .i64 rv) ∧ Below w.heap.size w w')
    (first | exact HK.out _ _ hS rfl (Below.refl _ _).drew | exact HK.out _ _ hS (hbB.block _ hltW) (hbB.mono HB2.out.size) | exact HK.out _ _ hS (hb5.block _ hltW) (hb5.mono HB2.out.size) | exact HK.out _ _ hS ((q6.block _ (Nat.lt_succ_self _)).trans (hb5.block _ hltW)) ((hb5.mono HB2.out.size).trans (q6.mono (Nat.le_succ _))))
    (first | (go_at_call 56; refine HCC.out.mono ?_; rintro e w5 ⟨v', rfl, ho, hb4⟩; have HO := Lib.hid ho; obtain ⟨A2, k2, c2, rfl⟩ := own_slice ho; clear ho; have hb5 : Below W.heap.size W w5 := hbB.trans (hb4.mono hsB); have n5 := HN1.out.later hb5; have d0 := n5.cell 0; have d1 := n5.cell 1; have e0 := n5.free 0; have e1 := n5.free 1; have l5 := n5.lt; have q6 : Below (w.heap.size + 1) w5 ((w5.setCell ⟨w.heap.size + 1, 0, none⟩ (.slice A2 k2 c2)).setCell ⟨w.heap.size + 1, 1, none⟩ (.int .i64 rv)) := ((Below.refl _ _).setCell (p := ⟨w.heap.size + 1, 0, none⟩) (Nat.le_refl _) _).setCell (p := ⟨w.heap.size + 1, 1, none⟩) (Nat.le_refl _) _))
  have n6 := (n5.set 0 (.slice A2 k2 c2)).set 1 (.int .i64 rv)
  go_wp2
  refine bodyPost_ret (v := .agg #[.slice A2 k2 c2, .int .i64 rv]) (results_cell_row rfl _ _ (w.heap.size + 1) 26 _ (0, 0) _ rfl n6 Try.underlying26 rfl size_R) rfl ?_
  refine ⟨_, rfl, ?_, ((HB2.out.trans (hb5.mono HB2.out.size)).trans (q6.mono (Nat.le_succ _)))⟩
  have hWs := HB2.out.size
  refine own_mono (own_same HO.out fun g hg hlt => ?_) (by omega)
  have hne : g ≠ w.heap.size + 1 := by have := HN1.out.lt; omega
  exact (Below.heap_setCell _ ⟨w.heap.size + 1, 1, none⟩ _ g hne).trans (Below.heap_setCell _ ⟨w.heap.size + 1, 0, none⟩ _ g hne)
end Go.Proofs.Ytclaabnjokkbjaa

/- What is said of a type, if that is a variable; of a row. -/
namespace Go.Proofs.Ytclaabnjokkbjaa
open Go.RowKit

theorem Sb.results_ct {P : Program} {fn : Func} {p q : Tmp} {ty : TypeId} (h : fn.results = #[.cell p ty, .tmp q]) (tmps : Array Value) (w : World) (g : Nat) (t : TypeId) (cs : Array Value) (fr : Nat × Nat) (d : TypeDesc)
    (hp : tmps.getD p undef = .pointer (some ⟨g, 0, none⟩)) (hg : w.heap[g]? = some (.cells cs t fr)) (hu : P.underlying ty = some d) (hd : (match d with | .struct _ | .array _ _ => true | _ => false) = true) (hi : (P.info? ty).map (·.size) = some cs.size)
    {a : Value} (hq : tmps.getD q undef = a) : (results fn tmps).run P w = .ok (.tuple #[.agg cs, a]) w := by
  have hp' : tmps[p]?.getD undef = .pointer (some ⟨g, 0, none⟩) := by simpa using hp
  have hq' : tmps[q]?.getD undef = a := by simpa using hq
  simp [results, h, hp', hq', asAddr, run_loadVar_row w g t ty cs fr d hg hu hd hi]
def zeroT : Array Value := #[.int .i64 0, .string ⟨#[]⟩, .int .i64 0, .slice none 0 0, .slice none 0 0, .int .i64 0]
def zeroR : Array Value := #[.slice none 0 0, .int .i64 0]
theorem ofT_said (w : World) (v : Value) (m : Nat) (g : GMap) (n : Int) (h : SaidV w 6 v m g) (hn : i64ok n) (hm : m ≤ 1000000) :
    Calls Try.prog 36 #[.agg #[v], .int .i64 n] w fun e w' => e = .returned (.tuple #[lookV (.agg zeroT) (g n), .bool (g n).isSome]) ∧ Below w.heap.size w w' := by
  obtain ⟨zs, h1, h2, h3, h4, h5⟩ := h
  have hc := ofT_any w (zs.attach.map fun z => (⟨z.1, h2 z.1 z.2⟩ : LyAt w 6)) v n hn (by rw [List.map_map]; have h6 := List.attach_map_subtype_val zs; rw [← h6, List.map_map] at h1; exact h1) (by simp; omega)
  have e : (zs.attach.map fun z => (⟨z.1, h2 z.1 z.2⟩ : LyAt w 6)).map (·.1) = zs := by rw [List.map_map]; exact List.attach_map_subtype_val zs
  rw [e, h5 n hn] at hc
  exact hc
theorem ofR_said (w : World) (v : Value) (m : Nat) (g : GMap) (n : Int) (h : SaidV w 2 v m g) (hn : i64ok n) (hm : m ≤ 1000000) :
    Calls Try.prog 37 #[.agg #[v], .int .i64 n] w fun e w' => e = .returned (.tuple #[lookV (.agg zeroR) (g n), .bool (g n).isSome]) ∧ Below w.heap.size w w' := by
  obtain ⟨zs, h1, h2, h3, h4, h5⟩ := h
  have hc := ofR_any w (zs.attach.map fun z => (⟨z.1, h2 z.1 z.2⟩ : LyAt w 2)) v n hn (by rw [List.map_map]; have h6 := List.attach_map_subtype_val zs; rw [← h6, List.map_map] at h1; exact h1) (by simp; omega)
  have e : (zs.attach.map fun z => (⟨z.1, h2 z.1 z.2⟩ : LyAt w 2)).map (·.1) = zs := by rw [List.map_map]; exact List.attach_map_subtype_val zs
  rw [e, h5 n hn] at hc
  exact hc
theorem SaidV.one {w : World} {k m : Nat} {v : Value} {g : GMap} (h : SaidV w k v m g) : ∃ A n c, v = .slice A n c := by
  obtain ⟨zs, h1, _⟩ := h
  rcases h1 with ⟨rfl, _⟩ | ⟨_, _, rfl, _⟩ <;> exact ⟨_, _, _, rfl⟩
/-- What is answered where something may be said of a variable. -/
def InsEnd (w : World) (o : Option Ty) (e : Ending) (w' : World) : Prop :=
  (match o with | some u => ∃ l, e = .returned (.tuple #[.agg l.toArray, .bool true]) ∧ TRV w' u l | none => e = .returned (.tuple #[.agg zeroT, .bool false])) ∧ Below w.heap.size w w'
/-- .. where what is said was read in an elder world. -/
def InsEndB (w0 w : World) (o : Option Ty) (e : Ending) (w' : World) : Prop :=
  (match o with | some u => ∃ l, e = .returned (.tuple #[.agg l.toArray, .bool true]) ∧ TRV w0 u l | none => e = .returned (.tuple #[.agg zeroT, .bool false])) ∧ Below w.heap.size w w'
set_option maxRecDepth 100000 in
set_option maxHeartbeats 4000000 in
theorem insTb_any (w0 wt w : World) (vt vr : Value) (m : Nat) (T : Int → Option Ty) (gt : GMap) (hst : SaidV w 6 vt m gt) (hsr : ∃ A n c, vr = .slice A n c) (htm : TM w0 T gt) (hm : m ≤ 1000000) (k : Int) (nm : Str) (v : Int) (kids : List Ty) (ls : List Str) (rv : Int) (l : List Value) (ht : TRV wt (.mk k nm v kids ls rv) l) :
    Calls Try.prog 60 #[.agg #[vt, vr], .agg l.toArray] w (InsEndB w0 w (insT T k v)) := by
  obtain ⟨kv, lv, rfl, hkv, hlv, hok, _⟩ := ht
  obtain ⟨A1, n1, c1, rfl⟩ := hst.one
  obtain ⟨A2, n2, c2, rfl⟩ := hsr
  obtain ⟨A3, n3, c3, rfl⟩ : ∃ A n c, kv = .slice A n c := by rcases hkv with ⟨rfl, _⟩ | ⟨_, _, rfl, _⟩ <;> exact ⟨_, _, _, rfl⟩
  obtain ⟨A4, n4, c4, rfl⟩ : ∃ A n c, lv = .slice A n c := by rcases hlv.1 with ⟨rfl, _⟩ | ⟨_, _, rfl, _⟩ <;> exact ⟨_, _, _, rfl⟩
  unfold tyC
  obtain ⟨W, hW⟩ : ∃ W, W = ((w.alloc (.cells #[.slice A1 n1 c1, .slice A2 n2 c2] 38)).alloc (.cells #[.int .i64 k, .string (ba nm), .int .i64 v, .slice A3 n3 c3, .slice A4 n4 c4, .int .i64 rv] 28)).alloc (.cells #[.int .i64 0, .string ⟨#[]⟩, .int .i64 0, .slice none 0 0, .slice none 0 0, .int .i64 0] 28) := ⟨_, rfl⟩
  have hb : Below w.heap.size w W := by rw [hW]; exact (((Below.refl _ w).alloc (Nat.le_refl _) _).alloc (by simp) _).alloc (by simp; omega) _
  have n2' : Lies W (w.heap.size + 2) 28 zeroT := by rw [hW]; exact Lies.new' _ _ _ (by simp)
  have hof := ofT_said W (.slice A1 n1 c1) m gt v (hst.keep hb.block) hok.2.1 hm
  have HW := Lib.hid hW
  have HB := Lib.hid hb
  have HN2 := Lib.hid n2'
  have HO := Lib.hid hof
  have HTM := Lib.hid htm
  have HOK := Lib.hid hok
  clear hof hW hb n2' hst htm hlv hkv hok
  by_cases h7 : k = 7
  · subst h7
    unfold zeroT at HN2
    have hsome : gt v = none ∨ ∃ cs, gt v = some cs := by cases gt v <;> simp
    go_enter Try.func60, Try.ntmps60
    go_wp2_with fail
    rw [← HW.out]
    refine HO.out.mono ?_
    rintro e w1 ⟨rfl, hb1⟩
    have n3' := HN2.out.later hb1
    have hb2 : Below w.heap.size w w1 := HB.out.trans (hb1.mono HB.out.size)
    have htv := HTM.out v HOK.out.2.1
    have hlt := HN2.out.lt
    rcases hsome with hg | ⟨cs, hg⟩
    · rw [hg]
      have hT : T v = none := by
        cases hT : T v with
        | none => rfl
        | some t => rw [hT] at htv; obtain ⟨l, h1, _⟩ := htv; rw [hg] at h1; cases h1
      have HT := Lib.hid hT
      have HB2 := Lib.hid hb2
      unfold zeroT lookV
      clear htv hg hT hb2
      go_wp2_with (first | (refine wpList_store_rowTo rfl 28 (.tmp 4) (.tmp 15) rfl rfl (w.heap.size + 2) zeroT rfl rfl 28 _ n3' (by rw [size_T]; rfl) rfl (by kernel_rfl) ?_))
      refine bodyPost_ret (Sb.results_ct rfl _ _ (w.heap.size + 2) 28 zeroT (0, 0) _ rfl (Sb.setRow_at n3' _) Try.underlying28 rfl (by rw [size_T]; rfl) rfl) rfl ?_
      unfold InsEndB insT
      rw [if_pos rfl, HT.out]
      exact ⟨rfl, Sb.below_setRow HB2.out (by omega) _⟩
    · rw [hg]
      cases hT : T v with
      | none => rw [hT] at htv; rw [hg] at htv; cases htv
      | some t =>
        rw [hT] at htv
        obtain ⟨l, h1, h2⟩ := htv
        rw [hg] at h1
        injection h1 with h1
        subst h1
        have hfit := h2.fit
        have hsc := hfit.1
        have hoc := hfit.2
        have HT := Lib.hid hT
        have HB2 := Lib.hid hb2
        have H2 := Lib.hid h2
        unfold lookV
        clear hg hT hb2 h2 hfit
        go_wp2_with (first | (refine wpList_store_rowTo rfl 28 (.tmp 4) (.tmp 15) rfl rfl (w.heap.size + 2) l.toArray rfl rfl 28 _ n3' (by rw [size_T, hsc]) (by rw [hsc]; rfl) hoc ?_))
        refine bodyPost_ret (Sb.results_ct rfl _ _ (w.heap.size + 2) 28 l.toArray (0, 0) _ rfl (Sb.setRow_at n3' _) Try.underlying28 rfl (by rw [size_T, hsc]) rfl) rfl ?_
        unfold InsEndB insT
        rw [if_pos rfl, HT.out]
        have hbs := Sb.below_setRow HB2.out (by omega : w.heap.size ≤ w.heap.size + 2) l.toArray
        exact ⟨⟨l, rfl, H2.out⟩, hbs⟩
  · have h7' : (k == 7) = false := by simp [h7]
    unfold zeroT at HN2
    have n3' := HN2.out
    go_enter Try.func60, Try.ntmps60
    go_wp2_with fail
    rw [← HW.out]
    refine bodyPost_ret (Sb.results_ct rfl _ _ (w.heap.size + 2) 28 zeroT (0, 0) _ rfl n3' Try.underlying28 rfl (by rw [size_T]; rfl) rfl) rfl ?_
    unfold InsEndB insT
    rw [if_neg h7]
    exact ⟨rfl, HB.out⟩
theorem insT_any (w : World) (sv : Value) (m : Nat) (T : Int → Option Ty) (R : Int → Option (List Str × Int)) (hs : SubV w sv m T R) (hm : m ≤ 1000000) (k : Int) (nm : Str) (v : Int) (kids : List Ty) (ls : List Str) (rv : Int) (l : List Value) (ht : TRV w (.mk k nm v kids ls rv) l) :
    Calls Try.prog 60 #[sv, .agg l.toArray] w (InsEnd w (insT T k v)) := by
  obtain ⟨vt, vr, gt, gr, rfl, hst, hsr, htm, hrm⟩ := hs
  refine (insTb_any w w w vt vr m T gt hst hsr.one htm hm k nm v kids ls rv l ht).mono fun e w' h => ?_
  obtain ⟨h1, h2⟩ := h
  refine ⟨?_, h2⟩
  cases hi : insT T k v with
  | none => rw [hi] at h1; exact h1
  | some u =>
    rw [hi] at h1
    obtain ⟨l, h3, h4⟩ := h1
    exact ⟨l, h3, h4.later h2⟩
end Go.Proofs.Ytclaabnjokkbjaa
