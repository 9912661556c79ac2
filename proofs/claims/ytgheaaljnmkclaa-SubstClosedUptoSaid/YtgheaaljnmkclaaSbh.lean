/- What is said of a type, if that is a variable; of a row. -/
import Derived.Test.YtgheaaljnmkclaaSbg
import Derived.Outline
namespace Go.Proofs.Ytgheaaljnmkclaa
open Go.RowKit

theorem Sb.results_ct {P : Program} {fn : Func} {p q : Tmp} {ty : TypeId} (h : fn.results = #[.cell p ty, .tmp q]) (tmps : Array Value) (w : World) (g : Nat) (t : TypeId) (cs : Array Value) (fr : Nat × Nat) (d : TypeDesc)
    (hp : tmps.getD p undef = .pointer (some ⟨g, 0, none⟩)) (hg : w.heap[g]? = some (.cells cs t fr)) (hu : P.underlying ty = some d) (hd : (match d with | .struct _ | .array _ _ => true | _ => false) = true) (hi : (P.info? ty).map (·.size) = some cs.size)
    {a : Value} (hq : tmps.getD q undef = a) : (results fn tmps).run P w = .ok (.tuple #[.agg cs, a]) w := by
  have hp' : tmps[p]?.getD undef = .pointer (some ⟨g, 0, none⟩) := by simpa using hp
  have hq' : tmps[q]?.getD undef = a := by simpa using hq
  simp [results, h, hp', hq', asAddr, run_loadVar_row w g t ty cs fr d hg hu hd hi]
def zeroT : Array Value := #[.int .i64 0, .string ⟨#[]⟩, .int .i64 0, .slice none 0 0, .slice none 0 0, .int .i64 0]
def zeroR : Array Value := #[.slice none 0 0, .int .i64 0]
theorem ofT_said (w : World) (v : Value) (m : Nat) (g : GMap) (n : Int) (h : SaidV w 6 v m g) (hn : i64ok n) (hm : m ≤ 1000000) :
    Calls Try.prog 24 #[.agg #[v], .int .i64 n] w fun e w' => e = .returned (.tuple #[lookV (.agg zeroT) (g n), .bool (g n).isSome]) ∧ Below w.heap.size w w' := by
  obtain ⟨zs, h1, h2, h3, h4, h5⟩ := h
  have hc := ofT_any w (zs.attach.map fun z => (⟨z.1, h2 z.1 z.2⟩ : LyAt w 6)) v n hn (by rw [List.map_map]; have h6 := List.attach_map_subtype_val zs; rw [← h6, List.map_map] at h1; exact h1) (by simp; omega)
  have e : (zs.attach.map fun z => (⟨z.1, h2 z.1 z.2⟩ : LyAt w 6)).map (·.1) = zs := by rw [List.map_map]; exact List.attach_map_subtype_val zs
  rw [e, h5 n hn] at hc
  exact hc
theorem ofR_said (w : World) (v : Value) (m : Nat) (g : GMap) (n : Int) (h : SaidV w 2 v m g) (hn : i64ok n) (hm : m ≤ 1000000) :
    Calls Try.prog 25 #[.agg #[v], .int .i64 n] w fun e w' => e = .returned (.tuple #[lookV (.agg zeroR) (g n), .bool (g n).isSome]) ∧ Below w.heap.size w w' := by
  obtain ⟨zs, h1, h2, h3, h4, h5⟩ := h
  have hc := ofR_any w (zs.attach.map fun z => (⟨z.1, h2 z.1 z.2⟩ : LyAt w 2)) v n hn (by rw [List.map_map]; have h6 := List.attach_map_subtype_val zs; rw [← h6, List.map_map] at h1; exact h1) (by simp; omega)
  have e : (zs.attach.map fun z => (⟨z.1, h2 z.1 z.2⟩ : LyAt w 2)).map (·.1) = zs := by rw [List.map_map]; exact List.attach_map_subtype_val zs
  rw [e, h5 n hn] at hc
  exact hc
theorem SaidV.one {w : World} {k m : Nat} {v : Value} {g : GMap} (h : SaidV w k v m g) : ∃ A n c, v = .slice A n c := by
  obtain ⟨zs, h1, _⟩ := h
  rcases h1 with ⟨rfl, _⟩ | ⟨_, _, rfl, _⟩ <;> exact ⟨_, _, _, rfl⟩
/-- What is answered where something may be said of a variable. -/
def InsEnd (w : World) (o : Option Ty) (e : Ending) (w' : World) : Prop :=
  (match o with | some u => ∃ l, e = .returned (.tuple #[.agg l.toArray, .bool true]) ∧ TRV w' u l | none => e = .returned (.tuple #[.agg zeroT, .bool false])) ∧ Below w.heap.size w w'
/-- .. where what is said was read in an elder world. -/
def InsEndB (w0 w : World) (o : Option Ty) (e : Ending) (w' : World) : Prop :=
  (match o with | some u => ∃ l, e = .returned (.tuple #[.agg l.toArray, .bool true]) ∧ TRV w0 u l | none => e = .returned (.tuple #[.agg zeroT, .bool false])) ∧ Below w.heap.size w w'
set_option maxRecDepth 100000 in
set_option maxHeartbeats 4000000 in
theorem insTb_any (w0 wt w : World) (vt vr : Value) (m : Nat) (T : Int → Option Ty) (gt : GMap) (hst : SaidV w 6 vt m gt) (hsr : ∃ A n c, vr = .slice A n c) (htm : TM w0 T gt) (hm : m ≤ 1000000) (k : Int) (nm : Str) (v : Int) (kids : List Ty) (ls : List Str) (rv : Int) (l : List Value) (ht : TRV wt (.mk k nm v kids ls rv) l) :
    Calls Try.prog 40 #[.agg #[vt, vr], .agg l.toArray] w (InsEndB w0 w (insT T k v)) := by
  obtain ⟨kv, lv, rfl, hkv, hlv, hok, _⟩ := ht
  obtain ⟨A1, n1, c1, rfl⟩ := hst.one
  obtain ⟨A2, n2, c2, rfl⟩ := hsr
  obtain ⟨A3, n3, c3, rfl⟩ : ∃ A n c, kv = .slice A n c := by rcases hkv with ⟨rfl, _⟩ | ⟨_, _, rfl, _⟩ <;> exact ⟨_, _, _, rfl⟩
  obtain ⟨A4, n4, c4, rfl⟩ : ∃ A n c, lv = .slice A n c := by rcases hlv.1 with ⟨rfl, _⟩ | ⟨_, _, rfl, _⟩ <;> exact ⟨_, _, _, rfl⟩
  unfold tyC
  obtain ⟨W, hW⟩ : ∃ W, W = ((w.alloc (.cells #[.slice A1 n1 c1, .slice A2 n2 c2] 38)).alloc (.cells #[.int .i64 k, .string (ba nm), .int .i64 v, .slice A3 n3 c3, .slice A4 n4 c4, .int .i64 rv] 28)).alloc (.cells #[.int .i64 0, .string ⟨#[]⟩, .int .i64 0, .slice none 0 0, .slice none 0 0, .int .i64 0] 28) := ⟨_, rfl⟩
  have hb : Below w.heap.size w W := by rw [hW]; exact (((Below.refl _ w).alloc (Nat.le_refl _) _).alloc (by simp) _).alloc (by simp; omega) _
  have n2' : Lies W (w.heap.size + 2) 28 zeroT := by rw [hW]; exact Lies.new' _ _ _ (by simp)
  have hof := ofT_said W (.slice A1 n1 c1) m gt v (hst.keep hb.block) hok.2.1 hm
  have HW := Lib.hid hW
  have HB := Lib.hid hb
  have HN2 := Lib.hid n2'
  have HO := Lib.hid hof
  have HTM := Lib.hid htm
  have HOK := Lib.hid hok
  clear hof hW hb n2' hst htm hlv hkv hok
  by_cases h7 : k = 7
  · subst h7
    unfold zeroT at HN2
    have hsome : gt v = none ∨ ∃ cs, gt v = some cs := by cases gt v <;> simp
    go_enter Try.func40, Try.ntmps40
    go_wp2_with fail
    rw [← HW.out]
    refine HO.out.mono ?_
    rintro e w1 ⟨rfl, hb1⟩
    have n3' := HN2.out.later hb1
    have hb2 : Below w.heap.size w w1 := HB.out.trans (hb1.mono HB.out.size)
    have htv := HTM.out v HOK.out.2.1
    have hlt := HN2.out.lt
    rcases hsome with hg | ⟨cs, hg⟩
    · rw [hg]
      have hT : T v = none := by
        cases hT : T v with
        | none => rfl
        | some t => rw [hT] at htv; obtain ⟨l, h1, _⟩ := htv; rw [hg] at h1; cases h1
      have HT := Lib.hid hT
      have HB2 := Lib.hid hb2
      unfold zeroT lookV
      clear htv hg hT hb2
      go_wp2_with (first | (refine wpList_store_rowTo rfl 28 (.tmp 4) (.tmp 15) rfl rfl (w.heap.size + 2) zeroT rfl rfl 28 _ n3' (by rw [size_T]; rfl) rfl (by kernel_rfl) ?_))
      refine bodyPost_ret (Sb.results_ct rfl _ _ (w.heap.size + 2) 28 zeroT (0, 0) _ rfl (Sb.setRow_at n3' _) Try.underlying28 rfl (by rw [size_T]; rfl) rfl) rfl ?_
      unfold InsEndB insT
      rw [if_pos rfl, HT.out]
      exact ⟨rfl, Sb.below_setRow HB2.out (by omega) _⟩
    · rw [hg]
      cases hT : T v with
      | none => rw [hT] at htv; rw [hg] at htv; cases htv
      | some t =>
        rw [hT] at htv
        obtain ⟨l, h1, h2⟩ := htv
        rw [hg] at h1
        injection h1 with h1
        subst h1
        have hfit := h2.fit
        have hsc := hfit.1
        have hoc := hfit.2
        have HT := Lib.hid hT
        have HB2 := Lib.hid hb2
        have H2 := Lib.hid h2
        unfold lookV
        clear hg hT hb2 h2 hfit
        go_wp2_with (first | (refine wpList_store_rowTo rfl 28 (.tmp 4) (.tmp 15) rfl rfl (w.heap.size + 2) l.toArray rfl rfl 28 _ n3' (by rw [size_T, hsc]) (by rw [hsc]; rfl) hoc ?_))
        refine bodyPost_ret (Sb.results_ct rfl _ _ (w.heap.size + 2) 28 l.toArray (0, 0) _ rfl (Sb.setRow_at n3' _) Try.underlying28 rfl (by rw [size_T, hsc]) rfl) rfl ?_
        unfold InsEndB insT
        rw [if_pos rfl, HT.out]
        have hbs := Sb.below_setRow HB2.out (by omega : w.heap.size ≤ w.heap.size + 2) l.toArray
        exact ⟨⟨l, rfl, H2.out⟩, hbs⟩
  · have h7' : (k == 7) = false := by simp [h7]
    unfold zeroT at HN2
    have n3' := HN2.out
    go_enter Try.func40, Try.ntmps40
    go_wp2_with fail
    rw [← HW.out]
    refine bodyPost_ret (Sb.results_ct rfl _ _ (w.heap.size + 2) 28 zeroT (0, 0) _ rfl n3' Try.underlying28 rfl (by rw [size_T]; rfl) rfl) rfl ?_
    unfold InsEndB insT
    rw [if_neg h7]
    exact ⟨rfl, HB.out⟩
theorem insT_any (w : World) (sv : Value) (m : Nat) (T : Int → Option Ty) (R : Int → Option (List Str × Int)) (hs : SubV w sv m T R) (hm : m ≤ 1000000) (k : Int) (nm : Str) (v : Int) (kids : List Ty) (ls : List Str) (rv : Int) (l : List Value) (ht : TRV w (.mk k nm v kids ls rv) l) :
    Calls Try.prog 40 #[sv, .agg l.toArray] w (InsEnd w (insT T k v)) := by
  obtain ⟨vt, vr, gt, gr, rfl, hst, hsr, htm, hrm⟩ := hs
  refine (insTb_any w w w vt vr m T gt hst hsr.one htm hm k nm v kids ls rv l ht).mono fun e w' h => ?_
  obtain ⟨h1, h2⟩ := h
  refine ⟨?_, h2⟩
  cases hi : insT T k v with
  | none => rw [hi] at h1; exact h1
  | some u =>
    rw [hi] at h1
    obtain ⟨l, h3, h4⟩ := h1
    exact ⟨l, h3, h4.later h2⟩
end Go.Proofs.Ytgheaaljnmkclaa
