/- Two places, of which the one is the call's own and the other came in, are held against each other. -/
import Derived.Test.YtpbhndmfmnfeoaaGreatMg22
import Derived.Test.YtpbhndmfmnfeoaaGreatRwa
import Derived.Test.YtpbhndmfmnfeoaaGreatSbn
import Derived.StillTailTactics
import Derived.LoopTactic
import Derived.Deep.LoopGhost
import Derived.Deep.RegionHeld3
import Derived.Deep.AppendLies
import Derived.Outline
namespace Go.Proofs.YtpbhndmfmnfeoaaGreat.Si
open Go.RowKit Go.MapKept

theorem run_eql_ptr {w : World} {x y : Addr} {r : Bool} (h : (Op.equal 94 (.pointer (some x)) (.pointer (some y))).run Tryz.prog w = .ok r w) : (binOp .eql 94 (.pointer (some x)) (.pointer (some y))).run Tryz.prog w = .ok (.bool r) w := by
  simp [binOp, h, Result.andThen]
theorem below_drewN (w : World) (n : Nat) : Below w.heap.size w (w.drewN n) := ⟨rfl, rfl, rfl, Nat.le_refl _, fun _ _ => rfl⟩
/-- An address at cells that are read. -/
def AtB (w : World) (a : Addr) : Prop := a.block < w.heap.size ∧ ∃ c t fr, w.heap[a.block]? = some (.cells c t fr) ∧ c.size ≠ 0 ∧ w.frozen? a = false
theorem AtB.keep {w w' : World} {a : Addr} (h : AtB w a) (hb : Below w.heap.size w w') : AtB w' a := by
  obtain ⟨h0, c, t, fr, h1, h2, h3⟩ := h
  have hk := hb.block _ h0
  refine ⟨Nat.lt_of_lt_of_le h0 hb.size, c, t, fr, hk.trans h1, h2, ?_⟩
  unfold World.frozen? at h3 ⊢
  rw [hk]
  exact h3
theorem AtB.kept {w w' : World} {a : Addr} (h : AtB w a) (hs : w.heap.size ≤ w'.heap.size) (hk : w'.heap[a.block]? = w.heap[a.block]?) : AtB w' a := by
  obtain ⟨h0, c, t, fr, h1, h2, h3⟩ := h
  refine ⟨Nat.lt_of_lt_of_le h0 hs, c, t, fr, hk.trans h1, h2, ?_⟩
  unfold World.frozen? at h3 ⊢
  rw [hk]
  exact h3
theorem AtB.of {w : World} {a : Addr} (h : AtC w w.heap.size a) {l : List Value} (hr : ReadsAt w a l) (h0 : 0 < l.length) : AtB w a := by
  obtain ⟨⟨c, t, fr, h1⟩, h2, h3⟩ := h
  refine ⟨h3, c, t, fr, h1, ?_, h2⟩
  have := hr 0 (l[0]'h0) (List.getElem?_eq_getElem h0)
  intro hz
  have hc : c = #[] := Array.eq_empty_of_size_eq_zero hz
  subst hc
  simp [World.cell?, h1] at this
section
variable {P : Program} {w : World} {kt te mt et : TypeId} {inf : TypeInfo}
theorem run_mayBe_ob {a b : Addr} (ha : AtCells w a) (hb : AtB w b) : (mayBeOne a b).run P w = .ok false w := by
  obtain ⟨ca, ta, ha⟩ := ha
  obtain ⟨_, cb, tb, fb, hb, h0, hf⟩ := hb
  simp [mayBeOne, stringish, World.shape?, World.frozen?, ha, hb, h0]
theorem run_mayBe_bo {a b : Addr} (ha : AtCells w a) (hb : AtB w b) : (mayBeOne b a).run P w = .ok false w := by
  obtain ⟨ca, ta, ha⟩ := ha
  obtain ⟨_, cb, tb, fb, hb, h0, hf⟩ := hb
  simp [mayBeOne, stringish, World.shape?, World.frozen?, ha, hb, h0]
theorem frozen_own {a : Addr} (ha : AtCells w a) : w.frozen? a = false := by
  obtain ⟨ca, ta, ha⟩ := ha
  simp [World.frozen?, ha]
theorem run_same_ob {a b : Addr} (ha : AtCells w a) (hb : AtB w b) (hne : a.block ≠ b.block) : (sameAddr a b).run P w = .ok false w := by
  have hr := run_mayBe_ob (P := P) ha hb
  have hf := frozen_own ha
  obtain ⟨ca, ta, ha⟩ := ha
  obtain ⟨_, cb, tb, fb, hb, h0, hfb⟩ := hb
  simp [sameAddr, hne, hf, hfb, noView, viewAt, World.shape?, ha, hb, hr, Result.andThen]
theorem run_same_bo {a b : Addr} (ha : AtCells w a) (hb : AtB w b) (hne : a.block ≠ b.block) : (sameAddr b a).run P w = .ok false w := by
  have hr := run_mayBe_bo (P := P) ha hb
  have hf := frozen_own ha
  obtain ⟨ca, ta, ha⟩ := ha
  obtain ⟨_, cb, tb, fb, hb, h0, hfb⟩ := hb
  have hne' : ¬ b.block = a.block := fun e => hne e.symm
  simp [sameAddr, hne', hf, hfb, noView, viewAt, World.shape?, ha, hb, hr, Result.andThen]
theorem run_eq_ob (hk : P.underlying kt = some (.pointer te)) (hte : P.info? te = some inf) (hsz : inf.size ≠ 0) {a b : Addr} (ha : AtCells w a) (hb : AtB w b) (hne : a.block ≠ b.block) : (Op.equal kt (.pointer (some a)) (.pointer (some b))).run P w = .ok false w := by
  have h : ∀ d, (Op.equalIn (d + 1) kt (.pointer (some a)) (.pointer (some b))).run P w = .ok false w := fun d => by
    simp [Op.equalIn, run_underlying hk, typeInfo, sizeOf, hte, hsz, run_same_ob ha hb hne]
  exact h 9999
theorem run_eq_bo (hk : P.underlying kt = some (.pointer te)) (hte : P.info? te = some inf) (hsz : inf.size ≠ 0) {a b : Addr} (ha : AtCells w a) (hb : AtB w b) (hne : a.block ≠ b.block) : (Op.equal kt (.pointer (some b)) (.pointer (some a))).run P w = .ok false w := by
  have h : ∀ d, (Op.equalIn (d + 1) kt (.pointer (some b)) (.pointer (some a))).run P w = .ok false w := fun d => by
    simp [Op.equalIn, run_underlying hk, typeInfo, sizeOf, hte, hsz, run_same_bo ha hb hne]
  exact h 9999
theorem run_findAsking_b (hk : P.underlying kt = some (.pointer te)) (hte : P.info? te = some inf) (hsz : inf.size ≠ 0) (a : Addr) (ha : AtB w a) : ∀ (es : List MapEntry) (L : List (Addr × Addr)) (i : Nat),
    es.map (fun e => (e.key, e.val)) = L.map (fun p => (Value.pointer (some p.1), Value.pointer (some p.2))) → (∀ p ∈ L, AtCells w p.1 ∧ p.1.block ≠ a.block) →
    (Instr.findAsking kt (.pointer (some a)) es i).run P w = .ok none w
  | [], L, i, h, _ => by simp [Instr.findAsking]
  | e :: es, [], i, h, _ => by simp at h
  | e :: es, p :: L, i, h, hL => by
    simp only [List.map_cons, List.cons.injEq, Prod.mk.injEq] at h
    obtain ⟨⟨h1, h2⟩, h3⟩ := h
    have hr := run_findAsking_b hk hte hsz a ha es L (i + 1) h3 (fun y hy => hL y (by simp [hy]))
    obtain ⟨h4, h5⟩ := hL p (by simp)
    simp [Instr.findAsking, h1, run_eq_bo hk hte hsz h4 ha h5, Result.andThen, hr]
theorem run_findKey_b (hk : P.underlying kt = some (.pointer te)) (hte : P.info? te = some inf) (hsz : inf.size ≠ 0) (a : Addr) (ha : AtB w a) (es : List MapEntry) (L : List (Addr × Addr))
    (h : es.map (fun e => (e.key, e.val)) = L.map (fun p => (Value.pointer (some p.1), Value.pointer (some p.2)))) (hL : ∀ p ∈ L, AtCells w p.1 ∧ p.1.block ≠ a.block) :
    (Instr.findKey kt (.pointer (some a)) es).run P w = .ok none w := by
  cases es with
  | nil => simp [Instr.findKey, run_underlying hk, Result.andThen, Instr.findNow]
  | cons e es =>
    have hr := run_findAsking_b hk hte hsz a ha (e :: es) L 0 h hL
    simp [Instr.findKey, run_underlying hk, Result.andThen, Instr.findNow, Instr.sameNow, hr]
theorem lookup_b {b : Nat} {L : List (Addr × Addr)} (h : PMap w b L) (hm : P.underlying mt = some (.map kt et)) (hk : P.underlying kt = some (.pointer te)) (hte : P.info? te = some inf) (hsz : inf.size ≠ 0)
    (hz : (zeroValue et).run P w = .ok (.pointer none) w) (a : Addr) (ha : AtB w a) (hL : ∀ p ∈ L, AtCells w p.1 ∧ p.1.block ≠ a.block) : (Instr.lookup mt (.map (some b)) (.pointer (some a)) false).run P w = .ok (.pointer none) w := by
  obtain ⟨es, clock, hb, he⟩ := h
  have hr := run_findKey_b hk hte hsz a ha es.toList L he hL
  simp [Instr.lookup, run_underlying hm, MapKept.run_getObj_map hb, Result.andThen, run_checkKey_ptr hk _ 9999, hr, hz]
end
/-- A place that came in is its own end. -/
theorem end_b (w : World) (b : Nat) (L : List (Addr × Addr)) (d : Addr) (hm : PMap w b L) (hd : AtB w d) (hL : ∀ p ∈ L, AtCells w p.1 ∧ p.1.block ≠ d.block) :
    Calls Tryz.prog 68 #[.map (some b), .pointer (some d)] w fun e w' => e = .returned (.pointer (some d)) ∧ w' = w := by
  obtain ⟨inf, hinf, hsz⟩ := size_type
  have hl := lookup_b hm (mt := 93) Tryz.underlying93 Tryz.underlying94 hinf hsz (zero_ptr w) d hd hL
  go_enter Tryz.func68, Tryz.ntmps68
  go_wp2
  go_loop [1] (fun i => i = .pointer (some d)) (fun _ => 0)
  case atStart => rfl
  case round =>
    subst hrel
    go_wp2_with (at_lookup; refine wpList_lookup_pm _ rfl (.tmp 6) (.tmp 7) 93 rfl rfl d rfl hl ?_)
    go_ret
    exact ⟨rfl, rfl⟩
set_option maxRecDepth 100000 in
set_option maxHeartbeats 2000000 in
theorem join_b (w : World) (b : Nat) (L : List (Addr × Addr)) (x y : Addr) (hxy : x.block ≠ y.block) (hm : PMap w b L) (hx : AtCells w x) (hy : AtB w y) (hL : ∀ p ∈ L, AtCells w p.1) (hn : plook x L = none) (hn2 : ∀ p ∈ L, p.1.block ≠ y.block) :
    Calls Tryz.prog 52 #[.map (some b), .agg #[.pointer (some x), .pointer (some y)]] w fun e w' => e = .returned (.bool true) ∧ PMap w' b (L ++ [(x, y)]) ∧ Bt b w w' := by
  obtain ⟨w0, hw0⟩ : ∃ w0, w0 = w.alloc (.cells #[.pointer (some x), .pointer (some y)] 96) := ⟨_, rfl⟩
  have hb0 : Below w.heap.size w w0 := by rw [hw0]; exact below_new w _
  have l0 : Lies w0 w.heap.size 96 #[.pointer (some x), .pointer (some y)] := by rw [hw0]; exact Lies.new w _ _
  have hm0 := hm.keep (hb0.block _ hm.lt)
  have hx0 := hx.keep (hb0.block _ hx.lt)
  have hy0 := hy.keep hb0
  have hL0 : ∀ p ∈ L, AtCells w0 p.1 := fun p hp => (hL p hp).keep (hb0.block _ (hL p hp).lt)
  have he := fun m => end_any (w0.drewN m) b L x hm0 hx0 hL0 hn
  have he2 := fun m => end_b (w0.drewN m) b L y hm0 hy0 (fun p hp => ⟨hL0 p hp, hn2 p hp⟩)
  have c0 := l0.cell 0
  have c1 := l0.cell 1
  obtain ⟨inf, hinf, hsz⟩ := size_type
  have heq : ∀ m, (binOp .eql 94 (.pointer (some x)) (.pointer (some y))).run Tryz.prog (w0.drewN m) = .ok (.bool false) (w0.drewN m) := fun m => run_eql_ptr (run_eq_ob (w := w0.drewN m) Tryz.underlying94 hinf hsz hx0 hy0 hxy)
  have HW := Lib.hid hw0
  have HE := Lib.hid he
  have HE2 := Lib.hid he2
  have HM := Lib.hid hm0
  have HL0 := Lib.hid hL0
  clear hw0 hm0 he he2 hL0
  go_enter Tryz.func52, Tryz.ntmps52
  go_wp2
  rw [← HW.out]
  go_quiet (first | (go_at_call_of 68 (Value.pointer (some x)); exact Calls.quiet_of_same (HE.out _)) | (go_at_call_of 68 (Value.pointer (some y)); exact Calls.quiet_of_same (HE2.out _)))
  go_wp2_with (at_mapUpdate; go_loud (refine wpList_update_pm _ rfl (.tmp 18) (.tmp 19) (.tmp 20) 93 rfl rfl (PMap.keep (w' := w0.drewN nq) HM.out rfl) Tryz.underlying93 Tryz.underlying94 hinf hsz x y rfl rfl hx0 HL0.out hn ?_); intro w1 hm1 hg1)
  go_ret
  exact ⟨rfl, hm1, ((Bt.of_below hb0).trans (.of_below (below_drewN _ _))).trans (.of_grown hg1)⟩
set_option maxRecDepth 100000 in
set_option maxHeartbeats 4000000 in
/-- sameAlone at cells that are read alike. -/
theorem alone_alike (w : World) (b o b' o' : Nat) (k : Int) (nm : Str) (v : Int) (A A' : Option Addr) (n q q' : Nat) (lv lv' : Value) (ls : List Str) (rv : Int) (hr : ReadsAt w ⟨b, o, none⟩ (tyC k nm v (.slice A n q) lv rv)) (hr' : ReadsAt w ⟨b', o', none⟩ (tyC k nm v (.slice A' n q') lv' rv)) (hl : StrR w lv ls) (hl' : StrR w lv' ls) :
    Calls Tryz.prog 53 #[.pointer (some ⟨b, o, none⟩), .pointer (some ⟨b', o', none⟩)] w fun e w' => e = .returned (.bool true) ∧ Below w.heap.size w w' := by
  obtain ⟨c0, c1, c2, c3, c4, c5⟩ := reads6 hr
  obtain ⟨d0, d1, d2, d3, d4, d5⟩ := reads6 hr'
  have hlb := hl.2
  have hsr := Rw.sameRow_any lv lv' ls ls rv rv w.drew (.of hl) (.of hl') (by omega) (by omega)
  have hd : decide (rv = rv ∧ ls = ls) = true := by simp
  rw [hd] at hsr
  have HSR := Lib.hid hsr
  obtain ⟨A2, n2, q2, rfl⟩ : ∃ A n c, lv = .slice A n c := by rcases hl.1 with ⟨rfl, _⟩ | ⟨_, _, rfl, _⟩ <;> exact ⟨_, _, _, rfl⟩
  obtain ⟨A3, n3, q3, rfl⟩ : ∃ A n c, lv' = .slice A n c := by rcases hl'.1 with ⟨rfl, _⟩ | ⟨_, _, rfl, _⟩ <;> exact ⟨_, _, _, rfl⟩
  clear hsr
  go_enter Tryz.func53, Tryz.ntmps53
  go_wp2
  go_still_tail 53, (by kernel_rfl)
  change wpList _ _ _ _ _ w.drew
  go_wp2_with fail
  refine HSR.out.mono ?_
  rintro e w1 ⟨rfl, hb1⟩
  go_wp2
  go_ret
  exact ⟨rfl, (Below.refl _ w).drew.trans hb1⟩
end Go.Proofs.YtpbhndmfmnfeoaaGreat.Si

/- Two types are held against each other, of which the one is a tree of the call's own: what is still to do. -/
namespace Go.Proofs.YtpbhndmfmnfeoaaGreat.Si
open Go.RowKit

theorem sizeL_appS : ∀ (a b : List Ty), Ty.sizeL (a ++ b) = Ty.sizeL a + Ty.sizeL b
  | [], b => by simp [Ty.sizeL]
  | t :: a, b => by simp only [List.cons_append, Ty.sizeL, sizeL_appS a b]; omega
theorem sizeL_stepG (l : List Ty) (j : Nat) (t : Ty) (h : l[j]? = some t) : Ty.sizeL (l.take (j + 1)) = Ty.sizeL (l.take j) + t.size := by
  rw [take_step l j t h, sizeL_appS]
  simp [Ty.sizeL]
theorem sizeL_leG (l : List Ty) (j : Nat) : Ty.sizeL (l.take j) ≤ Ty.sizeL l := by
  have h := congrArg Ty.sizeL (List.take_append_drop j l)
  rw [sizeL_appS] at h
  omega
theorem sizeL_lenS : ∀ l : List Ty, l.length ≤ Ty.sizeL l
  | [] => Nat.le_refl _
  | t :: l => by have := sizeL_lenS l; have := Ty.size_pos t; simp only [Ty.sizeL, List.length_cons]; omega
abbrev PP := Addr × Addr
def prs2 (L : List PP) : List Value := L.flatMap fun x => [ptrV x.1, ptrV x.2]
theorem prs2_len : ∀ L : List PP, (prs2 L).length = L.length * 2
  | [] => rfl
  | x :: L => by
    have := prs2_len L
    unfold prs2 at this ⊢
    rw [List.flatMap_cons, List.length_append, this]
    simp only [List.length_cons, List.length_nil]
    omega
theorem prs2_app (a b : List PP) : prs2 (a ++ b) = prs2 a ++ prs2 b := by unfold prs2; rw [List.flatMap_append]
theorem prs2_get : ∀ (L : List PP) (i : Nat) x, L[i]? = some x → (prs2 L)[i * 2]? = some (ptrV x.1) ∧ (prs2 L)[i * 2 + 1]? = some (ptrV x.2)
  | [], i, x, h => by simp at h
  | y :: L, 0, x, h => by
    have : y = x := by simpa using h
    subst this
    exact ⟨rfl, rfl⟩
  | y :: L, i + 1, x, h => by
    have ih := prs2_get L i x (by simpa using h)
    have e : prs2 (y :: L) = ptrV y.1 :: ptrV y.2 :: prs2 L := rfl
    rw [e, show (i + 1) * 2 = i * 2 + 2 by omega]
    exact ih
/-- The last item is taken away. -/
theorem own_pop {w : World} {B g j c sz : Nat} {e : TypeId} {xs : List Value} (h : w.ownsRow B e sz (.slice (some ⟨g, 0, none⟩) (j + 1) c) (j + 1) xs) : w.ownsRow B e sz (.slice (some ⟨g, 0, none⟩) j c) j (xs.take (j * sz)) := by
  have h1 := h.1
  have hm : j * sz ≤ (j + 1) * sz := Nat.mul_le_mul_right _ (by omega)
  refine ⟨by rw [List.length_take]; omega, ?_⟩
  rcases h.2 with ⟨h0, _⟩ | ⟨g', cap, cur, e1, e2, e3, e4, e5, e6, e7⟩
  · cases h0
  · injection e1 with e1 _ e12
    injection e1 with e1
    injection e1 with e1
    subst e1 e12
    refine .inr ⟨g, c, cur, rfl, e2, e3, by omega, e5, e6, ?_⟩
    rw [← e7, List.take_take, Nat.min_eq_left hm]
theorem info_pair : (Tryz.prog.info? 96).map (fun i => (i.zero, i.size, i.bytes)) = some (some (.agg #[.pointer none, .pointer none]), 2, 16) := by kernel_rfl
theorem own_here {w : World} {B g j c sz : Nat} {e : TypeId} {xs : List Value} (h : w.ownsRow B e sz (.slice (some ⟨g, 0, none⟩) j c) j xs) : j ≤ c ∧ B ≤ g ∧ g < w.heap.size ∧ ∀ i u, xs[i]? = some u → w.cell? ⟨g, i, none⟩ = some u := by
  rcases own_cells h with ⟨h0, _⟩ | ⟨g', cap, e1, e2, _, ⟨cs, t, hh⟩, e3⟩
  · cases h0
  · injection e1 with e1 _ e12
    injection e1 with e1
    injection e1 with e1
    subst e1 e12
    have := own_block h g rfl
    exact ⟨e2, this.1, this.2, e3⟩

theorem keep4 {w w' : World} {a b c d : Addr} {va vb vc vd : Value} (h : w.cell? a = some va ∧ w.cell? b = some vb ∧ w.cell? c = some vc ∧ w.cell? d = some vd) (hk : ∀ p : Addr, (p = a ∨ p = b ∨ p = c ∨ p = d) → w'.cell? p = w.cell? p) : w'.cell? a = some va ∧ w'.cell? b = some vb ∧ w'.cell? c = some vc ∧ w'.cell? d = some vd :=
  ⟨(hk a (by simp)).trans h.1, (hk b (by simp)).trans h.2.1, (hk c (by simp)).trans h.2.2.1, (hk d (by simp)).trans h.2.2.2⟩
theorem child_one {E : List (Nat × Nat × Nat)} (h : (E.map (·.2.2)).Nodup) {a b a' b' x : Nat} (h1 : (a, b, x) ∈ E) (h2 : (a', b', x) ∈ E) : a = a' ∧ b = b' := by
  induction E with
  | nil => cases h1
  | cons e r ih =>
    rw [List.map_cons, List.nodup_cons] at h
    rcases List.mem_cons.1 h1 with e1 | h1 <;> rcases List.mem_cons.1 h2 with e2 | h2
    · have e3 := e2.trans e1.symm; injection e3 with e3 e4; injection e4 with e4; exact ⟨e3.symm, e4.symm⟩
    · exact absurd (List.mem_map.2 ⟨_, h2, by rw [← e1]⟩) h.1
    · exact absurd (List.mem_map.2 ⟨_, h1, by rw [← e2]⟩) h.1
    · exact ih h.2 h1 h2
/-- What is fixed: the lists of the tree, which place holds which. -/
structure SF (W0 : World) (N M : Nat) (la : List Value) (D : List Nat) (E : List (Nat × Nat × Nat)) : Prop where
  nd : (E.map (·.2.2)).Nodup
  D_ : ∀ g ∈ D, M ≤ g ∧ g < N
  E_ : ∀ e ∈ E, ¬ rtOf la e.2.2 ∧ e.2.2 ∈ D
  rt : ∀ g, rtOf la g → g ∈ D
  ed : ∀ g j q n c, g ∈ D → W0.cell? ⟨g, j * 6 + 3, none⟩ = some (.slice (some ⟨q, 0, none⟩) n c) → (g, j, q) ∈ E
  root : ∀ q n c, W0.cell? ⟨N, 3, none⟩ = some (.slice (some ⟨q, 0, none⟩) n c) → rtOf la q
  MN : M ≤ N
def YOK (N M : Nat) (y : Addr) : Prop := y.block = N + 1 ∨ y.block < M
/-- A type that came in: what stands right below these cells. -/
def TWk (w : World) (t : Ty) (l : List Value) : Prop :=
  match t with
  | .mk k nm v kids _ rv => ∃ kv lv, l = tyC k nm v kv lv rv ∧ ∀ (i : Nat) t, kids[i]? = some t → TW w (kidAt kv i) t
theorem TWk.of {w : World} {t : Ty} {l : List Value} (h : TWV w t l) : TWk w t l := by
  obtain ⟨k, nm, v, kids, ls, rv⟩ := t
  obtain ⟨kv, A, n, c, h1, _, _, h4⟩ := h
  exact ⟨kv, _, h1, h4⟩
theorem TWk.open {w : World} {a : Addr} {t : Ty} (h : TW w a t) : ∃ l, AtC w w.heap.size a ∧ ReadsAt w a l ∧ 0 < l.length ∧ TWk w t l := by
  cases h with
  | mk _ k nm v kids ls rv kv lv h0 hat hr hk hi hks => exact ⟨_, hat, hr, by simp [tyC], kv, lv, rfl, hks⟩
structure SI (w1 W0 : World) (N : Nat) (la : List Value) (E : List (Nat × Nat × Nat)) (D : List Nat) (ks : List PP) (gs : List Ty) (L : List PP) (V : List Nat) : Prop where
  len : ks.length = gs.length
  ok : ∀ (i : Nat) p t, ks[i]? = some p → gs[i]? = some t → TF W0 p.1 t ∧ TR W0 p.2 t ∧ (∃ l, ReadsAt W0 p.2 l ∧ TWk w1 t l) ∧ AtB W0 p.2 ∧ YOK N w1.heap.size p.2
  nd : (ks.map Prod.fst ++ L.map Prod.fst).Nodup
  xs : ∀ x ∈ ks.map Prod.fst ++ L.map Prod.fst, x = ⟨N, 0, none⟩ ∨ ∃ g i, x = ⟨g, i * 6, none⟩ ∧ g ∈ V
  VD : ∀ g ∈ V, g ∈ D
  at_ : ∀ p ∈ L, AtCells W0 p.1
  vis : ∀ g ∈ V, (rtOf la g ∧ (⟨N, 0, none⟩ : Addr) ∈ L.map Prod.fst) ∨ ∃ P j, (P, j, g) ∈ E ∧ (⟨P, j * 6, none⟩ : Addr) ∈ L.map Prod.fst
/-- The places right below two places. -/
def news (kv kv' : Value) (n : Nat) : List PP := (List.range n).map fun i => (kidAt kv i, kidAt kv' i)
theorem news_len (kv kv' : Value) (n : Nat) : (news kv kv' n).length = n := by simp [news]
theorem news_get {kv kv' : Value} {n i : Nat} (h : i < n) : (news kv kv' n)[i]? = some (kidAt kv i, kidAt kv' i) := by
  unfold news
  rw [List.getElem?_map, List.getElem?_range h]
  rfl
theorem SI.off {w1 W0 : World} {N : Nat} {la : List Value} {D : List Nat} {E : List (Nat × Nat × Nat)} {ks : List PP} {gs : List Ty} {L : List PP} {V : List Nat} (hf : SF W0 N w1.heap.size la D E) (h : SI w1 W0 N la E D ks gs L V) {x : Addr} (hx : x ∈ ks.map Prod.fst ++ L.map Prod.fst) {y : Addr} (hy : YOK N w1.heap.size y) : x.block ≠ y.block ∧ x.block ≤ N := by
  have hMN := hf.MN
  rcases h.xs x hx with rfl | ⟨g, i, rfl, hg⟩
  · rcases hy with e | e
    · exact ⟨by show N ≠ y.block; omega, Nat.le_refl _⟩
    · exact ⟨by show N ≠ y.block; omega, Nat.le_refl _⟩
  · have := hf.D_ g (h.VD g hg)
    rcases hy with e | e
    · exact ⟨by show g ≠ y.block; omega, by show g ≤ N; omega⟩
    · exact ⟨by show g ≠ y.block; omega, by show g ≤ N; omega⟩
/-- The last pair is taken, and what stands right below is put down. -/
theorem SI.pop {w1 W0 : World} (hw : Below w1.heap.size w1 W0) {N : Nat} {la : List Value} {D : List Nat} {E : List (Nat × Nat × Nat)} {ks : List PP} {p0 : PP} {gs : List Ty} {k : Int} {nm : Str} {v : Int} {kids : List Ty} {ls : List Str} {rv : Int} {L : List PP} {V : List Nat} (hf : SF W0 N w1.heap.size la D E)
    (h : SI w1 W0 N la E D (ks ++ [p0]) (gs ++ [.mk k nm v kids ls rv]) L V) : ∃ kv lv kv' lv' V', p0.1.spot = none ∧ p0.2.spot = none ∧ AtCells W0 p0.1 ∧ AtB W0 p0.2 ∧ ReadsAt W0 p0.1 (tyC k nm v kv lv rv) ∧ ReadsAt W0 p0.2 (tyC k nm v kv' lv' rv) ∧ SlF W0 kv kids.length ∧ SlR kv' kids.length ∧ StrR W0 lv ls ∧ StrR W0 lv' ls ∧
      plook p0.1 L = none ∧ YOK N w1.heap.size p0.2 ∧ SI w1 W0 N la E D (ks ++ news kv kv' kids.length) (gs ++ kids) (L ++ [p0]) V' := by
  have hl : ks.length = gs.length := by have := h.len; simpa using this
  obtain ⟨hF, hR, ⟨l2, hr2, hW⟩, hB, hY⟩ := h.ok ks.length p0 (.mk k nm v kids ls rv) (by simp) (by rw [hl]; simp)
  have hA := hF.at_
  cases hF with
  | mk _ _ _ _ _ _ _ kv lv x0 _ hr hk hls hi hks =>
  cases hR with
  | mk _ _ _ _ _ _ _ kv' lv' y0 hr' hk' hls' hi' hks' =>
  obtain ⟨kv2, lv2, rfl, hks2⟩ := hW
  have e2 : kv2 = kv' := by
    have h1 := hr2 3 _ rfl
    have h2 := hr' 3 _ rfl
    rw [h1] at h2
    injection h2
  subst e2
  have hnot : p0.1 ∉ L.map Prod.fst := fun hm => by
    have := h.nd
    rw [List.nodup_append] at this
    exact this.2.2 p0.1 (by simp) p0.1 hm rfl
  have hpl : plook p0.1 L = none := by
    clear h
    induction L with
    | nil => rfl
    | cons e r ih =>
      rw [List.map_cons, List.mem_cons] at hnot
      unfold plook
      rw [if_neg fun e => hnot (.inl e)]
      exact ih fun hm => hnot (.inr hm)
  have hmemx : p0.1 ∈ (ks ++ [p0]).map Prod.fst ++ L.map Prod.fst := by simp
  -- what was there stays
  have hperm : ∀ new : List PP, ((ks ++ new).map Prod.fst ++ (L ++ [p0]).map Prod.fst).Perm (new.map Prod.fst ++ ((ks ++ [p0]).map Prod.fst ++ L.map Prod.fst)) := fun new => by
    rw [List.perm_iff_count]
    intro a
    simp only [List.map_append, List.count_append, List.map_cons, List.map_nil]
    omega
  have hlow : ∀ g, g ∈ L.map Prod.fst → g ∈ (L ++ [p0]).map Prod.fst := fun g hg => by rw [List.map_append]; exact List.mem_append_left _ hg
  have hvis0 : ∀ g ∈ V, (rtOf la g ∧ (⟨N, 0, none⟩ : Addr) ∈ (L ++ [p0]).map Prod.fst) ∨ ∃ P j, (P, j, g) ∈ E ∧ (⟨P, j * 6, none⟩ : Addr) ∈ (L ++ [p0]).map Prod.fst := fun g hg => by
    rcases h.vis g hg with ⟨h1, h2⟩ | ⟨P, j, h1, h2⟩
    · exact .inl ⟨h1, hlow _ h2⟩
    · exact .inr ⟨P, j, h1, hlow _ h2⟩
  have hat0 : ∀ p ∈ L ++ [p0], AtCells W0 p.1 := fun p hp => by
    rcases List.mem_append.1 hp with hp | hp
    · exact h.at_ p hp
    · rw [List.mem_singleton.1 hp]; exact hA
  rcases hk with ⟨rfl, hk0⟩ | ⟨q, rfl, hq0, hqa⟩
  · have hn0 : kids = [] := List.eq_nil_of_length_eq_zero hk0
    subst hn0
    refine ⟨_, lv, kv2, lv', V, x0, y0, hA, hB, hr, hr', .inl ⟨rfl, rfl⟩, hk', hls, hls', hpl, hY, ?_⟩
    have hp := hperm []
    simp only [List.map_nil, List.nil_append] at hp
    refine ⟨by simp [news, hl], fun i p t hi ht => ?_, ?_, fun x hx => h.xs x ?_, h.VD, hat0, hvis0⟩
    · simp only [news, List.length_nil, List.range_zero, List.map_nil, List.append_nil] at hi ht
      exact h.ok i p t (by rw [List.getElem?_append_left (List.getElem?_eq_some_iff.1 hi).1]; exact hi) (by rw [List.getElem?_append_left (List.getElem?_eq_some_iff.1 ht).1]; exact ht)
    · simp only [news, List.length_nil, List.range_zero, List.map_nil]
      exact hp.nodup_iff.2 h.nd
    · simp only [news, List.length_nil, List.range_zero, List.map_nil] at hx
      exact hp.mem_iff.1 hx
  · -- the list below is a new one
    have hqE : (p0.1 = ⟨N, 0, none⟩ ∧ rtOf la q) ∨ ∃ g i, p0.1 = ⟨g, i * 6, none⟩ ∧ g ∈ V ∧ (g, i, q) ∈ E := by
      have hc := hr 3 _ rfl
      rcases h.xs p0.1 hmemx with e | ⟨g, i, e, hg⟩
      · rw [e] at hc
        exact .inl ⟨e, hf.root q _ _ hc⟩
      · rw [e] at hc
        exact .inr ⟨g, i, e, hg, hf.ed g i q _ _ (h.VD g hg) hc⟩
    have hqD : q ∈ D := by
      rcases hqE with ⟨_, h1⟩ | ⟨g, i, _, _, h1⟩
      · exact hf.rt q h1
      · exact (hf.E_ _ h1).2
    have hqV : q ∉ V := fun hm => by
      rcases h.vis q hm with ⟨h1, h2⟩ | ⟨P, j, h1, h2⟩
      · rcases hqE with ⟨e, _⟩ | ⟨g, i, _, _, h3⟩
        · exact hnot (e ▸ h2)
        · exact (hf.E_ _ h3).1 h1
      · rcases hqE with ⟨_, h3⟩ | ⟨g, i, e, _, h3⟩
        · exact (hf.E_ _ h1).1 h3
        · obtain ⟨rfl, rfl⟩ := child_one hf.nd h1 h3
          exact hnot (e ▸ h2)
    have hqN := hf.D_ q hqD
    obtain ⟨n, hn⟩ : ∃ n, n = kids.length := ⟨_, rfl⟩
    rw [← hn] at hr hq0 hk'
    have hkid : ∀ i, kidAt (.slice (some ⟨q, 0, none⟩) n n) i = ⟨q, i * 6, none⟩ := fun i => by simp [kidAt]
    rw [← hn]
    refine ⟨_, lv, kv2, lv', q :: V, x0, y0, hA, hB, hr, hr', .inr ⟨q, rfl, hq0, hqa⟩, hk', hls, hls', hpl, hY, ?_⟩
    refine ⟨by rw [List.length_append, news_len, List.length_append, hl, hn], fun i p t hi ht => ?_, ?_, fun x hx => ?_, fun g hg => ?_, hat0, fun g hg => ?_⟩
    · by_cases hlt : i < ks.length
      · rw [List.getElem?_append_left hlt] at hi
        rw [List.getElem?_append_left (by omega)] at ht
        exact h.ok i p t (by rw [List.getElem?_append_left hlt]; exact hi) (by rw [List.getElem?_append_left (by omega)]; exact ht)
      · have hi2 := (List.getElem?_eq_some_iff.1 hi).1
        rw [List.length_append, news_len] at hi2
        rw [List.getElem?_append_right (by omega), news_get (by omega)] at hi
        rw [List.getElem?_append_right (by omega), ← hl] at ht
        injection hi with hi
        subst hi
        obtain ⟨l5, h5, h6, h7, h8⟩ := TWk.open (hks2 _ t ht)
        exact ⟨hks _ t ht, hks' _ t ht, ⟨l5, h6.keep (hw.block _ h5.2.2), h8⟩, (AtB.of h5 h6 h7).keep hw, .inr h5.2.2⟩
    · rw [(hperm _).nodup_iff, List.nodup_append]
      refine ⟨?_, h.nd, fun a ha b hb e => ?_⟩
      · unfold news
        rw [List.map_map]
        show List.Pairwise _ _
        rw [List.pairwise_map]
        exact List.nodup_range.imp fun {a b} hab e => by
          simp only [Function.comp, hkid] at e
          injection e with _ e
          omega
      · subst e
        obtain ⟨p, hp, rfl⟩ := List.mem_map.1 ha
        obtain ⟨i, _, rfl⟩ := List.mem_map.1 hp
        simp only [hkid] at hb
        rcases h.xs _ hb with e | ⟨g, j, e, hg⟩
        · injection e with e; omega
        · injection e with e; exact hqV (e ▸ hg)
    · rw [(hperm _).mem_iff, List.mem_append] at hx
      rcases hx with hx | hx
      · obtain ⟨p, hp, rfl⟩ := List.mem_map.1 hx
        obtain ⟨i, _, rfl⟩ := List.mem_map.1 hp
        exact .inr ⟨q, i, hkid i, List.mem_cons_self ..⟩
      · rcases h.xs x hx with e | ⟨g, j, e, hg⟩
        · exact .inl e
        · exact .inr ⟨g, j, e, List.mem_cons_of_mem _ hg⟩
    · rcases List.mem_cons.1 hg with rfl | hg
      · exact hqD
      · exact h.VD g hg
    · rcases List.mem_cons.1 hg with rfl | hg
      · rcases hqE with ⟨e, h1⟩ | ⟨g, i, e, _, h1⟩
        · exact .inl ⟨h1, by rw [← e]; simp⟩
        · exact .inr ⟨g, i, h1, by rw [← e]; simp⟩
      · exact hvis0 g hg
end Go.Proofs.YtpbhndmfmnfeoaaGreat.Si
