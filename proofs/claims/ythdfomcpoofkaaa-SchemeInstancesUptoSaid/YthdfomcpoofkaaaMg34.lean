/- Two places, of which the one is the call's own and the other came in, are held against each other. -/
import Derived.Test.YthdfomcpoofkaaaMg33
import Derived.Test.YthdfomcpoofkaaaMg20
import Derived.Test.YthdfomcpoofkaaaMg06
import Derived.Test.YthdfomcpoofkaaaSbn
import Derived.StillTailTactics
import Derived.LoopTactic
import Derived.Deep.LoopGhost
import Derived.Deep.RegionHeld3
import Derived.Deep.AppendLies
import Derived.Outline
namespace Go.Proofs.Ythdfomcpoofkaaa.Si
open Go.RowKit Go.MapKept

theorem run_eql_ptr {w : World} {x y : Addr} {r : Bool} (h : (Op.equal 125 (.pointer (some x)) (.pointer (some y))).run Try.prog w = .ok r w) : (binOp .eql 125 (.pointer (some x)) (.pointer (some y))).run Try.prog w = .ok (.bool r) w := by
  simp [binOp, h, Result.andThen]
theorem below_drewN (w : World) (n : Nat) : Below w.heap.size w (w.drewN n) := ⟨rfl, rfl, rfl, Nat.le_refl _, fun _ _ => rfl⟩
/-- An address at cells that are read. -/
def AtB (w : World) (a : Addr) : Prop := a.block < w.heap.size ∧ ∃ c t fr, w.heap[a.block]? = some (.cells c t fr) ∧ c.size ≠ 0 ∧ w.frozen? a = false
theorem AtB.keep {w w' : World} {a : Addr} (h : AtB w a) (hb : Below w.heap.size w w') : AtB w' a := by
  obtain ⟨h0, c, t, fr, h1, h2, h3⟩ := h
  have hk := hb.block _ h0
  refine ⟨Nat.lt_of_lt_of_le h0 hb.size, c, t, fr, hk.trans h1, h2, ?_⟩
  unfold World.frozen? at h3 ⊢
  rw [hk]
  exact h3
theorem AtB.kept {w w' : World} {a : Addr} (h : AtB w a) (hs : w.heap.size ≤ w'.heap.size) (hk : w'.heap[a.block]? = w.heap[a.block]?) : AtB w' a := by
  obtain ⟨h0, c, t, fr, h1, h2, h3⟩ := h
  refine ⟨Nat.lt_of_lt_of_le h0 hs, c, t, fr, hk.trans h1, h2, ?_⟩
  unfold World.frozen? at h3 ⊢
  rw [hk]
  exact h3
theorem AtB.of {w : World} {a : Addr} (h : AtC w w.heap.size a) {l : List Value} (hr : ReadsAt w a l) (h0 : 0 < l.length) : AtB w a := by
  obtain ⟨⟨c, t, fr, h1⟩, h2, h3⟩ := h
  refine ⟨h3, c, t, fr, h1, ?_, h2⟩
  have := hr 0 (l[0]'h0) (List.getElem?_eq_getElem h0)
  intro hz
  have hc : c = #[] := Array.eq_empty_of_size_eq_zero hz
  subst hc
  simp [World.cell?, h1] at this
section
variable {P : Program} {w : World} {kt te mt et : TypeId} {inf : TypeInfo}
theorem run_mayBe_ob {a b : Addr} (ha : AtCells w a) (hb : AtB w b) : (mayBeOne a b).run P w = .ok false w := by
  obtain ⟨ca, ta, ha⟩ := ha
  obtain ⟨_, cb, tb, fb, hb, h0, hf⟩ := hb
  simp [mayBeOne, stringish, World.shape?, World.frozen?, ha, hb, h0]
theorem run_mayBe_bo {a b : Addr} (ha : AtCells w a) (hb : AtB w b) : (mayBeOne b a).run P w = .ok false w := by
  obtain ⟨ca, ta, ha⟩ := ha
  obtain ⟨_, cb, tb, fb, hb, h0, hf⟩ := hb
  simp [mayBeOne, stringish, World.shape?, World.frozen?, ha, hb, h0]
theorem frozen_own {a : Addr} (ha : AtCells w a) : w.frozen? a = false := by
  obtain ⟨ca, ta, ha⟩ := ha
  simp [World.frozen?, ha]
theorem run_same_ob {a b : Addr} (ha : AtCells w a) (hb : AtB w b) (hne : a.block ≠ b.block) : (sameAddr a b).run P w = .ok false w := by
  have hr := run_mayBe_ob (P := P) ha hb
  have hf := frozen_own ha
  obtain ⟨ca, ta, ha⟩ := ha
  obtain ⟨_, cb, tb, fb, hb, h0, hfb⟩ := hb
  simp [sameAddr, hne, hf, hfb, noView, viewAt, World.shape?, ha, hb, hr, Result.andThen]
theorem run_same_bo {a b : Addr} (ha : AtCells w a) (hb : AtB w b) (hne : a.block ≠ b.block) : (sameAddr b a).run P w = .ok false w := by
  have hr := run_mayBe_bo (P := P) ha hb
  have hf := frozen_own ha
  obtain ⟨ca, ta, ha⟩ := ha
  obtain ⟨_, cb, tb, fb, hb, h0, hfb⟩ := hb
  have hne' : ¬ b.block = a.block := fun e => hne e.symm
  simp [sameAddr, hne', hf, hfb, noView, viewAt, World.shape?, ha, hb, hr, Result.andThen]
theorem run_eq_ob (hk : P.underlying kt = some (.pointer te)) (hte : P.info? te = some inf) (hsz : inf.size ≠ 0) {a b : Addr} (ha : AtCells w a) (hb : AtB w b) (hne : a.block ≠ b.block) : (Op.equal kt (.pointer (some a)) (.pointer (some b))).run P w = .ok false w := by
  have h : ∀ d, (Op.equalIn (d + 1) kt (.pointer (some a)) (.pointer (some b))).run P w = .ok false w := fun d => by
    simp [Op.equalIn, run_underlying hk, typeInfo, sizeOf, hte, hsz, run_same_ob ha hb hne]
  exact h 9999
theorem run_eq_bo (hk : P.underlying kt = some (.pointer te)) (hte : P.info? te = some inf) (hsz : inf.size ≠ 0) {a b : Addr} (ha : AtCells w a) (hb : AtB w b) (hne : a.block ≠ b.block) : (Op.equal kt (.pointer (some b)) (.pointer (some a))).run P w = .ok false w := by
  have h : ∀ d, (Op.equalIn (d + 1) kt (.pointer (some b)) (.pointer (some a))).run P w = .ok false w := fun d => by
    simp [Op.equalIn, run_underlying hk, typeInfo, sizeOf, hte, hsz, run_same_bo ha hb hne]
  exact h 9999
theorem run_findAsking_b (hk : P.underlying kt = some (.pointer te)) (hte : P.info? te = some inf) (hsz : inf.size ≠ 0) (a : Addr) (ha : AtB w a) : ∀ (es : List MapEntry) (L : List (Addr × Addr)) (i : Nat),
    es.map (fun e => (e.key, e.val)) = L.map (fun p => (Value.pointer (some p.1), Value.pointer (some p.2))) → (∀ p ∈ L, AtCells w p.1 ∧ p.1.block ≠ a.block) →
    (Instr.findAsking kt (.pointer (some a)) es i).run P w = .ok none w
  | [], L, i, h, _ => by simp [Instr.findAsking]
  | e :: es, [], i, h, _ => by simp at h
  | e :: es, p :: L, i, h, hL => by
    simp only [List.map_cons, List.cons.injEq, Prod.mk.injEq] at h
    obtain ⟨⟨h1, h2⟩, h3⟩ := h
    have hr := run_findAsking_b hk hte hsz a ha es L (i + 1) h3 (fun y hy => hL y (by simp [hy]))
    obtain ⟨h4, h5⟩ := hL p (by simp)
    simp [Instr.findAsking, h1, run_eq_bo hk hte hsz h4 ha h5, run_eq_ob hk hte hsz h4 ha h5, Result.andThen, hr]
theorem run_findKey_b (hk : P.underlying kt = some (.pointer te)) (hte : P.info? te = some inf) (hsz : inf.size ≠ 0) (a : Addr) (ha : AtB w a) (es : List MapEntry) (L : List (Addr × Addr))
    (h : es.map (fun e => (e.key, e.val)) = L.map (fun p => (Value.pointer (some p.1), Value.pointer (some p.2)))) (hL : ∀ p ∈ L, AtCells w p.1 ∧ p.1.block ≠ a.block) :
    (Instr.findKey kt (.pointer (some a)) es).run P w = .ok none w := by
  cases es with
  | nil => simp [Instr.findKey, run_underlying hk, Result.andThen, Instr.findNow]
  | cons e es =>
    have hr := run_findAsking_b hk hte hsz a ha (e :: es) L 0 h hL
    simp [Instr.findKey, run_underlying hk, Result.andThen, Instr.findNow, Instr.sameNow, hr]
theorem lookup_b {b : Nat} {L : List (Addr × Addr)} (h : PMap w b L) (hm : P.underlying mt = some (.map kt et)) (hk : P.underlying kt = some (.pointer te)) (hte : P.info? te = some inf) (hsz : inf.size ≠ 0)
    (hz : (zeroValue et).run P w = .ok (.pointer none) w) (a : Addr) (ha : AtB w a) (hL : ∀ p ∈ L, AtCells w p.1 ∧ p.1.block ≠ a.block) : (Instr.lookup mt (.map (some b)) (.pointer (some a)) false).run P w = .ok (.pointer none) w := by
  obtain ⟨es, clock, hb, he⟩ := h
  have hr := run_findKey_b hk hte hsz a ha es.toList L he hL
  simp [Instr.lookup, run_underlying hm, MapKept.run_getObj_map hb, Result.andThen, run_checkKey_ptr hk _ 9999, hr, hz]
end
/-- A place that came in is its own end. -/
theorem end_b (w : World) (b : Nat) (L : List (Addr × Addr)) (d : Addr) (hm : PMap w b L) (hd : AtB w d) (hL : ∀ p ∈ L, AtCells w p.1 ∧ p.1.block ≠ d.block) :
    Calls Try.prog 92 #[.map (some b), .pointer (some d)] w fun e w' => e = .returned (.pointer (some d)) ∧ w' = w := by
  obtain ⟨inf, hinf, hsz⟩ := size_type
  have hl := lookup_b hm (mt := 158) Try.underlying158 Try.underlying125 hinf hsz (zero_ptr w) d hd hL
  go_enter Try.func92, Try.ntmps92
  go_wp2
  go_loop [1] (fun i => i = .pointer (some d)) (fun _ => 0)
  case atStart => rfl
  case round =>
    subst hrel
    go_wp2_with (at_lookup; refine wpList_lookup_pm _ rfl (.tmp 6) (.tmp 7) 158 rfl rfl d rfl hl ?_)
    go_ret
    exact ⟨rfl, rfl⟩
set_option maxRecDepth 100000 in
set_option maxHeartbeats 2000000 in
theorem join_b (w : World) (b : Nat) (L : List (Addr × Addr)) (x y : Addr) (hxy : x.block ≠ y.block) (hm : PMap w b L) (hx : AtCells w x) (hy : AtB w y) (hL : ∀ p ∈ L, AtCells w p.1) (hn : plook x L = none) (hn2 : ∀ p ∈ L, p.1.block ≠ y.block) :
    Calls Try.prog 87 #[.map (some b), .agg #[.pointer (some x), .pointer (some y)]] w fun e w' => e = .returned (.bool true) ∧ PMap w' b (L ++ [(x, y)]) ∧ Bt b w w' := by
  obtain ⟨w0, hw0⟩ : ∃ w0, w0 = w.alloc (.cells #[.pointer (some x), .pointer (some y)] 160) := ⟨_, rfl⟩
  have hb0 : Below w.heap.size w w0 := by rw [hw0]; exact below_new w _
  have l0 : Lies w0 w.heap.size 160 #[.pointer (some x), .pointer (some y)] := by rw [hw0]; exact Lies.new w _ _
  have hm0 := hm.keep (hb0.block _ hm.lt)
  have hx0 := hx.keep (hb0.block _ hx.lt)
  have hy0 := hy.keep hb0
  have hL0 : ∀ p ∈ L, AtCells w0 p.1 := fun p hp => (hL p hp).keep (hb0.block _ (hL p hp).lt)
  have he := fun m => end_any (w0.drewN m) b L x hm0 hx0 hL0 hn
  have he2 := fun m => end_b (w0.drewN m) b L y hm0 hy0 (fun p hp => ⟨hL0 p hp, hn2 p hp⟩)
  have c0 := l0.cell 0
  have c1 := l0.cell 1
  obtain ⟨inf, hinf, hsz⟩ := size_type
  have heq : ∀ m, (binOp .eql 125 (.pointer (some x)) (.pointer (some y))).run Try.prog (w0.drewN m) = .ok (.bool false) (w0.drewN m) := fun m => run_eql_ptr (run_eq_ob (w := w0.drewN m) Try.underlying125 hinf hsz hx0 hy0 hxy)
  have HW := Lib.hid hw0
  have HE := Lib.hid he
  have HE2 := Lib.hid he2
  have HM := Lib.hid hm0
  have HL0 := Lib.hid hL0
  clear hw0 hm0 he he2 hL0
  go_enter Try.func87, Try.ntmps87
  go_wp2
  rw [← HW.out]
  go_quiet (first | (go_at_call_of 92 (Value.pointer (some x)); exact Calls.quiet_of_same (HE.out _)) | (go_at_call_of 92 (Value.pointer (some y)); exact Calls.quiet_of_same (HE2.out _)))
  go_wp2_with (at_mapUpdate; go_loud (refine wpList_update_pm _ rfl (.tmp 18) (.tmp 19) (.tmp 20) 158 rfl rfl (PMap.keep (w' := w0.drewN nq) HM.out rfl) Try.underlying158 Try.underlying125 hinf hsz x y rfl rfl hx0 HL0.out hn ?_); intro w1 hm1 hg1)
  go_ret
  exact ⟨rfl, hm1, ((Bt.of_below hb0).trans (.of_below (below_drewN _ _))).trans (.of_grown hg1)⟩
set_option maxRecDepth 100000 in
set_option maxHeartbeats 4000000 in
/-- sameAlone at cells that are read alike. -/
theorem alone_alike (w : World) (b o b' o' : Nat) (k : Int) (nm : Str) (v : Int) (A A' : Option Addr) (n q q' : Nat) (lv lv' : Value) (ls : List Str) (rv : Int) (hr : ReadsAt w ⟨b, o, none⟩ (tyC k nm v (.slice A n q) lv rv)) (hr' : ReadsAt w ⟨b', o', none⟩ (tyC k nm v (.slice A' n q') lv' rv)) (hl : StrR w lv ls) (hl' : StrR w lv' ls) :
    Calls Try.prog 88 #[.pointer (some ⟨b, o, none⟩), .pointer (some ⟨b', o', none⟩)] w fun e w' => e = .returned (.bool true) ∧ Below w.heap.size w w' := by
  obtain ⟨c0, c1, c2, c3, c4, c5⟩ := reads6 hr
  obtain ⟨d0, d1, d2, d3, d4, d5⟩ := reads6 hr'
  have hlb := hl.2
  have hsr := Rw.sameRow_any lv lv' ls ls rv rv w.drew (.of hl) (.of hl') (by omega) (by omega)
  have hd : decide (rv = rv ∧ ls = ls) = true := by simp
  rw [hd] at hsr
  have HSR := Lib.hid hsr
  obtain ⟨A2, n2, q2, rfl⟩ : ∃ A n c, lv = .slice A n c := by rcases hl.1 with ⟨rfl, _⟩ | ⟨_, _, rfl, _⟩ <;> exact ⟨_, _, _, rfl⟩
  obtain ⟨A3, n3, q3, rfl⟩ : ∃ A n c, lv' = .slice A n c := by rcases hl'.1 with ⟨rfl, _⟩ | ⟨_, _, rfl, _⟩ <;> exact ⟨_, _, _, rfl⟩
  clear hsr
  go_enter Try.func88, Try.ntmps88
  go_wp2
  go_still_tail 53, (by kernel_rfl)
  change wpList _ _ _ _ _ w.drew
  go_wp2_with fail
  refine HSR.out.mono ?_
  rintro e w1 ⟨rfl, hb1⟩
  go_wp2
  go_ret
  exact ⟨rfl, (Below.refl _ w).drew.trans hb1⟩
end Go.Proofs.Ythdfomcpoofkaaa.Si

/- Two types are held against each other, of which the one is a tree of the call's own: what is still to do. -/
namespace Go.Proofs.Ythdfomcpoofkaaa.Si
open Go.RowKit

abbrev PP := Addr × Addr
def prs2 (L : List PP) : List Value := L.flatMap fun x => [ptrV x.1, ptrV x.2]
theorem prs2_len : ∀ L : List PP, (prs2 L).length = L.length * 2
  | [] => rfl
  | x :: L => by
    have := prs2_len L
    unfold prs2 at this ⊢
    rw [List.flatMap_cons, List.length_append, this]
    simp only [List.length_cons, List.length_nil]
    omega
theorem prs2_app (a b : List PP) : prs2 (a ++ b) = prs2 a ++ prs2 b := by unfold prs2; rw [List.flatMap_append]
theorem prs2_get : ∀ (L : List PP) (i : Nat) x, L[i]? = some x → (prs2 L)[i * 2]? = some (ptrV x.1) ∧ (prs2 L)[i * 2 + 1]? = some (ptrV x.2)
  | [], i, x, h => by simp at h
  | y :: L, 0, x, h => by
    have : y = x := by simpa using h
    subst this
    exact ⟨rfl, rfl⟩
  | y :: L, i + 1, x, h => by
    have ih := prs2_get L i x (by simpa using h)
    have e : prs2 (y :: L) = ptrV y.1 :: ptrV y.2 :: prs2 L := rfl
    rw [e, show (i + 1) * 2 = i * 2 + 2 by omega]
    exact ih
/-- The last item is taken away. -/
theorem own_pop {w : World} {B g j c sz : Nat} {e : TypeId} {xs : List Value} (h : w.ownsRow B e sz (.slice (some ⟨g, 0, none⟩) (j + 1) c) (j + 1) xs) : w.ownsRow B e sz (.slice (some ⟨g, 0, none⟩) j c) j (xs.take (j * sz)) := by
  have h1 := h.1
  have hm : j * sz ≤ (j + 1) * sz := Nat.mul_le_mul_right _ (by omega)
  refine ⟨by rw [List.length_take]; omega, ?_⟩
  rcases h.2 with ⟨h0, _⟩ | ⟨g', cap, cur, e1, e2, e3, e4, e5, e6, e7⟩
  · cases h0
  · injection e1 with e1 _ e12
    injection e1 with e1
    injection e1 with e1
    subst e1 e12
    refine .inr ⟨g, c, cur, rfl, e2, e3, by omega, e5, e6, ?_⟩
    rw [← e7, List.take_take, Nat.min_eq_left hm]
theorem info_pair : (Try.prog.info? 160).map (fun i => (i.zero, i.size, i.bytes)) = some (some (.agg #[.pointer none, .pointer none]), 2, 16) := by kernel_rfl
theorem own_here {w : World} {B g j c sz : Nat} {e : TypeId} {xs : List Value} (h : w.ownsRow B e sz (.slice (some ⟨g, 0, none⟩) j c) j xs) : j ≤ c ∧ B ≤ g ∧ g < w.heap.size ∧ ∀ i u, xs[i]? = some u → w.cell? ⟨g, i, none⟩ = some u := by
  rcases own_cells h with ⟨h0, _⟩ | ⟨g', cap, e1, e2, _, ⟨cs, t, hh⟩, e3⟩
  · cases h0
  · injection e1 with e1 _ e12
    injection e1 with e1
    injection e1 with e1
    subst e1 e12
    have := own_block h g rfl
    exact ⟨e2, this.1, this.2, e3⟩

theorem keep4 {w w' : World} {a b c d : Addr} {va vb vc vd : Value} (h : w.cell? a = some va ∧ w.cell? b = some vb ∧ w.cell? c = some vc ∧ w.cell? d = some vd) (hk : ∀ p : Addr, (p = a ∨ p = b ∨ p = c ∨ p = d) → w'.cell? p = w.cell? p) : w'.cell? a = some va ∧ w'.cell? b = some vb ∧ w'.cell? c = some vc ∧ w'.cell? d = some vd :=
  ⟨(hk a (by simp)).trans h.1, (hk b (by simp)).trans h.2.1, (hk c (by simp)).trans h.2.2.1, (hk d (by simp)).trans h.2.2.2⟩
theorem child_one {E : List (Nat × Nat × Nat)} (h : (E.map (·.2.2)).Nodup) {a b a' b' x : Nat} (h1 : (a, b, x) ∈ E) (h2 : (a', b', x) ∈ E) : a = a' ∧ b = b' := by
  induction E with
  | nil => cases h1
  | cons e r ih =>
    rw [List.map_cons, List.nodup_cons] at h
    rcases List.mem_cons.1 h1 with e1 | h1 <;> rcases List.mem_cons.1 h2 with e2 | h2
    · have e3 := e2.trans e1.symm; injection e3 with e3 e4; injection e4 with e4; exact ⟨e3.symm, e4.symm⟩
    · exact absurd (List.mem_map.2 ⟨_, h2, by rw [← e1]⟩) h.1
    · exact absurd (List.mem_map.2 ⟨_, h1, by rw [← e2]⟩) h.1
    · exact ih h.2 h1 h2
/-- What is fixed: the lists of the tree, which place holds which. -/
structure SF (W0 : World) (N M : Nat) (la : List Value) (D : List Nat) (E : List (Nat × Nat × Nat)) : Prop where
  nd : (E.map (·.2.2)).Nodup
  D_ : ∀ g ∈ D, M ≤ g ∧ g < N
  E_ : ∀ e ∈ E, ¬ rtOf la e.2.2 ∧ e.2.2 ∈ D
  rt : ∀ g, rtOf la g → g ∈ D
  ed : ∀ g j q n c, g ∈ D → W0.cell? ⟨g, j * 6 + 3, none⟩ = some (.slice (some ⟨q, 0, none⟩) n c) → (g, j, q) ∈ E
  root : ∀ q n c, W0.cell? ⟨N, 3, none⟩ = some (.slice (some ⟨q, 0, none⟩) n c) → rtOf la q
  MN : M ≤ N
def YOK (N M : Nat) (y : Addr) : Prop := y.block = N + 1 ∨ y.block < M
/-- A type that came in: what stands right below these cells. -/
def TWk (w : World) (t : Ty) (l : List Value) : Prop :=
  match t with
  | .mk k nm v kids _ rv => ∃ kv lv, l = tyC k nm v kv lv rv ∧ ∀ (i : Nat) t, kids[i]? = some t → TW w (kidAt kv i) t
theorem TWk.of {w : World} {t : Ty} {l : List Value} (h : TWV w t l) : TWk w t l := by
  obtain ⟨k, nm, v, kids, ls, rv⟩ := t
  obtain ⟨kv, A, n, c, h1, _, _, h4⟩ := h
  exact ⟨kv, _, h1, h4⟩
theorem TWk.open {w : World} {a : Addr} {t : Ty} (h : TW w a t) : ∃ l, AtC w w.heap.size a ∧ ReadsAt w a l ∧ 0 < l.length ∧ TWk w t l := by
  cases h with
  | mk _ k nm v kids ls rv kv lv h0 hat hr hk hi hks => exact ⟨_, hat, hr, by simp [tyC], kv, lv, rfl, hks⟩
structure SI (w1 W0 : World) (N : Nat) (la : List Value) (E : List (Nat × Nat × Nat)) (D : List Nat) (ks : List PP) (gs : List Ty) (L : List PP) (V : List Nat) : Prop where
  len : ks.length = gs.length
  ok : ∀ (i : Nat) p t, ks[i]? = some p → gs[i]? = some t → TF W0 p.1 t ∧ TR W0 p.2 t ∧ (∃ l, ReadsAt W0 p.2 l ∧ TWk w1 t l) ∧ AtB W0 p.2 ∧ YOK N w1.heap.size p.2
  nd : (ks.map Prod.fst ++ L.map Prod.fst).Nodup
  xs : ∀ x ∈ ks.map Prod.fst ++ L.map Prod.fst, x = ⟨N, 0, none⟩ ∨ ∃ g i, x = ⟨g, i * 6, none⟩ ∧ g ∈ V
  VD : ∀ g ∈ V, g ∈ D
  at_ : ∀ p ∈ L, AtCells W0 p.1
  vis : ∀ g ∈ V, (rtOf la g ∧ (⟨N, 0, none⟩ : Addr) ∈ L.map Prod.fst) ∨ ∃ P j, (P, j, g) ∈ E ∧ (⟨P, j * 6, none⟩ : Addr) ∈ L.map Prod.fst
/-- The places right below two places. -/
def news (kv kv' : Value) (n : Nat) : List PP := (List.range n).map fun i => (kidAt kv i, kidAt kv' i)
theorem news_len (kv kv' : Value) (n : Nat) : (news kv kv' n).length = n := by simp [news]
theorem news_get {kv kv' : Value} {n i : Nat} (h : i < n) : (news kv kv' n)[i]? = some (kidAt kv i, kidAt kv' i) := by
  unfold news
  rw [List.getElem?_map, List.getElem?_range h]
  rfl
theorem SI.off {w1 W0 : World} {N : Nat} {la : List Value} {D : List Nat} {E : List (Nat × Nat × Nat)} {ks : List PP} {gs : List Ty} {L : List PP} {V : List Nat} (hf : SF W0 N w1.heap.size la D E) (h : SI w1 W0 N la E D ks gs L V) {x : Addr} (hx : x ∈ ks.map Prod.fst ++ L.map Prod.fst) {y : Addr} (hy : YOK N w1.heap.size y) : x.block ≠ y.block ∧ x.block ≤ N := by
  have hMN := hf.MN
  rcases h.xs x hx with rfl | ⟨g, i, rfl, hg⟩
  · rcases hy with e | e
    · exact ⟨by show N ≠ y.block; omega, Nat.le_refl _⟩
    · exact ⟨by show N ≠ y.block; omega, Nat.le_refl _⟩
  · have := hf.D_ g (h.VD g hg)
    rcases hy with e | e
    · exact ⟨by show g ≠ y.block; omega, by show g ≤ N; omega⟩
    · exact ⟨by show g ≠ y.block; omega, by show g ≤ N; omega⟩
/-- The last pair is taken, and what stands right below is put down. -/
theorem SI.pop {w1 W0 : World} (hw : Below w1.heap.size w1 W0) {N : Nat} {la : List Value} {D : List Nat} {E : List (Nat × Nat × Nat)} {ks : List PP} {p0 : PP} {gs : List Ty} {k : Int} {nm : Str} {v : Int} {kids : List Ty} {ls : List Str} {rv : Int} {L : List PP} {V : List Nat} (hf : SF W0 N w1.heap.size la D E)
    (h : SI w1 W0 N la E D (ks ++ [p0]) (gs ++ [.mk k nm v kids ls rv]) L V) : ∃ kv lv kv' lv' V', p0.1.spot = none ∧ p0.2.spot = none ∧ AtCells W0 p0.1 ∧ AtB W0 p0.2 ∧ ReadsAt W0 p0.1 (tyC k nm v kv lv rv) ∧ ReadsAt W0 p0.2 (tyC k nm v kv' lv' rv) ∧ SlF W0 kv kids.length ∧ SlR kv' kids.length ∧ StrR W0 lv ls ∧ StrR W0 lv' ls ∧
      plook p0.1 L = none ∧ YOK N w1.heap.size p0.2 ∧ SI w1 W0 N la E D (ks ++ news kv kv' kids.length) (gs ++ kids) (L ++ [p0]) V' := by
  have hl : ks.length = gs.length := by have := h.len; simpa using this
  obtain ⟨hF, hR, ⟨l2, hr2, hW⟩, hB, hY⟩ := h.ok ks.length p0 (.mk k nm v kids ls rv) (by simp) (by rw [hl]; simp)
  have hA := hF.at_
  cases hF with
  | mk _ _ _ _ _ _ _ kv lv x0 _ hr hk hls hi hks =>
  cases hR with
  | mk _ _ _ _ _ _ _ kv' lv' y0 hr' hk' hls' hi' hks' =>
  obtain ⟨kv2, lv2, rfl, hks2⟩ := hW
  have e2 : kv2 = kv' := by
    have h1 := hr2 3 _ rfl
    have h2 := hr' 3 _ rfl
    rw [h1] at h2
    injection h2
  subst e2
  have hnot : p0.1 ∉ L.map Prod.fst := fun hm => by
    have := h.nd
    rw [List.nodup_append] at this
    exact this.2.2 p0.1 (by simp) p0.1 hm rfl
  have hpl : plook p0.1 L = none := by
    clear h
    induction L with
    | nil => rfl
    | cons e r ih =>
      rw [List.map_cons, List.mem_cons] at hnot
      unfold plook
      rw [if_neg fun e => hnot (.inl e)]
      exact ih fun hm => hnot (.inr hm)
  have hmemx : p0.1 ∈ (ks ++ [p0]).map Prod.fst ++ L.map Prod.fst := by simp
  -- what was there stays
  have hperm : ∀ new : List PP, ((ks ++ new).map Prod.fst ++ (L ++ [p0]).map Prod.fst).Perm (new.map Prod.fst ++ ((ks ++ [p0]).map Prod.fst ++ L.map Prod.fst)) := fun new => by
    rw [List.perm_iff_count]
    intro a
    simp only [List.map_append, List.count_append, List.map_cons, List.map_nil]
    omega
  have hlow : ∀ g, g ∈ L.map Prod.fst → g ∈ (L ++ [p0]).map Prod.fst := fun g hg => by rw [List.map_append]; exact List.mem_append_left _ hg
  have hvis0 : ∀ g ∈ V, (rtOf la g ∧ (⟨N, 0, none⟩ : Addr) ∈ (L ++ [p0]).map Prod.fst) ∨ ∃ P j, (P, j, g) ∈ E ∧ (⟨P, j * 6, none⟩ : Addr) ∈ (L ++ [p0]).map Prod.fst := fun g hg => by
    rcases h.vis g hg with ⟨h1, h2⟩ | ⟨P, j, h1, h2⟩
    · exact .inl ⟨h1, hlow _ h2⟩
    · exact .inr ⟨P, j, h1, hlow _ h2⟩
  have hat0 : ∀ p ∈ L ++ [p0], AtCells W0 p.1 := fun p hp => by
    rcases List.mem_append.1 hp with hp | hp
    · exact h.at_ p hp
    · rw [List.mem_singleton.1 hp]; exact hA
  rcases hk with ⟨rfl, hk0⟩ | ⟨q, rfl, hq0, hqa⟩
  · have hn0 : kids = [] := List.eq_nil_of_length_eq_zero hk0
    subst hn0
    refine ⟨_, lv, kv2, lv', V, x0, y0, hA, hB, hr, hr', .inl ⟨rfl, rfl⟩, hk', hls, hls', hpl, hY, ?_⟩
    have hp := hperm []
    simp only [List.map_nil, List.nil_append] at hp
    refine ⟨by simp [news, hl], fun i p t hi ht => ?_, ?_, fun x hx => h.xs x ?_, h.VD, hat0, hvis0⟩
    · simp only [news, List.length_nil, List.range_zero, List.map_nil, List.append_nil] at hi ht
      exact h.ok i p t (by rw [List.getElem?_append_left (List.getElem?_eq_some_iff.1 hi).1]; exact hi) (by rw [List.getElem?_append_left (List.getElem?_eq_some_iff.1 ht).1]; exact ht)
    · simp only [news, List.length_nil, List.range_zero, List.map_nil]
      exact hp.nodup_iff.2 h.nd
    · simp only [news, List.length_nil, List.range_zero, List.map_nil] at hx
      exact hp.mem_iff.1 hx
  · -- the list below is a new one
    have hqE : (p0.1 = ⟨N, 0, none⟩ ∧ rtOf la q) ∨ ∃ g i, p0.1 = ⟨g, i * 6, none⟩ ∧ g ∈ V ∧ (g, i, q) ∈ E := by
      have hc := hr 3 _ rfl
      rcases h.xs p0.1 hmemx with e | ⟨g, i, e, hg⟩
      · rw [e] at hc
        exact .inl ⟨e, hf.root q _ _ hc⟩
      · rw [e] at hc
        exact .inr ⟨g, i, e, hg, hf.ed g i q _ _ (h.VD g hg) hc⟩
    have hqD : q ∈ D := by
      rcases hqE with ⟨_, h1⟩ | ⟨g, i, _, _, h1⟩
      · exact hf.rt q h1
      · exact (hf.E_ _ h1).2
    have hqV : q ∉ V := fun hm => by
      rcases h.vis q hm with ⟨h1, h2⟩ | ⟨P, j, h1, h2⟩
      · rcases hqE with ⟨e, _⟩ | ⟨g, i, _, _, h3⟩
        · exact hnot (e ▸ h2)
        · exact (hf.E_ _ h3).1 h1
      · rcases hqE with ⟨_, h3⟩ | ⟨g, i, e, _, h3⟩
        · exact (hf.E_ _ h1).1 h3
        · obtain ⟨rfl, rfl⟩ := child_one hf.nd h1 h3
          exact hnot (e ▸ h2)
    have hqN := hf.D_ q hqD
    obtain ⟨n, hn⟩ : ∃ n, n = kids.length := ⟨_, rfl⟩
    rw [← hn] at hr hq0 hk'
    have hkid : ∀ i, kidAt (.slice (some ⟨q, 0, none⟩) n n) i = ⟨q, i * 6, none⟩ := fun i => by simp [kidAt]
    rw [← hn]
    refine ⟨_, lv, kv2, lv', q :: V, x0, y0, hA, hB, hr, hr', .inr ⟨q, rfl, hq0, hqa⟩, hk', hls, hls', hpl, hY, ?_⟩
    refine ⟨by rw [List.length_append, news_len, List.length_append, hl, hn], fun i p t hi ht => ?_, ?_, fun x hx => ?_, fun g hg => ?_, hat0, fun g hg => ?_⟩
    · by_cases hlt : i < ks.length
      · rw [List.getElem?_append_left hlt] at hi
        rw [List.getElem?_append_left (by omega)] at ht
        exact h.ok i p t (by rw [List.getElem?_append_left hlt]; exact hi) (by rw [List.getElem?_append_left (by omega)]; exact ht)
      · have hi2 := (List.getElem?_eq_some_iff.1 hi).1
        rw [List.length_append, news_len] at hi2
        rw [List.getElem?_append_right (by omega), news_get (by omega)] at hi
        rw [List.getElem?_append_right (by omega), ← hl] at ht
        injection hi with hi
        subst hi
        obtain ⟨l5, h5, h6, h7, h8⟩ := TWk.open (hks2 _ t ht)
        exact ⟨hks _ t ht, hks' _ t ht, ⟨l5, h6.keep (hw.block _ h5.2.2), h8⟩, (AtB.of h5 h6 h7).keep hw, .inr h5.2.2⟩
    · rw [(hperm _).nodup_iff, List.nodup_append]
      refine ⟨?_, h.nd, fun a ha b hb e => ?_⟩
      · unfold news
        rw [List.map_map]
        show List.Pairwise _ _
        rw [List.pairwise_map]
        exact List.nodup_range.imp fun {a b} hab e => by
          simp only [Function.comp, hkid] at e
          injection e with _ e
          omega
      · subst e
        obtain ⟨p, hp, rfl⟩ := List.mem_map.1 ha
        obtain ⟨i, _, rfl⟩ := List.mem_map.1 hp
        simp only [hkid] at hb
        rcases h.xs _ hb with e | ⟨g, j, e, hg⟩
        · injection e with e; omega
        · injection e with e; exact hqV (e ▸ hg)
    · rw [(hperm _).mem_iff, List.mem_append] at hx
      rcases hx with hx | hx
      · obtain ⟨p, hp, rfl⟩ := List.mem_map.1 hx
        obtain ⟨i, _, rfl⟩ := List.mem_map.1 hp
        exact .inr ⟨q, i, hkid i, List.mem_cons_self ..⟩
      · rcases h.xs x hx with e | ⟨g, j, e, hg⟩
        · exact .inl e
        · exact .inr ⟨g, j, e, List.mem_cons_of_mem _ hg⟩
    · rcases List.mem_cons.1 hg with rfl | hg
      · exact hqD
      · exact h.VD g hg
    · rcases List.mem_cons.1 hg with rfl | hg
      · rcases hqE with ⟨e, h1⟩ | ⟨g, i, e, _, h1⟩
        · exact .inl ⟨h1, by rw [← e]; simp⟩
        · exact .inr ⟨g, i, h1, by rw [← e]; simp⟩
      · exact hvis0 g hg
end Go.Proofs.Ythdfomcpoofkaaa.Si

/- types.Same: a tree of the call's own, and a type that is read alike. -/
namespace Go.Proofs.Ythdfomcpoofkaaa.Si
open Go.RowKit

theorem TFV.root {w : World} {t : Ty} {l : List Value} (h : TFV w t l) {a : Addr} (h0 : a.spot = none) (hat : AtCells w a) (hr : ReadsAt w a l) : TF w a t := by
  obtain ⟨k, nm, v, kids, ls, rv⟩ := t
  obtain ⟨kv, lv, rfl, h1, h2, h3, h4⟩ := h
  exact .mk a k nm v kids ls rv kv lv h0 hat hr h1 h2 h3 h4
theorem reads_lies {w : World} {b : Nat} {e : TypeId} {l : List Value} (h : Lies w b e l.toArray) : ReadsAt w ⟨b, 0, none⟩ l := fun i u hu => by
  rw [show (⟨b, 0 + i, none⟩ : Addr) = ⟨b, i, none⟩ by rw [Nat.zero_add], h.cell]
  simpa using hu
set_option maxRecDepth 100000 in
set_option maxHeartbeats 16000000 in
theorem same_tree (w1 w : World) (hbel : Below w1.heap.size w1 w) (t : Ty) (la lb : List Value) (N0 : Nat) (hN : w1.heap.size ≤ N0) (ha : TFV w t la) (htr : Tree1 N0 la w) (hr : TRV w1 t lb) (hwv : TWV w1 t lb) (hsz : t.size ≤ 1000) :
    Calls Try.prog 82 #[.agg la.toArray, .agg lb.toArray] w fun e w' => e = .returned (.bool true) ∧ Below w.heap.size w w' := by
  obtain ⟨D, E, hE1, hE2, hE3, hE4, hE5⟩ := htr
  obtain ⟨W1, hW1⟩ : ∃ W1, W1 = (w.alloc (.cells la.toArray 28)).alloc (.cells lb.toArray 28) := ⟨_, rfl⟩
  have hb1 : Below w.heap.size w W1 := by rw [hW1]; exact ((Below.refl _ w).alloc (Nat.le_refl _) _).alloc (by simp) _
  have hs1 : W1.heap.size = w.heap.size + 2 := by rw [hW1]; simp
  have la1 : Lies W1 w.heap.size 28 la.toArray := by rw [hW1]; exact (Lies.new w _ _).alloc _
  have lb1 : Lies W1 (w.heap.size + 1) 28 lb.toArray := by rw [hW1]; exact Lies.new' _ _ _ (by simp)
  have hw1W : Below w1.heap.size w1 W1 := hbel.trans (hb1.mono hbel.size)
  have hla6 : la.length = 6 := ha.trv.len
  have hlb6 : lb.length = 6 := hr.len
  have hM : w1.heap.size ≤ w.heap.size := hbel.size
  have hSF : SF W1 w.heap.size w1.heap.size la D E := by
    refine ⟨hE1, fun g hg => ⟨Nat.le_trans hN (hE2 g hg).1, (hE2 g hg).2⟩, hE3, hE4, fun g j q n c hg hc => ?_, fun q n c hc => ⟨n, c, ?_⟩, hM⟩
    · rw [World.cell?_of_block (w := w) (a := ⟨g, j * 6 + 3, none⟩) (hb1.block _ (hE2 g hg).2)] at hc
      exact hE5 g j q n c hg hc
    · rw [la1.cell] at hc
      simpa using hc
  have hB0 : AtB W1 ⟨w.heap.size + 1, 0, none⟩ := ⟨lb1.lt, _, _, _, lb1, by simp [hlb6], lb1.free 0⟩
  have hSI : SI w1 W1 w.heap.size la E D [(⟨w.heap.size, 0, none⟩, ⟨w.heap.size + 1, 0, none⟩)] [t] [] [] := by
    refine ⟨rfl, fun i p u hi hu => ?_, by simp, fun x hx => ?_, fun g hg => (by cases hg), fun p hp => (by cases hp), fun g hg => (by cases hg)⟩
    · match i, hi, hu with
      | 0, hi, hu =>
        simp only [List.getElem?_cons_zero, Option.some.injEq] at hi hu
        subst hi hu
        exact ⟨(TFV.root (ha.later hb1) rfl ⟨_, _, la1⟩ (reads_lies la1)), ((hr.later hbel).later hb1).at_ rfl (reads_lies lb1), ⟨lb, reads_lies lb1, .of hwv⟩, hB0, .inl rfl⟩
      | i + 1, hi, hu => simp at hi
    · simp only [List.map_cons, List.map_nil, List.append_nil, List.mem_singleton] at hx
      exact .inl hx
  obtain ⟨i0, hi, hy0, hy1, hy2⟩ := info_parts info_pair
  have hmm := @run_makeMap Try.prog
  obtain ⟨a0, a1, a2, a3, a4, a5, rfl⟩ : ∃ a b c d e f, la = [a, b, c, d, e, f] := by
    match la, hla6 with
    | [a, b, c, d, e, f], _ => exact ⟨a, b, c, d, e, f, rfl⟩
  obtain ⟨b0, bb1, b2, b3, b4, b5, rfl⟩ : ∃ a b c d e f, lb = [a, b, c, d, e, f] := by
    match lb, hlb6 with
    | [a, b, c, d, e, f], _ => exact ⟨a, b, c, d, e, f, rfl⟩
  have HW := Lib.hid hW1
  have HS1 := Lib.hid hs1
  have HB1 := Lib.hid hb1
  have HSF := Lib.hid hSF
  have HSI := Lib.hid hSI
  have HW1W := Lib.hid hw1W
  clear hW1 hs1 hb1 la1 lb1 hSF hSI hE1 hE2 hE3 hE4 hE5 ha hr hwv hB0 hw1W hbel
  go_enter Try.func82, Try.ntmps82
  go_wp2_with fail
  rw [← HW.out]
  obtain ⟨m2, hm2⟩ : ∃ m2, m2 = W1.alloc (.map #[] 0) := ⟨_, rfl⟩
  rw [← hm2]
  obtain ⟨m3, hm3⟩ : ∃ m3, m3 = m2.alloc (.cells #[.pointer (some ⟨w.heap.size, 0, none⟩), .pointer (some ⟨w.heap.size + 1, 0, none⟩)] 160) := ⟨_, rfl⟩
  rw [← hm3]
  have z1 := HS1.out
  have z2 : m2.heap.size = w.heap.size + 3 := by rw [hm2, World.size_alloc, z1]
  have z3 : m3.heap.size = w.heap.size + 4 := by rw [hm3, World.size_alloc, z2]
  have b2 : Below W1.heap.size W1 m2 := by rw [hm2]; exact below_new _ _
  have b3 : Below m2.heap.size m2 m3 := by rw [hm3]; exact below_new _ _
  have b13 : Below W1.heap.size W1 m3 := b2.trans (b3.mono (by omega))
  have pm3 : PMap m3 (w.heap.size + 2) [] := by
    have h := PMap.made W1
    rw [← hm2, z1] at h
    exact h.keep (b3.block _ (by omega))
  have l3 : Lies m3 (w.heap.size + 3) 160 #[.pointer (some ⟨w.heap.size, 0, none⟩), .pointer (some ⟨w.heap.size + 1, 0, none⟩)] := by rw [hm3]; exact Lies.new' _ _ _ z2
  have ow3 : m3.ownsRow (w.heap.size + 3) 160 2 (.slice (some ⟨w.heap.size + 3, 0, none⟩) 1 1) 1 [.pointer (some ⟨w.heap.size, 0, none⟩), .pointer (some ⟨w.heap.size + 1, 0, none⟩)] := ⟨rfl, .inr ⟨_, 1, _, rfl, Nat.le_refl _, l3, Nat.le_refl _, by unfold maxLen; omega, rfl, rfl⟩⟩
  have B13 := Lib.hid b13
  have PM3 := Lib.hid pm3
  have OW3 := Lib.hid ow3
  have Z3 := Lib.hid z3
  clear hm2 hm3 z1 z2 b2 b3 b13 pm3 l3 ow3 z3
  generalize hNN : w.heap.size = N at *
  go_loopg [6] (1001) (fun gh td wr => ∃ (ks : List PP) (gs : List Ty) (L : List PP) (V : List Nat) (g c n0 : Nat), ks.length = n0 ∧ td = .slice (some ⟨g, 0, none⟩) n0 c ∧ wr.ownsRow (N + 3) 160 2 td n0 (prs2 ks) ∧ PMap wr (N + 2) L ∧ SI w1 W1 N [a0, a1, a2, a3, a4, a5] E D ks gs L V ∧ Below W1.heap.size W1 wr ∧ N + 4 ≤ wr.heap.size ∧ Ty.sizeL gs + 1 ≤ gh ∧ gh ≤ 1001)
  case atStart => exact ⟨[(⟨N, 0, none⟩, ⟨N + 1, 0, none⟩)], [t], [], [], N + 3, 1, 1, rfl, by first | rfl | simp, OW3.out, PM3.out, HSI.out, B13.out, by have := Z3.out; omega, by simp only [Ty.sizeL]; omega, Nat.le_refl _⟩
  case round =>
    obtain ⟨ks, gs, L, V, g, c, n0, hn0, rfl, hown, hpm, hsi, hbw, hsz4, hgh, hgm⟩ := hrel
    have hS1 := HS1.out
    obtain ⟨wo, rfl⟩ : ∃ wo, wo = wr := ⟨_, rfl⟩
    rcases List.eq_nil_or_concat ks with rfl | ⟨ks', p0, rfl⟩
    · obtain rfl : n0 = 0 := by simpa using hn0.symm
      go_wp2
      go_ret
      exact ⟨rfl, by rw [hNN]; exact HB1.out.trans (hbw.mono (by have := HB1.out.size; omega))⟩
    · rw [List.concat_eq_append] at hown hsi hn0
      obtain ⟨m, rfl⟩ : ∃ m, n0 = m + 1 := ⟨ks'.length, by simpa using hn0.symm⟩
      have hm : m = ks'.length := by simpa using hn0.symm
      clear hn0
      obtain ⟨gs', t0, rfl⟩ : ∃ a b, gs = a ++ [b] := by
        rcases List.eq_nil_or_concat gs with rfl | ⟨a, b, rfl⟩
        · have := hsi.len; simp at this
        · exact ⟨a, b, List.concat_eq_append ..⟩
      obtain ⟨k, nm, v, kids, ls, rv⟩ := t0
      have hnd := hsi.nd
      have hofx : ∀ y, YOK N w1.heap.size y → p0.1.block ≠ y.block ∧ p0.1.block ≤ N := fun y hy => hsi.off HSF.out (x := p0.1) (by simp) hy
      have hofL : ∀ p ∈ L, ∀ y, YOK N w1.heap.size y → p.1.block ≠ y.block ∧ p.1.block ≤ N := fun p hp y hy => hsi.off HSF.out (List.mem_append_right _ (List.mem_map.2 ⟨p, hp, rfl⟩)) hy
      have hatL := hsi.at_
      obtain ⟨kv, lv, kv', lv', V', x0, y0, hA, hB, hrx, hry, hk, hk', hl1, hl2, hpl, hY, hnew⟩ := SI.pop HW1W.out HSF.out hsi
      have hlen : (ks' ++ [p0]).length = m + 1 := by simp [hm]
      have hm9 : m ≤ 1001 := by
        have h1 := hsi.len
        have h2 := sizeL_lenG (gs' ++ [.mk k nm v kids ls rv])
        rw [hlen] at h1
        omega
      have hkl : kids.length ≤ 1001 := by
        have h2 := sizeL_lenG kids
        rw [sizeL_appG] at hgh
        simp only [Ty.sizeL, Ty.size] at hgh
        omega
      have hp := prs2_get (ks' ++ [p0]) m p0 (by simp [hm])
      have hHere := own_here hown
      have hpt : (prs2 (ks' ++ [p0])).take (m * 2) = prs2 ks' := by rw [prs2_app, hm, ← prs2_len]; exact List.take_left
      obtain ⟨⟨xb, xo, xs⟩, ⟨yb, yo, ys⟩⟩ := p0
      obtain rfl : xs = none := x0
      obtain rfl : ys = none := y0
      have p0c : wo.cell? ⟨g, m * 2, none⟩ = some (.pointer (some ⟨xb, xo, none⟩)) := hHere.2.2.2 _ _ hp.1
      have p1c : wo.cell? ⟨g, m * 2 + 1, none⟩ = some (.pointer (some ⟨yb, yo, none⟩)) := hHere.2.2.2 _ _ hp.2
      have hmc : m < c := by omega
      have hgw : g < wo.heap.size := hHere.2.2.1
      have hbn := below_new wo (.cells #[.pointer (some ⟨xb, xo, none⟩), .pointer (some ⟨yb, yo, none⟩)] 160)
      have hB0 : Below W1.heap.size W1 (wo.alloc (.cells #[.pointer (some ⟨xb, xo, none⟩), .pointer (some ⟨yb, yo, none⟩)] 160)) := hbw.trans (hbn.mono hbw.size)
      have hj := join_b _ (N + 2) L ⟨xb, xo, none⟩ ⟨yb, yo, none⟩ (hofx _ hY).1 (hpm.keep (hbn.block _ hpm.lt)) (hA.keep (hB0.block _ hA.lt)) (hB.keep hB0) (fun p hp => (hatL p hp).keep (hB0.block _ (hatL p hp).lt)) hpl (fun p hp => (hofL p hp _ hY).1)
      have how := own_pop (own_later hown hbn)
      rw [hpt] at how
      have hxb : xb < W1.heap.size := hA.lt
      have hyb : yb < W1.heap.size := hB.1
      obtain ⟨A, q, rfl, hq, hqa⟩ := hk.slr.form
      obtain ⟨A', q', rfl, hq', hqa'⟩ := hk'.form
      have lp := Lies.new wo 160 #[.pointer (some ⟨xb, xo, none⟩), .pointer (some ⟨yb, yo, none⟩)]
      have x3 := hrx 3 _ rfl
      have y3 := hry 3 _ rfl
      have HJ := Lib.hid hj
      have HOW := Lib.hid how
      have HLP := Lib.hid lp
      have HB0 := Lib.hid hB0
      have HR := Lib.hid (And.intro hrx (And.intro hry (And.intro hl1 hl2)))
      have HNEW := Lib.hid hnew
      have HM := Lib.hid hm
      have HX := Lib.hid (And.intro x3 y3)
      have HQA := Lib.hid (And.intro hqa hqa')
      have HPS := Lib.hid hbn.size
      have HGH := Lib.hid hgh
      clear hm hj how lp hB0 hbn hpm hA hB hrx hry hl1 hl2 hnew hHere hp hofx hofL hatL hnd hsi hown hbw x3 y3 hpl hY hpt hqa hqa' hk hk' hlen hgh
      go_wp2_with fail
      refine HJ.out.mono ?_
      rintro e Wj ⟨rfl, hpm1, hbt⟩
      have hBj : Below W1.heap.size W1 Wj := HB0.out.trans (hbt.below (by omega) HB0.out.size)
      have lpj : Lies Wj wo.heap.size 160 #[.pointer (some ⟨xb, xo, none⟩), .pointer (some ⟨yb, yo, none⟩)] := (hbt.block _ HLP.out.lt (by omega)).trans HLP.out
      have hoj := own_same HOW.out (w' := Wj) (fun g hg hlt => hbt.block g hlt (by omega))
      have hszj : wo.heap.size + 1 ≤ Wj.heap.size := by have := hbt.size; simp at this; omega
      have hsa := alone_alike Wj xb xo yb yo k nm v A A' kids.length q q' lv lv' ls rv (HR.out.1.keep (hBj.block _ hxb)) (HR.out.2.1.keep (hBj.block _ hyb)) (HR.out.2.2.1.keep hBj.block) (HR.out.2.2.2.keep hBj.block)
      have q0 := lpj.cell 0
      have q1 := lpj.cell 1
      have HSA := Lib.hid hsa
      have HOJ := Lib.hid hoj
      have HPM1 := Lib.hid hpm1
      clear hsa hoj hpm1 HJ HOW HLP
      go_wp2_with fail
      refine HSA.out.mono ?_
      rintro e W2 ⟨rfl, hb2⟩
      have hB2 : Below W1.heap.size W1 W2 := hBj.trans (hb2.mono hBj.size)
      have lp2 := lpj.later hb2
      have r0 := lp2.cell 0
      have r1 := lp2.cell 1
      have ho2 := own_later HOJ.out hb2
      have hpm2 := HPM1.out.keep (hb2.block _ HPM1.out.lt)
      have hX := HX.out
      have x3 : W2.cell? ⟨xb, xo + 3, none⟩ = some (.slice A kids.length q) := (World.cell?_of_block (w := W1) (a := ⟨xb, xo + 3, none⟩) (hB2.block _ hxb)).trans hX.1
      have hsz2 : wo.heap.size + 1 ≤ W2.heap.size := by have := hb2.size; omega
      have hgP : g ≠ wo.heap.size := by omega
      have HLP2 := Lib.hid lp2
      have HO2 := Lib.hid ho2
      have HPM2 := Lib.hid hpm2
      clear ho2 hpm2 HSA HOJ HPM1 lpj q0 q1 lp2 hX
      go_wp2
      go_loopw [6, 42] (fun td i Wr => ∃ j g c, j ≤ kids.length ∧ td = .slice (some ⟨g, 0, none⟩) (m + j) c ∧ i = .int .i64 j ∧ Wr.ownsRow (N + 3) 160 2 td (m + j) (prs2 (ks' ++ (news (.slice A kids.length q) (.slice A' kids.length q') kids.length).take j)) ∧ PMap Wr (N + 2) (L ++ [(⟨xb, xo, none⟩, ⟨yb, yo, none⟩)]) ∧ Below W1.heap.size W1 Wr ∧ wo.heap.size + 1 ≤ Wr.heap.size ∧ g ≠ wo.heap.size ∧ Lies Wr wo.heap.size 160 #[.pointer (some ⟨xb, xo, none⟩), .pointer (some ⟨yb, yo, none⟩)]) (fun _ i _ => kids.length - (intOf i).toNat)
      case atStart => exact ⟨0, g, c, Nat.zero_le _, by first | rfl | simp, rfl, by simpa using HO2.out, HPM2.out, hB2, hsz2, hgP, HLP2.out⟩
      case round =>
        obtain ⟨j, g, c, hj, rfl, rfl, hown, hpm, hbw, hsz5, hgn, hlp⟩ := hrel
        have s0 := hlp.cell 0
        have s1 := hlp.cell 1
        have hX := HX.out
        have y3 : wr.cell? ⟨xb, xo + 3, none⟩ = some (.slice A kids.length q) := (World.cell?_of_block (w := W1) (a := ⟨xb, xo + 3, none⟩) (hbw.block _ hxb)).trans hX.1
        have y4 : wr.cell? ⟨yb, yo + 3, none⟩ = some (.slice A' kids.length q') := (World.cell?_of_block (w := W1) (a := ⟨yb, yo + 3, none⟩) (hbw.block _ hyb)).trans hX.2
        clear hX
        by_cases hlt : j < kids.length
        · obtain ⟨g5, o5, rfl⟩ := HQA.out.1 (by omega)
          obtain ⟨g6, o6, rfl⟩ := HQA.out.2 (by omega)
          have hjq : j < q := by omega
          have hjq' : j < q' := by omega
          have hji : (j : Int) < (kids.length : Int) := by omega
          have hx5 : (news (.slice (some ⟨g5, o5, none⟩) kids.length q) (.slice (some ⟨g6, o6, none⟩) kids.length q') kids.length)[j]? = some (⟨g5, o5 + j * 6, none⟩, ⟨g6, o6 + j * 6, none⟩) := news_get hlt
          have HOW := Lib.hid hown
          have HPM := Lib.hid hpm
          have HLPr := Lib.hid hlp
          clear hown hpm hlp
          have hS : wr.cell? ⟨wo.heap.size, 0, none⟩ = some (.pointer (some ⟨xb, xo, none⟩)) ∧ wr.cell? ⟨wo.heap.size, 1, none⟩ = some (.pointer (some ⟨yb, yo, none⟩)) ∧ wr.cell? ⟨xb, xo + 3, none⟩ = some (.slice (some ⟨g5, o5, none⟩) kids.length q) ∧ wr.cell? ⟨yb, yo + 3, none⟩ = some (.slice (some ⟨g6, o6, none⟩) kids.length q') := ⟨s0, s1, y3, y4⟩
          have hbn := below_new wr (.cells #[.pointer (some ⟨g5, o5 + j * 6, none⟩), .pointer (some ⟨g6, o6 + j * 6, none⟩)] 160)
          have hbs : W1.heap.size ≤ wr.heap.size := hbw.size
          have hS2 := keep4 (w' := (wr.alloc (.cells #[.pointer (some ⟨g5, o5 + j * 6, none⟩), .pointer (some ⟨g6, o6 + j * 6, none⟩)] 160)).drew) hS (fun p hp => hbn.cell (p := p) (by rcases hp with rfl | rfl | rfl | rfl <;> (show _ < _; simp; omega)))
          have hone : ∀ u ∈ [Value.pointer (some (⟨g5, o5 + j * 6, none⟩ : Addr)), Value.pointer (some (⟨g6, o6 + j * 6, none⟩ : Addr))], u.oneCell' = true := by simp [Value.oneCell']
          have hHere := own_here HOW.out
          have hg5N : N + 3 ≤ g ∧ g < wr.heap.size := ⟨hHere.2.1, hHere.2.2.1⟩
          have HS := Lib.hid hS
          have HS2 := Lib.hid hS2
          have HBN := Lib.hid hbn
          have HX5 := Lib.hid hx5
          have HBW := Lib.hid hbw
          clear hS hS2 hHere hbn hx5 hbw
          go_wp2
          go_region_held3 (fun w' => w'.cell? ⟨wo.heap.size, 0, none⟩ = some (.pointer (some ⟨xb, xo, none⟩)) ∧ w'.cell? ⟨wo.heap.size, 1, none⟩ = some (.pointer (some ⟨yb, yo, none⟩)) ∧ w'.cell? ⟨xb, xo + 3, none⟩ = some (.slice (some ⟨g5, o5, none⟩) kids.length q) ∧ w'.cell? ⟨yb, yo + 3, none⟩ = some (.slice (some ⟨g6, o6, none⟩) kids.length q'))
            (first | exact HS.out | exact HS2.out | exact keep4 HS2.out (fun p hp => hgr9.cell_far p (by rcases hp with rfl | rfl | rfl | rfl <;> (show _ < (wr.alloc _).heap.size; simp; omega)) (fun e => by injection e with e; rcases hp with rfl | rfl | rfl | rfl <;> (simp at e; omega))))
            (first | (refine step_append_lies _ rfl (.tmp 45) (.tmp 61) 161 rfl (N + 3) 160 i0 (.agg #[.pointer none, .pointer none]) 2 16 Try.underlying161 hi hy0 hy1 hy2 rfl (by decide) _ (m + j) _ rfl (own_later HOW.out HBN.out.drew) ⟨wr.heap.size, 0, none⟩ 1 1 [.pointer (some ⟨g5, o5 + j * 6, none⟩), .pointer (some ⟨g6, o6 + j * 6, none⟩)] rfl rfl (World.news_of_block (Lies.new wr 160 #[.pointer (some ⟨g5, o5 + j * 6, none⟩), .pointer (some ⟨g6, o6 + j * 6, none⟩)])) hone (by decide) (by unfold maxLen; omega) (by omega) (by show N + 3 ≤ (wr.alloc _).heap.size; rw [World.size_alloc]; omega) _ rfl ?_; intro g9 c9 W9 hown9 hgr8 hat8 hlt9; have hgr9 : World.grownBy (wr.alloc (.cells #[.pointer (some ⟨g5, o5 + j * 6, none⟩), .pointer (some ⟨g6, o6 + j * 6, none⟩)] 160)) W9 (some g) := ⟨hgr8.os, hgr8.tape, hgr8.output, hgr8.size, hgr8.block⟩; have hat9 : some g = some g9 ∨ g9 = (wr.alloc (.cells #[.pointer (some ⟨g5, o5 + j * 6, none⟩), .pointer (some ⟨g6, o6 + j * 6, none⟩)] 160)).heap.size := hat8; clear hgr8 hat8))
          have hx5 := HX5.out
          have htk : (news (.slice (some ⟨g5, o5, none⟩) kids.length q) (.slice (some ⟨g6, o6, none⟩) kids.length q') kids.length).take (j + 1) = (news (.slice (some ⟨g5, o5, none⟩) kids.length q) (.slice (some ⟨g6, o6, none⟩) kids.length q') kids.length).take j ++ [(⟨g5, o5 + j * 6, none⟩, ⟨g6, o6 + j * 6, none⟩)] := take_step _ _ _ hx5
          have hblk : ∀ b, b < wr.heap.size → b ≠ g → W9.heap[b]? = wr.heap[b]? := fun b hb hbg =>
            (hgr9.block b (by show b < (wr.alloc _).heap.size; rw [World.size_alloc]; omega) (fun e => hbg (by injection e))).trans (Below.heap_alloc wr _ b hb)
          have hown10 : W9.ownsRow (N + 3) 160 2 (.slice (some ⟨g9, 0, none⟩) (m + (j + 1)) c9) (m + (j + 1)) (prs2 (ks' ++ (news (.slice (some ⟨g5, o5, none⟩) kids.length q) (.slice (some ⟨g6, o6, none⟩) kids.length q') kids.length).take (j + 1))) := by
            rw [htk, ← List.append_assoc, prs2_app]; exact hown9
          have hsz9 : wo.heap.size + 1 ≤ W9.heap.size := by
            have h1 : (wr.alloc (.cells #[.pointer (some ⟨g5, o5 + j * 6, none⟩), .pointer (some ⟨g6, o6 + j * 6, none⟩)] 160)).heap.size ≤ W9.heap.size := hgr9.size
            rw [World.size_alloc] at h1
            omega
          have hg9 : g9 ≠ wo.heap.size := by
            rcases hat9 with h1 | h1
            · injection h1 with h1; rw [← h1]; exact hgn
            · rw [World.size_alloc] at h1; omega
          have hB9 : Below W1.heap.size W1 W9 := HBW.out.trans ⟨hgr9.os, hgr9.tape, hgr9.output, by have h1 : (wr.alloc (.cells #[.pointer (some ⟨g5, o5 + j * 6, none⟩), .pointer (some ⟨g6, o6 + j * 6, none⟩)] 160)).heap.size ≤ W9.heap.size := hgr9.size; rw [World.size_alloc] at h1; omega, fun b hb => hblk b (by have := HBW.out.size; omega) (by omega)⟩
          have hpm9 := HPM.out.keep (hblk _ HPM.out.lt (by omega))
          have hlp9 : Lies W9 wo.heap.size 160 #[.pointer (some ⟨xb, xo, none⟩), .pointer (some ⟨yb, yo, none⟩)] := (hblk _ HLPr.out.lt (fun e => hgn e.symm)).trans HLPr.out
          have HOA := Lib.hid hown10
          have HPA := Lib.hid hpm9
          have HLA9 := Lib.hid hlp9
          clear hown9 hown10 hpm9 hlp9 hgr9 hat9 hlt9 hblk htk hx5
          go_wp2_with fail
          go_roundw
          case rel => exact ⟨j + 1, g9, c9, by omega, rfl, by simp, HOA.out, HPA.out, hB9, hsz9, hg9, HLA9.out⟩
          case measure => (simp [intOf] <;> omega)
        · obtain rfl : j = kids.length := by omega
          have hgh := HGH.out
          have hm := HM.out
          rw [sizeL_appG] at hgh
          simp only [Ty.sizeL, Ty.size] at hgh
          have htl : (news (.slice A kids.length q) (.slice A' kids.length q') kids.length).take kids.length = news (.slice A kids.length q) (.slice A' kids.length q') kids.length := List.take_of_length_le (by rw [news_len]; exact Nat.le_refl _)
          rw [htl] at hown
          have hlw : (ks' ++ news (.slice A kids.length q) (.slice A' kids.length q') kids.length).length = m + kids.length := by rw [List.length_append, news_len, hm]
          have HO := Lib.hid hown
          have HPMf := Lib.hid hpm
          have HBWf := Lib.hid hbw
          clear hown hpm hbw htl
          go_wp2
          go_roundg (Ty.sizeL gs' + Ty.sizeL kids + 1)
          case measure => omega
          case rel => exact ⟨ks' ++ news (.slice A kids.length q) (.slice A' kids.length q') kids.length, gs' ++ kids, _, V', g, c, m + kids.length, hlw, rfl, HO.out, HPMf.out, HNEW.out, HBWf.out, by omega, by rw [sizeL_appG]; exact Nat.le_refl _, by omega⟩
end Go.Proofs.Ythdfomcpoofkaaa.Si
