/- The contract of what reads a unary term. -/
import Derived.Test.YtmodmojocclmaaaGreatDoorMg29
import Derived.Test.YtmodmojocclmaaaGreatDoorMg30
import Derived.Test.YtmodmojocclmaaaGreatDoorMg00
import Derived.Test.YtmodmojocclmaaaGreatDoorMg03
import Derived.Outline
namespace Go.Proofs.YtmodmojocclmaaaGreatDoor
open Go.RowKit Pz Go.Shelf
attribute [local go_sem] Oper.semAt_some

theorem ahead_no {s : St} (h : pre s = false) (n : Nat) : Pz.ahead n s = ([], s) := by
 cases n with
 | zero => rfl
 | succ n => unfold Pz.ahead; rw [h]; rfl
theorem ahead_yes {s : St} (h : pre s = true) (n : Nat) : Pz.ahead (n + 1) s = (hd s :: (Pz.ahead n (take s)).1, (Pz.ahead n (take s)).2) := by rw [Pz.ahead, if_pos h]
structure AhRel (pb sz n N : Nat) (w : World) (res : List Lx.Tk × St) (g : Nat) (v : Value) (wr : World) (zs : List Lx.Tk) (s : St) : Prop where
 goes : Goes pb sz w s wr
 out : Lies wr N 33 zC
 own : wr.ownsRow (N + 1) 130 4 v zs.length (wordsC zs)
 lg : s.ws.length ≤ g
 ln : zs.length + s.ws.length ≤ n
 res : res = (zs ++ (Pz.ahead g s).1, (Pz.ahead g s).2)
def AhAny (pb sz n N : Nat) (w : World) (res : List Lx.Tk × St) (g : Nat) (v : Value) (wr : World) : Prop := ∃ zs s, AhRel pb sz n N w res g v wr zs s
theorem pre_T {s : St} (h : isT [tPrint, tRef, tBang] s = true) : pre s = true := by unfold pre; rw [h]; rfl
theorem pre_F {s : St} (h : isT [tPrint, tRef, tBang] s = false) : pre s = isOf [6] s := by unfold pre; rw [h]; rfl

theorem enter_back (args : Array Value) (w : World) : (callFunc 153 args).run Tryz.prog w = .ok (.enter 153 args) w := by go_simp
def UnI (N b n1 : Nat) (W0 : World) (t0 : Tm) (pre : List (Nat × Lx.Tk)) (W : World) : Prop :=
 (∃ l, Lies W b 33 l.toArray ∧ HT W (fun g => N < g ∧ g ≠ b) (pre.foldl (fun t x => wrap x.2 t) t0) l) ∧ Ku n1 b W0 W
theorem unI_own {N b n1 B : Nat} {W0 : World} {t0 : Tm} (hn : n1 ≤ W0.heap.size) (hB : n1 ≤ B) : OwnFrom B (UnI N b n1 W0 t0) := by
 intro pre X Y row ⟨⟨l, h1, h2⟩, h3⟩ hg hr
 have hr' : ∀ r, row = some r → ∃ o : Obj, X.heap[r]? = some o ∧ o.isCells = false := fun r e => (hr r e).2
 exact ⟨⟨l, Lies.kept h1 hg hr', h2.kept hg hr'⟩, Ku.own (β := Unit) hn hB () X Y row h3 hg hr⟩

theorem un_step {N b : Nat} {W : World} {T : Tm} {l' : List Value} {x : Lx.Tk} {kk : Nat} (hk : (if x.k = 6 then 13 else 10) = kk) (hT : HT W (fun g => N < g ∧ g ≠ b) T l') (hN : N < W.heap.size) (hb : b < W.heap.size) :
  HT ((W.alloc (.cells l'.toArray 33)).setRow b (tmC kk x.pos x.t [] 0 (.slice (some ⟨W.heap.size, 0, none⟩) 1 1) (.slice none 0 0)).toArray) (fun g => N < g ∧ g ≠ b) (wrap x T) (tmC kk x.pos x.t [] 0 (.slice (some ⟨W.heap.size, 0, none⟩) 1 1) (.slice none 0 0)) := by
 have hlen := hT.len
 have h1 := Rw.lit W (fun g => N < g ∧ g ≠ b) 33 21 [l'] (by simpa using hlen) rfl ⟨hN, by omega⟩ (n := 1) rfl (by unfold maxLen; omega)
 have e1 : [l'].flatten = l' := by simp
 rw [e1] at h1
 unfold wrap
 rw [hk]
 refine HT.kids kk x.pos x.t [] 0 (kc := [l']) ⟨h1.1, h1.2.same (fun g hg _ => heap_setRow _ _ _ _ hg.2)⟩ rfl ?_
 intro i tt c h2 h3
 match i, h2, h3 with
 | 0, h2, h3 =>
  simp at h2 h3
  subst h2 h3
  exact HT.setRow (hT.later (below_new _ _)) (fun g hg => hg.2) _
 | i + 1, h2, _ => simp at h2
theorem un_keeps {B b : Nat} {W : World} (hb : b < B) (o : Obj) (cs : Array Value) : KeepsFrom B W ((W.alloc o).setRow b cs) :=
 ⟨by rw [size_setRow]; simp, fun k o' hk h0 _ => by
  rw [heap_setRow _ _ _ _ (by omega)]
  exact (Below.heap_alloc W o k (Array.getElem?_eq_some_iff.1 h0).1).trans h0⟩
theorem un_round {N b n1 : Nat} {W0 W : World} {t0 : Tm} {pre : List (Nat × Lx.Tk)} {x : Nat × Lx.Tk} {l' : List Value} {kk : Nat} (hk : (if x.2.k = 6 then 13 else 10) = kk) (hn : n1 ≤ W0.heap.size) (hbn : b < n1) (hNn : N < n1)
  (hB : Lies W b 33 l'.toArray) (hT : HT W (fun g => N < g ∧ g ≠ b) (pre.foldl (fun t x => wrap x.2 t) t0) l') (hK : Ku n1 b W0 W) :
  KeepsFrom W0.heap.size W ((W.alloc (.cells l'.toArray 33)).setRow b (tmC kk x.2.pos x.2.t [] 0 (.slice (some ⟨W.heap.size, 0, none⟩) 1 1) (.slice none 0 0)).toArray) ∧
  Ku n1 b W ((W.alloc (.cells l'.toArray 33)).setRow b (tmC kk x.2.pos x.2.t [] 0 (.slice (some ⟨W.heap.size, 0, none⟩) 1 1) (.slice none 0 0)).toArray) ∧
  UnI N b n1 W0 t0 (pre ++ [x]) ((W.alloc (.cells l'.toArray 33)).setRow b (tmC kk x.2.pos x.2.t [] 0 (.slice (some ⟨W.heap.size, 0, none⟩) 1 1) (.slice none 0 0)).toArray) := by
 have hs := hK.size
 have hk2 := ((Ku.refl n1 b W).alloc (by omega) (.cells l'.toArray 33)).setRow (.inl rfl) (tmC kk x.2.pos x.2.t [] 0 (.slice (some ⟨W.heap.size, 0, none⟩) 1 1) (.slice none 0 0)).toArray
 refine ⟨un_keeps (by omega) _ _, hk2, ⟨_, (hB.alloc _).setRow _, ?_⟩, hK.trans hk2⟩
 rw [List.foldl_append]
 exact un_step hk hT (by omega) (by omega)

set_option maxRecDepth 100000 in
set_option maxHeartbeats 4000000 in
theorem unary_any (ex : St → Tm × St) (pb sz n : Nat) (hxn : Nice ex) (hx : ExOK ex pb sz n) (hnb : n ≤ 2000000) (w : World) (s : St) (hp : PA w pb sz s) (hn : s.ws.length ≤ n) :
  Calls Tryz.prog 144 #[.pointer (some ⟨pb, 0, none⟩)] w (TermEnd pb sz (fun g => w.heap.size ≤ g) w (unary sz ex s)) := by
 have hplt := hp.lt
 have l0 := Lies.new w 33 zC
 have hp1 := hp.alloc (.cells zC 33)
 have hk1 := (Kp.refl pb w).alloc (.cells zC 33)
 have hst : AhRel pb sz n w.heap.size w (Pz.ahead s.ws.length s) s.ws.length (.slice none 0 0) (w.alloc (.cells zC 33)) [] s :=
  ⟨⟨hp1, hk1⟩, l0, World.ownsRow_nil _ _ _ _, Nat.le_refl _, by simp; omega, by simp⟩
 obtain ⟨i0, hi, hz0, hz1, hz2⟩ := info_parts Tryz.info130
 obtain ⟨ie, hie, hiz, his⟩ := info39
 unfold unary
 dsimp only
 unfold zC at hst
 clear l0 hp1 hk1
 refine callsIn_wide (n := 9) |>.1 (callsIn_of_wp_marks Tryz.func144 rfl trivial ?_ rfl)
 refine wpIn_wide.2 ?_
 simp only [Tryz.ntmps144, List.size_toArray, List.length_cons, List.length_nil, Nat.reduceAdd, Nat.reduceSub, Array.replicate_succ, Array.replicate_zero, List.push_toArray, List.append_toArray, List.nil_append, List.cons_append]
 go_wp2_with fail
 go_loopg [3] s.ws.length (fun g v wr => AhAny pb sz n w.heap.size w (Pz.ahead s.ws.length s) g v wr)
 case atStart => exact ⟨_, _, hst⟩
 case round =>
  obtain ⟨zs, s', hR⟩ := hrel
  clear hst
  have hgo := hR.goes
  have HR := Lib.hid hR
  have hown := hR.own
  clear hR
  have hvs : ∃ A k c, u3 = .slice A k c := by rcases (OwnP.of hown).2 with ⟨h, _⟩ | ⟨g, cap, cur, h, _⟩ <;> exact ⟨_, _, _, h⟩
  obtain ⟨A3, k3, c3, rfl⟩ := hvs
  have hb1 := below_new wr (.cells #[.string (ba tPrint), .string (ba tRef), .string (ba tBang)] 9)
  have hS1 : Sl (wr.alloc (.cells #[.string (ba tPrint), .string (ba tRef), .string (ba tBang)] 9)) (.slice (some ⟨wr.heap.size, 0, none⟩) 3 3) [tPrint, tRef, tBang] := Sl.new [tPrint, tRef, tBang] rfl (by simp) 3 3 rfl rfl
  have hI := is_any _ [tPrint, tRef, tBang] _ pb sz s' (hgo.pa.below hb1) hS1
  have hgo1 := hgo.below hb1
  cases hT : isT [tPrint, tRef, tBang] s'
  ·rw [hT] at hI
   have HI := Lib.hid hI
   clear hI hS1
   go_wp2_with fail
   refine HI.out.mono ?_
   rintro e w2 ⟨rfl, hb2⟩
   have hgo2 := hgo1.below hb2
   have hb3 := below_new w2 (.cells #[.int .i64 6] 3)
   have hS3 : Il (w2.alloc (.cells #[.int .i64 6] 3)) (.slice (some ⟨w2.heap.size, 0, none⟩) 1 1) [6] := Il.new [6] (by simp) (by simp) 1 1 rfl rfl
   have hO := isOf_any _ [6] _ pb sz s' (hgo2.pa.below hb3) hS3
   have hgo3 := hgo2.below hb3
   cases hO6 : isOf [6] s'
   ·rw [hO6] at hO
    have HO := Lib.hid hO
    clear hO hS3
    go_wp2_with fail
    refine HO.out.mono ?_
    rintro e w3 ⟨rfl, rfl⟩
    go_wp2_with fail
    refine (app_any ex pb sz n hxn hx hnb _ s' hgo3.pa (by have := HR.out.ln; omega)).mono ?_
    rintro e w4 ⟨l, rfl, ht, hg4⟩
    have hG4 := hgo3.trans hg4
    have lz := Lies.new w4 33 zC
    unfold zC at lz
    have hlen := ht.len
    have HL := Lib.hid hlen
    have ht1 := ht.one
    clear hlen HO HI
    go_wp2_with (first | (refine wpList_store_rowTo rfl 33 (.tmp 4) (.tmp 28) rfl rfl _ _ rfl rfl 33 _ lz (by rw [sz39]; simp [HL.out]) (by simp [HL.out]) ht1 ?_; rw [set_new rfl]) | (go_at_call 147; refine (back_any _ _ _ _).mono ?_; rintro e w5 ⟨rfl, rfl⟩))
    obtain ⟨W0, hW0⟩ : ∃ W0, W0 = (w4.alloc (Obj.cells l.toArray 33)).alloc (Obj.cells #[Value.slice A3 k3 c3] 88) := ⟨_, rfl⟩
    have hb40 : Below w4.heap.size w4 W0 := by rw [hW0]; exact ((Below.refl _ _).alloc (Nat.le_refl _) _).alloc (by simp) _
    have hz0' : W0.heap.size = w4.heap.size + 2 := by rw [hW0]; simp
    have hs0 : W0.cell? ⟨w4.heap.size + 1, 0, none⟩ = some (.slice A3 k3 c3) := by
     rw [hW0]
     have := (Lies.new' (w4.alloc (Obj.cells l.toArray 33)) 88 #[Value.slice A3 k3 c3] (N := w4.heap.size + 1) (by simp)).cell 0
     exact this
    have hB4 : Lies W0 w4.heap.size 33 l.toArray := by rw [hW0]; exact (Lies.new w4 _ _).alloc _
    have hwr4 : Kp pb wr w4 := ((((Kp.refl pb wr).below hb1 (Nat.le_refl _)).below hb2 hb1.size).below hb3 (Nat.le_trans hb1.size hb2.size)).trans hg4.kp
    have hszr : w.heap.size < wr.heap.size := HR.out.out.lt
    have hsz4 : wr.heap.size ≤ w4.heap.size := hwr4.size
    have hsz2 : wr.heap.size ≤ w2.heap.size := Nat.le_trans hb1.size hb2.size
    have hres : (Pz.ahead s.ws.length s) = (zs, s') := by
     rw [HR.out.res, ahead_no (by rw [pre_F hT, hO6])]
     simp
    have hN4 : Lies W0 w.heap.size 33 zC := (hwr4.lies HR.out.out (by omega)).later hb40
    have hown4 := (OwnP.of hown).same (w' := W0) (fun g hg hlt => ((hb40.block g (by omega)).trans (hwr4.block g hlt (fun e => by
     have h1 : g = pb := by injection e
     have h2 : w.heap.size + 1 ≤ g := hg
     omega))))
    have hT0 : HT W0 (fun g => w.heap.size < g ∧ g ≠ w4.heap.size) (app sz ex s').1 l := by
     refine (ht.lt.later hb40).mono (fun g hg _ => ?_)
     have h1 := hg.1
     have h2 := hg.2
     simp at h1
     omega
    have hPA0 : PA W0 pb sz (app sz ex s').2 := hg4.pa.below hb40
    have hKp0 : Kp pb w W0 := hG4.kp.below hb40 (hG4.kp.size)
    have hI0 : UnI w.heap.size w4.heap.size (w4.heap.size + 2) W0 (app sz ex s').1 [] W0 := ⟨⟨l, hB4, hT0⟩, Ku.refl _ _ _⟩
    have hln := HR.out.ln
    have hv0 : (∃ A c, Value.slice A3 k3 c3 = .slice A 0 c ∧ zs = []) ∨ ∃ g cap, Value.slice A3 k3 c3 = .slice (some ⟨g, 0, none⟩) zs.length cap ∧ zs.length ≤ cap ∧ g < w4.heap.size + 2 ∧ g ≠ w4.heap.size ∧
      ∀ (i : Nat) x, zs[i]? = some x → W0.cell? ⟨g, i * 4, none⟩ = some (.int .i64 (x.k : Int)) ∧ W0.cell? ⟨g, i * 4 + 1, none⟩ = some (.string (ba x.t)) ∧ W0.cell? ⟨g, i * 4 + 2, none⟩ = some (.int .i64 (x.n : Int)) ∧ W0.cell? ⟨g, i * 4 + 3, none⟩ = some (.int .i64 (x.pos : Int)) := by
     rcases (OwnP.of hown).2 with ⟨h1, h2⟩ | ⟨g, cap, cur, h1, hP, hh, hle, hm, hsz, htk⟩
     ·refine .inl ⟨none, 0, ?_, List.length_eq_zero_iff.1 h2⟩
      rw [h1]
     ·have hgl : g < wr.heap.size := lt_of_block hh
      have hP' : w.heap.size + 1 ≤ g := hP
      refine .inr ⟨g, cap, h1, hle, by omega, by omega, fun i x hx => ?_⟩
      have hl0 : Lies W0 g 130 cur := ((hb40.block g (by omega)).trans (hwr4.block g hgl (fun e => by
       have h1 : g = pb := by injection e
       omega))).trans hh
      have hi4 : i < zs.length := (List.getElem?_eq_some_iff.1 hx).1
      have hc : ∀ j u, (wordsC zs)[j]? = some u → W0.cell? ⟨g, j, none⟩ = some u := by
       intro j u hj
       rw [hl0.cell, ← Array.getElem?_toList]
       rw [← htk] at hj
       have hj' := hj
       rw [List.getElem?_take] at hj
       split at hj
       ·exact hj
       ·cases hj
      obtain ⟨a1, a2, a3, a4⟩ := words_at zs i x hx
      exact ⟨hc _ _ a1, hc _ _ a2, hc _ _ a3, hc _ _ a4⟩
    rw [← hW0]
    refine wpIn_wide (n := 9) |>.1 ?_
    refine wpIn_rangeFunc_ownH (F := Fence.wide) (n := 9) rfl (by decide) (gf := 153) (lb := #[.pointer (some ⟨w4.heap.size + 1, 0, none⟩)]) rfl trivial enter_back
     (back_stops 8 (w4.heap.size + 1) (w4.heap.size + 2) w4.heap.size _ zs W0 (by omega) (by omega) (by omega) (by omega) hs0 hv0) Ku.trans (ku_b (by omega)) (Below.refl _ _) (fun _ => rfl)
     (UnI w.heap.size w4.heap.size (w4.heap.size + 2) W0 (app sz ex s').1) (fun _ _ _ => False) (unI_own (by omega) (by omega)) (fun _ _ _ _ _ h _ _ => h) hI0
     (fun x a' W => ∃ B6, w4.heap.size + 2 ≤ B6 ∧ Lies W B6 130 (tkC x.2).toArray ∧ a' =
     { tmps := #[Value.pointer (some { block := pb, off := 0 }), undef,
     Value.pointer (some { block := w.heap.size, off := 0 }), Value.slice A3 k3 c3,
     Value.pointer (some { block := w4.heap.size, off := 0 }), undef, .pointer (some ⟨B6, 0, none⟩), undef,
     Value.pointer (some { block := pb, off := 0 }), Value.pointer (some { block := pb, off := 0 }),
     Value.pointer (some { block := pb, off := 0 }), Value.slice (some { block := wr.heap.size, off := 0 }) 3 3,
     Value.bool false, Value.bool false, Value.pointer (some { block := pb, off := 0 }),
     Value.pointer (some { block := pb, off := 0 }), Value.pointer (some { block := pb, off := 0 }),
     Value.slice (some { block := w2.heap.size, off := 0 }) 1 1, Value.bool false, Value.bool false, u20, u21, u22,
     u23, u24, u25, u26, Value.pointer (some { block := pb, off := 0 }), Value.agg l.toArray, Value.slice A3 k3 c3,
     Value.func (Fn.func 153) #[] #[Value.pointer (some { block := w4.heap.size + 1, off := 0 })], .int .i64 (x.1 : Int), tkV x.2,
     undef, undef, undef, undef, undef, undef, undef, undef, undef, undef, undef, undef], defers := [] })
     (fun x a' _ X Y row ⟨B6, h1, h2, h3⟩ hg hr => ⟨B6, h1, Lies.kept h2 hg (fun r e => (hr r e).2), h3⟩) ?assign ?body ?done ?stop
    case stop => exact fun D c pre W _ _ h _ => h.elim
    case assign =>
     intro l2 pre x W K hi hK
     have hszW : w4.heap.size + 2 ≤ W.heap.size := by have := hi.2.size; omega
     dsimp only [encW, tkV]
     gi_wp2
     exact hK _ _ ((KeepsOthers.alloc _ _).from _) ((Ku.refl _ _ _).alloc hszW _) ((unI_own (by omega) (Nat.le_of_eq hz0'.symm)).alloc _ hi) ⟨W.heap.size, hszW, Lies.new _ _ _, rfl⟩
    case body =>
     rintro l2 pre x a' W hl2 ⟨r, hr⟩ ⟨⟨l', hB, hT'⟩, hK'⟩ ⟨B6, hB6, hw6, rfl⟩ hlt
     have hlen' := hT'.len
     have HL' := Lib.hid hlen'
     have ht1' := hT'.one
     have a0 := hw6.cell 0
     have a1 := hw6.cell 1
     have a3 := hw6.cell 3
     simp only [tkC] at a0 a1 a3
     have hrd := fun kk (hk : (if x.2.k = 6 then 13 else 10) = kk) => un_round hk (by omega) (by omega) (by omega) hB hT' hK'
     have HRD := Lib.hid hrd
     clear hrd
     by_cases hk6 : x.2.k = 6
     ·have hk6' : (x.2.k : Int) = 6 := by omega
      rw [hk6'] at a0
      gi_wp2_with (first | (refine wpListIn_row_load rfl 33 (.tmp 4) rfl _ rfl 33 _ (0, 0) _ hB Tryz.underlying33 rfl (by rw [sz39]; simp [HL'.out]) ?_) | (refine wpListIn_slice_build rfl 24 33 1 _ rfl l'.toArray ie (.agg zC) Tryz.underlying24 hie hiz (by rw [his]; decide) (by rw [his]; decide) (by rw [his, Array.toList_map]; exact fill_row (sz := 21) (by decide) l' HL'.out ((Array.range (1 * 21)).map ((Value.agg zC).cells[· % (Value.agg zC).cells.size]!)) (by simp)) ?_) | (refine wpListIn_row_store rfl 33 (.tmp 4) (.tmp 43) rfl rfl _ _ rfl rfl 33 _ (hB.alloc _) sz39 (by simp [HL'.out]) (by kernel_rfl) ?_))
      exact HRD.out 13 (if_pos hk6)
     ·have hk6' : ((x.2.k : Int) == 6) = false := by simp; omega
      gi_wp2_with (first | (refine wpListIn_row_load rfl 33 (.tmp 4) rfl _ rfl 33 _ (0, 0) _ hB Tryz.underlying33 rfl (by rw [sz39]; simp [HL'.out]) ?_) | (refine wpListIn_slice_build rfl 24 33 1 _ rfl l'.toArray ie (.agg zC) Tryz.underlying24 hie hiz (by rw [his]; decide) (by rw [his]; decide) (by rw [his, Array.toList_map]; exact fill_row (sz := 21) (by decide) l' HL'.out ((Array.range (1 * 21)).map ((Value.agg zC).cells[· % (Value.agg zC).cells.size]!)) (by simp)) ?_) | (refine wpListIn_row_store rfl 33 (.tmp 4) (.tmp 43) rfl rfl _ _ rfl rfl 33 _ (hB.alloc _) sz39 (by simp [HL'.out]) (by kernel_rfl) ?_))
      exact HRD.out 10 (if_neg hk6)
    case done =>
     rintro D ys W hD rfl ⟨⟨l', hB, hT'⟩, hK'⟩ hDD
     have hlen' := hT'.len
     have HL' := Lib.hid hlen'
     have ht1' := hT'.one
     have hN := (hK'.block w.heap.size (by omega) (by omega)).trans hN4
     unfold zC at hN
     go_wp2_with (first | (refine wpList_load_row rfl 33 (.tmp 4) rfl _ rfl 33 _ (0, 0) _ hB Tryz.underlying33 rfl (by rw [sz39]; simp [HL'.out]) ?_) | (refine wpList_store_rowTo rfl 33 (.tmp 2) (.tmp 44) rfl rfl _ _ rfl rfl 33 _ hN (by rw [sz39]; simp [HL'.out]) (by simp [HL'.out]) ht1' ?_))
     have hDD2 : (W.setRow w.heap.size l'.toArray).heap[D]? = some (.deferred (some [])) := (heap_setRow _ _ _ _ (by omega)).trans hDD
     refine ⟨by simp, .inl ⟨_, _, rfl, run_takeDeferred hDD2, ?_⟩⟩
     have hDne : w.heap.size ≠ D := by omega
     have hNf := (World.putObj_heap_other (o := (.deferred none)) (w := W.setRow w.heap.size l'.toArray) (r := D) hDne).trans (Lies.setRow hN l'.toArray)
     refine ⟨.agg l'.toArray, results_cell_row rfl _ _ w.heap.size 33 l'.toArray (0, 0) _ rfl hNf Tryz.underlying33 rfl (by rw [sz39]; simp [HL'.out]), ?_⟩
     have hfold : (downs zs zs.length).foldl (fun t x => wrap x.2 t) (app sz ex s').1 = zs.foldr wrap (app sz ex s').1 := by
      have h1 : (downs zs zs.length).foldl (fun t x => wrap x.2 t) (app sz ex s').1 = ((downs zs zs.length).map Prod.snd).foldl (fun t x => wrap x t) (app sz ex s').1 := by rw [List.foldl_map]
      rw [h1, downs_all, List.foldl_reverse]
     rw [hres]
     rw [hfold] at hT'
     refine ⟨l', rfl, ?_, ?_, ?_⟩
     ·exact ((hT'.setRow (fun k hk => by have := hk.1; omega) _).kept (grownBy_putObj' _ D _) (fun r e => by cases e; exact ⟨_, hDD2, rfl⟩)).mono (fun g hg _ => Nat.le_of_lt hg.1)
     ·exact ((hPA0.ku hK' (by omega) (by omega)).setRow hplt _).ku ((Ku.refl w.heap.size w.heap.size _).putObj (by omega) _) hplt hplt
     ·exact ((hKp0.ku hK' (by omega) (by omega)).setRow (Nat.le_refl _) _).ku ((Ku.refl w.heap.size w.heap.size _).putObj (by omega) _) (Nat.le_refl _) (Nat.le_refl _)
   ·have hpre : pre s' = true := by rw [pre_F hT, hO6]
    obtain ⟨x, r, hw⟩ := ws_cons (pre_pos hpre)
    have hln := HR.out.ln
    have hlg := HR.out.lg
    have htl := take_lt (pre_pos hpre)
    rw [hO6] at hO
    have HO := Lib.hid hO
    clear hO hS3
    go_wp2_with fail
    refine HO.out.mono ?_
    rintro e w3 ⟨rfl, rfl⟩
    go_wp2_with fail
    refine (take_any _ pb sz s' hgo3.pa x r hw).mono ?_
    rintro e w4 ⟨rfl, hg4⟩
    have hG4 := hgo3.trans hg4
    have hK4 : Kp pb wr w4 := ((((Kp.refl pb wr).below hb1 (Nat.le_refl _)).below hb2 hb1.size).below hb3 (Nat.le_trans hb1.size hb2.size)).trans hg4.kp
    have hszr : w.heap.size < wr.heap.size := HR.out.out.lt
    have hsz4 := hK4.size
    have hown4 : w4.ownsRow (w.heap.size + 1) 130 4 (.slice A3 k3 c3) zs.length (wordsC zs) := (OwnP.of hown).same (fun g hg hlt => hK4.block g hlt (fun e => by
     have h1 : g = pb := by injection e
     have h2 : w.heap.size + 1 ≤ g := hg
     omega))
    have hN4 := hK4.lies HR.out.out (by omega)
    clear hown
    unfold tkV
    go_wp2_with (first | (at_builtin; go_loud (refine wpList_append_own_at _ rfl (.tmp 20) (.tmp 25) 88 rfl (w.heap.size + 1) 130 i0 (.agg #[.int .i64 0, .string ⟨#[]⟩, .int .i64 0, .int .i64 0]) 4 40 Tryz.underlying88 hi hz0 hz1 hz2 rfl (by decide) _ zs.length (wordsC zs) rfl (own_later hown4 (below_new w4 (.cells (tkC x).toArray 130))) ⟨w4.heap.size, 0, none⟩ 1 1 (tkC x) rfl rfl (new_cells _ _ _ rfl) ?c2 (by unfold maxLen; omega) (by omega) (by simp; omega) ?_)))
    case c2 =>
     intro u hu
     simp only [tkC, List.mem_cons, List.not_mem_nil, or_false] at hu
     rcases hu with rfl | rfl | rfl | rfl <;> rfl
    intro v' w5 hown5 hgr _ hat
    go_wp2_with fail
    go_roundg (gk - 1)
    case measure => omega
    case rel =>
     have hrow : ∀ q, Value.ownBlock (.slice A3 k3 c3) = some q → w.heap.size + 1 ≤ q := fun q hq => (own_block hown4 q hq).1
     refine ⟨zs ++ [x], take s', ⟨(hG4.pa.alloc _).grown hgr (fun q hq => by have := hrow q hq; omega), (hG4.kp.alloc _).grown hgr (fun q hq => by have := hrow q hq; omega)⟩, ?_, ?_, by omega, by simp; omega, ?_⟩
     ·exact (hN4.alloc _).grown hgr (fun e => by have := hrow _ e.symm; omega)
     ·rw [wordsC_snoc, List.length_append]; exact hown5
     ·have hr := HR.out.res
      obtain ⟨g', rfl⟩ : ∃ g', gk = g' + 1 := ⟨gk - 1, by omega⟩
      rw [ahead_yes hpre, hd_cons hw] at hr
      rw [hr]
      simp
  ·have hpre : pre s' = true := pre_T hT
   obtain ⟨x, r, hw⟩ := ws_cons (pre_pos hpre)
   have hln := HR.out.ln
   have hlg := HR.out.lg
   have htl := take_lt (pre_pos hpre)
   rw [hT] at hI
   have HI := Lib.hid hI
   clear hI hS1
   go_wp2_with fail
   refine HI.out.mono ?_
   rintro e w2 ⟨rfl, hb2⟩
   have hgo2 := hgo1.below hb2
   go_wp2_with fail
   refine (take_any _ pb sz s' hgo2.pa x r hw).mono ?_
   rintro e w4 ⟨rfl, hg4⟩
   have hG4 := hgo2.trans hg4
   have hK4 : Kp pb wr w4 := (((Kp.refl pb wr).below hb1 (Nat.le_refl _)).below hb2 hb1.size).trans hg4.kp
   have hszr : w.heap.size < wr.heap.size := HR.out.out.lt
   have hsz4 := hK4.size
   have hown4 : w4.ownsRow (w.heap.size + 1) 130 4 (.slice A3 k3 c3) zs.length (wordsC zs) := (OwnP.of hown).same (fun g hg hlt => hK4.block g hlt (fun e => by
    have h1 : g = pb := by injection e
    have h2 : w.heap.size + 1 ≤ g := hg
    omega))
   have hN4 := hK4.lies HR.out.out (by omega)
   clear hown
   unfold tkV
   go_wp2_with (first | (at_builtin; go_loud (refine wpList_append_own_at _ rfl (.tmp 20) (.tmp 25) 88 rfl (w.heap.size + 1) 130 i0 (.agg #[.int .i64 0, .string ⟨#[]⟩, .int .i64 0, .int .i64 0]) 4 40 Tryz.underlying88 hi hz0 hz1 hz2 rfl (by decide) _ zs.length (wordsC zs) rfl (own_later hown4 (below_new w4 (.cells (tkC x).toArray 130))) ⟨w4.heap.size, 0, none⟩ 1 1 (tkC x) rfl rfl (new_cells _ _ _ rfl) ?c2 (by unfold maxLen; omega) (by omega) (by simp; omega) ?_)))
   case c2 =>
    intro u hu
    simp only [tkC, List.mem_cons, List.not_mem_nil, or_false] at hu
    rcases hu with rfl | rfl | rfl | rfl <;> rfl
   intro v' w5 hown5 hgr _ hat
   go_wp2_with fail
   go_roundg (gk - 1)
   case measure => omega
   case rel =>
    have hrow : ∀ q, Value.ownBlock (.slice A3 k3 c3) = some q → w.heap.size + 1 ≤ q := fun q hq => (own_block hown4 q hq).1
    refine ⟨zs ++ [x], take s', ⟨(hG4.pa.alloc _).grown hgr (fun q hq => by have := hrow q hq; omega), (hG4.kp.alloc _).grown hgr (fun q hq => by have := hrow q hq; omega)⟩, ?_, ?_, by omega, by simp; omega, ?_⟩
    ·exact (hN4.alloc _).grown hgr (fun e => by have := hrow _ e.symm; omega)
    ·rw [wordsC_snoc, List.length_append]; exact hown5
    ·have hr := HR.out.res
     obtain ⟨g', rfl⟩ : ∃ g', gk = g' + 1 := ⟨gk - 1, by omega⟩
     rw [ahead_yes hpre, hd_cons hw] at hr
     rw [hr]
     simp
theorem enter_unary (args : Array Value) (w : World) : (callFunc 144 args).run Tryz.prog w = .ok (.enter 144 args) w := by go_simp
theorem unary_ok (pb sz : Nat) : UnaryOK pb sz := fun ex n hxn hx hnb => ⟨enter_unary, fun w s hp hn => unary_any ex pb sz n hxn hx hnb w s hp hn⟩
theorem exprs_ok (pb sz n : Nat) (hn : n ≤ 2000000) : ExOK (expr sz n) pb sz n := expr_ok (unary_ok pb sz) n hn
end Go.Proofs.YtmodmojocclmaaaGreatDoor
