/- A long chain of '||', a link at a time, with no parting. -/
import Derived.Test.YtgffhjcnfjgpnaaDoorPureJ
namespace Go.Proofs.YtgffhjcnfjgpnaaDoor
open Go.RowKit

section
variable {P : Program} {ops : Array Oper} {rest : List Oper} {o : Oper} {a : Act} {w : World} {Q : Exit → Act → World → Prop}
theorem put_ne (a : Act) {d t : Nat} (v : Value) (h : d ≠ t) : (a.put (some d) v).tmps[t]? = a.tmps[t]? := by
  simp [Act.put, Array.getElem?_setIfInBounds_ne h]
theorem put_eq (a : Act) {d : Nat} (v : Value) (h : d < a.tmps.size) : (a.put (some d) v).tmps[d]? = some v := by
  simp [Act.put, h]
theorem put_size (a : Act) (d : Nat) (v : Value) : (a.put (some d) v).tmps.size = a.tmps.size := by simp [Act.put]
theorem eval_of {t : Nat} {v : Value} (h : a.tmps[t]? = some v) : a.eval (.tmp t) = v := by simp [Act.eval, h]
theorem wanted_of {j p : Nat} {q b : Bool} (g : o.guard = some (j, q)) (hj : (ops[j]?).bind (·.dst) = some p) (hb : a.tmps[p]? = some (.bool b)) : Region.wanted o (yielded ops a.tmps) = (b == q) := by
  have hy : yielded ops a.tmps j = some b := by unfold yielded; rw [hj]; simp [hb]
  simp [Region.wanted, g, hy]
theorem wanted_none (g : o.guard = none) : Region.wanted o (yielded ops a.tmps) = true := by simp [Region.wanted, g]
theorem step_skip (hw : Region.wanted o (yielded ops a.tmps) = false) (h : wpList P ops Q rest (a.put o.dst undef) w) : wpList P ops Q (o :: rest) a w :=
  wpList_step fun K hK => by rw [if_neg (by rw [hw]; simp)]; exact hK _ _ h
theorem step_move (hw : Region.wanted o (yielded ops a.tmps) = true) (x : Operand) (ho : o.op = .move x) (h : wpList P ops Q rest (a.put o.dst (a.eval x)) w) : wpList P ops Q (o :: rest) a w :=
  wpList_wanted hw fun _ hK => by unfold Oper.wp execOp; rw [ho]; exact hK _ _ h
theorem step_bin (hw : Region.wanted o (yielded ops a.tmps) = true) {bop : BinOp} {x y : Operand} {t t' : TypeId} (ho : o.op = .binOp bop t x y t') {r : Value} (hq : (eqGuard bop t x y (a.eval x) (a.eval y)).run P w = .ok () w) (hr : ((binOp bop t (a.eval x) (a.eval y)).run P w) = .ok r w)
    (h : wpList P ops Q rest (a.put o.dst r) w) : wpList P ops Q (o :: rest) a w := by
  refine wpList_wanted hw fun K hK => ?_
  unfold Oper.wp execOp
  simp only [ho]
  simp [hr, hq, Result.andThen]
  exact hK _ _ h
theorem step_pick (hw : Region.wanted o (yielded ops a.tmps) = true) {c x y : Operand} (ho : o.op = .pick c x y) {b : Bool} (hc : a.eval c = .bool b) {v : Value} (hv : (if b then a.eval x else a.eval y) = v)
    (h : wpList P ops Q rest (a.put o.dst v) w) : wpList P ops Q (o :: rest) a w := by
  refine wpList_wanted hw fun K hK => ?_
  unfold Oper.wp execOp
  simp only [ho, hc]
  rw [← hv] at h
  simp [asBool]
  exact hK _ _ h

/-- A comparison of a byte, as the model runs it. -/
structure Cmp (P : Program) (bop : BinOp) (x c : Int) (r : Bool) : Prop where
  guard : ∀ (p q : Operand) (w : World), (eqGuard bop 5 p q (.int .u8 x) (.int .u8 c)).run P w = .ok () w
  run : ∀ w : World, (binOp bop 5 (.int .u8 x) (.int .u8 c)).run P w = .ok (.bool r) w
theorem cmp_eql (P : Program) (x c : Int) : Cmp P .eql x c (x == c) := ⟨fun p q w => by simp [eqGuard], fun w => by simp [binOp, Op.intCmp]⟩
theorem cmp_lss (P : Program) (x c : Int) : Cmp P .lss x c (decide (x < c)) := ⟨fun p q w => by simp [eqGuard], fun w => by simp [binOp, Op.intCmp]⟩
theorem cmp_gtr (P : Program) (x c : Int) : Cmp P .gtr x c (decide (c < x)) := ⟨fun p q w => by simp [eqGuard], fun w => by simp [binOp, Op.intCmp]⟩
/-- One link: the first three operations, whatever the truth so far. -/
theorem link3 {P : Program} {ops : Array Oper} {rest : List Oper} {o1 o2 o3 : Oper} {a : Act} {w : World} {Q : Exit → Act → World → Prop} (x c : Int) (b r : Bool) (bop : BinOp) (j p n : Nat) (hc : Cmp P bop x c r)
    (h1 : o1.op = .move (.tmp 1)) (g1 : o1.guard = some (j, false)) (t1 : o1.dst = some (p + 1))
    (h2 : o2.op = .binOp bop 5 (.tmp (p + 1)) (.const (.int .u8 c)) 5) (g2 : o2.guard = some (j, false)) (t2 : o2.dst = some (p + 2))
    (h3 : o3.op = .pick (.tmp p) (.const (.bool true)) (.tmp (p + 2))) (g3 : o3.guard = none) (t3 : o3.dst = some (p + 3))
    (hj : (ops[j]?).bind (·.dst) = some p) (hs : a.tmps.size = n) (hp4 : p + 4 < n) (_hp0 : 1 ≤ p)
    (hx : a.tmps[1]? = some (.int .u8 x)) (hb : a.tmps[p]? = some (.bool b))
    (h : ∀ u1 u2 (s : Bool), s = (b || r) → wpList P ops Q rest (((a.put (some (p + 1)) u1).put (some (p + 2)) u2).put (some (p + 3)) (.bool s)) w) : wpList P ops Q (o1 :: o2 :: o3 :: rest) a w := by
  have hb1 : ∀ v, (a.put (some (p + 1)) v).tmps[p]? = some (.bool b) := fun v => by rw [put_ne _ _ (by omega)]; exact hb
  have hb2 : ∀ v u, ((a.put (some (p + 1)) v).put (some (p + 2)) u).tmps[p]? = some (.bool b) := fun v u => by rw [put_ne _ _ (by omega)]; exact hb1 v
  have e2 : ∀ v u, ((a.put (some (p + 1)) v).put (some (p + 2)) u).tmps[p + 2]? = some u := fun v u => put_eq _ _ (by rw [put_size]; omega)
  have e1 : ∀ v, (a.put (some (p + 1)) v).tmps[p + 1]? = some v := fun v => put_eq _ _ (by omega)
  cases b with
  | true =>
    refine step_skip (by rw [wanted_of g1 hj hb]; rfl) ?_
    rw [t1]
    refine step_skip (by rw [wanted_of g2 hj (hb1 _)]; rfl) ?_
    rw [t2]
    refine step_pick (wanted_none g3) h3 (eval_of (hb2 _ _)) (v := .bool true) rfl ?_
    rw [t3]
    exact h _ _ true rfl
  | false =>
    refine step_move (by rw [wanted_of g1 hj hb]; rfl) _ h1 ?_
    rw [t1, eval_of hx]
    refine step_bin (r := .bool r) (by rw [wanted_of g2 hj (hb1 _)]; rfl) h2 (by rw [eval_of (e1 _)]; exact hc.guard _ _ _) (by rw [eval_of (e1 _)]; exact hc.run _) ?_
    rw [t2]
    refine step_pick (wanted_none g3) h3 (eval_of (hb2 _ _)) (v := .bool r) (by rw [if_neg (by simp)]; exact eval_of (e2 _ _)) ?_
    rw [t3]
    exact h _ _ r rfl
theorem wanted_undef {ops : Array Oper} {o : Oper} {a : Act} {j p : Nat} {q : Bool} (g : o.guard = some (j, q)) (hj : (ops[j]?).bind (·.dst) = some p) (hb : a.tmps[p]? = some undef) : Region.wanted o (yielded ops a.tmps) = false := by
  have hy : yielded ops a.tmps j = none := by unfold yielded; rw [hj]; simp [hb, undef]
  simp [Region.wanted, g, hy]
/-- The link 'lo < x && x < hi'. -/
theorem link7 {P : Program} {ops : Array Oper} {rest : List Oper} {o1 o2 o3 o4 o5 o6 o7 : Oper} {a : Act} {w : World} {Q : Exit → Act → World → Prop} (x c c' : Int) (b r r' : Bool) (bop bop' : BinOp) (j j' p n : Nat) (hc : Cmp P bop x c r) (hc' : Cmp P bop' x c' r')
    (h1 : o1.op = .move (.tmp 1)) (g1 : o1.guard = some (j, false)) (t1 : o1.dst = some (p + 1))
    (h2 : o2.op = .binOp bop 5 (.tmp (p + 1)) (.const (.int .u8 c)) 5) (g2 : o2.guard = some (j, false)) (t2 : o2.dst = some (p + 2))
    (h3 : o3.op = .move (.tmp (p + 2))) (g3 : o3.guard = some (j, false)) (t3 : o3.dst = some (p + 3))
    (h4 : o4.op = .move (.tmp 1)) (g4 : o4.guard = some (j', true)) (t4 : o4.dst = some (p + 4))
    (h5 : o5.op = .binOp bop' 5 (.tmp (p + 4)) (.const (.int .u8 c')) 5) (g5 : o5.guard = some (j', true)) (t5 : o5.dst = some (p + 5))
    (h6 : o6.op = .pick (.tmp (p + 3)) (.tmp (p + 5)) (.const (.bool false))) (g6 : o6.guard = some (j, false)) (t6 : o6.dst = some (p + 6))
    (h7 : o7.op = .pick (.tmp p) (.const (.bool true)) (.tmp (p + 6))) (g7 : o7.guard = none) (t7 : o7.dst = some (p + 7))
    (hj : (ops[j]?).bind (·.dst) = some p) (hj' : (ops[j']?).bind (·.dst) = some (p + 3)) (hs : a.tmps.size = n) (hp4 : p + 8 < n) (hp0 : 1 ≤ p)
    (hx : a.tmps[1]? = some (.int .u8 x)) (hb : a.tmps[p]? = some (.bool b))
    (h : ∀ u1 u2 u3 u4 u5 u6 (s : Bool), s = (b || (r && r')) → wpList P ops Q rest (((((((a.put (some (p + 1)) u1).put (some (p + 2)) u2).put (some (p + 3)) u3).put (some (p + 4)) u4).put (some (p + 5)) u5).put (some (p + 6)) u6).put (some (p + 7)) (.bool s)) w) : wpList P ops Q (o1 :: o2 :: o3 :: o4 :: o5 :: o6 :: o7 :: rest) a w := by
  have far : ∀ (a : Act) (d : Nat) (v u : Value) (t : Nat), d ≠ t → a.tmps[t]? = some u → (a.put (some d) v).tmps[t]? = some u := fun a d v u t hd ht => by rw [put_ne _ _ hd]; exact ht
  cases b with
  | true =>
    have f1 := far a (p + 1) undef _ p (by omega) hb
    have f2 := far _ (p + 2) undef _ p (by omega) f1
    have f3 := far _ (p + 3) undef _ p (by omega) f2
    have e3 := put_eq ((a.put (some (p + 1)) undef).put (some (p + 2)) undef) (d := p + 3) undef (by rw [put_size, put_size]; omega)
    have f4 := far _ (p + 4) undef _ p (by omega) f3
    have e4 := far _ (p + 4) undef _ (p + 3) (by omega) e3
    have f5 := far _ (p + 5) undef _ p (by omega) f4
    have f6 := far _ (p + 6) undef _ p (by omega) f5
    refine step_skip (by rw [wanted_of g1 hj hb]; rfl) ?_
    rw [t1]
    refine step_skip (by rw [wanted_of g2 hj f1]; rfl) ?_
    rw [t2]
    refine step_skip (by rw [wanted_of g3 hj f2]; rfl) ?_
    rw [t3]
    refine step_skip (wanted_undef g4 hj' e3) ?_
    rw [t4]
    refine step_skip (wanted_undef g5 hj' e4) ?_
    rw [t5]
    refine step_skip (by rw [wanted_of g6 hj f5]; rfl) ?_
    rw [t6]
    refine step_pick (wanted_none g7) h7 (eval_of f6) (v := .bool true) rfl ?_
    rw [t7]
    exact h _ _ _ _ _ _ true rfl
  | false =>
    have f1 := far a (p + 1) (.int .u8 x) _ p (by omega) hb
    have x1 := far a (p + 1) (.int .u8 x) _ 1 (by omega) hx
    have e1 := put_eq a (d := p + 1) (.int .u8 x) (by omega)
    have f2 := far _ (p + 2) (.bool r) _ p (by omega) f1
    have x2 := far _ (p + 2) (.bool r) _ 1 (by omega) x1
    have e2 := put_eq (a.put (some (p + 1)) (.int .u8 x)) (d := p + 2) (.bool r) (by rw [put_size]; omega)
    have f3 := far _ (p + 3) (.bool r) _ p (by omega) f2
    have x3 := far _ (p + 3) (.bool r) _ 1 (by omega) x2
    have e3 := put_eq ((a.put (some (p + 1)) (.int .u8 x)).put (some (p + 2)) (.bool r)) (d := p + 3) (.bool r) (by rw [put_size, put_size]; omega)
    have hs3 : (((a.put (some (p + 1)) (.int .u8 x)).put (some (p + 2)) (.bool r)).put (some (p + 3)) (.bool r)).tmps.size = n := by rw [put_size, put_size, put_size]; exact hs
    refine step_move (by rw [wanted_of g1 hj hb]; rfl) _ h1 ?_
    rw [t1, eval_of hx]
    refine step_bin (r := .bool r) (by rw [wanted_of g2 hj f1]; rfl) h2 (by rw [eval_of e1]; exact hc.guard _ _ _) (by rw [eval_of e1]; exact hc.run _) ?_
    rw [t2]
    refine step_move (by rw [wanted_of g3 hj f2]; rfl) _ h3 ?_
    rw [t3, eval_of e2]
    have hh := fun u4 u5 u6 s hs => h (.int .u8 x) (.bool r) (.bool r) u4 u5 u6 s hs
    clear h
    generalize ((a.put (some (p + 1)) (.int .u8 x)).put (some (p + 2)) (.bool r)).put (some (p + 3)) (.bool r) = a3 at *
    cases r with
    | true =>
      have f4 := far a3 (p + 4) (.int .u8 x) _ p (by omega) f3
      have k4 := far a3 (p + 4) (.int .u8 x) _ (p + 3) (by omega) e3
      have e4 := put_eq a3 (d := p + 4) (.int .u8 x) (by omega)
      have f5 := far _ (p + 5) (.bool r') _ p (by omega) f4
      have k5 := far _ (p + 5) (.bool r') _ (p + 3) (by omega) k4
      have e5 := put_eq (a3.put (some (p + 4)) (.int .u8 x)) (d := p + 5) (.bool r') (by rw [put_size]; omega)
      have f6 := far _ (p + 6) (.bool r') _ p (by omega) f5
      have e6 := put_eq ((a3.put (some (p + 4)) (.int .u8 x)).put (some (p + 5)) (.bool r')) (d := p + 6) (.bool r') (by rw [put_size, put_size]; omega)
      refine step_move (by rw [wanted_of g4 hj' e3]; rfl) _ h4 ?_
      rw [t4, eval_of x3]
      refine step_bin (r := .bool r') (by rw [wanted_of g5 hj' k4]; rfl) h5 (by rw [eval_of e4]; exact hc'.guard _ _ _) (by rw [eval_of e4]; exact hc'.run _) ?_
      rw [t5]
      refine step_pick (by rw [wanted_of g6 hj f5]; rfl) h6 (eval_of k5) (v := .bool r') (by rw [if_pos rfl]; exact eval_of e5) ?_
      rw [t6]
      refine step_pick (wanted_none g7) h7 (eval_of f6) (v := .bool r') (by rw [if_neg (by simp)]; exact eval_of e6) ?_
      rw [t7]
      exact hh (.int .u8 x) (.bool r') (.bool r') r' (by simp)
    | false =>
      have f4 := far a3 (p + 4) undef _ p (by omega) f3
      have k4 := far a3 (p + 4) undef _ (p + 3) (by omega) e3
      have f5 := far _ (p + 5) undef _ p (by omega) f4
      have k5 := far _ (p + 5) undef _ (p + 3) (by omega) k4
      have f6 := far _ (p + 6) (.bool false) _ p (by omega) f5
      have e6 := put_eq ((a3.put (some (p + 4)) undef).put (some (p + 5)) undef) (d := p + 6) (.bool false) (by rw [put_size, put_size]; omega)
      refine step_skip (by rw [wanted_of g4 hj' e3]; rfl) ?_
      rw [t4]
      refine step_skip (by rw [wanted_of g5 hj' k4]; rfl) ?_
      rw [t5]
      refine step_pick (by rw [wanted_of g6 hj f5]; rfl) h6 (eval_of k5) (v := .bool false) rfl ?_
      rw [t6]
      refine step_pick (wanted_none g7) h7 (eval_of f6) (v := .bool false) (by rw [if_neg (by simp)]; exact eval_of e6) ?_
      rw [t7]
      exact hh undef undef (.bool false) false (by simp)
theorem cmp_geq (P : Program) (x c : Int) : Cmp P .geq x c (decide (c ≤ x)) := ⟨fun p q w => by simp [eqGuard], fun w => by simp [binOp, Op.intCmp]⟩
theorem link4 {P : Program} {ops : Array Oper} {rest : List Oper} {o1 o2 o3 o4 : Oper} {a : Act} {w : World} {Q : Exit → Act → World → Prop} (x c : Int) (b r : Bool) (bop : BinOp) (j p n : Nat) (hc : Cmp P bop x c r)
    (h1 : o1.op = .move (.tmp 1)) (g1 : o1.guard = some (j, false)) (t1 : o1.dst = some (p + 1))
    (h2 : o2.op = .binOp bop 5 (.tmp (p + 1)) (.const (.int .u8 c)) 5) (g2 : o2.guard = some (j, false)) (t2 : o2.dst = some (p + 2))
    (h3 : o3.op = .pick (.tmp p) (.const (.bool true)) (.tmp (p + 2))) (g3 : o3.guard = none) (t3 : o3.dst = some (p + 3))
    (h4 : o4.op = .move (.tmp (p + 3))) (g4 : o4.guard = none) (t4 : o4.dst = some (p + 4))
    (hj : (ops[j]?).bind (·.dst) = some p) (hs : a.tmps.size = n) (hp4 : p + 4 < n) (hp0 : 1 ≤ p)
    (hx : a.tmps[1]? = some (.int .u8 x)) (hb : a.tmps[p]? = some (.bool b))
    (h : ∀ u1 u2 (s : Bool) (a' : Act), s = (b || r) → a' = ((((a.put (some (p + 1)) u1).put (some (p + 2)) u2).put (some (p + 3)) (.bool s)).put (some (p + 4)) (.bool s)) → a'.tmps.size = n → a'.tmps[1]? = some (.int .u8 x) → a'.tmps[p + 4]? = some (.bool s) → wpList P ops Q rest a' w) :
    wpList P ops Q (o1 :: o2 :: o3 :: o4 :: rest) a w := by
  refine link3 x c b r bop j p n hc h1 g1 t1 h2 g2 t2 h3 g3 t3 hj hs hp4 hp0 hx hb fun u1 u2 s hs' => ?_
  refine step_move (wanted_none g4) _ h4 ?_
  rw [t4, eval_of (put_eq _ _ (by rw [put_size, put_size]; omega))]
  refine h u1 u2 s _ hs' rfl (by rw [put_size, put_size, put_size, put_size]; exact hs) ?_ (put_eq _ _ (by rw [put_size, put_size, put_size]; omega))
  rw [put_ne _ _ (by omega), put_ne _ _ (by omega), put_ne _ _ (by omega), put_ne _ _ (by omega)]
  exact hx
theorem link8 {P : Program} {ops : Array Oper} {rest : List Oper} {o1 o2 o3 o4 o5 o6 o7 o8 : Oper} {a : Act} {w : World} {Q : Exit → Act → World → Prop} (x c c' : Int) (b r r' : Bool) (bop bop' : BinOp) (j j' p n : Nat) (hc : Cmp P bop x c r) (hc' : Cmp P bop' x c' r')
    (h1 : o1.op = .move (.tmp 1)) (g1 : o1.guard = some (j, false)) (t1 : o1.dst = some (p + 1))
    (h2 : o2.op = .binOp bop 5 (.tmp (p + 1)) (.const (.int .u8 c)) 5) (g2 : o2.guard = some (j, false)) (t2 : o2.dst = some (p + 2))
    (h3 : o3.op = .move (.tmp (p + 2))) (g3 : o3.guard = some (j, false)) (t3 : o3.dst = some (p + 3))
    (h4 : o4.op = .move (.tmp 1)) (g4 : o4.guard = some (j', true)) (t4 : o4.dst = some (p + 4))
    (h5 : o5.op = .binOp bop' 5 (.tmp (p + 4)) (.const (.int .u8 c')) 5) (g5 : o5.guard = some (j', true)) (t5 : o5.dst = some (p + 5))
    (h6 : o6.op = .pick (.tmp (p + 3)) (.tmp (p + 5)) (.const (.bool false))) (g6 : o6.guard = some (j, false)) (t6 : o6.dst = some (p + 6))
    (h7 : o7.op = .pick (.tmp p) (.const (.bool true)) (.tmp (p + 6))) (g7 : o7.guard = none) (t7 : o7.dst = some (p + 7))
    (h8 : o8.op = .move (.tmp (p + 7))) (g8 : o8.guard = none) (t8 : o8.dst = some (p + 8))
    (hj : (ops[j]?).bind (·.dst) = some p) (hj' : (ops[j']?).bind (·.dst) = some (p + 3)) (hs : a.tmps.size = n) (hp4 : p + 8 < n) (hp0 : 1 ≤ p)
    (hx : a.tmps[1]? = some (.int .u8 x)) (hb : a.tmps[p]? = some (.bool b))
    (h : ∀ u1 u2 u3 u4 u5 u6 (s : Bool) (a' : Act), s = (b || (r && r')) → a' = ((((((((a.put (some (p + 1)) u1).put (some (p + 2)) u2).put (some (p + 3)) u3).put (some (p + 4)) u4).put (some (p + 5)) u5).put (some (p + 6)) u6).put (some (p + 7)) (.bool s)).put (some (p + 8)) (.bool s)) → a'.tmps.size = n → a'.tmps[1]? = some (.int .u8 x) → a'.tmps[p + 8]? = some (.bool s) → wpList P ops Q rest a' w) :
    wpList P ops Q (o1 :: o2 :: o3 :: o4 :: o5 :: o6 :: o7 :: o8 :: rest) a w := by
  refine link7 x c c' b r r' bop bop' j j' p n hc hc' h1 g1 t1 h2 g2 t2 h3 g3 t3 h4 g4 t4 h5 g5 t5 h6 g6 t6 h7 g7 t7 hj hj' hs hp4 hp0 hx hb fun u1 u2 u3 u4 u5 u6 s hs' => ?_
  refine step_move (wanted_none g8) _ h8 ?_
  rw [t8, eval_of (put_eq _ _ (by rw [put_size, put_size, put_size, put_size, put_size, put_size]; omega))]
  refine h u1 u2 u3 u4 u5 u6 s _ hs' rfl (by rw [put_size, put_size, put_size, put_size, put_size, put_size, put_size, put_size]; exact hs) ?_ (put_eq _ _ (by rw [put_size, put_size, put_size, put_size, put_size, put_size, put_size]; omega))
  rw [put_ne _ _ (by omega), put_ne _ _ (by omega), put_ne _ _ (by omega), put_ne _ _ (by omega), put_ne _ _ (by omega), put_ne _ _ (by omega), put_ne _ _ (by omega), put_ne _ _ (by omega)]
  exact hx
/-- The chain's beginning. -/
theorem link0 {P : Program} {ops : Array Oper} {rest : List Oper} {o1 o2 o3 : Oper} {a : Act} {w : World} {Q : Exit → Act → World → Prop} (x c : Int) (r : Bool) (bop : BinOp) (p n : Nat) (hc : Cmp P bop x c r)
    (h1 : o1.op = .move (.tmp 1)) (g1 : o1.guard = none) (t1 : o1.dst = some p)
    (h2 : o2.op = .binOp bop 5 (.tmp p) (.const (.int .u8 c)) 5) (g2 : o2.guard = none) (t2 : o2.dst = some (p + 1))
    (h3 : o3.op = .move (.tmp (p + 1))) (g3 : o3.guard = none) (t3 : o3.dst = some (p + 2))
    (hs : a.tmps.size = n) (hp4 : p + 2 < n) (hp0 : 2 ≤ p) (hx : a.tmps[1]? = some (.int .u8 x))
    (h : ∀ u1 u2 (s : Bool) (a' : Act), s = r → a' = (((a.put (some p) u1).put (some (p + 1)) u2).put (some (p + 2)) (.bool s)) → a'.tmps.size = n → a'.tmps[1]? = some (.int .u8 x) → a'.tmps[p + 2]? = some (.bool s) → wpList P ops Q rest a' w) :
    wpList P ops Q (o1 :: o2 :: o3 :: rest) a w := by
  have e1 : (a.put (some p) (.int .u8 x)).tmps[p]? = some (.int .u8 x) := put_eq _ _ (by omega)
  refine step_move (wanted_none g1) _ h1 ?_
  rw [t1, eval_of hx]
  refine step_bin (r := .bool r) (wanted_none g2) h2 (by rw [eval_of e1]; exact hc.guard _ _ _) (by rw [eval_of e1]; exact hc.run _) ?_
  rw [t2]
  refine step_move (wanted_none g3) _ h3 ?_
  rw [t3, eval_of (put_eq _ _ (by rw [put_size]; omega))]
  refine h _ _ r _ rfl rfl (by rw [put_size, put_size, put_size]; exact hs) ?_ (put_eq _ _ (by rw [put_size, put_size]; omega))
  rw [put_ne _ _ (by omega), put_ne _ _ (by omega), put_ne _ _ (by omega)]
  exact hx
end
end Go.Proofs.YtgffhjcnfjgpnaaDoor
