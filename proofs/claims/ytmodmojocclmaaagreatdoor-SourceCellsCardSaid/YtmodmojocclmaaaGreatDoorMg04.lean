/- What the listed package-level variables give the walks: the signs, and an error value. -/
import Derived.Test.YtmodmojocclmaaaGreatDoorRows
import Derived.Test.YtmodmojocclmaaaGreatDoorMg03
import Derived.ProofKit
import Derived.LaidMore
import Derived.OpenShut
import Derived.Stop.Joined
import Derived.Stop.LaidErr
import Derived.OrdersHeld
import Derived.Deep.RegionHeld
import Derived.RegionTactic
namespace Go.Proofs.YtmodmojocclmaaaGreatDoor
open Go.ChangeShapes Go.WideShapes Go.ChangeAt Go.WideMaps Go.WideElems Go.RowKit

theorem Tryz.own : ownKnob Tryz.prog.godebug = none := by kernel_rfl
theorem Tryz.laidOut : laidOutB Tryz.prog = true := by kernel_rfl
def laid6 : List (String × DataW Unit) := [("math/bits.deBruijn32tab", Rows.laid_math_bits_deBruijn32tab), ("math/bits.deBruijn64tab", Rows.laid_math_bits_deBruijn64tab), ("internal/strconv.uint64pow10", Rows.laid_internal_strconv_uint64pow10), ("strconv.ErrRange", Rows.laid_strconv_ErrRange), ("strconv.ErrSyntax", Rows.laid_strconv_ErrSyntax), ("brocade/lex.signs", Rows.laid_brocade_lex_signs)]
theorem gRange : Tryz.prog.globalNamed "strconv.ErrRange" = some 2 := by kernel_rfl
theorem gSigns : Tryz.prog.globalNamed "brocade/lex.signs" = some 0 := by kernel_rfl
theorem tRange : (Tryz.prog.globals[2]?).map (·.type) = some 206 := by kernel_rfl
theorem tSigns : (Tryz.prog.globals[0]?).map (·.type) = some 182 := by kernel_rfl
set_option maxRecDepth 100000 in
theorem door_met (os : Os) (args : Array Value) : laidMetH Tryz.prog laid6 ((World.doorLaid Tryz.prog 400 os).forCall (fun _ _ => 0) ⟨#[], args, []⟩).memory :=
 laidMetH_of_parts3 (fuel := 8) (laidMet_of_run' 8 (by kernel_rfl) (by kernel_rfl)) (by kernel_rfl) (by kernel_rfl)

theorem star87 : "*" ++ "errors.errorString" = "*errors.errorString" := by decide
theorem row87 (u : TypeId) (h : Tryz.prog.typeName? 3 u = some "*errors.errorString") : u = 249 :=
 typeName_ptr_named (nm := "errors.errorString") (by rw [star87]; kernel_rfl) (by kernel_rfl) (by decide) u (by rw [star87]; exact h)
theorem cells89 : Tryz.prog.cellsOf 251 = 1 := by kernel_rfl
theorem cells9 : Tryz.prog.cellsOf 9 = 1 := by kernel_rfl
theorem lits_signs {H : Type} : (Rows.laid_brocade_lex_signs : DataW H) = .agg (sgnL.map fun l => .lit (.string l)) := rfl
theorem good_of_laid {W : World} (h : laidMetH Tryz.prog laid6 W) : Good W := by
 rw [MakeChecks.laidMetH_plain _ _ _ (by kernel_rfl)] at h
 have h3 := h.tail.tail.tail
 have h5 := h3.tail.tail
 constructor
 ·obtain ⟨ps, ⟨g0, t0, cs0, f0, p0, q0, hg0, ht0, hv0, hd0, _, _⟩, _, _⟩ := h5
  obtain rfl := Option.some.inj (gSigns.symm.trans hg0)
  obtain rfl := Option.some.inj (tSigns.symm.trans ht0)
  obtain ⟨xs, m1, rfl, hx1, hlen, hn3, hel⟩ := DataW.trod_array Tryz.underlying182 hd0
  have c9 : Tryz.prog.cellsOf 9 = 1 := by kernel_rfl
  have c62 : Tryz.prog.cellsOf 182 = 16 := by kernel_rfl
  rw [c62] at hlen
  rw [lits_signs] at hx1
  simp only [Prod.mk.injEq, DataW.agg.injEq] at hx1
  have hcs : cs0 = sgnD := by
   apply Array.toList_inj.1
   apply List.ext_getElem?
   intro i
   rcases Nat.lt_or_ge i 16 with hi | hi
   ·have he := hel i hi
    rw [c9, Nat.mul_one] at he
    have hxi : i < xs.length := by omega
    rw [List.getElem?_eq_getElem hxi] at he
    obtain ⟨s, e1, e2, _⟩ := DataW.trod_string Tryz.underlying9 he
    have hci : i < cs0.toList.length := by rw [hlen]; exact hi
    rw [List.drop_eq_getElem_cons hci] at e1
    simp only [List.take_succ_cons, List.take_zero, List.cons.injEq, and_true] at e1
    have hs : s.data.toList = sgn i := by
     have h2 := congrArg (fun l : List (DataW Unit) => l[i]?) hx1.1
     simp only [List.getElem?_map, List.getElem?_eq_getElem hxi, Option.map_some, e2] at h2
     have hl : i < sgnL.length := hi
     rw [List.getElem?_eq_getElem hl] at h2
     simp only [Option.map_some, Option.some.injEq, DataW.lit.injEq, Lit.string.injEq] at h2
     unfold sgn
     rw [List.getD_eq_getElem?_getD, List.getElem?_eq_getElem hl, Option.getD_some]
     exact h2.symm
    have hsb : s = ba (sgn i) := by
     rw [← hs]; simp [ba]
    rw [List.getElem?_eq_getElem hci, e1, hsb]
    have hall : ∀ j, j < 16 → sgnD.toList[j]? = some (.string (ba (sgn j))) := by
     intro j hj
     rcases (show j = 0 ∨ j = 1 ∨ j = 2 ∨ j = 3 ∨ j = 4 ∨ j = 5 ∨ j = 6 ∨ j = 7 ∨ j = 8 ∨ j = 9 ∨ j = 10 ∨ j = 11 ∨ j = 12 ∨ j = 13 ∨ j = 14 ∨ j = 15 by omega) with rfl | rfl | rfl | rfl | rfl | rfl | rfl | rfl | rfl | rfl | rfl | rfl | rfl | rfl | rfl | rfl <;> rfl
    exact (hall i hi).symm
   ·rw [List.getElem?_eq_none (by rw [hlen]; exact hi), List.getElem?_eq_none (by exact hi)]
  subst hcs
  unfold World.var? at hv0
  rw [gSigns] at hv0
  simp only [Option.bind_some] at hv0
  rcases hh : W.heap[0]? with _ | o
  ·rw [hh] at hv0; cases hv0
  ·rw [hh] at hv0
   match o, hv0 with
   | .cells cs t fr, hv0 =>
    simp only [Option.some.injEq] at hv0
    subst hv0
    exact ⟨t, fr, rfl⟩
 ·obtain ⟨a0, s0, hv0, _, _, _⟩ := laid_sentinel h3 gRange tRange Tryz.underlying206 row87 Tryz.underlying249 Tryz.underlying251 rfl rfl Tryz.underlying9 cells89 cells9
  exact ⟨249, .pointer (some a0), by simpa using World.var?_cell gRange hv0 0⟩
end Go.Proofs.YtmodmojocclmaaaGreatDoor

/- A region that draws its order, whose last operation writes a cell that it loads: what holds of the world is asked behind every operation but that last one. -/
namespace Go.Proofs.YtmodmojocclmaaaGreatDoor
open Go

section
variable {P : Program} {ops : Array Oper} {Q : Exit → Act → World → Prop} {md : Region.Mode} {S : World → Prop} {z : Nat}

def TillLast (P : Program) (md : Region.Mode) (ops : Array Oper) (Q : Exit → Act → World → Prop) (S : World → Prop) (z : Nat) : Nat → Array Bool → Act → World → Prop
 | 0, listed, a, w => Region.ready md ops listed = [] ∧ Q .normal a w
 | fuel + 1, listed, a, w =>
  (Region.ready md ops listed = [] → Q .normal a w) ∧
  ∀ i ∈ Region.ready md ops listed, wpOp P ops Q i (fun a' w' => ((listed.setIfInBounds i true).getD z true = false → S w') ∧ TillLast P md ops Q S z fuel (listed.setIfInBounds i true) a' w') a w

theorem TillLast.any : ∀ (fuel : Nat) (listed : Array Bool) (a : Act) (w : World), TillLast P md ops Q S z fuel listed a w → wpAny P md ops Q fuel listed a w
 | 0, _, _, _, h => h
 | fuel + 1, _, _, _, h => ⟨h.1, fun i hi => wpOp_mono (fun a' w' h' => TillLast.any fuel _ a' w' h'.2) (h.2 i hi)⟩

def waitsB (md : Region.Mode) (ops : Array Oper) (z i : Nat) : Bool :=
 match ops[z]? with
 | some o => o.after.any fun e => Region.binds md e && e.on == i
 | none => false
theorem waits_not_ready {listed : Array Bool} {i : Nat} (h : waitsB md ops z i = true) (hu : listed.getD i false = false) : z ∉ Region.ready md ops listed := by
 intro hz
 obtain ⟨_, o, ho, hall⟩ := mem_ready.1 hz
 unfold waitsB at h
 rw [ho] at h
 simp only [Array.any_eq_true, Bool.and_eq_true, beq_iff_eq] at h
 obtain ⟨k, hk, hb, he⟩ := h
 have h1 := hall _ (Array.getElem_mem hk) hb
 rw [he, hu] at h1
 cases h1
theorem ready_unlisted {listed : Array Bool} {i : Nat} (h : i ∈ Region.ready md ops listed) : listed.getD i false = false := by
 have h0 := (mem_ready.1 h).1
 rcases Nat.lt_or_ge i listed.size with hl | hl
 ·simpa [hl] using h0
 ·simp [Array.getElem?_eq_none hl]

theorem TillLast.first {i : Nat} {oi : Oper} {v : Value} (hi : ops[i]? = some oi) (hsel : ∀ (j : Nat) (o : Oper) cs b, ops[j]? = some o → o.op ≠ .select cs b)
  (hQ : ∀ c a w, Q (.panic c) (a.put oi.dst v) w → Q (.panic c) a w) (hw : waitsB md ops z i = true) (hzi : z ≠ i) :
  ∀ (fuel : Nat) (listed : Array Bool) (a : Act) (w : World),
   (∀ j oj, ops[j]? = some oj → j ≠ i → listed.getD j true = false → (∀ e ∈ oj.after, Region.binds md e = true → e.on ≠ i) → oi.apart ops oj = true) →
   i ∈ Region.ready md ops listed → listed.getD z true = false → YieldsIf P ops S oi v a → S w →
   TillLast P md ops Q S z fuel (listed.setIfInBounds i true) (a.put oi.dst v) w → TillLast P md ops Q S z (fuel + 1) listed a w := by
 intro fuel
 induction fuel with
 | zero =>
  intro listed a w _ hr _ hy hS H
  refine ⟨fun h => absurd hr (by rw [h]; simp), fun j hj => ?_⟩
  by_cases hji : j = i
  ·subst hji
   exact hy.wpOp hi hS ⟨fun _ => hS, H⟩
  ·exact absurd (ready_mono hj hji) (by rw [H.1]; simp)
 | succ fuel ih =>
  intro listed a w hfree hr hz hy hS H
  refine ⟨fun h => absurd hr (by rw [h]; simp), fun j hj => ?_⟩
  by_cases hji : j = i
  ·subst hji
   exact hy.wpOp hi hS ⟨fun _ => hS, H⟩
  have hun := ready_unlisted hr
  have hjz : j ≠ z := fun e => waits_not_ready hw hun (e ▸ hj)
  obtain ⟨hjun, oj, hoj, hall⟩ := mem_ready.1 hj
  have hno : ∀ e ∈ oj.after, Region.binds md e = true → e.on ≠ i := by
   intro e he hb heq
   have h1 := hall e he hb
   rw [heq, hun] at h1
   cases h1
  have hstep := wpOp_putIf hoj (hfree j oj hoj hji hjun hno) (fun cs b => hsel i oi cs b hi) (fun cs b => hsel j oj cs b hoj) hQ hy (H.2 j (ready_mono hj hji))
  have hz' : (listed.setIfInBounds j true).getD z true = false := by rw [getD_set_ne true hjz]; exact hz
  have hz2 : ((listed.setIfInBounds i true).setIfInBounds j true).getD z true = false := by rw [getD_set_ne true hjz, getD_set_ne true (Ne.symm hzi)]; exact hz
  refine wpOp_mono (fun a' w' h3 => ⟨fun _ => h3.2.1 hz2, ih (listed.setIfInBounds j true) a' w' ?_ (ready_mono hr (Ne.symm hji)) hz' h3.1 (h3.2.1 hz2) ?_⟩) hstep
  ·intro k ok hk hki hku hkn
   refine hfree k ok hk hki ?_ hkn
   by_cases hjk : j = k
   ·rw [← hjk]; exact hjun
   ·rwa [getD_set_ne true hjk] at hku
  ·rw [Array.setIfInBounds_comm _ _ hji]
   exact h3.2.2
theorem TillLast.take {i : Nat} {oi : Oper} {v : Value} {fuel : Nat} {listed : Array Bool} {a : Act} {w : World} (hi : ops[i]? = some oi)
  (hs : Region.noSelect ops = true) (hf : Region.free md ops listed i = true) (hr : (Region.ready md ops listed).contains i = true) (hw : waitsB md ops z i = true) (hzi : z ≠ i) (hz : listed.getD z true = false)
  (hQ : ∀ c a w, Q (.panic c) (a.put oi.dst v) w → Q (.panic c) a w) (hy : YieldsIf P ops S oi v a) (hS : S w)
  (h : TillLast P md ops Q S z fuel (listed.setIfInBounds i true) (a.put oi.dst v) w) : TillLast P md ops Q S z (fuel + 1) listed a w :=
 TillLast.first hi (Region.noSelect_spec hs) hQ hw hzi fuel listed a w (Region.free_spec hi hf) (by simpa using hr) hz hy hS h
def NextAll (P : Program) (md : Region.Mode) (ops : Array Oper) (Q : Exit → Act → World → Prop) (S : World → Prop) (z fuel : Nat) (listed : Array Bool) (a : Act) (w : World) (rs : List Nat) : Prop :=
 ∀ i ∈ rs, wpOp P ops Q i (fun a' w' => ((listed.setIfInBounds i true).getD z true = false → S w') ∧ TillLast P md ops Q S z fuel (listed.setIfInBounds i true) a' w') a w
theorem TillLast.ready {rs : List Nat} {fuel : Nat} {listed : Array Bool} {a : Act} {w : World} (hr : Region.ready md ops listed = rs) (hne : rs ≠ []) (h : NextAll P md ops Q S z fuel listed a w rs) : TillLast P md ops Q S z (fuel + 1) listed a w :=
 ⟨fun h0 => absurd (hr ▸ h0) hne, fun i hi => h i (hr ▸ hi)⟩
theorem NextAll.nil {fuel : Nat} {listed : Array Bool} {a : Act} {w : World} : NextAll P md ops Q S z fuel listed a w [] := fun _ h => by cases h
theorem NextAll.cons {fuel : Nat} {listed : Array Bool} {a : Act} {w : World} {i : Nat} {o : Oper} {rs : List Nat} (ho : ops[i]? = some o)
  (h : ∀ K' : Act → World → Prop, Shut (∀ a w, ((listed.setIfInBounds i true).getD z true = false → S w) → TillLast P md ops Q S z fuel (listed.setIfInBounds i true) a w → K' a w) → if Region.wanted o (yielded ops a.tmps) = true then Oper.wp P o a w K' Q else K' (a.put o.dst undef) w)
  (hs : NextAll P md ops Q S z fuel listed a w rs) : NextAll P md ops Q S z fuel listed a w (i :: rs) := by
 intro j hj
 rcases List.mem_cons.1 hj with rfl | hj
 ·exact wpOp_step ho (fun K' hK => h K' (fun a w hS hT => hK a w ⟨hS, hT⟩))
 ·exact hs j hj
theorem TillLast.done {listed : Array Bool} {a : Act} {w : World} (hr : Region.ready md ops listed = []) (h : Q .normal a w) : ∀ fuel, TillLast P md ops Q S z fuel listed a w
 | 0 => ⟨hr, h⟩
 | _ + 1 => ⟨fun _ => h, fun i hi => by rw [hr] at hi; cases hi⟩
theorem TillLast.start {id : Nat} {a : Act} {w : World} (hm : P.follows .mixedOrders = true) (h : TillLast P .any ops Q S z ops.size (Array.replicate ops.size false) a w.drew) : (Code.region id ops true).wp P Q a w :=
 wp_region_any hm (h.any _ _ _ _)
end
end Go.Proofs.YtmodmojocclmaaaGreatDoor

/- Plain facts on the words of a source: read from left to right; cut; joined; written again. -/
namespace Go.Proofs.YtmodmojocclmaaaGreatDoor

inductive Lexes : Nat → List UInt8 → List Lx.Tk → Option Nat → Prop
 | done (p : Nat) (l : List UInt8) (h : l.drop (sk l) = []) : Lexes p l [] none
 | err (p : Nat) (l : List UInt8) (h0 : l.drop (sk l) ≠ []) (h : firstF (l.drop (sk l)) = none) : Lexes p l [] (some (p + sk l))
 | word (p : Nat) (l : List UInt8) (x : Lx.Tk) (m : Nat) (ws : List Lx.Tk) (r : Option Nat) (h : firstF (l.drop (sk l)) = some (x, m)) (hr : Lexes (p + sk l + m) (l.drop (sk l + m)) ws r) :
   Lexes p l (atPos x (p + sk l) :: ws) r

theorem lexP_lexes (l : List UInt8) : ∀ (f a : Nat), l.length < f + (a + sk (l.drop a)) → a ≤ l.length → Lexes a (l.drop a) (lexP l f (a + sk (l.drop a))).1 (lexP l f (a + sk (l.drop a))).2 := by
 intro f
 induction f with
 | zero =>
  intro a h ha
  have := sk_le l a ha
  omega
 | succ f ih =>
  intro a h ha
  have hs := sk_le l a ha
  have hd : (l.drop a).drop (sk (l.drop a)) = l.drop (a + sk (l.drop a)) := by rw [List.drop_drop]
  by_cases hend : l.length ≤ a + sk (l.drop a)
  ·rw [lexP_end l _ _ hend]
   exact .done _ _ (by rw [hd]; exact List.drop_of_length_le hend)
  ·rcases res_cases (firstF (l.drop (a + sk (l.drop a)))) with ho | ⟨x, m, ho⟩
   ·rw [lexP_none l _ _ (by omega) h ho]
    refine .err _ _ ?_ (by rw [hd]; exact ho)
    rw [hd]; intro e
    have := congrArg List.length e
    simp at this; omega
   ·rw [lexP_some l _ _ (by omega) h ho]
    have hb := firstF_bound ho
    simp only [List.length_drop] at hb
    refine .word _ _ x m _ _ (by rw [hd]; exact ho) ?_
    have e : (l.drop a).drop (sk (l.drop a) + m) = l.drop (a + sk (l.drop a) + m) := by rw [List.drop_drop]; congr 1; omega
    rw [e]
    exact ih (a + sk (l.drop a) + m) (by omega) (by omega)
theorem lexAll_lexes (l : List UInt8) : Lexes 0 l (lexAll l).1 (lexAll l).2 := by
 have := lexP_lexes l (l.length + 1) 0 (by omega) (Nat.zero_le _)
 simpa [lexAll] using this
theorem Lexes.det {p : Nat} {l : List UInt8} {ws ws' : List Lx.Tk} {r r' : Option Nat} (h : Lexes p l ws r) : Lexes p l ws' r' → ws = ws' ∧ r = r' := by
 induction h generalizing ws' r' with
 | done p l h =>
  intro k
  cases k with
  | done => exact ⟨rfl, rfl⟩
  | err _ _ h0 => exact absurd h h0
  | word _ _ x m _ _ h1 => rw [h] at h1; have := firstF_bound h1; simp at this; omega
 | err p l h0 h =>
  intro k
  cases k with
  | done _ _ h1 => exact absurd h1 h0
  | err => exact ⟨rfl, rfl⟩
  | word _ _ x m _ _ h1 => rw [h] at h1; cases h1
 | word p l x m ws r h hr ih =>
  intro k
  cases k with
  | done _ _ h1 => rw [h1] at h; have := firstF_bound h; simp at this; omega
  | err _ _ h0 h1 => rw [h] at h1; cases h1
  | word _ _ x' m' _ _ h1 hr' =>
   rw [h] at h1
   simp only [Option.some.injEq, Prod.mk.injEq] at h1
   obtain ⟨rfl, rfl⟩ := h1
   obtain ⟨e1, e2⟩ := ih hr'
   exact ⟨by rw [e1], e2⟩
theorem lexes_all {l : List UInt8} {ws : List Lx.Tk} {r : Option Nat} (h : Lexes 0 l ws r) : lexAll l = (ws, r) := by
 obtain ⟨e1, e2⟩ := h.det (lexAll_lexes l)
 rw [e1, e2]
theorem lexR_ok {l : List UInt8} {ws : List Lx.Tk} (hl : l.length ≤ 1048576) (h : Lexes 0 l ws none) : lexR l = (ws, 0, 0) := by
 unfold lexR
 rw [if_neg (by omega), lexes_all h]
theorem lexR_err {l : List UInt8} {ws : List Lx.Tk} {p : Nat} (hl : l.length ≤ 1048576) (h : Lexes 0 l ws (some p)) : lexR l = ([], p, 2) := by
 unfold lexR
 rw [if_neg (by omega), lexes_all h]
theorem lexR_cases (l : List UInt8) (hl : l.length ≤ 1048576) : (∃ ws, lexR l = (ws, 0, 0) ∧ Lexes 0 l ws none) ∨ ∃ ws p, lexR l = ([], p, 2) ∧ Lexes 0 l ws (some p) := by
 have h := lexAll_lexes l
 rcases hr : (lexAll l).2 with _ | p
 ·rw [hr] at h; exact .inl ⟨_, lexR_ok hl h, h⟩
 ·rw [hr] at h; exact .inr ⟨_, p, lexR_err hl h, h⟩

theorem skip_take (b : Bool) (l : List UInt8) : ∀ n, Lx.skipN b (l.take n) = min n (Lx.skipN b l) := by
 induction l generalizing b with
 | nil => intro n; cases b <;> simp [Lx.skipN]
 | cons c r ih =>
  intro n
  cases n with
  | zero => cases b <;> simp [Lx.skipN]
  | succ n =>
   have h1 := ih false n
   have h2 := ih true n
   cases b <;> simp only [List.take_succ_cons, Lx.skipN, h1, h2]
   ·split
    ·omega
    ·split <;> omega
   ·split <;> omega
theorem sk_take (l : List UInt8) (n : Nat) : sk (l.take n) = min n (sk l) := skip_take false l n

theorem Lexes.pos_ge {p : Nat} {l : List UInt8} {ws : List Lx.Tk} {r : Option Nat} (h : Lexes p l ws r) : ∀ x ∈ ws, p + sk l ≤ x.pos := by
 induction h with
 | done => simp
 | err => simp
 | word p l x m ws r h hr ih =>
  intro y hy
  simp only [List.mem_cons] at hy
  rcases hy with rfl | hy
  ·exact Nat.le_refl _
  ·have := ih y hy; omega
theorem Lexes.cut {p : Nat} {l : List UInt8} {ws : List Lx.Tk} (h : Lexes p l ws none) : ∀ (k : Nat) (x : Lx.Tk), ws[k]? = some x → Lexes p (l.take (x.pos - p)) (ws.take k) none := by
 generalize hr : (none : Option Nat) = r at h
 induction h with
 | done => intro k x hx; simp at hx
 | err => cases hr
 | word p l y m ws r h hl ih =>
  subst hr
  intro k x hx
  cases k with
  | zero =>
   simp at hx; subst hx
   refine .done _ _ ?_
   rw [sk_take, show (atPos y (p + sk l)).pos = p + sk l from rfl]
   apply List.drop_of_length_le
   rw [List.length_take]; omega
  | succ k =>
   have hx' : ws[k]? = some x := by simpa using hx
   have hge := hl.pos_ge x (List.mem_of_getElem? hx')
   have := ih rfl k x hx'
   rw [List.take_succ_cons]
   have hsk : sk (l.take (x.pos - p)) = sk l := by rw [sk_take]; omega
   have := Lexes.word p (l.take (x.pos - p)) y m (ws.take k) none (by
    rw [hsk, List.drop_take]
    exact first_take h (by omega)) (by
    rw [hsk, List.drop_take]
    have e : x.pos - p - (sk l + m) = x.pos - (p + sk l + m) := by omega
    rw [e]; exact this)
   rw [hsk] at this
   exact this
end Go.Proofs.YtmodmojocclmaaaGreatDoor

/- Small facts on slices of bytes and of words, and on sources and their words. -/
namespace Go.Proofs.YtmodmojocclmaaaGreatDoor
open Go.RowKit

def Yes (w : World) (e : Ending) (w' : World) : Prop := e = .returned (.bool true) ∧ Below w.heap.size w w'
theorem Bs.later {w w' : World} {v : Value} {l : List UInt8} (h : Bs w v l) (hb : Below w.heap.size w w') : Bs w' v l := by
 obtain ⟨A, c, h1, h2, h3⟩ := h
 refine ⟨A, c, h1, h2, fun h0 => ?_⟩
 obtain ⟨a, h4, h5⟩ := h3 h0
 exact ⟨a, h4, fun j hj => (hb.cell (World.block_lt_of_cell? w _ (h5 j hj))).trans (h5 j hj)⟩
theorem Bs.cut {w : World} {A : Option Addr} {c : Nat} {l : List UInt8} {n : Nat} (h : Bs w (.slice A n c) l) (k : Nat) : Bs w (.slice A (l.take k).length c) (l.take k) := by
 obtain ⟨A', c', h1, h2, h3⟩ := h
 injection h1 with hA hn hc
 subst hA hc
 refine ⟨A, c, rfl, by rw [List.length_take]; omega, fun h0 => ?_⟩
 obtain ⟨a, h4, h5⟩ := h3 (by rw [List.length_take] at h0; omega)
 refine ⟨a, h4, fun j hj => ?_⟩
 rw [h5 j (by rw [List.length_take] at hj; omega), List.getElem_take]
theorem and_mask (a : Int) (m : Nat) (hm : m < 9223372036854775808) : ∃ n : Nat, n ≤ m ∧ bits .and .i64 a (m : Int) = (n : Int) := by
 have h2 : (BitVec.ofInt 64 (m : Int)).toNat = m := by
  rw [BitVec.ofInt_natCast, BitVec.toNat_ofNat]; exact Nat.mod_eq_of_lt (by omega)
 have hle : (BitVec.ofInt 64 a &&& BitVec.ofInt 64 (m : Int)).toNat ≤ m := by
  rw [BitVec.toNat_and, h2]; exact Nat.and_le_right
 refine ⟨(BitVec.ofInt 64 a &&& BitVec.ofInt 64 (m : Int)).toNat, hle, ?_⟩
 show IntKind.i64.wrap ((BitVec.ofInt 64 a &&& BitVec.ofInt 64 (m : Int)).toNat : Int) = _
 exact IntWalk.i64_in _ (by omega)
theorem Ts.cut {w : World} {g o n c : Nat} {ws : List Lx.Tk} (h : Ts w (.slice (some ⟨g, o, none⟩) n c) ws) {k : Nat} (hk : k ≤ ws.length) : Ts w (.slice (some ⟨g, o, none⟩) k c) (ws.take k) := by
 obtain ⟨A, c', h1, h2, h3⟩ := h
 injection h1 with hA hn hc
 subst hc
 refine ⟨some ⟨g, o, none⟩, c, by rw [List.length_take]; congr 1; omega, by rw [List.length_take]; omega, fun h0 => ?_⟩
 obtain ⟨g', o', h4, h5⟩ := h3 (by rw [List.length_take] at h0; omega)
 rw [← hA] at h4
 injection h4 with h4
 injection h4 with hg ho _
 subst hg ho
 refine ⟨g, o, rfl, fun j u hj => h5 j u ?_⟩
 have e : wordsC ws = wordsC (ws.take k) ++ wordsC (ws.drop k) := by
  unfold wordsC; rw [← List.flatMap_append, List.take_append_drop]
 rw [e, List.getElem?_append_left (List.getElem?_eq_some_iff.1 hj).1]
 exact hj
theorem Lexes.count {p : Nat} {l : List UInt8} {ws : List Lx.Tk} {r : Option Nat} (h : Lexes p l ws r) : ws.length ≤ l.length := by
 induction h with
 | done => simp
 | err => simp
 | word p l x m ws r h hr ih =>
  have hb := firstF_bound h
  simp only [List.length_drop] at hb ih
  simp only [List.length_cons]; omega

end Go.Proofs.YtmodmojocclmaaaGreatDoor
