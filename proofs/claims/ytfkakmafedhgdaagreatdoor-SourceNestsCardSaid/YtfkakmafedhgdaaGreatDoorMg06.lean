/- The machine of package source: how it lies in memory. -/
import Derived.Test.YtfkakmafedhgdaaGreatDoorMg05
import Derived.OrdersHeld
import Derived.WalkKit
import Derived.BigRegion
import Derived.Deep.RegionHeld
import Derived.RegionTactic
namespace Go.Proofs.YtfkakmafedhgdaaGreatDoor.K
open Go Go.RowKit
namespace So

/-- What the machine is at. -/
def AtV (H : Mem) (N : Nat) (a : Option (Tm × Env)) (v : Val) (tv ev : Value) (l : List Value) : Prop :=
  match a with
  | some (t, e) => (∃ b o, tv = ptO b o ∧ TmA H b o t) ∧ EV H N e ev ∧ l.length = 4 ∧ ∀ u ∈ l, u.oneCell' = true
  | none => tv = .pointer none ∧ VV H N v l
/-- Numbers that are read. -/
def InV (H : Mem) (v : Value) (l : List Int) : Prop := Sl v l.length ∧ ∀ (i : Nat) n, l[i]? = some n → HC H ⟨blk v, off v + i, none⟩ (.int .i64 n)
theorem InV.le {H H' : Mem} (k : MLe H H') {v : Value} {l : List Int} (h : InV H v l) : InV H' v l := ⟨h.1, fun i n hi => (h.2 i n hi).le k⟩
/-- Cells of references. -/
def CsV (H : Mem) (lo : Nat) (w : World) (v : Value) (l : List Val) : Prop :=
  (∃ ls : List (List Value), ls.length = l.length ∧ w.ownsRow lo 68 4 v l.length ls.flatten ∧ ∀ (i : Nat) x u, l[i]? = some x → ls[i]? = some u → VV H l.length x u) ∧ ∀ b, v.ownBlock = some b → H b = none
def TrV (H : Mem) (lo : Nat) (w : World) (v : Value) (l : List Int) : Prop :=
  w.ownsRow lo 3 1 v l.length (l.map (Value.int .i64 ·)) ∧ ∀ b, v.ownBlock = some b → H b = none
/-- What stays around the machine. -/
structure Core (w0 : World) (mb : Nat) (H : Mem) (cv lv : Value) (cells : List Val) (trace : List Int) (w : World) : Prop where
  os : w.os = w0.os
  tape : w.tape = w0.tape
  output : w.output = w0.output
  base : w0.heap.size ≤ mb
  sub : Sub H w
  dom : ∀ b o, H b = some o → b < w.heap.size
  old : ∀ b, b < w0.heap.size → H b = w0.heap[b]?
  free : H mb = none
  cs : CsV H (mb + 1) w cv cells
  ts : TrV H (mb + 1) w lv trace
  ne : ∀ b, cv.ownBlock = some b → lv.ownBlock ≠ some b
/-- The machine's cells. -/
def mC (tv ev v0 v1 v2 v3 fv hv cv iv lv : Value) (out : Int) (st ko : Nat) : Array Value := #[tv, ev, v0, v1, v2, v3, fv, hv, cv, iv, lv, .int .i64 out, .int .i64 (st : Int), .int .i64 (ko : Int)]
structure MR (w0 : World) (mb : Nat) (H : Mem) (s : St) (tv ev v0 v1 v2 v3 fv hv cv iv lv : Value) (w : World) : Prop where
  core : Core w0 mb H cv lv s.cells s.trace w
  lies : Lies w mb 75 (mC tv ev v0 v1 v2 v3 fv hv cv iv lv s.out s.steps s.konts)
  at_ : AtV H s.cells.length s.at_ s.val tv ev [v0, v1, v2, v3]
  above : FsV H s.cells.length s.above fv
  hs : HsV H s.cells.length s.hs hv
  input : InV H iv s.input
def MS (w0 : World) (mb : Nat) (H : Mem) (s : St) (w : World) : Prop := ∃ tv ev v0 v1 v2 v3 fv hv cv iv lv, MR w0 mb H s tv ev v0 v1 v2 v3 fv hv cv iv lv w
/-- What a method of the machine leaves. -/
def MEnd (w0 : World) (mb : Nat) (H : Mem) (s : St) (e : Ending) (w' : World) : Prop := e = .returned (.tuple #[]) ∧ ∃ H', MLe H H' ∧ MS w0 mb H' s w'

section
variable {w0 : World} {mb : Nat} {H : Mem} {cv lv : Value} {cells : List Val} {trace : List Int} {w : World}
theorem Core.fresh (h : Core w0 mb H cv lv cells trace w) : H w.heap.size = none := by
  cases hq : H w.heap.size with
  | none => rfl
  | some o => exact absurd (h.dom _ _ hq) (by omega)
theorem Core.grow (h : Core w0 mb H cv lv cells trace w) (o : Obj) : MLe H (ins H w.heap.size o) := ins_le o h.fresh
theorem own_lt {lo n sz : Nat} {e : TypeId} {v : Value} {xs : List Value} (h : w.ownsRow lo e sz v n xs) {b : Nat} (hb : v.ownBlock = some b) : lo ≤ b ∧ b < w.heap.size := own_block h b hb
/-- One more block, that stays. -/
theorem Core.alloc (h : Core w0 mb H cv lv cells trace w) (hm : mb < w.heap.size) (o : Obj) : Core w0 mb (ins H w.heap.size o) cv lv cells trace (w.alloc o) := by
  have hle := h.grow o
  have hb : ∀ g, g < w.heap.size → (w.alloc o).heap[g]? = w.heap[g]? := fun g hg => Below.heap_alloc w o g hg
  have hz : (w.alloc o).heap.size = w.heap.size + 1 := by simp
  refine ⟨h.os, h.tape, h.output, h.base, fun b x hx => ?_, fun b x hx => ?_, fun b hb' => ?_, ?_, ?_, ?_, h.ne⟩
  · unfold ins at hx
    by_cases he : b = w.heap.size
    · subst he; rw [if_pos rfl] at hx; rw [← hx]; exact heap_alloc_new w o
    · rw [if_neg he] at hx; exact (hb b (h.dom _ _ hx)).trans (h.sub _ _ hx)
  · unfold ins at hx
    by_cases he : b = w.heap.size
    · omega
    · rw [if_neg he] at hx; have := h.dom _ _ hx; omega
  · have := h.base
    unfold ins
    rw [if_neg (by omega)]
    exact h.old b hb'
  · unfold ins; rw [if_neg (by omega)]; exact h.free
  · obtain ⟨⟨ls, h1, h2, h3⟩, h4⟩ := h.cs
    refine ⟨⟨ls, h1, own_same h2 fun g _ hg => hb g hg, fun i x u hx hu => (h3 i x u hx hu).le hle (Nat.le_refl _)⟩, fun b hb' => ?_⟩
    have := (own_lt h2 hb').2
    unfold ins; rw [if_neg (by omega)]; exact h4 b hb'
  · obtain ⟨h2, h4⟩ := h.ts
    refine ⟨own_same h2 fun g _ hg => hb g hg, fun b hb' => ?_⟩
    have := (own_lt h2 hb').2
    unfold ins; rw [if_neg (by omega)]; exact h4 b hb'
/-- A cell of the machine's is written. -/
theorem Core.set (h : Core w0 mb H cv lv cells trace w) (i : Nat) (v : Value) : Core w0 mb H cv lv cells trace (w.setCell ⟨mb, i, none⟩ v) := by
  have hb : ∀ g, g ≠ mb → (w.setCell ⟨mb, i, none⟩ v).heap[g]? = w.heap[g]? := fun g hg => Below.heap_setCell w _ v g hg
  refine ⟨h.os, h.tape, h.output, h.base, fun b x hx => (hb b fun e => ?_).trans (h.sub b x hx), fun b x hx => by simpa using h.dom b x hx, h.old, h.free, ?_, ?_, h.ne⟩
  · rw [e, h.free] at hx; cases hx
  · obtain ⟨⟨ls, h1, h2, h3⟩, h4⟩ := h.cs
    exact ⟨⟨ls, h1, own_same h2 fun g hg _ => hb g (by omega), h3⟩, h4⟩
  · exact ⟨own_same h.ts.1 fun g hg _ => hb g (by omega), h.ts.2⟩
theorem Core.drew (h : Core w0 mb H cv lv cells trace w) : Core w0 mb H cv lv cells trace w.drew := ⟨h.os, h.tape, h.output, h.base, h.sub, h.dom, h.old, h.free, h.cs, h.ts, h.ne⟩
theorem Core.below (h : Core w0 mb H cv lv cells trace w) (hs : w0.heap.size ≤ w.heap.size) : Below w0.heap.size w0 w := ⟨h.os, h.tape, h.output, hs, fun b hb => by
  have := h.old b hb
  rw [Array.getElem?_eq_getElem hb] at this
  rw [h.sub b _ this, Array.getElem?_eq_getElem hb]⟩
/-- Whoever makes memory alone leaves it. -/
theorem Core.later (h : Core w0 mb H cv lv cells trace w) {w' : World} (hb : Below w.heap.size w w') : Core w0 mb H cv lv cells trace w' := by
  refine ⟨hb.os.trans h.os, hb.tape.trans h.tape, hb.output.trans h.output, h.base, fun b x hx => (hb.block b (h.dom _ _ hx)).trans (h.sub b x hx), fun b x hx => Nat.lt_of_lt_of_le (h.dom b x hx) hb.size, h.old, h.free, ?_, ?_, h.ne⟩
  · obtain ⟨⟨ls, h1, h2, h3⟩, h4⟩ := h.cs
    exact ⟨⟨ls, h1, own_later h2 hb, h3⟩, h4⟩
  · exact ⟨own_later h.ts.1 hb, h.ts.2⟩
end
end So
end Go.Proofs.YtfkakmafedhgdaaGreatDoor.K

/- What is taken first in a region that draws its order, in a few words. -/
namespace Go.Proofs.YtfkakmafedhgdaaGreatDoor.K
open Go Go.RowKit
namespace So

theorem tkH {P : Program} {ops : Array Oper} {Q : Exit → Act → World → Prop} {md : Region.Mode} {S : World → Prop} (i d : Nat) {op : Op} {ty : TypeId} {pos : String} {af : Array Edge} {gd : Option (Nat × Bool)} {v : Value} {fuel : Nat} {listed : Array Bool} {a : Act} {w : World}
    (hi : ops[i]? = some ⟨some d, op, ty, pos, af, gd⟩) (h : wpAnyH P md ops Q S fuel (listed.setIfInBounds i true) (a.put (some d) v) w)
    (hs : Region.noSelect ops = true := by kernel_rfl) (hf : Region.free md ops listed i = true := by kernel_rfl) (hr : (Region.ready md ops listed).contains i = true := by kernel_rfl)
    (hQ : ∀ c a w, Q (.panic c) (a.put (some d) v) w → Q (.panic c) a w := by exact fun _ _ _ h => h) (hw : Region.wanted (⟨some d, op, ty, pos, af, gd⟩ : Oper) (yielded ops a.tmps) = true := by kernel_rfl)
    (hy : ∀ w', S w' → (execOp a.eval ⟨some d, op, ty, pos, af, gd⟩).run P w' = .ok (.value v) w' := by (intro w' hSw; (try dsimp only at hSw); go_split_ands; go_simp; first | done | with_reducible rfl)) (hS : S w := by assumption) : wpAnyH P md ops Q S (fuel + 1) listed a w :=
  wpAnyH_take hi hs hf hr hQ (Or.inl ⟨hw, hy⟩) hS h
theorem s1 {α : Type _} (l : List α) (i : Nat) (a : α) : l.toArray.setIfInBounds i a = (l.set i a).toArray := List.setIfInBounds_toArray ..
theorem s2 {α : Type _} (x a : α) (l : List α) : (x :: l).set 0 a = a :: l := List.set_cons_zero ..
theorem s3 {α : Type _} (x a : α) (l : List α) (n : Nat) : (x :: l).set (n + 1) a = x :: l.set n a := List.set_cons_succ ..
theorem rd1 {P : Program} {ops : Array Oper} {Q : Exit → Act → World → Prop} {md : Region.Mode} {S : World → Prop} (i : Nat) (d : Option Nat) {op : Op} {ty : TypeId} {pos : String} {af : Array Edge} {gd : Option (Nat × Bool)} {fuel : Nat} {listed : Array Bool} {a : Act} {w : World}
    (ho : ops[i]? = some ⟨d, op, ty, pos, af, gd⟩)
    (h : ∀ K' : Act → World → Prop, Shut (∀ a w, S w → (S w → wpAnyH P md ops Q S fuel (listed.setIfInBounds i true) a w) → K' a w) → if Region.wanted (⟨d, op, ty, pos, af, gd⟩ : Oper) (yielded ops a.tmps) = true then Oper.wp P ⟨d, op, ty, pos, af, gd⟩ a w K' Q else K' (a.put d undef) w)
    (hr : Region.ready md ops listed = [i] := by kernel_rfl) : wpAnyH P md ops Q S (fuel + 1) listed a w :=
  wpAnyH_ready hr (by simp) (AllReadyH.cons ho h AllReadyH.nil)
end So
end Go.Proofs.YtfkakmafedhgdaaGreatDoor.K

/- A region that draws its order, whose last operation writes a cell that it loads: what holds of the world is asked behind every operation but that last one. -/
namespace Go.Proofs.YtfkakmafedhgdaaGreatDoor
open Go

section
variable {P : Program} {ops : Array Oper} {Q : Exit → Act → World → Prop} {md : Region.Mode} {S : World → Prop} {z : Nat}

/-- Whatever order is picked from here on; S holds behind every operation as long as number z has not come up. -/
def TillLast (P : Program) (md : Region.Mode) (ops : Array Oper) (Q : Exit → Act → World → Prop) (S : World → Prop) (z : Nat) : Nat → Array Bool → Act → World → Prop
  | 0, listed, a, w => Region.ready md ops listed = [] ∧ Q .normal a w
  | fuel + 1, listed, a, w =>
    (Region.ready md ops listed = [] → Q .normal a w) ∧
    ∀ i ∈ Region.ready md ops listed, wpOp P ops Q i (fun a' w' => ((listed.setIfInBounds i true).getD z true = false → S w') ∧ TillLast P md ops Q S z fuel (listed.setIfInBounds i true) a' w') a w

theorem TillLast.any : ∀ (fuel : Nat) (listed : Array Bool) (a : Act) (w : World), TillLast P md ops Q S z fuel listed a w → wpAny P md ops Q fuel listed a w
  | 0, _, _, _, h => h
  | fuel + 1, _, _, _, h => ⟨h.1, fun i hi => wpOp_mono (fun a' w' h' => TillLast.any fuel _ a' w' h'.2) (h.2 i hi)⟩

/-- Is operation z bound to wait for operation i? -/
def waitsB (md : Region.Mode) (ops : Array Oper) (z i : Nat) : Bool :=
  match ops[z]? with
  | some o => o.after.any fun e => Region.binds md e && e.on == i
  | none => false
theorem waits_not_ready {listed : Array Bool} {i : Nat} (h : waitsB md ops z i = true) (hu : listed.getD i false = false) : z ∉ Region.ready md ops listed := by
  intro hz
  obtain ⟨_, o, ho, hall⟩ := mem_ready.1 hz
  unfold waitsB at h
  rw [ho] at h
  simp only [Array.any_eq_true, Bool.and_eq_true, beq_iff_eq] at h
  obtain ⟨k, hk, hb, he⟩ := h
  have h1 := hall _ (Array.getElem_mem hk) hb
  rw [he, hu] at h1
  cases h1
theorem ready_unlisted {listed : Array Bool} {i : Nat} (h : i ∈ Region.ready md ops listed) : listed.getD i false = false := by
  have h0 := (mem_ready.1 h).1
  rcases Nat.lt_or_ge i listed.size with hl | hl
  · simpa [hl] using h0
  · simp [Array.getElem?_eq_none hl]

/-- What yields its value wherever S holds may be taken first, if the last operation waits for it. -/
theorem TillLast.first {i : Nat} {oi : Oper} {v : Value} (hi : ops[i]? = some oi) (hsel : ∀ (j : Nat) (o : Oper) cs b, ops[j]? = some o → o.op ≠ .select cs b)
    (hQ : ∀ c a w, Q (.panic c) (a.put oi.dst v) w → Q (.panic c) a w) (hw : waitsB md ops z i = true) (hzi : z ≠ i) :
    ∀ (fuel : Nat) (listed : Array Bool) (a : Act) (w : World),
      (∀ j oj, ops[j]? = some oj → j ≠ i → listed.getD j true = false → (∀ e ∈ oj.after, Region.binds md e = true → e.on ≠ i) → oi.apart ops oj = true) →
      i ∈ Region.ready md ops listed → listed.getD z true = false → YieldsIf P ops S oi v a → S w →
      TillLast P md ops Q S z fuel (listed.setIfInBounds i true) (a.put oi.dst v) w → TillLast P md ops Q S z (fuel + 1) listed a w := by
  intro fuel
  induction fuel with
  | zero =>
    intro listed a w _ hr _ hy hS H
    refine ⟨fun h => absurd hr (by rw [h]; simp), fun j hj => ?_⟩
    by_cases hji : j = i
    · subst hji
      exact hy.wpOp hi hS ⟨fun _ => hS, H⟩
    · exact absurd (ready_mono hj hji) (by rw [H.1]; simp)
  | succ fuel ih =>
    intro listed a w hfree hr hz hy hS H
    refine ⟨fun h => absurd hr (by rw [h]; simp), fun j hj => ?_⟩
    by_cases hji : j = i
    · subst hji
      exact hy.wpOp hi hS ⟨fun _ => hS, H⟩
    have hun := ready_unlisted hr
    have hjz : j ≠ z := fun e => waits_not_ready hw hun (e ▸ hj)
    obtain ⟨hjun, oj, hoj, hall⟩ := mem_ready.1 hj
    have hno : ∀ e ∈ oj.after, Region.binds md e = true → e.on ≠ i := by
      intro e he hb heq
      have h1 := hall e he hb
      rw [heq, hun] at h1
      cases h1
    have hstep := wpOp_putIf hoj (hfree j oj hoj hji hjun hno) (fun cs b => hsel i oi cs b hi) (fun cs b => hsel j oj cs b hoj) hQ hy (H.2 j (ready_mono hj hji))
    have hz' : (listed.setIfInBounds j true).getD z true = false := by rw [getD_set_ne true hjz]; exact hz
    have hz2 : ((listed.setIfInBounds i true).setIfInBounds j true).getD z true = false := by rw [getD_set_ne true hjz, getD_set_ne true (Ne.symm hzi)]; exact hz
    refine wpOp_mono (fun a' w' h3 => ⟨fun _ => h3.2.1 hz2, ih (listed.setIfInBounds j true) a' w' ?_ (ready_mono hr (Ne.symm hji)) hz' h3.1 (h3.2.1 hz2) ?_⟩) hstep
    · intro k ok hk hki hku hkn
      refine hfree k ok hk hki ?_ hkn
      by_cases hjk : j = k
      · rw [← hjk]; exact hjun
      · rwa [getD_set_ne true hjk] at hku
    · rw [Array.setIfInBounds_comm _ _ hji]
      exact h3.2.2
theorem TillLast.take {i : Nat} {oi : Oper} {v : Value} {fuel : Nat} {listed : Array Bool} {a : Act} {w : World} (hi : ops[i]? = some oi)
    (hs : Region.noSelect ops = true) (hf : Region.free md ops listed i = true) (hr : (Region.ready md ops listed).contains i = true) (hw : waitsB md ops z i = true) (hzi : z ≠ i) (hz : listed.getD z true = false)
    (hQ : ∀ c a w, Q (.panic c) (a.put oi.dst v) w → Q (.panic c) a w) (hy : YieldsIf P ops S oi v a) (hS : S w)
    (h : TillLast P md ops Q S z fuel (listed.setIfInBounds i true) (a.put oi.dst v) w) : TillLast P md ops Q S z (fuel + 1) listed a w :=
  TillLast.first hi (Region.noSelect_spec hs) hQ hw hzi fuel listed a w (Region.free_spec hi hf) (by simpa using hr) hz hy hS h
/-- The operations that may come up, one after the other. -/
def NextAll (P : Program) (md : Region.Mode) (ops : Array Oper) (Q : Exit → Act → World → Prop) (S : World → Prop) (z fuel : Nat) (listed : Array Bool) (a : Act) (w : World) (rs : List Nat) : Prop :=
  ∀ i ∈ rs, wpOp P ops Q i (fun a' w' => ((listed.setIfInBounds i true).getD z true = false → S w') ∧ TillLast P md ops Q S z fuel (listed.setIfInBounds i true) a' w') a w
theorem TillLast.ready {rs : List Nat} {fuel : Nat} {listed : Array Bool} {a : Act} {w : World} (hr : Region.ready md ops listed = rs) (hne : rs ≠ []) (h : NextAll P md ops Q S z fuel listed a w rs) : TillLast P md ops Q S z (fuel + 1) listed a w :=
  ⟨fun h0 => absurd (hr ▸ h0) hne, fun i hi => h i (hr ▸ hi)⟩
theorem NextAll.nil {fuel : Nat} {listed : Array Bool} {a : Act} {w : World} : NextAll P md ops Q S z fuel listed a w [] := fun _ h => by cases h
theorem NextAll.cons {fuel : Nat} {listed : Array Bool} {a : Act} {w : World} {i : Nat} {o : Oper} {rs : List Nat} (ho : ops[i]? = some o)
    (h : ∀ K' : Act → World → Prop, Shut (∀ a w, ((listed.setIfInBounds i true).getD z true = false → S w) → TillLast P md ops Q S z fuel (listed.setIfInBounds i true) a w → K' a w) → if Region.wanted o (yielded ops a.tmps) = true then Oper.wp P o a w K' Q else K' (a.put o.dst undef) w)
    (hs : NextAll P md ops Q S z fuel listed a w rs) : NextAll P md ops Q S z fuel listed a w (i :: rs) := by
  intro j hj
  rcases List.mem_cons.1 hj with rfl | hj
  · exact wpOp_step ho (fun K' hK => h K' (fun a w hS hT => hK a w ⟨hS, hT⟩))
  · exact hs j hj
theorem TillLast.done {listed : Array Bool} {a : Act} {w : World} (hr : Region.ready md ops listed = []) (h : Q .normal a w) : ∀ fuel, TillLast P md ops Q S z fuel listed a w
  | 0 => ⟨hr, h⟩
  | _ + 1 => ⟨fun _ => h, fun i hi => by rw [hr] at hi; cases hi⟩
theorem TillLast.start {id : Nat} {a : Act} {w : World} (hm : P.follows .mixedOrders = true) (h : TillLast P .any ops Q S z ops.size (Array.replicate ops.size false) a w.drew) : (Code.region id ops true).wp P Q a w :=
  wp_region_any hm (h.any _ _ _ _)
end
end Go.Proofs.YtfkakmafedhgdaaGreatDoor
