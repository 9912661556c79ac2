/- The contract of what reads any number of sides. -/
import Derived.Test.YtmodmojocclmaaaGreatDoorMg22
import Derived.Deep.LoopGhost
import Derived.Outline
import Derived.Maps.AppendAt
namespace Go.Proofs.YtmodmojocclmaaaGreatDoor
open Go.RowKit Pz

theorem oftenMore_no {f : St → Tm × St} {ss : List Str} {s : St} (h : isT ss s = false) (n : Nat) (t : Tm) : oftenMore f ss n t s = (t, s) := by
 cases n with
 | zero => rfl
 | succ n => unfold oftenMore; rw [h]; rfl
theorem oftenMore_yes {f : St → Tm × St} {ss : List Str} {s : St} (h : isT ss s = true) (n : Nat) (t : Tm) : oftenMore f ss (n + 1) t s = oftenMore f ss n (both f t s).1 (both f t s).2 := by
 rw [oftenMore, if_pos h]

structure OftenRel (f : St → Tm × St) (ss : List Str) (pb sz n N M : Nat) (w : World) (res : Tm × St) (g : Nat) (wr : World) (t : Tm) (l : List Value) (s : St) : Prop where
 goes : Goes pb sz w s wr
 box : Lies wr M 33 l.toArray
 out : Lies wr N 33 zC
 ht : HT wr (fun k => N < k ∧ k ≠ M) t l
 lg : s.ws.length ≤ g
 ln : s.ws.length ≤ n
 res : oftenMore f ss g t s = res
def OftenAny (f : St → Tm × St) (ss : List Str) (pb sz n N M : Nat) (w : World) (res : Tm × St) (g : Nat) (wr : World) : Prop :=
 ∃ t l s, OftenRel f ss pb sz n N M w res g wr t l s

set_option maxRecDepth 100000 in
set_option maxHeartbeats 4000000 in
theorem often_any (F : Nat) (f : St → Tm × St) (pb sz n : Nat) (hs : SideOK F f pb sz n) (hf : Nice f) (w : World) (s : St) (hp : PA w pb sz s) (hn : s.ws.length ≤ n) (v : Value) (ss : List Str) (hv : Sl w v ss) (hoff : Off pb v) :
  Calls Tryz.prog 141 #[.pointer (some ⟨pb, 0, none⟩), sideV F pb, v] w (TermEnd pb sz (fun g => w.heap.size ≤ g) w (often f ss s)) := by
 have hplt := hp.lt
 have l0 := Lies.new w 33 zC
 have hp1 := hp.alloc (.cells zC 33)
 obtain ⟨hcf, hside⟩ := id hs
 unfold sideV
 unfold zC at l0 hp1
 go_enter Tryz.func141, Tryz.ntmps141
 go_wp2_with fail
 refine (hside _ s hp1 hn).mono ?_
 rintro e w1 ⟨l, rfl, ht, hg⟩
 have l1 := hg.kp.lies l0 (by omega)
 have lz := Lies.new w1 33 zC
 unfold zC at lz
 have hlen := ht.len
 have HL := Lib.hid hlen
 clear hlen l0
 go_wp2_with (first | (refine wpList_store_rowTo rfl 33 (.tmp 7) (.tmp 9) rfl rfl _ _ rfl rfl 33 _ lz (by rw [sz39]; simp [HL.out]) (by simp [HL.out]) ht.one ?_; rw [set_new rfl]))
 have hsz1 : w.heap.size + 1 ≤ w1.heap.size := by have := hg.kp.size; simp at this; omega
 have hk0 : Kp pb w w1 := ((Kp.refl pb w).alloc _).trans hg.kp
 have hfs := hf s
 have hst : OftenRel f ss pb sz n w.heap.size w1.heap.size w (often f ss s) (f s).2.ws.length (w1.alloc (.cells l.toArray 33)) (f s).1 l (f s).2 :=
  ⟨⟨hg.pa.alloc _, hk0.alloc _⟩, Lies.new _ _ _, l1.alloc _, (ht.lt.later (below_new _ _)).mono (fun k hk _ => by simp at hk; omega), Nat.le_refl _, by have := hfs.1; omega, rfl⟩
 clear lz l1 ht HL hg hp hp1
 go_loopg [14] (f s).2.ws.length (fun g _ wr => OftenAny f ss pb sz n w.heap.size w1.heap.size w (often f ss s) g wr)
 case atStart => exact ⟨_, _, _, hst⟩
 case round =>
  obtain ⟨t, l', s', hR⟩ := hrel
  clear hst
  have hlen := hR.ht.len
  have HL := Lib.hid hlen
  have hv1 := hv.kp hR.goes.kp hoff
  have hi := is_any v ss wr pb sz s' hR.goes.pa hv1
  have HR := Lib.hid hR
  have hszr : w1.heap.size < wr.heap.size := hR.box.lt
  have l2 := hR.box
  have l3 := hR.out
  unfold zC at l3
  have ht1 := hR.ht
  clear hlen hR
  cases hT : isT ss s'
  ·rw [hT] at hi
   have HI := Lib.hid hi
   have HT' := Lib.hid hT
   clear hi hT
   go_wp2_with fail
   refine HI.out.mono ?_
   rintro e w2 ⟨rfl, hb⟩
   have l4 := l2.later hb
   have l5 := l3.later hb
   go_wp2_with (first | (refine wpList_load_row rfl 33 (.tmp 7) rfl _ rfl 33 _ (0, 0) _ l4 Tryz.underlying33 rfl (by rw [sz39]; simp [HL.out]) ?_) | (refine wpList_store_row rfl 33 (.tmp 6) (.tmp 19) rfl _ _ rfl rfl 33 _ l5 (by rw [sz39]; simp [HL.out]) (by simp [HL.out]) ht1.one ?_))
   refine bodyPost_ret (v := .agg l'.toArray) (results_cell_row rfl _ _ w.heap.size 33 _ (0, 0) _ rfl (l5.setRow _) Tryz.underlying33 rfl (by rw [sz39]; simp [HL.out])) rfl ?_
   have hres := HR.out.res
   rw [oftenMore_no HT'.out] at hres
   rw [← hres]
   have hgo := HR.out.goes
   refine ⟨_, rfl, ?_, ?_⟩
   ·exact HT.mono (HT.setRow (ht1.later hb) (fun g hg' => by have := hg'.1; omega) _) (fun g hg' _ => by have := hg'.1; omega)
   ·exact ⟨(hgo.pa.below hb).setRow hplt _, (hgo.kp.below hb hgo.kp.size).setRow (Nat.le_refl _) _⟩
  ·rw [hT] at hi
   have HI := Lib.hid hi
   have HT' := Lib.hid hT
   obtain ⟨x, r, hw⟩ := ws_cons (isT_pos hT)
   have hr : r.length + 1 ≤ n := by have := HR.out.ln; rw [hw] at this; simpa using this
   have hgk : r.length + 1 ≤ gk := by have := HR.out.lg; rw [hw] at this; simpa using this
   clear hi hT
   go_wp2_with fail
   refine HI.out.mono ?_
   rintro e w2 ⟨rfl, hb⟩
   have l4 := l2.later hb
   have l5 := l3.later hb
   have ht2 := ht1.later hb
   have hgo := HR.out.goes
   have hbo := both_any F f pb sz n hs w2 s' (hgo.pa.below hb) x r hw (by omega) _ (fun g hg' => by have := hg'.1; omega) t l' ht2
   have HB := Lib.hid hbo
   clear hbo
   unfold sideV at HB
   go_wp2_with (first | (refine wpList_load_row rfl 33 (.tmp 7) rfl _ rfl 33 _ (0, 0) _ l4 Tryz.underlying33 rfl (by rw [sz39]; simp [HL.out]) ?_))
   refine HB.out.mono ?_
   rintro e w3 ⟨l6, rfl, ht6, hg6⟩
   have l7 := hg6.kp.lies l4 (by omega)
   have l8 := hg6.kp.lies l5 (by omega)
   have hlen6 := ht6.len
   have HL6 := Lib.hid hlen6
   clear hlen6 l4 l5
   go_wp2_with (first | (refine wpList_store_rowTo rfl 33 (.tmp 7) (.tmp 18) rfl rfl _ _ rfl rfl 33 _ l7 (by rw [sz39]; simp [HL6.out]) (by simp [HL6.out, HL.out]) ht6.one ?_))
   go_roundg (gk - 1)
   case measure => omega
   case rel =>
    have hszb := hb.size
    refine ⟨(both f t s').1, l6, (both f t s').2, ?_⟩
    refine ⟨⟨hg6.pa.setRow (by omega) _, (((hgo.kp.below hb hgo.kp.size).trans hg6.kp).setRow (by omega) _)⟩, l7.setRow _, l8.farRow _ (by omega), ?_, ?_, ?_, ?_⟩
    ·refine HT.mono (HT.setRow ht6 (fun g hg' => ?_) _) (fun g hg' _ => ?_)
     ·rcases hg' with hg' | hg'
      ·exact hg'.2
      ·omega
     ·rcases hg' with hg' | hg'
      ·exact hg'
      ·exact ⟨by omega, by omega⟩
    ·have := (hf (take s')).1
     have e : (take s').ws.length = r.length := by unfold take; rw [hw]; rfl
     show (f (take s')).2.ws.length ≤ _
     omega
    ·have := (hf (take s')).1
     have e : (take s').ws.length = r.length := by unfold take; rw [hw]; rfl
     show (f (take s')).2.ws.length ≤ _
     omega
    ·have hres := HR.out.res
     obtain ⟨g', rfl⟩ : ∃ g', gk = g' + 1 := ⟨gk - 1, by omega⟩
     rw [oftenMore_yes HT'.out] at hres
     exact hres
end Go.Proofs.YtmodmojocclmaaaGreatDoor

/- The levels of operators: each reads what the next stronger one reads. -/
namespace Go.Proofs.YtmodmojocclmaaaGreatDoor
open Go.RowKit Pz

theorem enter_assign (args : Array Value) (w : World) : (callFunc 107 args).run Tryz.prog w = .ok (.enter 107 args) w := by go_simp
set_option maxRecDepth 100000 in
set_option maxHeartbeats 4000000 in
theorem assign_ok {pb sz n : Nat} {ex : St → Tm × St} (hx : Nice ex) (hs : SideOK 118 (cmp sz ex) pb sz n) : SideOK 107 (assign sz ex) pb sz n := by
 refine ⟨enter_assign, fun w s hp hn => ?_⟩
 have hplt := hp.lt
 have l0 := Lies.new w 33 zC
 have hp1 := hp.alloc (.cells zC 33)
 have hS := Sl.new (w := w.alloc (.cells zC 33)) (t := 9) (N := w.heap.size + 1) [tPut] (by simp) (by decide) 1 1 rfl rfl
 have hb := below_new (w.alloc (.cells zC 33)) (.cells ([tPut].map fun (k : Str) => Value.string (ba k)).toArray 9)
 have hc := once_any 118 (cmp sz ex) pb sz n hs (nice_cmp hx) _ s (hp1.below hb) hn _ [tPut] hS (Off.new (by omega))
 have hk1 : Kp pb w ((w.alloc (.cells zC 33)).alloc (.cells ([tPut].map fun (k : Str) => Value.string (ba k)).toArray 9)) := ((Kp.refl pb w).alloc _).alloc _
 have l1 := l0.later hb
 have hsz1 : ((w.alloc (.cells zC 33)).alloc (.cells ([tPut].map fun (k : Str) => Value.string (ba k)).toArray 9)).heap.size = w.heap.size + 2 := by simp
 have HC := Lib.hid hc
 have HZ := Lib.hid hsz1
 clear hc hS hb l0 hsz1
 unfold zC at l1 hk1
 go_enter Tryz.func107, Tryz.ntmps107
 go_wp2_with fail
 refine HC.out.mono ?_
 rintro e w1 ⟨l, rfl, ht, hg⟩
 have l2 := hg.kp.lies l1 (by omega)
 have hlen := ht.len
 have HL := Lib.hid hlen
 clear hlen l1
 go_wp2_with (first | (refine wpList_store_rowTo rfl 33 (.tmp 2) (.tmp 7) rfl rfl _ _ rfl rfl 33 _ l2 (by rw [sz39]; simp [HL.out]) (by simp [HL.out]) ht.one ?_))
 refine bodyPost_ret (v := .agg l.toArray) (results_cell_row rfl _ _ w.heap.size 33 _ (0, 0) _ rfl (l2.setRow _) Tryz.underlying33 rfl (by rw [sz39]; simp [HL.out])) rfl ?_
 refine ⟨_, rfl, ?_, ?_⟩
 ·exact HT.mono (HT.setRow ht (fun g hg' => by rw [HZ.out] at hg'; omega) _) (fun g hg' _ => by rw [HZ.out] at hg'; omega)
 ·exact ⟨hg.pa.setRow hplt _, (hk1.trans hg.kp).setRow (Nat.le_refl _) _⟩

theorem enter_cmp (args : Array Value) (w : World) : (callFunc 118 args).run Tryz.prog w = .ok (.enter 118 args) w := by go_simp
set_option maxRecDepth 100000 in
set_option maxHeartbeats 4000000 in
theorem cmp_ok {pb sz n : Nat} {ex : St → Tm × St} (hx : Nice ex) (hs : SideOK 127 (sum sz ex) pb sz n) : SideOK 118 (cmp sz ex) pb sz n := by
 refine ⟨enter_cmp, fun w s hp hn => ?_⟩
 have hplt := hp.lt
 have l0 := Lies.new w 33 zC
 have hp1 := hp.alloc (.cells zC 33)
 have hS := Sl.new (w := w.alloc (.cells zC 33)) (t := 9) (N := w.heap.size + 1) [tLess, tEq] (by simp) (by decide) 2 2 rfl rfl
 have hb := below_new (w.alloc (.cells zC 33)) (.cells ([tLess, tEq].map fun (k : Str) => Value.string (ba k)).toArray 9)
 have hc := once_any 127 (sum sz ex) pb sz n hs (nice_sum hx) _ s (hp1.below hb) hn _ [tLess, tEq] hS (Off.new (by omega))
 have hk1 : Kp pb w ((w.alloc (.cells zC 33)).alloc (.cells ([tLess, tEq].map fun (k : Str) => Value.string (ba k)).toArray 9)) := ((Kp.refl pb w).alloc _).alloc _
 have l1 := l0.later hb
 have hsz1 : ((w.alloc (.cells zC 33)).alloc (.cells ([tLess, tEq].map fun (k : Str) => Value.string (ba k)).toArray 9)).heap.size = w.heap.size + 2 := by simp
 have HC := Lib.hid hc
 have HZ := Lib.hid hsz1
 clear hc hS hb l0 hsz1
 unfold zC at l1 hk1
 go_enter Tryz.func118, Tryz.ntmps118
 go_wp2_with fail
 refine HC.out.mono ?_
 rintro e w1 ⟨l, rfl, ht, hg⟩
 have l2 := hg.kp.lies l1 (by omega)
 have hlen := ht.len
 have HL := Lib.hid hlen
 clear hlen l1
 go_wp2_with (first | (refine wpList_store_rowTo rfl 33 (.tmp 2) (.tmp 7) rfl rfl _ _ rfl rfl 33 _ l2 (by rw [sz39]; simp [HL.out]) (by simp [HL.out]) ht.one ?_))
 refine bodyPost_ret (v := .agg l.toArray) (results_cell_row rfl _ _ w.heap.size 33 _ (0, 0) _ rfl (l2.setRow _) Tryz.underlying33 rfl (by rw [sz39]; simp [HL.out])) rfl ?_
 refine ⟨_, rfl, ?_, ?_⟩
 ·exact HT.mono (HT.setRow ht (fun g hg' => by rw [HZ.out] at hg'; omega) _) (fun g hg' _ => by rw [HZ.out] at hg'; omega)
 ·exact ⟨hg.pa.setRow hplt _, (hk1.trans hg.kp).setRow (Nat.le_refl _) _⟩

theorem enter_sum (args : Array Value) (w : World) : (callFunc 127 args).run Tryz.prog w = .ok (.enter 127 args) w := by go_simp
set_option maxRecDepth 100000 in
set_option maxHeartbeats 4000000 in
theorem sum_ok {pb sz n : Nat} {ex : St → Tm × St} (hx : Nice ex) (hs : SideOK 142 (prod sz ex) pb sz n) : SideOK 127 (sum sz ex) pb sz n := by
 refine ⟨enter_sum, fun w s hp hn => ?_⟩
 have hplt := hp.lt
 have l0 := Lies.new w 33 zC
 have hp1 := hp.alloc (.cells zC 33)
 have hS := Sl.new (w := w.alloc (.cells zC 33)) (t := 9) (N := w.heap.size + 1) [tPlus, tMinus] (by simp) (by decide) 2 2 rfl rfl
 have hb := below_new (w.alloc (.cells zC 33)) (.cells ([tPlus, tMinus].map fun (k : Str) => Value.string (ba k)).toArray 9)
 have hc := often_any 142 (prod sz ex) pb sz n hs (nice_prod hx) _ s (hp1.below hb) hn _ [tPlus, tMinus] hS (Off.new (by omega))
 have hk1 : Kp pb w ((w.alloc (.cells zC 33)).alloc (.cells ([tPlus, tMinus].map fun (k : Str) => Value.string (ba k)).toArray 9)) := ((Kp.refl pb w).alloc _).alloc _
 have l1 := l0.later hb
 have hsz1 : ((w.alloc (.cells zC 33)).alloc (.cells ([tPlus, tMinus].map fun (k : Str) => Value.string (ba k)).toArray 9)).heap.size = w.heap.size + 2 := by simp
 have HC := Lib.hid hc
 have HZ := Lib.hid hsz1
 clear hc hS hb l0 hsz1
 unfold zC at l1 hk1
 go_enter Tryz.func127, Tryz.ntmps127
 go_wp2_with fail
 refine HC.out.mono ?_
 rintro e w1 ⟨l, rfl, ht, hg⟩
 have l2 := hg.kp.lies l1 (by omega)
 have hlen := ht.len
 have HL := Lib.hid hlen
 clear hlen l1
 go_wp2_with (first | (refine wpList_store_rowTo rfl 33 (.tmp 2) (.tmp 7) rfl rfl _ _ rfl rfl 33 _ l2 (by rw [sz39]; simp [HL.out]) (by simp [HL.out]) ht.one ?_))
 refine bodyPost_ret (v := .agg l.toArray) (results_cell_row rfl _ _ w.heap.size 33 _ (0, 0) _ rfl (l2.setRow _) Tryz.underlying33 rfl (by rw [sz39]; simp [HL.out])) rfl ?_
 refine ⟨_, rfl, ?_, ?_⟩
 ·exact HT.mono (HT.setRow ht (fun g hg' => by rw [HZ.out] at hg'; omega) _) (fun g hg' _ => by rw [HZ.out] at hg'; omega)
 ·exact ⟨hg.pa.setRow hplt _, (hk1.trans hg.kp).setRow (Nat.le_refl _) _⟩

theorem enter_prod (args : Array Value) (w : World) : (callFunc 142 args).run Tryz.prog w = .ok (.enter 142 args) w := by go_simp
set_option maxRecDepth 100000 in
set_option maxHeartbeats 4000000 in
theorem prod_ok {pb sz n : Nat} {ex : St → Tm × St} (hx : Nice ex) (hs : SideOK 144 (unary sz ex) pb sz n) : SideOK 142 (prod sz ex) pb sz n := by
 refine ⟨enter_prod, fun w s hp hn => ?_⟩
 have hplt := hp.lt
 have l0 := Lies.new w 33 zC
 have hp1 := hp.alloc (.cells zC 33)
 have hS := Sl.new (w := w.alloc (.cells zC 33)) (t := 9) (N := w.heap.size + 1) [tStar, tSlash] (by simp) (by decide) 2 2 rfl rfl
 have hb := below_new (w.alloc (.cells zC 33)) (.cells ([tStar, tSlash].map fun (k : Str) => Value.string (ba k)).toArray 9)
 have hc := often_any 144 (unary sz ex) pb sz n hs (nice_unary hx) _ s (hp1.below hb) hn _ [tStar, tSlash] hS (Off.new (by omega))
 have hk1 : Kp pb w ((w.alloc (.cells zC 33)).alloc (.cells ([tStar, tSlash].map fun (k : Str) => Value.string (ba k)).toArray 9)) := ((Kp.refl pb w).alloc _).alloc _
 have l1 := l0.later hb
 have hsz1 : ((w.alloc (.cells zC 33)).alloc (.cells ([tStar, tSlash].map fun (k : Str) => Value.string (ba k)).toArray 9)).heap.size = w.heap.size + 2 := by simp
 have HC := Lib.hid hc
 have HZ := Lib.hid hsz1
 clear hc hS hb l0 hsz1
 unfold zC at l1 hk1
 go_enter Tryz.func142, Tryz.ntmps142
 go_wp2_with fail
 refine HC.out.mono ?_
 rintro e w1 ⟨l, rfl, ht, hg⟩
 have l2 := hg.kp.lies l1 (by omega)
 have hlen := ht.len
 have HL := Lib.hid hlen
 clear hlen l1
 go_wp2_with (first | (refine wpList_store_rowTo rfl 33 (.tmp 2) (.tmp 7) rfl rfl _ _ rfl rfl 33 _ l2 (by rw [sz39]; simp [HL.out]) (by simp [HL.out]) ht.one ?_))
 refine bodyPost_ret (v := .agg l.toArray) (results_cell_row rfl _ _ w.heap.size 33 _ (0, 0) _ rfl (l2.setRow _) Tryz.underlying33 rfl (by rw [sz39]; simp [HL.out])) rfl ?_
 refine ⟨_, rfl, ?_, ?_⟩
 ·exact HT.mono (HT.setRow ht (fun g hg' => by rw [HZ.out] at hg'; omega) _) (fun g hg' _ => by rw [HZ.out] at hg'; omega)
 ·exact ⟨hg.pa.setRow hplt _, (hk1.trans hg.kp).setRow (Nat.le_refl _) _⟩
end Go.Proofs.YtmodmojocclmaaaGreatDoor

/- Lists in memory that grow by one item after the other. -/
namespace Go.Proofs.YtmodmojocclmaaaGreatDoor
open Go.RowKit Pz

structure ItOK {α : Type} (sz : Nat) (It : World → (Nat → Prop) → α → List Value → Prop) : Prop where
 same : ∀ {w w' : World} {P : Nat → Prop} {a : α} {l : List Value}, It w P a l → (∀ g, P g → g < w.heap.size → w'.heap[g]? = w.heap[g]?) → It w' P a l
 mono : ∀ {w : World} {P Q : Nat → Prop} {a : α} {l : List Value}, It w P a l → (∀ g, P g → g < w.heap.size → Q g) → It w Q a l
 len : ∀ {w : World} {P : Nat → Prop} {a : α} {l : List Value}, It w P a l → l.length = sz
 one : ∀ {w : World} {P : Nat → Prop} {a : α} {l : List Value}, It w P a l → ∀ u ∈ l, u.oneCell' = true

def Acc {α : Type} (It : World → (Nat → Prop) → α → List Value → Prop) (e : TypeId) (sz : Nat) (w : World) (lo : Nat) (zs : List α) (v : Value) : Prop :=
 ∃ xs : List (List Value), xs.length = zs.length ∧ w.ownsRow lo e sz v zs.length xs.flatten ∧ ∀ (i : Nat) a l, zs[i]? = some a → xs[i]? = some l → It w (fun k => lo ≤ k ∧ some k ≠ v.ownBlock) a l

section
variable {α : Type} {It : World → (Nat → Prop) → α → List Value → Prop} {e : TypeId} {sz : Nat}
theorem Acc.nil (w : World) (lo : Nat) : Acc It e sz w lo [] (.slice none 0 0) := ⟨[], rfl, World.ownsRow_nil _ _ _ _, by simp⟩
theorem Acc.slice {w : World} {lo : Nat} {zs : List α} {v : Value} (h : Acc It e sz w lo zs v) : ∃ A n c, v = .slice A n c := by
 obtain ⟨xs, _, ho, _⟩ := h
 rcases ho.2 with ⟨rfl, _⟩ | ⟨g, cap, cur, rfl, _⟩
 ·exact ⟨_, _, _, rfl⟩
 ·exact ⟨_, _, _, rfl⟩
theorem own_block {w : World} {lo n : Nat} {v : Value} {xs : List Value} (h : w.ownsRow lo e sz v n xs) : ∀ k, v.ownBlock = some k → lo ≤ k ∧ k < w.heap.size := by
 intro k hk
 rcases h.2 with ⟨rfl, _⟩ | ⟨g, cap, cur, rfl, hg, hh, _⟩
 ·simp [Value.ownBlock] at hk
 ·have : g = k := by simpa [Value.ownBlock] using hk
  subst this
  exact ⟨hg, lt_of_block hh⟩
theorem Acc.keep (ok : ItOK sz It) {w w' : World} {lo : Nat} {zs : List α} {v : Value} (h : Acc It e sz w lo zs v) (hs : ∀ g, lo ≤ g → g < w.heap.size → w'.heap[g]? = w.heap[g]?) : Acc It e sz w' lo zs v := by
 obtain ⟨xs, h1, h2, h3⟩ := h
 refine ⟨xs, h1, ?_, fun i a l ha hl => ok.same (h3 i a l ha hl) (fun g hg hlt => hs g hg.1 hlt)⟩
 exact (OwnP.same (P := fun g => lo ≤ g) h2 (fun g hg hlt => hs g hg hlt))
theorem Acc.kp (ok : ItOK sz It) {w w' : World} {lo pb : Nat} {zs : List α} {v : Value} (h : Acc It e sz w lo zs v) (hk : Kp pb w w') (hp : pb < lo) : Acc It e sz w' lo zs v :=
 h.keep ok (fun g hg hlt => hk.block g hlt (fun e => by injection e; omega))
theorem Acc.later (ok : ItOK sz It) {w w' : World} {lo : Nat} {zs : List α} {v : Value} (h : Acc It e sz w lo zs v) (hb : Below w.heap.size w w') : Acc It e sz w' lo zs v :=
 h.keep ok (fun g _ hlt => hb.block g hlt)
theorem Acc.snoc (ok : ItOK sz It) {w w' : World} {lo B : Nat} {zs : List α} {v v' : Value} {a : α} {l : List Value} {xs : List (List Value)} (h1 : xs.length = zs.length) (h3 : ∀ (i : Nat) a l, zs[i]? = some a → xs[i]? = some l → It w (fun k => lo ≤ k ∧ some k ≠ v.ownBlock) a l)
  (hi : It w (fun k => B ≤ k) a l) (hB : lo ≤ B) (hvB : ∀ k, v.ownBlock = some k → k < B)
  (hown : w'.ownsRow lo e sz v' (zs.length + 1) (xs.flatten ++ l)) (hg : w.grownBy w' v.ownBlock) (hat : v'.ownBlock = v.ownBlock ∨ v'.ownBlock = some w.heap.size) : Acc It e sz w' lo (zs ++ [a]) v' := by
 refine ⟨xs ++ [l], by simp [h1], by simpa using hown, fun i b c hb hc => ?_⟩
 have hne : ∀ (P : Nat → Prop), (∀ k, P k → some k ≠ v.ownBlock) → ∀ g, P g → g < w.heap.size → w'.heap[g]? = w.heap[g]? := fun P hP g hg' hlt => hg.block g hlt (hP g hg')
 have hnew : ∀ k, lo ≤ k → some k ≠ v.ownBlock → k < w.heap.size → lo ≤ k ∧ some k ≠ v'.ownBlock := by
  intro k h1 h2 h3
  refine ⟨h1, ?_⟩
  rcases hat with hat | hat
  ·rw [hat]; exact h2
  ·rw [hat]; intro he; injection he; omega
 by_cases hlt : i < zs.length
 ·rw [List.getElem?_append_left hlt] at hb
  rw [List.getElem?_append_left (by omega)] at hc
  have hit := h3 i b c hb hc
  have hit2 := ok.mono (Q := fun k => (lo ≤ k ∧ some k ≠ v.ownBlock) ∧ k < w.heap.size) hit (fun g h hl => ⟨h, hl⟩)
  exact ok.mono (ok.same hit2 (hne _ (fun k hk => hk.1.2))) (fun g hg' _ => hnew g hg'.1.1 hg'.1.2 hg'.2)
 ·have hi' : i = zs.length := by
   have := (List.getElem?_eq_some_iff.1 hb).1
   simp at this; omega
  subst hi'
  rw [List.getElem?_append_right (Nat.le_refl _)] at hb
  rw [List.getElem?_append_right (by omega), h1] at hc
  simp at hb hc
  subst hb hc
  have hv : ∀ k, B ≤ k → some k ≠ v.ownBlock := fun k hk he => by have := hvB k he.symm; omega
  have hit2 := ok.mono (Q := fun k => B ≤ k ∧ k < w.heap.size) hi (fun g h hl => ⟨h, hl⟩)
  exact ok.mono (ok.same hit2 (hne _ (fun k hk => hv k hk.1))) (fun g hg' _ => hnew g (by have := hg'.1; omega) (hv g hg'.1) hg'.2)
theorem Acc.low (ok : ItOK sz It) {w : World} {lo lo' : Nat} {zs : List α} {v : Value} (h : Acc It e sz w lo zs v) (hl : lo' ≤ lo) : Acc It e sz w lo' zs v := by
 obtain ⟨xs, h1, h2, h3⟩ := h
 exact ⟨xs, h1, own_mono h2 hl, fun i a l ha hb => ok.mono (h3 i a l ha hb) (fun g hg _ => ⟨by have := hg.1; omega, hg.2⟩)⟩
theorem new_cells (w : World) (t : TypeId) (l : List Value) {N : Nat} (hN : w.heap.size = N) : ∀ (j : Nat) u, l[j]? = some u → (w.alloc (.cells l.toArray t)).cell? ((⟨N, 0, none⟩ : Addr).add j) = some u := by
 intro j u hj
 have h := (Lies.new' w t l.toArray hN).cell j
 rw [Addr.add_mid, Nat.zero_add, h]
 simpa using hj
end

def TmIt (w : World) (P : Nat → Prop) (t : Tm) (l : List Value) : Prop := HT w P t l
theorem HT.ones {w : World} {P : Nat → Prop} {t : Tm} {l : List Value} (h : HT w P t l) : ∀ u ∈ l, u.oneCell' = true := by
 have := h.one
 rw [Array.all_eq_true_iff_forall_mem] at this
 intro u hu
 exact this u (by simpa using hu)
theorem tmOK : ItOK 21 TmIt := ⟨fun h hs => HT.same h hs, fun h hs => HT.mono h hs, fun h => HT.len h, fun h => HT.ones h⟩
def ArmIt (w : World) (P : Nat → Prop) (a : Arm) (l : List Value) : Prop :=
 ∃ v b, l = .string (ba a.1) :: v :: b ∧ OwnP w P 9 1 v a.2.1.length (a.2.1.map fun t => .string (ba t)) ∧ HT w P a.2.2 b
theorem armOK : ItOK 23 ArmIt :=
 ⟨fun ⟨v, b, h1, h2, h3⟩ hs => ⟨v, b, h1, h2.same hs, h3.same hs⟩, fun ⟨v, b, h1, h2, h3⟩ hs => ⟨v, b, h1, h2.mono hs, h3.mono hs⟩,
  fun ⟨v, b, h1, _, h3⟩ => by rw [h1]; simp [h3.len], fun ⟨v, b, h1, h2, h3⟩ => by
   intro u hu
   rw [h1] at hu
   simp only [List.mem_cons] at hu
   rcases hu with rfl | rfl | hu
   ·rfl
   ·exact h2.one
   ·exact h3.ones u hu⟩
theorem info_term : (Tryz.prog.info? 33).map (fun i => (i.zero, i.size, i.bytes)) = some (some (.agg zC), 21, 312) := by kernel_rfl

theorem HT.of_acc {w : World} {lo : Nat} (k pos : Nat) (nm pm : Str) (n : Nat) {kids : List Tm} {arms : List Arm} {kv av : Value} (hk : Acc TmIt 33 21 w lo kids kv) (ha : Acc ArmIt 35 23 w lo arms av) :
  HT w (fun g => lo ≤ g) (.mk k pos nm pm n kids arms) (tmC k pos nm pm n kv av) := by
 obtain ⟨xs, h1, h2, h3⟩ := hk
 obtain ⟨ys, g1, g2, g3⟩ := ha
 have hx : ∀ x ∈ xs, x.length = 21 := by
  intro x hx
  obtain ⟨i, hi, rfl⟩ := List.getElem_of_mem hx
  exact (h3 i (kids[i]'(by omega)) xs[i] (List.getElem?_eq_getElem _) (List.getElem?_eq_getElem _)).len
 have hy : ∀ (i : Nat) (hi : i < ys.length), ArmIt w (fun k => lo ≤ k ∧ some k ≠ av.ownBlock) (arms[i]'(by omega)) ys[i] := fun i hi => g3 i _ _ (List.getElem?_eq_getElem _) (List.getElem?_eq_getElem _)
 have hz : List.zipWith (fun (a : Arm) (x : Value × List Value) => Value.string (ba a.1) :: x.1 :: x.2) arms ((ys.map fun l => l.getD 1 undef).zip (ys.map fun l => l.drop 2)) = ys := by
  apply List.ext_getElem
  ·simp [g1]
  ·intro i h1 h2
   obtain ⟨v, b, e, _, _⟩ := hy i h2
   simp [e]
 refine .mk k pos nm pm n kids arms kv av xs (ys.map fun l => l.getD 1 undef) (ys.map fun l => l.drop 2) ⟨hx, by rw [h1]; exact h2⟩ h1 (fun i t c ht hc => (h3 i t c ht hc).mono (fun g hg _ => hg.1)) (by simp [g1]) (by simp [g1]) ?_ ?_ ?_
 ·rw [hz]
  refine ⟨?_, by rw [g1]; exact g2⟩
  intro y hy'
  obtain ⟨i, hi, rfl⟩ := List.getElem_of_mem hy'
  exact armOK.len (hy i hi)
 ·intro i a v ha hv
  have hi : i < ys.length := by rw [g1]; exact (List.getElem?_eq_some_iff.1 ha).1
  obtain ⟨v', b, e, ho, _⟩ := hy i hi
  have ea : arms[i]'(by omega) = a := (List.getElem?_eq_some_iff.1 ha).2
  simp [List.getElem?_eq_getElem hi, e] at hv
  subst hv
  rw [ea] at ho
  exact ho.mono (fun g hg _ => hg.1)
 ·intro i a c ha hc
  have hi : i < ys.length := by rw [g1]; exact (List.getElem?_eq_some_iff.1 ha).1
  obtain ⟨v', b, e, _, ht⟩ := hy i hi
  have ea : arms[i]'(by omega) = a := (List.getElem?_eq_some_iff.1 ha).2
  simp [List.getElem?_eq_getElem hi, e] at hc
  subst hc
  rw [ea] at ht
  exact ht.mono (fun g hg _ => hg.1)
end Go.Proofs.YtmodmojocclmaaaGreatDoor

/- Contracts of what reads terms behind words. -/
namespace Go.Proofs.YtmodmojocclmaaaGreatDoor
open Go.RowKit Pz

def ExOK (ex : St → Tm × St) (pb sz n : Nat) : Prop :=
 ∀ (w : World) (s : St), PA w pb sz s → s.ws.length < n → Calls Tryz.prog 53 #[.pointer (some ⟨pb, 0, none⟩)] w (TermEnd pb sz (fun g => w.heap.size ≤ g) w (ex s))
def ListEnd {α : Type} (It : World → (Nat → Prop) → α → List Value → Prop) (e : TypeId) (csz : Nat) (pb sz : Nat) (w : World) (r : List α × St) (en : Ending) (w' : World) : Prop :=
 ∃ v : Value, en = .returned v ∧ Acc It e csz w' w.heap.size r.1 v ∧ Goes pb sz w r.2 w'
theorem fill_one (l : List Value) (hl : l.length = 21) (cells : Array Value) (hc : cells.size = 21) : Instr.fill (fun i => some (i * 21, 21)) cells [(0, Value.agg l.toArray)] = some l.toArray := by
 have h := fill_terms [l] (by simpa using hl) cells (by simpa using hc)
 have e : [l].flatten = l := by simp
 rw [e] at h
 exact h
theorem behind_cons (sz : Nat) (ex : St → Tm × St) (ts : List Str) (k : Nat) (t : Str) (h : ts[k]? = some t) (s : St) :
  behind sz ex (ts.drop k) s = ((ex (must1 sz t s)).1 :: (behind sz ex (ts.drop (k + 1)) (ex (must1 sz t s)).2).1, (behind sz ex (ts.drop (k + 1)) (ex (must1 sz t s)).2).2) := by
 have hk : k < ts.length := (List.getElem?_eq_some_iff.1 h).1
 rw [List.drop_eq_getElem_cons hk, (List.getElem?_eq_some_iff.1 h).2]
 rfl

theorem PA.grown {w w' : World} {pb sz : Nat} {s : St} (h : PA w pb sz s) {row : Option Nat} (hg : w.grownBy w' row) (hr : ∀ k, row = some k → pb < k) : PA w' pb sz s := by
 have hlt := h.lt
 obtain ⟨v, hl, ht⟩ := h
 refine ⟨v, hl.grown hg (fun e => by have := hr pb e.symm; omega), ht.keep fun g hg' => hg.block g (by omega) (fun e => by have := hr g e.symm; omega)⟩
theorem Kp.grown {pb : Nat} {a w w' : World} (h : Kp pb a w) {row : Option Nat} (hg : w.grownBy w' row) (hr : ∀ k, row = some k → a.heap.size ≤ k) : Kp pb a w' :=
 ⟨hg.os.trans h.os, hg.tape.trans h.tape, hg.output.trans h.output, Nat.le_trans h.size hg.size, fun i hi hne => (hg.block i (Nat.lt_of_lt_of_le hi h.size) (fun e => by have := hr i e.symm; omega)).trans (h.block i hi hne)⟩

structure BehindRel (ex : St → Tm × St) (pb sz n : Nat) (w : World) (ts : List Str) (res : List Tm × St) (k : Nat) (v : Value) (wr : World) (zs : List Tm) (s : St) : Prop where
 hk : k ≤ ts.length
 len : zs.length = k
 acc : Acc TmIt 33 21 wr w.heap.size zs v
 goes : Goes pb sz w s wr
 ln : ∀ t, ts[k]? = some t → (must1 sz t s).ws.length < n
 res : res = (zs ++ (behind sz ex (ts.drop k) s).1, (behind sz ex (ts.drop k) s).2)
theorem BehindRel.vb {ex : St → Tm × St} {pb sz n : Nat} {w : World} {ts : List Str} {res : List Tm × St} {k : Nat} {v : Value} {wr : World} {zs : List Tm} {s : St} (h : BehindRel ex pb sz n w ts res k v wr zs s) : ∀ q, v.ownBlock = some q → q < wr.heap.size := by
 intro q hq
 obtain ⟨ys, _, hy2, _⟩ := h.acc
 exact (own_block hy2 q hq).2
def BehindAny (ex : St → Tm × St) (pb sz n : Nat) (w : World) (ts : List Str) (res : List Tm × St) (v i : Value) (wr : World) : Prop :=
 ∃ k zs s, i = .int .i64 (k : Nat) ∧ BehindRel ex pb sz n w ts res k v wr zs s

set_option maxRecDepth 100000 in
set_option maxHeartbeats 4000000 in
theorem behind_any (ex : St → Tm × St) (pb sz n : Nat) (hxn : Nice ex) (hx : ExOK ex pb sz n) (w : World) (s : St) (hp : PA w pb sz s) (v : Value) (ts : List Str) (hv : Sl w v ts) (hoff : Off pb v)
  (hn : ∀ t, ts[0]? = some t → (must1 sz t s).ws.length < n) :
  Calls Tryz.prog 104 #[.pointer (some ⟨pb, 0, none⟩), v] w (ListEnd TmIt 33 21 pb sz w (behind sz ex ts s)) := by
 have hplt := hp.lt
 obtain ⟨g, o, c, rfl, hc, hm, hcell⟩ := hv
 have HC := Lib.hid hcell
 clear hcell
 have hgn : g ≠ pb := hoff _ _ _ _ rfl
 obtain ⟨i0, hi, hz0, hz1, hz2⟩ := info_parts info_term
 obtain ⟨ie, hie, hiz, his⟩ := info39
 have hst : BehindRel ex pb sz n w ts (behind sz ex ts s) 0 (.slice none 0 0) w [] s := ⟨Nat.zero_le _, rfl, Acc.nil _ _, Goes.refl hp, hn, by simp⟩
 go_enter Tryz.func104, Tryz.ntmps104
 go_wp2
 go_loopw [5, 10] (fun v i wr => BehindAny ex pb sz n w ts (behind sz ex ts s) v i wr) (fun _ i _ => ts.length - (intOf i).toNat)
 case atStart => exact ⟨0, [], s, rfl, hst⟩
 case round =>
  rename_i wr
  obtain ⟨k, zs, s', rfl, hR⟩ := hrel
  have HR := Lib.hid hR
  clear hst
  have hkl := hR.hk
  clear hR
  by_cases hlt : k < ts.length
  ·have hc2 : k < c := by omega
   obtain ⟨t, ht⟩ : ∃ t, ts[k]? = some t := ⟨_, List.getElem?_eq_getElem hlt⟩
   have hgo := HR.out.goes
   have hcell : wr.cell? ⟨g, o + k, none⟩ = some (.string (ba t)) := hgo.kp.cell (HC.out k t ht) hgn
   have hS := Sl.new (w := wr) (t := 9) [t] rfl (by simp) 1 1 rfl rfl
   have hb := below_new wr (.cells #[.string (ba t)] 9)
   have hpa := hgo.pa.below hb
   have hmu := must_any _ [t] _ pb sz s' hpa hS (Off.new hgo.pa.lt)
   have HM := Lib.hid hmu
   have hln := HR.out.ln t ht
   have HT' := Lib.hid ht
   clear hS hmu ht
   go_wp2_with fail
   refine HM.out.mono ?_
   rintro e w1 ⟨rfl, hg1⟩
   have hg1' : Goes pb sz wr (must1 sz t s') w1 := (Goes.from hgo.pa hb hg1)
   go_wp2_with fail
   refine (hx w1 _ hg1'.pa hln).mono ?_
   rintro e w2 ⟨l, rfl, htl, hg2⟩
   have hlen := htl.len
   have HL := Lib.hid hlen
   clear hlen
   have hsz1 : wr.heap.size ≤ w1.heap.size := hg1'.kp.size
   have hsz2 : w1.heap.size ≤ w2.heap.size := hg2.kp.size
   have hacc := ((HR.out.acc.kp tmOK hg1'.kp hplt).kp tmOK hg2.kp hplt).later tmOK (below_new w2 (.cells l.toArray 33))
   obtain ⟨xs, hx1, hx2, hx3⟩ := hacc
   have hvb := fun q hq => Nat.lt_of_lt_of_le (HR.out.vb q hq) hsz1
   have hlz := HR.out.len
   have HX1 := Lib.hid hx1
   have HLZ := Lib.hid hlz
   have hzl : zs.length ≤ 1000 := by omega
   have hwsz : w.heap.size ≤ w1.heap.size := by have := hgo.kp.size; omega
   clear hx1 hlz
   go_wp2_with (first | (refine wpList_buildSlice rfl 24 33 1 _ rfl l.toArray ie (.agg zC) Tryz.underlying24 hie hiz (by rw [his]; decide) (by rw [his]; decide) (by rw [his, Array.toList_map]; exact fill_one l HL.out ((Array.range (1 * 21)).map ((Value.agg zC).cells[· % (Value.agg zC).cells.size]!)) (by simp)) ?_) | (at_builtin; go_loud (refine wpList_append_own_at _ rfl (.tmp 18) (.tmp 21) 24 rfl w.heap.size 33 i0 (.agg zC) 21 312 Tryz.underlying24 hi hz0 hz1 hz2 rfl (by decide) _ zs.length xs.flatten rfl hx2 ⟨w2.heap.size, 0, none⟩ 1 1 l rfl (by rw [HL.out]) (new_cells _ _ _ rfl) htl.ones (by unfold maxLen; omega) (by omega) (by simp; omega) ?_); intro v' w3 hown hgr _ hat))
   go_roundw
   case rel =>
    have hgo2 : Goes pb sz w (ex (must1 sz t s')).2 w2 := (hgo.trans hg1').trans hg2
    have hrow : ∀ q, Value.ownBlock _ = some q → w.heap.size ≤ q := fun q hq => (own_block hx2 q hq).1
    refine ⟨k + 1, zs ++ [(ex (must1 sz t s')).1], (ex (must1 sz t s')).2, by go_num, by omega, by simp [HLZ.out], ?_, ?_, ?_, ?_⟩
    ·exact Acc.snoc tmOK HX1.out hx3 (htl.later (below_new _ _)) hwsz hvb hown hgr hat
    ·exact ⟨(hgo2.pa.alloc _).grown hgr (fun q hq => by have := hrow q hq; omega), (hgo2.kp.alloc _).grown hgr hrow⟩
    ·intro t' _
     have h1 := (le_must1 sz t' (ex (must1 sz t s')).2).1
     have h2 := (hxn (must1 sz t s')).1
     omega
    ·have hr := HR.out.res
     rw [behind_cons sz ex ts k t HT'.out] at hr
     rw [hr]
     simp
   case measure => simp [intOf]; omega
  ·go_wp2
   go_ret
   have hr := HR.out.res
   rw [List.drop_of_length_le (by omega)] at hr
   rw [hr]
   refine ⟨_, rfl, ?_, HR.out.goes⟩
   simpa [behind] using HR.out.acc
end Go.Proofs.YtmodmojocclmaaaGreatDoor

/- The contract of what gathers what stands right below some terms. -/
namespace Go.Proofs.YtmodmojocclmaaaGreatDoor
open Go.RowKit Pz

def addU (M : List Addr) (d : Addr) : List Addr := if d ∈ M then M else M ++ [d]
def ptrV (a : Addr) : Value := .pointer (some a)
def BSt (w0 : World) (M : List Addr) (W : World) : Prop :=
 ∃ v, Lies W (w0.heap.size + 1) 198 #[.map (some w0.heap.size)] ∧ Lies W (w0.heap.size + 2) 146 #[v] ∧ PtrSet W (.agg #[]) w0.heap.size M ∧
  W.ownsRow (w0.heap.size + 3) 62 1 v M.length (M.map ptrV) ∧ Below w0.heap.size w0 W
theorem zero_unit (w : World) : (zeroValue 199).run Tryz.prog w = .ok (.agg #[]) w := by go_simp
theorem info_ptr : (Tryz.prog.info? 62).map (fun i => (i.zero, i.size, i.bytes)) = some (some (.pointer none), 1, 8) := by kernel_rfl
theorem size_term : ∃ inf, Tryz.prog.info? 33 = some inf ∧ inf.size ≠ 0 := by
 obtain ⟨ie, h1, _, h3⟩ := info39
 exact ⟨ie, h1, by omega⟩

set_option maxRecDepth 100000 in
set_option maxHeartbeats 2000000 in
theorem add_any (w0 w : World) (M : List Addr) (d : Addr) (hst : BSt w0 M w) (hd : AtCells w0 d) (hM : ∀ x ∈ M, AtCells w0 x) (hl : M.length ≤ 1000000000) :
  Calls Tryz.prog 83 #[.pointer (some d), .pointer (some ⟨w0.heap.size + 1, 0, none⟩), .pointer (some ⟨w0.heap.size + 2, 0, none⟩)] w fun e w' => e = .returned (.tuple #[]) ∧ BSt w0 (addU M d) w' := by
 obtain ⟨v, h1, h2, h3, h4, h5⟩ := hst
 have hd' : AtCells w d := hd.keep (h5.block _ hd.lt)
 have hM' : ∀ x ∈ M, AtCells w x := fun x hx => (hM x hx).keep (h5.block _ (hM x hx).lt)
 obtain ⟨inf, hinf, hsz⟩ := size_term
 obtain ⟨i0, hi, hz0, hz1, hz2⟩ := info_parts info_ptr
 have hvs : ∃ A k c, v = .slice A k c := by rcases (OwnP.of h4).2 with ⟨h, _⟩ | ⟨g, cap, cur, h, _⟩ <;> exact ⟨_, _, _, h⟩
 obtain ⟨A0, k0, c0, rfl⟩ := hvs
 have a1 := h1.cell 0
 have a2 := h2.cell 0
 have f2 := h2.free 0
 have hlt3 := h2.lt
 have hzu := zero_unit w
 by_cases hm : d ∈ M
 ·have hdec : decide (d ∈ M) = true := decide_eq_true hm
  go_enter Tryz.func83, Tryz.ntmps83
  go_wp2_with (first | (at_lookup; refine wpList_lookup_ptr _ rfl (.tmp 7) (.tmp 8) 198 rfl rfl h3 Tryz.underlying198 Tryz.underlying62 hinf hsz hzu d rfl hd' hM' ?_; rw [hdec]))
  go_end0
  unfold addU
  rw [if_pos hm]
  have hb := below_new w (.cells #[] 199)
  exact ⟨rfl, _, h1.later hb, h2.later hb, h3.keep (hb.block _ (by omega)), own_later h4 hb, h5.trans (hb.mono (by omega))⟩
 ·have hdec : decide (d ∈ M) = false := decide_eq_false hm
  have hb := below_new w (.cells #[] 199)
  have h1b := h1.later hb
  have b1 := h1b.cell 0
  have h2b := h2.later hb
  have h3b := h3.keep (hb.block w0.heap.size (by omega))
  have hd2 : AtCells (w.alloc (.cells #[] 199)) d := hd'.keep (hb.block _ hd'.lt)
  have hM2 : ∀ x ∈ M, AtCells (w.alloc (.cells #[] 199)) x := fun x hx => (hM' x hx).keep (hb.block _ (hM' x hx).lt)
  have h4b := own_later h4 hb
  have h5b := h5.trans (hb.mono (by omega))
  have hone : ∀ u ∈ [Value.pointer (some d)], u.oneCell' = true := by simp [Value.oneCell']
  go_enter Tryz.func83, Tryz.ntmps83
  go_wp2_with (first | (at_lookup; refine wpList_lookup_ptr _ rfl (.tmp 7) (.tmp 8) 198 rfl rfl h3 Tryz.underlying198 Tryz.underlying62 hinf hsz hzu d rfl hd' hM' ?_; rw [hdec]) | (at_mapUpdate; go_loud (refine wpList_update_ptr _ rfl (.tmp 14) (.tmp 15) (.tmp 16) 198 rfl rfl h3b Tryz.underlying198 Tryz.underlying62 hinf hsz d rfl rfl hd2 hM2 hm ?_); intro w1 hs1 hg1; have l2 := h2b.grown hg1 (by simp); have e2 := l2.cell 0; have g2 := l2.free 0; have hz1w := hg1.size; have own1 := (OwnP.of h4b).same (w' := w1) (fun g hg hlt => hg1.block g hlt (fun e => by have hg' : w0.heap.size + 3 ≤ g := hg; injection e with e; omega))) | (at_builtin; go_loud (refine wpList_append_own_at _ rfl (.tmp 17) (.tmp 19) 146 rfl (w0.heap.size + 3) 62 i0 (.pointer none) 1 8 Tryz.underlying146 hi hz0 hz1 hz2 rfl (by decide) _ M.length (M.map ptrV) rfl (own_later (show w1.ownsRow (w0.heap.size + 3) 62 1 (.slice A0 k0 c0) M.length (M.map ptrV) from own1) (below_new w1 (.cells #[.pointer (some d)] 62))) ⟨w1.heap.size, 0, none⟩ 1 1 [.pointer (some d)] rfl rfl (new_cells _ _ _ rfl) hone (by unfold maxLen; omega) (by omega) (by have := hb.size; simp; omega) ?_)))
  intro v' w2 hown2 hgr _ hat
  have hrow : ∀ q, Value.ownBlock (.slice A0 k0 c0) = some q → w0.heap.size + 3 ≤ q := fun q hq => (own_block h4 q hq).1
  have l3 := (l2.alloc (.cells #[.pointer (some d)] 62)).grown hgr (fun e => by have := hrow _ e.symm; omega)
  have e3 := l3.cell 0
  have g3 := l3.free 0
  have hvs' : ∃ A k c, v' = .slice A k c := by rcases (OwnP.of hown2).2 with ⟨h, _⟩ | ⟨g, cap, cur, h, _⟩ <;> exact ⟨_, _, _, h⟩
  obtain ⟨A9, k9, c9, rfl⟩ := hvs'
  go_wp2_with fail
  go_end0
  unfold addU
  rw [if_neg hm]
  have hne : ∀ g, g ≠ w0.heap.size → g < w.heap.size → some g ≠ Value.ownBlock (.slice A0 k0 c0) → g ≠ w0.heap.size + 2 → (w2.setCell ⟨w0.heap.size + 2, 0, none⟩ (.slice A9 k9 c9)).heap[g]? = w.heap[g]? := by
   intro g hg hlt hno hg2
   rw [Below.heap_setCell _ _ _ _ hg2]
   have e1 := hb.block g hlt
   have e2 := hg1.block g (by have := hb.size; omega) (fun e => by injection e with e; omega)
   have e3 := Below.heap_alloc w1 (.cells #[.pointer (some d)] 62) g (by have := hb.size; omega)
   have e4 := hgr.block g (by have := hb.size; simp; omega) hno
   rw [e4, e3, e2, e1]
  refine ⟨rfl, .slice A9 k9 c9, ?_, ?_, ?_, ?_, ?_⟩
  ·exact (hne _ (by omega) (by omega) (fun e => by have := hrow _ e.symm; omega) (by omega)).trans h1
  ·exact l3.set 0 _
  ·refine hs1.keep ?_
   rw [Below.heap_setCell _ _ _ _ (by show w0.heap.size ≠ w0.heap.size + 2; omega), hgr.block _ (by have := hb.size; simp; omega) (fun e => by have := hrow _ e.symm; omega), Below.heap_alloc _ _ _ (by have := hb.size; omega)]
  ·rw [List.length_append, List.map_append]
   exact (OwnP.of hown2).same (fun g hg _ => Below.heap_setCell _ _ _ _ (by have hg' : w0.heap.size + 3 ≤ g := hg; show g ≠ w0.heap.size + 2; omega))
  ·refine ⟨?_, ?_, ?_, ?_, fun g hg => ?_⟩
   ·exact hgr.os.trans (hg1.os.trans h5.os)
   ·exact hgr.tape.trans (hg1.tape.trans h5.tape)
   ·exact hgr.output.trans (hg1.output.trans h5.output)
   ·have := hgr.size
    have := hb.size
    simp [World.setCell] at *
    omega
   ·exact (hne g (by omega) (by omega) (fun e => by have := hrow _ e.symm; omega) (by omega)).trans (h5.block g hg)
end Go.Proofs.YtmodmojocclmaaaGreatDoor

/- The contract of what gathers what stands right below some terms, and of Depth. -/
namespace Go.Proofs.YtmodmojocclmaaaGreatDoor
open Go.RowKit Pz

theorem mem_addU {M : List Addr} {d x : Addr} : x ∈ addU M d ↔ x ∈ M ∨ x = d := by
 unfold addU
 split
 ·constructor
  ·exact .inl
  ·rintro (h | rfl) <;> assumption
 ·simp
theorem mem_addUs {x : Addr} : ∀ (l M : List Addr), x ∈ l.foldl addU M ↔ x ∈ M ∨ x ∈ l
 | [], M => by simp
 | d :: l, M => by
  rw [List.foldl_cons, mem_addUs l, mem_addU]
  simp [or_assoc]
theorem sub_addUs : ∀ (l M : List Addr), (l.foldl addU M).Sublist (M ++ l)
 | [], M => by simp
 | d :: l, M => by
  rw [List.foldl_cons]
  refine (sub_addUs l (addU M d)).trans ?_
  unfold addU
  split
  ·exact List.Sublist.append (List.Sublist.refl _) (List.sublist_cons_self _ _)
  ·rw [List.append_assoc]; exact List.Sublist.refl _
theorem len_addUs (l M : List Addr) : (l.foldl addU M).length ≤ M.length + l.length := by
 have := (sub_addUs l M).length_le
 simpa using this

def Pl (w : World) (v : Value) (L : List Addr) : Prop :=
 ∃ A c, v = .slice A L.length c ∧ L.length ≤ c ∧ (0 < L.length → ∃ g o, A = some ⟨g, o, none⟩ ∧ g < w.heap.size ∧ ∀ (i : Nat) x, L[i]? = some x → w.cell? ⟨g, o + i, none⟩ = some (ptrV x))
theorem Pl.own {w : World} {B : Nat} {v : Value} {L : List Addr} (h : w.ownsRow B 62 1 v L.length (L.map ptrV)) : Pl w v L := by
 rcases own_cells (OwnP.of h) with ⟨rfl, h0⟩ | ⟨g, cap, rfl, hc, _, ⟨cs, t, hh⟩, hx⟩
 ·exact ⟨none, 0, by rw [h0], by omega, fun h1 => by omega⟩
 ·refine ⟨_, cap, rfl, hc, fun _ => ⟨g, 0, rfl, (Array.getElem?_eq_some_iff.1 hh).1, fun i x hi => ?_⟩⟩
  rw [Nat.zero_add]
  exact hx i _ (by rw [List.getElem?_map, hi]; rfl)
theorem Pl.lit (w : World) (t : TypeId) (L : List Addr) {N : Nat} (hN : w.heap.size = N) : Pl (w.alloc (.cells (L.map ptrV).toArray t)) (.slice (some ⟨N, 0, none⟩) L.length L.length) L := by
 subst hN
 refine ⟨_, _, rfl, Nat.le_refl _, fun _ => ⟨_, 0, rfl, by simp, fun i x hi => ?_⟩⟩
 have h := (Lies.new w t (L.map ptrV).toArray).cell (0 + i)
 rw [h]
 simp [hi]
def nextA (w : World) (L : List Addr) : List Addr := (L.flatMap (kidsA w)).foldl addU []
theorem slok_form {w : World} {p : Addr} (h : SlOk w p) (sz off : Nat) : ∃ A n c, w.cell? p = some (.slice A n c) ∧ n ≤ c ∧ (rowA sz off (.slice A n c)).length = n ∧ ∀ j, j < n → ∃ g, A = some ⟨g, 0, none⟩ ∧ (rowA sz off (.slice A n c))[j]? = some ⟨g, j * sz + off, none⟩ := by
 obtain ⟨v, hv, rfl | ⟨g, n, c, rfl, h1, _⟩⟩ := h
 ·exact ⟨none, 0, 0, hv, Nat.le_refl _, by simp [rowA], fun j hj => by omega⟩
 ·refine ⟨_, n, c, hv, h1, rowA_len, fun j hj => ⟨g, rfl, ?_⟩⟩
  simp [rowA, hj]
theorem take_step {α : Type} (l : List α) (k : Nat) (x : α) (h : l[k]? = some x) : l.take (k + 1) = l.take k ++ [x] := by
 rw [List.take_add_one, h]
 rfl
theorem BSt.below {w0 W : World} {M : List Addr} (h : BSt w0 M W) : Below w0.heap.size w0 W := by
 obtain ⟨_, _, _, _, _, h⟩ := h
 exact h

set_option maxRecDepth 100000 in
set_option maxHeartbeats 8000000 in
theorem below_any (w : World) (v : Value) (L : List Addr) (hv : Pl w v L) (hok : ∀ a ∈ L, OkT w 2 a) (hn : (L.flatMap (kidsA w)).length ≤ 100000000) (hL : L.length ≤ 100000000) :
  Calls Tryz.prog 55 #[v] w fun e w' => ∃ v', e = .returned v' ∧ w'.ownsRow (w.heap.size + 3) 62 1 v' (nextA w L).length ((nextA w L).map ptrV) ∧ Below w.heap.size w w' := by
 obtain ⟨A, c, rfl, hc, hcell⟩ := hv
 have HC := Lib.hid hcell
 have HOK := Lib.hid hok
 have m0 := PtrSet.made w (.agg #[])
 have l1 := Lies.new' (w.alloc (.map #[] 0)) 198 #[.map (some w.heap.size)] (N := w.heap.size + 1) (by simp)
 have l2 := Lies.new' ((w.alloc (.map #[] 0)).alloc (.cells #[.map (some w.heap.size)] 198)) 146 #[.slice none 0 0] (N := w.heap.size + 2) (by simp)
 have hst : BSt w [] (((w.alloc (.map #[] 0)).alloc (.cells #[.map (some w.heap.size)] 198)).alloc (.cells #[.slice none 0 0] 146)) :=
  ⟨.slice none 0 0, l1.alloc _, l2, (m0.keep (Below.heap_alloc _ _ _ (by simp))).keep (Below.heap_alloc _ _ _ (by simp; omega)), World.ownsRow_nil _ _ _ _,
   ((((Below.refl _ w).alloc (Nat.le_refl _) _).alloc (by simp) _).alloc (by simp; omega) _)⟩
 have hmm := @run_makeMap Tryz.prog
 clear hcell hok l1 l2 m0
 go_enter Tryz.func55, Tryz.ntmps55
 go_wp2
 go_loopw [14] (fun i wr => ∃ k : Nat, k ≤ L.length ∧ i = .int .i64 k ∧ BSt w (((L.take k).flatMap (kidsA w)).foldl addU []) wr) (fun i _ => L.length - (intOf i).toNat)
 case atStart => exact ⟨0, Nat.zero_le _, rfl, hst⟩
 case round =>
  obtain ⟨k, hk, rfl, hS⟩ := hrel
  clear hst
  by_cases hlt : k < L.length
  ·obtain ⟨g, o, rfl, hg, hcl⟩ := HC.out (by omega)
   obtain ⟨a, ha⟩ : ∃ a, L[k]? = some a := ⟨_, List.getElem?_eq_getElem hlt⟩
   have ham : a ∈ L := List.mem_of_getElem? ha
   have hok := HOK.out a ham
   have hB := hS.below
   have ck := (hB.cell (p := ⟨g, o + k, none⟩) hg).trans (hcl k a ha)
   unfold ptrV at ck
   obtain ⟨b, oa, sp⟩ := a
   obtain ⟨hsp, hat, h5, h6, hkids⟩ := hok
   have hsp' : sp = none := hsp
   subst hsp'
   have hbl : b < w.heap.size := hat.lt
   obtain ⟨A5, n5, q5, e5, hq5, hl5, hr5⟩ := slok_form h5 21 0
   obtain ⟨A6, n6, q6, e6, hq6, hl6, hr6⟩ := slok_form h6 23 2
   have hkA : kidsA w ⟨b, oa, none⟩ = rowA 21 0 (.slice A5 n5 q5) ++ rowA 23 2 (.slice A6 n6 q6) := by
    unfold kidsA cellV
    rw [e5, e6]
    rfl
   have hkc : k < c := by omega
   have htot : ((L.take k).flatMap (kidsA w)).length + (n5 + n6) ≤ 100000000 := by
    have h1 : (L.take (k + 1)).flatMap (kidsA w) = (L.take k).flatMap (kidsA w) ++ (rowA 21 0 (.slice A5 n5 q5) ++ rowA 23 2 (.slice A6 n6 q6)) := by
     rw [take_step L k _ ha, List.flatMap_append, ← hkA]
     simp
    have h2 : (L.flatMap (kidsA w)) = (L.take (k + 1)).flatMap (kidsA w) ++ (L.drop (k + 1)).flatMap (kidsA w) := by rw [← List.flatMap_append, List.take_append_drop]
    have h3 := congrArg List.length h1
    have h4 := congrArg List.length h2
    simp only [List.length_append, hl5, hl6] at h3 h4
    omega
   obtain ⟨M, hM⟩ : ∃ M, M = ((L.take k).flatMap (kidsA w)).foldl addU [] := ⟨_, rfl⟩
   rw [← hM] at hS
   have hMlen : M.length + (n5 + n6) ≤ 100000000 := by
    have := len_addUs ((L.take k).flatMap (kidsA w)) []
    rw [← hM] at this
    simp only [List.length_nil] at this
    omega
   have hkat : ∀ x ∈ kidsA w ⟨b, oa, none⟩, AtCells w x := fun x hx => (hkids x hx).2.1
   have hMat : ∀ x ∈ M, AtCells w x := by
    intro x hx
    rw [hM, mem_addUs] at hx
    rcases hx with hx | hx
    ·cases hx
    ·obtain ⟨y, hy, hxy⟩ := List.mem_flatMap.1 hx
     exact ((HOK.out y (List.mem_of_mem_take hy)).2.2.2.2 x hxy).2.1
   have hnext : ((L.take (k + 1)).flatMap (kidsA w)).foldl addU [] = (rowA 23 2 (.slice A6 n6 q6)).foldl addU ((rowA 21 0 (.slice A5 n5 q5)).foldl addU M) := by
    rw [take_step L k _ ha, List.flatMap_append, List.foldl_append, ← hM]
    simp only [List.flatMap_cons, List.flatMap_nil, List.append_nil]
    rw [hkA, List.foldl_append]
   have HN := Lib.hid hnext
   have HKA := Lib.hid hkA
   have HR5 := Lib.hid hr5
   have HR6 := Lib.hid hr6
   have HL5 := Lib.hid hl5
   have HL6 := Lib.hid hl6
   have HKAT := Lib.hid hkat
   have HMAT := Lib.hid hMat
   have E5 := Lib.hid e5
   have E6 := Lib.hid e6
   have c5 : wr.cell? ⟨b, oa + 5, none⟩ = some (.slice A5 n5 q5) := (hB.cell (p := ⟨b, oa + 5, none⟩) hbl).trans e5
   clear hnext hkA hr5 hr6 hl5 hl6 hkat hMat hkids h5 h6 hM hcl htot ha e5 e6
   go_wp2
   go_loopw [23] (fun i W => ∃ j : Nat, j ≤ n5 ∧ i = .int .i64 j ∧ BSt w (((rowA 21 0 (.slice A5 n5 q5)).take j).foldl addU M) W) (fun i _ => n5 - (intOf i).toNat)
   case atStart => exact ⟨0, Nat.zero_le _, rfl, hS⟩
   case round =>
    obtain ⟨j, hj, rfl, hSj⟩ := hrel
    have hBj := hSj.below
    by_cases hjn : j < n5
    ·obtain ⟨g5, hA5, hx5⟩ := HR5.out j hjn
     subst hA5
     have c5' : wr.cell? ⟨b, oa + 5, none⟩ = some (.slice (some ⟨g5, 0, none⟩) n5 q5) := (hBj.cell (p := ⟨b, oa + 5, none⟩) hbl).trans E5.out
     have hjq : j < q5 := by omega
     have hmem : (⟨g5, j * 21, none⟩ : Addr) ∈ kidsA w ⟨b, oa, none⟩ := by rw [HKA.out]; exact List.mem_append_left _ (List.mem_of_getElem? hx5)
     have hadd := add_any w wr _ ⟨g5, j * 21, none⟩ hSj (HKAT.out _ hmem) (fun x hx => by
      rw [mem_addUs] at hx
      rcases hx with hx | hx
      ·exact HMAT.out x hx
      ·exact HKAT.out x (by rw [HKA.out]; exact List.mem_append_left _ (List.mem_of_mem_take hx))) (by have := len_addUs ((rowA 21 0 (.slice (some ⟨g5, 0, none⟩) n5 q5)).take j) M; have := HL5.out; simp at *; omega)
     have HADD := Lib.hid hadd
     have HX5 := Lib.hid hx5
     clear hadd hx5 hS
     go_wp2_with fail
     refine HADD.out.mono ?_
     rintro e W2 ⟨rfl, hS2⟩
     go_wp2_with fail
     go_roundw
     case rel =>
      refine ⟨j + 1, by omega, by simp, ?_⟩
      rw [take_step _ j _ HX5.out, List.foldl_append]
      exact hS2
     case measure => (simp [intOf] <;> omega)
    ·obtain rfl : j = n5 := by omega
     rw [List.take_of_length_le (Nat.le_of_eq HL5.out)] at hSj
     have c6 : wr.cell? ⟨b, oa + 6, none⟩ = some (.slice A6 n6 q6) := (hBj.cell (p := ⟨b, oa + 6, none⟩) hbl).trans E6.out
     go_wp2
     go_loopw [40] (fun i W => ∃ j' : Nat, j' ≤ n6 ∧ i = .int .i64 j' ∧ BSt w (((rowA 23 2 (.slice A6 n6 q6)).take j').foldl addU ((rowA 21 0 (.slice A5 j q5)).foldl addU M)) W) (fun i _ => n6 - (intOf i).toNat)
     case atStart => exact ⟨0, Nat.zero_le _, rfl, hSj⟩
     case round =>
      obtain ⟨j6, hj6, rfl, hS6⟩ := hrel
      have hB6 := hS6.below
      by_cases hjn6 : j6 < n6
      ·obtain ⟨g6, hA6, hx6⟩ := HR6.out j6 hjn6
       subst hA6
       have c6' : wr.cell? ⟨b, oa + 6, none⟩ = some (.slice (some ⟨g6, 0, none⟩) n6 q6) := (hB6.cell (p := ⟨b, oa + 6, none⟩) hbl).trans E6.out
       have hjq6 : j6 < q6 := by omega
       have hmem : (⟨g6, j6 * 23 + 2, none⟩ : Addr) ∈ kidsA w ⟨b, oa, none⟩ := by rw [HKA.out]; exact List.mem_append_right _ (List.mem_of_getElem? hx6)
       have hadd := add_any w wr _ ⟨g6, j6 * 23 + 2, none⟩ hS6 (HKAT.out _ hmem) (fun x hx => by
        rw [mem_addUs, mem_addUs] at hx
        rcases hx with (hx | hx) | hx
        ·exact HMAT.out x hx
        ·exact HKAT.out x (by rw [HKA.out]; exact List.mem_append_left _ hx)
        ·exact HKAT.out x (by rw [HKA.out]; exact List.mem_append_right _ (List.mem_of_mem_take hx))) (by
         have h1 := len_addUs (rowA 21 0 (.slice A5 j q5)) M
         have h2 := len_addUs ((rowA 23 2 (.slice (some ⟨g6, 0, none⟩) n6 q6)).take j6) ((rowA 21 0 (.slice A5 j q5)).foldl addU M)
         have h3 := HL5.out
         have h4 := HL6.out
         rw [List.length_take] at h2
         omega)
       have HADD := Lib.hid hadd
       have HX6 := Lib.hid hx6
       clear hadd hx6 hS hSj
       go_wp2_with fail
       refine HADD.out.mono ?_
       rintro e W2 ⟨rfl, hS2⟩
       go_wp2_with fail
       go_roundw
       case rel =>
        refine ⟨j6 + 1, by omega, by simp, ?_⟩
        rw [take_step _ j6 _ HX6.out, List.foldl_append]
        exact hS2
       case measure => (simp [intOf] <;> omega)
      ·obtain rfl : j6 = n6 := by omega
       rw [List.take_of_length_le (Nat.le_of_eq HL6.out)] at hS6
       go_wp2
       go_roundw
       case rel =>
        refine ⟨k + 1, by omega, by simp, ?_⟩
        rw [HN.out]
        exact hS6
       case measure => (simp [intOf] <;> omega)
  ·obtain rfl : k = L.length := by omega
   rw [List.take_length] at hS
   obtain ⟨v', h1, h2, h3, h4, h5⟩ := hS
   have a2 := h2.cell 0
   go_wp2
   go_ret
   exact ⟨v', rfl, h4, h5⟩
end Go.Proofs.YtmodmojocclmaaaGreatDoor
