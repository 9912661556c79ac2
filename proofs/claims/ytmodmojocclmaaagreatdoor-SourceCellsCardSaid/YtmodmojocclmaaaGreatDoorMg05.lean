/- What operators make of two numbers. -/
import Derived.Test.YtmodmojocclmaaaGreatDoorMg03
namespace Go.Proofs.YtmodmojocclmaaaGreatDoor.K
open Go Go.MapKept Go.ChangeMaps Go.RowKit

def numV (k n : Int) : Value := .agg #[.int .i64 k, .int .i64 n, .string ⟨#[]⟩, .slice none 0 0]
def OpEnd (w : World) (k n : Int) (ok : Bool) (e : Ending) (w' : World) : Prop := e = .returned (.tuple #[numV k n, .bool ok]) ∧ Below w.heap.size w w'
theorem results_row_tmp {P : Program} {fn : Func} {p u : Tmp} {ty : TypeId} (h : fn.results = #[.cell p ty, .tmp u]) (tmps : Array Value) (w : World) (g : Nat) (t : TypeId) (cs : Array Value) (fr : Nat × Nat) (d : TypeDesc)
  (hp : tmps.getD p undef = .pointer (some ⟨g, 0, none⟩)) (hg : w.heap[g]? = some (.cells cs t fr))
  (hu : P.underlying ty = some d) (hd : (match d with | .struct _ | .array _ _ => true | _ => false) = true) (hi : (P.info? ty).map (·.size) = some cs.size) :
  (results fn tmps).run P w = .ok (.tuple #[.agg cs, tmps.getD u undef]) w := by
 rw [results_cell_tmp h]
 have hp' : tmps[p]?.getD undef = .pointer (some ⟨g, 0, none⟩) := by simpa using hp
 simp [hp', asAddr, run_loadVar_row w g t ty cs fr d hg hu hd hi, Result.andThen]
set_option maxRecDepth 100000 in
set_option maxHeartbeats 2000000 in
theorem vnumber_any (n : Int) (w : World) : Calls Tryz.prog 129 #[.int .i64 n] w fun e w' => e = .returned (numV 1 n) ∧ Below w.heap.size w w' := by
 go_enter Tryz.func129, Tryz.ntmps129
 go_wp2
 exact bodyPost_ret (v := numV 1 n) (by simp [results, Tryz.results129, go_sem, numV]) rfl ⟨rfl, below_new _ _⟩
def truN (t : Bool) : Int := if t then 1 else 0
set_option maxRecDepth 100000 in
set_option maxHeartbeats 2000000 in
theorem vtruth_any (t : Bool) (w : World) : Calls Tryz.prog 134 #[.bool t] w fun e w' => e = .returned (numV 2 (truN t)) ∧ Below w.heap.size w w' := by
 cases t <;>
 ·go_enter Tryz.func134, Tryz.ntmps134
  go_wp2
  refine bodyPost_ret (v := numV 2 _) (by simp [results, Tryz.results134, go_sem, numV]; rfl) rfl ⟨rfl, ?_⟩
  exact ((Below.refl _ w).alloc (Nat.le_refl _) _).alloc (by simp) _
set_option maxRecDepth 100000 in
set_option maxHeartbeats 2000000 in
theorem oper1_any (a b : Int) (w : World) : Calls Tryz.prog 128 #[.int .i64 a, .int .i64 b] w (OpEnd w 1 (wrap64 (a + b)) true) := by
 have hb1 := below_new w (.cells #[.int .i64 0, .int .i64 0, .string ⟨#[]⟩, .slice none 0 0] 38)
 have HB1 := Lib.hid hb1
 clear hb1
 go_enter Tryz.func128, Tryz.ntmps128
 go_wp2_with fail
 refine (vnumber_any _ _).mono ?_
 rintro e w2 ⟨rfl, hb2⟩
 have l2 := (Lies.new w 38 #[.int .i64 0, .int .i64 0, .string ⟨#[]⟩, .slice none 0 0]).later hb2
 have z0 := l2.cell 0
 have z1 := l2.cell 1
 have z2 := l2.cell 2
 have z3 := l2.cell 3
 have f0 := l2.free 0
 have f1 := l2.free 1
 have f2 := l2.free 2
 have f3 := l2.free 3
 have hst : ∀ x : Int, Lies ((((w2.setCell ⟨w.heap.size, 0, none⟩ (.int .i64 1)).setCell ⟨w.heap.size, 1, none⟩ (.int .i64 x)).setCell ⟨w.heap.size, 2, none⟩ (.string ⟨#[]⟩)).setCell ⟨w.heap.size, 3, none⟩ (.slice none 0 0)) w.heap.size 38 #[.int .i64 1, .int .i64 x, .string ⟨#[]⟩, .slice none 0 0] := fun x => (((l2.set 0 (.int .i64 1)).set 1 (.int .i64 x)).set 2 (.string ⟨#[]⟩)).set 3 (.slice none 0 0)
 have HST := Lib.hid hst
 have HB2 := Lib.hid (HB1.out.trans (hb2.mono HB1.out.size))
 clear l2 hb2 hst
 unfold numV
 go_wp2
 exact bodyPost_ret (results_row_tmp rfl _ _ w.heap.size 38 _ (0, 0) _ rfl (HST.out _) Tryz.underlying38 rfl info_val) rfl ⟨rfl, (((HB2.out.setCell (p := ⟨w.heap.size, 0, none⟩) (Nat.le_refl _) _).setCell (p := ⟨w.heap.size, 1, none⟩) (Nat.le_refl _) _).setCell (p := ⟨w.heap.size, 2, none⟩) (Nat.le_refl _) _).setCell (p := ⟨w.heap.size, 3, none⟩) (Nat.le_refl _) _⟩
set_option maxRecDepth 100000 in
set_option maxHeartbeats 2000000 in
theorem oper2_any (a b : Int) (w : World) : Calls Tryz.prog 130 #[.int .i64 a, .int .i64 b] w (OpEnd w 1 (wrap64 (a - b)) true) := by
 have hb1 := below_new w (.cells #[.int .i64 0, .int .i64 0, .string ⟨#[]⟩, .slice none 0 0] 38)
 have HB1 := Lib.hid hb1
 clear hb1
 go_enter Tryz.func130, Tryz.ntmps130
 go_wp2_with fail
 refine (vnumber_any _ _).mono ?_
 rintro e w2 ⟨rfl, hb2⟩
 have l2 := (Lies.new w 38 #[.int .i64 0, .int .i64 0, .string ⟨#[]⟩, .slice none 0 0]).later hb2
 have z0 := l2.cell 0
 have z1 := l2.cell 1
 have z2 := l2.cell 2
 have z3 := l2.cell 3
 have f0 := l2.free 0
 have f1 := l2.free 1
 have f2 := l2.free 2
 have f3 := l2.free 3
 have hst : ∀ x : Int, Lies ((((w2.setCell ⟨w.heap.size, 0, none⟩ (.int .i64 1)).setCell ⟨w.heap.size, 1, none⟩ (.int .i64 x)).setCell ⟨w.heap.size, 2, none⟩ (.string ⟨#[]⟩)).setCell ⟨w.heap.size, 3, none⟩ (.slice none 0 0)) w.heap.size 38 #[.int .i64 1, .int .i64 x, .string ⟨#[]⟩, .slice none 0 0] := fun x => (((l2.set 0 (.int .i64 1)).set 1 (.int .i64 x)).set 2 (.string ⟨#[]⟩)).set 3 (.slice none 0 0)
 have HST := Lib.hid hst
 have HB2 := Lib.hid (HB1.out.trans (hb2.mono HB1.out.size))
 clear l2 hb2 hst
 unfold numV
 go_wp2
 exact bodyPost_ret (results_row_tmp rfl _ _ w.heap.size 38 _ (0, 0) _ rfl (HST.out _) Tryz.underlying38 rfl info_val) rfl ⟨rfl, (((HB2.out.setCell (p := ⟨w.heap.size, 0, none⟩) (Nat.le_refl _) _).setCell (p := ⟨w.heap.size, 1, none⟩) (Nat.le_refl _) _).setCell (p := ⟨w.heap.size, 2, none⟩) (Nat.le_refl _) _).setCell (p := ⟨w.heap.size, 3, none⟩) (Nat.le_refl _) _⟩
set_option maxRecDepth 100000 in
set_option maxHeartbeats 2000000 in
theorem oper3_any (a b : Int) (w : World) : Calls Tryz.prog 131 #[.int .i64 a, .int .i64 b] w (OpEnd w 1 (wrap64 (a * b)) true) := by
 have hb1 := below_new w (.cells #[.int .i64 0, .int .i64 0, .string ⟨#[]⟩, .slice none 0 0] 38)
 have HB1 := Lib.hid hb1
 clear hb1
 go_enter Tryz.func131, Tryz.ntmps131
 go_wp2_with fail
 refine (vnumber_any _ _).mono ?_
 rintro e w2 ⟨rfl, hb2⟩
 have l2 := (Lies.new w 38 #[.int .i64 0, .int .i64 0, .string ⟨#[]⟩, .slice none 0 0]).later hb2
 have z0 := l2.cell 0
 have z1 := l2.cell 1
 have z2 := l2.cell 2
 have z3 := l2.cell 3
 have f0 := l2.free 0
 have f1 := l2.free 1
 have f2 := l2.free 2
 have f3 := l2.free 3
 have hst : ∀ x : Int, Lies ((((w2.setCell ⟨w.heap.size, 0, none⟩ (.int .i64 1)).setCell ⟨w.heap.size, 1, none⟩ (.int .i64 x)).setCell ⟨w.heap.size, 2, none⟩ (.string ⟨#[]⟩)).setCell ⟨w.heap.size, 3, none⟩ (.slice none 0 0)) w.heap.size 38 #[.int .i64 1, .int .i64 x, .string ⟨#[]⟩, .slice none 0 0] := fun x => (((l2.set 0 (.int .i64 1)).set 1 (.int .i64 x)).set 2 (.string ⟨#[]⟩)).set 3 (.slice none 0 0)
 have HST := Lib.hid hst
 have HB2 := Lib.hid (HB1.out.trans (hb2.mono HB1.out.size))
 clear l2 hb2 hst
 unfold numV
 go_wp2
 exact bodyPost_ret (results_row_tmp rfl _ _ w.heap.size 38 _ (0, 0) _ rfl (HST.out _) Tryz.underlying38 rfl info_val) rfl ⟨rfl, (((HB2.out.setCell (p := ⟨w.heap.size, 0, none⟩) (Nat.le_refl _) _).setCell (p := ⟨w.heap.size, 1, none⟩) (Nat.le_refl _) _).setCell (p := ⟨w.heap.size, 2, none⟩) (Nat.le_refl _) _).setCell (p := ⟨w.heap.size, 3, none⟩) (Nat.le_refl _) _⟩
set_option maxRecDepth 100000 in
set_option maxHeartbeats 2000000 in
theorem oper5_any (a b : Int) (w : World) : Calls Tryz.prog 133 #[.int .i64 a, .int .i64 b] w (OpEnd w 2 (truN (decide (a < b))) true) := by
 have hb1 := below_new w (.cells #[.int .i64 0, .int .i64 0, .string ⟨#[]⟩, .slice none 0 0] 38)
 have HB1 := Lib.hid hb1
 clear hb1
 go_enter Tryz.func133, Tryz.ntmps133
 go_wp2_with fail
 refine (vtruth_any _ _).mono ?_
 rintro e w2 ⟨rfl, hb2⟩
 have l2 := (Lies.new w 38 #[.int .i64 0, .int .i64 0, .string ⟨#[]⟩, .slice none 0 0]).later hb2
 have z0 := l2.cell 0
 have z1 := l2.cell 1
 have z2 := l2.cell 2
 have z3 := l2.cell 3
 have f0 := l2.free 0
 have f1 := l2.free 1
 have f2 := l2.free 2
 have f3 := l2.free 3
 have hst : ∀ x : Int, Lies ((((w2.setCell ⟨w.heap.size, 0, none⟩ (.int .i64 2)).setCell ⟨w.heap.size, 1, none⟩ (.int .i64 x)).setCell ⟨w.heap.size, 2, none⟩ (.string ⟨#[]⟩)).setCell ⟨w.heap.size, 3, none⟩ (.slice none 0 0)) w.heap.size 38 #[.int .i64 2, .int .i64 x, .string ⟨#[]⟩, .slice none 0 0] := fun x => (((l2.set 0 (.int .i64 2)).set 1 (.int .i64 x)).set 2 (.string ⟨#[]⟩)).set 3 (.slice none 0 0)
 have HST := Lib.hid hst
 have HB2 := Lib.hid (HB1.out.trans (hb2.mono HB1.out.size))
 clear l2 hb2 hst
 unfold numV
 go_wp2
 exact bodyPost_ret (results_row_tmp rfl _ _ w.heap.size 38 _ (0, 0) _ rfl (HST.out _) Tryz.underlying38 rfl info_val) rfl ⟨rfl, (((HB2.out.setCell (p := ⟨w.heap.size, 0, none⟩) (Nat.le_refl _) _).setCell (p := ⟨w.heap.size, 1, none⟩) (Nat.le_refl _) _).setCell (p := ⟨w.heap.size, 2, none⟩) (Nat.le_refl _) _).setCell (p := ⟨w.heap.size, 3, none⟩) (Nat.le_refl _) _⟩
set_option maxRecDepth 100000 in
set_option maxHeartbeats 2000000 in
theorem oper6_any (a b : Int) (w : World) : Calls Tryz.prog 135 #[.int .i64 a, .int .i64 b] w (OpEnd w 2 (truN (a == b)) true) := by
 have hb1 := below_new w (.cells #[.int .i64 0, .int .i64 0, .string ⟨#[]⟩, .slice none 0 0] 38)
 have HB1 := Lib.hid hb1
 clear hb1
 go_enter Tryz.func135, Tryz.ntmps135
 go_wp2_with fail
 refine (vtruth_any _ _).mono ?_
 rintro e w2 ⟨rfl, hb2⟩
 have l2 := (Lies.new w 38 #[.int .i64 0, .int .i64 0, .string ⟨#[]⟩, .slice none 0 0]).later hb2
 have z0 := l2.cell 0
 have z1 := l2.cell 1
 have z2 := l2.cell 2
 have z3 := l2.cell 3
 have f0 := l2.free 0
 have f1 := l2.free 1
 have f2 := l2.free 2
 have f3 := l2.free 3
 have hst : ∀ x : Int, Lies ((((w2.setCell ⟨w.heap.size, 0, none⟩ (.int .i64 2)).setCell ⟨w.heap.size, 1, none⟩ (.int .i64 x)).setCell ⟨w.heap.size, 2, none⟩ (.string ⟨#[]⟩)).setCell ⟨w.heap.size, 3, none⟩ (.slice none 0 0)) w.heap.size 38 #[.int .i64 2, .int .i64 x, .string ⟨#[]⟩, .slice none 0 0] := fun x => (((l2.set 0 (.int .i64 2)).set 1 (.int .i64 x)).set 2 (.string ⟨#[]⟩)).set 3 (.slice none 0 0)
 have HST := Lib.hid hst
 have HB2 := Lib.hid (HB1.out.trans (hb2.mono HB1.out.size))
 clear l2 hb2 hst
 unfold numV
 go_wp2
 exact bodyPost_ret (results_row_tmp rfl _ _ w.heap.size 38 _ (0, 0) _ rfl (HST.out _) Tryz.underlying38 rfl info_val) rfl ⟨rfl, (((HB2.out.setCell (p := ⟨w.heap.size, 0, none⟩) (Nat.le_refl _) _).setCell (p := ⟨w.heap.size, 1, none⟩) (Nat.le_refl _) _).setCell (p := ⟨w.heap.size, 2, none⟩) (Nat.le_refl _) _).setCell (p := ⟨w.heap.size, 3, none⟩) (Nat.le_refl _) _⟩
set_option maxRecDepth 100000 in
set_option maxHeartbeats 2000000 in
theorem oper4_any (a b : Int) (w : World) (hb : b ≠ 0) : Calls Tryz.prog 132 #[.int .i64 a, .int .i64 b] w (OpEnd w 1 (wrap64 (a.tdiv b)) true) := by
 have hb1 := below_new w (.cells #[.int .i64 0, .int .i64 0, .string ⟨#[]⟩, .slice none 0 0] 38)
 have HB1 := Lib.hid hb1
 clear hb1
 have hbe : ¬ b = 0 := hb
 go_enter Tryz.func132, Tryz.ntmps132
 go_wp2_with fail
 refine (vnumber_any _ _).mono ?_
 rintro e w2 ⟨rfl, hb2⟩
 have l2 := (Lies.new w 38 #[.int .i64 0, .int .i64 0, .string ⟨#[]⟩, .slice none 0 0]).later hb2
 have z0 := l2.cell 0
 have z1 := l2.cell 1
 have z2 := l2.cell 2
 have z3 := l2.cell 3
 have f0 := l2.free 0
 have f1 := l2.free 1
 have f2 := l2.free 2
 have f3 := l2.free 3
 have hst : ∀ x : Int, Lies ((((w2.setCell ⟨w.heap.size, 0, none⟩ (.int .i64 1)).setCell ⟨w.heap.size, 1, none⟩ (.int .i64 x)).setCell ⟨w.heap.size, 2, none⟩ (.string ⟨#[]⟩)).setCell ⟨w.heap.size, 3, none⟩ (.slice none 0 0)) w.heap.size 38 #[.int .i64 1, .int .i64 x, .string ⟨#[]⟩, .slice none 0 0] := fun x => (((l2.set 0 (.int .i64 1)).set 1 (.int .i64 x)).set 2 (.string ⟨#[]⟩)).set 3 (.slice none 0 0)
 have HST := Lib.hid hst
 have HB2 := Lib.hid (HB1.out.trans (hb2.mono HB1.out.size))
 clear l2 hb2 hst
 unfold numV
 go_wp2
 exact bodyPost_ret (results_row_tmp rfl _ _ w.heap.size 38 _ (0, 0) _ rfl (HST.out _) Tryz.underlying38 rfl info_val) rfl ⟨rfl, (((HB2.out.setCell (p := ⟨w.heap.size, 0, none⟩) (Nat.le_refl _) _).setCell (p := ⟨w.heap.size, 1, none⟩) (Nat.le_refl _) _).setCell (p := ⟨w.heap.size, 2, none⟩) (Nat.le_refl _) _).setCell (p := ⟨w.heap.size, 3, none⟩) (Nat.le_refl _) _⟩
set_option maxRecDepth 100000 in
set_option maxHeartbeats 2000000 in
theorem oper4_zero (a : Int) (w : World) : Calls Tryz.prog 132 #[.int .i64 a, .int .i64 0] w (OpEnd w 0 0 false) := by
 have HB2 := Lib.hid (below_new w (.cells #[.int .i64 0, .int .i64 0, .string ⟨#[]⟩, .slice none 0 0] 38))
 go_enter Tryz.func132, Tryz.ntmps132
 go_wp2
 exact bodyPost_ret (results_row_tmp rfl _ _ w.heap.size 38 _ (0, 0) _ rfl (Lies.new w _ _) Tryz.underlying38 rfl info_val) rfl ⟨rfl, HB2.out⟩
end Go.Proofs.YtmodmojocclmaaaGreatDoor.K

/- Maps of the call's own whose keys are strings; the table of operators; Op. -/
namespace Go.Proofs.YtmodmojocclmaaaGreatDoor.K
open Go Go.MapKept Go.ChangeMaps Go.RowKit

theorem ba_beq (k m : Str) : (ba k == ba m) = decide (k = m) := by
 have h : (ba k == ba m) = ((ba k).data == (ba m).data) := rfl
 rw [h]
 by_cases e : k = m
 ·simp [e]
 ·simp [ba, e]
def SMap (w : World) (b : Nat) (L : List (Str × Value)) : Prop :=
 ∃ es clock, w.heap[b]? = some (.map es clock) ∧ es.toList.map (fun e => (e.key, e.val)) = L.map (fun p => (Value.string (ba p.1), p.2))
theorem SMap.lt {w : World} {b : Nat} {L : List (Str × Value)} (h : SMap w b L) : b < w.heap.size := by
 obtain ⟨es, clock, hb, _⟩ := h
 exact (Array.getElem?_eq_some_iff.1 hb).1
theorem SMap.keep {w w' : World} {b : Nat} {L : List (Str × Value)} (h : SMap w b L) (hk : w'.heap[b]? = w.heap[b]?) : SMap w' b L := by
 obtain ⟨es, clock, hb, he⟩ := h
 exact ⟨es, clock, hk.trans hb, he⟩
theorem SMap.made (w : World) : SMap (w.alloc (.map #[] 0)) w.heap.size [] := ⟨#[], 0, (MapKept.heap_alloc w _).1, rfl⟩
def look (k : Str) : List (Str × Value) → Option Value
 | [] => none
 | p :: L => if k = p.1 then some p.2 else look k L
theorem findNow_str (k : Str) : ∀ (es : List MapEntry) (L : List (Str × Value)) (i : Nat), es.map (fun e => (e.key, e.val)) = L.map (fun p => (Value.string (ba p.1), p.2)) →
  ∃ r, Instr.findNow .string (.string (ba k)) es i = some r ∧ ((∃ v j, look k L = some v ∧ r = some (j, v)) ∨ (look k L = none ∧ r = none))
 | [], [], i, _ => ⟨none, rfl, .inr ⟨rfl, rfl⟩⟩
 | [], _ :: _, i, h => by simp at h
 | _ :: _, [], i, h => by simp at h
 | e :: es, p :: L, i, h => by
  simp only [List.map_cons, List.cons.injEq, Prod.mk.injEq] at h
  obtain ⟨⟨h1, h2⟩, h3⟩ := h
  by_cases hx : k = p.1
  ·refine ⟨some (i, p.2), ?_, .inl ⟨p.2, i, by simp [look, hx], rfl⟩⟩
   simp [Instr.findNow, Instr.sameNow, h1, h2, hx, ba_beq]
  ·obtain ⟨r, hr, hc⟩ := findNow_str k es L (i + 1) h3
   refine ⟨r, ?_, ?_⟩
   ·rw [Instr.findNow, h1, show Instr.sameNow .string (.string (ba k)) (.string (ba p.1)) = some false by simp [Instr.sameNow, ba_beq, hx]]
    exact hr
   ·simpa [look, hx] using hc
section
variable {P : Program} {w : World} {kt mt et : TypeId}
theorem run_findKey_str (hk : P.underlying kt = some .string) (k : Str) (es : List MapEntry) (L : List (Str × Value)) (h : es.map (fun e => (e.key, e.val)) = L.map (fun p => (Value.string (ba p.1), p.2))) :
  ∃ r, (Instr.findKey kt (.string (ba k)) es).run P w = .ok r w ∧ ((∃ v j, look k L = some v ∧ r = some (j, v)) ∨ (look k L = none ∧ r = none)) := by
 obtain ⟨r, hr, hc⟩ := findNow_str k es L 0 h
 exact ⟨r, by simp [Instr.findKey, run_underlying hk, Result.andThen, hr], hc⟩
theorem SMap.lookup {b : Nat} {L : List (Str × Value)} {z : Value} (h : SMap w b L) (hm : P.underlying mt = some (.map kt et)) (hk : P.underlying kt = some .string) (hz : (zeroValue et).run P w = .ok z w) (k : Str) :
  (Instr.lookup mt (.map (some b)) (.string (ba k)) true).run P w = .ok (.tuple #[(look k L).getD z, .bool (look k L).isSome]) w := by
 obtain ⟨es, clock, hb, he⟩ := h
 obtain ⟨r, hr, hc⟩ := run_findKey_str (w := w) hk k es.toList L he
 have hck : (Instr.checkKey es.isEmpty (9999 + 1) kt (.string (ba k))).run P w = .ok () w := MapKept.run_checkKey hk (by first | trivial | exact .int _ _ | constructor) _ _
 rcases hc with ⟨v, j, hv, rfl⟩ | ⟨hv, rfl⟩
 ·simp [Instr.lookup, run_underlying hm, MapKept.run_getObj_map hb, Result.andThen, hck, hr, hv]
 ·simp [Instr.lookup, run_underlying hm, MapKept.run_getObj_map hb, Result.andThen, hck, hr, hv, hz]
theorem SMap.update {b : Nat} {L : List (Str × Value)} (h : SMap w b L) (hm : P.underlying mt = some (.map kt et)) (hk : P.underlying kt = some .string) (k : Str) (v : Value) (hn : look k L = none) :
  ∃ w', (Instr.mapUpdate mt (.map (some b)) (.string (ba k)) v).run P w = .ok () w' ∧ SMap w' b (L ++ [(k, v)]) ∧ w.grownBy w' (some b) := by
 obtain ⟨es, clock, hb, he⟩ := h
 obtain ⟨r, hr, hc⟩ := run_findKey_str (w := w) hk k es.toList L he
 have hck : (Instr.checkKey es.isEmpty (9999 + 1) kt (.string (ba k))).run P w = .ok () w := MapKept.run_checkKey hk (by first | trivial | exact .int _ _ | constructor) _ _
 have hck' : ∀ e : Bool, (Instr.checkKey e (9999 + 1) kt (.string (ba k))).run P w = .ok () w := fun e => MapKept.run_checkKey hk (by first | trivial | exact .int _ _ | constructor) _ _
 rcases hc with ⟨u, j, hv, rfl⟩ | ⟨hv, rfl⟩
 ·rw [hn] at hv; cases hv
 ·refine ⟨setBlock w b (.map (es.push ⟨.string (ba k), v, clock⟩) (clock + 1)), ?_, ⟨_, _, heap_setBlock_same hb _, ?_⟩, ⟨rfl, rfl, rfl, by simp [setBlock], fun i _ hi => heap_setBlock_other hb _ (fun e => hi (by rw [e]))⟩⟩
  ·simp [Instr.mapUpdate, run_underlying hm, MapKept.run_getObj_map hb, hck', hr, MapKept.run_setObj_map _ hb, Result.andThen, setBlock]
  ·simp [he]
end
theorem wpList_lookup_smap {P : Program} (w : World) {ops : Array Oper} {rest : List Oper} {o : Oper} {a : Act} {Q : Exit → Act → World → Prop}
  (hg : o.guard = none) (m x : Operand) (t : TypeId) (hop : o.op = Op.lookup t m x true) {kt et : TypeId} {z : Value} {b : Nat} {L : List (Str × Value)}
  (hm : a.eval m = .map (some b)) (h : SMap w b L) (hmt : P.underlying t = some (.map kt et)) (hk : P.underlying kt = some .string)
  (hz : (zeroValue et).run P w = .ok z w) (k : Str) (hx : a.eval x = .string (ba k))
  (hK : wpList P ops Q rest (a.put o.dst (.tuple #[(look k L).getD z, .bool (look k L).isSome])) w) :
  wpList P ops Q (o :: rest) a w := by
 refine wpList_plain hg fun K' hK' => ?_
 have hrun := h.lookup hmt hk hz k
 unfold Oper.wp
 simp [execOp, hop, hm, hx, hrun, Result.andThen]
 exact hK' _ _ hK
theorem wpList_update_smap {P : Program} (w : World) {ops : Array Oper} {rest : List Oper} {o : Oper} {a : Act} {Q : Exit → Act → World → Prop}
  (hg : o.guard = none) (m x v : Operand) (t : TypeId) (hop : o.op = Op.mapUpdate t m x v ∨ o.op = Op.insert t m x v) {kt et : TypeId} {b : Nat} {L : List (Str × Value)}
  (hm : a.eval m = .map (some b)) (h : SMap w b L) (hmt : P.underlying t = some (.map kt et)) (hk : P.underlying kt = some .string)
  (k : Str) (hx : a.eval x = .string (ba k)) (hn : look k L = none)
  (hK : ∀ w', SMap w' b (L ++ [(k, a.eval v)]) → w.grownBy w' (some b) → wpList P ops Q rest (a.put o.dst undef) w') :
  wpList P ops Q (o :: rest) a w := by
 refine wpList_plain hg fun K' hK' => ?_
 obtain ⟨w', hrun, r1, r2⟩ := h.update hmt hk k (a.eval v) hn
 unfold Oper.wp
 rcases hop with hop | hop <;>
 ·simp [execOp, hop, hm, hx, hrun, Result.andThen]
  exact hK' _ _ (hK w' r1 r2)
def fnV (F : Nat) : Value := .func (.func F) #[] #[]
def opsL : List (Str × Value) := [([43], fnV 128), ([45], fnV 130), ([42], fnV 131), ([47], fnV 132), ([60], fnV 133), ([61], fnV 135)]
theorem bel_grown {B : Nat} {w w1 w2 : World} (h : Below B w w1) {r : Nat} (hg : w1.grownBy w2 (some r)) (hr : B ≤ r) (hB : B ≤ w1.heap.size) : Below B w w2 :=
 h.trans ⟨hg.os, hg.tape, hg.output, hg.size, fun k hk => hg.block k (by omega) (fun e => by injection e; omega)⟩
set_option maxRecDepth 100000 in
set_option maxHeartbeats 2000000 in
theorem operators_any (w : World) : Calls Tryz.prog 119 #[] w fun e w' => e = .returned (.map (some w.heap.size)) ∧ SMap w' w.heap.size opsL ∧ Below w.heap.size w w' := by
 have h0 := SMap.made w
 have hmm := @run_makeMap Tryz.prog
 have hbb := below_new w (.map #[] 0)
 have hss : w.heap.size + 1 ≤ (w.alloc (.map #[] 0)).heap.size := by simp
 go_enter Tryz.func119, Tryz.ntmps119
 go_wp2_with (refine wpList_update_smap _ rfl (.tmp 1) _ _ 229 (.inr rfl) rfl (by assumption) Tryz.underlying229 Tryz.underlying9 _ rfl rfl ?_; clear h0; intro w1 h0 g1; have hbb := bel_grown hbb g1 (Nat.le_refl _) (by omega); have hss := Nat.le_trans hss g1.size; clear g1)
 go_ret
 exact ⟨rfl, h0, hbb⟩
theorem zero_oper (w : World) : (zeroValue 227).run Tryz.prog w = .ok .nilFunc w := by go_simp
structure Oper2 (F : Nat) (a b k n : Int) (ok : Bool) : Prop where
 ent : ∀ (args : Array Value) (w : World), (callFunc F args).run Tryz.prog w = .ok (.enter F args) w
 run : ∀ w : World, Calls Tryz.prog F #[.int .i64 a, .int .i64 b] w (OpEnd w k n ok)
set_option maxRecDepth 100000 in
set_option maxHeartbeats 2000000 in
theorem op_yes (nm : Str) (F : Nat) (a b k n : Int) (ok : Bool) (hl : look nm opsL = some (fnV F)) (hF : Oper2 F a b k n ok) (w : World) :
  Calls Tryz.prog 108 #[.string (ba nm), .int .i64 a, .int .i64 b] w (OpEnd w k n ok) := by
 have hent := hF.ent
 have hzo := fun w => zero_oper w
 have hlk : (look nm opsL).getD .nilFunc = .func (.func F) #[] #[] := by rw [hl]; rfl
 have hls : (look nm opsL).isSome = true := by rw [hl]; rfl
 obtain ⟨w1, hw1⟩ : ∃ w1, w1 = w.alloc (.cells #[.int .i64 0, .int .i64 0, .string ⟨#[]⟩, .slice none 0 0] 38) := ⟨_, rfl⟩
 have HB1 := Lib.hid (show Below w.heap.size w w1 by rw [hw1]; exact below_new w _)
 have HL1 := Lib.hid (show Lies w1 w.heap.size 38 #[.int .i64 0, .int .i64 0, .string ⟨#[]⟩, .slice none 0 0] by rw [hw1]; exact Lies.new w _ _)
 have HW := Lib.hid hw1
 have HLK := Lib.hid hlk
 have HLS := Lib.hid hls
 have HR := Lib.hid hF.run
 have HL := Lib.hid hl
 clear hw1 hlk hls hl
 go_enter Tryz.func108, Tryz.ntmps108
 go_wp2_with fail
 rw [← HW.out]
 refine (operators_any w1).mono ?_
 rintro e w2 ⟨rfl, hm, hb2⟩
 have l2 := HL1.out.later hb2
 have HM := Lib.hid hm
 have HB2 := Lib.hid (HB1.out.trans (hb2.mono HB1.out.size))
 have HL2 := Lib.hid l2
 clear hm hb2 l2
 go_wp2_with (at_lookup; refine wpList_lookup_smap _ rfl (.tmp 11) (.tmp 12) 229 rfl rfl HM.out Tryz.underlying229 Tryz.underlying9 (hzo _) nm rfl ?_; rw [HLK.out, HLS.out])
 refine (HR.out w2).mono ?_
 rintro e w3 ⟨rfl, hb3⟩
 have l3 := HL2.out.later hb3
 have z0 := l3.cell 0
 have z1 := l3.cell 1
 have z2 := l3.cell 2
 have z3 := l3.cell 3
 have f0 := l3.free 0
 have f1 := l3.free 1
 have f2 := l3.free 2
 have f3 := l3.free 3
 have HST := Lib.hid ((((l3.set 0 (.int .i64 k)).set 1 (.int .i64 n)).set 2 (.string ⟨#[]⟩)).set 3 (.slice none 0 0))
 have HB3 := Lib.hid (HB2.out.trans (hb3.mono HB2.out.size))
 clear l3 hb3
 unfold numV
 go_wp2
 exact bodyPost_ret (results_row_tmp rfl _ _ w.heap.size 38 _ (0, 0) _ rfl HST.out Tryz.underlying38 rfl info_val) rfl ⟨rfl, (((HB3.out.setCell (p := ⟨w.heap.size, 0, none⟩) (Nat.le_refl _) _).setCell (p := ⟨w.heap.size, 1, none⟩) (Nat.le_refl _) _).setCell (p := ⟨w.heap.size, 2, none⟩) (Nat.le_refl _) _).setCell (p := ⟨w.heap.size, 3, none⟩) (Nat.le_refl _) _⟩
set_option maxRecDepth 100000 in
set_option maxHeartbeats 2000000 in
theorem op_no (nm : Str) (a b : Int) (hl : look nm opsL = none) (w : World) :
  Calls Tryz.prog 108 #[.string (ba nm), .int .i64 a, .int .i64 b] w (OpEnd w 0 0 false) := by
 have hzo := fun w => zero_oper w
 have hlk : (look nm opsL).getD .nilFunc = .nilFunc := by rw [hl]; rfl
 have hls : (look nm opsL).isSome = false := by rw [hl]; rfl
 obtain ⟨w1, hw1⟩ : ∃ w1, w1 = w.alloc (.cells #[.int .i64 0, .int .i64 0, .string ⟨#[]⟩, .slice none 0 0] 38) := ⟨_, rfl⟩
 have HB1 := Lib.hid (show Below w.heap.size w w1 by rw [hw1]; exact below_new w _)
 have HL1 := Lib.hid (show Lies w1 w.heap.size 38 #[.int .i64 0, .int .i64 0, .string ⟨#[]⟩, .slice none 0 0] by rw [hw1]; exact Lies.new w _ _)
 have HW := Lib.hid hw1
 have HLK := Lib.hid hlk
 have HLS := Lib.hid hls
 clear hw1 hlk hls hl
 go_enter Tryz.func108, Tryz.ntmps108
 go_wp2_with fail
 rw [← HW.out]
 refine (operators_any w1).mono ?_
 rintro e w2 ⟨rfl, hm, hb2⟩
 have l2 := HL1.out.later hb2
 have z0 := l2.cell 0
 have z1 := l2.cell 1
 have z2 := l2.cell 2
 have z3 := l2.cell 3
 have f0 := l2.free 0
 have f1 := l2.free 1
 have f2 := l2.free 2
 have f3 := l2.free 3
 have HM := Lib.hid hm
 have HB2 := Lib.hid (HB1.out.trans (hb2.mono HB1.out.size))
 have HST := Lib.hid ((((l2.set 0 (.int .i64 0)).set 1 (.int .i64 0)).set 2 (.string ⟨#[]⟩)).set 3 (.slice none 0 0))
 clear hm hb2 l2
 go_wp2_with (at_lookup; refine wpList_lookup_smap _ rfl (.tmp 11) (.tmp 12) 229 rfl rfl HM.out Tryz.underlying229 Tryz.underlying9 (hzo _) nm rfl ?_; rw [HLK.out, HLS.out])
 exact bodyPost_ret (results_row_tmp rfl _ _ w.heap.size 38 _ (0, 0) _ rfl HST.out Tryz.underlying38 rfl info_val) rfl ⟨rfl, (((HB2.out.setCell (p := ⟨w.heap.size, 0, none⟩) (Nat.le_refl _) _).setCell (p := ⟨w.heap.size, 1, none⟩) (Nat.le_refl _) _).setCell (p := ⟨w.heap.size, 2, none⟩) (Nat.le_refl _) _).setCell (p := ⟨w.heap.size, 3, none⟩) (Nat.le_refl _) _⟩
def opR (nm : Str) (a b : Int) : Int × Int × Bool :=
 if nm = [43] then (1, wrap64 (a + b), true) else if nm = [45] then (1, wrap64 (a - b), true) else if nm = [42] then (1, wrap64 (a * b), true)
 else if nm = [47] then (if b = 0 then (0, 0, false) else (1, wrap64 (a.tdiv b), true)) else if nm = [60] then (2, truN (decide (a < b)), true) else if nm = [61] then (2, truN (a == b), true) else (0, 0, false)
theorem op_any (nm : Str) (a b : Int) (w : World) : Calls Tryz.prog 108 #[.string (ba nm), .int .i64 a, .int .i64 b] w (OpEnd w (opR nm a b).1 (opR nm a b).2.1 (opR nm a b).2.2) := by
 unfold opR
 by_cases h1 : nm = [43]
 ·subst h1
  exact op_yes _ _ a b _ _ _ rfl ⟨fun args w => by go_simp, fun w => oper1_any a b w⟩ w
 rw [if_neg h1]
 by_cases h2 : nm = [45]
 ·subst h2
  exact op_yes _ _ a b _ _ _ rfl ⟨fun args w => by go_simp, fun w => oper2_any a b w⟩ w
 rw [if_neg h2]
 by_cases h3 : nm = [42]
 ·subst h3
  exact op_yes _ _ a b _ _ _ rfl ⟨fun args w => by go_simp, fun w => oper3_any a b w⟩ w
 rw [if_neg h3]
 by_cases h4 : nm = [47]
 ·subst h4
  by_cases hb : b = 0
  ·subst hb
   exact op_yes _ _ a 0 _ _ _ rfl ⟨fun args w => by go_simp, fun w => oper4_zero a w⟩ w
  ·rw [if_pos rfl, if_neg hb]
   exact op_yes _ _ a b _ _ _ rfl ⟨fun args w => by go_simp, fun w => oper4_any a b w hb⟩ w
 rw [if_neg h4]
 by_cases h5 : nm = [60]
 ·subst h5
  exact op_yes _ _ a b _ _ _ rfl ⟨fun args w => by go_simp, fun w => oper5_any a b w⟩ w
 rw [if_neg h5]
 by_cases h6 : nm = [61]
 ·subst h6
  exact op_yes _ _ a b _ _ _ rfl ⟨fun args w => by go_simp, fun w => oper6_any a b w⟩ w
 rw [if_neg h6]
 exact op_no nm a b (by simp [look, opsL, h1, h2, h3, h4, h5, h6]) w
end Go.Proofs.YtmodmojocclmaaaGreatDoor.K

/- The machine of package source, in plain words; no program stands here. -/
namespace Go.Proofs.YtmodmojocclmaaaGreatDoor.K
namespace So

inductive Tm where
 | mk (k : Int) (nm pm : Str) (n : Int) (kids : List Tm) (arms : List (Str × List Str × Tm))
abbrev Arm := Str × List Str × Tm
def Tm.k : Tm → Int | .mk k _ _ _ _ _ => k
def Tm.nm : Tm → Str | .mk _ n _ _ _ _ => n
def Tm.pm : Tm → Str | .mk _ _ p _ _ _ => p
def Tm.n : Tm → Int | .mk _ _ _ n _ _ => n
def Tm.kids : Tm → List Tm | .mk _ _ _ _ l _ => l
def Tm.arms : Tm → List Arm | .mk _ _ _ _ _ l => l
def Tm.zero : Tm := .mk 0 [] [] 0 [] []

mutual
inductive Val where
 | lit (k n : Int)
 | con (nm : Str) (kids : List Val)
 | clo (own param : Str) (body : Tm) (env : List (Str × Val))
 | res (parts : List (List Frame × List Arm × List (Str × Val)))
inductive Frame where
 | arg (t : Tm) (e : List (Str × Val))
 | fn (v : Val)
 | name (nm : Str) (t : Tm) (e : List (Str × Val))
 | choice (y n : Tm) (e : List (Str × Val))
 | mat (arms : List Arm) (e : List (Str × Val))
 | ask (op : Str)
 | gath (t : Tm) (e : List (Str × Val)) (done : List Val)
end
abbrev Env := List (Str × Val)
abbrev Hd := List Arm × Env
abbrev Part := List Frame × List Arm × Env

structure St where
 at_ : Option (Tm × Env)
 val : Val
 above : List Frame
 hs : List (Hd × List Frame)
 cells : List Val
 input : List Int
 trace : List Int
 out : Int
 steps : Nat
 konts : Nat

def find (nm : Str) : Env → Option Val
 | [] => none
 | (x, v) :: e => if x = nm then some v else find nm e
def argc (nm : Str) : Option Nat :=
 if nm = [114, 101, 97, 100] then some 0
 else if nm = [112, 114, 105, 110, 116] then some 1 else if nm = [114, 101, 102] then some 1 else if nm = [33] then some 1
 else if nm = [43] then some 2 else if nm = [45] then some 2 else if nm = [42] then some 2 else if nm = [47] then some 2 else if nm = [60] then some 2 else if nm = [61] then some 2 else if nm = [58, 61] then some 2
 else none
def hdOk (arms : List Arm) : Bool := match arms with | (_, _ :: _, _) :: _ => true | _ => false
def complete (t : Tm) : Bool :=
 if t.k = 1 ∨ t.k = 2 ∨ t.k = 3 ∨ t.k = 4 ∨ t.k = 11 then true
 else if t.k = 5 ∨ t.k = 12 ∨ t.k = 13 then decide (1 ≤ t.kids.length)
 else if t.k = 6 ∨ t.k = 7 ∨ t.k = 8 then decide (2 ≤ t.kids.length)
 else if t.k = 9 then decide (3 ≤ t.kids.length)
 else if t.k = 10 then decide (argc t.nm = some t.kids.length)
 else if t.k = 14 then decide (1 ≤ t.kids.length) && hdOk t.arms
 else false
def kid (t : Tm) (i : Nat) : Tm := t.kids.getD i .zero

def St.goes (s : St) (t : Tm) (e : Env) : St := { s with at_ := some (t, e) }
def St.has (s : St) (v : Val) : St := { s with at_ := none, val := v }
def St.ends (s : St) (o : Int) : St := { s with out := o }
def St.push (s : St) (f : Frame) : St := { s with above := f :: s.above }
def St.encl (s : St) (h : Hd) : St := { s with above := [], hs := (h, s.above) :: s.hs }

def unitV : Val := .lit 3 0
def kV : Val → Int
 | .lit k _ => k
 | .con _ _ => 4
 | .clo _ _ _ _ => 6
 | .res _ => 6
def nV : Val → Int
 | .lit _ n => n
 | _ => 0
def operate (op : Str) (l : List Val) (s : St) : St :=
 if op = [114, 101, 97, 100] then (match s.input with | [] => s.ends 3 | n :: r => { s.has (.lit 1 n) with input := r })
 else if op = [112, 114, 105, 110, 116] then (match l with | [v] => if kV v = 1 then { s.has unitV with trace := s.trace ++ [nV v] } else s.ends 4 | _ => s.ends 4)
 else if op = [114, 101, 102] then (match l with | [v] => { s.has (.lit 5 (s.cells.length : Int)) with cells := s.cells ++ [v] } | _ => s.ends 4)
 else if op = [33] then (match l with | [v] => if kV v = 5 then s.has (s.cells.getD (nV v).toNat unitV) else s.ends 4 | _ => s.ends 4)
 else if op = [58, 61] then (match l with | [r, v] => if kV r = 5 then { s.has unitV with cells := s.cells.set (nV r).toNat v } else s.ends 4 | _ => s.ends 4)
 else (match l with | [a, b] => if kV a = 1 ∧ kV b = 1 then (if (opR op (nV a) (nV b)).2.2 then s.has (.lit (opR op (nV a) (nV b)).1 (opR op (nV a) (nV b)).2.1) else s.ends 2) else s.ends 4 | _ => s.ends 4)
def gather (t : Tm) (e : Env) (done : List Val) (s : St) : St :=
 if done.length < t.kids.length then (s.push (.gath t e done)).goes (kid t done.length) e
 else if t.k = 11 then s.has (.con t.nm done.reverse)
 else operate t.nm done.reverse s
def enter (t : Tm) (e : Env) (s : St) : St :=
 if complete t = false then s.ends 4
 else if t.k = 1 then (match find t.nm e with | some v => s.has v | none => s.ends 4)
 else if t.k = 2 then s.has (.lit 1 t.n)
 else if t.k = 3 then s.has (.lit 2 (t.n % 2))
 else if t.k = 4 then s.has unitV
 else if t.k = 5 then s.has (.clo [] t.nm (kid t 0) e)
 else if t.k = 8 then s.goes (kid t 1) ((t.nm, .clo t.nm t.pm (kid t 0) e) :: e)
 else if t.k = 10 ∨ t.k = 11 then gather t e [] s
 else if t.k = 14 then (s.encl (t.arms, e)).goes (kid t 0) e
 else if t.k = 6 then (s.push (.arg (kid t 1) e)).goes (kid t 0) e
 else if t.k = 7 then (s.push (.name t.nm (kid t 1) e)).goes (kid t 0) e
 else if t.k = 9 then (s.push (.choice (kid t 1) (kid t 2) e)).goes (kid t 0) e
 else if t.k = 12 then (s.push (.mat t.arms e)).goes (kid t 0) e
 else (s.push (.ask t.nm)).goes (kid t 0) e

def binds (e : Env) : List Str → List Val → Env
 | x :: xs, v :: vs => binds ((x, v) :: e) xs vs
 | _, _ => e
def armFor (nm : Str) (n : Nat) : List Arm → Option Arm
 | [] => none
 | a :: r => if a.1 = nm ∧ a.2.1.length = n then some a else armFor nm n r
def clause (op : Str) (arms : List Arm) : Option Arm := armFor op 2 arms.tail
def cut (op : Str) (ab : List Frame) : List (Hd × List Frame) → List Part → Option (List Part × Hd × Arm × List Frame × List (Hd × List Frame))
 | [], _ => none
 | (h, be) :: hs, acc => match clause op h.1 with
  | some c => some (acc ++ [(ab, h)], h, c, be, hs)
  | none => cut op be hs (acc ++ [(ab, h)])
def put : List Part → List Frame → List (Hd × List Frame) → List Frame × List (Hd × List Frame)
 | [], ab, hs => (ab, hs)
 | (a, h) :: r, ab, hs => (a, (h, (put r ab hs).1) :: (put r ab hs).2)
def callV (f v : Val) (s : St) : St := match f with
 | .clo own param body e => s.goes body ((param, v) :: (if own = [] then e else (own, .clo own param body e) :: e))
 | .res parts => { s.has v with above := (put parts s.above s.hs).1, hs := (put parts s.above s.hs).2 }
 | _ => s.ends 4
def nmD (l : List Str) (i : Nat) : Str := l.getD i []
def take (f : Frame) (v : Val) (s : St) : St := match f with
 | .arg t e => (s.push (.fn v)).goes t e
 | .fn f => callV f v s
 | .name nm t e => s.goes t ((nm, v) :: e)
 | .choice y n e => if kV v = 2 then (if nV v = 1 then s.goes y e else s.goes n e) else s.ends 4
 | .mat arms e => (match v with
  | .con nm kids => (match armFor nm kids.length arms with | some a => s.goes a.2.2 (binds e a.2.1 kids) | none => s.ends 4)
  | _ => s.ends 4)
 | .ask op => (match cut op s.above s.hs [] with
  | none => s.ends 4
  | some (ps, h, c, be, hs) => { (s.goes c.2.2 ((nmD c.2.1 1, .res ps) :: (nmD c.2.1 0, v) :: h.2)) with above := be, hs := hs, konts := s.konts + 1 })
 | .gath t e done => gather t e (v :: done) s
def takeH (h : Hd) (v : Val) (s : St) : St := match h.1 with
 | (_, x :: _, b) :: _ => s.goes b ((x, v) :: h.2)
 | _ => s.ends 4
def body (s : St) : St := match s.at_ with
 | some (t, e) => enter t e s
 | none => match s.above with
  | f :: r => take f s.val { s with above := r }
  | [] => match s.hs with
   | (h, be) :: r => takeH h s.val { s with above := be, hs := r }
   | [] => s
def fin (s : St) : St := if s.out = 0 ∧ s.at_.isNone ∧ s.above.isEmpty ∧ s.hs.isEmpty then { s with out := 1 } else s
def step (s : St) : St := fin (body { s with steps := s.steps + 1 })
def run : Nat → St → St
 | 0, s => s
 | n + 1, s => if s.out = 0 then run n (step s) else s
def start (t : Tm) (input : List Int) : St := ⟨some (t, []), unitV, [], [], [], input, [], 0, 0, 0⟩

inductive Vt where
 | mk (k n : Int) (nm : Str) (kids : List Vt)
mutual

def whole : Val → Vt
 | .lit k n => .mk k n [] []
 | .con nm kids => .mk 4 0 nm (wholeL kids)
 | .clo _ _ _ _ => .mk 6 0 [] []
 | .res _ => .mk 6 0 [] []
def wholeL : List Val → List Vt
 | [] => []
 | v :: r => whole v :: wholeL r
end
def alone : Val → Vt
 | .lit k n => .mk k n [] []
 | .con nm _ => .mk 4 0 nm []
 | .clo _ _ _ _ => .mk 6 0 [] []
 | .res _ => .mk 6 0 [] []
mutual
def pcs (most : Int) : Val → Int
 | .con _ kids => pcsL most 1 kids
 | _ => 1
def pcsL (most count : Int) : List Val → Int
 | [] => count
 | v :: r => if most < count then count else pcsL most (count + pcs (most - count) v) r
end
def told (v : Val) : Vt := if 10000 < pcs 10000 v then alone v else whole v

theorem kid_get {t : Tm} {i : Nat} (h : i < t.kids.length) : t.kids[i]? = some (kid t i) := by
 unfold kid
 rw [List.getD_eq_getElem?_getD, List.getElem?_eq_getElem h]
 rfl
end So
end Go.Proofs.YtmodmojocclmaaaGreatDoor.K

/- The machine of package source: how what nobody writes to lies in memory. -/
namespace Go.Proofs.YtmodmojocclmaaaGreatDoor.K
open Go Go.RowKit
namespace So

abbrev Mem := Nat → Option Obj
def Sub (H : Mem) (w : World) : Prop := ∀ b o, H b = some o → w.heap[b]? = some o
def MLe (H H' : Mem) : Prop := ∀ b o, H b = some o → H' b = some o
theorem MLe.refl (H : Mem) : MLe H H := fun _ _ h => h
theorem MLe.trans {A B C : Mem} (h : MLe A B) (k : MLe B C) : MLe A C := fun b o hb => k b o (h b o hb)
def HC (H : Mem) (a : Addr) (v : Value) : Prop := ∃ o, H a.block = some o ∧ ∀ w : World, w.heap[a.block]? = some o → w.cell? a = some v
theorem HC.cell {H : Mem} {a : Addr} {v : Value} (h : HC H a v) {w : World} (hs : Sub H w) : w.cell? a = some v := by
 obtain ⟨o, h1, h2⟩ := h
 exact h2 w (hs _ _ h1)
theorem HC.le {H H' : Mem} (k : MLe H H') {a : Addr} {v : Value} (h : HC H a v) : HC H' a v := by
 obtain ⟨o, h1, h2⟩ := h
 exact ⟨o, k _ _ h1, h2⟩
theorem HC.of {w : World} {a : Addr} {v : Value} (h : w.cell? a = some v) : HC (fun b => w.heap[b]?) a v := by
 have hb := World.block_lt_of_cell? w a h
 refine ⟨_, Array.getElem?_eq_getElem hb, fun w' h' => ?_⟩
 rw [← h]
 exact World.cell?_of_block (h'.trans (Array.getElem?_eq_getElem hb).symm)
def HR (H : Mem) (b o : Nat) (l : List Value) : Prop := ∀ i u, l[i]? = some u → HC H ⟨b, o + i, none⟩ u
theorem HR.le {H H' : Mem} (k : MLe H H') {b o : Nat} {l : List Value} (h : HR H b o l) : HR H' b o l := fun i u hu => (h i u hu).le k
def ins (H : Mem) (n : Nat) (o : Obj) : Mem := fun b => if b = n then some o else H b
theorem ins_le {H : Mem} {n : Nat} (o : Obj) (hn : H n = none) : MLe H (ins H n o) := fun b x hb => by
 unfold ins
 by_cases h : b = n
 ·subst h; rw [hn] at hb; cases hb
 ·rw [if_neg h]; exact hb
theorem ins_same (H : Mem) (n : Nat) (o : Obj) : ins H n o n = some o := if_pos rfl
theorem ins_row (H : Mem) (n : Nat) (t : TypeId) (l : List Value) : HR (ins H n (.cells l.toArray t)) n 0 l := fun i u hu => by
 refine ⟨_, ins_same H n _, fun w hw => ?_⟩
 have h : Lies w n t l.toArray := hw
 have h2 := h.cell i
 rw [Nat.zero_add, h2]
 simpa using hu

def Sl (v : Value) (n : Nat) : Prop := ∃ A c, v = .slice A n c ∧ n ≤ c ∧ n ≤ 2000000 ∧ (0 < n → ∃ g o, A = some ⟨g, o, none⟩)
def blk : Value → Nat | .slice (some a) _ _ => a.block | _ => 0
def off : Value → Nat | .slice (some a) _ _ => a.off | _ => 0
def StrsH (H : Mem) (v : Value) (ls : List Str) : Prop := Sl v ls.length ∧ ∀ (i : Nat) s, ls[i]? = some s → HC H ⟨blk v, off v + i, none⟩ (.string (ba s))
def tmL (k : Int) (av : Value) (nm pm : Str) (n : Int) (kv rv : Value) (rest : List Value) : List Value := [.int .i64 k, av, .string (ba nm), .string (ba pm), .int .i64 n, kv, rv] ++ rest
inductive TmA (H : Mem) : Nat → Nat → Tm → Prop
 | mk (b o : Nat) (k : Int) (nm pm : Str) (n : Int) (kids : List Tm) (arms : List Arm) (av kv rv : Value) (rest : List Value) (vs : Nat → Value)
   (hr : HR H b o (tmL k av nm pm n kv rv rest)) (hl : rest.length = 14) (ho : ∀ u ∈ av :: rest, u.oneCell' = true) (hk : Sl kv kids.length) (ha : Sl rv arms.length)
   (hks : ∀ (i : Nat) t, kids[i]? = some t → TmA H (blk kv) (off kv + i * 21) t)
   (har : ∀ (i : Nat) x, arms[i]? = some x → HC H ⟨blk rv, off rv + i * 23, none⟩ (.string (ba x.1)) ∧ HC H ⟨blk rv, off rv + i * 23 + 1, none⟩ (vs i) ∧ StrsH H (vs i) x.2.1)
   (hab : ∀ (i : Nat) x, arms[i]? = some x → TmA H (blk rv) (off rv + i * 23 + 2) x.2.2) : TmA H b o (.mk k nm pm n kids arms)
def ArmsA (H : Mem) (arms : List Arm) (rv : Value) : Prop := Sl rv arms.length ∧ ∀ (i : Nat) x, arms[i]? = some x → ∃ vv, HC H ⟨blk rv, off rv + i * 23, none⟩ (.string (ba x.1)) ∧ HC H ⟨blk rv, off rv + i * 23 + 1, none⟩ vv ∧ StrsH H vv x.2.1 ∧ TmA H (blk rv) (off rv + i * 23 + 2) x.2.2
theorem TmA.open {H : Mem} {b o : Nat} {t : Tm} (h : TmA H b o t) : ∃ av kv rv rest, HR H b o (tmL t.k av t.nm t.pm t.n kv rv rest) ∧ Sl kv t.kids.length ∧ (∀ (i : Nat) x, t.kids[i]? = some x → TmA H (blk kv) (off kv + i * 21) x) ∧ ArmsA H t.arms rv := by
 cases h with
 | mk _ _ k nm pm n kids arms av kv rv rest vs hr hl ho hk ha hks har hab => exact ⟨av, kv, rv, rest, hr, hk, hks, ha, fun i x hx => ⟨vs i, (har i x hx).1, (har i x hx).2.1, (har i x hx).2.2, hab i x hx⟩⟩
theorem StrsH.le {H H' : Mem} (k : MLe H H') {v : Value} {ls : List Str} (h : StrsH H v ls) : StrsH H' v ls := ⟨h.1, fun i s hs => (h.2 i s hs).le k⟩
theorem TmA.le {H H' : Mem} (hk : MLe H H') {b o : Nat} {t : Tm} (h : TmA H b o t) : TmA H' b o t := by
 induction h with
 | mk b o k nm pm n kids arms av kv rv rest vs hr hl ho hsk hsa hks har hab ih1 ih2 =>
  exact .mk b o k nm pm n kids arms av kv rv rest vs (hr.le hk) hl ho hsk hsa ih1 (fun i x hx => ⟨(har i x hx).1.le hk, (har i x hx).2.1.le hk, (har i x hx).2.2.le hk⟩) ih2
theorem ArmsA.le {H H' : Mem} (hk : MLe H H') {arms : List Arm} {rv : Value} (h : ArmsA H arms rv) : ArmsA H' arms rv := ⟨h.1, fun i x hx => by
 obtain ⟨vv, h1, h2, h3, h4⟩ := h.2 i x hx
 exact ⟨vv, h1.le hk, h2.le hk, h3.le hk, h4.le hk⟩⟩

def pt (b : Nat) : Value := .pointer (some ⟨b, 0, none⟩)
def ptO (b o : Nat) : Value := .pointer (some ⟨b, o, none⟩)
def litL (k n : Int) : List Value := [.int .i64 k, .int .i64 n, .pointer none, .nilIface]
mutual
inductive VV (H : Mem) (N : Nat) : Val → List Value → Prop
 | lit (k n : Int) (h : k = 1 ∨ k = 2 ∨ k = 3 ∨ (k = 5 ∧ 0 ≤ n ∧ n < N)) : VV H N (.lit k n) (litL k n)
 | con (nm : Str) (kids : List Val) (b : Nat) (kv : Value) (ls : Nat → List Value) (hr : HR H b 0 [.string (ba nm), kv]) (hs : Sl kv kids.length)
   (hv : ∀ (i : Nat) v, kids[i]? = some v → VV H N v (ls i)) (hl : ∀ i, i < kids.length → HR H (blk kv) (off kv + i * 4) (ls i)) : VV H N (.con nm kids) [.int .i64 4, .int .i64 0, pt b, .nilIface]
 | clo (own param : Str) (body : Tm) (env : List (Str × Val)) (b tb to : Nat) (ev : Value) (hr : HR H b 0 [.string (ba own), .string (ba param), ptO tb to, ev]) (ht : TmA H tb to body) (he : EV H N env ev) :
   VV H N (.clo own param body env) [.int .i64 6, .int .i64 0, .pointer none, .iface 104 (pt b)]
 | res (parts : List (List Frame × List Arm × List (Str × Val))) (sv : Value) (av hv : Nat → Value) (hs : Sl sv parts.length) (hl : ∀ i, i < parts.length → HR H (blk sv) (off sv + i * 2) [av i, hv i])
   (hf : ∀ (i : Nat) p, parts[i]? = some p → FsV H N p.1 (av i)) (hh : ∀ (i : Nat) p, parts[i]? = some p → HdV H N p.2.1 p.2.2 (hv i)) :
   VV H N (.res parts) [.int .i64 6, .int .i64 0, .pointer none, .iface 292 sv]
inductive EV (H : Mem) (N : Nat) : List (Str × Val) → Value → Prop
 | nil : EV H N [] (.pointer none)
 | cons (nm : Str) (v : Val) (e : List (Str × Val)) (b : Nat) (l : List Value) (ov : Value) (hr : HR H b 0 (.string (ba nm) :: (l ++ [ov]))) (hv : VV H N v l) (he : EV H N e ov) : EV H N ((nm, v) :: e) (pt b)
inductive FV (H : Mem) (N : Nat) : Frame → Value → Prop
 | arg (t : Tm) (e : List (Str × Val)) (b tb to : Nat) (ev : Value) (hr : HR H b 0 [ptO tb to, ev]) (ht : TmA H tb to t) (he : EV H N e ev) : FV H N (.arg t e) (.iface 157 (pt b))
 | fn (v : Val) (b : Nat) (l : List Value) (hr : HR H b 0 l) (hv : VV H N v l) : FV H N (.fn v) (.iface 288 (pt b))
 | name (nm : Str) (t : Tm) (e : List (Str × Val)) (b tb to : Nat) (ev : Value) (hr : HR H b 0 [.string (ba nm), ptO tb to, ev]) (ht : TmA H tb to t) (he : EV H N e ev) : FV H N (.name nm t e) (.iface 160 (pt b))
 | choice (y n : Tm) (e : List (Str × Val)) (b tb to ub uo : Nat) (ev : Value) (hr : HR H b 0 [ptO tb to, ptO ub uo, ev]) (ht : TmA H tb to y) (hu : TmA H ub uo n) (he : EV H N e ev) : FV H N (.choice y n e) (.iface 163 (pt b))
 | mat (arms : List Arm) (e : List (Str × Val)) (b : Nat) (rv ev : Value) (hr : HR H b 0 [rv, ev]) (ha : ArmsA H arms rv) (he : EV H N e ev) : FV H N (.mat arms e) (.iface 166 (pt b))
 | ask (op : Str) (b : Nat) (hr : HR H b 0 [.string (ba op)]) : FV H N (.ask op) (.iface 168 (pt b))
 | gath (t : Tm) (e : List (Str × Val)) (done : List Val) (b tb to : Nat) (ev lv : Value) (hr : HR H b 0 [ptO tb to, ev, .int .i64 (done.length : Int), lv]) (ht : TmA H tb to t) (he : EV H N e ev) (hd : RV H N done lv)
   (hk : t.k = 11 ∨ (t.k = 10 ∧ argc t.nm = some t.kids.length)) (hl : done.length < t.kids.length) : FV H N (.gath t e done) (.iface 110 (pt b))
inductive RV (H : Mem) (N : Nat) : List Val → Value → Prop
 | nil : RV H N [] (.pointer none)
 | cons (v : Val) (r : List Val) (b : Nat) (l : List Value) (ov : Value) (hr : HR H b 0 (l ++ [ov])) (hv : VV H N v l) (ht : RV H N r ov) : RV H N (v :: r) (pt b)
inductive FsV (H : Mem) (N : Nat) : List Frame → Value → Prop
 | nil : FsV H N [] (.pointer none)
 | cons (f : Frame) (r : List Frame) (b : Nat) (fv ov : Value) (hr : HR H b 0 [fv, ov]) (hf : FV H N f fv) (ht : FsV H N r ov) : FsV H N (f :: r) (pt b)
inductive HdV (H : Mem) (N : Nat) : List Arm → List (Str × Val) → Value → Prop
 | mk (arms : List Arm) (e : List (Str × Val)) (b : Nat) (rv ev : Value) (hr : HR H b 0 [rv, ev]) (ha : ArmsA H arms rv) (ho : hdOk arms = true) (he : EV H N e ev) : HdV H N arms e (pt b)
end
inductive HsV (H : Mem) (N : Nat) : List (Hd × List Frame) → Value → Prop
 | nil : HsV H N [] (.pointer none)
 | cons (h : Hd) (fs : List Frame) (r : List (Hd × List Frame)) (b : Nat) (hv fv ov : Value) (hr : HR H b 0 [hv, fv, ov]) (hh : HdV H N h.1 h.2 hv) (hf : FsV H N fs fv) (ht : HsV H N r ov) : HsV H N ((h, fs) :: r) (pt b)

section
variable {H H' : Mem} {N N' : Nat}
theorem all_le (hk : MLe H H') (hN : N ≤ N') :
  (∀ v l, VV H N v l → VV H' N' v l) ∧ (∀ e x, EV H N e x → EV H' N' e x) ∧ (∀ f x, FV H N f x → FV H' N' f x) ∧ (∀ r x, RV H N r x → RV H' N' r x) ∧ (∀ fs x, FsV H N fs x → FsV H' N' fs x) ∧ (∀ a e x, HdV H N a e x → HdV H' N' a e x) := by
 refine ⟨fun v l h => ?_, fun v l h => ?_, fun v l h => ?_, fun v l h => ?_, fun v l h => ?_, fun a e x h => ?_⟩
 all_goals
  refine h.rec (motive_1 := fun v l _ => VV H' N' v l) (motive_2 := fun e x _ => EV H' N' e x) (motive_3 := fun f x _ => FV H' N' f x) (motive_4 := fun r x _ => RV H' N' r x) (motive_5 := fun fs x _ => FsV H' N' fs x) (motive_6 := fun a e x _ => HdV H' N' a e x) ?_ ?_ ?_ ?_ ?_ ?_ ?_ ?_ ?_ ?_ ?_ ?_ ?_ ?_ ?_ ?_ ?_ ?_
  ·intro k n h
   exact .lit k n (h.imp id fun h => h.imp id fun h => h.imp id fun h => ⟨h.1, h.2.1, by omega⟩)
  ·intro nm kids b kv ls hr hs hv hl ih
   exact .con nm kids b kv ls (hr.le hk) hs ih (fun i hi => (hl i hi).le hk)
  ·intro own param body env b tb to ev hr ht he ih
   exact .clo own param body env b tb to ev (hr.le hk) (ht.le hk) ih
  ·intro parts sv av hv hs hl hf hh ih1 ih2
   exact .res parts sv av hv hs (fun i hi => (hl i hi).le hk) ih1 ih2
  ·exact .nil
  ·intro nm v e b l ov hr hv he ih1 ih2
   exact .cons nm v e b l ov (hr.le hk) ih1 ih2
  ·intro t e b tb to ev hr ht he ih
   exact .arg t e b tb to ev (hr.le hk) (ht.le hk) ih
  ·intro v b l hr hv ih
   exact .fn v b l (hr.le hk) ih
  ·intro nm t e b tb to ev hr ht he ih
   exact .name nm t e b tb to ev (hr.le hk) (ht.le hk) ih
  ·intro y n e b tb to ub uo ev hr ht hu he ih
   exact .choice y n e b tb to ub uo ev (hr.le hk) (ht.le hk) (hu.le hk) ih
  ·intro arms e b rv ev hr ha he ih
   exact .mat arms e b rv ev (hr.le hk) (ha.le hk) ih
  ·intro op b hr
   exact .ask op b (hr.le hk)
  ·intro t e done b tb to ev lv hr ht he hd hk' hl ih1 ih2
   exact .gath t e done b tb to ev lv (hr.le hk) (ht.le hk) ih1 ih2 hk' hl
  ·exact .nil
  ·intro v r b l ov hr hv ht ih1 ih2
   exact .cons v r b l ov (hr.le hk) ih1 ih2
  ·exact .nil
  ·intro f r b fv ov hr hf ht ih1 ih2
   exact .cons f r b fv ov (hr.le hk) ih1 ih2
  ·intro arms e b rv ev hr ha ho he ih
   exact .mk arms e b rv ev (hr.le hk) (ha.le hk) ho ih
theorem VV.le (hk : MLe H H') (hN : N ≤ N') {v : Val} {l : List Value} (h : VV H N v l) : VV H' N' v l := (all_le hk hN).1 v l h
theorem EV.le (hk : MLe H H') (hN : N ≤ N') {e : Env} {x : Value} (h : EV H N e x) : EV H' N' e x := (all_le hk hN).2.1 e x h
theorem FV.le (hk : MLe H H') (hN : N ≤ N') {f : Frame} {x : Value} (h : FV H N f x) : FV H' N' f x := (all_le hk hN).2.2.1 f x h
theorem RV.le (hk : MLe H H') (hN : N ≤ N') {r : List Val} {x : Value} (h : RV H N r x) : RV H' N' r x := (all_le hk hN).2.2.2.1 r x h
theorem FsV.le (hk : MLe H H') (hN : N ≤ N') {r : List Frame} {x : Value} (h : FsV H N r x) : FsV H' N' r x := (all_le hk hN).2.2.2.2.1 r x h
theorem HdV.le (hk : MLe H H') (hN : N ≤ N') {a : List Arm} {e : Env} {x : Value} (h : HdV H N a e x) : HdV H' N' a e x := (all_le hk hN).2.2.2.2.2 a e x h
theorem HsV.le (hk : MLe H H') (hN : N ≤ N') {r : List (Hd × List Frame)} {x : Value} (h : HsV H N r x) : HsV H' N' r x := by
 induction h with
 | nil => exact .nil
 | cons h fs r b hv fv ov hr hh hf _ ih => exact .cons h fs r b hv fv ov (hr.le hk) (hh.le hk hN) (hf.le hk hN) ih
def IfV (f : Value) : Prop := f = .nilIface ∨ ∃ t x, f = .iface t x
theorem VV.four {v : Val} {l : List Value} (h : VV H N v l) : ∃ k n c f, l = [.int .i64 k, .int .i64 n, .pointer c, f] ∧ IfV f := by
 cases h
 ·exact ⟨_, _, _, _, rfl, .inl rfl⟩
 ·exact ⟨_, _, _, _, rfl, .inl rfl⟩
 ·exact ⟨_, _, _, _, rfl, .inr ⟨_, _, rfl⟩⟩
 ·exact ⟨_, _, _, _, rfl, .inr ⟨_, _, rfl⟩⟩
end
end So
end Go.Proofs.YtmodmojocclmaaaGreatDoor.K

/- The machine of package source: how it lies in memory. -/
namespace Go.Proofs.YtmodmojocclmaaaGreatDoor.K
open Go Go.RowKit
namespace So

def AtV (H : Mem) (N : Nat) (a : Option (Tm × Env)) (v : Val) (tv ev : Value) (l : List Value) : Prop :=
 match a with
 | some (t, e) => (∃ b o, tv = ptO b o ∧ TmA H b o t) ∧ EV H N e ev ∧ l.length = 4 ∧ ∀ u ∈ l, u.oneCell' = true
 | none => tv = .pointer none ∧ VV H N v l
def InV (H : Mem) (v : Value) (l : List Int) : Prop := Sl v l.length ∧ ∀ (i : Nat) n, l[i]? = some n → HC H ⟨blk v, off v + i, none⟩ (.int .i64 n)
theorem InV.le {H H' : Mem} (k : MLe H H') {v : Value} {l : List Int} (h : InV H v l) : InV H' v l := ⟨h.1, fun i n hi => (h.2 i n hi).le k⟩
def CsV (H : Mem) (lo : Nat) (w : World) (v : Value) (l : List Val) : Prop :=
 (∃ ls : List (List Value), ls.length = l.length ∧ w.ownsRow lo 68 4 v l.length ls.flatten ∧ ∀ (i : Nat) x u, l[i]? = some x → ls[i]? = some u → VV H l.length x u) ∧ ∀ b, v.ownBlock = some b → H b = none
def TrV (H : Mem) (lo : Nat) (w : World) (v : Value) (l : List Int) : Prop :=
 w.ownsRow lo 3 1 v l.length (l.map (Value.int .i64 ·)) ∧ ∀ b, v.ownBlock = some b → H b = none
structure Core (w0 : World) (mb : Nat) (H : Mem) (cv lv : Value) (cells : List Val) (trace : List Int) (w : World) : Prop where
 os : w.os = w0.os
 tape : w.tape = w0.tape
 output : w.output = w0.output
 base : w0.heap.size ≤ mb
 sub : Sub H w
 dom : ∀ b o, H b = some o → b < w.heap.size
 old : ∀ b, b < w0.heap.size → H b = w0.heap[b]?
 free : H mb = none
 cs : CsV H (mb + 1) w cv cells
 ts : TrV H (mb + 1) w lv trace
 ne : ∀ b, cv.ownBlock = some b → lv.ownBlock ≠ some b
def mC (tv ev v0 v1 v2 v3 fv hv cv iv lv : Value) (out : Int) (st ko : Nat) : Array Value := #[tv, ev, v0, v1, v2, v3, fv, hv, cv, iv, lv, .int .i64 out, .int .i64 (st : Int), .int .i64 (ko : Int)]
structure MR (w0 : World) (mb : Nat) (H : Mem) (s : St) (tv ev v0 v1 v2 v3 fv hv cv iv lv : Value) (w : World) : Prop where
 core : Core w0 mb H cv lv s.cells s.trace w
 lies : Lies w mb 75 (mC tv ev v0 v1 v2 v3 fv hv cv iv lv s.out s.steps s.konts)
 at_ : AtV H s.cells.length s.at_ s.val tv ev [v0, v1, v2, v3]
 above : FsV H s.cells.length s.above fv
 hs : HsV H s.cells.length s.hs hv
 input : InV H iv s.input
def MS (w0 : World) (mb : Nat) (H : Mem) (s : St) (w : World) : Prop := ∃ tv ev v0 v1 v2 v3 fv hv cv iv lv, MR w0 mb H s tv ev v0 v1 v2 v3 fv hv cv iv lv w
def MEnd (w0 : World) (mb : Nat) (H : Mem) (s : St) (e : Ending) (w' : World) : Prop := e = .returned (.tuple #[]) ∧ ∃ H', MLe H H' ∧ MS w0 mb H' s w'

section
variable {w0 : World} {mb : Nat} {H : Mem} {cv lv : Value} {cells : List Val} {trace : List Int} {w : World}
theorem Core.fresh (h : Core w0 mb H cv lv cells trace w) : H w.heap.size = none := by
 cases hq : H w.heap.size with
 | none => rfl
 | some o => exact absurd (h.dom _ _ hq) (by omega)
theorem Core.grow (h : Core w0 mb H cv lv cells trace w) (o : Obj) : MLe H (ins H w.heap.size o) := ins_le o h.fresh
theorem own_lt {lo n sz : Nat} {e : TypeId} {v : Value} {xs : List Value} (h : w.ownsRow lo e sz v n xs) {b : Nat} (hb : v.ownBlock = some b) : lo ≤ b ∧ b < w.heap.size := own_block h b hb
theorem Core.alloc (h : Core w0 mb H cv lv cells trace w) (hm : mb < w.heap.size) (o : Obj) : Core w0 mb (ins H w.heap.size o) cv lv cells trace (w.alloc o) := by
 have hle := h.grow o
 have hb : ∀ g, g < w.heap.size → (w.alloc o).heap[g]? = w.heap[g]? := fun g hg => Below.heap_alloc w o g hg
 have hz : (w.alloc o).heap.size = w.heap.size + 1 := by simp
 refine ⟨h.os, h.tape, h.output, h.base, fun b x hx => ?_, fun b x hx => ?_, fun b hb' => ?_, ?_, ?_, ?_, h.ne⟩
 ·unfold ins at hx
  by_cases he : b = w.heap.size
  ·subst he; rw [if_pos rfl] at hx; rw [← hx]; exact heap_alloc_new w o
  ·rw [if_neg he] at hx; exact (hb b (h.dom _ _ hx)).trans (h.sub _ _ hx)
 ·unfold ins at hx
  by_cases he : b = w.heap.size
  ·omega
  ·rw [if_neg he] at hx; have := h.dom _ _ hx; omega
 ·have := h.base
  unfold ins
  rw [if_neg (by omega)]
  exact h.old b hb'
 ·unfold ins; rw [if_neg (by omega)]; exact h.free
 ·obtain ⟨⟨ls, h1, h2, h3⟩, h4⟩ := h.cs
  refine ⟨⟨ls, h1, own_same h2 fun g _ hg => hb g hg, fun i x u hx hu => (h3 i x u hx hu).le hle (Nat.le_refl _)⟩, fun b hb' => ?_⟩
  have := (own_lt h2 hb').2
  unfold ins; rw [if_neg (by omega)]; exact h4 b hb'
 ·obtain ⟨h2, h4⟩ := h.ts
  refine ⟨own_same h2 fun g _ hg => hb g hg, fun b hb' => ?_⟩
  have := (own_lt h2 hb').2
  unfold ins; rw [if_neg (by omega)]; exact h4 b hb'
theorem Core.set (h : Core w0 mb H cv lv cells trace w) (i : Nat) (v : Value) : Core w0 mb H cv lv cells trace (w.setCell ⟨mb, i, none⟩ v) := by
 have hb : ∀ g, g ≠ mb → (w.setCell ⟨mb, i, none⟩ v).heap[g]? = w.heap[g]? := fun g hg => Below.heap_setCell w _ v g hg
 refine ⟨h.os, h.tape, h.output, h.base, fun b x hx => (hb b fun e => ?_).trans (h.sub b x hx), fun b x hx => by simpa using h.dom b x hx, h.old, h.free, ?_, ?_, h.ne⟩
 ·rw [e, h.free] at hx; cases hx
 ·obtain ⟨⟨ls, h1, h2, h3⟩, h4⟩ := h.cs
  exact ⟨⟨ls, h1, own_same h2 fun g hg _ => hb g (by omega), h3⟩, h4⟩
 ·exact ⟨own_same h.ts.1 fun g hg _ => hb g (by omega), h.ts.2⟩
theorem Core.drew (h : Core w0 mb H cv lv cells trace w) : Core w0 mb H cv lv cells trace w.drew := ⟨h.os, h.tape, h.output, h.base, h.sub, h.dom, h.old, h.free, h.cs, h.ts, h.ne⟩
theorem Core.below (h : Core w0 mb H cv lv cells trace w) (hs : w0.heap.size ≤ w.heap.size) : Below w0.heap.size w0 w := ⟨h.os, h.tape, h.output, hs, fun b hb => by
 have := h.old b hb
 rw [Array.getElem?_eq_getElem hb] at this
 rw [h.sub b _ this, Array.getElem?_eq_getElem hb]⟩
theorem Core.later (h : Core w0 mb H cv lv cells trace w) {w' : World} (hb : Below w.heap.size w w') : Core w0 mb H cv lv cells trace w' := by
 refine ⟨hb.os.trans h.os, hb.tape.trans h.tape, hb.output.trans h.output, h.base, fun b x hx => (hb.block b (h.dom _ _ hx)).trans (h.sub b x hx), fun b x hx => Nat.lt_of_lt_of_le (h.dom b x hx) hb.size, h.old, h.free, ?_, ?_, h.ne⟩
 ·obtain ⟨⟨ls, h1, h2, h3⟩, h4⟩ := h.cs
  exact ⟨⟨ls, h1, own_later h2 hb, h3⟩, h4⟩
 ·exact ⟨own_later h.ts.1 hb, h.ts.2⟩
end
end So
end Go.Proofs.YtmodmojocclmaaaGreatDoor.K
