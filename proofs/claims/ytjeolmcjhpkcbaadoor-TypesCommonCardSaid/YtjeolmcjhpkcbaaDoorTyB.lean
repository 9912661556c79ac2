/- Whether a place is met for the first time. -/
import Derived.Test.YtjeolmcjhpkcbaaDoorTyA
import Derived.Outline
namespace Go.Proofs.YtjeolmcjhpkcbaaDoor
open Go.RowKit

def addU (M : List Addr) (d : Addr) : List Addr := if d ∈ M then M else M ++ [d]
def ptrV (a : Addr) : Value := .pointer (some a)
theorem mem_addU {M : List Addr} {d x : Addr} : x ∈ addU M d ↔ x ∈ M ∨ x = d := by
  unfold addU
  split
  · constructor
    · exact .inl
    · rintro (h | rfl) <;> assumption
  · simp
theorem mem_addUs {x : Addr} : ∀ (l M : List Addr), x ∈ l.foldl addU M ↔ x ∈ M ∨ x ∈ l
  | [], M => by simp
  | d :: l, M => by
    rw [List.foldl_cons, mem_addUs l, mem_addU]
    simp [or_assoc]
theorem sub_addUs : ∀ (l M : List Addr), (l.foldl addU M).Sublist (M ++ l)
  | [], M => by simp
  | d :: l, M => by
    rw [List.foldl_cons]
    refine (sub_addUs l (addU M d)).trans ?_
    unfold addU
    split
    · exact List.Sublist.append (List.Sublist.refl _) (List.sublist_cons_self _ _)
    · rw [List.append_assoc]; exact List.Sublist.refl _
theorem len_addUs (l M : List Addr) : (l.foldl addU M).length ≤ M.length + l.length := by
  have := (sub_addUs l M).length_le
  simpa using this
theorem zero_unit (w : World) : (zeroValue 95).run Tryd.prog w = .ok (.agg #[]) w := by go_simp
theorem info_ptr : (Tryd.prog.info? 59).map (fun i => (i.zero, i.size, i.bytes)) = some (some (.pointer none), 1, 8) := by kernel_rfl
theorem info_ty : (Tryd.prog.info? 27).map (fun i => i.size) = some 6 := by kernel_rfl
theorem size_type : ∃ inf, Tryd.prog.info? 27 = some inf ∧ inf.size ≠ 0 := by
  have h := info_ty
  cases hq : Tryd.prog.info? 27 with
  | none => rw [hq] at h; cases h
  | some ie =>
    rw [hq] at h
    simp only [Option.map_some, Option.some.injEq] at h
    exact ⟨ie, rfl, by omega⟩
/-- The set of places in a block. -/
def Sn (w : World) (b : Nat) (M : List Addr) : Prop := PtrSet w (.agg #[]) b M ∧ ∀ x ∈ M, AtCells w x
theorem Sn.lt {w : World} {b : Nat} {M : List Addr} (h : Sn w b M) : b < w.heap.size := h.1.lt
theorem Sn.keep {w w' : World} {b : Nat} {M : List Addr} (h : Sn w b M) (hk : ∀ g, g < w.heap.size → w'.heap[g]? = w.heap[g]?) : Sn w' b M :=
  ⟨h.1.keep (hk _ h.1.lt), fun x hx => (h.2 x hx).keep (hk _ (h.2 x hx).lt)⟩
theorem Sn.made (w : World) : Sn (w.alloc (.map #[] 0)) w.heap.size [] := ⟨PtrSet.made w _, fun x hx => by cases hx⟩
/-- Nothing but a block has turned. -/
structure Bt (b : Nat) (w w' : World) : Prop where
  os : w'.os = w.os
  tape : w'.tape = w.tape
  output : w'.output = w.output
  size : w.heap.size ≤ w'.heap.size
  block : ∀ i, i < w.heap.size → i ≠ b → w'.heap[i]? = w.heap[i]?
theorem Bt.refl (b : Nat) (w : World) : Bt b w w := ⟨rfl, rfl, rfl, Nat.le_refl _, fun _ _ _ => rfl⟩
theorem Bt.trans {b : Nat} {A B C : World} (h : Bt b A B) (k : Bt b B C) : Bt b A C :=
  ⟨k.os.trans h.os, k.tape.trans h.tape, k.output.trans h.output, Nat.le_trans h.size k.size, fun i h1 h2 => (k.block i (Nat.lt_of_lt_of_le h1 h.size) h2).trans (h.block i h1 h2)⟩
theorem Bt.of_below {b : Nat} {w w' : World} (h : Below w.heap.size w w') : Bt b w w' := ⟨h.os, h.tape, h.output, h.size, fun i hi _ => h.block i hi⟩
theorem Bt.of_grown {b : Nat} {w w' : World} (h : w.grownBy w' (some b)) : Bt b w w' := ⟨h.os, h.tape, h.output, h.size, fun i hi hn => h.block i hi (fun e => hn (by injection e))⟩
theorem Bt.below {b B : Nat} {w w' : World} (h : Bt b w w') (hb : B ≤ b) (hB : B ≤ w.heap.size) : Below B w w' := ⟨h.os, h.tape, h.output, h.size, fun i hi => h.block i (by omega) (by omega)⟩
theorem Bt.atc {b : Nat} {w w' : World} (h : Bt b w w') (hm : ∃ es c, w.heap[b]? = some (.map es c)) {a : Addr} (ha : AtCells w a) : AtCells w' a := by
  refine ha.keep (h.block _ ha.lt fun e => ?_)
  obtain ⟨c, t, hc⟩ := ha
  obtain ⟨es, k, hm⟩ := hm
  rw [e, hm] at hc
  cases hc

set_option maxRecDepth 100000 in
set_option maxHeartbeats 2000000 in
/-- first: a place goes into the set; was it not there? -/
theorem first_any (w : World) (b : Nat) (M : List Addr) (d : Addr) (hs : Sn w b M) (hd : AtCells w d) :
    Calls Tryd.prog 50 #[.map (some b), .pointer (some d)] w fun e w' => e = .returned (.bool (decide (d ∉ M))) ∧ Sn w' b (addU M d) ∧ Bt b w w' := by
  obtain ⟨inf, hinf, hsz⟩ := size_type
  obtain ⟨h3, hM'⟩ := hs
  have hzu := zero_unit w
  have hb := below_new w (.cells #[] 95)
  by_cases hm : d ∈ M
  · have hdec : decide (d ∈ M) = true := decide_eq_true hm
    go_enter Tryd.func50, Tryd.ntmps50
    go_wp2_with (first | (at_lookup; refine wpList_lookup_ptr _ rfl (.tmp 8) (.tmp 9) 55 rfl rfl h3 Tryd.underlying55 Tryd.underlying59 hinf hsz hzu d rfl hd hM' ?_; rw [hdec]))
    go_ret
    unfold addU
    rw [if_pos hm]
    exact ⟨ret_bool (by simp [hm]), Sn.keep ⟨h3, hM'⟩ hb.block, .of_below hb⟩
  · have hdec : decide (d ∈ M) = false := decide_eq_false hm
    have h3b := h3.keep (hb.block b h3.lt)
    have hd2 : AtCells (w.alloc (.cells #[] 95)) d := hd.keep (hb.block _ hd.lt)
    have hM2 : ∀ x ∈ M, AtCells (w.alloc (.cells #[] 95)) x := fun x hx => (hM' x hx).keep (hb.block _ (hM' x hx).lt)
    go_enter Tryd.func50, Tryd.ntmps50
    go_wp2_with (first | (at_lookup; refine wpList_lookup_ptr _ rfl (.tmp 8) (.tmp 9) 55 rfl rfl h3 Tryd.underlying55 Tryd.underlying59 hinf hsz hzu d rfl hd hM' ?_; rw [hdec]) | (at_mapUpdate; go_loud (refine wpList_update_ptr _ rfl (.tmp 14) (.tmp 15) (.tmp 16) 55 rfl rfl h3b Tryd.underlying55 Tryd.underlying59 hinf hsz d rfl rfl hd2 hM2 hm ?_); intro w1 hs1 hg1))
    go_ret
    unfold addU
    rw [if_neg hm]
    have hbt : Bt b w w1 := (Bt.of_below hb).trans (.of_grown hg1)
    obtain ⟨es, clock, hmb, _⟩ := h3
    refine ⟨ret_bool (by simp [hm]), ⟨hs1, fun x hx => ?_⟩, hbt⟩
    rcases List.mem_append.1 hx with hx | hx
    · exact hbt.atc ⟨_, _, hmb⟩ (hM' x hx)
    · rw [List.mem_singleton.1 hx]
      exact hbt.atc ⟨_, _, hmb⟩ hd
end Go.Proofs.YtjeolmcjhpkcbaaDoor
