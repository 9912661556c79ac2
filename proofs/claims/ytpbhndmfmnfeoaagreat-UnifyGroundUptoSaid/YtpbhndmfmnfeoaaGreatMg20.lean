/- Whether a place is met for the first time. -/
import Derived.Test.YtpbhndmfmnfeoaaGreatMg00
import Derived.Outline
namespace Go.Proofs.YtpbhndmfmnfeoaaGreat
open Go.RowKit

def addU (M : List Addr) (d : Addr) : List Addr := if d ∈ M then M else M ++ [d]
def ptrV (a : Addr) : Value := .pointer (some a)
theorem mem_addU {M : List Addr} {d x : Addr} : x ∈ addU M d ↔ x ∈ M ∨ x = d := by
  unfold addU
  split
  · constructor
    · exact .inl
    · rintro (h | rfl) <;> assumption
  · simp
theorem mem_addUs {x : Addr} : ∀ (l M : List Addr), x ∈ l.foldl addU M ↔ x ∈ M ∨ x ∈ l
  | [], M => by simp
  | d :: l, M => by
    rw [List.foldl_cons, mem_addUs l, mem_addU]
    simp [or_assoc]
theorem sub_addUs : ∀ (l M : List Addr), (l.foldl addU M).Sublist (M ++ l)
  | [], M => by simp
  | d :: l, M => by
    rw [List.foldl_cons]
    refine (sub_addUs l (addU M d)).trans ?_
    unfold addU
    split
    · exact List.Sublist.append (List.Sublist.refl _) (List.sublist_cons_self _ _)
    · rw [List.append_assoc]; exact List.Sublist.refl _
theorem len_addUs (l M : List Addr) : (l.foldl addU M).length ≤ M.length + l.length := by
  have := (sub_addUs l M).length_le
  simpa using this
theorem zero_unit (w : World) : (zeroValue 167).run Tryz.prog w = .ok (.agg #[]) w := by go_simp
theorem info_ptr : (Tryz.prog.info? 94).map (fun i => (i.zero, i.size, i.bytes)) = some (some (.pointer none), 1, 8) := by kernel_rfl
theorem info_ty : (Tryz.prog.info? 44).map (fun i => i.size) = some 6 := by kernel_rfl
theorem size_type : ∃ inf, Tryz.prog.info? 44 = some inf ∧ inf.size ≠ 0 := by
  have h := info_ty
  cases hq : Tryz.prog.info? 44 with
  | none => rw [hq] at h; cases h
  | some ie =>
    rw [hq] at h
    simp only [Option.map_some, Option.some.injEq] at h
    exact ⟨ie, rfl, by omega⟩
/-- The set of places in a block. -/
def Sn (w : World) (b : Nat) (M : List Addr) : Prop := PtrSet w (.agg #[]) b M ∧ ∀ x ∈ M, AtCells w x
theorem Sn.lt {w : World} {b : Nat} {M : List Addr} (h : Sn w b M) : b < w.heap.size := h.1.lt
theorem Sn.keep {w w' : World} {b : Nat} {M : List Addr} (h : Sn w b M) (hk : ∀ g, g < w.heap.size → w'.heap[g]? = w.heap[g]?) : Sn w' b M :=
  ⟨h.1.keep (hk _ h.1.lt), fun x hx => (h.2 x hx).keep (hk _ (h.2 x hx).lt)⟩
theorem Sn.made (w : World) : Sn (w.alloc (.map #[] 0)) w.heap.size [] := ⟨PtrSet.made w _, fun x hx => by cases hx⟩
/-- Nothing but a block has turned. -/
structure Bt (b : Nat) (w w' : World) : Prop where
  os : w'.os = w.os
  tape : w'.tape = w.tape
  output : w'.output = w.output
  size : w.heap.size ≤ w'.heap.size
  block : ∀ i, i < w.heap.size → i ≠ b → w'.heap[i]? = w.heap[i]?
theorem Bt.refl (b : Nat) (w : World) : Bt b w w := ⟨rfl, rfl, rfl, Nat.le_refl _, fun _ _ _ => rfl⟩
theorem Bt.trans {b : Nat} {A B C : World} (h : Bt b A B) (k : Bt b B C) : Bt b A C :=
  ⟨k.os.trans h.os, k.tape.trans h.tape, k.output.trans h.output, Nat.le_trans h.size k.size, fun i h1 h2 => (k.block i (Nat.lt_of_lt_of_le h1 h.size) h2).trans (h.block i h1 h2)⟩
theorem Bt.of_below {b : Nat} {w w' : World} (h : Below w.heap.size w w') : Bt b w w' := ⟨h.os, h.tape, h.output, h.size, fun i hi _ => h.block i hi⟩
theorem Bt.of_grown {b : Nat} {w w' : World} (h : w.grownBy w' (some b)) : Bt b w w' := ⟨h.os, h.tape, h.output, h.size, fun i hi hn => h.block i hi (fun e => hn (by injection e))⟩
theorem Bt.below {b B : Nat} {w w' : World} (h : Bt b w w') (hb : B ≤ b) (hB : B ≤ w.heap.size) : Below B w w' := ⟨h.os, h.tape, h.output, h.size, fun i hi => h.block i (by omega) (by omega)⟩
theorem Bt.atc {b : Nat} {w w' : World} (h : Bt b w w') (hm : ∃ es c, w.heap[b]? = some (.map es c)) {a : Addr} (ha : AtCells w a) : AtCells w' a := by
  refine ha.keep (h.block _ ha.lt fun e => ?_)
  obtain ⟨c, t, hc⟩ := ha
  obtain ⟨es, k, hm⟩ := hm
  rw [e, hm] at hc
  cases hc

set_option maxRecDepth 100000 in
set_option maxHeartbeats 2000000 in
/-- first: a place goes into the set; was it not there? -/
theorem first_any (w : World) (b : Nat) (M : List Addr) (d : Addr) (hs : Sn w b M) (hd : AtCells w d) :
    Calls Tryz.prog 87 #[.map (some b), .pointer (some d)] w fun e w' => e = .returned (.bool (decide (d ∉ M))) ∧ Sn w' b (addU M d) ∧ Bt b w w' := by
  obtain ⟨inf, hinf, hsz⟩ := size_type
  obtain ⟨h3, hM'⟩ := hs
  have hzu := zero_unit w
  have hb := below_new w (.cells #[] 167)
  by_cases hm : d ∈ M
  · have hdec : decide (d ∈ M) = true := decide_eq_true hm
    go_enter Tryz.func87, Tryz.ntmps87
    go_wp2_with (first | (at_lookup; refine wpList_lookup_ptr _ rfl (.tmp 8) (.tmp 9) 116 rfl rfl h3 Tryz.underlying116 Tryz.underlying94 hinf hsz hzu d rfl hd hM' ?_; rw [hdec]))
    go_ret
    unfold addU
    rw [if_pos hm]
    exact ⟨ret_bool (by simp [hm]), Sn.keep ⟨h3, hM'⟩ hb.block, .of_below hb⟩
  · have hdec : decide (d ∈ M) = false := decide_eq_false hm
    have h3b := h3.keep (hb.block b h3.lt)
    have hd2 : AtCells (w.alloc (.cells #[] 167)) d := hd.keep (hb.block _ hd.lt)
    have hM2 : ∀ x ∈ M, AtCells (w.alloc (.cells #[] 167)) x := fun x hx => (hM' x hx).keep (hb.block _ (hM' x hx).lt)
    go_enter Tryz.func87, Tryz.ntmps87
    go_wp2_with (first | (at_lookup; refine wpList_lookup_ptr _ rfl (.tmp 8) (.tmp 9) 116 rfl rfl h3 Tryz.underlying116 Tryz.underlying94 hinf hsz hzu d rfl hd hM' ?_; rw [hdec]) | (at_mapUpdate; go_loud (refine wpList_update_ptr _ rfl (.tmp 14) (.tmp 15) (.tmp 16) 116 rfl rfl h3b Tryz.underlying116 Tryz.underlying94 hinf hsz d rfl rfl hd2 hM2 hm ?_); intro w1 hs1 hg1))
    go_ret
    unfold addU
    rw [if_neg hm]
    have hbt : Bt b w w1 := (Bt.of_below hb).trans (.of_grown hg1)
    obtain ⟨es, clock, hmb, _⟩ := h3
    refine ⟨ret_bool (by simp [hm]), ⟨hs1, fun x hx => ?_⟩, hbt⟩
    rcases List.mem_append.1 hx with hx | hx
    · exact hbt.atc ⟨_, _, hmb⟩ (hM' x hx)
    · rw [List.mem_singleton.1 hx]
      exact hbt.atc ⟨_, _, hmb⟩ hd
end Go.Proofs.YtpbhndmfmnfeoaaGreat

/- Maps of the call's own whose keys are ints. -/
namespace Go.Proofs.YtpbhndmfmnfeoaaGreat
open Go Go.MapKept Go.ChangeMaps Go.RowKit

/-- The map in block b has just these entries, in the order in which they came. -/
def IMap (w : World) (b : Nat) (L : List (Int × Value)) : Prop :=
  ∃ es clock, w.heap[b]? = some (.map es clock) ∧ es.toList.map (fun e => (e.key, e.val)) = L.map (fun p => (Value.int .i64 p.1, p.2))
theorem IMap.lt {w : World} {b : Nat} {L : List (Int × Value)} (h : IMap w b L) : b < w.heap.size := by
  obtain ⟨es, clock, hb, _⟩ := h
  exact (Array.getElem?_eq_some_iff.1 hb).1
theorem IMap.keep {w w' : World} {b : Nat} {L : List (Int × Value)} (h : IMap w b L) (hk : w'.heap[b]? = w.heap[b]?) : IMap w' b L := by
  obtain ⟨es, clock, hb, he⟩ := h
  exact ⟨es, clock, hk.trans hb, he⟩
theorem IMap.made (w : World) : IMap (w.alloc (.map #[] 0)) w.heap.size [] := ⟨#[], 0, (MapKept.heap_alloc w _).1, rfl⟩
def look (k : Int) : List (Int × Value) → Option Value
  | [] => none
  | p :: L => if k = p.1 then some p.2 else look k L
theorem findNow_int (k : Int) : ∀ (es : List MapEntry) (L : List (Int × Value)) (i : Nat), es.map (fun e => (e.key, e.val)) = L.map (fun p => (Value.int .i64 p.1, p.2)) →
    ∃ r, Instr.findNow (.int .i64) (.int .i64 k) es i = some r ∧ ((∃ v j, look k L = some v ∧ r = some (j, v)) ∨ (look k L = none ∧ r = none))
  | [], [], i, _ => ⟨none, rfl, .inr ⟨rfl, rfl⟩⟩
  | [], _ :: _, i, h => by simp at h
  | _ :: _, [], i, h => by simp at h
  | e :: es, p :: L, i, h => by
    simp only [List.map_cons, List.cons.injEq, Prod.mk.injEq] at h
    obtain ⟨⟨h1, h2⟩, h3⟩ := h
    by_cases hx : k = p.1
    · refine ⟨some (i, p.2), ?_, .inl ⟨p.2, i, by simp [look, hx], rfl⟩⟩
      simp [Instr.findNow, Instr.sameNow, h1, h2, hx]
    · obtain ⟨r, hr, hc⟩ := findNow_int k es L (i + 1) h3
      refine ⟨r, ?_, ?_⟩
      · rw [Instr.findNow, h1, show Instr.sameNow (.int .i64) (.int .i64 k) (.int .i64 p.1) = some false by simp [Instr.sameNow, hx]]
        exact hr
      · simpa [look, hx] using hc
section
variable {P : Program} {w : World} {kt mt et : TypeId}
theorem run_findKey_int (hk : P.underlying kt = some (.int .i64)) (k : Int) (es : List MapEntry) (L : List (Int × Value)) (h : es.map (fun e => (e.key, e.val)) = L.map (fun p => (Value.int .i64 p.1, p.2))) :
    ∃ r, (Instr.findKey kt (.int .i64 k) es).run P w = .ok r w ∧ ((∃ v j, look k L = some v ∧ r = some (j, v)) ∨ (look k L = none ∧ r = none)) := by
  obtain ⟨r, hr, hc⟩ := findNow_int k es L 0 h
  exact ⟨r, by simp [Instr.findKey, run_underlying hk, Result.andThen, hr], hc⟩
theorem IMap.lookup {b : Nat} {L : List (Int × Value)} {z : Value} (h : IMap w b L) (hm : P.underlying mt = some (.map kt et)) (hk : P.underlying kt = some (.int .i64)) (hz : (zeroValue et).run P w = .ok z w) (k : Int) :
    (Instr.lookup mt (.map (some b)) (.int .i64 k) true).run P w = .ok (.tuple #[(look k L).getD z, .bool (look k L).isSome]) w := by
  obtain ⟨es, clock, hb, he⟩ := h
  obtain ⟨r, hr, hc⟩ := run_findKey_int (w := w) hk k es.toList L he
  have hck : (Instr.checkKey es.isEmpty (9999 + 1) kt (.int .i64 k)).run P w = .ok () w := MapKept.run_checkKey hk (by first | trivial | exact .int _ _ | constructor) _ _
  rcases hc with ⟨v, j, hv, rfl⟩ | ⟨hv, rfl⟩
  · simp [Instr.lookup, run_underlying hm, MapKept.run_getObj_map hb, Result.andThen, hck, hr, hv]
  · simp [Instr.lookup, run_underlying hm, MapKept.run_getObj_map hb, Result.andThen, hck, hr, hv, hz]
theorem IMap.update {b : Nat} {L : List (Int × Value)} (h : IMap w b L) (hm : P.underlying mt = some (.map kt et)) (hk : P.underlying kt = some (.int .i64)) (k : Int) (v : Value) (hn : look k L = none) :
    ∃ w', (Instr.mapUpdate mt (.map (some b)) (.int .i64 k) v).run P w = .ok () w' ∧ IMap w' b (L ++ [(k, v)]) ∧ w.grownBy w' (some b) := by
  obtain ⟨es, clock, hb, he⟩ := h
  obtain ⟨r, hr, hc⟩ := run_findKey_int (w := w) hk k es.toList L he
  have hck : (Instr.checkKey es.isEmpty (9999 + 1) kt (.int .i64 k)).run P w = .ok () w := MapKept.run_checkKey hk (by first | trivial | exact .int _ _ | constructor) _ _
  have hck' : ∀ e : Bool, (Instr.checkKey e (9999 + 1) kt (.int .i64 k)).run P w = .ok () w := fun e => MapKept.run_checkKey hk (by first | trivial | exact .int _ _ | constructor) _ _
  rcases hc with ⟨u, j, hv, rfl⟩ | ⟨hv, rfl⟩
  · rw [hn] at hv; cases hv
  · refine ⟨setBlock w b (.map (es.push ⟨.int .i64 k, v, clock⟩) (clock + 1)), ?_, ⟨_, _, heap_setBlock_same hb _, ?_⟩, ⟨rfl, rfl, rfl, by simp [setBlock], fun i _ hi => heap_setBlock_other hb _ (fun e => hi (by rw [e]))⟩⟩
    · simp [Instr.mapUpdate, run_underlying hm, MapKept.run_getObj_map hb, hck', hr, MapKept.run_setObj_map _ hb, Result.andThen, setBlock]
    · simp [he]
end
theorem wpList_lookup_imap {P : Program} (w : World) {ops : Array Oper} {rest : List Oper} {o : Oper} {a : Act} {Q : Exit → Act → World → Prop}
    (hg : o.guard = none) (m x : Operand) (t : TypeId) (hop : o.op = Op.lookup t m x true) {kt et : TypeId} {z : Value} {b : Nat} {L : List (Int × Value)}
    (hm : a.eval m = .map (some b)) (h : IMap w b L) (hmt : P.underlying t = some (.map kt et)) (hk : P.underlying kt = some (.int .i64))
    (hz : (zeroValue et).run P w = .ok z w) (k : Int) (hx : a.eval x = .int .i64 k)
    (hK : wpList P ops Q rest (a.put o.dst (.tuple #[(look k L).getD z, .bool (look k L).isSome])) w) :
    wpList P ops Q (o :: rest) a w := by
  refine wpList_plain hg fun K' hK' => ?_
  have hrun := h.lookup hmt hk hz k
  unfold Oper.wp
  simp [execOp, hop, hm, hx, hrun, Result.andThen]
  exact hK' _ _ hK
theorem wpList_update_imap {P : Program} (w : World) {ops : Array Oper} {rest : List Oper} {o : Oper} {a : Act} {Q : Exit → Act → World → Prop}
    (hg : o.guard = none) (m x v : Operand) (t : TypeId) (hop : o.op = Op.mapUpdate t m x v ∨ o.op = Op.insert t m x v) {kt et : TypeId} {b : Nat} {L : List (Int × Value)}
    (hm : a.eval m = .map (some b)) (h : IMap w b L) (hmt : P.underlying t = some (.map kt et)) (hk : P.underlying kt = some (.int .i64))
    (k : Int) (hx : a.eval x = .int .i64 k) (hn : look k L = none)
    (hK : ∀ w', IMap w' b (L ++ [(k, a.eval v)]) → w.grownBy w' (some b) → wpList P ops Q rest (a.put o.dst undef) w') :
    wpList P ops Q (o :: rest) a w := by
  refine wpList_plain hg fun K' hK' => ?_
  obtain ⟨w', hrun, r1, r2⟩ := h.update hmt hk k (a.eval v) hn
  unfold Oper.wp
  rcases hop with hop | hop <;>
  · simp [execOp, hop, hm, hx, hrun, Result.andThen]
    exact hK' _ _ (hK w' r1 r2)
end Go.Proofs.YtpbhndmfmnfeoaaGreat

/- How deep a type is, read off memory; the contract of what gathers what stands right below some types. -/
namespace Go.Proofs.YtpbhndmfmnfeoaaGreat
open Go.RowKit

def rowA : Value → List Addr
  | .slice (some a) n _ => (List.range n).map fun i => ⟨a.block, a.off + i * 6, none⟩
  | _ => []
/-- Where the types stand that stand right below the one at an address. -/
def kidsA (w : World) (a : Addr) : List Addr := rowA ((w.cell? ⟨a.block, a.off + 3, none⟩).getD undef)
def maxL : List Nat → Nat
  | [] => 0
  | x :: r => max x (maxL r)
def sumL : List Nat → Nat
  | [] => 0
  | x :: r => x + sumL r
def dA (w : World) : Nat → Addr → Nat
  | 0, _ => 0
  | n + 1, a => 1 + maxL ((kidsA w a).map (dA w n))
def nA (w : World) : Nat → Addr → Nat
  | 0, _ => 0
  | n + 1, a => 1 + sumL ((kidsA w a).map (nA w n))
theorem rowA_len {w : World} {v : Value} {n : Nat} (h : SlOk w v n) : (rowA v).length = n := by
  obtain ⟨A, c, rfl, _, _, h0⟩ := h
  rcases Nat.eq_zero_or_pos n with h1 | h1
  · subst h1; cases A <;> simp [rowA]
  · obtain ⟨g, o, rfl, _⟩ := h0 h1; simp [rowA]
theorem rowA_get {w : World} {v : Value} {n : Nat} (h : SlOk w v n) {i : Nat} (hi : i < n) : (rowA v)[i]? = some (kidAt v i) := by
  obtain ⟨A, c, rfl, _, _, h0⟩ := h
  obtain ⟨g, o, rfl, _⟩ := h0 (by omega)
  simp [rowA, kidAt, hi]
theorem kids_of {w : World} {a : Addr} {k : Int} {nm : Str} {v : Int} {kv lv : Value} {rv : Int} (hr : ReadsAt w a (tyC k nm v kv lv rv)) : kidsA w a = rowA kv := by
  unfold kidsA
  rw [hr 3 kv rfl]
  rfl
theorem kids_ta {w : World} {a : Addr} {t : Ty} (h : TA w a t) : (kidsA w a).length = t.kids.length ∧ ∀ (i : Nat) b, (kidsA w a)[i]? = some b → ∃ u, t.kids[i]? = some u ∧ TA w b u := by
  obtain ⟨k, nm, v, kids, ls, rv⟩ := t
  obtain ⟨kv, lv, _, _, hr, hk, _, hks⟩ := h.open
  have hl := rowA_len hk
  rw [kids_of hr]
  refine ⟨hl, fun i b hb => ?_⟩
  have hi : i < kids.length := by have := (List.getElem?_eq_some_iff.1 hb).1; omega
  rw [rowA_get hk hi] at hb
  injection hb with hb
  subst hb
  exact ⟨kids[i], List.getElem?_eq_getElem hi, hks i _ (List.getElem?_eq_getElem hi)⟩
theorem kidsA_keep {w w' : World} {a : Addr} (h : w'.heap[a.block]? = w.heap[a.block]?) : kidsA w' a = kidsA w a := by
  unfold kidsA
  rw [World.cell?_of_block (w := w) (a := ⟨a.block, a.off + 3, none⟩) h]
theorem max_kids {f : Addr → Nat} {n : Nat} : ∀ (ts : List Ty) (l : List Addr), l.length = ts.length → (∀ (i : Nat) a t, l[i]? = some a → ts[i]? = some t → f a = min n t.deep) → maxL (l.map f) = min n (Ty.deepL ts)
  | [], [], _, _ => by simp [maxL, Ty.deepL]
  | [], _ :: _, h, _ => by simp at h
  | _ :: _, [], h, _ => by simp at h
  | t :: ts, a :: l, h, H => by
    have h1 := max_kids ts l (by simpa using h) (fun i a t h1 h2 => H (i + 1) a t (by simpa using h1) (by simpa using h2))
    have h2 := H 0 a t rfl rfl
    simp only [List.map_cons, maxL, Ty.deepL, h1, h2]
    omega
theorem sum_kids {f : Addr → Nat} : ∀ (ts : List Ty) (l : List Addr), l.length = ts.length → (∀ (i : Nat) a t, l[i]? = some a → ts[i]? = some t → f a ≤ t.size) → sumL (l.map f) ≤ Ty.sizeL ts
  | [], [], _, _ => by simp [sumL, Ty.sizeL]
  | [], _ :: _, h, _ => by simp at h
  | _ :: _, [], h, _ => by simp at h
  | t :: ts, a :: l, h, H => by
    have h1 := sum_kids ts l (by simpa using h) (fun i a t h1 h2 => H (i + 1) a t (by simpa using h1) (by simpa using h2))
    have h2 := H 0 a t rfl rfl
    simp only [List.map_cons, sumL, Ty.sizeL]
    omega
theorem deep_ta {w : World} : ∀ (n : Nat) (a : Addr) (t : Ty), TA w a t → dA w n a = min n t.deep ∧ nA w n a ≤ t.size
  | 0, _, t, _ => by simp [dA, nA]
  | n + 1, a, t, h => by
    obtain ⟨hl, hk⟩ := kids_ta h
    have H : ∀ (i : Nat) b u, (kidsA w a)[i]? = some b → t.kids[i]? = some u → dA w n b = min n u.deep ∧ nA w n b ≤ u.size := by
      intro i b u h1 h2
      obtain ⟨u', h3, h4⟩ := hk i b h1
      rw [h2] at h3
      injection h3 with h3
      subst h3
      exact deep_ta n b u h4
    obtain ⟨k, nm, v, kids, ls, rv⟩ := t
    constructor
    · simp only [dA, Ty.deep]
      rw [max_kids kids _ hl (fun i b u h1 h2 => (H i b u h1 h2).1)]
      omega
    · simp only [nA, Ty.size]
      have := sum_kids (f := nA w n) kids _ hl (fun i b u h1 h2 => (H i b u h1 h2).2)
      omega
theorem maxL_append : ∀ a b, maxL (a ++ b) = max (maxL a) (maxL b)
  | [], b => by simp [maxL]
  | x :: a, b => by simp only [List.cons_append, maxL, maxL_append a b]; omega
theorem sumL_append : ∀ a b, sumL (a ++ b) = sumL a + sumL b
  | [], b => by simp [sumL]
  | x :: a, b => by simp only [List.cons_append, sumL, sumL_append a b]; omega

/-- A slice of pointers that reads as a list. -/
def Pl (w : World) (v : Value) (L : List Addr) : Prop :=
  ∃ A c, v = .slice A L.length c ∧ L.length ≤ c ∧ (0 < L.length → ∃ g o, A = some ⟨g, o, none⟩ ∧ g < w.heap.size ∧ ∀ (i : Nat) x, L[i]? = some x → w.cell? ⟨g, o + i, none⟩ = some (ptrV x))
theorem Pl.own {w : World} {B : Nat} {v : Value} {L : List Addr} (h : w.ownsRow B 94 1 v L.length (L.map ptrV)) : Pl w v L := by
  rcases own_cells h with ⟨rfl, h0⟩ | ⟨g, cap, rfl, hc, _, ⟨cs, t, hh⟩, hx⟩
  · exact ⟨none, 0, by rw [h0], by omega, fun h1 => by omega⟩
  · refine ⟨_, cap, rfl, hc, fun _ => ⟨g, 0, rfl, (Array.getElem?_eq_some_iff.1 hh).1, fun i x hi => ?_⟩⟩
    rw [Nat.zero_add]
    exact hx i _ (by rw [List.getElem?_map, hi]; rfl)
theorem Pl.lit (w : World) (t : TypeId) (L : List Addr) {N : Nat} (hN : w.heap.size = N) : Pl (w.alloc (.cells (L.map ptrV).toArray t)) (.slice (some ⟨N, 0, none⟩) L.length L.length) L := by
  subst hN
  refine ⟨_, _, rfl, Nat.le_refl _, fun _ => ⟨_, 0, rfl, by simp, fun i x hi => ?_⟩⟩
  have h := (Lies.new w t (L.map ptrV).toArray).cell (0 + i)
  rw [h]
  simp [hi]
/-- What lies right below the types of a list. -/
def nextA (w : World) (L : List Addr) : List Addr := (L.flatMap (kidsA w)).foldl addU []
/-- Where the gathering stands. -/
def BSt (w0 : World) (M : List Addr) (ov : Value) (W : World) : Prop :=
  Sn W w0.heap.size M ∧ W.ownsRow (w0.heap.size + 1) 94 1 ov M.length (M.map ptrV) ∧ Below w0.heap.size w0 W ∧ ∀ x ∈ M, AtCells w0 x
theorem slok_form {w : World} {v : Value} {n : Nat} (h : SlOk w v n) : ∃ A c, v = .slice A n c ∧ n ≤ c ∧ (rowA v).length = n ∧ ∀ j, j < n → ∃ g o, A = some ⟨g, o, none⟩ ∧ (rowA v)[j]? = some ⟨g, o + j * 6, none⟩ := by
  have hl := rowA_len h
  obtain ⟨A, c, rfl, h1, _, h0⟩ := h
  refine ⟨A, c, rfl, h1, hl, fun j hj => ?_⟩
  obtain ⟨g, o, rfl, _⟩ := h0 (by omega)
  exact ⟨g, o, rfl, by simp [rowA, hj]⟩

set_option maxRecDepth 100000 in
set_option maxHeartbeats 8000000 in
theorem below_any (w : World) (v : Value) (L : List Addr) (hv : Pl w v L) (hok : ∀ a ∈ L, ∃ t, TA w a t) (hn : (L.flatMap (kidsA w)).length ≤ 100000000) (hL : L.length ≤ 100000000) :
    Calls Tryz.prog 120 #[v] w fun e w' => ∃ v', e = .returned v' ∧ w'.ownsRow (w.heap.size + 1) 94 1 v' (nextA w L).length ((nextA w L).map ptrV) ∧ Below w.heap.size w w' := by
  obtain ⟨A, c, rfl, hc, hcell⟩ := hv
  have HC := Lib.hid hcell
  have HOK := Lib.hid hok
  obtain ⟨i0, hi, hz0, hz1, hz2⟩ := info_parts info_ptr
  have hst : BSt w [] (.slice none 0 0) (w.alloc (.map #[] 0)) := ⟨Sn.made w, World.ownsRow_nil _ _ _ _, below_new w _, fun x hx => by cases hx⟩
  have hmm := @run_makeMap Tryz.prog
  clear hcell hok
  go_enter Tryz.func120, Tryz.ntmps120
  go_wp2
  go_loopw [4, 11] (fun ov i wr => ∃ k : Nat, k ≤ L.length ∧ i = .int .i64 k ∧ BSt w (((L.take k).flatMap (kidsA w)).foldl addU []) ov wr) (fun _ i _ => L.length - (intOf i).toNat)
  case atStart => exact ⟨0, Nat.zero_le _, rfl, hst⟩
  case round =>
    obtain ⟨k, hk, rfl, hS⟩ := hrel
    clear hst
    by_cases hlt : k < L.length
    · obtain ⟨g, o, rfl, hg, hcl⟩ := HC.out (by omega)
      obtain ⟨a, ha⟩ : ∃ a, L[k]? = some a := ⟨_, List.getElem?_eq_getElem hlt⟩
      have ham : a ∈ L := List.mem_of_getElem? ha
      obtain ⟨t, hta⟩ := HOK.out a ham
      have hB := hS.2.2.1
      have ck := (hB.cell (p := ⟨g, o + k, none⟩) hg).trans (hcl k a ha)
      unfold ptrV at ck
      have hkt := kids_ta hta
      obtain ⟨k0, nm, v0, kids, ls, rv⟩ := t
      obtain ⟨kv, lv, hsp, hat, hr, hsl, _, _⟩ := hta.open
      obtain ⟨b, oa, sp⟩ := a
      have hsp' : sp = none := hsp
      subst hsp'
      have hbl : b < w.heap.size := hat.lt
      obtain ⟨_, _, _, e3, _, _⟩ := reads6 hr
      obtain ⟨A5, q5, rfl, hq5, hl5, hr5⟩ := slok_form hsl
      generalize hn5 : kids.length = n5 at *
      have hkA : kidsA w ⟨b, oa, none⟩ = rowA (.slice A5 n5 q5) := kids_of hr
      have hkc : k < c := by omega
      have htot : ((L.take k).flatMap (kidsA w)).length + n5 ≤ 100000000 := by
        have h1 : (L.take (k + 1)).flatMap (kidsA w) = (L.take k).flatMap (kidsA w) ++ rowA (.slice A5 n5 q5) := by
          rw [take_step L k _ ha, List.flatMap_append, ← hkA]
          simp
        have h2 : (L.flatMap (kidsA w)) = (L.take (k + 1)).flatMap (kidsA w) ++ (L.drop (k + 1)).flatMap (kidsA w) := by rw [← List.flatMap_append, List.take_append_drop]
        have h3 := congrArg List.length h1
        have h4 := congrArg List.length h2
        simp only [List.length_append, hl5] at h3 h4
        omega
      obtain ⟨M, hM⟩ : ∃ M, M = ((L.take k).flatMap (kidsA w)).foldl addU [] := ⟨_, rfl⟩
      rw [← hM] at hS
      have hMlen : M.length + n5 ≤ 100000000 := by
        have := len_addUs ((L.take k).flatMap (kidsA w)) []
        rw [← hM] at this
        simp only [List.length_nil] at this
        omega
      have hkat : ∀ x ∈ kidsA w ⟨b, oa, none⟩, AtCells w x := by
        intro x hx
        obtain ⟨i, hi⟩ := List.mem_iff_getElem?.1 hx
        obtain ⟨u, _, hu⟩ := hkt.2 i x hi
        exact hu.at_
      have hnext : ((L.take (k + 1)).flatMap (kidsA w)).foldl addU [] = (rowA (.slice A5 n5 q5)).foldl addU M := by
        rw [take_step L k _ ha, List.flatMap_append, List.foldl_append, ← hM]
        simp only [List.flatMap_cons, List.flatMap_nil, List.append_nil]
        rw [hkA]
      have HN := Lib.hid hnext
      have HKA := Lib.hid hkA
      have HR5 := Lib.hid hr5
      have HL5 := Lib.hid hl5
      have HKAT := Lib.hid hkat
      have HB := Lib.hid hB
      have E3 := Lib.hid e3
      have c3 : wr.cell? ⟨b, oa + 3, none⟩ = some (.slice A5 n5 q5) := (hB.cell (p := ⟨b, oa + 3, none⟩) hbl).trans e3
      clear hnext hkA hr5 hl5 hkat hM hcl htot ha e3 hkt hsl hr
      go_wp2
      go_loopw [4, 20] (fun ov i W => ∃ j : Nat, j ≤ n5 ∧ i = .int .i64 j ∧ BSt w (((rowA (.slice A5 n5 q5)).take j).foldl addU M) ov W) (fun _ i _ => n5 - (intOf i).toNat)
      case atStart => exact ⟨0, Nat.zero_le _, rfl, hS⟩
      case round =>
        obtain ⟨j, hj, rfl, hSj⟩ := hrel
        obtain ⟨hsn, hown, hBj, hMw⟩ := hSj
        by_cases hjn : j < n5
        · obtain ⟨g5, o5, hA5, hx5⟩ := HR5.out j hjn
          subst hA5
          have c3' : wr.cell? ⟨b, oa + 3, none⟩ = some (.slice (some ⟨g5, o5, none⟩) n5 q5) := (hBj.cell (p := ⟨b, oa + 3, none⟩) hbl).trans E3.out
          have hjq : j < q5 := by omega
          have hmem : (⟨g5, o5 + j * 6, none⟩ : Addr) ∈ kidsA w ⟨b, oa, none⟩ := by rw [HKA.out]; exact List.mem_of_getElem? hx5
          have hd := (HKAT.out _ hmem).keep (hBj.block _ (HKAT.out _ hmem).lt)
          obtain ⟨Mj, hMj⟩ : ∃ Mj, Mj = ((rowA (.slice (some ⟨g5, o5, none⟩) n5 q5)).take j).foldl addU M := ⟨_, rfl⟩
          rw [← hMj] at hsn hown hMw
          have hMw' : ∀ x ∈ addU Mj ⟨g5, o5 + j * 6, none⟩, AtCells w x := by
            intro x hx
            rw [mem_addU] at hx
            rcases hx with hx | rfl
            · exact hMw x hx
            · exact HKAT.out _ hmem
          have HMW := Lib.hid hMw'
          have hMjl : Mj.length ≤ 100000000 := by
            have := len_addUs ((rowA (.slice (some ⟨g5, o5, none⟩) n5 q5)).take j) M
            rw [← hMj, List.length_take] at this
            omega
          have hfirst := first_any wr _ Mj ⟨g5, o5 + j * 6, none⟩ hsn hd
          have HF := Lib.hid hfirst
          have HX5 := Lib.hid hx5
          have hstep : ((rowA (.slice (some ⟨g5, o5, none⟩) n5 q5)).take (j + 1)).foldl addU M = addU Mj ⟨g5, o5 + j * 6, none⟩ := by
            rw [take_step _ j _ hx5, List.foldl_append, ← hMj]; rfl
          have HST := Lib.hid hstep
          have HOW := Lib.hid hown
          obtain ⟨A0, m0, c0, rfl⟩ := own_slice hown
          have hlt0 := hsn.lt
          clear hfirst hx5 hS hstep hown hMj hMw hMw'
          go_wp2_with fail
          refine HF.out.mono ?_
          rintro e W2 ⟨rfl, hs2, hbt⟩
          have hB2 : Below w.heap.size w W2 := hBj.trans (hbt.below (Nat.le_refl _) (by omega))
          have hown2 : W2.ownsRow (w.heap.size + 1) 94 1 (.slice A0 m0 c0) Mj.length (Mj.map ptrV) := own_same HOW.out fun g hg hlt => hbt.block g hlt (by omega)
          have c3'' : W2.cell? ⟨b, oa + 3, none⟩ = some (.slice (some ⟨g5, o5, none⟩) n5 q5) := (hB2.cell (p := ⟨b, oa + 3, none⟩) hbl).trans E3.out
          have hsz2 := hbt.size
          by_cases hm : (⟨g5, o5 + j * 6, none⟩ : Addr) ∈ Mj
          · have hdec : decide ((⟨g5, o5 + j * 6, none⟩ : Addr) ∉ Mj) = false := by simp [hm]
            rw [hdec]
            go_wp2_with fail
            go_roundw
            case rel =>
              refine ⟨j + 1, by omega, by simp, ?_, ?_, hB2, by rw [HST.out]; exact HMW.out⟩
              · rw [HST.out]; exact hs2
              · rw [HST.out]; unfold addU; rw [if_pos hm]; exact hown2
            case measure => (simp [intOf] <;> omega)
          · have hdec : decide ((⟨g5, o5 + j * 6, none⟩ : Addr) ∉ Mj) = true := by simp [hm]
            rw [hdec]
            have hone : ∀ u ∈ [Value.pointer (some (⟨g5, o5 + j * 6, none⟩ : Addr))], u.oneCell' = true := by simp [Value.oneCell']
            go_wp2_with (at_builtin; go_loud (refine wpList_append_own_at _ rfl (.tmp 31) (.tmp 38) 185 rfl (w.heap.size + 1) 94 i0 (.pointer none) 1 8 Tryz.underlying185 hi hz0 hz1 hz2 rfl (by decide) _ Mj.length (Mj.map ptrV) rfl (own_later hown2 (below_new W2 (.cells #[.pointer (some ⟨g5, o5 + j * 6, none⟩)] 94))) ⟨W2.heap.size, 0, none⟩ 1 1 [.pointer (some ⟨g5, o5 + j * 6, none⟩)] rfl rfl (new_cells _ _ _ rfl) hone (by unfold maxLen; omega) (by omega) (by have := hBj.size; simp; omega) ?_))
            intro v' w2 hown3 hgr _ _
            have hrow : ∀ q, Value.ownBlock (.slice A0 m0 c0) = some q → w.heap.size + 1 ≤ q := fun q hq => (own_block hown2 q hq).1
            go_wp2_with fail
            go_roundw
            case rel =>
              refine ⟨j + 1, by omega, by simp, ?_, ?_, ?_, by rw [HST.out]; exact HMW.out⟩
              · rw [HST.out]
                refine ⟨hs2.1.keep ?_, fun x hx => ?_⟩
                · have h1 := hs2.lt
                  rw [hgr.block _ (by simp; omega) (fun e => by have := hrow _ e.symm; omega), Below.heap_alloc _ _ _ h1]
                · have h1 := hs2.2 x hx
                  have hxw := (HMW.out x hx).lt
                  exact h1.keep (by rw [hgr.block _ (by have := h1.lt; simp; omega) (fun e => by have := hrow _ e.symm; omega), Below.heap_alloc _ _ _ h1.lt])
              · rw [HST.out]; unfold addU; rw [if_neg hm, List.length_append, List.map_append]; exact hown3
              · refine ⟨?_, ?_, ?_, ?_, fun g hg => ?_⟩
                · exact hgr.os.trans hB2.os
                · exact hgr.tape.trans hB2.tape
                · exact hgr.output.trans hB2.output
                · have := hgr.size; have := hB2.size; simp at *; omega
                · rw [hgr.block _ (by have := hB2.size; simp; omega) (fun e => by have := hrow _ e.symm; omega), Below.heap_alloc _ _ _ (by have := hB2.size; omega), hB2.block g hg]
            case measure => (simp [intOf] <;> omega)
        · obtain rfl : j = n5 := by omega
          rw [List.take_of_length_le (Nat.le_of_eq HL5.out)] at hsn hown hMw
          go_wp2
          go_roundw
          case rel =>
            refine ⟨k + 1, by omega, by simp, ?_⟩
            rw [HN.out]
            exact ⟨hsn, hown, hBj, hMw⟩
          case measure => (simp [intOf] <;> omega)
    · obtain rfl : k = L.length := by omega
      rw [List.take_length] at hS
      go_wp2
      go_ret
      exact ⟨_, rfl, hS.2.1, hS.2.2.1⟩
end Go.Proofs.YtpbhndmfmnfeoaaGreat

/- The contract of Depth. -/
namespace Go.Proofs.YtpbhndmfmnfeoaaGreat
open Go.RowKit

theorem deep_pos (t : Ty) : 1 ≤ t.deep := by cases t; simp only [Ty.deep]; omega
theorem maxL_le : ∀ (l : List Nat) (x : Nat), x ∈ l → x ≤ maxL l
  | [], x, h => by cases h
  | y :: l, x, h => by
    simp only [maxL]
    rcases List.mem_cons.1 h with rfl | h
    · omega
    · have := maxL_le l x h; omega
theorem maxL_of_le : ∀ (l : List Nat) (m : Nat), (∀ x ∈ l, x ≤ m) → maxL l ≤ m
  | [], m, _ => by simp [maxL]
  | y :: l, m, h => by
    simp only [maxL]
    have h1 := h y (by simp)
    have h2 := maxL_of_le l m (fun x hx => h x (by simp [hx]))
    omega
theorem maxL_same {l m : List Nat} (h1 : ∀ x ∈ l, x ∈ m) (h2 : ∀ x ∈ m, x ∈ l) : maxL l = maxL m := by
  have a := maxL_of_le l (maxL m) (fun x hx => maxL_le m x (h1 x hx))
  have b := maxL_of_le m (maxL l) (fun x hx => maxL_le l x (h2 x hx))
  omega
theorem sumL_sub {l m : List Nat} (h : l.Sublist m) : sumL l ≤ sumL m := by
  induction h with
  | slnil => exact Nat.le_refl _
  | cons x _ ih => simp only [sumL]; omega
  | cons_cons x _ ih => simp only [sumL]; omega
theorem next_max {w : World} (n : Nat) (L : List Addr) : maxL ((nextA w L).map (dA w n)) = maxL ((L.flatMap (kidsA w)).map (dA w n)) := by
  unfold nextA
  apply maxL_same
  · intro x hx
    obtain ⟨a, ha, rfl⟩ := List.mem_map.1 hx
    rw [mem_addUs] at ha
    rcases ha with ha | ha
    · cases ha
    · exact List.mem_map_of_mem ha
  · intro x hx
    obtain ⟨a, ha, rfl⟩ := List.mem_map.1 hx
    exact List.mem_map_of_mem (by rw [mem_addUs]; exact .inr ha)
theorem max_flat {w : World} (n : Nat) : ∀ (L : List Addr), L ≠ [] → maxL (L.map (dA w (n + 1))) = 1 + maxL ((L.flatMap (kidsA w)).map (dA w n))
  | [], h => absurd rfl h
  | [a], _ => by simp [maxL, dA]
  | a :: b :: L, _ => by
    have ih := max_flat (w := w) n (b :: L) (by simp)
    rw [List.map_cons, maxL, ih, (List.flatMap_cons : (a :: b :: L).flatMap (kidsA w) = _), List.map_append, maxL_append, dA]
    omega
theorem sum_flat {w : World} (n : Nat) : ∀ (L : List Addr), sumL (L.map (nA w (n + 1))) = L.length + sumL ((L.flatMap (kidsA w)).map (nA w n))
  | [] => by simp [sumL]
  | a :: L => by
    rw [List.map_cons, sumL, sum_flat n L, List.flatMap_cons, List.map_append, sumL_append, nA, List.length_cons]
    omega
theorem sum_one {w : World} : ∀ (L : List Addr), L.length ≤ sumL (L.map (nA w 1))
  | [] => by simp
  | a :: L => by
    have := sum_one (w := w) L
    have h1 : 1 ≤ nA w 1 a := by unfold nA; omega
    simp only [List.map_cons, sumL, List.length_cons]
    omega
structure DRel (w1 : World) (t : Ty) (d : Nat) (L : List Addr) (wr : World) : Prop where
  below : Below w1.heap.size w1 wr
  le : d ≤ t.deep
  ok : ∀ a ∈ L, ∃ u, TA w1 a u
  max : ∀ n, maxL (L.map (dA w1 n)) = min n (t.deep - d)
  sum : ∀ n, sumL (L.map (nA w1 n)) ≤ t.size
theorem DRel.step {w1 wr wr' : World} {t : Ty} {d : Nat} {L : List Addr} (h : DRel w1 t d L wr) (h0 : L ≠ []) (hb : Below w1.heap.size w1 wr') : DRel w1 t (d + 1) (nextA w1 L) wr' := by
  have hm : ∀ n, maxL ((L.flatMap (kidsA w1)).map (dA w1 n)) = min n (t.deep - (d + 1)) ∧ d + 1 ≤ t.deep := by
    intro n
    have h1 := max_flat (w := w1) n L h0
    rw [h.max (n + 1)] at h1
    omega
  refine ⟨hb, (hm 0).2, fun a ha => ?_, fun n => by rw [next_max]; exact (hm n).1, fun n => ?_⟩
  · unfold nextA at ha
    rw [mem_addUs] at ha
    rcases ha with ha | ha
    · cases ha
    · obtain ⟨b, hb', hab⟩ := List.mem_flatMap.1 ha
      obtain ⟨u, hu⟩ := h.ok b hb'
      obtain ⟨i, hi⟩ := List.mem_iff_getElem?.1 hab
      obtain ⟨u2, _, h2⟩ := (kids_ta hu).2 i a hi
      exact ⟨u2, h2⟩
  · have h1 := sum_flat (w := w1) n L
    have h2 := h.sum (n + 1)
    have h3 : sumL ((nextA w1 L).map (nA w1 n)) ≤ sumL ((L.flatMap (kidsA w1)).map (nA w1 n)) := by
      refine sumL_sub ?_
      have := sub_addUs (L.flatMap (kidsA w1)) []
      rw [List.nil_append] at this
      exact this.map _
    omega
theorem DRel.bound {w1 wr : World} {t : Ty} {d : Nat} {L : List Addr} (h : DRel w1 t d L wr) : L.length ≤ t.size ∧ (L.flatMap (kidsA w1)).length ≤ t.size := by
  have h1 := sum_one (w := w1) L
  have h2 := h.sum 1
  have h3 : sumL (L.map (nA w1 2)) = _ := sum_flat (w := w1) 1 L
  have h4 := h.sum 2
  have h5 := sum_one (w := w1) (L.flatMap (kidsA w1))
  omega
theorem DRel.there {w1 wr : World} {t : Ty} {d : Nat} {L : List Addr} (h : DRel w1 t d L wr) : (∀ a ∈ L, ∃ u, TA wr a u) ∧ L.flatMap (kidsA wr) = L.flatMap (kidsA w1) := by
  refine ⟨fun a ha => ?_, ?_⟩
  · obtain ⟨u, hu⟩ := h.ok a ha
    exact ⟨u, hu.later h.below⟩
  have hk : ∀ a ∈ L, kidsA wr a = kidsA w1 a := fun a ha => by
    obtain ⟨u, hu⟩ := h.ok a ha
    exact kidsA_keep (h.below.block _ hu.at_.lt)
  have h1 := List.map_congr_left hk
  rw [List.flatMap_def, List.flatMap_def, h1]

set_option maxRecDepth 100000 in
set_option maxHeartbeats 4000000 in
theorem depth_any (l : List Value) (t : Ty) (w : World) (ht : TV w t l) (hs : t.size ≤ 90000000) :
    Calls Tryz.prog 106 #[.agg l.toArray] w fun e w' => e = .returned (.int .i64 ((min t.deep 201 : Nat) : Int)) ∧ Below w.heap.size w w' := by
  have hb0 := below_new w (.cells l.toArray 44)
  have hta := ht.new 44 rfl
  have hd := fun n => deep_ta n _ _ hta
  have hsz1 : (w.alloc (.cells l.toArray 44)).heap.size = w.heap.size + 1 := by simp
  have hlen := ht.len
  have hdp := deep_pos t
  have hD0 : DRel (w.alloc (.cells l.toArray 44)) t 0 [⟨w.heap.size, 0, none⟩] (w.alloc (.cells l.toArray 44)) :=
    ⟨Below.refl _ _, Nat.zero_le _, fun a ha => by rw [List.mem_singleton.1 ha]; exact ⟨t, hta⟩, fun n => by simp [maxL, (hd n).1], fun n => by simp [sumL, (hd n).2]⟩
  obtain ⟨w1, hw1⟩ : ∃ w1, w1 = w.alloc (.cells l.toArray 44) := ⟨_, rfl⟩
  rw [← hw1] at hD0 hsz1 hb0
  have hbL := below_new w1 (.cells #[ptrV ⟨w.heap.size, 0, none⟩] 94)
  have hpl := Pl.lit w1 94 [⟨w.heap.size, 0, none⟩] hsz1
  have hD0' : DRel w1 t 0 [⟨w.heap.size, 0, none⟩] (w1.alloc (.cells #[ptrV ⟨w.heap.size, 0, none⟩] 94)) := ⟨hbL, hD0.le, hD0.ok, hD0.max, hD0.sum⟩
  have hth := hD0'.there
  have hbd := hD0'.bound
  have hbel := below_any (w1.alloc (.cells #[ptrV ⟨w.heap.size, 0, none⟩] 94)) _ _ hpl hth.1 (by rw [hth.2]; omega) (by omega)
  have HBEL := Lib.hid hbel
  have HTH := Lib.hid hth
  have HW := Lib.hid hw1
  unfold ptrV at HBEL
  clear hbel hth hd hta
  go_enter Tryz.func106, Tryz.ntmps106
  go_wp2_with fail
  rw [← HW.out]
  refine HBEL.out.mono ?_
  rintro e w2 ⟨v2, rfl, hown2, hb2⟩
  have hpl2 := Pl.own hown2
  have hb12 := hbL.trans (hb2.mono hbL.size)
  have hD2 := hD0'.step (by simp) hb12
  have hnx : nextA (w1.alloc (.cells #[ptrV ⟨w.heap.size, 0, none⟩] 94)) [⟨w.heap.size, 0, none⟩] = nextA w1 [⟨w.heap.size, 0, none⟩] := by unfold nextA; rw [HTH.out.2]
  unfold ptrV at hnx
  rw [hnx] at hpl2
  clear HBEL HTH hown2 hbd hD0 hD0'
  have hst : ∃ (d : Nat) (L : List Addr), Value.int .i64 1 = .int .i64 (d : Int) ∧ 1 ≤ d ∧ d ≤ 201 ∧ Pl w2 v2 L ∧ DRel w1 t d L w2 := ⟨1, _, rfl, by omega, by omega, hpl2, hD2⟩
  clear hD2 hpl2 hnx
  go_wp2_with fail
  go_loopw [3, 4] (fun dv lv wr => ∃ (d : Nat) (L : List Addr), dv = .int .i64 (d : Int) ∧ 1 ≤ d ∧ d ≤ 201 ∧ Pl wr lv L ∧ DRel w1 t d L wr) (fun dv _ _ => 201 - (intOf dv).toNat)
  case atStart => exact hst
  case round =>
    obtain ⟨d, L, rfl, hd1, hd2, hpl, hD⟩ := hrel
    clear hst
    have hm1 := hD.max 1
    have hle := hD.le
    have hbw : Below w.heap.size w wr := hb0.trans (hD.below.mono hb0.size)
    by_cases hL : L = []
    · subst hL
      obtain ⟨A, c, rfl, _, _⟩ := hpl
      have hdeep : t.deep = d := by
        simp only [List.map_nil, maxL] at hm1
        omega
      go_wp2
      go_ret
      have hmin : min t.deep 201 = d := by omega
      rw [hmin]
      exact ⟨rfl, hbw⟩
    · have hL0 : 0 < L.length := List.length_pos_iff.2 hL
      have hLi : (0 : Int) < (L.length : Int) := by omega
      have hpl0 := hpl
      obtain ⟨A, c, rfl, hc, _⟩ := hpl
      by_cases hd : d ≤ 200
      · have hth := hD.there
        have hbd := hD.bound
        have hbel := below_any wr _ L hpl0 hth.1 (by rw [hth.2]; omega) (by omega)
        have HBEL := Lib.hid hbel
        have hnx : nextA wr L = nextA w1 L := by unfold nextA; rw [hth.2]
        have HNX := Lib.hid hnx
        have hdi : (d : Int) ≤ 200 := by omega
        clear hbel hth hnx
        go_wp2_with fail
        refine HBEL.out.mono ?_
        rintro e w3 ⟨v3, rfl, hown3, hb3⟩
        have hpl3 := Pl.own hown3
        rw [HNX.out] at hpl3
        have hD3 := hD.step hL (hD.below.trans (hb3.mono hD.below.size))
        go_wp2_with fail
        go_roundw
        case rel => exact ⟨d + 1, _, by simp, by omega, by omega, hpl3, hD3⟩
        case measure => (simp [intOf] <;> omega)
      · have hde : d = 201 := by omega
        have hdi : ¬ (d : Int) ≤ 200 := by omega
        go_wp2
        go_ret
        have hmin : min t.deep 201 = d := by omega
        rw [hmin, hde]
        exact ⟨rfl, hbw⟩
end Go.Proofs.YtpbhndmfmnfeoaaGreat
