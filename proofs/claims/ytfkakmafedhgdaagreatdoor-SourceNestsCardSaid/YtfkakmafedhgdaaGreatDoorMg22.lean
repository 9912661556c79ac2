/- The machine of package source: what a handler does for an operation. -/
import Derived.Test.YtfkakmafedhgdaaGreatDoorSoZ
import Derived.Maps.AppendAt
import Derived.OwnWalk
namespace Go.Proofs.YtfkakmafedhgdaaGreatDoor.K
open Go Go.RowKit
namespace So

/-- The clause that is found, and where it stands. -/
def ClEnd (op : Str) (arms : List Arm) (rv : Value) (w : World) (e : Ending) (w' : World) : Prop :=
  w = w' ∧ ((∃ (i : Nat) (c : Arm), clause op arms = some c ∧ arms[i]? = some c ∧ c.2.1.length = 2 ∧ e = .returned (ptO (blk rv) (off rv + i * 23))) ∨ (clause op arms = none ∧ e = .returned (.pointer none)))
theorem armFor_no {nm : Str} {n : Nat} {arms : List Arm} {i : Nat} {a : Arm} (h : arms[i]? = some a) (hn : ¬ (a.1 = nm ∧ a.2.1.length = n)) : armFor nm n (arms.drop i) = armFor nm n (arms.drop (i + 1)) := by
  have hi := (List.getElem?_eq_some_iff.1 h).1
  rw [List.drop_eq_getElem_cons hi]
  have : arms[i] = a := (List.getElem?_eq_some_iff.1 h).2
  rw [this, armFor, if_neg hn]
theorem armFor_yes {nm : Str} {n : Nat} {arms : List Arm} {i : Nat} {a : Arm} (h : arms[i]? = some a) (hn : a.1 = nm ∧ a.2.1.length = n) : armFor nm n (arms.drop i) = some a := by
  have hi := (List.getElem?_eq_some_iff.1 h).1
  rw [List.drop_eq_getElem_cons hi]
  have : arms[i] = a := (List.getElem?_eq_some_iff.1 h).2
  rw [this, armFor, if_pos hn]
def ClRel (op : Str) (arms : List Arm) (w : World) (x : Value) (wr : World) : Prop := ∃ i : Nat, i ≤ arms.length ∧ x = .int .i64 (i : Int) ∧ clause op arms = armFor op 2 (arms.drop (max i 1)) ∧ wr = w
set_option maxRecDepth 100000 in
set_option maxHeartbeats 4000000 in
theorem clause_any {H : Mem} {w : World} (hs : Sub H w) {hb : Nat} {rv ev : Value} {arms : List Arm} (hr : HR H hb 0 [rv, ev]) (hA : ArmsA H arms rv) (op : Str) :
    Calls Tryz.prog 182 #[pt hb, .string (ba op)] w (ClEnd op arms rv w) := by
  obtain ⟨⟨A, d, rfl, hd, hal, hAA⟩, harm⟩ := hA
  have g0 : w.cell? ⟨hb, 0, none⟩ = some (.slice A arms.length d) := (hr 0 _ rfl).cell hs
  have hab : (arms.length : Int) ≤ 2000000 := by omega
  have HS := Lib.hid hs
  have HAA := Lib.hid hAA
  have HARM := Lib.hid harm
  clear hs hr hAA harm
  unfold pt
  go_enter Tryz.func182, Tryz.ntmps182
  go_wp2
  go_loopw [12] (fun x wr => ClRel op arms w x wr) (fun x _ => arms.length - (intOf x).toNat)
  case atStart => exact ⟨0, Nat.zero_le _, rfl, by simp [clause], rfl⟩
  case round =>
    obtain ⟨i, hi, rfl, hcl, rfl⟩ := hrel
    have HCL := Lib.hid hcl
    clear hcl
    by_cases hlt : i < arms.length
    · obtain ⟨a, hai⟩ : ∃ a, arms[i]? = some a := ⟨_, List.getElem?_eq_getElem hlt⟩
      obtain ⟨ag, ao, rfl⟩ := HAA.out (by omega)
      obtain ⟨vv, hn, hv, ⟨⟨V, vc, rfl, _, hvl, _⟩, _⟩, _⟩ := HARM.out i a hai
      have a0 : wr.cell? ⟨ag, ao + i * 23, none⟩ = some (.string (ba a.1)) := hn.cell HS.out
      have a1 : wr.cell? ⟨ag, ao + i * 23 + 1, none⟩ = some (.slice V a.2.1.length vc) := hv.cell HS.out
      have hid : i < d := by omega
      have hii : (i : Int) < (arms.length : Int) := by omega
      have HAI := Lib.hid hai
      clear hn hv hai
      by_cases h0 : 0 < i
      · have h0i : (0 : Int) < (i : Int) := by omega
        have hmx : max i 1 = i := by omega
        have HMX := Lib.hid hmx
        clear hmx
        by_cases h1 : a.1 = op
        · have t1 : ((ba a.1).toList == (ba op).toList) = true := by rw [h1]; simp
          by_cases h2 : a.2.1.length = 2
          · have t2 : ((a.2.1.length : Int) == 2) = true := by rw [h2]; rfl
            have H2 := Lib.hid h2
            have H1 := Lib.hid h1
            clear h1 h2
            go_wp2
            go_ret
            refine ⟨rfl, .inl ⟨i, a, ?_, HAI.out, H2.out, rfl⟩⟩
            rw [HCL.out, HMX.out]
            exact armFor_yes HAI.out ⟨H1.out, H2.out⟩
          · have t2 : ((a.2.1.length : Int) == 2) = false := by rw [beq_eq_false_iff_ne]; omega
            have H2 := Lib.hid h2
            clear h1 h2
            go_wp2
            go_roundw
            case rel => exact ⟨i + 1, by omega, by go_num, by rw [HCL.out, HMX.out, show max (i + 1) 1 = i + 1 by omega]; exact armFor_no HAI.out (fun h => H2.out h.2), rfl⟩
            case measure => (simp [intOf] <;> omega)
        · have t1 : ((ba a.1).toList == (ba op).toList) = false := tl_ne h1
          have H1 := Lib.hid h1
          clear h1
          go_wp2
          go_roundw
          case rel => exact ⟨i + 1, by omega, by go_num, by rw [HCL.out, HMX.out, show max (i + 1) 1 = i + 1 by omega]; exact armFor_no HAI.out (fun h => H1.out h.1), rfl⟩
          case measure => (simp [intOf] <;> omega)
      · obtain rfl : i = 0 := by omega
        have h0d : decide ((0 : Int) < ((0 : Nat) : Int)) = false := by decide
        go_wp2
        go_roundw
        case rel => exact ⟨1, by omega, rfl, by rw [HCL.out]; rfl, rfl⟩
        case measure => (simp [intOf] <;> omega)
    · obtain rfl : i = arms.length := by omega
      go_wp2
      go_ret
      refine ⟨rfl, .inr ⟨?_, rfl⟩⟩
      rw [HCL.out, List.drop_eq_nil_of_le (by omega)]
      rfl
end So
end Go.Proofs.YtfkakmafedhgdaaGreatDoor.K

/- The machine of package source: frames are taken off, down to a handler. -/
namespace Go.Proofs.YtfkakmafedhgdaaGreatDoor.K
open Go Go.RowKit
namespace So

def ClAt (H : Mem) (cb co : Nat) (c : Arm) : Prop := ∃ vv, HC H ⟨cb, co + 1, none⟩ vv ∧ StrsH H vv c.2.1 ∧ TmA H cb (co + 2) c.2.2 ∧ c.2.1.length = 2
theorem ClAt.le {H H' : Mem} (k : MLe H H') {cb co : Nat} {c : Arm} (h : ClAt H cb co c) : ClAt H' cb co c := by
  obtain ⟨vv, h1, h2, h3, h4⟩ := h
  exact ⟨vv, h1.le k, h2.le k, h3.le k, h4⟩
/-- Parts in a row. -/
def PartsAt (H : Mem) (N : Nat) (ps : List Part) (zs : List PP) : Prop := zs.length = ps.length ∧ ∀ (i : Nat) p z, ps[i]? = some p → zs[i]? = some z → FsV H N p.1 (.pointer z.1) ∧ HdV H N p.2.1 p.2.2 (.pointer z.2)
def ppL (zs : List PP) : List Value := (zs.map fun z => [Value.pointer z.1, Value.pointer z.2]).flatten
theorem ppL_snoc (zs : List PP) (a b : Option Addr) : ppL (zs ++ [(a, b)]) = ppL zs ++ [.pointer a, .pointer b] := by simp [ppL]
theorem ppL_get {zs : List PP} {i : Nat} {z : PP} (h : zs[i]? = some z) : (ppL zs)[i * 2]? = some (.pointer z.1) ∧ (ppL zs)[i * 2 + 1]? = some (.pointer z.2) := by
  have hm : (zs.map fun z => [Value.pointer z.1, Value.pointer z.2])[i]? = some [.pointer z.1, .pointer z.2] := by rw [List.getElem?_map, h]; rfl
  have hall : ∀ l ∈ (zs.map fun z => [Value.pointer z.1, Value.pointer z.2]), l.length = 2 := fun l hl => by
    obtain ⟨z, _, rfl⟩ := List.mem_map.1 hl
    rfl
  exact ⟨flat_idx 2 _ hall i 0 _ _ hm rfl, flat_idx 2 _ hall i 1 _ _ hm rfl⟩
theorem PartsAt.snoc {H : Mem} {N : Nat} {ps : List Part} {zs : List PP} (h : PartsAt H N ps zs) {p : Part} {a b : Option Addr} (hf : FsV H N p.1 (.pointer a)) (hh : HdV H N p.2.1 p.2.2 (.pointer b)) : PartsAt H N (ps ++ [p]) (zs ++ [(a, b)]) := by
  refine ⟨by simp [h.1], fun i q z hq hz => ?_⟩
  by_cases hi : i < ps.length
  · rw [List.getElem?_append_left hi] at hq
    rw [List.getElem?_append_left (by rw [h.1]; exact hi)] at hz
    exact h.2 i q z hq hz
  · obtain rfl : i = ps.length := by
      have := (List.getElem?_eq_some_iff.1 hq).1
      simp at this; omega
    rw [List.getElem?_append_right (Nat.le_refl _)] at hq
    rw [List.getElem?_append_right (by rw [h.1]; exact Nat.le_refl _), h.1] at hz
    simp at hq hz
    subst hq hz
    exact ⟨hf, hh⟩
def CutYes (w0 : World) (mb : Nat) (H : Mem) (s : St) (ps : List Part) (h : Hd) (c : Arm) (be : List Frame) (hs : List (Hd × List Frame)) (sv : Value) (cb co : Nat) (w' : World) : Prop :=
  ∃ H' zs, MLe H H' ∧ MS w0 mb H' { s with above := be, hs := hs } w' ∧ Sl sv ps.length ∧ (∀ (i : Nat) z, zs[i]? = some z → HR H' (blk sv) (off sv + i * 2) [.pointer z.1, .pointer z.2]) ∧ PartsAt H' s.cells.length ps zs ∧ (∃ ps' ab, ps = ps' ++ [(ab, h)]) ∧ ClAt H' cb co c
def CutEnd (w0 : World) (mb : Nat) (H : Mem) (s : St) (op : Str) (e : Ending) (w' : World) : Prop :=
  (cut op s.above s.hs [] = none ∧ e = .returned (.tuple #[.slice none 0 0, .pointer none]) ∧ MS w0 mb H s w') ∨
  ∃ ps h c be hs sv cb co, cut op s.above s.hs [] = some (ps, h, c, be, hs) ∧ e = .returned (.tuple #[sv, ptO cb co]) ∧ CutYes w0 mb H s ps h c be hs sv cb co w'
def CutRel (H : Mem) (N : Nat) (op : Str) (R : Option (List Part × Hd × Arm × List Frame × List (Hd × List Frame))) (tot : Nat) (w : World) (g : Nat) (tv lp : Value) (wr : World) : Prop :=
  ∃ (ab : List Frame) (rest : List (Hd × List Frame)) (acc : List Part) (L : Nat) (fa ha : Option Addr) (zs : List PP), R = cut op ab rest acc ∧ rest.length = g ∧ acc.length + rest.length = tot ∧ lp = pt L ∧ w.heap.size ≤ L ∧ Lies wr L 72 #[.pointer fa, .pointer ha] ∧ FsV H N ab (.pointer fa) ∧ HsV H N rest (.pointer ha) ∧
    wr.ownsRow w.heap.size 296 2 tv acc.length (ppL zs) ∧ PartsAt H N acc zs ∧ Below w.heap.size w wr
theorem MR.cutTo {w0 : World} {mb : Nat} {H : Mem} {s : St} {tv ev v0 v1 v2 v3 fv hv cv iv lv : Value} {w : World} (h : MR w0 mb H s tv ev v0 v1 v2 v3 fv hv cv iv lv w) {be : List Frame} {hs : List (Hd × List Frame)} {a b : Value} (hf : FsV H s.cells.length be a) (hh : HsV H s.cells.length hs b) :
    MS w0 mb H { s with above := be, hs := hs } ((w.setCell ⟨mb, 6, none⟩ a).setCell ⟨mb, 7, none⟩ b) :=
  ⟨_, _, _, _, _, _, _, _, _, _, _, (h.core.set 6 a).set 7 b, (h.lies.set 6 a).set 7 b, h.at_, hf, hh, h.input⟩
theorem MR.keep {w0 : World} {mb : Nat} {H : Mem} {s : St} {tv ev v0 v1 v2 v3 fv hv cv iv lv : Value} {w w' : World} (h : MR w0 mb H s tv ev v0 v1 v2 v3 fv hv cv iv lv w) (hb : Below w.heap.size w w') {n : Nat} {o : Obj} (hn : w.heap.size ≤ n) (ho : w'.heap[n]? = some o) :
    MLe H (ins H n o) ∧ MR w0 mb (ins H n o) s tv ev v0 v1 v2 v3 fv hv cv iv lv w' := by
  obtain ⟨k1, k2⟩ := h.core.bt1 (Bt.of_below hb) hn ho h.lt
  exact ⟨k1, k2, h.lies.later hb, h.at_.le k1 (Nat.le_refl _), h.above.le k1 (Nat.le_refl _), h.hs.le k1 (Nat.le_refl _), h.input.le k1⟩
theorem HsV.open {H : Mem} {N : Nat} {r : List (Hd × List Frame)} {x : Value} (h : HsV H N r x) : (r = [] ∧ x = .pointer none) ∨ ∃ hd fs r' b hb fa oa, r = (hd, fs) :: r' ∧ x = pt b ∧ HR H b 0 [pt hb, .pointer fa, .pointer oa] ∧ HdV H N hd.1 hd.2 (pt hb) ∧ FsV H N fs (.pointer fa) ∧ HsV H N r' (.pointer oa) := by
  cases h with
  | nil => exact .inl ⟨rfl, rfl⟩
  | cons h fs r b hv fv ov hr hh hf ht =>
    obtain ⟨hb, rfl⟩ := hh.ptr
    obtain ⟨fa, rfl⟩ := hf.ptr
    obtain ⟨oa, rfl⟩ := ht.ptr
    exact .inr ⟨h, fs, r, b, hb, fa, oa, rfl, rfl, hr, hh, hf, ht⟩
theorem HdV.open {H : Mem} {N : Nat} {a : List Arm} {e : Env} {b : Nat} (h : HdV H N a e (pt b)) : ∃ rv ev, HR H b 0 [rv, ev] ∧ ArmsA H a rv ∧ hdOk a = true ∧ EV H N e ev := by
  generalize hx : pt b = x at h
  cases h with
  | mk _ _ b' rv ev hr ha ho he =>
    have hx' : pt b = pt b' := hx
    unfold pt at hx'
    injection hx' with h1
    injection h1 with h2
    injection h2 with h3
    subst h3
    exact ⟨rv, ev, hr, ha, ho, he⟩
theorem info_part : (Tryz.prog.info? 296).map (fun i => (i.zero, i.size, i.bytes)) = some (some (.agg #[.pointer none, .pointer none]), 2, 16) := by kernel_rfl
theorem info_p : ∃ i, Tryz.prog.info? 296 = some i ∧ i.zero = some (.agg #[.pointer none, .pointer none]) ∧ i.size = 2 ∧ i.bytes = 16 := by
  have h := info_part
  cases hq : Tryz.prog.info? 296 with
  | none => rw [hq] at h; cases h
  | some i =>
    rw [hq] at h
    simp only [Option.map_some, Option.some.injEq, Prod.mk.injEq] at h
    exact ⟨i, rfl, h.1, h.2.1, h.2.2⟩
theorem cl_at {H : Mem} {arms : List Arm} {rv : Value} (h : ArmsA H arms rv) {i : Nat} {c : Arm} (hi : arms[i]? = some c) (h2 : c.2.1.length = 2) : ClAt H (blk rv) (off rv + i * 23) c := by
  obtain ⟨vv, _, h3, h4, h5⟩ := h.2 i c hi
  exact ⟨vv, h3, h4, h5, h2⟩
theorem cut_yes {w0 : World} {mb : Nat} {H : Mem} {s : St} {tv ev v0 v1 v2 v3 fv hv cv iv lv : Value} {w w3 : World} (h : MR w0 mb H s tv ev v0 v1 v2 v3 fv hv cv iv lv w) (hb : Below w.heap.size w w3) {V : Option Addr} {n' c' : Nat} {acc : List Part} {zs : List PP} {fa fb oa : Option Addr} {hb' : Nat}
    (hown : w3.ownsRow w.heap.size 296 2 (.slice V n' c') (acc.length + 1) (ppL zs ++ [.pointer fa, .pointer (some ⟨hb', 0, none⟩)])) (hpa : PartsAt H s.cells.length acc zs) {ab fs : List Frame} {hd : Hd} {r' : List (Hd × List Frame)} (hfs : FsV H s.cells.length ab (.pointer fa)) (hhd : HdV H s.cells.length hd.1 hd.2 (pt hb'))
    (hf : FsV H s.cells.length fs (.pointer fb)) (hr : HsV H s.cells.length r' (.pointer oa)) (hn : acc.length ≤ 1000000) {cb co : Nat} {c : Arm} (hc : ClAt H cb co c) :
    CutYes w0 mb H s (acc ++ [(ab, hd)]) hd c fs r' (.slice V n' c') cb co ((w3.setCell ⟨mb, 6, none⟩ (.pointer fb)).setCell ⟨mb, 7, none⟩ (.pointer oa)) := by
  rcases hown.2 with ⟨_, h0⟩ | ⟨g, cap, cur, h1, h2, h3, h4, h5, h6, h7⟩
  · omega
  · injection h1 with e1 e2 e3
    subst e1 e2 e3
    obtain ⟨k1, k2⟩ := h.keep hb h2 h3
    have hlen : (acc ++ [(ab, hd)]).length = acc.length + 1 := by simp
    have hcell : ∀ j u, (ppL (zs ++ [(fa, some ⟨hb', 0, none⟩)]))[j]? = some u → HC (ins H g (.cells cur 296 (0, 0))) ⟨g, j, none⟩ u := fun j u hu => ⟨_, ins_same _ _ _, fun W hW => by
      have hl : Lies W g 296 cur := hW
      rw [hl.cell, ← Array.getElem?_toList]
      rw [ppL_snoc, ← h7, List.getElem?_take] at hu
      split at hu
      · exact hu
      · cases hu⟩
    refine ⟨_, zs ++ [(fa, some ⟨hb', 0, none⟩)], k1, k2.cutTo (hf.le k1 (Nat.le_refl _)) (hr.le k1 (Nat.le_refl _)), ⟨_, _, by rw [hlen], by rw [hlen]; exact h4, by rw [hlen]; omega, fun _ => ⟨_, _, rfl⟩⟩, fun i z hz j u hu => ?_, ?_, ⟨acc, ab, rfl⟩, hc.le k1⟩
    · obtain ⟨p1, p2⟩ := ppL_get hz
      simp only [blk, off, Nat.zero_add]
      match j, hu with
      | 0, hu => obtain rfl : Value.pointer z.1 = u := by simpa using hu
                 exact hcell _ _ p1
      | 1, hu => obtain rfl : Value.pointer z.2 = u := by simpa using hu
                 exact hcell _ _ p2
      | j + 2, hu => simp at hu
    · have hp := hpa.snoc (p := (ab, hd)) hfs hhd
      exact ⟨hp.1, fun i p z h8 h9 => ⟨(hp.2 i p z h8 h9).1.le k1 (Nat.le_refl _), (hp.2 i p z h8 h9).2.le k1 (Nat.le_refl _)⟩⟩
set_option maxRecDepth 100000 in
set_option maxHeartbeats 8000000 in
theorem cut_any {w0 : World} {mb : Nat} {H : Mem} {s : St} {w : World} (h : MS w0 mb H s w) (op : Str) (hb : s.hs.length ≤ 1000000) :
    Calls Tryz.prog 189 #[.pointer (some ⟨mb, 6, none⟩), .string (ba op)] w (CutEnd w0 mb H s op) := by
  obtain ⟨i0, hi, hz0, hz1, hz2⟩ := info_p
  obtain ⟨tv, ev, v0, v1, v2, v3, fv, hv, cv, iv, lv, h⟩ := h
  obtain ⟨fa0, rfl⟩ := h.above.ptr
  obtain ⟨ha0, rfl⟩ := h.hs.ptr
  have z6 : w.cell? ⟨mb, 6, none⟩ = some (.pointer fa0) := h.lies.cell 6
  have z7 : w.cell? ⟨mb, 7, none⟩ = some (.pointer ha0) := h.lies.cell 7
  obtain ⟨R, hR⟩ : ∃ R, R = cut op s.above s.hs [] := ⟨_, rfl⟩
  have hmw := h.lt
  have HM := Lib.hid h
  have HR := Lib.hid hR
  have HBN := Lib.hid hb
  clear h hR hb
  go_enter Tryz.func189, Tryz.ntmps189
  go_wp2
  go_loopg [6, 7] s.hs.length (fun g tv lp wr => CutRel H s.cells.length op R s.hs.length w g tv lp wr)
  case atStart => exact ⟨s.above, s.hs, [], w.heap.size, fa0, ha0, [], HR.out, rfl, by simp, rfl, Nat.le_refl _, Lies.new w _ _, HM.out.above, HM.out.hs, World.ownsRow_nil _ _ _ _, ⟨rfl, fun i p z h => by simp at h⟩, below_new w _⟩
  case round =>
    obtain ⟨ab, rest, acc, L, fa, ha, zs, hcut, hg, htot, rfl, hL, hl, hfs, hhs, hown, hpa, hB⟩ := hrel
    have HCUT := Lib.hid hcut
    have HG := Lib.hid hg
    have HTOT := Lib.hid htot
    have HLL := Lib.hid hl
    have HFS := Lib.hid hfs
    have HOWN := Lib.hid hown
    have HPA := Lib.hid hpa
    have HB := Lib.hid hB
    have HBN2 := Lib.hid (show acc.length ≤ 1000000 by have := HBN.out; omega)
    have l0 : wr.cell? ⟨L, 0, none⟩ = some (.pointer fa) := hl.cell 0
    have l1 : wr.cell? ⟨L, 1, none⟩ = some (.pointer ha) := hl.cell 1
    clear hcut hg htot hl hfs hown hpa hB z6 z7
    unfold pt
    rcases hhs.open with ⟨rfl, h0⟩ | ⟨hd, fs, r', b, hb, fa2, oa2, rfl, h0, hr, hhd, hf2, hr2⟩
    · obtain rfl : ha = none := by injection h0
      go_wp2
      go_ret2
      refine .inl ⟨?_, rfl, ⟨_, _, _, _, _, _, _, _, _, _, _, HM.out.later HB.out⟩⟩
      rw [← HR.out, HCUT.out]
      rfl
    · obtain rfl : ha = some ⟨b, 0, none⟩ := by injection h0
      clear h0
      obtain ⟨rv, ev', hrh, hAh, hoh, heh⟩ := hhd.open
      obtain ⟨hdA, hdE⟩ := hd
      have hsub : Sub H wr := (HM.out.later HB.out).core.sub
      have q0 : wr.cell? ⟨b, 0, none⟩ = some (pt hb) := (hr 0 _ rfl).cell hsub
      have hLne : ∀ q, u6.ownBlock = some q → L ≠ q := fun q hq e => by
        rcases HOWN.out.2 with ⟨h1, _⟩ | ⟨g', cap, cur, h1, _, h3, _⟩
        · rw [h1] at hq; cases hq
        · rw [h1] at hq
          obtain rfl : g' = q := by simpa [Value.ownBlock] using hq
          have h4 : wr.heap[L]? = some _ := HLL.out
          rw [e, h3] at h4
          have h5 : (296 : Nat) = 72 := congrArg (fun o => match o with | some (.cells _ t _) => t | _ => 0) h4
          exact absurd h5 (by decide)
      have hob := own_block HOWN.out
      have hLl := HLL.out.lt
      have hBs := HB.out.size
      have hones : ∀ u ∈ [Value.pointer fa, Value.pointer (some ⟨hb, 0, none⟩)], u.oneCell' = true := fun u hu => by
        simp only [List.mem_cons, List.not_mem_nil, or_false] at hu
        rcases hu with rfl | rfl <;> rfl
      have hstep : ∀ (v' : Value) (w3 : World), (wr.alloc (.cells #[.pointer fa, .pointer (some ⟨hb, 0, none⟩)] 296)).grownBy w3 u6.ownBlock → Below w.heap.size w w3 ∧ Lies w3 L 72 #[.pointer fa, .pointer (some ⟨b, 0, none⟩)] := fun v' w3 hgr => by
        refine ⟨(HB.out.alloc (by omega) _).grown hgr (by simp; omega) (fun k hk => (hob k hk).1), ?_⟩
        exact (hgr.block L (by simp; omega) (fun e => hLne L e.symm rfl)).trans (HLL.out.alloc _)
      have HSTEP := Lib.hid hstep
      have HRH := Lib.hid hrh
      have HAH := Lib.hid hAh
      have HR0 := Lib.hid hr
      have HF2 := Lib.hid hf2
      have HR2 := Lib.hid hr2
      have HHD := Lib.hid hhd
      have HONES := Lib.hid hones
      have hbn := HBN2.out
      clear hsub hob hstep hrh hAh hr hf2 hr2 hhd hLne hones hoh heh
      unfold pt at q0
      go_wp2_with (at_builtin; go_loud (refine wpList_append_own_at _ rfl (.tmp 26) (.tmp 31) 292 rfl w.heap.size 296 i0 (.agg #[.pointer none, .pointer none]) 2 16 Tryz.underlying292 hi hz0 hz1 hz2 rfl (by decide) _ acc.length (ppL zs) rfl (own_later HOWN.out (below_new wr (.cells #[.pointer fa, .pointer (some ⟨hb, 0, none⟩)] 296))) ⟨wr.heap.size, 0, none⟩ 1 1 [.pointer fa, .pointer (some ⟨hb, 0, none⟩)] rfl rfl (new_cells _ _ _ rfl) HONES.out (by unfold maxLen; omega) (by omega) (by simp; omega) ?_))
      intro v' w3 hown3 hgr3 hnn hat3
      obtain ⟨hb3, hl3⟩ := HSTEP.out v' w3 hgr3
      have hm3 := HM.out.later hb3
      have hs3 := hm3.core.sub
      have y0 : w3.cell? ⟨L, 0, none⟩ = some (.pointer fa) := hl3.cell 0
      have y1 : w3.cell? ⟨L, 1, none⟩ = some (.pointer (some ⟨b, 0, none⟩)) := hl3.cell 1
      have q1 : w3.cell? ⟨b, 1, none⟩ = some (.pointer fa2) := (HR0.out 1 _ rfl).cell hs3
      have q2 : w3.cell? ⟨b, 2, none⟩ = some (.pointer oa2) := (HR0.out 2 _ rfl).cell hs3
      have m6 : w3.cell? ⟨mb, 6, none⟩ = some (.pointer fa0) := hm3.lies.cell 6
      have m7 : w3.cell? ⟨mb, 7, none⟩ = some (.pointer ha0) := hm3.lies.cell 7
      have n6 := hm3.lies.free 6
      have n7 := hm3.lies.free 7
      have hL3 := hl3.lt
      have HCA := Lib.hid (clause_any hs3 HRH.out HAH.out op)
      have HM3 := Lib.hid hm3
      have HOWN3 := Lib.hid hown3
      have HB3 := Lib.hid hb3
      have HL3 := Lib.hid hl3
      obtain ⟨V, n', c', rfl⟩ := own_slice hown3
      clear hown3 hgr3 hnn hat3 hb3 hl3 hm3 hs3 l0 l1 q0
      go_wp2_with fail
      refine HCA.out.mono ?_
      rintro e w4 ⟨rfl, ⟨i, c, hc1, hc2, hc3, rfl⟩ | ⟨hc1, rfl⟩⟩
      · have HC1 := Lib.hid hc1
        have HC2 := Lib.hid hc2
        have HC3 := Lib.hid hc3
        clear hc1 hc2 hc3
        unfold ptO
        go_wp2
        go_ret2
        refine .inr ⟨acc ++ [(ab, (hdA, hdE))], (hdA, hdE), c, fs, r', _, blk rv, off rv + i * 23, ?_, rfl, ?_⟩
        · rw [← HR.out, HCUT.out, cut, HC1.out]
        · exact cut_yes HM.out HB3.out HOWN3.out HPA.out HFS.out HHD.out HF2.out HR2.out HBN2.out (cl_at HAH.out HC2.out HC3.out)
      · have HC1 := Lib.hid hc1
        clear hc1
        have hbl : b < w3.heap.size := World.block_lt_of_cell? w3 _ q1
        have qa1 : (w3.alloc (.cells #[.pointer fa, .pointer (some ⟨b, 0, none⟩)] 72)).cell? ⟨b, 1, none⟩ = some (.pointer fa2) := ((below_new w3 _).cell (p := ⟨b, 1, none⟩) hbl).trans q1
        have qa2 : (w3.alloc (.cells #[.pointer fa, .pointer (some ⟨b, 0, none⟩)] 72)).cell? ⟨b, 2, none⟩ = some (.pointer oa2) := ((below_new w3 _).cell (p := ⟨b, 2, none⟩) hbl).trans q2
        go_wp2
        go_roundg r'.length
        case measure => rw [← HG.out]; simp
        case rel =>
          refine ⟨fs, r', acc ++ [(ab, (hdA, hdE))], w3.heap.size, fa2, oa2, zs ++ [(fa, some ⟨hb, 0, none⟩)], ?_, rfl, ?_, rfl, HB3.out.size, Lies.new w3 _ _, HF2.out, HR2.out, ?_, HPA.out.snoc (p := (ab, (hdA, hdE))) (b := some ⟨hb, 0, none⟩) HFS.out HHD.out, ?_⟩
          · rw [HCUT.out, cut, HC1.out]
          · rw [← HTOT.out, List.length_append, List.length_cons, List.length_cons, List.length_nil]; omega
          · rw [ppL_snoc, List.length_append, List.length_cons, List.length_nil]
            exact own_later HOWN3.out (below_new w3 _)
          · exact HB3.out.alloc HB3.out.size _
end So
end Go.Proofs.YtfkakmafedhgdaaGreatDoor.K

/- The machine of package source: an operation is asked for. -/
namespace Go.Proofs.YtfkakmafedhgdaaGreatDoor.K
open Go Go.RowKit
namespace So

theorem MR.konts {w0 : World} {mb : Nat} {H : Mem} {s : St} {tv ev v0 v1 v2 v3 fv hv cv iv lv : Value} {w : World} (h : MR w0 mb H s tv ev v0 v1 v2 v3 fv hv cv iv lv w) :
    MS w0 mb H { s with konts := s.konts + 1 } (w.setCell ⟨mb, 13, none⟩ (.int .i64 ((s.konts : Int) + 1))) := by
  have hl := h.lies.set 13 (.int .i64 ((s.konts : Int) + 1))
  refine ⟨_, _, _, _, _, _, _, _, _, _, _, h.core.set 13 _, ?_, h.at_, h.above, h.hs, h.input⟩
  rw [show ((s.konts : Int) + 1) = ((s.konts + 1 : Nat) : Int) by omega] at hl ⊢
  exact hl
theorem cut_no {w0 : World} {mb : Nat} {H : Mem} {s : St} {w : World} (h : MS w0 mb H s w) (op : Str) (hb : s.hs.length ≤ 1000000) (hc : cut op s.above s.hs [] = none) :
    Calls Tryz.prog 189 #[.pointer (some ⟨mb, 6, none⟩), .string (ba op)] w fun e w' => e = .returned (.tuple #[.slice none 0 0, .pointer none]) ∧ MS w0 mb H s w' :=
  (cut_any h op hb).mono fun e w' h => by
    rcases h with ⟨_, h1, h2⟩ | ⟨_, _, _, _, _, _, _, _, hn, _⟩
    · exact ⟨h1, h2⟩
    · rw [hc] at hn; cases hn
def CutSome (w0 : World) (mb : Nat) (H : Mem) (s : St) (ps : List Part) (hd : Hd) (c : Arm) (be : List Frame) (hs : List (Hd × List Frame)) (e : Ending) (w' : World) : Prop :=
  ∃ V n q cb co, e = .returned (.tuple #[.slice V n q, ptO cb co]) ∧ CutYes w0 mb H s ps hd c be hs (.slice V n q) cb co w'
theorem cut_some {w0 : World} {mb : Nat} {H : Mem} {s : St} {w : World} (h : MS w0 mb H s w) (op : Str) (hb : s.hs.length ≤ 1000000) {ps : List Part} {hd : Hd} {c : Arm} {be : List Frame} {hs : List (Hd × List Frame)} (hc : cut op s.above s.hs [] = some (ps, hd, c, be, hs)) :
    Calls Tryz.prog 189 #[.pointer (some ⟨mb, 6, none⟩), .string (ba op)] w (CutSome w0 mb H s ps hd c be hs) :=
  (cut_any h op hb).mono fun e w' h => by
    rcases h with ⟨hn, _⟩ | ⟨_, _, _, _, _, sv, cb, co, hn, h1, h2⟩
    · rw [hc] at hn; cases hn
    · rw [hc] at hn
      cases hn
      obtain ⟨V, q, rfl⟩ : ∃ V q, sv = .slice V ps.length q := by
        obtain ⟨_, _, _, _, ⟨A, q, h3, _⟩, _⟩ := h2
        exact ⟨A, q, h3⟩
      exact ⟨V, _, q, cb, co, h1, h2⟩
set_option maxRecDepth 100000 in
set_option maxHeartbeats 4000000 in
theorem take_ask_no {w0 : World} {mb : Nat} {H : Mem} {s : St} {w : World} (h : MS w0 mb H s w) {v : Val} {l : List Value} (hv : VV H s.cells.length v l) {op : Str} {fb : Nat} (hr : HR H fb 0 [.string (ba op)]) (hb : s.hs.length ≤ 1000000) (hc : cut op s.above s.hs [] = none) :
    Calls Tryz.prog 188 #[pt fb, pt mb, .agg l.toArray] w (MEnd w0 mb H (s.ends 4)) := by
  obtain ⟨k, n, c, f, rfl, hf⟩ := hv.four
  have hkp := h.alloc (boxO k n c f)
  have hbx : HR (ins H w.heap.size (boxO k n c f)) w.heap.size 0 [.int .i64 k, .int .i64 n, .pointer c, f] := ins_row _ _ _ _
  have hsu : ∀ (H' : Mem) (S : St) (W : World), MLe H H' → MS w0 mb H' S W → Sub H W := fun H' S W k m b o hb => m.sub b o (k b o hb)
  obtain ⟨H1, hH1⟩ : ∃ H1, H1 = ins H w.heap.size (boxO k n c f) := ⟨_, rfl⟩
  rw [← hH1] at hkp hbx
  obtain ⟨k1, hm⟩ := hkp
  clear hH1
  have hv1 := hv.le k1 (Nat.le_refl s.cells.length)
  obtain ⟨W, hW⟩ : ∃ W, W = w.alloc (boxO k n c f) := ⟨_, rfl⟩
  rw [← hW] at hm
  have p0 := (hbx 0 _ rfl).cell hm.sub
  have p1 := (hbx 1 _ rfl).cell hm.sub
  have p2 := (hbx 2 _ rfl).cell hm.sub
  have p3 := (hbx 3 _ rfl).cell hm.sub
  have HW := Lib.hid hW
  have g0 := ((hr 0 _ rfl).le k1).cell hm.sub
  have hcu := cut_no hm.drew op hb hc
  have hs0 : ∀ V, Sub H1 V → V.cell? ⟨fb, 0, none⟩ = some (.string (ba op)) := fun V hV => ((hr 0 _ rfl).le k1).cell hV
  have HS0 := Lib.hid (hs0 W.drew hm.sub)
  have HSS := Lib.hid hs0
  have HCU := Lib.hid hcu
  have K1 := Lib.hid k1
  clear h hv hm hv1 hsu k1 hbx hW hr hcu hb hc hs0
  unfold pt boxO at *
  rcases hf with rfl | ⟨ft, fx, rfl⟩
  · go_enter Tryz.func188, Tryz.ntmps188
    go_wp2_with fail
    rw [← HW.out]
    go_wp2_with fail
    go_region_held3 (fun VV => VV.cell? ⟨fb, 0, none⟩ = some (.string (ba op)))
      (first | with_reducible exact HS0.out | with_reducible exact hS2)
      ((go_at_call 189; refine HCU.out.mono ?_; rintro e w3 ⟨rfl, m3⟩; have hS2 := HSS.out _ m3.sub; have M3 := Lib.hid m3; clear m3))
    all_goals
      have HE := Lib.hid (end_any M3.out 4)
      go_wp2_with fail
      refine HE.out.mono ?_
      rintro e w5 ⟨rfl, H5, k5, m5⟩
      go_wp2
      exact bodyPost_ret (results_none rfl _ _ _) rfl ⟨rfl, H5, K1.out.trans k5, m5⟩
  · go_enter Tryz.func188, Tryz.ntmps188
    go_wp2_with fail
    rw [← HW.out]
    go_wp2_with fail
    go_region_held3 (fun VV => VV.cell? ⟨fb, 0, none⟩ = some (.string (ba op)))
      (first | with_reducible exact HS0.out | with_reducible exact hS2)
      ((go_at_call 189; refine HCU.out.mono ?_; rintro e w3 ⟨rfl, m3⟩; have hS2 := HSS.out _ m3.sub; have M3 := Lib.hid m3; clear m3))
    all_goals
      have HE := Lib.hid (end_any M3.out 4)
      go_wp2_with fail
      refine HE.out.mono ?_
      rintro e w5 ⟨rfl, H5, k5, m5⟩
      go_wp2
      exact bodyPost_ret (results_none rfl _ _ _) rfl ⟨rfl, H5, K1.out.trans k5, m5⟩
set_option maxRecDepth 100000 in
set_option maxHeartbeats 4000000 in
theorem take_ask_yes {w0 : World} {mb : Nat} {H : Mem} {s : St} {w : World} (h : MS w0 mb H s w) {v : Val} {l : List Value} (hv : VV H s.cells.length v l) {op : Str} {fb : Nat} (hr : HR H fb 0 [.string (ba op)]) (hb : s.hs.length ≤ 1000000) (hko : s.konts ≤ 1000000) {ps : List Part} {hd : Hd} {cl : Arm} {be : List Frame} {hss : List (Hd × List Frame)} (hc : cut op s.above s.hs [] = some (ps, hd, cl, be, hss)) :
    Calls Tryz.prog 188 #[pt fb, pt mb, .agg l.toArray] w (MEnd w0 mb H ({ (s.goes cl.2.2 ((nmD cl.2.1 1, .res ps) :: (nmD cl.2.1 0, v) :: hd.2)) with above := be, hs := hss, konts := s.konts + 1 })) := by
  obtain ⟨k, n, c, f, rfl, hf⟩ := hv.four
  have hkp := h.alloc (boxO k n c f)
  have hbx : HR (ins H w.heap.size (boxO k n c f)) w.heap.size 0 [.int .i64 k, .int .i64 n, .pointer c, f] := ins_row _ _ _ _
  have hsu : ∀ (H' : Mem) (S : St) (W : World), MLe H H' → MS w0 mb H' S W → Sub H W := fun H' S W k m b o hb => m.sub b o (k b o hb)
  obtain ⟨H1, hH1⟩ : ∃ H1, H1 = ins H w.heap.size (boxO k n c f) := ⟨_, rfl⟩
  rw [← hH1] at hkp hbx
  obtain ⟨k1, hm⟩ := hkp
  clear hH1
  have hv1 := hv.le k1 (Nat.le_refl s.cells.length)
  obtain ⟨W, hW⟩ : ∃ W, W = w.alloc (boxO k n c f) := ⟨_, rfl⟩
  rw [← hW] at hm
  have p0 := (hbx 0 _ rfl).cell hm.sub
  have p1 := (hbx 1 _ rfl).cell hm.sub
  have p2 := (hbx 2 _ rfl).cell hm.sub
  have p3 := (hbx 3 _ rfl).cell hm.sub
  have HW := Lib.hid hW
  have g0 := ((hr 0 _ rfl).le k1).cell hm.sub
  have hcu := cut_some hm.drew op hb hc
  have hs0 : ∀ V, Sub H1 V → V.cell? ⟨fb, 0, none⟩ = some (.string (ba op)) := fun V hV => ((hr 0 _ rfl).le k1).cell hV
  have HS0 := Lib.hid (hs0 W.drew hm.sub)
  have HSS0 := Lib.hid hs0
  have HCU := Lib.hid hcu
  have HCC := Lib.hid hc
  have K1 := Lib.hid k1
  have HBX := Lib.hid hbx
  have HV1 := Lib.hid hv1
  have HKO := Lib.hid hko
  clear h hv hm hv1 hsu k1 hbx hW hr hcu hb hc hko hs0
  unfold pt boxO at *
  rcases hf with rfl | ⟨ft, fx, rfl⟩
  · go_enter Tryz.func188, Tryz.ntmps188
    go_wp2_with fail
    rw [← HW.out]
    go_wp2_with fail
    go_region_held3 (fun VV => VV.cell? ⟨fb, 0, none⟩ = some (.string (ba op)))
      (first | with_reducible exact HS0.out | with_reducible exact hS2)
      ((go_at_call 189; refine HCU.out.mono ?_; rintro e w3 ⟨V3, n3, cap, cb, co, rfl, cy3⟩; have hS2 := HSS0.out _ (fun x y hx => by obtain ⟨H9, _, k9, m9, _⟩ := cy3; exact m9.sub x y (k9 _ _ hx)); have CY3 := Lib.hid cy3; clear cy3))
    all_goals
      obtain ⟨H3, zs, k3, m3, hsl, hrow, hpa, ⟨ps', ab, hps⟩, vv, hcv, hcs, hct, hc2⟩ := CY3.out
      clear CY3
      obtain ⟨A, cap2, hsv, hcap, hln, hA⟩ := hsl
      injection hsv with e1 e2 e3
      subst e1 e2 e3
      have hpl : ps.length = ps'.length + 1 := by rw [hps]; simp
      obtain ⟨m, hm⟩ : ∃ m, m = ps'.length := ⟨_, rfl⟩
      rw [← hm] at hpl
      obtain ⟨g, so, rfl⟩ := hA (by omega)
      obtain ⟨z, hz⟩ : ∃ z, zs[m]? = some z := ⟨_, List.getElem?_eq_getElem (by rw [hpa.1]; omega)⟩
      have hlast : ps[m]? = some (ab, hd) := by rw [hps, hm, List.getElem?_append_right (Nat.le_refl _)]; simp
      have hhd := (hpa.2 m _ z hlast hz).2
      obtain ⟨hb2, hz2⟩ := hhd.ptr
      rw [hz2] at hhd
      obtain ⟨rv, ev2, hrh, _, _, heh⟩ := hhd.open
      obtain ⟨a, rfl⟩ := heh.ptr
      obtain ⟨⟨VA, vc, rfl, _, _, hVA⟩, hvs⟩ := hcs
      rw [hc2] at hcv hVA hvs
      obtain ⟨vg, vo, rfl⟩ := hVA (by decide)
      obtain ⟨x0, x1, hx⟩ : ∃ x0 x1, cl.2.1 = [x0, x1] := by
        match cl.2.1, hc2 with
        | [x0, x1], _ => exact ⟨x0, x1, rfl⟩
      have hx0 : HC H3 ⟨vg, vo, none⟩ (.string (ba x0)) := hvs 0 x0 (by rw [hx]; rfl)
      have hx1 : HC H3 ⟨vg, vo + 1, none⟩ (.string (ba x1)) := hvs 1 x1 (by rw [hx]; rfl)
      have hz3 : HC H3 ⟨g, so + m * 2 + 1, none⟩ (.pointer (some ⟨hb2, 0, none⟩)) := by
        have h := hrow m z hz 1 _ rfl
        rw [hz2] at h
        exact h
      have hz4 : HC H3 ⟨hb2, 1, none⟩ (.pointer a) := hrh 1 _ rfl
      have hres : VV H3 s.cells.length (.res ps) [.int .i64 6, .int .i64 0, .pointer none, .iface 292 (.slice (some ⟨g, so, none⟩) ps.length cap)] :=
        .res ps _ (fun i => .pointer ((zs[i]?.getD (none, none)).1)) (fun i => .pointer ((zs[i]?.getD (none, none)).2)) ⟨_, _, rfl, hcap, hln, fun _ => ⟨_, _, rfl⟩⟩ (fun i hi => by
          obtain ⟨y, hy⟩ : ∃ y, zs[i]? = some y := ⟨_, List.getElem?_eq_getElem (by rw [hpa.1]; exact hi)⟩
          have h := hrow i y hy
          rw [hy]
          exact h) (fun i p hp => by
          obtain ⟨y, hy⟩ : ∃ y, zs[i]? = some y := ⟨_, List.getElem?_eq_getElem (by rw [hpa.1]; exact (List.getElem?_eq_some_iff.1 hp).1)⟩
          rw [hy]
          exact (hpa.2 i p y hp hy).1) (fun i p hp => by
          obtain ⟨y, hy⟩ : ∃ y, zs[i]? = some y := ⟨_, List.getElem?_eq_getElem (by rw [hpa.1]; exact (List.getElem?_eq_some_iff.1 hp).1)⟩
          rw [hy]
          exact (hpa.2 i p y hp hy).2)
      rw [hpl] at hres hcap ⊢
      have hnm0 : nmD cl.2.1 0 = x0 := by rw [hx]; rfl
      have hnm1 : nmD cl.2.1 1 = x1 := by rw [hx]; rfl
      have HN0 := Lib.hid hnm0
      have HN1 := Lib.hid hnm1
      obtain ⟨tv3, ev3, v03, v13, v23, v33, fv3, hv3, cv3, iv3, lv3, m3⟩ := m3
      have z13 : w3.cell? ⟨mb, 13, none⟩ = some (.int .i64 (s.konts : Int)) := m3.lies.cell 13
      have f13 := m3.lies.free 13
      have hk0 : (0 : Int) ≤ (s.konts : Int) := by omega
      have hk1 : (s.konts : Int) ≤ 1000000 := by have := HKO.out; omega
      have hms := m3.konts
      obtain ⟨w4, hw4⟩ : ∃ w4, w4 = w3.setCell ⟨mb, 13, none⟩ (.int .i64 ((s.konts : Int) + 1)) := ⟨_, rfl⟩
      have hms : MS w0 mb H3 { s with above := be, hs := hss, konts := s.konts + 1 } w4 := by rw [hw4]; exact hms
      have hs1 : ∀ V, Sub H3 V → (V.cell? ⟨w.heap.size, 0, none⟩ = some (.int .i64 k) ∧ V.cell? ⟨w.heap.size, 1, none⟩ = some (.int .i64 n) ∧ V.cell? ⟨w.heap.size, 2, none⟩ = some (.pointer c) ∧ V.cell? ⟨w.heap.size, 3, none⟩ = some .nilIface) ∧ (V.cell? ⟨vg, vo, none⟩ = some (.string (ba x0)) ∧ V.cell? ⟨vg, vo + 1, none⟩ = some (.string (ba x1)) ∧ V.cell? ⟨cb, co + 1, none⟩ = some (.slice (some ⟨vg, vo, none⟩) 2 vc)) ∧ V.cell? ⟨g, so + m * 2 + 1, none⟩ = some (.pointer (some ⟨hb2, 0, none⟩)) ∧ V.cell? ⟨hb2, 1, none⟩ = some (.pointer a) := fun V hV => ⟨⟨((HBX.out 0 _ rfl).le k3).cell hV, ((HBX.out 1 _ rfl).le k3).cell hV, ((HBX.out 2 _ rfl).le k3).cell hV, ((HBX.out 3 _ rfl).le k3).cell hV⟩, ⟨hx0.cell hV, hx1.cell hV, hcv.cell hV⟩, hz3.cell hV, hz4.cell hV⟩
      have hsu : ∀ (H' : Mem) (S : St) (W : World), MLe H3 H' → MS w0 mb H' S W → Sub H3 W := fun H' S W k m b o hb => m.sub b o (k b o hb)
      have HS0 := Lib.hid (hs1 w4.drew hms.drew.sub)
      have HSS := Lib.hid hs1
      have HSU := Lib.hid hsu
      have HWI := Lib.hid (with_any hms.drew (nm := x0) heh (HV1.out.le k3 (Nat.le_refl _)))
      have HMS := Lib.hid hms
      have HRES := Lib.hid hres
      have HCT := Lib.hid hct
      have K3 := Lib.hid k3
      have HW4 := Lib.hid hw4
      have hmc : m < cap := by omega
      have hmi : (m : Int) < (m : Int) + 1 := by omega
      have hm0 : (0 : Int) ≤ (m : Int) := by omega
      have hm1 : m + 1 ≤ 2000000 := by omega
      have hm2 : (m : Int) + 1 ≤ 2000000 := by omega
      have hwm : IntKind.i64.wrap (m : Int) = (m : Int) := IntWalk.i64_in _ (by omega)
      have hwm1 : IntKind.i64.wrap ((m : Int) + 1) = (m : Int) + 1 := IntWalk.i64_in _ (by omega)
      have hmm : m < m + 1 := by omega
      clear hA hln hps hpl hz hlast hhd hz2 hrh heh hvs hVA hx hx0 hx1 hz3 hz4 hres hnm0 hnm1 m3 hms hs1 hsu hw4 k3 hrow hpa hct hcv hm hc2 hcap
      unfold ptO
      go_wp2_with fail
      rw [← HW4.out]
      go_wp2_with fail
      go_region_held3 (fun VV => (VV.cell? ⟨w.heap.size, 0, none⟩ = some (.int .i64 k) ∧ VV.cell? ⟨w.heap.size, 1, none⟩ = some (.int .i64 n) ∧ VV.cell? ⟨w.heap.size, 2, none⟩ = some (.pointer c) ∧ VV.cell? ⟨w.heap.size, 3, none⟩ = some .nilIface) ∧ (VV.cell? ⟨vg, vo, none⟩ = some (.string (ba x0)) ∧ VV.cell? ⟨vg, vo + 1, none⟩ = some (.string (ba x1)) ∧ VV.cell? ⟨cb, co + 1, none⟩ = some (.slice (some ⟨vg, vo, none⟩) 2 vc)) ∧ VV.cell? ⟨g, so + m * 2 + 1, none⟩ = some (.pointer (some ⟨hb2, 0, none⟩)) ∧ VV.cell? ⟨hb2, 1, none⟩ = some (.pointer a))
        (first | with_reducible exact HS0.out | with_reducible exact hS5)
        ((go_at_call 37; refine HWI.out.mono ?_; rintro e w5 ⟨H5, x5, rfl, k5, m5, e5⟩; have hS5 := HSS.out _ (HSU.out _ _ _ k5 m5); have K5 := Lib.hid k5; have M5 := Lib.hid m5; have E5 := Lib.hid e5; clear k5 m5 e5))
      all_goals
        obtain ⟨a5, rfl⟩ := E5.out.ptr
        have HS6 := Lib.hid (HSS.out w5.drew (HSU.out _ _ _ K5.out M5.out.drew))
        have HFU := Lib.hid (fun_ms M5.out.drew (HRES.out.le K5.out (Nat.le_refl _)))
        go_wp2_with fail
        go_region_held3 (fun VV => (VV.cell? ⟨w.heap.size, 0, none⟩ = some (.int .i64 k) ∧ VV.cell? ⟨w.heap.size, 1, none⟩ = some (.int .i64 n) ∧ VV.cell? ⟨w.heap.size, 2, none⟩ = some (.pointer c) ∧ VV.cell? ⟨w.heap.size, 3, none⟩ = some .nilIface) ∧ (VV.cell? ⟨vg, vo, none⟩ = some (.string (ba x0)) ∧ VV.cell? ⟨vg, vo + 1, none⟩ = some (.string (ba x1)) ∧ VV.cell? ⟨cb, co + 1, none⟩ = some (.slice (some ⟨vg, vo, none⟩) 2 vc)) ∧ VV.cell? ⟨g, so + m * 2 + 1, none⟩ = some (.pointer (some ⟨hb2, 0, none⟩)) ∧ VV.cell? ⟨hb2, 1, none⟩ = some (.pointer a))
          (first | with_reducible exact HS6.out | with_reducible exact hS7 | with_reducible exact hS8 | with_reducible exact hS9)
          ((first | (go_at_call 35; refine HFU.out.mono ?_; rintro e w7 ⟨x7, rfl, m7, _, hx7⟩; have hS7 := HSS.out _ (HSU.out _ _ _ K5.out m7); have M7 := Lib.hid m7; have X7 := Lib.hid hx7; clear m7 hx7) | (go_at_call 37; refine (with_agg M7.out E5.out X7.out).mono ?_; rintro e w8 ⟨H8, x8, rfl, k8, m8, e8⟩; have hS8 := HSS.out _ (HSU.out _ _ _ (K5.out.trans k8) m8); have K8 := Lib.hid (K5.out.trans k8); have M8 := Lib.hid m8; have E8 := Lib.hid e8; clear k8 m8 e8) | (go_at_call 36; refine (at_any M8.out (HCT.out.le K8.out) E8.out).mono ?_; rintro e w9 ⟨rfl, H9, k9, m9⟩; have hS9 := HSS.out _ (HSU.out _ _ _ (K8.out.trans k9) m9); have K9 := Lib.hid (K8.out.trans k9); have M9 := Lib.hid m9; clear k9 m9)))
        all_goals
          go_wp2
          go_end0
          exact ⟨rfl, H9, (K1.out.trans K3.out).trans K9.out, by rw [HN0.out, HN1.out]; exact M9.out⟩
  · go_enter Tryz.func188, Tryz.ntmps188
    go_wp2_with fail
    rw [← HW.out]
    go_wp2_with fail
    go_region_held3 (fun VV => VV.cell? ⟨fb, 0, none⟩ = some (.string (ba op)))
      (first | with_reducible exact HS0.out | with_reducible exact hS2)
      ((go_at_call 189; refine HCU.out.mono ?_; rintro e w3 ⟨V3, n3, cap, cb, co, rfl, cy3⟩; have hS2 := HSS0.out _ (fun x y hx => by obtain ⟨H9, _, k9, m9, _⟩ := cy3; exact m9.sub x y (k9 _ _ hx)); have CY3 := Lib.hid cy3; clear cy3))
    all_goals
      obtain ⟨H3, zs, k3, m3, hsl, hrow, hpa, ⟨ps', ab, hps⟩, vv, hcv, hcs, hct, hc2⟩ := CY3.out
      clear CY3
      obtain ⟨A, cap2, hsv, hcap, hln, hA⟩ := hsl
      injection hsv with e1 e2 e3
      subst e1 e2 e3
      have hpl : ps.length = ps'.length + 1 := by rw [hps]; simp
      obtain ⟨m, hm⟩ : ∃ m, m = ps'.length := ⟨_, rfl⟩
      rw [← hm] at hpl
      obtain ⟨g, so, rfl⟩ := hA (by omega)
      obtain ⟨z, hz⟩ : ∃ z, zs[m]? = some z := ⟨_, List.getElem?_eq_getElem (by rw [hpa.1]; omega)⟩
      have hlast : ps[m]? = some (ab, hd) := by rw [hps, hm, List.getElem?_append_right (Nat.le_refl _)]; simp
      have hhd := (hpa.2 m _ z hlast hz).2
      obtain ⟨hb2, hz2⟩ := hhd.ptr
      rw [hz2] at hhd
      obtain ⟨rv, ev2, hrh, _, _, heh⟩ := hhd.open
      obtain ⟨a, rfl⟩ := heh.ptr
      obtain ⟨⟨VA, vc, rfl, _, _, hVA⟩, hvs⟩ := hcs
      rw [hc2] at hcv hVA hvs
      obtain ⟨vg, vo, rfl⟩ := hVA (by decide)
      obtain ⟨x0, x1, hx⟩ : ∃ x0 x1, cl.2.1 = [x0, x1] := by
        match cl.2.1, hc2 with
        | [x0, x1], _ => exact ⟨x0, x1, rfl⟩
      have hx0 : HC H3 ⟨vg, vo, none⟩ (.string (ba x0)) := hvs 0 x0 (by rw [hx]; rfl)
      have hx1 : HC H3 ⟨vg, vo + 1, none⟩ (.string (ba x1)) := hvs 1 x1 (by rw [hx]; rfl)
      have hz3 : HC H3 ⟨g, so + m * 2 + 1, none⟩ (.pointer (some ⟨hb2, 0, none⟩)) := by
        have h := hrow m z hz 1 _ rfl
        rw [hz2] at h
        exact h
      have hz4 : HC H3 ⟨hb2, 1, none⟩ (.pointer a) := hrh 1 _ rfl
      have hres : VV H3 s.cells.length (.res ps) [.int .i64 6, .int .i64 0, .pointer none, .iface 292 (.slice (some ⟨g, so, none⟩) ps.length cap)] :=
        .res ps _ (fun i => .pointer ((zs[i]?.getD (none, none)).1)) (fun i => .pointer ((zs[i]?.getD (none, none)).2)) ⟨_, _, rfl, hcap, hln, fun _ => ⟨_, _, rfl⟩⟩ (fun i hi => by
          obtain ⟨y, hy⟩ : ∃ y, zs[i]? = some y := ⟨_, List.getElem?_eq_getElem (by rw [hpa.1]; exact hi)⟩
          have h := hrow i y hy
          rw [hy]
          exact h) (fun i p hp => by
          obtain ⟨y, hy⟩ : ∃ y, zs[i]? = some y := ⟨_, List.getElem?_eq_getElem (by rw [hpa.1]; exact (List.getElem?_eq_some_iff.1 hp).1)⟩
          rw [hy]
          exact (hpa.2 i p y hp hy).1) (fun i p hp => by
          obtain ⟨y, hy⟩ : ∃ y, zs[i]? = some y := ⟨_, List.getElem?_eq_getElem (by rw [hpa.1]; exact (List.getElem?_eq_some_iff.1 hp).1)⟩
          rw [hy]
          exact (hpa.2 i p y hp hy).2)
      rw [hpl] at hres hcap ⊢
      have hnm0 : nmD cl.2.1 0 = x0 := by rw [hx]; rfl
      have hnm1 : nmD cl.2.1 1 = x1 := by rw [hx]; rfl
      have HN0 := Lib.hid hnm0
      have HN1 := Lib.hid hnm1
      obtain ⟨tv3, ev3, v03, v13, v23, v33, fv3, hv3, cv3, iv3, lv3, m3⟩ := m3
      have z13 : w3.cell? ⟨mb, 13, none⟩ = some (.int .i64 (s.konts : Int)) := m3.lies.cell 13
      have f13 := m3.lies.free 13
      have hk0 : (0 : Int) ≤ (s.konts : Int) := by omega
      have hk1 : (s.konts : Int) ≤ 1000000 := by have := HKO.out; omega
      have hms := m3.konts
      obtain ⟨w4, hw4⟩ : ∃ w4, w4 = w3.setCell ⟨mb, 13, none⟩ (.int .i64 ((s.konts : Int) + 1)) := ⟨_, rfl⟩
      have hms : MS w0 mb H3 { s with above := be, hs := hss, konts := s.konts + 1 } w4 := by rw [hw4]; exact hms
      have hs1 : ∀ V, Sub H3 V → (V.cell? ⟨w.heap.size, 0, none⟩ = some (.int .i64 k) ∧ V.cell? ⟨w.heap.size, 1, none⟩ = some (.int .i64 n) ∧ V.cell? ⟨w.heap.size, 2, none⟩ = some (.pointer c) ∧ V.cell? ⟨w.heap.size, 3, none⟩ = some (.iface ft fx)) ∧ (V.cell? ⟨vg, vo, none⟩ = some (.string (ba x0)) ∧ V.cell? ⟨vg, vo + 1, none⟩ = some (.string (ba x1)) ∧ V.cell? ⟨cb, co + 1, none⟩ = some (.slice (some ⟨vg, vo, none⟩) 2 vc)) ∧ V.cell? ⟨g, so + m * 2 + 1, none⟩ = some (.pointer (some ⟨hb2, 0, none⟩)) ∧ V.cell? ⟨hb2, 1, none⟩ = some (.pointer a) := fun V hV => ⟨⟨((HBX.out 0 _ rfl).le k3).cell hV, ((HBX.out 1 _ rfl).le k3).cell hV, ((HBX.out 2 _ rfl).le k3).cell hV, ((HBX.out 3 _ rfl).le k3).cell hV⟩, ⟨hx0.cell hV, hx1.cell hV, hcv.cell hV⟩, hz3.cell hV, hz4.cell hV⟩
      have hsu : ∀ (H' : Mem) (S : St) (W : World), MLe H3 H' → MS w0 mb H' S W → Sub H3 W := fun H' S W k m b o hb => m.sub b o (k b o hb)
      have HS0 := Lib.hid (hs1 w4.drew hms.drew.sub)
      have HSS := Lib.hid hs1
      have HSU := Lib.hid hsu
      have HWI := Lib.hid (with_any hms.drew (nm := x0) heh (HV1.out.le k3 (Nat.le_refl _)))
      have HMS := Lib.hid hms
      have HRES := Lib.hid hres
      have HCT := Lib.hid hct
      have K3 := Lib.hid k3
      have HW4 := Lib.hid hw4
      have hmc : m < cap := by omega
      have hmi : (m : Int) < (m : Int) + 1 := by omega
      have hm0 : (0 : Int) ≤ (m : Int) := by omega
      have hm1 : m + 1 ≤ 2000000 := by omega
      have hm2 : (m : Int) + 1 ≤ 2000000 := by omega
      have hwm : IntKind.i64.wrap (m : Int) = (m : Int) := IntWalk.i64_in _ (by omega)
      have hwm1 : IntKind.i64.wrap ((m : Int) + 1) = (m : Int) + 1 := IntWalk.i64_in _ (by omega)
      have hmm : m < m + 1 := by omega
      clear hA hln hps hpl hz hlast hhd hz2 hrh heh hvs hVA hx hx0 hx1 hz3 hz4 hres hnm0 hnm1 m3 hms hs1 hsu hw4 k3 hrow hpa hct hcv hm hc2 hcap
      unfold ptO
      go_wp2_with fail
      rw [← HW4.out]
      go_wp2_with fail
      go_region_held3 (fun VV => (VV.cell? ⟨w.heap.size, 0, none⟩ = some (.int .i64 k) ∧ VV.cell? ⟨w.heap.size, 1, none⟩ = some (.int .i64 n) ∧ VV.cell? ⟨w.heap.size, 2, none⟩ = some (.pointer c) ∧ VV.cell? ⟨w.heap.size, 3, none⟩ = some (.iface ft fx)) ∧ (VV.cell? ⟨vg, vo, none⟩ = some (.string (ba x0)) ∧ VV.cell? ⟨vg, vo + 1, none⟩ = some (.string (ba x1)) ∧ VV.cell? ⟨cb, co + 1, none⟩ = some (.slice (some ⟨vg, vo, none⟩) 2 vc)) ∧ VV.cell? ⟨g, so + m * 2 + 1, none⟩ = some (.pointer (some ⟨hb2, 0, none⟩)) ∧ VV.cell? ⟨hb2, 1, none⟩ = some (.pointer a))
        (first | with_reducible exact HS0.out | with_reducible exact hS5)
        ((go_at_call 37; refine HWI.out.mono ?_; rintro e w5 ⟨H5, x5, rfl, k5, m5, e5⟩; have hS5 := HSS.out _ (HSU.out _ _ _ k5 m5); have K5 := Lib.hid k5; have M5 := Lib.hid m5; have E5 := Lib.hid e5; clear k5 m5 e5))
      all_goals
        obtain ⟨a5, rfl⟩ := E5.out.ptr
        have HS6 := Lib.hid (HSS.out w5.drew (HSU.out _ _ _ K5.out M5.out.drew))
        have HFU := Lib.hid (fun_ms M5.out.drew (HRES.out.le K5.out (Nat.le_refl _)))
        go_wp2_with fail
        go_region_held3 (fun VV => (VV.cell? ⟨w.heap.size, 0, none⟩ = some (.int .i64 k) ∧ VV.cell? ⟨w.heap.size, 1, none⟩ = some (.int .i64 n) ∧ VV.cell? ⟨w.heap.size, 2, none⟩ = some (.pointer c) ∧ VV.cell? ⟨w.heap.size, 3, none⟩ = some (.iface ft fx)) ∧ (VV.cell? ⟨vg, vo, none⟩ = some (.string (ba x0)) ∧ VV.cell? ⟨vg, vo + 1, none⟩ = some (.string (ba x1)) ∧ VV.cell? ⟨cb, co + 1, none⟩ = some (.slice (some ⟨vg, vo, none⟩) 2 vc)) ∧ VV.cell? ⟨g, so + m * 2 + 1, none⟩ = some (.pointer (some ⟨hb2, 0, none⟩)) ∧ VV.cell? ⟨hb2, 1, none⟩ = some (.pointer a))
          (first | with_reducible exact HS6.out | with_reducible exact hS7 | with_reducible exact hS8 | with_reducible exact hS9)
          ((first | (go_at_call 35; refine HFU.out.mono ?_; rintro e w7 ⟨x7, rfl, m7, _, hx7⟩; have hS7 := HSS.out _ (HSU.out _ _ _ K5.out m7); have M7 := Lib.hid m7; have X7 := Lib.hid hx7; clear m7 hx7) | (go_at_call 37; refine (with_agg M7.out E5.out X7.out).mono ?_; rintro e w8 ⟨H8, x8, rfl, k8, m8, e8⟩; have hS8 := HSS.out _ (HSU.out _ _ _ (K5.out.trans k8) m8); have K8 := Lib.hid (K5.out.trans k8); have M8 := Lib.hid m8; have E8 := Lib.hid e8; clear k8 m8 e8) | (go_at_call 36; refine (at_any M8.out (HCT.out.le K8.out) E8.out).mono ?_; rintro e w9 ⟨rfl, H9, k9, m9⟩; have hS9 := HSS.out _ (HSU.out _ _ _ (K8.out.trans k9) m9); have K9 := Lib.hid (K8.out.trans k9); have M9 := Lib.hid m9; clear k9 m9)))
        all_goals
          go_wp2
          go_end0
          exact ⟨rfl, H9, (K1.out.trans K3.out).trans K9.out, by rw [HN0.out, HN1.out]; exact M9.out⟩
end So
end Go.Proofs.YtfkakmafedhgdaaGreatDoor.K
