/- Contracts of (*strings.Builder).WriteByte and WriteString, of Text, and of Same. -/
import Derived.Test.YtnkfkaahjplnmaaGreatDoorGcLexB
import Derived.Lib.Builder
import Derived.Lib.AppendStr
import Derived.Lib.UnsafeStr
import Derived.Laws.Externs
import Derived.Deep.QuietTactic
import Derived.BigQuiet
namespace Go.Proofs.YtnkfkaahjplnmaaGreatDoor
open Go.RowKit

theorem Tryz.info70 : (Tryz.prog.info? 70).map (·.size) = some 2 := by kernel_rfl
theorem Tryz.lies70 : liesAt Tryz.prog Tryz.prog.depth 70 (2 / Tryz.prog.cellsOf 70) 0 70 1 = true := by kernel_rfl
theorem Tryz.info5 : (Tryz.prog.info? 5).map (fun i => (i.zero, i.size, i.bytes)) = some (some (.int .u8 0), 1, 1) := by kernel_rfl

set_option maxRecDepth 100000 in
set_option maxHeartbeats 1000000 in
theorem check_used (b : Nat) (w : World) (h0 : w.cell? ⟨b, 0, none⟩ = some (.pointer (some ⟨b, 0, none⟩))) :
    Calls Tryz.prog 40 #[.pointer (some ⟨b, 0, none⟩)] w fun e w' => e = .returned (.tuple #[]) ∧ w = w' := by
  obtain ⟨j, hj, _⟩ := Option.map_eq_some_iff.1 Tryz.info70
  go_enter Tryz.func40, Tryz.ntmps40
  go_wp2
  rw [Lib.run_neq_ptr_same w _ Tryz.underlying68 hj]
  go_wp2
  go_end0
  exact ⟨rfl, rfl⟩
set_option maxRecDepth 100000 in
set_option maxHeartbeats 1000000 in
theorem check_fresh (b : Nat) (w : World) (h0 : w.cell? ⟨b, 0, none⟩ = some (.pointer none)) (hsh : w.shape? b = some (70, 2)) (hfz : w.frozen? ⟨b, 0, none⟩ = false) :
    Calls Tryz.prog 40 #[.pointer (some ⟨b, 0, none⟩)] w fun e w' => e = .returned (.tuple #[]) ∧ w' = w.setCell ⟨b, 0, none⟩ (.pointer (some ⟨b, 0, none⟩)) := by
  obtain ⟨j, hj, hjs⟩ := Option.map_eq_some_iff.1 Tryz.info70
  have k1 := Lib.run_to_unsafe w ⟨b, 0, none⟩ Tryz.underlying68 Tryz.underlying127 hj (by rw [hjs]; decide) hsh (Nat.zero_lt_succ 1)
  have k2 := Lib.run_from_unsafe w ⟨b, 0, none⟩ Tryz.underlying127 Tryz.underlying68 hj hsh Tryz.lies70
  have k3 : (callFunc 63 #[.pointer (some ⟨b, 0, none⟩)]).run Tryz.prog w = .ok (.value (.pointer (some ⟨b, 0, none⟩))) w := by
    rw [run_callFunc_extern Tryz.func63 (by kernel_rfl) (by kernel_rfl) (by kernel_rfl) (e := Extern.AbiNoEscape.same) (by kernel_rfl)]
    rfl
  go_enter Tryz.func40, Tryz.ntmps40
  go_wp2
  go_end0
  exact ⟨rfl, rfl⟩

/-- A builder in a block of the call's own, holding some bytes. -/
def Bld (w : World) (B b : Nat) (l : List UInt8) : Prop := Lib.IsBuilder 70 5 B b (Lib.byteCells l) w
def Used (w : World) (B b : Nat) (l : List UInt8) : Prop := Lib.BuilderAt 70 5 B b (.pointer (some ⟨b, 0, none⟩)) (Lib.byteCells l) w
/-- What is neither the builder nor a row of bytes stays. -/
def Keeps (b : Nat) (w w' : World) : Prop := ∀ g t cs, t ≠ 5 → g ≠ b → Lies w g t cs → Lies w' g t cs
theorem check_any (B b : Nat) (l : List UInt8) (w : World) (h : Bld w B b l) :
    Calls Tryz.prog 40 #[.pointer (some ⟨b, 0, none⟩)] w fun e w' => e = .returned (.tuple #[]) ∧ Used w' B b l ∧ Below B w w' ∧ Keeps b w w' := by
  rcases h with h | h
  · refine (check_fresh b w h.cell0 h.shape h.frozen0).mono ?_
    rintro e w' ⟨rfl, rfl⟩
    exact ⟨rfl, h.used _, (Below.refl B w).setCell (p := ⟨b, 0, none⟩) h.1 _, fun _ _ _ _ hg hl => hl.far hg _⟩
  · refine (check_used b w h.cell0).mono ?_
    rintro e w' ⟨rfl, rfl⟩
    exact ⟨rfl, h, Below.refl B _, fun _ _ _ _ _ hl => hl⟩
theorem Used.bld {w : World} {B b : Nat} {l : List UInt8} (h : Used w B b l) : Bld w B b l := .inr h
theorem builder_alloc {w : World} {B b : Nat} {p : Value} {bs : List Value} (h : Lib.BuilderAt 70 5 B b p bs w) (o : Obj) : Lib.BuilderAt 70 5 B b p bs (w.alloc o) := by
  obtain ⟨hB, v, hb, hown, hne⟩ := h
  exact ⟨hB, v, heap_alloc_some hb o, hown.alloc o, hne⟩
theorem Bld.alloc {w : World} {B b : Nat} {l : List UInt8} (h : Bld w B b l) (o : Obj) : Bld (w.alloc o) B b l := h.imp (fun h => builder_alloc h o) fun h => builder_alloc h o

def WbEnd (w : World) (B b : Nat) (l : List UInt8) (r : Value) (e : Ending) (w' : World) : Prop := e = .returned r ∧ Used w' B b l ∧ Below B w w' ∧ Keeps b w w'
set_option maxRecDepth 100000 in
set_option maxHeartbeats 2000000 in
theorem writeByte_any (B b : Nat) (l : List UInt8) (c : UInt8) (w : World) (h : Bld w B b l) (hlen : l.length + 1 ≤ 140737488355328) (hBw : B ≤ w.heap.size) :
    Calls Tryz.prog 17 #[.pointer (some ⟨b, 0, none⟩), .int .u8 (c.toNat : Int)] w (WbEnd w B b (l ++ [c]) .nilIface) := by
  obtain ⟨i0, hi, hz0, hz1, hz2⟩ := info_parts Tryz.info5
  go_enter Tryz.func17, Tryz.ntmps17
  go_wp2_with (go_at_call 40; refine (check_any B b l _ h).mono ?_)
  rintro e w1 ⟨rfl, ⟨hB, v, hbk, hown, hne⟩, hb1, hK1⟩
  rw [Lib.byteCells_length] at hown
  have hL : Lies w1 b 70 #[.pointer (some ⟨b, 0, none⟩), v] := hbk
  have c0 : w1.cell? ⟨b, 0, none⟩ = some (.pointer (some ⟨b, 0, none⟩)) := hL.cell 0
  have c1 : w1.cell? ⟨b, 1, none⟩ = some v := hL.cell 1
  go_wp2_with (at_builtin; go_loud (refine wpList_append_own _ rfl (.tmp 11) (.tmp 13) 22 rfl B 5 i0 (.int .u8 0) 1 1 Tryz.underlying22 hi hz0 hz1 hz2 rfl (by decide) _ _ _ rfl (hown.alloc _) ⟨w1.heap.size, 0, none⟩ 1 1 [.int .u8 (c.toNat : Int)] rfl rfl ?c1 ?c2 ?c3 ?c4 ?c5 ?_))
  case c1 =>
    intro j u hj
    match j, hj with
    | 0, hj => simp at hj; subst hj; simp [Addr.add]
  case c2 => intro u hu; simp at hu; subst hu; rfl
  case c3 => unfold maxLen; omega
  case c4 => omega
  case c5 => have := hb1.size; simp; omega
  intro v' w2 hown' hgrow _
  have hL2 : Lies w2 b 70 #[.pointer (some ⟨b, 0, none⟩), v] := (hL.alloc _).grown hgrow (fun e => hne e.symm)
  have d0 : w2.cell? ⟨b, 0, none⟩ = some (.pointer (some ⟨b, 0, none⟩)) := hL2.cell 0
  have d1 : w2.cell? ⟨b, 1, none⟩ = some v := hL2.cell 1
  have f1 : w2.frozen? ⟨b, 1, none⟩ = false := hL2.free 1
  have hBl := ((hb1.alloc (by have := hb1.size; omega) (.cells #[.int .u8 (c.toNat : Int)] 5)).grown hgrow (by have := hb1.size; simp; omega) (fun k hk => (hown.lt k hk).1)).setCell (p := ⟨b, 1, none⟩) hB v'
  have hput := Lib.BuilderAt.put (T := 70) (e := 5) hB hL2 (bs' := Lib.byteCells (l ++ [c])) (v' := v') (by simpa [Lib.byteCells] using hown') (by decide)
  have hK : Keeps b w (w2.setCell ⟨b, 1, none⟩ v') := fun g t cs ht hg hl => (((hK1 g t cs ht hg hl).alloc (.cells #[.int .u8 (c.toNat : Int)] 5)).grown hgrow (((hK1 g t cs ht hg hl).apart hown (Ne.symm ht)))).far hg _
  obtain ⟨ao, n', cap, rfl⟩ : ∃ ao n' cap, v' = .slice ao n' cap := by
    rcases hown'.2 with ⟨hv, _⟩ | ⟨g, cap, cur, hv, _⟩
    · exact ⟨_, _, _, hv⟩
    · exact ⟨_, _, _, hv⟩
  clear hown' hgrow hown
  go_wp2
  go_ret
  exact ⟨rfl, hput, hBl, hK⟩
set_option maxRecDepth 100000 in
set_option maxHeartbeats 2000000 in
theorem writeString_any (B b : Nat) (l : List UInt8) (s : ByteArray) (w : World) (h : Bld w B b l) (hlen : l.length + s.size ≤ 140737488355328) (hBw : B ≤ w.heap.size) :
    Calls Tryz.prog 18 #[.pointer (some ⟨b, 0, none⟩), .string s] w (WbEnd w B b (l ++ s.data.toList) (.tuple #[.int .i64 (s.size : Int), .nilIface])) := by
  obtain ⟨i0, hi, hz0, hz1, hz2⟩ := info_parts Tryz.info5
  go_enter Tryz.func18, Tryz.ntmps18
  go_wp2_with (go_at_call 40; refine (check_any B b l _ h).mono ?_)
  rintro e w1 ⟨rfl, ⟨hB, v, hbk, hown, hne⟩, hb1, hK1⟩
  rw [Lib.byteCells_length] at hown
  have hL : Lies w1 b 70 #[.pointer (some ⟨b, 0, none⟩), v] := hbk
  have c0 : w1.cell? ⟨b, 0, none⟩ = some (.pointer (some ⟨b, 0, none⟩)) := hL.cell 0
  have c1 : w1.cell? ⟨b, 1, none⟩ = some v := hL.cell 1
  go_wp2_with (at_builtin; go_loud (refine Lib.wpList_append_own_string _ rfl (.tmp 12) (.tmp 13) 22 9 rfl B 5 i0 Tryz.underlying22 Tryz.underlying9 hi hz0 hz1 hz2 _ _ _ rfl hown s rfl ?c3 ?c4 ?c5 ?_))
  case c3 => unfold maxLen; omega
  case c4 => omega
  case c5 => have := hb1.size; omega
  intro v' w2 hown' hgrow _
  have hL2 : Lies w2 b 70 #[.pointer (some ⟨b, 0, none⟩), v] := hL.grown hgrow (fun e => hne e.symm)
  have d0 : w2.cell? ⟨b, 0, none⟩ = some (.pointer (some ⟨b, 0, none⟩)) := hL2.cell 0
  have d1 : w2.cell? ⟨b, 1, none⟩ = some v := hL2.cell 1
  have f1 : w2.frozen? ⟨b, 1, none⟩ = false := hL2.free 1
  have hBl := (hb1.grown hgrow (by have := hb1.size; omega) (fun k hk => (hown.lt k hk).1)).setCell (p := ⟨b, 1, none⟩) hB v'
  have hsz : s.data.toList.length = s.size := by simp
  have hput := Lib.BuilderAt.put (T := 70) (e := 5) hB hL2 (bs' := Lib.byteCells (l ++ s.data.toList)) (v' := v') (by
    have e1 : Lib.byteCells (l ++ s.data.toList) = Lib.byteCells l ++ Lib.strCells s := by simp [Lib.byteCells, Lib.strCells]
    have e2 : (Lib.byteCells (l ++ s.data.toList)).length = l.length + s.size := by rw [Lib.byteCells_length, List.length_append, hsz]
    rw [e2, e1]; exact hown') (by decide)
  have hK : Keeps b w (w2.setCell ⟨b, 1, none⟩ v') := fun g t cs ht hg hl => ((hK1 g t cs ht hg hl).grown hgrow (((hK1 g t cs ht hg hl).apart hown (Ne.symm ht)))).far hg _
  obtain ⟨ao, n', cap, rfl⟩ : ∃ ao n' cap, v' = .slice ao n' cap := by
    rcases hown'.2 with ⟨hv, _⟩ | ⟨g, cap, cur, hv, _⟩
    · exact ⟨_, _, _, hv⟩
    · exact ⟨_, _, _, hv⟩
  clear hown' hgrow hown hsz
  go_wp2
  go_ret2
  exact ⟨rfl, hput, hBl, hK⟩
end Go.Proofs.YtnkfkaahjplnmaaGreatDoor

/- The contract of Text. -/
namespace Go.Proofs.YtnkfkaahjplnmaaGreatDoor
open Go.RowKit

/-- A word as it is written. -/
def wB (x : Lx.Tk) : List UInt8 := if x.k = 6 then x.t ++ [33] else x.t
def textF : List Lx.Tk → List UInt8
  | [] => []
  | x :: r => wB x ++ r.flatMap fun y => 32 :: wB y
theorem textF_snoc (l : List Lx.Tk) (x : Lx.Tk) : textF (l ++ [x]) = (if l = [] then [] else textF l ++ [32]) ++ wB x := by
  cases l with
  | nil => simp [textF]
  | cons y r => simp [textF]
theorem take_snoc (ws : List Lx.Tk) (i : Nat) (x : Lx.Tk) (h : ws[i]? = some x) : ws.take (i + 1) = ws.take i ++ [x] := by
  obtain ⟨hi, rfl⟩ := List.getElem?_eq_some_iff.1 h
  rw [List.take_succ_eq_append_getElem hi]
theorem textF_take_le (ws : List Lx.Tk) (i : Nat) : (textF (ws.take i)).length ≤ (textF ws).length := by
  cases ws with
  | nil => simp [textF]
  | cons y r =>
    cases i with
    | zero => simp [textF]
    | succ i =>
      simp only [List.take_succ_cons, textF, List.length_append, List.length_flatMap]
      have : ((r.take i).map fun y => (32 :: wB y).length).sum ≤ (r.map fun y => (32 :: wB y).length).sum := by
        have h2 : (r.map fun y => (32 :: wB y).length).sum = ((r.take i).map fun y => (32 :: wB y).length).sum + ((r.drop i).map fun y => (32 :: wB y).length).sum := by
          rw [← List.sum_append, ← List.map_append, List.take_append_drop]
        omega
      omega

theorem writeByte_at (B b : Nat) (l : List UInt8) (c : UInt8) (i : Int) (hi : (c.toNat : Int) = i) (w : World) (h : Bld w B b l) (hlen : l.length + 1 ≤ 140737488355328) (hBw : B ≤ w.heap.size) :
    Calls Tryz.prog 17 #[.pointer (some ⟨b, 0, none⟩), .int .u8 i] w (WbEnd w B b (l ++ [c]) .nilIface) := by
  subst hi; exact writeByte_any B b l c w h hlen hBw
theorem bld_lt {w : World} {B b : Nat} {l : List UInt8} (h : Bld w B b l) : b < w.heap.size := by
  rcases h with h | h <;> exact h.lt
def TextEnd (ws : List Lx.Tk) (w : World) (e : Ending) (w' : World) : Prop := e = .returned (.string (ba (textF ws))) ∧ Below w.heap.size w w'
def TextRel (ws : List Lx.Tk) (w : World) (i : Value) (wr : World) : Prop := ∃ k : Nat, k ≤ ws.length ∧ i = .int .i64 k ∧ Bld wr w.heap.size w.heap.size (textF (ws.take k)) ∧ Below w.heap.size w wr
set_option maxRecDepth 100000 in
set_option maxHeartbeats 1500000 in
theorem text_any (v : Value) (ws : List Lx.Tk) (w : World) (h : Ts w v ws) (hlen : (textF ws).length ≤ 1000000) (hn : ws.length ≤ 1000000) :
    Calls Tryz.prog 8 #[v] w (TextEnd ws w) := by
  obtain ⟨A, c, rfl, hc, hcell⟩ := h
  go_enter Tryz.func8, Tryz.ntmps8
  go_wp2
  go_loopw [8] (fun i wr => TextRel ws w i wr) (fun i _ => ws.length - (intOf i).toNat)
  case atStart => exact ⟨0, Nat.zero_le _, rfl, Lib.fresh_isBuilder 70 5 w, (Below.refl _ _).alloc (by simp) _⟩
  case round =>
    rename_i wr
    obtain ⟨k, hk, rfl, hbld, hnx⟩ := hrel
    have hsz := hnx.size
    by_cases hlt : k < ws.length
    · obtain ⟨x, hx⟩ : ∃ x, ws[k]? = some x := ⟨_, List.getElem?_eq_getElem hlt⟩
      obtain ⟨g, o, hA, hcells⟩ := hcell (by omega)
      subst hA
      have hts : Ts wr (.slice (some ⟨g, o, none⟩) ws.length c) ws := Ts.later ⟨_, c, rfl, hc, fun _ => ⟨g, o, rfl, hcells⟩⟩ hnx
      obtain ⟨x0, x1, x2, x3⟩ := hts.at_ hx
      have hbd := textF_take_le ws (k + 1)
      have hsn := take_snoc ws k x hx
      rw [hsn, textF_snoc] at hbd
      have HSN := Lib.hid hsn
      clear hts hcells hcell hsn hx
      have hL := Lies.new wr 47 #[.int .i64 (x.k : Int), .string (ba x.t), .int .i64 (x.n : Int), .int .i64 (x.pos : Int)]
      have hB0 := hbld.alloc (.cells #[.int .i64 (x.k : Int), .string (ba x.t), .int .i64 (x.n : Int), .int .i64 (x.pos : Int)] 47)
      have hN0 := hnx.alloc (by omega) (.cells #[.int .i64 (x.k : Int), .string (ba x.t), .int .i64 (x.n : Int), .int .i64 (x.pos : Int)] 47)
      have hxs := ba_size x.t
      have hxl := ba_list x.t
      have HXS := Lib.hid hxs
      have HXL := Lib.hid hxl
      have hne : wr.heap.size ≠ w.heap.size := fun e => by
        have := bld_lt hbld
        omega
      clear hxs hxl hbld
      by_cases hs6 : x.k = 6
      · have h6 := Lib.hid hs6
        have h6' : ((x.k : Int) == 6) = true := by simp; omega
        have hwl : (wB x).length = x.t.length + 1 := by simp [wB, hs6]
        clear hs6
        by_cases hk0 : k = 0
        · have hT0 : textF (ws.take k) = [] := by subst hk0; rfl
          have hW0 : ws.take k = [] := by subst hk0; rfl
          have hkz : k ≤ 0 := by omega
          rw [if_pos hW0, List.nil_append, hwl] at hbd
          have hbd2 : (ba x.t).size ≤ 1000000 := by rw [HXS.out]; omega
          clear hk0 hwl
          have hB1 : Bld (wr.alloc (.cells #[.int .i64 (x.k : Int), .string (ba x.t), .int .i64 (x.n : Int), .int .i64 (x.pos : Int)] 47)) w.heap.size w.heap.size [] := by rw [hT0] at hB0; exact hB0
          go_wp2_with fail
          refine (writeString_any w.heap.size w.heap.size [] (ba x.t) _ hB1 (by simp; omega) (by simp <;> omega)).mono ?_
          rintro e w2 ⟨rfl, hU2, hBl2, hK2⟩
          have hL2 := hK2 _ _ _ (by decide) hne hL
          have hz2 := hBl2.size
          obtain ⟨d0, d1, d2, d3, hg⟩ := tok_cells hL2
          go_wp2_with fail
          refine (writeByte_at w.heap.size w.heap.size ([] ++ (ba x.t).data.toList) 33 33 rfl _ hU2.bld (by simp [HXL.out]; omega) (by simp at hz2; omega)).mono ?_
          rintro e w3 ⟨rfl, hU3, hBl3, hK3⟩
          go_wp2
          go_roundw
          case rel =>
            refine ⟨k + 1, by omega, by go_num, ?_, ((hN0).trans hBl2).trans hBl3⟩
            have hfin := hU3.bld
            rw [HXL.out] at hfin
            rw [HSN.out, textF_snoc, if_pos hW0, wB, if_pos h6.out]
            simpa using hfin
          case measure => simp [intOf] <;> omega
        · have hW0 : ws.take k ≠ [] := by
            intro e; have h9 := congrArg List.length e; rw [List.length_take, List.length_nil] at h9; omega
          have hkz : 0 < k := by omega
          rw [if_neg hW0, List.length_append, List.length_append, hwl] at hbd
          have hbd2 : (ba x.t).size + (textF (ws.take k)).length ≤ 1000000 := by rw [HXS.out]; simp at hbd; omega
          clear hwl
          go_wp2_with fail
          refine (writeByte_at w.heap.size w.heap.size (textF (ws.take k)) 32 32 rfl _ hB0 (by omega) (by simp <;> omega)).mono ?_
          rintro e w1 ⟨rfl, hU1, hBl1, hK1⟩
          have hL1 := hK1 _ _ _ (by decide) hne hL
          have hz1 := hBl1.size
          obtain ⟨c0, c1, c2, c3, hf⟩ := tok_cells hL1
          go_wp2_with fail
          refine (writeString_any w.heap.size w.heap.size (textF (ws.take k) ++ [32]) (ba x.t) _ hU1.bld (by simp; omega) (by simp at hz1; omega)).mono ?_
          rintro e w2 ⟨rfl, hU2, hBl2, hK2⟩
          have hL2 := hK2 _ _ _ (by decide) hne hL1
          have hz2 := hBl2.size
          obtain ⟨d0, d1, d2, d3, hg⟩ := tok_cells hL2
          go_wp2_with fail
          refine (writeByte_at w.heap.size w.heap.size ((textF (ws.take k) ++ [32]) ++ (ba x.t).data.toList) 33 33 rfl _ hU2.bld (by simp [HXL.out]; omega) (by simp at hz2 hz1; omega)).mono ?_
          rintro e w3 ⟨rfl, hU3, hBl3, hK3⟩
          go_wp2
          go_roundw
          case rel =>
            refine ⟨k + 1, by omega, by go_num, ?_, ((hN0.trans hBl1).trans hBl2).trans hBl3⟩
            have hfin := hU3.bld
            rw [HXL.out] at hfin
            rw [HSN.out, textF_snoc, if_neg hW0, wB, if_pos h6.out]
            simpa using hfin
          case measure => simp [intOf] <;> omega
      · have h6 := Lib.hid hs6
        have h6' : ((x.k : Int) == 6) = false := by simp; omega
        have hwl : (wB x).length = x.t.length := by simp [wB, hs6]
        clear hs6
        by_cases hk0 : k = 0
        · have hT0 : textF (ws.take k) = [] := by subst hk0; rfl
          have hW0 : ws.take k = [] := by subst hk0; rfl
          have hkz : k ≤ 0 := by omega
          rw [if_pos hW0, List.nil_append, hwl] at hbd
          have hbd2 : (ba x.t).size ≤ 1000000 := by rw [HXS.out]; omega
          clear hk0 hwl
          have hB1 : Bld (wr.alloc (.cells #[.int .i64 (x.k : Int), .string (ba x.t), .int .i64 (x.n : Int), .int .i64 (x.pos : Int)] 47)) w.heap.size w.heap.size [] := by rw [hT0] at hB0; exact hB0
          go_wp2_with fail
          refine (writeString_any w.heap.size w.heap.size [] (ba x.t) _ hB1 (by simp; omega) (by simp <;> omega)).mono ?_
          rintro e w2 ⟨rfl, hU2, hBl2, hK2⟩
          have hL2 := hK2 _ _ _ (by decide) hne hL
          have hz2 := hBl2.size
          obtain ⟨d0, d1, d2, d3, hg⟩ := tok_cells hL2
          go_wp2
          go_roundw
          case rel =>
            refine ⟨k + 1, by omega, by go_num, ?_, (hN0).trans hBl2⟩
            have hfin := hU2.bld
            rw [HXL.out] at hfin
            rw [HSN.out, textF_snoc, if_pos hW0, wB, if_neg h6.out]
            simpa using hfin
          case measure => simp [intOf] <;> omega
        · have hW0 : ws.take k ≠ [] := by
            intro e; have h9 := congrArg List.length e; rw [List.length_take, List.length_nil] at h9; omega
          have hkz : 0 < k := by omega
          rw [if_neg hW0, List.length_append, List.length_append, hwl] at hbd
          have hbd2 : (ba x.t).size + (textF (ws.take k)).length ≤ 1000000 := by rw [HXS.out]; simp at hbd; omega
          clear hwl
          go_wp2_with fail
          refine (writeByte_at w.heap.size w.heap.size (textF (ws.take k)) 32 32 rfl _ hB0 (by omega) (by simp <;> omega)).mono ?_
          rintro e w1 ⟨rfl, hU1, hBl1, hK1⟩
          have hL1 := hK1 _ _ _ (by decide) hne hL
          have hz1 := hBl1.size
          obtain ⟨c0, c1, c2, c3, hf⟩ := tok_cells hL1
          go_wp2_with fail
          refine (writeString_any w.heap.size w.heap.size (textF (ws.take k) ++ [32]) (ba x.t) _ hU1.bld (by simp; omega) (by simp at hz1; omega)).mono ?_
          rintro e w2 ⟨rfl, hU2, hBl2, hK2⟩
          have hL2 := hK2 _ _ _ (by decide) hne hL1
          have hz2 := hBl2.size
          obtain ⟨d0, d1, d2, d3, hg⟩ := tok_cells hL2
          go_wp2
          go_roundw
          case rel =>
            refine ⟨k + 1, by omega, by go_num, ?_, (hN0.trans hBl1).trans hBl2⟩
            have hfin := hU2.bld
            rw [HXL.out] at hfin
            rw [HSN.out, textF_snoc, if_neg hW0, wB, if_neg h6.out]
            simpa using hfin
          case measure => simp [intOf] <;> omega
    · have hke : ws.take k = ws := List.take_of_length_le (by omega)
      rw [hke] at hbld
      clear hke
      go_wp2_with (go_at_call 19; refine (Tryz.Builder_String_any w.heap.size w.heap.size (textF ws) _ hbld (by omega)).mono ?_; rintro e w' ⟨rfl, hw⟩)
      go_ret
      exact ⟨rfl, hnx.trans hw⟩
end Go.Proofs.YtnkfkaahjplnmaaGreatDoor

/- Plain facts on what begins a text: a word stays a word when what is behind it is cut, or begins with a blank or a note. -/
namespace Go.Proofs.YtnkfkaahjplnmaaGreatDoor

/-- A byte that is a blank, or begins a note. -/
def sepB (c : UInt8) : Bool := c.toNat == 32 || c.toNat == 9 || c.toNat == 13 || c.toNat == 10 || c.toNat == 35
def sepH : List UInt8 → Bool
  | [] => true
  | c :: _ => sepB c

theorem span_sep (p : UInt8 → Bool) (hp : ∀ c, sepB c = true → p c = false) (r t : List UInt8) (ht : sepH t = true) : Lx.spanN p (r ++ t) = Lx.spanN p r := by
  induction r with
  | nil =>
    match t, ht with
    | [], _ => rfl
    | c :: u, ht => simp [Lx.spanN, hp c ht]
  | cons a r ih => simp only [List.cons_append, Lx.spanN, ih]
theorem span_take (p : UInt8 → Bool) (r : List UInt8) : ∀ n, Lx.spanN p (r.take n) = min n (Lx.spanN p r) := by
  induction r with
  | nil => intro n; simp [Lx.spanN]
  | cons a r ih =>
    intro n
    cases n with
    | zero => simp [Lx.spanN]
    | succ n =>
      simp only [List.take_succ_cons, Lx.spanN, ih]
      split <;> omega
theorem pre_sep (d : List UInt8) (hd : ∀ c ∈ d, sepB c = false) : ∀ (r t : List UInt8), sepH t = true → Lx.preB d (r ++ t) = Lx.preB d r := by
  induction d with
  | nil => intro r t _; simp [Lx.preB]
  | cons a d ih =>
    intro r t ht
    cases r with
    | nil =>
      match t, ht with
      | [], _ => rfl
      | c :: u, ht =>
        have ha := hd a (by simp)
        have : (a == c) = false := by
          rw [Bool.eq_false_iff]; intro h; rw [beq_iff_eq] at h; subst h; simp [sepH] at ht; rw [ht] at ha; cases ha
        simp [Lx.preB, List.isPrefixOf, this]
    | cons b r =>
      have := ih (fun c hc => hd c (by simp [hc])) r t ht
      simp only [Lx.preB] at this
      simp [Lx.preB, List.isPrefixOf, this]
theorem pre_take (d l : List UInt8) (n : Nat) (h : d.length ≤ n) : Lx.preB d (l.take n) = Lx.preB d l := by
  rw [Bool.eq_iff_iff]
  simp only [Lx.preB, List.isPrefixOf_iff_prefix]
  constructor
  · intro h1; exact h1.trans (List.take_prefix n l)
  · intro h1
    rw [List.prefix_take_iff]
    exact ⟨h1, h⟩
theorem pre_take_false (d l : List UInt8) (n : Nat) (h : Lx.preB d l = false) : Lx.preB d (l.take n) = false := by
  rw [Bool.eq_false_iff] at h ⊢
  intro h1
  apply h
  simp only [Lx.preB, List.isPrefixOf_iff_prefix] at h1 ⊢
  exact h1.trans (List.take_prefix n l)

theorem dig_sep : ∀ c, sepB c = true → Lx.inB Lx.digs c = false := by
  intro c h
  simp [sepB] at h
  simp [Lx.inB, Lx.digs]; omega
theorem ins_sep : ∀ c, sepB c = true → Lx.inB Lx.inss c = false := by
  intro c h
  simp [sepB] at h
  simp [Lx.inB, Lx.inss]; omega
theorem let_sep : ∀ c, sepB c = true → Lx.inB Lx.lets c = false := by
  intro c h
  simp [sepB] at h
  simp [Lx.inB, Lx.lets]; omega
theorem sgn_sep : ∀ k, k < 16 → ∀ c ∈ sgn k, sepB c = false := by decide

theorem numF_congr {l l' : List UInt8} {n : Nat} (h : l.take n = l'.take n) : Lx.numF l n = Lx.numF l' n := by unfold Lx.numF; rw [h]
theorem nameF_congr {l l' : List UInt8} {n : Nat} (h : l.take n = l'.take n) (hc : Lx.capB l = Lx.capB l') (hp : Lx.preB [33] (l.drop n) = Lx.preB [33] (l'.drop n)) : Lx.nameF l n = Lx.nameF l' n := by
  unfold Lx.nameF; rw [h, hc, hp]

theorem beg_sep (r t : List UInt8) (hr : r ≠ []) (ht : sepH t = true) : ∀ k, k < 18 → begF k (r ++ t) = begF k r := by
  intro k hk
  match k, hk with
  | 0, _ => cases r with
    | nil => exact absurd rfl hr
    | cons a r => rfl
  | 1, _ => cases r with
    | nil => exact absurd rfl hr
    | cons a r => rfl
  | k + 2, hk => exact pre_sep _ (sgn_sep k (by omega)) r t ht
theorem read_sep (r t : List UInt8) (hr : r ≠ []) (ht : sepH t = true) (k : Nat) : readF k (r ++ t) = readF k r := by
  match k with
  | 0 =>
    have e : digN (r ++ t) = digN r := span_sep _ dig_sep r t ht
    simp only [readF]
    rw [e]
    have hle : digN r ≤ r.length := spanN_le _ _
    exact numF_congr (by rw [List.take_append_of_le_length hle])
  | 1 =>
    have e : insN (r ++ t) = insN r := span_sep _ ins_sep r t ht
    simp only [readF]
    rw [e]
    have hle : insN r ≤ r.length := spanN_le _ _
    refine nameF_congr (by rw [List.take_append_of_le_length hle]) ?_ ?_
    · cases r with
      | nil => exact absurd rfl hr
      | cons a r => rfl
    · rw [List.drop_append_of_le_length hle]
      exact pre_sep _ (by decide) _ t ht
  | k + 2 => rfl
theorem find_same {α : Type} (p q : α → Bool) (l : List α) (h : ∀ a ∈ l, p a = q a) : l.find? p = l.find? q := by
  induction l with
  | nil => rfl
  | cons a r ih => simp only [List.find?_cons, h a (by simp), ih (fun b hb => h b (by simp [hb]))]
/-- F2: what comes behind a blank does not matter. -/
theorem first_sep (r t : List UInt8) (hr : r ≠ []) (ht : sepH t = true) : firstF (r ++ t) = firstF r := by
  unfold firstF
  have e : (List.range 18).find? (fun k => begF k (r ++ t)) = (List.range 18).find? (fun k => begF k r) := by
    refine find_same _ _ _ fun k hk => ?_
    exact beg_sep r t hr ht k (by simpa using hk)
  rw [e]
  congr 1
  funext k
  exact read_sep r t hr ht k

/-- F1: cut behind it, a word is the word. -/
theorem first_take {r : List UInt8} {x : Lx.Tk} {m n : Nat} (h : firstF r = some (x, m)) (hn : m ≤ n) : firstF (r.take n) = some (x, m) := by
  obtain ⟨hm0, hmr⟩ := firstF_bound h
  obtain ⟨k, hk, hb, hr, hno⟩ := firstF_cases h
  have hn0 : 0 < n := by omega
  have hhead : ∀ d, headIn d (r.take n) = headIn d r := by
    intro d
    cases r with
    | nil => simp
    | cons a r => cases n with
      | zero => omega
      | succ n => rfl
  have hno2 : ∀ j, j < k → begF j (r.take n) = false := by
    intro j hj
    have := hno j hj
    match j with
    | 0 => simp only [begF] at this ⊢; rw [hhead]; exact this
    | 1 => simp only [begF] at this ⊢; rw [hhead]; exact this
    | j + 2 => exact pre_take_false _ _ _ this
  have hres : begF k (r.take n) = true ∧ readF k (r.take n) = some (x, m) := by
    match k, hb, hr with
    | 0, hb, hr =>
      simp only [begF] at hb ⊢
      refine ⟨by rw [hhead]; exact hb, ?_⟩
      simp only [readF] at hr ⊢
      have hmd : m = digN r := by
        simp only [Lx.numF] at hr; split at hr
        · simp only [Option.some.injEq, Prod.mk.injEq] at hr; omega
        · cases hr
      have e : digN (r.take n) = digN r := by
        have := span_take (Lx.inB Lx.digs) r n
        simp only [digN] at hmd ⊢; omega
      rw [e, ← hr]
      exact numF_congr (by rw [List.take_take]; congr 1; omega)
    | 1, hb, hr =>
      simp only [begF] at hb ⊢
      refine ⟨by rw [hhead]; exact hb, ?_⟩
      simp only [readF] at hr ⊢
      have hmi : insN r ≤ m ∧ (m = insN r → Lx.preB [33] (r.drop (insN r)) = true → Lx.nameF r (insN r) = Lx.nameF r (insN r)) := by
        refine ⟨?_, fun _ _ => rfl⟩
        simp only [Lx.nameF] at hr
        split at hr
        · cases hr
        split at hr
        · simp only [Option.some.injEq, Prod.mk.injEq] at hr; omega
        split at hr
        · simp only [Option.some.injEq, Prod.mk.injEq] at hr; omega
        split at hr
        · simp only [Option.some.injEq, Prod.mk.injEq] at hr; omega
        · simp only [Option.some.injEq, Prod.mk.injEq] at hr; omega
      have e : insN (r.take n) = insN r := by
        have := span_take (Lx.inB Lx.inss) r n
        have := hmi.1
        simp only [insN] at this ⊢; omega
      have e1 : (r.take n).take (insN r) = r.take (insN r) := by rw [List.take_take]; congr 1; have := hmi.1; omega
      have e2 : Lx.capB (r.take n) = Lx.capB r := by
        cases r with
        | nil => simp
        | cons a r => cases n with
          | zero => omega
          | succ n => rfl
      have e3 : (r.take n).drop (insN r) = (r.drop (insN r)).take (n - insN r) := by rw [List.drop_take]
      rw [e, ← hr]
      unfold Lx.nameF
      rw [e1, e2, e3]
      by_cases hp : Lx.preB [33] (r.drop (insN r)) = true
      · by_cases hlt : insN r < n
        · rw [pre_take [33] _ _ (by simp; omega)]
        · have hin : insN r = m := by have := hmi.1; omega
          simp only [Lx.nameF, hp, if_true] at hr
          split at hr
          · cases hr
          split
          · rename_i h1 h2; exact absurd h2 h1
          split at hr
          · rename_i hcap; simp [hcap]
          split at hr
          · rename_i hcap hkw; simp [hcap, hkw]
          · simp only [Option.some.injEq, Prod.mk.injEq] at hr; omega
      · rw [pre_take_false _ _ _ (Bool.eq_false_iff.2 hp), Bool.eq_false_iff.2 hp]
    | k + 2, hb, hr =>
      simp only [readF, Option.some.injEq, Prod.mk.injEq] at hr
      refine ⟨?_, by simp only [readF, Option.some.injEq, Prod.mk.injEq]; exact hr⟩
      simp only [begF] at hb ⊢
      rw [pre_take _ _ _ (by omega)]
      exact hb
  rw [firstF_hit _ k hk hno2 hres.1, hres.2]
end Go.Proofs.YtnkfkaahjplnmaaGreatDoor

/- Plain facts on the words of a source: read from left to right; cut; joined; written again. -/
namespace Go.Proofs.YtnkfkaahjplnmaaGreatDoor

/-- The words of a text whose first byte is byte p of the source; or where the first thing begins that is none. -/
inductive Lexes : Nat → List UInt8 → List Lx.Tk → Option Nat → Prop
  | done (p : Nat) (l : List UInt8) (h : l.drop (sk l) = []) : Lexes p l [] none
  | err (p : Nat) (l : List UInt8) (h0 : l.drop (sk l) ≠ []) (h : firstF (l.drop (sk l)) = none) : Lexes p l [] (some (p + sk l))
  | word (p : Nat) (l : List UInt8) (x : Lx.Tk) (m : Nat) (ws : List Lx.Tk) (r : Option Nat) (h : firstF (l.drop (sk l)) = some (x, m)) (hr : Lexes (p + sk l + m) (l.drop (sk l + m)) ws r) :
      Lexes p l (atPos x (p + sk l) :: ws) r

theorem lexP_lexes (l : List UInt8) : ∀ (f a : Nat), l.length < f + (a + sk (l.drop a)) → a ≤ l.length → Lexes a (l.drop a) (lexP l f (a + sk (l.drop a))).1 (lexP l f (a + sk (l.drop a))).2 := by
  intro f
  induction f with
  | zero =>
    intro a h ha
    have := sk_le l a ha
    omega
  | succ f ih =>
    intro a h ha
    have hs := sk_le l a ha
    have hd : (l.drop a).drop (sk (l.drop a)) = l.drop (a + sk (l.drop a)) := by rw [List.drop_drop]
    by_cases hend : l.length ≤ a + sk (l.drop a)
    · rw [lexP_end l _ _ hend]
      exact .done _ _ (by rw [hd]; exact List.drop_of_length_le hend)
    · rcases res_cases (firstF (l.drop (a + sk (l.drop a)))) with ho | ⟨x, m, ho⟩
      · rw [lexP_none l _ _ (by omega) h ho]
        refine .err _ _ ?_ (by rw [hd]; exact ho)
        rw [hd]; intro e
        have := congrArg List.length e
        simp at this; omega
      · rw [lexP_some l _ _ (by omega) h ho]
        have hb := firstF_bound ho
        simp only [List.length_drop] at hb
        refine .word _ _ x m _ _ (by rw [hd]; exact ho) ?_
        have e : (l.drop a).drop (sk (l.drop a) + m) = l.drop (a + sk (l.drop a) + m) := by rw [List.drop_drop]; congr 1; omega
        rw [e]
        exact ih (a + sk (l.drop a) + m) (by omega) (by omega)
theorem lexAll_lexes (l : List UInt8) : Lexes 0 l (lexAll l).1 (lexAll l).2 := by
  have := lexP_lexes l (l.length + 1) 0 (by omega) (Nat.zero_le _)
  simpa [lexAll] using this
theorem Lexes.det {p : Nat} {l : List UInt8} {ws ws' : List Lx.Tk} {r r' : Option Nat} (h : Lexes p l ws r) : Lexes p l ws' r' → ws = ws' ∧ r = r' := by
  induction h generalizing ws' r' with
  | done p l h =>
    intro k
    cases k with
    | done => exact ⟨rfl, rfl⟩
    | err _ _ h0 => exact absurd h h0
    | word _ _ x m _ _ h1 => rw [h] at h1; have := firstF_bound h1; simp at this; omega
  | err p l h0 h =>
    intro k
    cases k with
    | done _ _ h1 => exact absurd h1 h0
    | err => exact ⟨rfl, rfl⟩
    | word _ _ x m _ _ h1 => rw [h] at h1; cases h1
  | word p l x m ws r h hr ih =>
    intro k
    cases k with
    | done _ _ h1 => rw [h1] at h; have := firstF_bound h; simp at this; omega
    | err _ _ h0 h1 => rw [h] at h1; cases h1
    | word _ _ x' m' _ _ h1 hr' =>
      rw [h] at h1
      simp only [Option.some.injEq, Prod.mk.injEq] at h1
      obtain ⟨rfl, rfl⟩ := h1
      obtain ⟨e1, e2⟩ := ih hr'
      exact ⟨by rw [e1], e2⟩
theorem lexes_all {l : List UInt8} {ws : List Lx.Tk} {r : Option Nat} (h : Lexes 0 l ws r) : lexAll l = (ws, r) := by
  obtain ⟨e1, e2⟩ := h.det (lexAll_lexes l)
  rw [e1, e2]
theorem lexR_ok {l : List UInt8} {ws : List Lx.Tk} (hl : l.length ≤ 1048576) (h : Lexes 0 l ws none) : lexR l = (ws, 0, 0) := by
  unfold lexR
  rw [if_neg (by omega), lexes_all h]
theorem lexR_err {l : List UInt8} {ws : List Lx.Tk} {p : Nat} (hl : l.length ≤ 1048576) (h : Lexes 0 l ws (some p)) : lexR l = ([], p, 2) := by
  unfold lexR
  rw [if_neg (by omega), lexes_all h]
/-- Any source of bounded size is words, or wrong somewhere. -/
theorem lexR_cases (l : List UInt8) (hl : l.length ≤ 1048576) : (∃ ws, lexR l = (ws, 0, 0) ∧ Lexes 0 l ws none) ∨ ∃ ws p, lexR l = ([], p, 2) ∧ Lexes 0 l ws (some p) := by
  have h := lexAll_lexes l
  rcases hr : (lexAll l).2 with _ | p
  · rw [hr] at h; exact .inl ⟨_, lexR_ok hl h, h⟩
  · rw [hr] at h; exact .inr ⟨_, p, lexR_err hl h, h⟩

theorem skip_take (b : Bool) (l : List UInt8) : ∀ n, Lx.skipN b (l.take n) = min n (Lx.skipN b l) := by
  induction l generalizing b with
  | nil => intro n; cases b <;> simp [Lx.skipN]
  | cons c r ih =>
    intro n
    cases n with
    | zero => cases b <;> simp [Lx.skipN]
    | succ n =>
      have h1 := ih false n
      have h2 := ih true n
      cases b <;> simp only [List.take_succ_cons, Lx.skipN, h1, h2]
      · split
        · omega
        · split <;> omega
      · split <;> omega
theorem sk_take (l : List UInt8) (n : Nat) : sk (l.take n) = min n (sk l) := skip_take false l n

theorem Lexes.pos_ge {p : Nat} {l : List UInt8} {ws : List Lx.Tk} {r : Option Nat} (h : Lexes p l ws r) : ∀ x ∈ ws, p + sk l ≤ x.pos := by
  induction h with
  | done => simp
  | err => simp
  | word p l x m ws r h hr ih =>
    intro y hy
    simp only [List.mem_cons] at hy
    rcases hy with rfl | hy
    · exact Nat.le_refl _
    · have := ih y hy; omega
/-- Cut ahead of a word: the words ahead of it. -/
theorem Lexes.cut {p : Nat} {l : List UInt8} {ws : List Lx.Tk} (h : Lexes p l ws none) : ∀ (k : Nat) (x : Lx.Tk), ws[k]? = some x → Lexes p (l.take (x.pos - p)) (ws.take k) none := by
  generalize hr : (none : Option Nat) = r at h
  induction h with
  | done => intro k x hx; simp at hx
  | err => cases hr
  | word p l y m ws r h hl ih =>
    subst hr
    intro k x hx
    cases k with
    | zero =>
      simp at hx; subst hx
      refine .done _ _ ?_
      rw [sk_take, show (atPos y (p + sk l)).pos = p + sk l from rfl]
      apply List.drop_of_length_le
      rw [List.length_take]; omega
    | succ k =>
      have hx' : ws[k]? = some x := by simpa using hx
      have hge := hl.pos_ge x (List.mem_of_getElem? hx')
      have := ih rfl k x hx'
      rw [List.take_succ_cons]
      have hsk : sk (l.take (x.pos - p)) = sk l := by rw [sk_take]; omega
      have := Lexes.word p (l.take (x.pos - p)) y m (ws.take k) none (by
        rw [hsk, List.drop_take]
        exact first_take h (by omega)) (by
        rw [hsk, List.drop_take]
        have e : x.pos - p - (sk l + m) = x.pos - (p + sk l + m) := by omega
        rw [e]; exact this)
      rw [hsk] at this
      exact this
end Go.Proofs.YtnkfkaahjplnmaaGreatDoor

/- Small facts on slices of bytes and of words, and on sources and their words. -/
namespace Go.Proofs.YtnkfkaahjplnmaaGreatDoor
open Go.RowKit

def Yes (w : World) (e : Ending) (w' : World) : Prop := e = .returned (.bool true) ∧ Below w.heap.size w w'
theorem Bs.later {w w' : World} {v : Value} {l : List UInt8} (h : Bs w v l) (hb : Below w.heap.size w w') : Bs w' v l := by
  obtain ⟨A, c, h1, h2, h3⟩ := h
  refine ⟨A, c, h1, h2, fun h0 => ?_⟩
  obtain ⟨a, h4, h5⟩ := h3 h0
  exact ⟨a, h4, fun j hj => (hb.cell (World.block_lt_of_cell? w _ (h5 j hj))).trans (h5 j hj)⟩
theorem Bs.cut {w : World} {A : Option Addr} {c : Nat} {l : List UInt8} {n : Nat} (h : Bs w (.slice A n c) l) (k : Nat) : Bs w (.slice A (l.take k).length c) (l.take k) := by
  obtain ⟨A', c', h1, h2, h3⟩ := h
  injection h1 with hA hn hc
  subst hA hc
  refine ⟨A, c, rfl, by rw [List.length_take]; omega, fun h0 => ?_⟩
  obtain ⟨a, h4, h5⟩ := h3 (by rw [List.length_take] at h0; omega)
  refine ⟨a, h4, fun j hj => ?_⟩
  rw [h5 j (by rw [List.length_take] at hj; omega), List.getElem_take]
theorem min_len (l : List UInt8) (n : Nat) : (min (l.length : Int) (n : Int)).toNat = (l.take n).length := by rw [List.length_take]; omega
theorem Ts.nil_of {w : World} {v : Value} (h : Ts w v []) : ∃ A c, v = .slice A 0 c := by
  obtain ⟨A, c, h1, _⟩ := h
  exact ⟨A, c, h1⟩

theorem and_mask (a : Int) (m : Nat) (hm : m < 9223372036854775808) : ∃ n : Nat, n ≤ m ∧ bits .and .i64 a (m : Int) = (n : Int) := by
  have h2 : (BitVec.ofInt 64 (m : Int)).toNat = m := by
    rw [BitVec.ofInt_natCast, BitVec.toNat_ofNat]; exact Nat.mod_eq_of_lt (by omega)
  have hle : (BitVec.ofInt 64 a &&& BitVec.ofInt 64 (m : Int)).toNat ≤ m := by
    rw [BitVec.toNat_and, h2]; exact Nat.and_le_right
  refine ⟨(BitVec.ofInt 64 a &&& BitVec.ofInt 64 (m : Int)).toNat, hle, ?_⟩
  show IntKind.i64.wrap ((BitVec.ofInt 64 a &&& BitVec.ofInt 64 (m : Int)).toNat : Int) = _
  exact IntWalk.i64_in _ (by omega)
theorem Ts.cut {w : World} {g o n c : Nat} {ws : List Lx.Tk} (h : Ts w (.slice (some ⟨g, o, none⟩) n c) ws) {k : Nat} (hk : k ≤ ws.length) : Ts w (.slice (some ⟨g, o, none⟩) k c) (ws.take k) := by
  obtain ⟨A, c', h1, h2, h3⟩ := h
  injection h1 with hA hn hc
  subst hc
  refine ⟨some ⟨g, o, none⟩, c, by rw [List.length_take]; congr 1; omega, by rw [List.length_take]; omega, fun h0 => ?_⟩
  obtain ⟨g', o', h4, h5⟩ := h3 (by rw [List.length_take] at h0; omega)
  rw [← hA] at h4
  injection h4 with h4
  injection h4 with hg ho _
  subst hg ho
  refine ⟨g, o, rfl, fun j u hj => h5 j u ?_⟩
  have e : wordsC ws = wordsC (ws.take k) ++ wordsC (ws.drop k) := by
    unfold wordsC; rw [← List.flatMap_append, List.take_append_drop]
  rw [e, List.getElem?_append_left (List.getElem?_eq_some_iff.1 hj).1]
  exact hj
theorem Lexes.pos_le {p : Nat} {l : List UInt8} {ws : List Lx.Tk} {r : Option Nat} (h : Lexes p l ws r) : ∀ x ∈ ws, x.pos ≤ p + l.length := by
  induction h with
  | done => simp
  | err => simp
  | word p l x m ws r h hr ih =>
    intro y hy
    have hb := firstF_bound h
    simp only [List.length_drop] at hb
    simp only [List.mem_cons] at hy
    rcases hy with rfl | hy
    · show p + sk l ≤ _; omega
    · have := ih y hy; simp only [List.length_drop] at this; omega
theorem Lexes.count {p : Nat} {l : List UInt8} {ws : List Lx.Tk} {r : Option Nat} (h : Lexes p l ws r) : ws.length ≤ l.length := by
  induction h with
  | done => simp
  | err => simp
  | word p l x m ws r h hr ih =>
    have hb := firstF_bound h
    simp only [List.length_drop] at hb ih
    simp only [List.length_cons]; omega

end Go.Proofs.YtnkfkaahjplnmaaGreatDoor
