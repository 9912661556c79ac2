/- Contracts of (*strings.Builder).WriteByte and WriteString, of Text, and of Same. -/
import Derived.Test.YtgffhjcnfjgpnaaDoorWalkH
import Derived.Lib.Builder
import Derived.Lib.AppendStr
import Derived.Lib.UnsafeStr
import Derived.Laws.Externs
import Derived.Deep.QuietTactic
import Derived.BigQuiet
namespace Go.Proofs.YtgffhjcnfjgpnaaDoor
open Go.RowKit

theorem Tryd.info46 : (Tryd.prog.info? 46).map (·.size) = some 2 := by kernel_rfl
theorem Tryd.lies46 : liesAt Tryd.prog Tryd.prog.depth 46 (2 / Tryd.prog.cellsOf 46) 0 46 1 = true := by kernel_rfl
theorem Tryd.info5 : (Tryd.prog.info? 5).map (fun i => (i.zero, i.size, i.bytes)) = some (some (.int .u8 0), 1, 1) := by kernel_rfl

set_option maxRecDepth 100000 in
set_option maxHeartbeats 1000000 in
theorem check_used (b : Nat) (w : World) (h0 : w.cell? ⟨b, 0, none⟩ = some (.pointer (some ⟨b, 0, none⟩))) :
    Calls Tryd.prog 29 #[.pointer (some ⟨b, 0, none⟩)] w fun e w' => e = .returned (.tuple #[]) ∧ w = w' := by
  obtain ⟨j, hj, _⟩ := Option.map_eq_some_iff.1 Tryd.info46
  go_enter Tryd.func29, Tryd.ntmps29
  go_wp2
  rw [Lib.run_neq_ptr_same w _ Tryd.underlying44 hj]
  go_wp2
  go_end0
  exact ⟨rfl, rfl⟩
set_option maxRecDepth 100000 in
set_option maxHeartbeats 1000000 in
theorem check_fresh (b : Nat) (w : World) (h0 : w.cell? ⟨b, 0, none⟩ = some (.pointer none)) (hsh : w.shape? b = some (46, 2)) (hfz : w.frozen? ⟨b, 0, none⟩ = false) :
    Calls Tryd.prog 29 #[.pointer (some ⟨b, 0, none⟩)] w fun e w' => e = .returned (.tuple #[]) ∧ w' = w.setCell ⟨b, 0, none⟩ (.pointer (some ⟨b, 0, none⟩)) := by
  obtain ⟨j, hj, hjs⟩ := Option.map_eq_some_iff.1 Tryd.info46
  have k1 := Lib.run_to_unsafe w ⟨b, 0, none⟩ Tryd.underlying44 Tryd.underlying70 hj (by rw [hjs]; decide) hsh (Nat.zero_lt_succ 1)
  have k2 := Lib.run_from_unsafe w ⟨b, 0, none⟩ Tryd.underlying70 Tryd.underlying44 hj hsh Tryd.lies46
  have k3 : (callFunc 38 #[.pointer (some ⟨b, 0, none⟩)]).run Tryd.prog w = .ok (.value (.pointer (some ⟨b, 0, none⟩))) w := by
    rw [run_callFunc_extern Tryd.func38 (by kernel_rfl) (by kernel_rfl) (by kernel_rfl) (e := Extern.AbiNoEscape.same) (by kernel_rfl)]
    rfl
  go_enter Tryd.func29, Tryd.ntmps29
  go_wp2
  go_end0
  exact ⟨rfl, rfl⟩

/-- A builder in a block of the call's own, holding some bytes. -/
def Bld (w : World) (B b : Nat) (l : List UInt8) : Prop := Lib.IsBuilder 46 5 B b (Lib.byteCells l) w
def Used (w : World) (B b : Nat) (l : List UInt8) : Prop := Lib.BuilderAt 46 5 B b (.pointer (some ⟨b, 0, none⟩)) (Lib.byteCells l) w
/-- What is neither the builder nor a row of bytes stays. -/
def Keeps (b : Nat) (w w' : World) : Prop := ∀ g t cs, t ≠ 5 → g ≠ b → Lies w g t cs → Lies w' g t cs
theorem check_any (B b : Nat) (l : List UInt8) (w : World) (h : Bld w B b l) :
    Calls Tryd.prog 29 #[.pointer (some ⟨b, 0, none⟩)] w fun e w' => e = .returned (.tuple #[]) ∧ Used w' B b l ∧ Below B w w' ∧ Keeps b w w' := by
  rcases h with h | h
  · refine (check_fresh b w h.cell0 h.shape h.frozen0).mono ?_
    rintro e w' ⟨rfl, rfl⟩
    exact ⟨rfl, h.used _, (Below.refl B w).setCell (p := ⟨b, 0, none⟩) h.1 _, fun _ _ _ _ hg hl => hl.far hg _⟩
  · refine (check_used b w h.cell0).mono ?_
    rintro e w' ⟨rfl, rfl⟩
    exact ⟨rfl, h, Below.refl B _, fun _ _ _ _ _ hl => hl⟩
theorem Used.bld {w : World} {B b : Nat} {l : List UInt8} (h : Used w B b l) : Bld w B b l := .inr h
theorem builder_alloc {w : World} {B b : Nat} {p : Value} {bs : List Value} (h : Lib.BuilderAt 46 5 B b p bs w) (o : Obj) : Lib.BuilderAt 46 5 B b p bs (w.alloc o) := by
  obtain ⟨hB, v, hb, hown, hne⟩ := h
  exact ⟨hB, v, heap_alloc_some hb o, hown.alloc o, hne⟩
theorem Bld.alloc {w : World} {B b : Nat} {l : List UInt8} (h : Bld w B b l) (o : Obj) : Bld (w.alloc o) B b l := h.imp (fun h => builder_alloc h o) fun h => builder_alloc h o

def WbEnd (w : World) (B b : Nat) (l : List UInt8) (r : Value) (e : Ending) (w' : World) : Prop := e = .returned r ∧ Used w' B b l ∧ Below B w w' ∧ Keeps b w w'
set_option maxRecDepth 100000 in
set_option maxHeartbeats 2000000 in
theorem writeByte_any (B b : Nat) (l : List UInt8) (c : UInt8) (w : World) (h : Bld w B b l) (hlen : l.length + 1 ≤ 140737488355328) (hBw : B ≤ w.heap.size) :
    Calls Tryd.prog 17 #[.pointer (some ⟨b, 0, none⟩), .int .u8 (c.toNat : Int)] w (WbEnd w B b (l ++ [c]) .nilIface) := by
  obtain ⟨i0, hi, hz0, hz1, hz2⟩ := info_parts Tryd.info5
  go_enter Tryd.func17, Tryd.ntmps17
  go_wp2_with (go_at_call 29; refine (check_any B b l _ h).mono ?_)
  rintro e w1 ⟨rfl, ⟨hB, v, hbk, hown, hne⟩, hb1, hK1⟩
  rw [Lib.byteCells_length] at hown
  have hL : Lies w1 b 46 #[.pointer (some ⟨b, 0, none⟩), v] := hbk
  have c0 : w1.cell? ⟨b, 0, none⟩ = some (.pointer (some ⟨b, 0, none⟩)) := hL.cell 0
  have c1 : w1.cell? ⟨b, 1, none⟩ = some v := hL.cell 1
  go_wp2_with (at_builtin; go_loud (refine wpList_append_own _ rfl (.tmp 11) (.tmp 13) 22 rfl B 5 i0 (.int .u8 0) 1 1 Tryd.underlying22 hi hz0 hz1 hz2 rfl (by decide) _ _ _ rfl (hown.alloc _) ⟨w1.heap.size, 0, none⟩ 1 1 [.int .u8 (c.toNat : Int)] rfl rfl ?c1 ?c2 ?c3 ?c4 ?c5 ?_))
  case c1 =>
    intro j u hj
    match j, hj with
    | 0, hj => simp at hj; subst hj; simp [Addr.add]
  case c2 => intro u hu; simp at hu; subst hu; rfl
  case c3 => unfold maxLen; omega
  case c4 => omega
  case c5 => have := hb1.size; simp; omega
  intro v' w2 hown' hgrow _
  have hL2 : Lies w2 b 46 #[.pointer (some ⟨b, 0, none⟩), v] := (hL.alloc _).grown hgrow (fun e => hne e.symm)
  have d0 : w2.cell? ⟨b, 0, none⟩ = some (.pointer (some ⟨b, 0, none⟩)) := hL2.cell 0
  have d1 : w2.cell? ⟨b, 1, none⟩ = some v := hL2.cell 1
  have f1 : w2.frozen? ⟨b, 1, none⟩ = false := hL2.free 1
  have hBl := ((hb1.alloc (by have := hb1.size; omega) (.cells #[.int .u8 (c.toNat : Int)] 5)).grown hgrow (by have := hb1.size; simp; omega) (fun k hk => (hown.lt k hk).1)).setCell (p := ⟨b, 1, none⟩) hB v'
  have hput := Lib.BuilderAt.put (T := 46) (e := 5) hB hL2 (bs' := Lib.byteCells (l ++ [c])) (v' := v') (by simpa [Lib.byteCells] using hown') (by decide)
  have hK : Keeps b w (w2.setCell ⟨b, 1, none⟩ v') := fun g t cs ht hg hl => (((hK1 g t cs ht hg hl).alloc (.cells #[.int .u8 (c.toNat : Int)] 5)).grown hgrow (((hK1 g t cs ht hg hl).apart hown (Ne.symm ht)))).far hg _
  obtain ⟨ao, n', cap, rfl⟩ : ∃ ao n' cap, v' = .slice ao n' cap := by
    rcases hown'.2 with ⟨hv, _⟩ | ⟨g, cap, cur, hv, _⟩
    · exact ⟨_, _, _, hv⟩
    · exact ⟨_, _, _, hv⟩
  clear hown' hgrow hown
  go_wp2
  go_ret
  exact ⟨rfl, hput, hBl, hK⟩
set_option maxRecDepth 100000 in
set_option maxHeartbeats 2000000 in
theorem writeString_any (B b : Nat) (l : List UInt8) (s : ByteArray) (w : World) (h : Bld w B b l) (hlen : l.length + s.size ≤ 140737488355328) (hBw : B ≤ w.heap.size) :
    Calls Tryd.prog 18 #[.pointer (some ⟨b, 0, none⟩), .string s] w (WbEnd w B b (l ++ s.data.toList) (.tuple #[.int .i64 (s.size : Int), .nilIface])) := by
  obtain ⟨i0, hi, hz0, hz1, hz2⟩ := info_parts Tryd.info5
  go_enter Tryd.func18, Tryd.ntmps18
  go_wp2_with (go_at_call 29; refine (check_any B b l _ h).mono ?_)
  rintro e w1 ⟨rfl, ⟨hB, v, hbk, hown, hne⟩, hb1, hK1⟩
  rw [Lib.byteCells_length] at hown
  have hL : Lies w1 b 46 #[.pointer (some ⟨b, 0, none⟩), v] := hbk
  have c0 : w1.cell? ⟨b, 0, none⟩ = some (.pointer (some ⟨b, 0, none⟩)) := hL.cell 0
  have c1 : w1.cell? ⟨b, 1, none⟩ = some v := hL.cell 1
  go_wp2_with (at_builtin; go_loud (refine Lib.wpList_append_own_string _ rfl (.tmp 12) (.tmp 13) 22 9 rfl B 5 i0 Tryd.underlying22 Tryd.underlying9 hi hz0 hz1 hz2 _ _ _ rfl hown s rfl ?c3 ?c4 ?c5 ?_))
  case c3 => unfold maxLen; omega
  case c4 => omega
  case c5 => have := hb1.size; omega
  intro v' w2 hown' hgrow _
  have hL2 : Lies w2 b 46 #[.pointer (some ⟨b, 0, none⟩), v] := hL.grown hgrow (fun e => hne e.symm)
  have d0 : w2.cell? ⟨b, 0, none⟩ = some (.pointer (some ⟨b, 0, none⟩)) := hL2.cell 0
  have d1 : w2.cell? ⟨b, 1, none⟩ = some v := hL2.cell 1
  have f1 : w2.frozen? ⟨b, 1, none⟩ = false := hL2.free 1
  have hBl := (hb1.grown hgrow (by have := hb1.size; omega) (fun k hk => (hown.lt k hk).1)).setCell (p := ⟨b, 1, none⟩) hB v'
  have hsz : s.data.toList.length = s.size := by simp
  have hput := Lib.BuilderAt.put (T := 46) (e := 5) hB hL2 (bs' := Lib.byteCells (l ++ s.data.toList)) (v' := v') (by
    have e1 : Lib.byteCells (l ++ s.data.toList) = Lib.byteCells l ++ Lib.strCells s := by simp [Lib.byteCells, Lib.strCells]
    have e2 : (Lib.byteCells (l ++ s.data.toList)).length = l.length + s.size := by rw [Lib.byteCells_length, List.length_append, hsz]
    rw [e2, e1]; exact hown') (by decide)
  have hK : Keeps b w (w2.setCell ⟨b, 1, none⟩ v') := fun g t cs ht hg hl => ((hK1 g t cs ht hg hl).grown hgrow (((hK1 g t cs ht hg hl).apart hown (Ne.symm ht)))).far hg _
  obtain ⟨ao, n', cap, rfl⟩ : ∃ ao n' cap, v' = .slice ao n' cap := by
    rcases hown'.2 with ⟨hv, _⟩ | ⟨g, cap, cur, hv, _⟩
    · exact ⟨_, _, _, hv⟩
    · exact ⟨_, _, _, hv⟩
  clear hown' hgrow hown hsz
  go_wp2
  go_ret2
  exact ⟨rfl, hput, hBl, hK⟩
end Go.Proofs.YtgffhjcnfjgpnaaDoor
