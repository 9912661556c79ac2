/- The contract of Same. -/
import Derived.Test.YtgffhjcnfjgpnaaDoorWalkU
namespace Go.Proofs.YtgffhjcnfjgpnaaDoor
open Go.RowKit

/-- Like words, but for where they begin; with that too, if asked. -/
def Alike1 (p : Bool) (x y : Lx.Tk) : Prop := x.k = y.k ∧ x.t = y.t ∧ x.n = y.n ∧ (p = true → x.pos = y.pos)
def AlikeL (p : Bool) (l m : List Lx.Tk) : Prop := l.length = m.length ∧ ∀ (i : Nat) (x y : Lx.Tk), l[i]? = some x → m[i]? = some y → Alike1 p x y

def SameEnd (w : World) (e : Ending) (w' : World) : Prop := e = .returned (.bool true) ∧ Below w.heap.size w w'
def SameRel (l : List Lx.Tk) (w : World) (i : Value) (wr : World) : Prop := ∃ k : Nat, k ≤ l.length ∧ i = .int .i64 k ∧ Below w.heap.size w wr
set_option maxRecDepth 100000 in
set_option maxHeartbeats 2000000 in
theorem same_any (p : Bool) (v u : Value) (l m : List Lx.Tk) (w : World) (hv : Ts w v l) (hu : Ts w u m) (h : AlikeL p l m) (hn : l.length ≤ 1000000) :
    Calls Tryd.prog 13 #[v, u, .bool p] w (SameEnd w) := by
  obtain ⟨hlen, hal⟩ := h
  have hv0 := hv
  have hu0 := hu
  obtain ⟨A, c, rfl, hc, _⟩ := hv
  obtain ⟨A', c', rfl, hc', _⟩ := hu
  rw [← hlen]
  have HL := Lib.hid hlen
  rw [← hlen] at hu0 hc'
  clear hlen
  cases p
  · go_enter Tryd.func13, Tryd.ntmps13
    go_wp2
    go_loopw [7] (fun i wr => SameRel l w i wr) (fun i _ => l.length - (intOf i).toNat)
    case atStart => exact ⟨0, Nat.zero_le _, rfl, Below.refl _ _⟩
    case round =>
      rename_i wr
      obtain ⟨k, hk, rfl, hnx⟩ := hrel
      have hsz := hnx.size
      by_cases hlt : k < l.length
      · obtain ⟨x, hx⟩ : ∃ x, l[k]? = some x := ⟨_, List.getElem?_eq_getElem hlt⟩
        obtain ⟨y, hy⟩ : ∃ y, m[k]? = some y := ⟨_, List.getElem?_eq_getElem (by rw [← HL.out]; exact hlt)⟩
        obtain ⟨e1, e2, e3, e4⟩ := hal k x y hx hy
        obtain ⟨yk, yt, yn, yp⟩ := y
        simp only at e1 e2 e3 e4
        subst e1 e2 e3
        obtain ⟨g, o, c2, hvf, _⟩ := hv0.form (by omega)
        injection hvf with hA hBB hcc
        clear hBB
        subst hA hcc
        obtain ⟨g', o', c2', huf, _⟩ := hu0.form (by rw [← HL.out]; omega)
        injection huf with hA' hBB hcc'
        clear hBB
        subst hA' hcc'
        obtain ⟨x0, x1, x2, x3⟩ := (hv0.later hnx).at_ hx
        obtain ⟨y0, y1, y2, y3⟩ := (hu0.later hnx).at_ hy
        have z0 := fun o => cell_alloc wr o y0
        have z1 := fun o => cell_alloc wr o y1
        have z2 := fun o => cell_alloc wr o y2
        have z3 := fun o => cell_alloc wr o y3
        clear hx hy y0 y1 y2 y3 hal hv0 hu0
        clear e4
        go_wp2
        go_quiet (fail)
        go_wp2
        go_roundw
        case rel => first | exact ⟨k + 1, by omega, by go_num, bdrewN (hnx.alloc (by omega) _) _⟩ | ((repeat apply Exists.intro); exact ⟨⟨k + 1, by omega, by go_num, bdrewN (hnx.alloc (by omega) _) _⟩, rfl⟩)
        case measure => simp [intOf] <;> omega
      · go_wp2
        go_ret
        exact ⟨rfl, hnx⟩
  · go_enter Tryd.func13, Tryd.ntmps13
    go_wp2
    go_loopw [7] (fun i wr => SameRel l w i wr) (fun i _ => l.length - (intOf i).toNat)
    case atStart => exact ⟨0, Nat.zero_le _, rfl, Below.refl _ _⟩
    case round =>
      rename_i wr
      obtain ⟨k, hk, rfl, hnx⟩ := hrel
      have hsz := hnx.size
      by_cases hlt : k < l.length
      · obtain ⟨x, hx⟩ : ∃ x, l[k]? = some x := ⟨_, List.getElem?_eq_getElem hlt⟩
        obtain ⟨y, hy⟩ : ∃ y, m[k]? = some y := ⟨_, List.getElem?_eq_getElem (by rw [← HL.out]; exact hlt)⟩
        obtain ⟨e1, e2, e3, e4⟩ := hal k x y hx hy
        obtain ⟨yk, yt, yn, yp⟩ := y
        simp only at e1 e2 e3 e4
        subst e1 e2 e3
        obtain ⟨g, o, c2, hvf, _⟩ := hv0.form (by omega)
        injection hvf with hA hBB hcc
        clear hBB
        subst hA hcc
        obtain ⟨g', o', c2', huf, _⟩ := hu0.form (by rw [← HL.out]; omega)
        injection huf with hA' hBB hcc'
        clear hBB
        subst hA' hcc'
        obtain ⟨x0, x1, x2, x3⟩ := (hv0.later hnx).at_ hx
        obtain ⟨y0, y1, y2, y3⟩ := (hu0.later hnx).at_ hy
        have z0 := fun o => cell_alloc wr o y0
        have z1 := fun o => cell_alloc wr o y1
        have z2 := fun o => cell_alloc wr o y2
        have z3 := fun o => cell_alloc wr o y3
        clear hx hy y0 y1 y2 y3 hal hv0 hu0
        have e5 := e4 trivial
        subst e5
        clear e4
        go_wp2
        go_quiet (fail)
        go_wp2
        go_roundw
        case rel => first | exact ⟨k + 1, by omega, by go_num, bdrewN (hnx.alloc (by omega) _) _⟩ | ((repeat apply Exists.intro); exact ⟨⟨k + 1, by omega, by go_num, bdrewN (hnx.alloc (by omega) _) _⟩, rfl⟩)
        case measure => simp [intOf] <;> omega
      · go_wp2
        go_ret
        exact ⟨rfl, hnx⟩
end Go.Proofs.YtgffhjcnfjgpnaaDoor
