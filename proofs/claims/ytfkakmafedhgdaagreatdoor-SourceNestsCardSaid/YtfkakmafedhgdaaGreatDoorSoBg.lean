/- Terms that are built in place. -/
import Derived.Test.YtfkakmafedhgdaaGreatDoorSoBf
namespace Go.Proofs.YtfkakmafedhgdaaGreatDoor.K
open Go Go.RowKit
namespace So

def tC (k : Int) (nm : Str) (n : Int) (kv rv : Value) : List Value := tmL k (.int .i64 0) nm [] n kv rv [.int .i64 0, .string ⟨#[]⟩, .int .i64 0, .slice none 0 0, .slice none 0 0, .int .i64 0, .slice none 0 0, .int .i64 0, .int .i64 0, .string ⟨#[]⟩, .int .i64 0, .slice none 0 0, .slice none 0 0, .int .i64 0]
def nilS : Value := .slice none 0 0
theorem TA.tC {X : Nat} {w : World} {k : Int} {nm : Str} {n : Int} {kv rv : Value} {kids : List Tm} {arms : List Arm} (hk : KidsA (memX X w) kv kids) (ha : ArmsA (memX X w) arms rv) : TA X w (.mk k nm [] n kids arms) (tC k nm n kv rv) :=
  ⟨.int .i64 0, kv, rv, _, rfl, rfl, ones_zr, hk, ha⟩
/-- What a store of a term asks, and more. -/
structure TmF (D : List Value) : Prop where
  len : D.length = 21
  size : (Tryz.prog.info? 33).map (·.size) = some D.toArray.size
  one : D.toArray.all (·.oneCell') = true
  zero : zC.size = D.toArray.size
theorem TA.tmF {X : Nat} {w : World} {t : Tm} {D : List Value} (h : TA X w t D) : TmF D :=
  ⟨h.len, by rw [szTerm]; simp [h.len], h.one, by simp [h.len, zC]⟩
theorem bu_kids (k : Int) (s : Str) (A : Option Addr) (m c : Nat) : Tryz.prog.built 33 [(0, .int .i64 k), (2, .string (ba s)), (5, .slice A m c)] = some (So.tC k s 0 (.slice A m c) nilS).toArray := by kernel_rfl
theorem bu_app (k : Int) (A : Option Addr) (m c : Nat) : Tryz.prog.built 33 [(0, .int .i64 k), (5, .slice A m c)] = some (So.tC k [] 0 (.slice A m c) nilS).toArray := by kernel_rfl
theorem bu_hand (k : Int) (s : Str) (A B : Option Addr) (m c m' c' : Nat) : Tryz.prog.built 33 [(0, .int .i64 k), (2, .string (ba s)), (5, .slice A m c), (6, .slice B m' c')] = some (So.tC k s 0 (.slice A m c) (.slice B m' c')).toArray := by kernel_rfl
theorem bu_arm (s : ByteArray) (A : Option Addr) (m c : Nat) : ∀ (C : List Value), C.length = 21 → Tryz.prog.built 35 [(0, .string s), (1, .slice A m c), (2, .agg C.toArray)] = some (Value.string s :: .slice A m c :: C).toArray
  | [a0, a1, a2, a3, a4, a5, a6, a7, a8, a9, a10, a11, a12, a13, a14, a15, a16, a17, a18, a19, a20], _ => by kernel_rfl
theorem info_armE : ∃ ie, Tryz.prog.info? 35 = some ie ∧ ie.zero = some (.agg zA) ∧ ie.size = 23 := by
  have h : (Tryz.prog.info? 35).map (fun i => (i.zero, i.size)) = some (some (.agg zA), 23) := by kernel_rfl
  cases hq : Tryz.prog.info? 35 with
  | none => rw [hq] at h; cases h
  | some ie =>
    rw [hq] at h
    simp only [Option.map_some, Option.some.injEq, Prod.mk.injEq] at h
    exact ⟨ie, rfl, h.1, h.2⟩
theorem fill_arms2 (la lb : List Value) (ha : la.length = 23) (hb : lb.length = 23) (cells : Array Value) (hc : cells.size = 46) : Instr.fill (fun i => some (i * 23, 23)) cells [(0, Value.agg la.toArray), (1, Value.agg lb.toArray)] = some [la, lb].flatten.toArray :=
  fill_rows (by decide) [la, lb] (fun l hl => by simp at hl; rcases hl with rfl | rfl <;> assumption) cells (by simpa using hc)
/-- One term in a new row. -/
theorem kids_one {X : Nat} {w : World} {t : Tm} {l : List Value} (h : TA X w t l) (hX : w.heap.size ≠ X) {D : List Value} (hD : D = [l].flatten) : KidsA (memX X (w.alloc (.cells D.toArray 33))) (.slice (some ⟨w.heap.size, 0, none⟩) 1 1) [t] :=
  kids_new (w := w) (ts := [t]) (ls := [l]) rfl (by show 1 ≤ 2000000; omega) (fun i x y h1 h2 => by match i with | 0 => cases h1; cases h2; exact h | i + 1 => cases h1) hX (T := 33) (by rw [← hD]; exact Lies.new w 33 D.toArray) (below_new w _) rfl
/-- Two clauses in a new row. -/
theorem arms_two {X : Nat} {w : World} {n1 n2 : Str} {v1 v2 : List Str} {t u : Tm} {x1 x2 : Value} {l m : List Value} (h : TA X w t l) (k : TA X w u m) (hv : StrsH (memX X w) x1 v1) (kv : StrsH (memX X w) x2 v2) (hX : w.heap.size ≠ X) {D : List Value}
    (hD : D = [.string (ba n1) :: x1 :: l, .string (ba n2) :: x2 :: m].flatten) : ArmsA (memX X (w.alloc (.cells D.toArray 35))) [(n1, v1, t), (n2, v2, u)] (.slice (some ⟨w.heap.size, 0, none⟩) 2 2) := by
  have hL := Lies.new w 35 D.toArray
  have hb := below_new w (.cells D.toArray 35)
  have hll := h.len
  have hml := k.len
  have hc : ∀ (i : Nat) (c : List Value) (j : Nat) q, ([.string (ba n1) :: x1 :: l, .string (ba n2) :: x2 :: m] : List (List Value))[i]? = some c → c[j]? = some q → (w.alloc (.cells D.toArray 35)).cell? ⟨w.heap.size, 0 + i * 23 + j, none⟩ = some q := fun i c j q h1 h2 => by
    rw [Nat.zero_add, hL.cell]
    have := flat_at (sz := 23) _ i j c q (fun y hy => by simp at hy; rcases hy with rfl | rfl <;> simp [hll, hml]) h1 h2
    rw [hD]
    simpa using this
  refine ⟨⟨_, _, rfl, Nat.le_refl _, by show 2 ≤ 2000000; omega, fun _ => ⟨_, 0, rfl⟩⟩, fun i x hx => ?_⟩
  match i with
  | 0 =>
    cases hx
    exact ⟨x1, hcX hX (hc 0 _ 0 _ rfl rfl), hcX hX (hc 0 _ 1 _ rfl rfl), hv.le (memX_le hb), (h.later hb).place hX fun j q hq => by have := hc 0 _ (j + 2) q rfl (by simpa using hq); rw [← this]; congr 2; show 0 + 0 * 23 + 2 + j = 0 + 0 * 23 + (j + 2); omega⟩
  | 1 =>
    cases hx
    exact ⟨x2, hcX hX (hc 1 _ 0 _ rfl rfl), hcX hX (hc 1 _ 1 _ rfl rfl), kv.le (memX_le hb), (k.later hb).place hX fun j q hq => by have := hc 1 _ (j + 2) q rfl (by simpa using hq); rw [← this]; congr 2; show 0 + 1 * 23 + 2 + j = 0 + 1 * 23 + (j + 2); omega⟩
  | i + 2 => cases hx
end So
end Go.Proofs.YtfkakmafedhgdaaGreatDoor.K
