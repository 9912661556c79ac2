/- The walk of the law TypesDeep: the pure part. -/
import Derived.Test.YtjeolmcjhpkcbaaDoorTyAf
import Derived.IntWalk
namespace Go.Proofs.YtjeolmcjhpkcbaaDoor
open Go.RowKit

def Yes (w : World) (e : Ending) (w' : World) : Prop := e = .returned (.bool true) ∧ Below w.heap.size w w'
theorem and_mask (a : Int) (m : Nat) (hm : m < 9223372036854775808) : ∃ n : Nat, n ≤ m ∧ bits .and .i64 a (m : Int) = (n : Int) := by
  have h2 : (BitVec.ofInt 64 (m : Int)).toNat = m := by
    rw [BitVec.ofInt_natCast, BitVec.toNat_ofNat]; exact Nat.mod_eq_of_lt (by omega)
  have hle : (BitVec.ofInt 64 a &&& BitVec.ofInt 64 (m : Int)).toNat ≤ m := by
    rw [BitVec.toNat_and, h2]; exact Nat.and_le_right
  refine ⟨(BitVec.ofInt 64 a &&& BitVec.ofInt 64 (m : Int)).toNat, hle, ?_⟩
  show IntKind.i64.wrap ((BitVec.ofInt 64 a &&& BitVec.ofInt 64 (m : Int)).toNat : Int) = _
  exact IntWalk.i64_in _ (by omega)

/-- A ref of a ref, and so on, of an int. -/
def tyR : Nat → Ty
  | 0 => tyInt
  | j + 1 => .mk 6 [] 0 [tyR j] [] 0
def kdR (j : Nat) : Int := if j = 0 then 1 else 6
theorem deep_tyR : ∀ j, (tyR j).deep = j + 1
  | 0 => by decide
  | j + 1 => by
    show 1 + max (tyR j).deep 0 = _
    rw [deep_tyR j]; omega
theorem size_tyR : ∀ j, (tyR j).size = j + 1
  | 0 => by decide
  | j + 1 => by
    show 1 + ((tyR j).size + 0) = _
    rw [size_tyR j]; omega
theorem okT_tyR : ∀ j, okT (tyR j) = true
  | 0 => by decide
  | j + 1 => by
    have h := okT_tyR j
    unfold tyR
    simp [okT, okL, h]; decide
theorem right_tyR (j : Nat) : rightT (tyR j) = decide (j < 200) := by
  unfold rightT
  rw [deep_tyR, okT_tyR, Bool.and_true]
  exact decide_eq_decide.2 (by omega)
/-- The chain of types behind a type's list, all behind the block N. -/
def Chn (w : World) (N : Nat) : Nat → Value → Prop
  | 0, kv => kv = .slice none 0 0
  | j + 1, kv => ∃ g kv', kv = .slice (some ⟨g, 0, none⟩) 1 1 ∧ N < g ∧ Lies w g 27 (tyC (kdR j) [] 0 kv' (.slice none 0 0) 0).toArray ∧ Chn w N j kv'
theorem Chn.keep {w w' : World} {N : Nat} (hk : ∀ g, N < g → g < w.heap.size → w'.heap[g]? = w.heap[g]?) : ∀ {j : Nat} {kv : Value}, Chn w N j kv → Chn w' N j kv
  | 0, _, h => h
  | _ + 1, _, ⟨g, kv', h1, h2, h3, h4⟩ => ⟨g, kv', h1, h2, (hk g h2 h3.lt).trans h3, h4.keep hk⟩
theorem Chn.slice {w : World} {N : Nat} : ∀ {j : Nat} {kv : Value}, Chn w N j kv → ∃ A n c, kv = .slice A n c
  | 0, _, h => ⟨_, _, _, h⟩
  | _ + 1, _, ⟨_, _, h1, _⟩ => ⟨_, _, _, h1⟩
theorem Chn.tv {w : World} {N : Nat} : ∀ {j : Nat} {kv : Value}, Chn w N j kv → TV w (tyR j) (tyC (kdR j) [] 0 kv (.slice none 0 0) 0)
  | 0, _, h => by
    rw [show _ = Value.slice none 0 0 from h]
    exact TV.leaf w 1 [] 0 0
  | j + 1, _, ⟨g, kv', h1, _, h3, h4⟩ => by
    subst h1
    exact TV.one h4.tv h3 6 [] 0 (Strs.nil w) 0
end Go.Proofs.YtjeolmcjhpkcbaaDoor
