/- What is to be said. -/
import Derived.Test.YtgheaaljnmkclaaSbf
namespace Go.Proofs.Ytgheaaljnmkclaa
open Go.RowKit

structure SayD where
  n : Int
  b : Bool
  t : Ty
  ls : List Str
  rv : Int
def SayAt (w : World) (a : Addr) (x : SayD) : Prop := ∃ l lvv, TRV w x.t l ∧ StrR w lvv x.ls ∧ i64ok x.rv ∧ i64ok x.n ∧ x.t.size ≤ 100000000 ∧ ReadsAt w a (.int .i64 x.n :: .bool x.b :: (l ++ [lvv, .int .i64 x.rv]))
/-- What is to be said, as it comes in. -/
def SayR (w : World) (lv : Value) (xs : List SayD) : Prop :=
  ∃ A c, lv = .slice A xs.length c ∧ xs.length ≤ c ∧ ∀ (j : Nat) x, xs[j]? = some x → ∃ g o, A = some ⟨g, o, none⟩ ∧ SayAt w ⟨g, o + j * 10, none⟩ x
theorem SayR.keep {w w' : World} {lv : Value} {xs : List SayD} (h : SayR w lv xs) (hk : ∀ g, g < w.heap.size → w'.heap[g]? = w.heap[g]?) : SayR w' lv xs := by
  obtain ⟨A, c, h1, h2, h3⟩ := h
  refine ⟨A, c, h1, h2, fun j x hx => ?_⟩
  obtain ⟨g, o, h4, l, lvv, h5, h6, h7, h8, h9, h10⟩ := h3 j x hx
  exact ⟨g, o, h4, l, lvv, h5.keep hk, h6.keep hk, h7, h8, h9, h10.keep (hk _ (reads_block h10 (by simp)))⟩
end Go.Proofs.Ytgheaaljnmkclaa
