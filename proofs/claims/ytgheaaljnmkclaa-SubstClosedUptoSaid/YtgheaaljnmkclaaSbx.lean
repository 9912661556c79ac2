/- The reference's substitutions, as far as they can be read. -/
import Derived.Test.YtgheaaljnmkclaaSbw
import Derived.Deep.AppendLies
import Derived.Outline
namespace Go.Proofs.Ytgheaaljnmkclaa
open Go.RowKit

theorem flat_at (k : Nat) : ∀ (ts : List (List Value)) (j i : Nat) (r : List Value) (x : Value), (∀ r ∈ ts, r.length = k) → ts[j]? = some r → r[i]? = some x → ts.flatten[j * k + i]? = some x
  | [], j, i, r, x, _, h, _ => by simp at h
  | t :: ts, 0, i, r, x, hl, h, hx => by
    obtain rfl : t = r := by simpa using h
    have hi := (List.getElem?_eq_some_iff.1 hx).1
    rw [List.flatten_cons, Nat.zero_mul, Nat.zero_add, List.getElem?_append_left hi]
    exact hx
  | t :: ts, j + 1, i, r, x, hl, h, hx => by
    have ht := hl t (by simp)
    rw [List.flatten_cons, List.getElem?_append_right (by rw [ht, Nat.succ_mul]; omega), ht]
    have e : (j + 1) * k + i - k = j * k + i := by rw [Nat.succ_mul]; omega
    rw [e]
    exact flat_at k ts j i r x (fun r hr => hl r (by simp [hr])) (by simpa using h) hx
def RowT (r : List Value) : Prop := ∃ (k : Int) (nm : Str) (v : Int) (A3 : Option Addr) (n3 c3 : Nat) (A4 : Option Addr) (n4 c4 : Nat) (rv : Int), r = [.int .i64 k, .string (ba nm), .int .i64 v, .slice A3 n3 c3, .slice A4 n4 c4, .int .i64 rv]
def RowR (r : List Value) : Prop := ∃ (A4 : Option Addr) (n4 c4 : Nat) (rv : Int), r = [.slice A4 n4 c4, .int .i64 rv]
/-- Rows of k cells are read. -/
def RowsR (w : World) (k : Nat) (P : List Value → Prop) (b : Value) (ts : List (List Value)) : Prop :=
  ((b = .slice none 0 0 ∧ ts = []) ∨ ∃ g o c, b = .slice (some ⟨g, o, none⟩) ts.length c ∧ ts.length ≤ c ∧ ∀ (j : Nat) r, ts[j]? = some r → ReadsAt w ⟨g, o + j * k, none⟩ r) ∧ ∀ r ∈ ts, P r
theorem own_rowsR {w : World} {B k n : Nat} {e : TypeId} {v : Value} {P : List Value → Prop} {ts : List (List Value)} (h : w.ownsRow B e k v n ts.flatten) (hn : ts.length = n) (hP : ∀ r ∈ ts, P r) (hk : ∀ r, P r → r.length = k) : RowsR w k P v ts := by
  refine ⟨?_, hP⟩
  rcases own_cells h with ⟨rfl, rfl⟩ | ⟨g, cap, rfl, h1, _, _, h2⟩
  · exact .inl ⟨rfl, List.eq_nil_of_length_eq_zero hn⟩
  · refine .inr ⟨g, 0, cap, by rw [hn], by omega, fun j r hr i u hu => ?_⟩
    have h3 := h2 _ u (flat_at k ts j i r u (fun r hr => hk r (hP r hr)) hr hu)
    show w.cell? ⟨g, 0 + j * k + i, none⟩ = some u
    rw [Nat.zero_add]
    exact h3
theorem RowsR.form {w : World} {k : Nat} {P : List Value → Prop} {b : Value} {ts : List (List Value)} (h : RowsR w k P b ts) : ∃ A c, b = .slice A ts.length c ∧ ts.length ≤ c ∧ ∀ (j : Nat) r, ts[j]? = some r → P r ∧ ∃ g o, A = some ⟨g, o, none⟩ ∧ ReadsAt w ⟨g, o + j * k, none⟩ r := by
  obtain ⟨h, hP⟩ := h
  rcases h with ⟨rfl, rfl⟩ | ⟨g, o, c, rfl, h1, h2⟩
  · exact ⟨_, _, rfl, Nat.le_refl _, fun j q hq => by simp at hq⟩
  · exact ⟨_, c, rfl, h1, fun j r hr => ⟨hP r (List.mem_of_getElem? hr), g, o, rfl, h2 j r hr⟩⟩
theorem RowsR.keep {w w' : World} {k : Nat} {P : List Value → Prop} {b : Value} {ts : List (List Value)} (h : RowsR w k P b ts) (hP : ∀ r, P r → 0 < r.length) (hk : ∀ g, g < w.heap.size → w'.heap[g]? = w.heap[g]?) : RowsR w' k P b ts := by
  obtain ⟨h, h0⟩ := h
  refine ⟨?_, h0⟩
  rcases h with h | ⟨g, o, c, h1, h2, h3⟩
  · exact .inl h
  · exact .inr ⟨g, o, c, h1, h2, fun j r hr => (h3 j r hr).keep (hk _ (reads_block (h3 j r hr) (hP r (h0 r (List.mem_of_getElem? hr)))))⟩
theorem RowsR.keepL {w w' : World} {k : Nat} {P : List Value → Prop} {b : Value} {ts : List (List Value)} (h : RowsR w k P b ts) (hP : ∀ r, P r → 0 < r.length) (hk : ∀ g, live w g → w'.heap[g]? = w.heap[g]?) : RowsR w' k P b ts := by
  obtain ⟨h, h0⟩ := h
  refine ⟨?_, h0⟩
  rcases h with h | ⟨g, o, c, h1, h2, h3⟩
  · exact .inl h
  · exact .inr ⟨g, o, c, h1, h2, fun j r hr => (h3 j r hr).keep (hk _ (reads_live (h3 j r hr) (hP r (h0 r (List.mem_of_getElem? hr)))))⟩
theorem RowT.len {r : List Value} (h : RowT r) : r.length = 6 := by obtain ⟨_, _, _, _, _, _, _, _, _, _, rfl⟩ := h; rfl
theorem RowR.len {r : List Value} (h : RowR r) : r.length = 2 := by obtain ⟨_, _, _, _, rfl⟩ := h; rfl
/-- A substitution of the reference's, as far as it can be read. -/
def RefV (w : World) (v : Value) (m : Nat) : Prop :=
  ∃ a b c d, ∃ (ns ms : List Int) (ts rs : List (List Value)), v = .agg #[a, b, c, d] ∧ SrcV w a (ns.map (Value.int .i64)) ∧ RowsR w 6 RowT b ts ∧ SrcV w c (ms.map (Value.int .i64)) ∧ RowsR w 2 RowR d rs ∧ ns.length = ts.length ∧ ms.length = rs.length ∧ ns.length ≤ m ∧ ms.length ≤ m
theorem RefV.keep {w w' : World} {v : Value} {m : Nat} (h : RefV w v m) (hk : ∀ g, g < w.heap.size → w'.heap[g]? = w.heap[g]?) : RefV w' v m := by
  obtain ⟨a, b, c, d, ns, ms, ts, rs, h0, h1, h2, h3, h4, h5⟩ := h
  exact ⟨a, b, c, d, ns, ms, ts, rs, h0, h1.keep hk, h2.keep (fun r h => by rw [h.len]; omega) hk, h3.keep hk, h4.keep (fun r h => by rw [h.len]; omega) hk, h5⟩
theorem RefV.keepL {w w' : World} {v : Value} {m : Nat} (h : RefV w v m) (hk : ∀ g, live w g → w'.heap[g]? = w.heap[g]?) : RefV w' v m := by
  obtain ⟨a, b, c, d, ns, ms, ts, rs, h0, h1, h2, h3, h4, h5⟩ := h
  exact ⟨a, b, c, d, ns, ms, ts, rs, h0, h1.keepL hk, h2.keepL (fun r h => by rw [h.len]; omega) hk, h3.keepL hk, h4.keepL (fun r h => by rw [h.len]; omega) hk, h5⟩
theorem RefV.mono {w : World} {v : Value} {m m' : Nat} (h : RefV w v m) (hm : m ≤ m') : RefV w v m' := by
  obtain ⟨a, b, c, d, ns, ms, ts, rs, h0, h1, h2, h3, h4, h5, h6, h7, h8⟩ := h
  exact ⟨a, b, c, d, ns, ms, ts, rs, h0, h1, h2, h3, h4, h5, h6, by omega, by omega⟩
theorem RefV.zero (w : World) : RefV w (.agg #[.slice none 0 0, .slice none 0 0, .slice none 0 0, .slice none 0 0]) 0 :=
  ⟨_, _, _, _, [], [], [], [], rfl, .inl ⟨rfl, rfl⟩, ⟨.inl ⟨rfl, rfl⟩, fun _ h => by cases h⟩, .inl ⟨rfl, rfl⟩, ⟨.inl ⟨rfl, rfl⟩, fun _ h => by cases h⟩, rfl, rfl, Nat.le_refl _, Nat.le_refl _⟩
theorem own_apart {w : World} {B1 B2 n1 n2 s1 s2 : Nat} {e1 e2 : TypeId} {v1 v2 : Value} {xs1 xs2 : List Value} (h1 : w.ownsRow B1 e1 s1 v1 n1 xs1) (h2 : w.ownsRow B2 e2 s2 v2 n2 xs2) (he : e1 ≠ e2) : ∀ g, v1.ownBlock = some g → v2.ownBlock ≠ some g := by
  intro g hg hg2
  rcases h1.2 with ⟨rfl, _⟩ | ⟨a, cap, cur, rfl, _, hh, _⟩
  · simp [Value.ownBlock] at hg
  · rcases h2.2 with ⟨rfl, _⟩ | ⟨a2, cap2, cur2, rfl, _, hh2, _⟩
    · simp [Value.ownBlock] at hg2
    · simp [Value.ownBlock] at hg hg2
      subst hg hg2
      rw [hh] at hh2
      injection hh2 with hh2
      injection hh2 with _ hh2
      exact he hh2
theorem info_I : (Try.prog.info? 3).map (fun i => (i.zero, i.size, i.bytes)) = some (some (.int .i64 0), 1, 8) := by kernel_rfl
theorem info_Rw : (Try.prog.info? 26).map (fun i => (i.zero, i.size, i.bytes)) = some (some (.agg zeroR), 2, 32) := by kernel_rfl
end Go.Proofs.Ytgheaaljnmkclaa
