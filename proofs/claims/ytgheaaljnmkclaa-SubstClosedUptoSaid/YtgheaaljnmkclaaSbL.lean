/- What is read is kept where the blocks that can be read are; a world without some blocks. -/
import Derived.Test.YtgheaaljnmkclaaSbm
import Derived.Outline
namespace Go.Proofs.Ytgheaaljnmkclaa
open Go.RowKit

/-- Something can be read in a block. -/
def live (w : World) (g : Nat) : Prop := (∃ a v, a.block = g ∧ w.cell? a = some v) ∨ ∃ es c, w.heap[g]? = some (.map es c)
theorem live.lt {w : World} {g : Nat} (h : live w g) : g < w.heap.size := by
  rcases h with ⟨a, v, rfl, h⟩ | ⟨es, c, h⟩
  · exact World.block_lt_of_cell? w a h
  · exact (Array.getElem?_eq_some_iff.1 h).1
theorem SrcV.keepL {w w' : World} {u : Value} {xs : List Value} (h : SrcV w u xs) (hk : ∀ g, live w g → w'.heap[g]? = w.heap[g]?) : SrcV w' u xs := by
  rcases h with h | ⟨ad, c, h1, h2, h3⟩
  · exact .inl h
  · refine .inr ⟨ad, c, h1, h2, fun j q hq => ?_⟩
    have h4 := h3 j q hq
    exact (World.cell?_of_block (w := w) (hk _ (.inl ⟨_, _, rfl, h4⟩))).trans h4
theorem StrR.keepL {w w' : World} {v : Value} {ls : List Str} (h : StrR w v ls) (hk : ∀ g, live w g → w'.heap[g]? = w.heap[g]?) : StrR w' v ls := ⟨h.1.keepL hk, h.2⟩
theorem reads_live {w : World} {a : Addr} {l : List Value} (h : ReadsAt w a l) (h0 : 0 < l.length) : live w a.block := by
  have := h 0 (l[0]'h0) (List.getElem?_eq_getElem h0)
  exact .inl ⟨⟨a.block, a.off + 0, none⟩, _, rfl, this⟩
theorem TR.keepL {w w' : World} (hk : ∀ g, live w g → w'.heap[g]? = w.heap[g]?) {a : Addr} {t : Ty} (h : TR w a t) : TR w' a t := by
  induction h with
  | mk a k nm v kids ls rv kv lv h0 hr hsl hl hi _ ih =>
    exact .mk a k nm v kids ls rv kv lv h0 (hr.keep (hk _ (reads_live hr (by simp [tyC])))) hsl (hl.keepL hk) hi ih
theorem TRV.keepL {w w' : World} (hk : ∀ g, live w g → w'.heap[g]? = w.heap[g]?) {t : Ty} {l : List Value} (h : TRV w t l) : TRV w' t l := by
  obtain ⟨k, nm, v, kids, ls, rv⟩ := t
  obtain ⟨kv, lv, h1, h2, h3, h4, h5⟩ := h
  exact ⟨kv, lv, h1, h2, h3.keepL hk, h4, fun i t ht => (h5 i t ht).keepL hk⟩
theorem RwV.keepL {w w' : World} (hk : ∀ g, live w g → w'.heap[g]? = w.heap[g]?) {r : List Str × Int} {l : List Value} (h : RwV w r l) : RwV w' r l := by
  obtain ⟨lv, h1, h2, h3⟩ := h
  exact ⟨lv, h1, h2.keepL hk, h3⟩
theorem MapI.live {w : World} {k b m : Nat} {g : GMap} (h : MapI w k b m g) : live w b := by
  obtain ⟨es, c, h1, _⟩ := h.isMap
  exact .inr ⟨es, c, h1⟩
theorem SaidV.keepL {w w' : World} {k m : Nat} {v : Value} {g : GMap} (h : SaidV w k v m g) (hk : ∀ g, live w g → w'.heap[g]? = w.heap[g]?) : SaidV w' k v m g := by
  obtain ⟨zs, h1, h2, h3, h4, h5⟩ := h
  exact ⟨zs, h1.keepL hk, fun l hl => (h2 l hl).keep (hk _ (h2 l hl).live), h3, h4, h5⟩
theorem TM.keepL {w w' : World} {T : Int → Option Ty} {g : GMap} (h : TM w T g) (hk : ∀ g, live w g → w'.heap[g]? = w.heap[g]?) : TM w' T g := by
  intro n hn
  have h1 := h n hn
  cases hT : T n with
  | none => rw [hT] at h1; exact h1
  | some t =>
    rw [hT] at h1
    obtain ⟨l, h2, h3⟩ := h1
    exact ⟨l, h2, h3.keepL hk⟩
theorem RM.keepL {w w' : World} {R : Int → Option (List Str × Int)} {g : GMap} (h : RM w R g) (hk : ∀ g, live w g → w'.heap[g]? = w.heap[g]?) : RM w' R g := by
  intro n hn
  have h1 := h n hn
  cases hT : R n with
  | none => rw [hT] at h1; exact h1
  | some t =>
    rw [hT] at h1
    obtain ⟨l, h2, h3⟩ := h1
    exact ⟨l, h2, h3.keepL hk⟩
theorem SubV.keepL {w w' : World} {v : Value} {m : Nat} {T : Int → Option Ty} {R : Int → Option (List Str × Int)} (h : SubV w v m T R) (hk : ∀ g, live w g → w'.heap[g]? = w.heap[g]?) : SubV w' v m T R := by
  obtain ⟨vt, vr, gt, gr, h1, h2, h3, h4, h5⟩ := h
  exact ⟨vt, vr, gt, gr, h1, h2.keepL hk, h3.keepL hk, h4.keepL hk, h5.keepL hk⟩
open Classical in
/-- The world without some blocks. -/
noncomputable def blank (X : Nat → Prop) (w : World) : World := { w with heap := w.heap.mapIdx fun i o => if X i then .cells #[] 0 (0, 0) else o }
theorem blank_at {X : Nat → Prop} {w : World} {g : Nat} (h : ¬ X g) : (blank X w).heap[g]? = w.heap[g]? := by
  unfold blank
  simp [h]
theorem blank_size (X : Nat → Prop) (w : World) : (blank X w).heap.size = w.heap.size := by
  unfold blank
  simp
theorem blank_live {X : Nat → Prop} {w : World} {g : Nat} (h : live (blank X w) g) : ¬ X g ∧ g < w.heap.size := by
  have hlt := h.lt
  rw [blank_size] at hlt
  refine ⟨fun hx => ?_, hlt⟩
  have hb : (blank X w).heap[g]? = some (.cells #[] 0 (0, 0)) := by
    unfold blank
    simp [hx, hlt]
  rcases h with ⟨a, v, rfl, h⟩ | ⟨es, c, h⟩
  · obtain ⟨g, o, sp⟩ := a
    have h2 := World.cell?_spot (a := ⟨g, o, sp⟩) h
    subst h2
    rw [cell_of_row (blank X w) g o #[] 0 (0, 0) hb] at h
    simp at h
  · rw [hb] at h
    cases h
/-- From a world without some blocks to one that is like it elsewhere. -/
theorem blank_to {X Y : Nat → Prop} {w w' : World} (hk : Kept Y w w') (hy : ∀ b, b < w.heap.size → Y b → X b) : ∀ g, live (blank X w) g → w'.heap[g]? = (blank X w).heap[g]? := fun g hg => by
  obtain ⟨h1, h2⟩ := blank_live hg
  rw [blank_at h1]
  exact hk.2 g h2 (fun h => h1 (hy g h2 h))
theorem blank_blank {X Y : Nat → Prop} {w w' : World} (hk : Kept Y w w') (hy : ∀ b, b < w.heap.size → Y b → X b) : ∀ g, live (blank X w) g → (blank X w').heap[g]? = (blank X w).heap[g]? := fun g hg => by
  rw [blank_at (blank_live hg).1]
  exact blank_to hk hy g hg
theorem blank_more {X : Nat → Prop} {w w' : World} (hb : Below w.heap.size w w') : ∀ g, live (blank X w) g → (blank (fun b => X b ∨ w.heap.size ≤ b) w').heap[g]? = (blank X w).heap[g]? := fun g hg => by
  obtain ⟨h1, h2⟩ := blank_live hg
  rw [blank_at h1, blank_at (fun h => by rcases h with h | h; exact h1 h; omega)]
  exact hb.block g h2
theorem Kept.of_below {w w' : World} (h : Below w.heap.size w w') : Kept (fun _ => False) w w' := ⟨h.size, fun b hb _ => h.block b hb⟩
end Go.Proofs.Ytgheaaljnmkclaa
