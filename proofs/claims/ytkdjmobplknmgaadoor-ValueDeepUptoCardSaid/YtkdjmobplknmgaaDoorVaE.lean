/- Right, First: whether a value may be. -/
import Derived.Test.YtkdjmobplknmgaaDoorVaD
namespace Go.Proofs.YtkdjmobplknmgaaDoor
open Go.RowKit

/-- A value is these cells. -/
def VV (w : World) (lo hi : Nat) (t : Vl) (l : List Value) : Prop :=
  match t with
  | .mk k n nm kids => ∃ (kv : Value) (f : Nat → Nat), l = vC k n nm kv ∧ SlV w kv kids.length (f kids.length) hi ∧ lo ≤ f 0 ∧ (∀ i, f i ≤ f (i + 1)) ∧ ∀ (i : Nat) t, kids[i]? = some t → VA w (f i) (f (i + 1)) (kidV kv i) t
theorem VV.keep {w w' : World} (hk : ∀ a, AtCells w a → w'.heap[a.block]? = w.heap[a.block]?) {lo hi : Nat} {t : Vl} {l : List Value} (h : VV w lo hi t l) : VV w' lo hi t l := by
  obtain ⟨k, n, nm, kids⟩ := t
  obtain ⟨kv, f, h1, h2, h3, h4, h5⟩ := h
  exact ⟨kv, f, h1, h2.keep hk, h3, h4, fun i t ht => (h5 i t ht).keep hk⟩
theorem VV.later {w w' : World} {lo hi : Nat} {t : Vl} {l : List Value} (h : VV w lo hi t l) (hb : Below w.heap.size w w') : VV w' lo hi t l := h.keep fun _ ha => hb.block _ ha.lt
theorem VV.at_ {w : World} {lo hi : Nat} {t : Vl} {l : List Value} (h : VV w lo hi t l) {a : Addr} (h0 : a.spot = none) (hat : AtCells w a) (hr : ReadsAt w a l) : VA w lo hi a t := by
  obtain ⟨k, n, nm, kids⟩ := t
  obtain ⟨kv, f, rfl, h2, h3, h4, h5⟩ := h
  exact .mk lo hi a k n nm kids kv f h0 hat hr h2 h3 h4 h5
theorem VV.form {w : World} {lo hi : Nat} {t : Vl} {l : List Value} (h : VV w lo hi t l) : ∃ k n nm kids A c, t = .mk k n nm kids ∧ l = vC k n nm (.slice A kids.length c) := by
  obtain ⟨k, n, nm, kids⟩ := t
  obtain ⟨kv, f, rfl, ⟨A, c, rfl, _⟩, _⟩ := h
  exact ⟨k, n, nm, kids, A, c, rfl, rfl⟩
theorem VV.new {w : World} {lo hi : Nat} {t : Vl} {l : List Value} (h : VV w lo hi t l) (e : TypeId) {N : Nat} (hN : w.heap.size = N) : VA (w.alloc (.cells l.toArray e)) lo hi ⟨N, 0, none⟩ t := by
  subst hN
  refine (h.later (below_new w _)).at_ rfl ⟨_, _, Lies.new w e l.toArray⟩ (fun i u hu => ?_)
  rw [show (⟨w.heap.size, 0 + i, none⟩ : Addr) = ⟨w.heap.size, i, none⟩ by rw [Nat.zero_add], (Lies.new w e l.toArray).cell]
  simpa using hu
/-- Is a value, and all within it, as it has to be, and not too deep? -/
def fitV (al : Int → Int → Str → Nat → Bool) (t : Vl) : Bool := decide (t.deep ≤ 1000) && okV al t

set_option maxRecDepth 100000 in
set_option maxHeartbeats 4000000 in
theorem fits_any {F : Nat} {al : Int → Int → Str → Nat → Bool} (hF : Alone F al) (w : World) (lo hi : Nat) (t : Vl) (l : List Value) (h : VV w lo hi t l) :
    Calls Tryd.prog 31 #[.agg l.toArray, .func (.func F) #[] #[]] w fun e w' => e = .returned (.bool (fitV al t)) ∧ Below w.heap.size w w' := by
  obtain ⟨k, n, nm, kids, A, c, rfl, rfl⟩ := h.form
  have hent := hF.ent
  have hmm := @run_makeMap Tryd.prog
  obtain ⟨w1, hw1⟩ : ∃ w1, w1 = w.alloc (.cells #[.int .i64 k, .int .i64 n, .string (ba nm), .slice A kids.length c] 24) := ⟨_, rfl⟩
  have hb1 : Below w.heap.size w w1 := by rw [hw1]; exact below_new w _
  have hva : VA w1 lo hi ⟨w.heap.size, 0, none⟩ (.mk k n nm kids) := by rw [hw1]; exact h.new _ rfl
  have hk2 := KeyL.made w1
  have hb2 := below_new w1 (.map #[] 0)
  have hc := depth_all hF _ _ (Nat.le_refl _) (w1.alloc (.map #[] 0)) w1.heap.size 1000 lo hi ⟨w.heap.size, 0, none⟩ [] hk2 (hva.later hb2) (fun x hx => by cases hx) (by omega)
  have hz : w1.heap.size = w.heap.size + 1 := by rw [hw1]; simp
  rw [hz, show ((1000 : Nat) : Int) = 1000 from rfl] at hc
  unfold judgeV DepthEnd at hc
  have HZ := Lib.hid hz
  clear hz
  have HC := Lib.hid hc
  have HW := Lib.hid hw1
  have HB1 := Lib.hid hb1
  have HB2 := Lib.hid hb2
  clear hc hw1 hb1 hb2 hk2 hva h
  unfold vC
  go_enter Tryd.func31, Tryd.ntmps31
  go_wp2_with fail
  rw [← HW.out]
  with_reducible refine HC.out.mono ?_
  rintro e w3 ⟨dd, L2, rfl, hdd, hK3, hL3, hB3⟩
  have HB3 := Lib.hid hB3
  clear hdd hK3 hL3 hB3
  go_wp2
  go_ret
  have h1 := HB1.out.size
  have h2 : w1.heap.size < (w1.alloc (.map #[] 0)).heap.size := by simp
  exact ⟨rfl, (HB1.out.trans (HB2.out.mono h1)).trans (HB3.out.below (by omega) (by omega))⟩
set_option maxRecDepth 100000 in
set_option maxHeartbeats 4000000 in
theorem right_any (w : World) (lo hi : Nat) (t : Vl) (l : List Value) (h : VV w lo hi t l) :
    Calls Tryd.prog 14 #[.agg l.toArray] w fun e w' => e = .returned (.bool (fitV alR t)) ∧ Below w.heap.size w w' := by
  obtain ⟨k, n, nm, kids, A, c, rfl, rfl⟩ := h.form
  have hb1 := below_new w (.cells #[.int .i64 k, .int .i64 n, .string (ba nm), .slice A kids.length c] 24)
  have hc := fits_any alone_R _ lo hi _ _ (h.later hb1)
  unfold vC at hc ⊢
  have HC := Lib.hid hc
  have HB1 := Lib.hid hb1
  clear hc hb1 h
  go_enter Tryd.func14, Tryd.ntmps14
  go_wp2_with fail
  with_reducible refine HC.out.mono ?_
  rintro e w3 ⟨rfl, hB3⟩
  go_wp2
  go_ret
  exact ⟨rfl, HB1.out.trans (hB3.mono HB1.out.size)⟩
set_option maxRecDepth 100000 in
set_option maxHeartbeats 4000000 in
theorem first_any (w : World) (lo hi : Nat) (t : Vl) (l : List Value) (h : VV w lo hi t l) :
    Calls Tryd.prog 16 #[.agg l.toArray] w fun e w' => e = .returned (.bool (fitV alF t)) ∧ Below w.heap.size w w' := by
  obtain ⟨k, n, nm, kids, A, c, rfl, rfl⟩ := h.form
  have hb1 := below_new w (.cells #[.int .i64 k, .int .i64 n, .string (ba nm), .slice A kids.length c] 24)
  have hc := fits_any alone_F _ lo hi _ _ (h.later hb1)
  unfold vC at hc ⊢
  have HC := Lib.hid hc
  have HB1 := Lib.hid hb1
  clear hc hb1 h
  go_enter Tryd.func16, Tryd.ntmps16
  go_wp2_with fail
  with_reducible refine HC.out.mono ?_
  rintro e w3 ⟨rfl, hB3⟩
  go_wp2
  go_ret
  exact ⟨rfl, HB1.out.trans (hB3.mono HB1.out.size)⟩
end Go.Proofs.YtkdjmobplknmgaaDoor
