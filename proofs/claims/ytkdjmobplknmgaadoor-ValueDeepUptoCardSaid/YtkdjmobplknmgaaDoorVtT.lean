/- A value's text: Text. -/
import Derived.Test.YtkdjmobplknmgaaDoorVtX
namespace Go.Proofs.YtkdjmobplknmgaaDoor
open Go Go.RowKit Go.Shelf

theorem grow_any (b n : Nat) (w : World) (hbk : w.heap[b]? = some (.cells #[.pointer none, .slice none 0 0] 49 (0, 0))) (hn : n ≤ 100000000) :
    Calls Tryd.prog 27 #[.pointer (some ⟨b, 0, none⟩), .int .i64 (n : Int)] w fun e w' => e = .returned (.tuple #[]) ∧ Used w' b [] ∧ Below b w w' :=
  Any.Builder_Grow_fresh Tryd.lay165 Tryd.Builder_Extra b b n w (Nat.le_refl _) hbk (Nat.le_of_lt (lt_of_block hbk)) (by omega)
theorem bstring_any (b : Nat) (l : Str) (w : World) (h : Bld w b l) : Calls Tryd.prog 29 #[.pointer (some ⟨b, 0, none⟩)] w fun e w' => e = .returned (.string (ba l)) ∧ Below b w w' :=
  Any.Builder_String_any Tryd.lay169 Tryd.Builder_Extra b b l w h (Nat.le_of_lt h.lt)
def TextEnd (t : Vl) (w : World) (e : Ending) (w' : World) : Prop :=
  e = .returned (if fitV alR t then .tuple #[.string (ba (txtV t)), .int .i64 0] else .tuple #[.string ⟨#[]⟩, .int .i64 1]) ∧ Below w.heap.size w w'
set_option maxRecDepth 100000 in
set_option maxHeartbeats 8000000 in
theorem text_any (w : World) (lo hi : Nat) (t : Vl) (l : List Value) (h : VV w lo hi t l) (hh : hi ≤ w.heap.size) (ht : Tab w) (hN : okV alN t = true) (hlen : lenV t ≤ 100000000) :
    Calls Tryd.prog 12 #[.agg l.toArray] w (TextEnd t w) := by
  obtain ⟨k, n, nm, kids, A, c, rfl, rfl⟩ := h.form
  have hmm := @run_makeMap Tryd.prog
  obtain ⟨w1, hw1⟩ : ∃ w1, w1 = w.alloc (.cells #[.int .i64 k, .int .i64 n, .string (ba nm), .slice A kids.length c] 24) := ⟨_, rfl⟩
  have hb1 : Below w.heap.size w w1 := by rw [hw1]; exact below_new w _
  have hva : VA w1 lo hi ⟨w.heap.size, 0, none⟩ (.mk k n nm kids) := by rw [hw1]; exact h.new _ rfl
  have l1 : Lies w1 w.heap.size 24 #[.int .i64 k, .int .i64 n, .string (ba nm), .slice A kids.length c] := by rw [hw1]; exact Lies.new w _ _
  have hri := right_any w1 lo hi _ _ (h.later hb1)
  unfold vC at hri ⊢
  obtain ⟨T, hT⟩ : ∃ T, T = Vl.mk k n nm kids := ⟨_, rfl⟩
  rw [← hT] at hva hri hN hlen ⊢
  have hsz1 : w.heap.size < w1.heap.size := l1.lt
  have HW := Lib.hid hw1
  have HB1 := Lib.hid hb1
  have HVA := Lib.hid hva
  have HTB := Lib.hid (ht.later hb1)
  have HN := Lib.hid hN
  have HTT := Lib.hid hT
  have c0 : w1.cell? ⟨w.heap.size, 0, none⟩ = some (.int .i64 k) := l1.cell 0
  have c1 : w1.cell? ⟨w.heap.size, 1, none⟩ = some (.int .i64 n) := l1.cell 1
  have c2 : w1.cell? ⟨w.heap.size, 2, none⟩ = some (.string (ba nm)) := l1.cell 2
  have c3 : w1.cell? ⟨w.heap.size, 3, none⟩ = some (.slice A kids.length c) := l1.cell 3
  clear hw1 hb1 hva hN hT h l1 ht
  by_cases hf : fitV alR T = true
  · rw [hf] at hri
    have HRI := Lib.hid hri
    have HF := Lib.hid hf
    clear hri hf
    go_enter Tryd.func12, Tryd.ntmps12
    go_wp2_with fail
    rw [← HW.out]
    refine HRI.out.mono ?_
    rintro e w2 ⟨rfl, hb2⟩
    obtain ⟨w3, hw3⟩ : ∃ w3, w3 = w2.alloc (.map #[] 0) := ⟨_, rfl⟩
    have hb3 : Below w1.heap.size w1 w3 := by rw [hw3]; exact hb2.trans ((below_new w2 _).mono hb2.size)
    have hk3 : KeyL w3 w2.heap.size [] := by rw [hw3]; exact KeyL.made w2
    have hs2 := hb2.size
    have hask : SizeAsk T w3 w2.heap.size lo hi ⟨w.heap.size, 0, none⟩ [] := ⟨hk3, HVA.out.later hb3, fun x hx => (by cases hx), HTB.out.later hb3, Nat.lt_of_lt_of_le HTB.out.lt hs2, HN.out, hlen⟩
    have hsa := size_all _ _ (Nat.le_refl _) w3 w2.heap.size lo hi _ [] hask
    unfold SizeEnd at hsa
    obtain ⟨N, hNN⟩ : ∃ N, N = lenV T := ⟨_, rfl⟩
    rw [← hNN] at hsa hlen
    have HW3 := Lib.hid hw3
    have HB3 := Lib.hid hb3
    have HSA := Lib.hid hsa
    have HNN := Lib.hid hNN
    have HSZ := Lib.hid hs2
    have HK3 := Lib.hid hk3
    have hng : (N : Int) ≤ 100000000 := by omega
    clear hw3 hb3 hsa hNN hask hb2 hs2 hk3
    go_wp2_with fail
    rw [← HW3.out]
    refine HSA.out.mono ?_
    rintro e w4 ⟨L2, rfl, hK4, hL4, hB4⟩
    have hb4 : Below w1.heap.size w1 w4 := HB3.out.trans (hB4.below HSZ.out HB3.out.size)
    obtain ⟨w5, hw5⟩ : ∃ w5, w5 = w4.alloc (.cells #[.pointer none, .slice none 0 0] 49) := ⟨_, rfl⟩
    have hb5 : Below w1.heap.size w1 w5 := by rw [hw5]; exact hb4.trans ((below_new w4 _).mono hb4.size)
    have l5 : Lies w5 w4.heap.size 49 #[.pointer none, .slice none 0 0] := by rw [hw5]; exact Lies.new w4 _ _
    have hgr := grow_any w4.heap.size N w5 l5 (by omega)
    have HGR := Lib.hid hgr
    have HW5 := Lib.hid hw5
    have HB5 := Lib.hid hb5
    have HS4 := Lib.hid hb4.size
    clear hK4 hL4 hB4 hb4 hw5 hb5 l5 hgr
    go_wp2_with fail
    rw [← HW5.out]
    refine HGR.out.mono ?_
    rintro e w6 ⟨rfl, hu6, hb6⟩
    have hb6' : Below w1.heap.size w1 w6 := HB5.out.trans (hb6.mono HS4.out)
    have hwr := write_all _ _ (Nat.le_refl _) w6 w4.heap.size lo hi ⟨w.heap.size, 0, none⟩ [] ⟨hu6.bld, HVA.out.later hb6', by have := HS4.out; show w.heap.size < w4.heap.size; omega, by have := HS4.out; omega, HTB.out.later hb6', Nat.lt_of_lt_of_le HTB.out.lt HS4.out, HN.out, by have := HNN.out; simp only [List.length_nil]; omega⟩
    rw [List.nil_append] at hwr
    unfold WEnd at hwr
    have HWR := Lib.hid hwr
    have HB6 := Lib.hid hb6'
    clear hu6 hb6 hb6' hwr
    go_wp2_with fail
    refine HWR.out.mono ?_
    rintro e w7 ⟨rfl, hu7, hb7⟩
    have hbs := bstring_any w4.heap.size _ w7 hu7.bld
    have HBS := Lib.hid hbs
    have HB7 := Lib.hid (HB6.out.trans (hb7.mono HS4.out))
    clear hu7 hb7 hbs
    go_wp2_with fail
    refine HBS.out.mono ?_
    rintro e w8 ⟨rfl, hb8⟩
    have HB8 := Lib.hid (HB1.out.trans ((HB7.out.trans (hb8.mono HS4.out)).mono HB1.out.size))
    clear hb8
    go_wp2
    go_ret2
    exact ⟨by rw [HF.out]; rfl, HB8.out⟩
  · have hf' : fitV alR T = false := by simpa using hf
    rw [hf'] at hri
    have HRI := Lib.hid hri
    have HF := Lib.hid hf'
    clear hri hf hf'
    go_enter Tryd.func12, Tryd.ntmps12
    go_wp2_with fail
    rw [← HW.out]
    refine HRI.out.mono ?_
    rintro e w2 ⟨rfl, hb2⟩
    go_wp2
    go_ret2
    exact ⟨by rw [HF.out]; rfl, HB1.out.trans (hb2.mono HB1.out.size)⟩
end Go.Proofs.YtkdjmobplknmgaaDoor
