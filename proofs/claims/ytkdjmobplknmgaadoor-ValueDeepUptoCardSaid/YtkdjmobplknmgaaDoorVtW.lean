/- What the text of a value begins with: word. -/
import Derived.Test.YtkdjmobplknmgaaDoorVtS
import Derived.Test.YtkdjmobplknmgaaDoorVaC
import Derived.Lib.LaidTab
import Derived.Lib.ItoaLen
import Derived.Outline
namespace Go.Proofs.YtkdjmobplknmgaaDoor
open Go Go.RowKit Go.Shelf

/-- The powers of ten lie where the program's text lays them. -/
def Tab (w : World) : Prop := Lib.TabIs Tryd.prog w "internal/strconv.uint64pow10" .u64 Lib.pow10Tab
theorem gTab : Tryd.prog.globalNamed "internal/strconv.uint64pow10" = some 1 := by kernel_rfl
theorem Tab.lt {w : World} (h : Tab w) : 1 < w.heap.size := by
  unfold Tab Lib.TabIs World.var? at h
  rw [gTab] at h
  simp only [Option.bind_some] at h
  rcases Nat.lt_or_ge 1 w.heap.size with h' | h'
  · exact h'
  · rw [Array.getElem?_eq_none h'] at h; cases h
theorem Tab.below {w w' : World} (h : Tab w) {B : Nat} (hb : Below B w w') (hB : 1 < B) : Tab w' := by
  unfold Tab Lib.TabIs World.var? at h ⊢
  rw [gTab] at h ⊢
  simp only [Option.bind_some] at h ⊢
  rw [hb.block _ hB]
  exact h
theorem Tab.later {w w' : World} (h : Tab w) (hb : Below w.heap.size w w') : Tab w' := h.below hb h.lt
def i64r (a : Int) : Prop := -9223372036854775808 ≤ a ∧ a ≤ 9223372036854775807
theorem itoa_len {n : Int} (hn : i64r n) : (Lib.itoa n).length ≤ 21 := by
  unfold i64r at hn
  unfold Lib.itoa
  split
  · rw [List.length_cons, Lib.decDigits_length]
    have := Lib.nDigits_le20 n.natAbs (by omega)
    omega
  · rw [Lib.decDigits_length]
    have := Lib.nDigits_le20 n.toNat (by omega)
    omega
/-- What a value's text begins with. -/
def wordV (k n : Int) (nm : Str) : Str :=
  if k = 1 then Lib.itoa n else if k = 2 then (if n = 1 then [116, 114, 117, 101] else [102, 97, 108, 115, 101]) else if k = 3 then [40, 41] else if k = 5 then [114, 101, 102] ++ Lib.itoa n else if k = 6 then [102, 117, 110] else nm
theorem itoa_any (n : Int) (hn : i64r n) (w : World) (ht : Tab w) : Calls Tryd.prog 60 #[.int .i64 n] w fun e w' => e = .returned (.string (ba (Lib.itoa n))) ∧ Below w.heap.size w w' := by
  refine (Any.strconv_Itoa Tryd.lay171 n hn.1 hn.2 w ht).mono ?_
  rintro e w' ⟨rfl, k, os, rfl⟩
  exact ⟨rfl, rfl, rfl, rfl, by simp [Sort.grow], fun j hj => by simp [Sort.grow, Array.getElem?_append, hj]⟩
set_option maxRecDepth 100000 in
set_option maxHeartbeats 2000000 in
theorem word_any (w : World) (b o : Nat) (k n : Int) (nm : Str) (kv : Value) (hr : ReadsAt w ⟨b, o, none⟩ (vC k n nm kv)) (hn : i64r n) (ht : Tab w) :
    Calls Tryd.prog 41 #[.pointer (some ⟨b, o, none⟩)] w fun e w' => e = .returned (.string (ba (wordV k n nm))) ∧ Below w.heap.size w w' := by
  have hit := Lib.hid (itoa_any n hn w ht)
  obtain ⟨c0, c1, c2, c3⟩ := reads4 hr
  have hnr := hn
  clear hr hn
  unfold wordV
  by_cases h1 : k = 1
  · subst h1
    go_enter Tryd.func41, Tryd.ntmps41
    go_wp2_with fail
    refine hit.out.mono ?_
    rintro e w' ⟨rfl, hb⟩
    go_wp2
    go_ret
    exact ⟨rfl, hb⟩
  · by_cases h2 : k = 2
    · subst h2
      by_cases hn : n = 1
      · subst hn
        go_enter Tryd.func41, Tryd.ntmps41
        go_wp2
        go_ret
        exact ⟨rfl, Below.refl _ _⟩
      · rw [if_neg hn]
        go_enter Tryd.func41, Tryd.ntmps41
        go_wp2
        go_ret
        exact ⟨rfl, Below.refl _ _⟩
    · by_cases h3 : k = 3
      · subst h3
        go_enter Tryd.func41, Tryd.ntmps41
        go_wp2
        go_ret
        exact ⟨rfl, Below.refl _ _⟩
      · by_cases h5 : k = 5
        · subst h5
          obtain ⟨T, hT⟩ : ∃ T, T = Lib.itoa n := ⟨_, rfl⟩
          rw [← hT] at hit ⊢
          have hcat : ba [114, 101, 102] ++ ba T = ba ([114, 101, 102] ++ T) := by
            apply ByteArray.ext
            simp [ba]
          have HT := Lib.hid hT
          have HC := Lib.hid hcat
          have hsz : (ba T).size ≤ 21 := by rw [hT, ba_size]; exact itoa_len hnr
          have hsz2 : ¬ 9223372036854775807 < 3 + (ba T).size := by omega
          clear hT hcat
          go_enter Tryd.func41, Tryd.ntmps41
          go_wp2_with fail
          refine hit.out.mono ?_
          rintro e w' ⟨rfl, hb⟩
          go_wp2
          go_ret
          exact ⟨congrArg (fun s => Ending.returned (Value.string s)) HC.out, hb⟩
        · by_cases h6 : k = 6
          · subst h6
            go_enter Tryd.func41, Tryd.ntmps41
            go_wp2
            go_ret
            exact ⟨rfl, Below.refl _ _⟩
          · rw [if_neg h1, if_neg h2, if_neg h3, if_neg h5, if_neg h6]
            go_enter Tryd.func41, Tryd.ntmps41
            go_wp2
            go_ret
            exact ⟨rfl, Below.refl _ _⟩
end Go.Proofs.YtkdjmobplknmgaaDoor
