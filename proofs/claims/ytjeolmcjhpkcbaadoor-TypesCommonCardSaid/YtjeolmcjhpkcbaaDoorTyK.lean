/- The text of a row; whether a kind is among some. -/
import Derived.Test.YtjeolmcjhpkcbaaDoorTyT
import Derived.Test.YtjeolmcjhpkcbaaDoorTyS2
import Derived.Outline
namespace Go.Proofs.YtjeolmcjhpkcbaaDoor
open Go.RowKit Go.Shelf

def joinB (ls : List Str) : Str := Lib.join ls [44]
def rowB (ls : List Str) (rv : Int) : Str :=
  if ls.length = 0 ∧ rv = 0 then [] else 60 :: (joinB ls ++ (if rv = 0 then [] else 124 :: Lib.decDigits rv.toNat) ++ [62, 32])
theorem ba_app (a b : List UInt8) : ba a ++ ba b = ba (a ++ b) := by
  apply ByteArray.ext
  simp [ba]
theorem ba_app_l (a : List UInt8) (b : ByteArray) : b ++ ba a = ba (b.data.toList ++ a) := by
  have := ba_app b.data.toList a
  rw [← ba_of] at this
  exact this
theorem ba_app_r (a : List UInt8) (b : ByteArray) : ba a ++ b = ba (a ++ b.data.toList) := by
  have := ba_app a b.data.toList
  rw [← ba_of] at this
  exact this
theorem join_any (v : Value) (ls : List Str) (w : World) (hv : Strs w v ls) (hb : ls.length ≤ 1000) (hl : (joinB ls).length ≤ 100000) :
    Calls Tryd.prog 66 #[v, .string ⟨#[44]⟩] w fun e w' => e = .returned (.string (ba (joinB ls))) ∧ Below w.heap.size w w' := by
  by_cases h0 : ls = []
  · subst h0
    obtain ⟨A, c, rfl, _⟩ := hv.slice
    refine (Any.strings_Join_none Tryd.lays156 Tryd.Builder_Extra_156 A c ⟨#[44]⟩ w).mono ?_
    rintro e w' ⟨rfl, rfl⟩
    exact ⟨rfl, Below.refl _ _⟩
  · obtain ⟨g, o, c, rfl, hc1, _, hc⟩ := hv.some h0
    have hmap : (ls.map ba).map (·.data.toList) = ls := by simp [Function.comp_def, ba_list]
    have hlen : (ls.map ba).length = ls.length := by simp
    have h := Any.strings_Join Tryd.lays156 Tryd.Builder_Extra_156 g o c (ls.map ba) ⟨#[44]⟩ w (fun j x hj => by
      rw [List.getElem?_map] at hj
      obtain ⟨s, hs, rfl⟩ := Option.map_eq_some_iff.1 hj
      exact hc j s hs) (World.block_lt_of_cell? w _ (hc 0 _ (List.getElem?_eq_getElem (List.length_pos_iff.2 h0)))) (by omega) (by omega) (by rw [hmap]; have : (joinB ls).length ≤ 100000 := hl; unfold joinB at this; simpa using (by omega : (Lib.join ls [44]).length ≤ 140737488355328))
    rw [hmap, hlen] at h
    exact h
theorem itoa_any (n : Nat) (hn : n < 100) (w : World) : Calls Tryd.prog 52 #[.int .i64 (n : Int)] w fun e w' => e = .returned (.string (ba (Lib.decDigits n))) ∧ w' = w := Any.strconv_Itoa_small Tryd.lays171 n hn w
theorem dec_len (n : Nat) (hn : n < 100) : (Lib.decDigits n).length ≤ 2 := by
  rw [Lib.decDigits]
  split
  · simp
  · rw [Lib.decDigits, dif_pos (by omega)]
    simp
theorem str_a (x : Str) : (⟨#[60]⟩ : ByteArray) ++ ba x ++ ⟨#[62, 32]⟩ = ba (60 :: (x ++ [62, 32])) := by
  rw [show (⟨#[60]⟩ : ByteArray) = ba [60] from rfl, show (⟨#[62, 32]⟩ : ByteArray) = ba [62, 32] from rfl, ba_app, ba_app]
  rfl
theorem str_b (x y : Str) : ba x ++ ((⟨#[124]⟩ : ByteArray) ++ ba y) = ba (x ++ 124 :: y) := by
  rw [show (⟨#[124]⟩ : ByteArray) = ba [124] from rfl, ba_app, ba_app]
  rfl

set_option maxRecDepth 100000 in
set_option maxHeartbeats 4000000 in
theorem rowText_nil (v : Value) (rv : Int) (w : World) (hv : Strs w v []) (h0 : 0 ≤ rv) (h1 : rv < 100) :
    Calls Tryd.prog 54 #[.agg #[v, .int .i64 rv]] w fun e w' => e = .returned (.string (ba (rowB [] rv))) ∧ Below w.heap.size w w' := by
  obtain ⟨A, c, rfl, _⟩ := hv.slice
  have hv : Strs w (.slice A 0 c) [] := hv
  show Calls Tryd.prog 54 #[.agg #[.slice A 0 c, .int .i64 rv]] w _
  obtain ⟨n, hn⟩ : ∃ n : Nat, rv = (n : Int) := ⟨rv.toNat, by omega⟩
  have hb0 := below_new w (.cells #[.slice A 0 c, .int .i64 rv] 25)
  by_cases hr : rv = 0
  · subst hr
    clear hn
    go_enter Tryd.func54, Tryd.ntmps54
    go_wp2
    go_ret
    exact ⟨rfl, hb0⟩
  · have hj := join_any _ [] _ (hv.later hb0) (by simp) (by decide)
    have HJ := Lib.hid hj
    have hit := fun W => itoa_any n (by omega) W
    rw [← hn] at hit
    have HI := Lib.hid hit
    have hdl := dec_len n (by omega)
    have hds := ba_size (Lib.decDigits n)
    have hrow : rowB [] rv = 60 :: ([] ++ 124 :: Lib.decDigits n ++ [62, 32]) := by
      unfold rowB
      rw [if_neg (by simp [hr]), if_neg hr, show rv.toNat = n by omega]
      rfl
    have HR := Lib.hid hrow
    have hsz := hb0.size
    clear hj hit hrow hn
    go_enter Tryd.func54, Tryd.ntmps54
    go_wp2_with fail
    refine HJ.out.mono ?_
    rintro e w1 ⟨rfl, hb1⟩
    have l1 := (Lies.new w 25 #[.slice A 0 c, .int .i64 rv]).later hb1
    have c1 := l1.cell 1
    have hB1 : Below w.heap.size w w1 := hb0.trans (hb1.mono hsz)
    rw [show joinB [] = [] from rfl]
    have hz : (ba []).size = 0 := rfl
    go_wp2_with fail
    refine (HI.out _).mono ?_
    rintro e w2 ⟨rfl, rfl⟩
    go_wp2
    go_ret
    refine ⟨?_, hB1⟩
    rw [HR.out]
    show Ending.returned (.string _) = _
    rw [show ([] ++ 124 :: Lib.decDigits n ++ [62, 32] : Str) = ([] ++ 124 :: Lib.decDigits n) ++ [62, 32] from rfl, ← str_a, ← str_b]
set_option maxRecDepth 100000 in
set_option maxHeartbeats 4000000 in
theorem rowText_any (v : Value) (ls : List Str) (rv : Int) (w : World) (hv : Strs w v ls) (hb : ls.length ≤ 1000) (hl : (joinB ls).length ≤ 100000) (h0 : 0 ≤ rv) (h1 : rv < 100) :
    Calls Tryd.prog 54 #[.agg #[v, .int .i64 rv]] w fun e w' => e = .returned (.string (ba (rowB ls rv))) ∧ Below w.heap.size w w' := by
  by_cases hls : ls = []
  · subst hls
    exact rowText_nil v rv w hv h0 h1
  · have hl0 : ¬ ls.length = 0 := fun h => hls (List.eq_nil_of_length_eq_zero h)
    have hli : ¬ (ls.length : Int) = 0 := by omega
    obtain ⟨A, c, rfl, _⟩ := hv.slice
    obtain ⟨n, hn⟩ : ∃ n : Nat, rv = (n : Int) := ⟨rv.toNat, by omega⟩
    have hb0 := below_new w (.cells #[.slice A ls.length c, .int .i64 rv] 25)
    have hj := join_any _ ls _ (hv.later hb0) hb hl
    have HJ := Lib.hid hj
    have hit := fun W => itoa_any n (by omega) W
    rw [← hn] at hit
    have HI := Lib.hid hit
    have hdl := dec_len n (by omega)
    have hds := ba_size (Lib.decDigits n)
    have hjs := ba_size (joinB ls)
    have hrow : rowB ls rv = 60 :: (joinB ls ++ (if rv = 0 then [] else 124 :: Lib.decDigits n) ++ [62, 32]) := by
      unfold rowB
      rw [if_neg (by simp [hls]), show rv.toNat = n by omega]
    have HR := Lib.hid hrow
    have hsz := hb0.size
    clear hj hit hrow hn hls
    go_enter Tryd.func54, Tryd.ntmps54
    go_wp2_with fail
    refine HJ.out.mono ?_
    rintro e w1 ⟨rfl, hb1⟩
    have l1 := (Lies.new w 25 #[.slice A ls.length c, .int .i64 rv]).later hb1
    have c1 := l1.cell 1
    have hB1 : Below w.heap.size w w1 := hb0.trans (hb1.mono hsz)
    by_cases hr : rv = 0
    · go_wp2
      go_ret
      refine ⟨?_, hB1⟩
      rw [HR.out, if_pos hr, List.append_nil, ← str_a]
      rfl
    · go_wp2_with fail
      refine (HI.out _).mono ?_
      rintro e w2 ⟨rfl, rfl⟩
      go_wp2
      go_ret
      refine ⟨?_, hB1⟩
      rw [HR.out, if_neg hr, ← str_a, ← str_b]
      rfl
end Go.Proofs.YtjeolmcjhpkcbaaDoor
