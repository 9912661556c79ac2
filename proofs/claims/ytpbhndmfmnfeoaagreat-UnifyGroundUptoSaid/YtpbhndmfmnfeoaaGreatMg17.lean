/- The library's functions as this translation bears them, laid from the shelf. -/
import Derived.Test.YtpbhndmfmnfeoaaGreatProg
import Derived.Test.YtpbhndmfmnfeoaaGreatMg05
import Derived.Test.YtpbhndmfmnfeoaaGreatMg01
import Derived.Test.YtpbhndmfmnfeoaaGreatMg03
import Derived.Test.YtpbhndmfmnfeoaaGreatMg16
import Derived.Shelf.SlIterI.Nil
import Derived.Shelf.SortM.Plain
import Derived.Shelf.SortM.SortNone
import Derived.Outline
import Derived.Deep.DeepCutAuto
import Derived.Deep.RegionHeld3
import Derived.Deep.CutRange
namespace Go.Proofs.YtpbhndmfmnfeoaaGreat
open Go.Shelf Go.Proofs
def Tryz.layKeysT_ren : Go.Shelf.Ren := ⟨fun | 7 => 118 | 10 => 124 | n => n, fun | 23 => 129 | 26 => 3 | 3 => 44 | 28 => 182 | 0 => 0 | 27 => 181 | 33 => 138 | 4 => 4 | n => n, fun | n => n⟩
theorem Tryz.layKeysT : Go.Proofs.SlLaysZI.n7 Tryz.prog Tryz.layKeysT_ren := {
  mixed := by kernel_rfl
  f7 := ⟨Tryz.f118.name, by decide, Tryz.func118.trans (congrArg some (by kernel_rfl))⟩
  f10 := ⟨Tryz.f124.name, by decide, Tryz.func124.trans (congrArg some (by kernel_rfl))⟩
  t0 := Tryz.underlying0
  a0 := Tryz.isAgg0
  z0 := Tryz.sizeOf0
  v0 := Tryz.zeroValue0
  t4 := Tryz.underlying4
  a4 := Tryz.isAgg4
  z4 := Tryz.sizeOf4
  v4 := Tryz.zeroValue4
  t23 := Tryz.underlying129
  a23 := Tryz.isAgg129
  z23 := Tryz.sizeOf129
  v23 := Tryz.zeroValue129
  t26 := Tryz.underlying3
  a26 := Tryz.isAgg3
  z26 := Tryz.sizeOf3
  v26 := Tryz.zeroValue3
  t27 := Tryz.underlying181
  a27 := Tryz.isAgg181
  z27 := Tryz.sizeOf181
  v27 := Tryz.zeroValue181
  t28 := Tryz.underlying182
  a28 := Tryz.isAgg182
  z28 := Tryz.sizeOf182
  v28 := Tryz.zeroValue182
  t33 := Tryz.underlying138
  a33 := Tryz.isAgg138
  z33 := Tryz.sizeOf138
  v33 := Tryz.zeroValue138 }
def Tryz.layKeysR_ren : Go.Shelf.Ren := ⟨fun | 7 => 119 | 10 => 125 | n => n, fun | 23 => 84 | 26 => 3 | 3 => 24 | 28 => 182 | 0 => 0 | 27 => 181 | 33 => 138 | 4 => 4 | n => n, fun | n => n⟩
theorem Tryz.layKeysR : Go.Proofs.SlLaysZI.n7 Tryz.prog Tryz.layKeysR_ren := {
  mixed := by kernel_rfl
  f7 := ⟨Tryz.f119.name, by decide, Tryz.func119.trans (congrArg some (by kernel_rfl))⟩
  f10 := ⟨Tryz.f125.name, by decide, Tryz.func125.trans (congrArg some (by kernel_rfl))⟩
  t0 := Tryz.underlying0
  a0 := Tryz.isAgg0
  z0 := Tryz.sizeOf0
  v0 := Tryz.zeroValue0
  t4 := Tryz.underlying4
  a4 := Tryz.isAgg4
  z4 := Tryz.sizeOf4
  v4 := Tryz.zeroValue4
  t23 := Tryz.underlying84
  a23 := Tryz.isAgg84
  z23 := Tryz.sizeOf84
  v23 := Tryz.zeroValue84
  t26 := Tryz.underlying3
  a26 := Tryz.isAgg3
  z26 := Tryz.sizeOf3
  v26 := Tryz.zeroValue3
  t27 := Tryz.underlying181
  a27 := Tryz.isAgg181
  z27 := Tryz.sizeOf181
  v27 := Tryz.zeroValue181
  t28 := Tryz.underlying182
  a28 := Tryz.isAgg182
  z28 := Tryz.sizeOf182
  v28 := Tryz.zeroValue182
  t33 := Tryz.underlying138
  a33 := Tryz.isAgg138
  z33 := Tryz.sizeOf138
  v33 := Tryz.zeroValue138 }
def Tryz.laySorted_ren : Go.Shelf.Ren := ⟨fun | 6 => 117 | 8 => 122 | 9 => 123 | 11 => 126 | 13 => 76 | 12 => 127 | 23 => 101 | 24 => 102 | 14 => 128 | 15 => 129 | 16 => 130 | 17 => 131 | 18 => 132 | 19 => 133 | 20 => 134 | 21 => 135 | 22 => 136 | 25 => 137 | 26 => 112 | 27 => 113 | 28 => 138 | 29 => 139 | 30 => 140 | 31 => 141 | n => n, fun | 26 => 3 | 28 => 182 | 24 => 56 | 0 => 0 | 3 => 3 | 37 => 135 | 48 => 159 | 50 => 161 | 4 => 4 | 40 => 152 | 39 => 151 | 45 => 125 | 5 => 5 | 9 => 9 | 51 => 173 | 55 => 177 | 57 => 187 | 58 => 188 | 33 => 138 | n => n, fun | n => n⟩
theorem Tryz.laySorted : Go.Proofs.SlLaysZI.n6 Tryz.prog Tryz.laySorted_ren := {
  mixed := by kernel_rfl
  f6 := ⟨Tryz.f117.name, by decide, Tryz.func117.trans (congrArg some (by kernel_rfl))⟩
  f8 := ⟨Tryz.f122.name, by decide, Tryz.func122.trans (congrArg some (by kernel_rfl))⟩
  f11 := ⟨Tryz.f126.name, by decide, Tryz.func126.trans (congrArg some (by kernel_rfl))⟩
  t0 := Tryz.underlying0
  a0 := Tryz.isAgg0
  z0 := Tryz.sizeOf0
  v0 := Tryz.zeroValue0
  t24 := Tryz.underlying56
  a24 := Tryz.isAgg56
  z24 := Tryz.sizeOf56
  v24 := Tryz.zeroValue56
  t26 := Tryz.underlying3
  a26 := Tryz.isAgg3
  z26 := Tryz.sizeOf3
  v26 := Tryz.zeroValue3
  t28 := Tryz.underlying182
  a28 := Tryz.isAgg182
  z28 := Tryz.sizeOf182
  v28 := Tryz.zeroValue182
  i26 := by kernel_rfl }
def Tryz.laySort_ren : Go.Shelf.Ren := ⟨fun | 5 => 123 | 8 => 76 | 7 => 127 | 19 => 101 | 20 => 102 | 10 => 128 | 11 => 129 | 12 => 130 | 13 => 131 | 14 => 132 | 15 => 133 | 16 => 134 | 17 => 135 | 18 => 136 | 30 => 137 | 31 => 112 | 32 => 113 | 33 => 138 | 34 => 139 | 35 => 140 | 40 => 141 | n => n, fun | 23 => 56 | 25 => 3 | 3 => 3 | 32 => 135 | 22 => 56 | 0 => 0 | 44 => 159 | 46 => 161 | 4 => 4 | 36 => 152 | 35 => 151 | 41 => 125 | 5 => 5 | 9 => 9 | 53 => 173 | 57 => 177 | 63 => 187 | 64 => 188 | n => n, fun | n => n⟩
theorem Tryz.laySort : Go.Proofs.SlLaysM.n5 Tryz.prog Tryz.laySort_ren := {
  mixed := by kernel_rfl
  f5 := ⟨Tryz.f123.name, by decide, Tryz.func123.trans (congrArg some (by kernel_rfl))⟩
  f7 := ⟨Tryz.f127.name, by decide, Tryz.func127.trans (congrArg some (by kernel_rfl))⟩
  f8 := Tryz.func76.trans (congrArg some (by kernel_rfl))
  f10 := ⟨Tryz.f128.name, by decide, Tryz.func128.trans (congrArg some (by kernel_rfl))⟩
  f11 := ⟨Tryz.f129.name, by decide, Tryz.func129.trans (congrArg some (by kernel_rfl))⟩
  f12 := ⟨Tryz.f130.name, by decide, Tryz.func130.trans (congrArg some (by kernel_rfl))⟩
  f13 := ⟨Tryz.f131.name, by decide, Tryz.func131.trans (congrArg some (by kernel_rfl))⟩
  f14 := ⟨Tryz.f132.name, by decide, Tryz.func132.trans (congrArg some (by kernel_rfl))⟩
  f15 := ⟨Tryz.f133.name, by decide, Tryz.func133.trans (congrArg some (by kernel_rfl))⟩
  f16 := ⟨Tryz.f134.name, by decide, Tryz.func134.trans (congrArg some (by kernel_rfl))⟩
  f17 := ⟨Tryz.f135.name, by decide, Tryz.func135.trans (congrArg some (by kernel_rfl))⟩
  f18 := ⟨Tryz.f136.name, by decide, Tryz.func136.trans (congrArg some (by kernel_rfl))⟩
  f19 := Tryz.func101.trans (congrArg some (by kernel_rfl))
  f20 := Tryz.func102.trans (congrArg some (by kernel_rfl))
  f30 := ⟨Tryz.f137.name, by decide, Tryz.func137.trans (congrArg some (by kernel_rfl))⟩
  f31 := Tryz.func112.trans (congrArg some (by kernel_rfl))
  f32 := Tryz.func113.trans (congrArg some (by kernel_rfl))
  f33 := ⟨Tryz.f138.name, by decide, Tryz.func138.trans (congrArg some (by kernel_rfl))⟩
  f34 := ⟨Tryz.f139.name, by decide, Tryz.func139.trans (congrArg some (by kernel_rfl))⟩
  f35 := ⟨Tryz.f140.name, by decide, Tryz.func140.trans (congrArg some (by kernel_rfl))⟩
  f40 := ⟨Tryz.f141.name, by decide, Tryz.func141.trans (congrArg some (by kernel_rfl))⟩
  t0 := Tryz.underlying0
  a0 := Tryz.isAgg0
  z0 := Tryz.sizeOf0
  v0 := Tryz.zeroValue0
  t3 := Tryz.underlying3
  a3 := Tryz.isAgg3
  z3 := Tryz.sizeOf3
  v3 := Tryz.zeroValue3
  t4 := Tryz.underlying4
  a4 := Tryz.isAgg4
  z4 := Tryz.sizeOf4
  v4 := Tryz.zeroValue4
  t5 := Tryz.underlying5
  a5 := Tryz.isAgg5
  z5 := Tryz.sizeOf5
  v5 := Tryz.zeroValue5
  t9 := Tryz.underlying9
  a9 := Tryz.isAgg9
  z9 := Tryz.sizeOf9
  v9 := Tryz.zeroValue9
  t22 := Tryz.underlying56
  a22 := Tryz.isAgg56
  z22 := Tryz.sizeOf56
  v22 := Tryz.zeroValue56
  t23 := Tryz.underlying56
  a23 := Tryz.isAgg56
  z23 := Tryz.sizeOf56
  v23 := Tryz.zeroValue56
  t25 := Tryz.underlying3
  a25 := Tryz.isAgg3
  z25 := Tryz.sizeOf3
  v25 := Tryz.zeroValue3
  t32 := Tryz.underlying135
  a32 := Tryz.isAgg135
  z32 := Tryz.sizeOf135
  v32 := Tryz.zeroValue135
  t35 := Tryz.underlying151
  a35 := Tryz.isAgg151
  z35 := Tryz.sizeOf151
  v35 := Tryz.zeroValue151
  t36 := Tryz.underlying152
  a36 := Tryz.isAgg152
  z36 := Tryz.sizeOf152
  v36 := Tryz.zeroValue152
  t41 := Tryz.underlying125
  a41 := Tryz.isAgg125
  z41 := Tryz.sizeOf125
  v41 := Tryz.zeroValue125
  t44 := Tryz.underlying159
  a44 := Tryz.isAgg159
  z44 := Tryz.sizeOf159
  v44 := Tryz.zeroValue159
  t46 := Tryz.underlying161
  a46 := Tryz.isAgg161
  z46 := Tryz.sizeOf161
  v46 := Tryz.zeroValue161
  t53 := Tryz.underlying173
  a53 := Tryz.isAgg173
  z53 := Tryz.sizeOf173
  v53 := Tryz.zeroValue173
  t57 := Tryz.underlying177
  a57 := Tryz.isAgg177
  z57 := Tryz.sizeOf177
  v57 := Tryz.zeroValue177
  t63 := Tryz.underlying187
  a63 := Tryz.isAgg187
  z63 := Tryz.sizeOf187
  v63 := Tryz.zeroValue187
  t64 := Tryz.underlying188
  a64 := Tryz.isAgg188
  z64 := Tryz.sizeOf188
  v64 := Tryz.zeroValue188 }
end Go.Proofs.YtpbhndmfmnfeoaaGreat

/- The variables of which something is said, of types: that they are told; none where nothing is said. -/
namespace Go.Proofs.YtpbhndmfmnfeoaaGreat
open Go.RowKit Go.Maps Go.Sort Go.Shelf

/-- slices.Sort's two contracts here, at the fence that asks nothing. -/
theorem sortsI (m : Nat) : AnyZI.SortsIn Tryz.prog Tryz.laySorted_ren Fence.wide m :=
  ⟨fun blk off cap ss W hH hblk hsz => callsIn_wide.2 (AnyM.slices_Sort_int Tryz.laySort blk off cap ss W hH hblk hsz),
   fun p cap W => callsIn_wide.2 (AnyM.slices_Sort_int_none Tryz.laySort p cap W)⟩
theorem keys_none {w : World} {k b n : Nat} {D : DataW Value} {g : GMap} (hown : w.ownsMap Tryz.prog 3 (RV k) b n D) (hs : SaysG k D g) (hg : ∀ j, i64ok j → g j = none) : intKeys D = [] := by
  obtain ⟨es, rfl, hk⟩ := hown.keysOf
  cases es with
  | nil => rfl
  | cons p r =>
    obtain ⟨key, hkey⟩ := hk p (by simp)
    obtain ⟨x, rfl, hx, hw⟩ := Maps.keyOf_int_inv Tryz.underlying3 hkey
    have h1 := (hs x hw).1.2
    rw [hg x hw, Maps.has_eq] at h1
    have h2 : p.1 = kI x := hx
    have h3 : Lit.sameKey (kI x) (kI x) = true := by simp [Lit.sameKey, kI]
    simp [h2, h3] at h1

set_option maxRecDepth 100000 in
set_option maxHeartbeats 4000000 in
theorem varsT_any (w : World) (v : Value) (m : Nat) (g : GMap) (hs : SaidV w 6 v m g) (hm : m ≤ 100000) :
    Calls Tryz.prog 103 #[.agg #[v]] w fun e w' => ∃ A n c, e = .returned (.slice A n c) ∧ ((∀ k, i64ok k → g k = none) → n = 0) ∧ Below w.heap.size w w' := by
  obtain ⟨zs, h1, h2, h3, h4, h5⟩ := hs
  obtain ⟨A0, n0, c0, rfl⟩ : ∃ A n c, v = .slice A n c := by rcases h1 with ⟨rfl, _⟩ | ⟨_, _, rfl, _⟩ <;> exact ⟨_, _, _, rfl⟩
  obtain ⟨W1, hW1⟩ : ∃ W, W = w.alloc (.cells #[.slice A0 n0 c0] 29) := ⟨_, rfl⟩
  have hbn : Below w.heap.size w W1 := by rw [hW1]; exact below_new w _
  have hmg := mergedT_any zs (.slice A0 n0 c0) W1 (h1.keep hbn.block) (fun l hl => (h2 l hl).later hbn) (by omega) (by omega)
  have HW1 := Lib.hid hW1
  have HMG := Lib.hid ((callsIn_wide (n := 5)).2 hmg)
  have HBN := Lib.hid hbn
  have HSUM := Lib.hid (show lySum zs ≤ 100000 by omega)
  have H5 := Lib.hid h5
  clear hW1 hmg hbn h1 h2 h3 h4 h5
  refine (callsIn_wide (n := 6)).1 ?_
  have cK : ∀ mb W, CallsIn Fence.wide 5 Tryz.prog 118 #[.map mb] W fun e w' => e = .returned (.func (.func 124) #[] #[.pointer (some ⟨W.heap.size, 0, none⟩)]) ∧ w' = W.alloc (.cells #[.map mb] 129) := fun mb W => AnyZI.keys_in Tryz.layKeysT Fence.wide 5 trivial rfl mb W
  have cS : ∀ (W : World) (b nn : Nat) (D0 : DataW Value), W.ownsMap Tryz.prog 3 (RV 6) b nn D0 → nn ≤ 100000 → CallsIn Fence.wide 5 Tryz.prog 117 #[.func (.func 124) #[] #[.pointer (some ⟨W.heap.size, 0, none⟩)]] (W.alloc (.cells #[.map (some b)] 129)) fun e w' => ∃ (v : Value) (ss : List Int), e = .returned v ∧ ss.Perm (intKeys D0) ∧
      w'.ownsRow (W.alloc (.cells #[.map (some b)] 129)).heap.size 3 1 v ss.length ((ss.mergeSort (fun x y => decide (x ≤ y))).map encZ) ∧ (v = .slice none 0 0 ↔ ss = []) ∧ Below (W.alloc (.cells #[.map (some b)] 129)).heap.size (W.alloc (.cells #[.map (some b)] 129)) w' := by
    intro W b nn D0 hown hnn
    have hbl := hown.lt
    have hsz : Maps.size D0 ≤ nn := by
      obtain ⟨es, clock, _, _, hs, rfl⟩ := hown
      rw [Maps.size_eq, length_sorted]
      simpa using hs
    have hseq : SeqGives Fence.wide 2 Tryz.prog 124 #[.pointer (some ⟨W.heap.size, 0, none⟩)] encZ (fun ss => ss.Perm (intKeys D0)) (Maps.size D0) (W.alloc (.cells #[.map (some b)] 129)) :=
      AnyZI.keys_gives (ρ := Tryz.layKeysT_ren) { Tryz.layKeysT with } Fence.wide _ trivial rfl (by omega) W.heap.size b nn D0 _ (by simp) (by simp) (by
        obtain ⟨es, clock, hb, Ft, hs, hD⟩ := hown
        exact ⟨es, clock, (Below.heap_alloc _ _ b hbl).trans hb, Ft, hs, hD⟩)
    exact AnyZI.sorted_in Tryz.laySorted Fence.wide 5 trivial trivial trivial trivial rfl (by omega) (sortsI _) (enters_of Tryz.func123 (by kernel_rfl) rfl) 124 #[.pointer (some ⟨W.heap.size, 0, none⟩)] trivial (enters_of Tryz.func124 (by kernel_rfl) rfl) _ _ (by unfold maxLen; omega) (by omega) _ hseq
  have hfM : Fence.wide.fn 89 := trivial
  have hfK : Fence.wide.fn 118 := trivial
  have hfS : Fence.wide.fn 117 := trivial
  refine callsIn_of_wp Tryz.func103 rfl trivial ?_ rfl
  simp only [Tryz.ntmps103, List.size_toArray, List.length_cons, List.length_nil, Nat.reduceAdd, Nat.reduceSub, Array.replicate_succ, Array.replicate_zero, List.push_toArray, List.append_toArray, List.nil_append, List.cons_append]
  gi_wp2_with (first
    | (gi_at_call 89; rw [← HW1.out]; refine HMG.out.mono ?_; rintro e w1 ⟨rfl, hM1, hb1⟩; obtain ⟨D0, hown, hsays⟩ := hM1; have HS1 := Lib.hid (cS w1 _ _ D0 hown HSUM.out); have HSAYS := Lib.hid hsays; have HOWN := Lib.hid hown; have HB1 := Lib.hid hb1; clear hown hsays hb1)
    | (gi_at_call 118; refine (cK _ _).mono ?_; rintro e w2 ⟨rfl, rfl⟩)
    | (gi_at_call 117; refine HS1.out.mono ?_; rintro e w3 ⟨v3, ss, rfl, hS, hrow, hnil, hb3⟩; obtain ⟨A3, n3, c3, rfl⟩ := own_slice hrow; have HS := Lib.hid hS; have HNIL := Lib.hid hnil; have HB3 := Lib.hid hb3; clear hS hrow hnil hb3))
  go_ret
  refine ⟨A3, n3, c3, rfl, fun hg => ?_, HBN.out.trans (HB1.out.trans (((below_new w1 _).trans (HB3.out.mono (by simp))).mono HB1.out.size) |>.mono HBN.out.size)⟩
  have hk : intKeys D0 = [] := keys_none HOWN.out HSAYS.out (fun k hk => by rw [H5.out k hk]; exact hg k hk)
  have he : ss = [] := by have := HS.out; rw [hk] at this; exact this.eq_nil
  have := HNIL.out.2 he
  injection this
end Go.Proofs.YtpbhndmfmnfeoaaGreat

/- The variables of which something is said, of rows: that they are told; none where nothing is said. -/
namespace Go.Proofs.YtpbhndmfmnfeoaaGreat
open Go.RowKit Go.Maps Go.Sort Go.Shelf


set_option maxRecDepth 100000 in
set_option maxHeartbeats 4000000 in
theorem varsR_any (w : World) (v : Value) (m : Nat) (g : GMap) (hs : SaidV w 2 v m g) (hm : m ≤ 100000) :
    Calls Tryz.prog 104 #[.agg #[v]] w fun e w' => ∃ A n c, e = .returned (.slice A n c) ∧ ((∀ k, i64ok k → g k = none) → n = 0) ∧ Below w.heap.size w w' := by
  obtain ⟨zs, h1, h2, h3, h4, h5⟩ := hs
  obtain ⟨A0, n0, c0, rfl⟩ : ∃ A n c, v = .slice A n c := by rcases h1 with ⟨rfl, _⟩ | ⟨_, _, rfl, _⟩ <;> exact ⟨_, _, _, rfl⟩
  obtain ⟨W1, hW1⟩ : ∃ W, W = w.alloc (.cells #[.slice A0 n0 c0] 32) := ⟨_, rfl⟩
  have hbn : Below w.heap.size w W1 := by rw [hW1]; exact below_new w _
  have hmg := mergedR_any zs (.slice A0 n0 c0) W1 (h1.keep hbn.block) (fun l hl => (h2 l hl).later hbn) (by omega) (by omega)
  have HW1 := Lib.hid hW1
  have HMG := Lib.hid ((callsIn_wide (n := 5)).2 hmg)
  have HBN := Lib.hid hbn
  have HSUM := Lib.hid (show lySum zs ≤ 100000 by omega)
  have H5 := Lib.hid h5
  clear hW1 hmg hbn h1 h2 h3 h4 h5
  refine (callsIn_wide (n := 6)).1 ?_
  have cK : ∀ mb W, CallsIn Fence.wide 5 Tryz.prog 119 #[.map mb] W fun e w' => e = .returned (.func (.func 125) #[] #[.pointer (some ⟨W.heap.size, 0, none⟩)]) ∧ w' = W.alloc (.cells #[.map mb] 84) := fun mb W => AnyZI.keys_in Tryz.layKeysR Fence.wide 5 trivial rfl mb W
  have cS : ∀ (W : World) (b nn : Nat) (D0 : DataW Value), W.ownsMap Tryz.prog 3 (RV 2) b nn D0 → nn ≤ 100000 → CallsIn Fence.wide 5 Tryz.prog 117 #[.func (.func 125) #[] #[.pointer (some ⟨W.heap.size, 0, none⟩)]] (W.alloc (.cells #[.map (some b)] 84)) fun e w' => ∃ (v : Value) (ss : List Int), e = .returned v ∧ ss.Perm (intKeys D0) ∧
      w'.ownsRow (W.alloc (.cells #[.map (some b)] 84)).heap.size 3 1 v ss.length ((ss.mergeSort (fun x y => decide (x ≤ y))).map encZ) ∧ (v = .slice none 0 0 ↔ ss = []) ∧ Below (W.alloc (.cells #[.map (some b)] 84)).heap.size (W.alloc (.cells #[.map (some b)] 84)) w' := by
    intro W b nn D0 hown hnn
    have hbl := hown.lt
    have hsz : Maps.size D0 ≤ nn := by
      obtain ⟨es, clock, _, _, hs, rfl⟩ := hown
      rw [Maps.size_eq, length_sorted]
      simpa using hs
    have hseq : SeqGives Fence.wide 2 Tryz.prog 125 #[.pointer (some ⟨W.heap.size, 0, none⟩)] encZ (fun ss => ss.Perm (intKeys D0)) (Maps.size D0) (W.alloc (.cells #[.map (some b)] 84)) :=
      AnyZI.keys_gives (ρ := Tryz.layKeysR_ren) { Tryz.layKeysR with } Fence.wide _ trivial rfl (by omega) W.heap.size b nn D0 _ (by simp) (by simp) (by
        obtain ⟨es, clock, hb, Ft, hs, hD⟩ := hown
        exact ⟨es, clock, (Below.heap_alloc _ _ b hbl).trans hb, Ft, hs, hD⟩)
    exact AnyZI.sorted_in Tryz.laySorted Fence.wide 5 trivial trivial trivial trivial rfl (by omega) (sortsI _) (enters_of Tryz.func123 (by kernel_rfl) rfl) 125 #[.pointer (some ⟨W.heap.size, 0, none⟩)] trivial (enters_of Tryz.func125 (by kernel_rfl) rfl) _ _ (by unfold maxLen; omega) (by omega) _ hseq
  have hfM : Fence.wide.fn 84 := trivial
  have hfK : Fence.wide.fn 119 := trivial
  have hfS : Fence.wide.fn 117 := trivial
  refine callsIn_of_wp Tryz.func104 rfl trivial ?_ rfl
  simp only [Tryz.ntmps104, List.size_toArray, List.length_cons, List.length_nil, Nat.reduceAdd, Nat.reduceSub, Array.replicate_succ, Array.replicate_zero, List.push_toArray, List.append_toArray, List.nil_append, List.cons_append]
  gi_wp2_with (first
    | (gi_at_call 84; rw [← HW1.out]; refine HMG.out.mono ?_; rintro e w1 ⟨rfl, hM1, hb1⟩; obtain ⟨D0, hown, hsays⟩ := hM1; have HS1 := Lib.hid (cS w1 _ _ D0 hown HSUM.out); have HSAYS := Lib.hid hsays; have HOWN := Lib.hid hown; have HB1 := Lib.hid hb1; clear hown hsays hb1)
    | (gi_at_call 119; refine (cK _ _).mono ?_; rintro e w2 ⟨rfl, rfl⟩)
    | (gi_at_call 117; refine HS1.out.mono ?_; rintro e w3 ⟨v3, ss, rfl, hS, hrow, hnil, hb3⟩; obtain ⟨A3, n3, c3, rfl⟩ := own_slice hrow; have HS := Lib.hid hS; have HNIL := Lib.hid hnil; have HB3 := Lib.hid hb3; clear hS hrow hnil hb3))
  go_ret
  refine ⟨A3, n3, c3, rfl, fun hg => ?_, HBN.out.trans (HB1.out.trans (((below_new w1 _).trans (HB3.out.mono (by simp))).mono HB1.out.size) |>.mono HBN.out.size)⟩
  have hk : intKeys D0 = [] := keys_none HOWN.out HSAYS.out (fun k hk => by rw [H5.out k hk]; exact hg k hk)
  have he : ss = [] := by have := HS.out; rw [hk] at this; exact this.eq_nil
  have := HNIL.out.2 he
  injection this
end Go.Proofs.YtpbhndmfmnfeoaaGreat

/- The variables of which something is said; that no type that is said is large, where none is said. -/
namespace Go.Proofs.YtpbhndmfmnfeoaaGreat
open Go.RowKit

theorem TM.none {w : World} {g : GMap} (h : TM w T0 g) : ∀ k, i64ok k → g k = none := fun k hk => h k hk
set_option maxRecDepth 100000 in
set_option maxHeartbeats 4000000 in
theorem subVars_any (w : World) (sv : Value) (m : Nat) (R : Int → Option (List Str × Int)) (hs : SubV w sv m T0 R) (hm : m ≤ 100000) :
    Calls Tryz.prog 77 #[sv] w fun e w' => ∃ A c A2 n2 c2, e = .returned (.tuple #[.slice A 0 c, .slice A2 n2 c2]) ∧ Below w.heap.size w w' := by
  obtain ⟨vt, vr, gt, gr, rfl, hst, hsr, htm, _⟩ := hs
  obtain ⟨A1, n1, c1, rfl⟩ := hst.one
  obtain ⟨A2, n2, c2, rfl⟩ := hsr.one
  obtain ⟨W, hW⟩ : ∃ W, W = w.alloc (.cells #[.slice A1 n1 c1, .slice A2 n2 c2] 34) := ⟨_, rfl⟩
  have hb : Below w.heap.size w W := by rw [hW]; exact below_new w _
  have n0 : Lies W w.heap.size 34 #[.slice A1 n1 c1, .slice A2 n2 c2] := by rw [hW]; exact Lies.new _ _ _
  have HW := Lib.hid hW
  have HB := Lib.hid hb
  have HN := Lib.hid n0
  have HK := Lib.hid (show ∀ X : World, Below W.heap.size W X → X.cell? ⟨w.heap.size, 0, none⟩ = some (.slice A1 n1 c1) ∧ X.cell? ⟨w.heap.size, 1, none⟩ = some (.slice A2 n2 c2) from fun X hx => ⟨(n0.later hx).cell 0, (n0.later hx).cell 1⟩)
  have HC1 := Lib.hid (fun (X : World) (hx : Below W.heap.size W X) => varsT_any X _ m gt (hst.keep (hb.trans (hx.mono hb.size)).block) hm)
  have HC2 := Lib.hid (fun (X : World) (hx : Below W.heap.size W X) => varsR_any X _ m gr (hsr.keep (hb.trans (hx.mono hb.size)).block) hm)
  have HT := Lib.hid htm.none
  clear hW hb n0 hst hsr htm
  go_enter Tryz.func77, Tryz.ntmps77
  go_wp2_with fail
  rw [← HW.out]
  go_region_held3 (fun X => X.cell? ⟨w.heap.size, 0, none⟩ = some (.slice A1 n1 c1) ∧ X.cell? ⟨w.heap.size, 1, none⟩ = some (.slice A2 n2 c2))
    (first | exact HK.out _ (Below.refl _ _).drew | exact HK.out _ hb3 | exact HK.out _ hb4)
    (first
      | (go_at_call 103; refine (HC1.out _ (Below.refl _ _).drew).mono ?_; rintro e x3 ⟨A3, n3, c3, rfl, hn3, hba⟩; have hb3 : Below W.heap.size W x3 := (Below.refl _ _).drew.trans hba; have hz := hn3 HT.out; subst hz; clear hba hn3)
      | (go_at_call 104; refine (HC2.out _ hb3).mono ?_; rintro e x4 ⟨A4, n4, c4, rfl, _, hba⟩; have hb4 : Below W.heap.size W x4 := hb3.trans (hba.mono hb3.size); clear hba))
  go_wp2
  go_ret2
  exact ⟨A3, c3, A4, n4, c4, rfl, HB.out.trans (hb4.mono HB.out.size)⟩

set_option maxRecDepth 100000 in
set_option maxHeartbeats 4000000 in
theorem indexF0_any (w : World) (A : Option Addr) (c : Nat) (f : Value) :
    Calls Tryz.prog 105 #[.slice A 0 c, f] w fun e w' => e = .returned (.int .i64 (-1)) ∧ w' = w := by
  go_enter Tryz.func105, Tryz.ntmps105
  go_wp2
  refine wp_loop_rounds 1 ?_
  rw [rounds_succ]
  go_wp2
  go_ret
  exact ⟨rfl, rfl⟩
set_option maxRecDepth 100000 in
set_option maxHeartbeats 4000000 in
theorem containsF0_any (w : World) (A : Option Addr) (c : Nat) (f : Value) :
    Calls Tryz.prog 78 #[.slice A 0 c, f] w fun e w' => e = .returned (.bool false) ∧ w' = w := by
  go_enter Tryz.func78, Tryz.ntmps78
  have hx := indexF0_any w A c f
  have HX := Lib.hid hx
  clear hx
  go_wp2_with fail
  refine HX.out.mono ?_
  rintro e w1 ⟨rfl, rfl⟩
  go_wp2
  go_ret
  exact ⟨rfl, rfl⟩
set_option maxRecDepth 100000 in
set_option maxHeartbeats 4000000 in
theorem anyLarge_any (w : World) (sv : Value) (m : Nat) (R : Int → Option (List Str × Int)) (hs : SubV w sv m T0 R) (hm : m ≤ 100000) :
    Calls Tryz.prog 65 #[sv] w fun e w' => e = .returned (.bool false) ∧ Below w.heap.size w w' := by
  have hs0 := hs
  obtain ⟨vt, vr, gt, gr, rfl, hst, hsr, _, _⟩ := hs
  obtain ⟨A1, n1, c1, rfl⟩ := hst.one
  obtain ⟨A2, n2, c2, rfl⟩ := hsr.one
  obtain ⟨W, hW⟩ : ∃ W, W = w.alloc (.cells #[.slice A1 n1 c1, .slice A2 n2 c2] 34) := ⟨_, rfl⟩
  have hb : Below w.heap.size w W := by rw [hW]; exact below_new w _
  have HC := Lib.hid (subVars_any W _ m R (hs0.later hb) hm)
  have HW := Lib.hid hW
  have HB := Lib.hid hb
  clear hW hb hs0 hst hsr
  go_enter Tryz.func65, Tryz.ntmps65
  go_wp2_with fail
  rw [← HW.out]
  refine HC.out.mono ?_
  rintro e w1 ⟨A3, c3, A4, n4, c4, rfl, hb1⟩
  have HX := Lib.hid (containsF0_any w1 A3 c3)
  have HB1 := Lib.hid (HB.out.trans (hb1.mono HB.out.size))
  clear hb1
  go_wp2_with fail
  refine (HX.out _).mono ?_
  rintro e w2 ⟨rfl, rfl⟩
  go_wp2
  go_ret
  exact ⟨rfl, HB1.out⟩
end Go.Proofs.YtpbhndmfmnfeoaaGreat

/- A unifier goes on with what is said of a row variable. -/
namespace Go.Proofs.YtpbhndmfmnfeoaaGreat
open Go.RowKit

theorem blank_below {BX : Nat → Prop} {w X : World} (hb : Below w.heap.size w X) : ∀ g, live (blank BX w) g → (blank BX X).heap[g]? = (blank BX w).heap[g]? := fun g hg => by
  obtain ⟨h1, h2⟩ := blank_live hg
  rw [blank_at h1, blank_at h1]
  exact hb.block g h2
theorem kept_blank (BX : Nat → Prop) (n : Nat) (w : World) (h : ∀ b, BX b → b < n) : Kept (fun b => BX b ∧ b < n) w (blank BX w) := ⟨by rw [blank_size]; exact Nat.le_refl _, fun b _ hn => blank_at (fun hb => hn ⟨hb, h b hb⟩)⟩
theorem blank_two {bu K : Nat} {w X : World} (hK : w.heap.size ≤ K) (hb : Below w.heap.size w X) : ∀ g, live (blank (fun b => b = bu) w) g → (blank (fun b => b = bu ∨ b = K) X).heap[g]? = (blank (fun b => b = bu) w).heap[g]? := fun g hg => by
  obtain ⟨h1, h2⟩ := blank_live hg
  rw [blank_at (X := fun b => b = bu) (w := w) h1, blank_at (X := fun b => b = bu ∨ b = K) (fun e => by rcases e with e | e; exact h1 e; omega)]
  exact hb.block g h2
set_option maxRecDepth 100000 in
set_option maxHeartbeats 8000000 in
theorem goOn_any (w : World) (bu : Nat) (A1 : Option Addr) (n1 c1 : Nat) (A2 : Option Addr) (n2 c2 : Nat) (nx : Int) (m m' : Nat) (R R2 : Int → Option (List Str × Int)) (nv : Value) (hu : Lies w bu 53 #[.slice A1 n1 c1, .slice A2 n2 c2, .int .i64 nx])
    (hs : SubV (blank (fun b => b = bu) w) (.agg #[.slice A1 n1 c1, .slice A2 n2 c2]) m T0 R) (hn : SubV (blank (fun b => b = bu) w) nv m' T0 R2) (hm : m ≤ 1000) (hm' : m' ≤ 1000) (hcl : ∀ n r, i64ok n → R n = some r → insR R2 r.2 = none) :
    Calls Tryz.prog 49 #[.pointer (some ⟨bu, 0, none⟩), nv] w fun e w' => e = .returned (.int .i64 0) ∧ ∃ A5 n5 c5 A6 n6 c6, Lies w' bu 53 #[.slice A5 n5 c5, .slice A6 n6 c6, .int .i64 nx] ∧
      SubV (blank (fun b => b = bu) w') (.agg #[.slice A5 n5 c5, .slice A6 n6 c6]) (m + m' + 1) T0 (thenF R R2) ∧ w.grownBy w' (some bu) := by
  obtain ⟨A3, n3, c3, A4, n4, c4, rfl⟩ := hn.shape
  obtain ⟨W, hW⟩ : ∃ W, W = w.alloc (.cells #[.slice A3 n3 c3, .slice A4 n4 c4] 34) := ⟨_, rfl⟩
  have hb : Below w.heap.size w W := by rw [hW]; exact below_new w _
  have k0 : Lies W w.heap.size 34 #[.slice A3 n3 c3, .slice A4 n4 c4] := by rw [hW]; exact Lies.new _ _ _
  have HC := Lib.hid (anyLarge_any W _ m' R2 (hn.keepL (blank_self hb)) (by omega))
  have HW := Lib.hid hW
  have HB := Lib.hid hb
  have HU := Lib.hid hu
  have hbu : bu < w.heap.size := hu.lt
  have HK0 := Lib.hid k0
  have hct : ∀ (K : Nat) (hK : w.heap.size ≤ K) (X : World) (hx : Below w.heap.size w X), _ := fun K hK X hx => then_any (fun b => b = bu ∨ b = K) X _ _ m m' R R2 (hs.keepL (blank_two hK hx)) (hn.keepL (blank_two hK hx)) (by omega) (by omega) hcl
  have HCT := Lib.hid hct
  clear hW hb hu k0 hct hs hn hcl
  go_enter Tryz.func49, Tryz.ntmps49
  go_wp2_with fail
  rw [← HW.out]
  refine HC.out.mono ?_
  rintro e w1 ⟨rfl, hb1⟩
  have hB1 := HB.out.trans (hb1.mono HB.out.size)
  have hk1 := HK0.out.later hb1
  have hu1 := HU.out.later hB1
  have HK := Lib.hid (show ∀ X : World, Below w1.heap.size w1 X → (X.cell? ⟨bu, 0, none⟩ = some (.slice A1 n1 c1) ∧ X.cell? ⟨bu, 1, none⟩ = some (.slice A2 n2 c2)) ∧ X.cell? ⟨w.heap.size, 0, none⟩ = some (.slice A3 n3 c3) ∧ X.cell? ⟨w.heap.size, 1, none⟩ = some (.slice A4 n4 c4) from
    fun X hx => ⟨⟨(hu1.later hx).cell 0, (hu1.later hx).cell 1⟩, (hk1.later hx).cell 0, (hk1.later hx).cell 1⟩)
  have HB1 := Lib.hid hB1
  have HU1 := Lib.hid hu1
  clear hB1 hk1 hu1 hb1 HC
  go_upto_region 3 with fail
  go_cut [5] from 8 to 13 (fun p wx => ∃ (g : Nat) (A5 : Option Addr) (n5 c5 : Nat) (A6 : Option Addr) (n6 c6 : Nat), p = .pointer (some ⟨g, 0, none⟩) ∧ w.heap.size ≤ g ∧ Lies wx g 34 #[.slice A5 n5 c5, .slice A6 n6 c6] ∧
    (∀ wf, Kept (fun b => b = bu ∨ b = g) wx wf → SubV wf (.agg #[.slice A5 n5 c5, .slice A6 n6 c6]) (m + m' + 1) T0 (thenF R R2)) ∧ Below w1.heap.size w1 wx)
  case first =>
    go_region_held3 (fun X => (X.cell? ⟨bu, 0, none⟩ = some (.slice A1 n1 c1) ∧ X.cell? ⟨bu, 1, none⟩ = some (.slice A2 n2 c2)) ∧ X.cell? ⟨w.heap.size, 0, none⟩ = some (.slice A3 n3 c3) ∧ X.cell? ⟨w.heap.size, 1, none⟩ = some (.slice A4 n4 c4))
      (first | exact HK.out _ (Below.refl _ _).drew | exact HK.out _ ((Below.refl _ _).alloc (Nat.le_refl _) _).drew | exact HK.out _ hb3 | exact HK.out _ (hb3.alloc hb3.size _) | exact HK.out _ ((hb3.setCell (p := ⟨w1.heap.size, 0, none⟩) (Nat.le_refl _) _).setCell (p := ⟨w1.heap.size, 1, none⟩) (Nat.le_refl _) _))
      (first
        | (go_at_call 66; refine (HCT.out w1.heap.size HB1.out.size _ (HB1.out.trans ((Below.refl w1.heap.size w1).drew.mono HB1.out.size))).mono ?_; rintro e x3 ⟨A5, n5, c5, A6, n6, c6, rfl, hn5, hba⟩; have hb3 : Below w1.heap.size w1 x3 := (Below.refl _ _).drew.trans hba; have HN5 := Lib.hid hn5; clear hba hn5)
        | (go_at_call 66; refine (HCT.out w1.heap.size HB1.out.size _ (HB1.out.trans (((Below.refl w1.heap.size w1).alloc (Nat.le_refl _) _).drew.mono HB1.out.size))).mono ?_; rintro e x3 ⟨A5, n5, c5, A6, n6, c6, rfl, hn5, hba⟩; have hb3 : Below w1.heap.size w1 x3 := (((Below.refl w1.heap.size w1).alloc (Nat.le_refl _) _).drew).trans (hba.mono (by simp)); have nb : Lies x3 w1.heap.size _ _ := Lies.later (w := ((w1.alloc (.cells #[.slice none 0 0, .slice none 0 0] 34)).drew)) (Lies.new w1 _ _) hba; have q0 := nb.cell 0; have q1 := nb.cell 1; have f0 := nb.free 0; have f1 := nb.free 1; have l2 := nb.lt; have HN5 := Lib.hid hn5; clear hba hn5))
    · go_wp2_with fail
      go_meet
      have hw1 := HB1.out.size
      refine ⟨x3.heap.size, A5, n5, c5, A6, n6, c6, rfl, by have := hb3.size; omega, Lies.new x3 _ _, fun wf hkf => HN5.out wf ⟨?_, fun b hb hn => ?_⟩, hb3.alloc hb3.size _⟩
      · have := hkf.1; simp at this; omega
      · exact (hkf.2 b (by simp; omega) (fun e => by rcases e with e | e; exact hn ⟨.inl e, by show b < w1.heap.size; omega⟩; omega)).trans (Below.heap_alloc x3 _ b hb)
    · go_wp2_with fail
      go_meet
      have hw1 := HB1.out.size
      obtain ⟨Z, hZ⟩ : ∃ Z, Z = (x3.setCell ⟨w1.heap.size, 0, none⟩ (.slice A5 n5 c5)).setCell ⟨w1.heap.size, 1, none⟩ (.slice A6 n6 c6) := ⟨_, rfl⟩
      rw [← hZ]
      have nz : Lies Z w1.heap.size 34 #[.slice A5 n5 c5, .slice A6 n6 c6] := by rw [hZ]; exact (nb.set 0 _).set 1 _
      have hzz : Z.heap.size = x3.heap.size := by rw [hZ]; simp [World.setCell]
      have hfz : ∀ i, i ≠ w1.heap.size → Z.heap[i]? = x3.heap[i]? := fun i h1 => by
        rw [hZ]
        exact (Below.heap_setCell _ ⟨w1.heap.size, 1, none⟩ _ i h1).trans (Below.heap_setCell _ ⟨w1.heap.size, 0, none⟩ _ i h1)
      have hbz : Below w1.heap.size w1 Z := by
        rw [hZ]
        exact (hb3.setCell (p := ⟨w1.heap.size, 0, none⟩) (Nat.le_refl _) _).setCell (p := ⟨w1.heap.size, 1, none⟩) (Nat.le_refl _) _
      refine ⟨w1.heap.size, A5, n5, c5, A6, n6, c6, rfl, hw1, nz, fun wf hkf => HN5.out wf ⟨?_, fun b hb hn => ?_⟩, hbz⟩
      · have := hkf.1; omega
      · exact (hkf.2 b (by omega) (fun e => by rcases e with e | e; exact hn ⟨.inl e, by show b < (w1.alloc _).heap.size; simp; omega⟩; exact hn ⟨.inr e, by show b < (w1.alloc _).heap.size; simp; omega⟩)).trans (hfz b (fun e => hn ⟨.inr e, by show b < (w1.alloc _).heap.size; simp; omega⟩))
  case rest =>
    obtain ⟨g, A5, n5, c5, A6, n6, c6, rfl, hg, hl, hsv, hbx⟩ := hcut
    obtain ⟨w4, rfl⟩ : ∃ w4, w4 = wc := ⟨_, rfl⟩
    have hB4 := HB1.out.trans (hbx.mono HB1.out.size)
    have HAL := Lib.hid (anyLarge_any w4 _ (m + m' + 1) _ (hsv w4 ⟨Nat.le_refl _, fun _ _ _ => rfl⟩) (by omega))
    have x0 := hl.cell 0
    have x1 := hl.cell 1
    have HL := Lib.hid hl
    have HSV := Lib.hid hsv
    have HB4 := Lib.hid hB4
    have HG := Lib.hid hg
    have HU4 := Lib.hid (HU1.out.later hbx)
    clear hl hsv hB4 hg hbx
    go_wp2_with fail
    refine HAL.out.mono ?_
    rintro e w5 ⟨rfl, hb5⟩
    have hl5 := HL.out.later hb5
    have hu5 := HU4.out.later hb5
    have y0 := hl5.cell 0
    have y1 := hl5.cell 1
    have z0 := hu5.cell 0
    have z1 := hu5.cell 1
    have f0 := hu5.free 0
    have f1 := hu5.free 1
    have lu := hu5.lt
    have HU5 := Lib.hid hu5
    have HB5 := Lib.hid hb5
    clear hl5 hu5 hb5 HAL x0 x1
    go_wp2_with fail
    go_ret
    have hb5 := HB5.out
    have hb45 := HB4.out.trans (hb5.mono HB4.out.size)
    have hfz : ∀ i, i ≠ bu → ((w5.setCell ⟨bu, 0, none⟩ (.slice A5 n5 c5)).setCell ⟨bu, 1, none⟩ (.slice A6 n6 c6)).heap[i]? = w5.heap[i]? := fun i h1 =>
      (Below.heap_setCell _ ⟨bu, 1, none⟩ _ i h1).trans (Below.heap_setCell _ ⟨bu, 0, none⟩ _ i h1)
    refine ⟨rfl, A5, n5, c5, A6, n6, c6, (HU5.out.set 0 _).set 1 _, HSV.out _ ⟨?_, fun b hb hn => ?_⟩, hb45.os, hb45.tape, hb45.output, ?_, fun k hk hne => ?_⟩
    · rw [blank_size]; simp [World.setCell]; exact hb5.size
    · rw [blank_at (X := fun b => b = bu) (fun e => hn (.inl e)), hfz b (fun e => hn (.inl e))]
      exact hb5.block b hb
    · simp [World.setCell]; exact hb45.size
    · rw [hfz k (fun e => hne (by rw [e]))]
      exact hb45.block k hk
end Go.Proofs.YtpbhndmfmnfeoaaGreat
