/- The law's shown. -/
import Derived.Test.YtgheaaljnmkclaaSbK
import Derived.Outline
namespace Go.Proofs.Ytgheaaljnmkclaa
open Go.RowKit

def tInt : Ty := .mk 1 [] 0 [] [] 0
def tV1 : Ty := .mk 7 [] 1 [] [] 0
def tRef1 : Ty := .mk 6 [] 0 [tV1] [] 0
theorem leaf_trv (w : World) (k v : Int) (hk : i64ok k) (hv : i64ok v) : TRV w (.mk k [] v [] [] 0) [.int .i64 k, .string (ba []), .int .i64 v, .slice none 0 0, .slice none 0 0, .int .i64 0] :=
  ⟨_, _, rfl, .inl ⟨rfl, rfl⟩, ⟨.inl ⟨rfl, rfl⟩, Nat.zero_le _⟩, ⟨hk, hv, i64ok_of (by omega) (by omega)⟩, fun i t h => by simp at h⟩
def tRefI : Ty := .mk 6 [] 0 [tInt] [] 0
theorem ap_ref1 : apT (setF T0 1 tInt) tRef1 = tRefI := by simp [tRef1, tV1, tInt, tRefI, apT, apTL, insT, setF]
theorem pcs_ref1 : pcsT (setF T0 1 tInt) tRef1 ≤ 1000 := by simp [tRef1, tV1, tInt, pcsT, pcsTL, insT, setF, Ty.size, Ty.sizeL]
set_option maxRecDepth 100000 in
set_option maxHeartbeats 8000000 in
theorem shown_any (w : World) : Calls Try.prog 5 #[] w fun e w' => e = .returned (.bool true) ∧ Below w.heap.size w w' := by
  go_enter Try.func5, Try.ntmps5
  go_wp2_with fail
  refine (none_any w).mono ?_
  rintro e w1 ⟨rfl, hb1⟩
  have hc := setT0 (SubV.none w1 0) (by omega) 1 (i64ok_of (by omega) (by omega)) tInt _ (leaf_trv w1 1 0 (i64ok_of (by omega) (by omega)) (i64ok_of (by omega) (by omega))) (by simp [tInt, Ty.size, Ty.sizeL])
  have HC := Lib.hid hc
  have HB1 := Lib.hid hb1
  clear hc hb1
  go_wp2_with fail
  refine HC.out.mono ?_
  rintro e w2 ⟨A1, n1, c1, A2, n2, c2, rfl, hs2, hb2⟩
  have HS2 := Lib.hid hs2
  have HB2 := Lib.hid (HB1.out.trans (hb2.mono HB1.out.size))
  clear HC HB1 hs2 hb2
  go_wp2_with fail
  obtain ⟨V, hV⟩ : ∃ V, V = (w2.alloc (.cells #[.slice A1 n1 c1, .slice A2 n2 c2] 38)).alloc (.cells #[.int .i64 7, .string (ba []), .int .i64 1, .slice none 0 0, .slice none 0 0, .int .i64 0] 28) := ⟨_, rfl⟩
  have hbV : Below w2.heap.size w2 V := by rw [hV]; exact ((Below.refl _ w2).alloc (Nat.le_refl _) _).alloc (by simp) _
  have k1 : Lies V w2.heap.size 38 #[.slice A1 n1 c1, .slice A2 n2 c2] := by rw [hV]; exact (Lies.new _ _ _).alloc _
  have k2 : Lies V (w2.heap.size + 1) 28 #[.int .i64 7, .string (ba []), .int .i64 1, .slice none 0 0, .slice none 0 0, .int .i64 0] := by rw [hV]; exact Lies.new' _ _ _ (by simp)
  have htr : TRV V tRef1 [.int .i64 6, .string (ba []), .int .i64 0, .slice (some ⟨w2.heap.size + 1, 0, none⟩) 1 1, .slice none 0 0, .int .i64 0] := by
    refine ⟨_, _, rfl, .inr ⟨_, 1, rfl, by simp, fun _ => rfl⟩, ⟨.inl ⟨rfl, rfl⟩, Nat.zero_le _⟩, ⟨i64ok_of (by omega) (by omega), i64ok_of (by omega) (by omega), i64ok_of (by omega) (by omega)⟩, fun i t h => ?_⟩
    match i, h with
    | 0, h =>
      simp at h
      subst h
      refine (leaf_trv V 7 1 (i64ok_of (by omega) (by omega)) (i64ok_of (by omega) (by omega))).at_ rfl (fun j u hu => ?_)
      show V.cell? ⟨w2.heap.size + 1, 0 + 0 * 6 + j, none⟩ = some u
      rw [show 0 + 0 * 6 + j = j by omega, k2.cell j]
      simpa using hu
    | i + 1, h => simp at h
  have hcall := app0 (HS2.out.later hbV) (by omega) tRef1 _ htr (rowsFree0 _ _) pcs_ref1
  rw [ap_ref1] at hcall
  have HCALL := Lib.hid hcall
  have HV := Lib.hid hV
  have HK1 := Lib.hid k1
  have HS := Lib.hid (HS2.out.later hbV)
  have HB := Lib.hid (HB2.out.trans (hbV.mono HB2.out.size))
  clear hcall hV k1 k2 htr HS2 HB2 hbV
  obtain ⟨g, hg⟩ : ∃ g, g = w2.heap.size := ⟨_, rfl⟩
  have HG := Lib.hid hg
  rw [← hg] at HK1 HCALL
  clear hg
  have hV0 := HV.out
  unfold ba at hV0
  rw [← HG.out, ← hV0]
  clear hV0
  refine HCALL.out.mono ?_
  rintro e w3 ⟨k, nm, v, A3, n3, c3, A4, n4, c4, rv, rfl, ht3, hb3⟩
  obtain ⟨V3, hV3⟩ : ∃ V3, V3 = w3.alloc (.cells #[.int .i64 k, .string (ba nm), .int .i64 v, .slice A3 n3 c3, .slice A4 n4 c4, .int .i64 rv] 28) := ⟨_, rfl⟩
  have hbV3 : Below w3.heap.size w3 V3 := by rw [hV3]; exact below_new w3 _
  have hbv : Below V.heap.size V V3 := hb3.trans (hbV3.mono hb3.size)
  have k1 := HK1.out.later hbv
  have k2 : Lies V3 w3.heap.size 28 #[.int .i64 k, .string (ba nm), .int .i64 v, .slice A3 n3 c3, .slice A4 n4 c4, .int .i64 rv] := by rw [hV3]; exact Lies.new _ _ _
  have c0 := k1.cell 0
  have c1' := k1.cell 1
  rw [hV3] at c0 c1'
  have HT3 := Lib.hid (ht3.later hbV3)
  have HC := Lib.hid (typ0 (HS.out.later hbv) (by omega) 1 (i64ok_of (by omega) (by omega)) (fun t h => by simp [setF] at h; subst h; simp [tInt, Ty.size, Ty.sizeL]))
  have HK := Lib.hid k1
  have HK2 := Lib.hid k2
  have HS3 := Lib.hid (HS.out.later hbv)
  have HB3 := Lib.hid (HB.out.trans (hbv.mono HB.out.size))
  have HV3 := Lib.hid hV3
  clear ht3 hV3 hbV3 hbv k1 k2 hb3
  go_wp2_with fail
  rw [← HV3.out]
  refine HC.out.mono ?_
  rintro e w4 ⟨k', nm', v', A5, n5, c5, A6, n6, c6, rv', rfl, ht4, hb4⟩
  obtain ⟨V4, hV4⟩ : ∃ V4, V4 = w4.alloc (.cells #[.int .i64 k', .string (ba nm'), .int .i64 v', .slice A5 n5 c5, .slice A6 n6 c6, .int .i64 rv'] 28) := ⟨_, rfl⟩
  have hbV4 : Below w4.heap.size w4 V4 := by rw [hV4]; exact below_new w4 _
  have hbv : Below V3.heap.size V3 V4 := hb4.trans (hbV4.mono hb4.size)
  have k1 := HK.out.later hbv
  have k2 := HK2.out.later hbv
  have d0 := k1.cell 0
  have d1 := k1.cell 1
  rw [hV4] at d0 d1
  have HT4 := Lib.hid (HT3.out.later hbv)
  have HC4 := Lib.hid (typ0 (HS3.out.later hbv) (by omega) 2 (i64ok_of (by omega) (by omega)) (fun t h => by simp [setF, T0] at h))
  have HK4 := Lib.hid k2
  have HB4 := Lib.hid (HB3.out.trans (hbv.mono HB3.out.size))
  have HV4 := Lib.hid hV4
  have e1 : (setF T0 1 tInt 1).isSome = true := rfl
  rw [e1]
  clear ht4 hV4 hbV4 hbv k1 k2 hb4 HC HT3 HK HK2 HS3 HB3 e1 c0 c1'
  go_wp2_with fail
  rw [← HV4.out]
  refine HC4.out.mono ?_
  rintro e w5 ⟨k'', nm'', v'', A7, n7, c7, A8, n8, c8, rv'', rfl, ht5, hb5⟩
  have e2 : (setF T0 1 tInt 2).isSome = false := rfl
  rw [e2]
  obtain ⟨V5, hV5⟩ : ∃ V5, V5 = w5.alloc (.cells #[.int .i64 k'', .string (ba nm''), .int .i64 v'', .slice A7 n7 c7, .slice A8 n8 c8, .int .i64 rv''] 28) := ⟨_, rfl⟩
  have hbV5 : Below w5.heap.size w5 V5 := by rw [hV5]; exact below_new w5 _
  have hbv : Below V4.heap.size V4 V5 := hb5.trans (hbV5.mono hb5.size)
  have k2 := HK4.out.later hbv
  have hT := HT4.out.later hbv
  unfold tRefI at hT
  obtain ⟨kv, lv, he, hsl, _, _, hks⟩ := hT
  unfold tyC at he
  simp only [List.cons.injEq, Value.int.injEq, Value.string.injEq, true_and, and_true] at he
  obtain ⟨rfl, _, rfl, rfl, rfl, rfl⟩ := he
  have hk0 := hks 0 tInt rfl
  obtain ⟨l, _, hr, hkt⟩ := hk0.open
  unfold tInt at hkt
  obtain ⟨kv2, lv2, rfl, _⟩ := hkt
  have hr0 := hr 0 _ rfl
  rcases hsl with ⟨_, h0⟩ | ⟨ad, cc, he, hcc, hsp⟩
  · simp at h0
  simp only [Value.slice.injEq, List.length_cons, List.length_nil] at he
  obtain ⟨rfl, rfl, rfl⟩ := he
  have hsp0 := hsp (by simp)
  obtain ⟨ab, ao, asp⟩ := ad
  simp only at hsp0
  subst hsp0
  simp only [kidAt, Nat.zero_mul, Nat.add_zero] at hr0
  have k23 := k2.cell 3
  rw [hV5] at hr0 k23
  have HB5 := Lib.hid (HB4.out.trans (hbv.mono HB4.out.size))
  have HV5 := Lib.hid hV5
  clear hV5 hbV5 hbv k2 hks hk0 hr hsp hcc hb5 ht5 HC4 HT4 HK4 HB4
  go_wp2_with fail
  go_ret
  exact ⟨rfl, by rw [← HV5.out]; exact HB5.out⟩
end Go.Proofs.Ytgheaaljnmkclaa
