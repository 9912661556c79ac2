/- What gathers the variables of a type that came in: the walk. -/
import Derived.Test.YtclaabnjokkbjaaMg11
import Derived.Outline
namespace Go.Proofs.Ytclaabnjokkbjaa
open Go.RowKit

theorem sizeL_appG : ∀ (a b : List Ty), Ty.sizeL (a ++ b) = Ty.sizeL a + Ty.sizeL b
  | [], b => by simp [Ty.sizeL]
  | t :: a, b => by simp only [List.cons_append, Ty.sizeL, sizeL_appG a b]; omega
theorem sizeL_stepG (l : List Ty) (j : Nat) (t : Ty) (h : l[j]? = some t) : Ty.sizeL (l.take (j + 1)) = Ty.sizeL (l.take j) + t.size := by
  rw [take_step l j t h, sizeL_appG]
  simp [Ty.sizeL]
theorem sizeL_leG (l : List Ty) (j : Nat) : Ty.sizeL (l.take j) ≤ Ty.sizeL l := by
  have h := congrArg Ty.sizeL (List.take_append_drop j l)
  rw [sizeL_appG] at h
  omega
theorem sizeL_lenG : ∀ l : List Ty, l.length ≤ Ty.sizeL l
  | [] => Nat.le_refl _
  | t :: l => by have := sizeL_lenG l; have := Ty.size_pos t; simp only [Ty.sizeL, List.length_cons]; omega
set_option maxRecDepth 100000 in
set_option maxHeartbeats 8000000 in
theorem gatherW_step (w0 : World) (bs b1 b2 bg B : Nat) (hb : GB w0 bs b1 b2 bg B) (N : Nat)
    (ih : ∀ (a : Addr) (t : Ty), TW w0 a t → t.size ≤ N → ∀ (W : World) (K R : List Int), GW w0 bs b1 b2 bg B K R W → K.length + 2 * t.size ≤ 100000000 → R.length + 2 * t.size ≤ 100000000 →
      Calls Try.prog 62 #[.pointer (some ⟨bg, 0, none⟩), .pointer (some a)] W fun e W' => e = .returned (.tuple #[]) ∧ ∃ K' R', GW w0 bs b1 b2 bg B K' R' W' ∧ Ext1 (inK t) (2 * t.size) K K' ∧ Ext1 (inR t) (2 * t.size) R R')
    (a : Addr) (T : Ty) (hta : TW w0 a T) (hsz : T.size ≤ N + 1) (W : World) (K R : List Int) (hG : GW w0 bs b1 b2 bg B K R W) (hlk : K.length + 2 * T.size ≤ 100000000) (hlr : R.length + 2 * T.size ≤ 100000000) :
      Calls Try.prog 62 #[.pointer (some ⟨bg, 0, none⟩), .pointer (some a)] W fun e W' => e = .returned (.tuple #[]) ∧ ∃ K' R', GW w0 bs b1 b2 bg B K' R' W' ∧ Ext1 (inK T) (2 * T.size) K K' ∧ Ext1 (inR T) (2 * T.size) R R' := by
  obtain ⟨k, nm, v, kids, ls, rv, kv, lv, h0, hat, hr, hk, hok, hks, hT⟩ : ∃ k nm v kids ls rv kv lv, a.spot = none ∧ AtC w0 w0.heap.size a ∧ ReadsAt w0 a (tyC k nm v kv lv rv) ∧ SlR kv kids.length ∧ oks k v rv ∧ (∀ (i : Nat) t, kids[i]? = some t → TW w0 (kidAt kv i) t) ∧ T = .mk k nm v kids ls rv := by
    cases hta with
    | mk _ k nm v kids ls rv kv lv h0 hat hr hk hi hks => exact ⟨k, nm, v, kids, ls, rv, kv, lv, h0, hat, hr, hk, hi, hks, rfl⟩
  obtain ⟨b, o, sp⟩ := a
  have hsp : sp = none := h0
  subst hsp
  obtain ⟨A, q, rfl, hq, hqg⟩ := hk.form
  have hTs : T.size = 1 + Ty.sizeL kids := by rw [hT, Ty.size]
  have hikx : ∀ (j : Nat) t, kids[j]? = some t → ∀ n, inK t n → inK T n := fun j t ht n hn => by rw [hT]; simp only [inK]; exact .inr (inKL_get kids j t n ht hn)
  have hirx : ∀ (j : Nat) t, kids[j]? = some t → ∀ n, inR t n → inR T n := fun j t ht n hn => by rw [hT]; simp only [inR]; exact .inr (inRL_get kids j t n ht hn)
  have hpk : k = 7 → inK T v := fun h => by rw [hT]; simp only [inK]; exact .inl ⟨h, trivial⟩
  have hkz : ∀ (j : Nat) t, kids[j]? = some t → t.size ≤ N := fun j t ht => by
    have h1 := sizeL_stepG kids j t ht
    have h2 := sizeL_leG kids (j + 1)
    omega
  obtain ⟨n, hn⟩ : ∃ n, n = kids.length := ⟨_, rfl⟩
  have hpr : rv ≠ 0 → 0 < n → inR T rv := fun h h2 => by rw [hT]; simp only [inR]; exact .inl ⟨h, trivial, fun e => by rw [hn, e] at h2; simp at h2⟩
  obtain ⟨sj, hsj⟩ : ∃ f : Nat → Nat, f = fun j => (if j = 0 then 1 else 2) + 2 * Ty.sizeL (kids.take j) := ⟨_, rfl⟩
  have hz : ∀ (j : Nat) t, kids[j]? = some t → sj j + 2 * t.size + (if j = 0 then 1 else 0) ≤ sj (j + 1) ∧ sj (j + 1) ≤ 2 * T.size := fun j t ht => by
    have h1 := sizeL_stepG kids j t ht
    have h2 := sizeL_leG kids (j + 1)
    rw [hsj]
    by_cases hj : j = 0
    · subst hj
      simp only [if_true, Nat.zero_add, if_neg Nat.one_ne_zero] at h1 h2 ⊢
      omega
    · simp only [if_neg hj, if_neg (Nat.succ_ne_zero j)]
      omega
  have hs0 : 1 ≤ sj 0 := by rw [hsj]; simp
  have hse : sj n ≤ 2 * T.size := by
    have h2 := sizeL_leG kids n
    rw [hsj]
    dsimp only
    split <;> omega
  obtain ⟨m, hbag⟩ := hG.seen
  have hB := hG.below
  obtain ⟨A2, k2, c2, A3, k3, c3, hl, _⟩ := hG.own
  have hf := first_bag W bs m ⟨b, o, none⟩ hbag (hat.keep (hB.block _ hat.2.2))
  have c0 : W.cell? ⟨bg, 0, none⟩ = some (.map (some bs)) := hl.cell 0
  rw [← hn] at hk hq hqg hr
  have HF := Lib.hid hf
  have HGW := Lib.hid hG
  have HGB := Lib.hid hb
  have HLT := Lib.hid (show b < w0.heap.size from hat.2.2)
  have HR0 := Lib.hid hr
  have HKS := Lib.hid hks
  have HQ := Lib.hid hqg
  have HN := Lib.hid hn
  have HKZ := Lib.hid hkz
  have HIKx := Lib.hid hikx
  have HIRx := Lib.hid hirx
  have HPK := Lib.hid hpk
  have HPR := Lib.hid hpr
  have HSJ := Lib.hid hz
  have HS0 := Lib.hid hs0
  have HSE := Lib.hid hse
  have HLK := Lib.hid hlk
  have HLR := Lib.hid hlr
  have HOK := Lib.hid hok
  have IH := Lib.hid ih
  have hnm : n ≤ 9223372036854775807 := by
    have h2 := sizeL_lenG kids
    omega
  clear hf hl hbag hG hb hat hr hks hqg hn hkz hikx hirx hpk hpr hz hs0 hse hlk hlr hok ih hk hsj hTs hT hta hsz hB
  go_enter Try.func62, Try.ntmps62
  go_wp2_with fail
  refine HF.out.mono ?_
  rintro e W1 ⟨f, rfl, hS1, hbt⟩
  have hG1 : GW w0 bs b1 b2 bg B K R W1 := by
    obtain ⟨⟨A1, k1, c1, A2, k2, c2, h1, h2, h3, h4⟩, ⟨m', h5⟩, h6, h7, h8, h9⟩ := HGW.out
    obtain ⟨⟨s1, s2⟩, ⟨s3, s4⟩, ⟨s5, s6⟩, ⟨s7, s8⟩, n1, n2, n3, n4, n5, n6⟩ := HGB.out
    refine ⟨⟨A1, k1, c1, A2, k2, c2, (hbt.block _ h1.lt (by omega)).trans h1, own_same h2 fun g hg hlt => hbt.block g hlt (by omega), own_same h3 fun g hg hlt => hbt.block g hlt (by omega), h4⟩, ⟨_, hS1⟩, h6.keep (hbt.block _ h6.lt (by omega)), h7.keep (hbt.block _ h7.lt (by omega)), h8.trans (hbt.below s1 h8.size), Nat.le_trans h9 hbt.size⟩
  have HG1 := Lib.hid hG1
  have hB1 := hG1.below
  obtain ⟨r0, _, r2, r3, _, r5⟩ := reads6 (HR0.out.keep (hB1.block _ HLT.out))
  clear hS1 hbt hG1 hB1 HF c0
  cases f with
  | false =>
    go_wp2_with fail
    refine bodyPost_ret (results_none rfl _ _ _) rfl ?_
    exact ⟨rfl, K, R, HG1.out, (Ext1.refl _ K).mono (fun _ h => h) (Nat.zero_le _), (Ext1.refl _ R).mono (fun _ h => h) (Nat.zero_le _)⟩
  | true =>
    by_cases hk7 : k = 7
    · subst hk7
      go_wp2_with fail
      go_still_tail 7, (by kernel_rfl)
      change wpList _ _ _ _ _ W1.drew
      have hca := addK_any HGB.out HG1.out.drew v (by have := HLK.out; omega)
      have HCA := Lib.hid hca
      clear hca
      go_wp2_with fail
      refine HCA.out.mono ?_
      rintro e W3 ⟨rfl, hG3⟩
      have r3' : W3.cell? ⟨b, o + 3, none⟩ = some (.slice A n q) := (hG3.below.cell (p := ⟨b, o + 3, none⟩) HLT.out).trans (HR0.out 3 _ rfl)
      have HGS := Lib.hid hG3
      have HE1 := Lib.hid (Ext1.add K v (HPK.out (by first | rfl | trivial)) HOK.out.2.1)
      clear hG3 r0 r2 r3 r5
      go_wp2_with fail
      go_loopw [30] (fun i wr => ∃ (j : Nat) (K' R' : List Int), j ≤ n ∧ i = .int .i64 j ∧ GW w0 bs b1 b2 bg B K' R' wr ∧ Ext1 (inK T) (sj j) K K' ∧ Ext1 (inR T) (sj j) R R') (fun i _ => n - (intOf i).toNat)
      case atStart => exact ⟨0, _, _, Nat.zero_le _, rfl, HGS.out, HE1.out.mono (fun _ h => h) HS0.out, (Ext1.refl _ R).mono (fun _ h => h) (Nat.zero_le _)⟩
      case round =>
        obtain ⟨j, K', R', hj, rfl, hGj, hEK, hER⟩ := hrel
        have hBw := hGj.below
        have r3j : wr.cell? ⟨b, o + 3, none⟩ = some (.slice A n q) := (hBw.cell (p := ⟨b, o + 3, none⟩) HLT.out).trans (HR0.out 3 _ rfl)
        have r5j : wr.cell? ⟨b, o + 5, none⟩ = some (.int .i64 rv) := (hBw.cell (p := ⟨b, o + 5, none⟩) HLT.out).trans (HR0.out 5 _ rfl)
        have HEK := Lib.hid hEK
        have HER := Lib.hid hER
        have HGJ := Lib.hid hGj
        clear hEK hER hGj
        by_cases hlt : j < n
        · obtain ⟨t, ht⟩ : ∃ t, kids[j]? = some t := ⟨_, List.getElem?_eq_getElem (by have := HN.out; omega)⟩
          obtain ⟨g5, o5, rfl⟩ := HQ.out (by omega)
          have hjq : j < q := by omega
          have hji : (j : Int) < (n : Int) := by omega
          have hz := HSJ.out j t ht
          have hcall := IH.out ⟨g5, o5 + j * 6, none⟩ t (HKS.out j t ht) (HKZ.out j t ht) wr K' R' HGJ.out (by have := HEK.out.len; have := HLK.out; omega) (by have := HER.out.len; have := HLR.out; omega)
          have HIK := Lib.hid (HIKx.out j t ht)
          have HIR := Lib.hid (HIRx.out j t ht)
          have HC := Lib.hid hcall
          have HZ := Lib.hid hz
          clear hcall ht hz hBw r5j
          go_wp2_with fail
          refine HC.out.mono ?_
          rintro e W5 ⟨rfl, K5, R5, hG5, hE5, hF5⟩
          have s5 : W5.cell? ⟨b, o + 5, none⟩ = some (.int .i64 rv) := (hG5.below.cell (p := ⟨b, o + 5, none⟩) HLT.out).trans (HR0.out 5 _ rfl)
          have HG5 := Lib.hid hG5
          have HE5 := Lib.hid (HEK.out.trans (hE5.mono HIK.out (Nat.le_refl _)))
          have HF5 := Lib.hid (HER.out.trans (hF5.mono HIR.out (Nat.le_refl _)))
          clear hG5 hE5 hF5
          by_cases hj0 : j = 0
          · subst hj0
            by_cases hrv : rv = 0
            · go_wp2_with fail
              go_roundw
              case rel => exact ⟨1, K5, R5, by omega, by simp, HG5.out, HE5.out.mono (fun _ h => h) (by have := HZ.out; simp at this ⊢; omega), HF5.out.mono (fun _ h => h) (by have := HZ.out; simp at this ⊢; omega)⟩
              case measure => (simp [intOf] <;> omega)
            · have hrvi : (rv == 0) = false := by simpa using hrv
              go_wp2_with fail
              go_still_tail 8, (by kernel_rfl)
              change wpList _ _ _ _ _ W5.drew
              have hca := addR_any HGB.out HG5.out.drew rv (by have := HF5.out.len; have := HLR.out; have := HZ.out; omega)
              have HCA := Lib.hid hca
              clear hca
              go_wp2_with fail
              refine HCA.out.mono ?_
              rintro e W6 ⟨rfl, hG6⟩
              have HG6 := Lib.hid hG6
              clear hG6
              go_wp2_with fail
              go_roundw
              case rel => exact ⟨1, K5, _, by omega, by simp, HG6.out, HE5.out.mono (fun _ h => h) (by have := HZ.out; simp at this ⊢; omega), (HF5.out.trans (Ext1.add R5 rv (HPR.out hrv (by omega)) HOK.out.2.2)).mono (fun _ h => h) (by have := HZ.out; simp at this ⊢; omega)⟩
              case measure => (simp [intOf] <;> omega)
          · have hj0i : ¬ (j : Int) = 0 := by omega
            go_wp2_with fail
            go_roundw
            case rel => exact ⟨j + 1, K5, R5, by omega, by simp, HG5.out, HE5.out.mono (fun _ h => h) (by have := HZ.out; simp only [hj0, if_false] at this; omega), HF5.out.mono (fun _ h => h) (by have := HZ.out; simp only [hj0, if_false] at this; omega)⟩
            case measure => (simp [intOf] <;> omega)
        · obtain rfl : j = n := by omega
          go_wp2_with fail
          go_end0
          exact ⟨rfl, K', R', HGJ.out, HEK.out.mono (fun _ h => h) HSE.out, HER.out.mono (fun _ h => h) HSE.out⟩
    · have hk7b : (k == 7) = false := by simpa using hk7
      have HGS := Lib.hid HG1.out
      have HE1 := Lib.hid ((Ext1.refl (inK T) K).mono (fun _ h => h) (Nat.zero_le 1))
      clear r2 r5
      go_wp2_with fail
      clear r0 r3
      go_loopw [30] (fun i wr => ∃ (j : Nat) (K' R' : List Int), j ≤ n ∧ i = .int .i64 j ∧ GW w0 bs b1 b2 bg B K' R' wr ∧ Ext1 (inK T) (sj j) K K' ∧ Ext1 (inR T) (sj j) R R') (fun i _ => n - (intOf i).toNat)
      case atStart => exact ⟨0, _, _, Nat.zero_le _, rfl, HGS.out, HE1.out.mono (fun _ h => h) HS0.out, (Ext1.refl _ R).mono (fun _ h => h) (Nat.zero_le _)⟩
      case round =>
        obtain ⟨j, K', R', hj, rfl, hGj, hEK, hER⟩ := hrel
        have hBw := hGj.below
        have r3j : wr.cell? ⟨b, o + 3, none⟩ = some (.slice A n q) := (hBw.cell (p := ⟨b, o + 3, none⟩) HLT.out).trans (HR0.out 3 _ rfl)
        have r5j : wr.cell? ⟨b, o + 5, none⟩ = some (.int .i64 rv) := (hBw.cell (p := ⟨b, o + 5, none⟩) HLT.out).trans (HR0.out 5 _ rfl)
        have HEK := Lib.hid hEK
        have HER := Lib.hid hER
        have HGJ := Lib.hid hGj
        clear hEK hER hGj
        by_cases hlt : j < n
        · obtain ⟨t, ht⟩ : ∃ t, kids[j]? = some t := ⟨_, List.getElem?_eq_getElem (by have := HN.out; omega)⟩
          obtain ⟨g5, o5, rfl⟩ := HQ.out (by omega)
          have hjq : j < q := by omega
          have hji : (j : Int) < (n : Int) := by omega
          have hz := HSJ.out j t ht
          have hcall := IH.out ⟨g5, o5 + j * 6, none⟩ t (HKS.out j t ht) (HKZ.out j t ht) wr K' R' HGJ.out (by have := HEK.out.len; have := HLK.out; omega) (by have := HER.out.len; have := HLR.out; omega)
          have HIK := Lib.hid (HIKx.out j t ht)
          have HIR := Lib.hid (HIRx.out j t ht)
          have HC := Lib.hid hcall
          have HZ := Lib.hid hz
          clear hcall ht hz hBw r5j
          go_wp2_with fail
          refine HC.out.mono ?_
          rintro e W5 ⟨rfl, K5, R5, hG5, hE5, hF5⟩
          have s5 : W5.cell? ⟨b, o + 5, none⟩ = some (.int .i64 rv) := (hG5.below.cell (p := ⟨b, o + 5, none⟩) HLT.out).trans (HR0.out 5 _ rfl)
          have HG5 := Lib.hid hG5
          have HE5 := Lib.hid (HEK.out.trans (hE5.mono HIK.out (Nat.le_refl _)))
          have HF5 := Lib.hid (HER.out.trans (hF5.mono HIR.out (Nat.le_refl _)))
          clear hG5 hE5 hF5
          by_cases hj0 : j = 0
          · subst hj0
            by_cases hrv : rv = 0
            · go_wp2_with fail
              go_roundw
              case rel => exact ⟨1, K5, R5, by omega, by simp, HG5.out, HE5.out.mono (fun _ h => h) (by have := HZ.out; simp at this ⊢; omega), HF5.out.mono (fun _ h => h) (by have := HZ.out; simp at this ⊢; omega)⟩
              case measure => (simp [intOf] <;> omega)
            · have hrvi : (rv == 0) = false := by simpa using hrv
              go_wp2_with fail
              go_still_tail 8, (by kernel_rfl)
              change wpList _ _ _ _ _ W5.drew
              have hca := addR_any HGB.out HG5.out.drew rv (by have := HF5.out.len; have := HLR.out; have := HZ.out; omega)
              have HCA := Lib.hid hca
              clear hca
              go_wp2_with fail
              refine HCA.out.mono ?_
              rintro e W6 ⟨rfl, hG6⟩
              have HG6 := Lib.hid hG6
              clear hG6
              go_wp2_with fail
              go_roundw
              case rel => exact ⟨1, K5, _, by omega, by simp, HG6.out, HE5.out.mono (fun _ h => h) (by have := HZ.out; simp at this ⊢; omega), (HF5.out.trans (Ext1.add R5 rv (HPR.out hrv (by omega)) HOK.out.2.2)).mono (fun _ h => h) (by have := HZ.out; simp at this ⊢; omega)⟩
              case measure => (simp [intOf] <;> omega)
          · have hj0i : ¬ (j : Int) = 0 := by omega
            go_wp2_with fail
            go_roundw
            case rel => exact ⟨j + 1, K5, R5, by omega, by simp, HG5.out, HE5.out.mono (fun _ h => h) (by have := HZ.out; simp only [hj0, if_false] at this; omega), HF5.out.mono (fun _ h => h) (by have := HZ.out; simp only [hj0, if_false] at this; omega)⟩
            case measure => (simp [intOf] <;> omega)
        · obtain rfl : j = n := by omega
          go_wp2_with fail
          go_end0
          exact ⟨rfl, K', R', HGJ.out, HEK.out.mono (fun _ h => h) HSE.out, HER.out.mono (fun _ h => h) HSE.out⟩
theorem gatherW_any (w0 : World) (bs b1 b2 bg B : Nat) (hb : GB w0 bs b1 b2 bg B) : ∀ (N : Nat) (a : Addr) (t : Ty), TW w0 a t → t.size ≤ N → ∀ (W : World) (K R : List Int), GW w0 bs b1 b2 bg B K R W → K.length + 2 * t.size ≤ 100000000 → R.length + 2 * t.size ≤ 100000000 →
      Calls Try.prog 62 #[.pointer (some ⟨bg, 0, none⟩), .pointer (some a)] W fun e W' => e = .returned (.tuple #[]) ∧ ∃ K' R', GW w0 bs b1 b2 bg B K' R' W' ∧ Ext1 (inK t) (2 * t.size) K K' ∧ Ext1 (inR t) (2 * t.size) R R'
  | 0, _, t, _, h => by have := Ty.size_pos t; omega
  | N + 1, a, t, h, hs => gatherW_step w0 bs b1 b2 bg B hb N (gatherW_any w0 bs b1 b2 bg B hb N) a t h hs
end Go.Proofs.Ytclaabnjokkbjaa
