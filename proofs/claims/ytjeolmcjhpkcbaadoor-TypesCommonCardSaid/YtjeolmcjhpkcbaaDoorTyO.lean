/- The contract of Right. -/
import Derived.Test.YtjeolmcjhpkcbaaDoorTyN
import Derived.Test.YtjeolmcjhpkcbaaDoorTyD
import Derived.StillTailTactics
import Derived.Outline
namespace Go.Proofs.YtjeolmcjhpkcbaaDoor
open Go.RowKit

def aloneT : Ty → Bool
  | .mk k nm v kids ls rv => aloneB k nm v kids.length ls rv
mutual
def okT : Ty → Bool
  | .mk k nm v kids ls rv => aloneB k nm v kids.length ls rv && okL kids
def okL : List Ty → Bool
  | [] => true
  | t :: r => okT t && okL r
end
theorem okL_iff : ∀ (l : List Ty), okL l = true ↔ ∀ t ∈ l, okT t = true
  | [] => by simp [okL]
  | t :: r => by simp [okL, okL_iff r]
/-- What stands at an address is right but for what stands below it, which is in a set. -/
def OkAt (w0 : World) (M : List Addr) (x : Addr) : Prop := ∃ u, TA w0 x u ∧ aloneT u = true ∧ ∀ y ∈ kidsA w0 x, y ∈ M
theorem OkAt.mono {w0 : World} {M M' : List Addr} {x : Addr} (h : OkAt w0 M x) (hM : ∀ y ∈ M, y ∈ M') : OkAt w0 M' x := by
  obtain ⟨u, h1, h2, h3⟩ := h
  exact ⟨u, h1, h2, fun y hy => hM y (h3 y hy)⟩
/-- What a call of right leaves. -/
def REnd (w0 : World) (bs : Nat) (M : List Addr) (a : Addr) (t : Ty) (W : World) (e : Ending) (W' : World) : Prop :=
  ∃ (r : Bool) (M' : List Addr), e = .returned (.bool r) ∧ Sn W' bs M' ∧ Bt bs W W' ∧ (r = true → a ∈ M' ∧ (∀ x ∈ M, x ∈ M') ∧ ∀ x ∈ M', x ∉ M → OkAt w0 M' x) ∧ (r = false → okT t = false)

set_option maxRecDepth 100000 in
set_option maxHeartbeats 8000000 in
theorem right_any (w0 : World) (bc bs : Nat) (hbc : w0.heap.size ≤ bc) (hbs : w0.heap.size ≤ bs) (hne : bc ≠ bs) {a : Addr} {t : Ty} (h : TA w0 a t) :
    ∀ (W : World) (M : List Addr), Below w0.heap.size w0 W → IMap W bc cntL → Sn W bs M → (∀ x ∈ M, AtCells w0 x) →
      Calls Tryd.prog 33 #[.agg #[.map (some bc), .map (some bs)], .pointer (some a)] W (fun e W' => REnd w0 bs M a t W e W') := by
  have hta := h
  induction h with
  | mk a k nm v kids ls rv kv lv h0 hat hr hk hl hks ih =>
    intro W M hB hI hS hMw
    obtain ⟨b, o, sp⟩ := a
    have hsp : sp = none := h0
    subst hsp
    obtain ⟨W0, hW0⟩ : ∃ W0, W0 = W.alloc (.cells #[.map (some bc), .map (some bs)] 57) := ⟨_, rfl⟩
    have hb0 : Below W.heap.size W W0 := by rw [hW0]; exact below_new W _
    have l0 : Lies W0 W.heap.size 57 #[.map (some bc), .map (some bs)] := by rw [hW0]; exact Lies.new W _ _
    have hB0 : Below w0.heap.size w0 W0 := hB.trans (hb0.mono hB.size)
    have hS0 := hS.keep hb0.block
    have hI0 := hI.keep (hb0.block _ hI.lt)
    have hf := first_any W0 bs M ⟨b, o, none⟩ hS0 (hat.keep (hB0.block _ hat.lt))
    have HF := Lib.hid hf
    have HW0 := Lib.hid hW0
    have j0 := l0.cell 0
    have j1 := l0.cell 1
    have HIH := Lib.hid ih
    clear hf hW0 ih
    go_enter Tryd.func33, Tryd.ntmps33
    go_wp2_with fail
    rw [← HW0.out]
    refine HF.out.mono ?_
    rintro e W1 ⟨rfl, hS1, hbt1⟩
    have hB1 : Below w0.heap.size w0 W1 := hB0.trans (hbt1.below hbs hB0.size)
    have hM1 : ∀ x ∈ addU M ⟨b, o, none⟩, AtCells w0 x := by
      intro x hx
      rw [mem_addU] at hx
      rcases hx with hx | rfl
      · exact hMw x hx
      · exact hat
    have l1 : Lies W1 W.heap.size 57 #[.map (some bc), .map (some bs)] := (hbt1.block _ l0.lt (by have := hS.lt; omega)).trans l0
    have hI1 : IMap W1 bc cntL := hI0.keep (hbt1.block _ hI0.lt hne)
    have hBt1 : Bt bs W W1 := (Bt.of_below hb0).trans hbt1
    have i0 := l1.cell 0
    have i1 := l1.cell 1
    by_cases hm : (⟨b, o, none⟩ : Addr) ∈ M
    · have hdec : decide ((⟨b, o, none⟩ : Addr) ∉ M) = false := by simp [hm]
      rw [hdec]
      go_wp2
      go_ret
      refine ⟨true, addU M ⟨b, o, none⟩, rfl, hS1, hBt1, fun _ => ⟨mem_addU.2 (.inr rfl), fun x hx => mem_addU.2 (.inl hx), fun x hx hxM => ?_⟩, fun h => by cases h⟩
      rw [mem_addU] at hx
      rcases hx with hx | rfl
      · exact absurd hx hxM
      · exact absurd hm hxM
    · have hdec : decide ((⟨b, o, none⟩ : Addr) ∉ M) = true := by simp [hm]
      rw [hdec]
      have hr1 : ReadsAt W1 ⟨b, o, none⟩ (tyC k nm v kv lv rv) := hr.keep (hB1.block _ hat.lt)
      have hlb : ls.length ≤ 9223372036854775807 := by
        obtain ⟨_, c, _, h1, h2⟩ := hl.slice
        unfold maxLen at h2; omega
      have hal := alone_any W1 bc (.map (some bs)) b o k nm v kv lv kids.length ls rv hI1 rfl hr1 (hat.keep (hB1.block _ hat.lt)) (hk.keep hB1.block) (hl.later hB1) hlb
      have HAL := Lib.hid hal
      clear hal
      go_wp2_with fail
      refine HAL.out.mono ?_
      rintro e W2 ⟨rfl, hb2⟩
      have hB2 : Below w0.heap.size w0 W2 := hB1.trans (hb2.mono hB1.size)
      have hS2 := hS1.keep hb2.block
      have hI2 := hI1.keep (hb2.block _ hI1.lt)
      have l2 := l1.later hb2
      have hBt2 : Bt bs W W2 := hBt1.trans (.of_below hb2)
      cases hab : aloneB k nm v kids.length ls rv
      · go_wp2
        go_ret
        exact ⟨false, addU M ⟨b, o, none⟩, rfl, hS2, hBt2, (fun h => by cases h), (fun _ => by simp [okT, hab])⟩
      · have HAB := Lib.hid hab
        obtain ⟨_, _, _, q3, _, _⟩ := reads6 (hr.keep (hB2.block _ hat.lt))
        have hkf := slok_form hk
        obtain ⟨A, q, rfl, hq, hql, hqg⟩ := hkf
        have HQ := Lib.hid hqg
        have hkn : kids.length ≤ 9223372036854775807 := by
          obtain ⟨_, _, h1, h2, h3, _⟩ := hk
          injection h1
          unfold maxLen at h3; omega
        have hkids : kidsA w0 ⟨b, o, none⟩ = rowA (.slice A kids.length q) := kids_of hr
        have HKI := Lib.hid hkids
        have HR0 := Lib.hid hr
        have HKS := Lib.hid hks
        have HHK := Lib.hid hk
        clear hab hqg hkids hr hr1 hks hk HAL i0 i1
        go_wp2
        go_loopw [20] (fun i wr => ∃ (j : Nat) (Mj : List Addr), j ≤ kids.length ∧ i = .int .i64 j ∧ Sn wr bs Mj ∧ Bt bs W2 wr ∧ (∀ x ∈ Mj, AtCells w0 x) ∧ (∀ x ∈ addU M ⟨b, o, none⟩, x ∈ Mj) ∧ (∀ x ∈ Mj, x ∉ addU M ⟨b, o, none⟩ → OkAt w0 Mj x) ∧ (∀ i, i < j → kidAt (.slice A kids.length q) i ∈ Mj)) (fun i _ => kids.length - (intOf i).toNat)
        case atStart => exact ⟨0, _, Nat.zero_le _, rfl, hS2, Bt.refl _ _, hM1, fun x hx => hx, fun x hx hn => absurd hx hn, fun i hi => by omega⟩
        case round =>
          obtain ⟨j, Mj, hj, rfl, hSj, hBj, hMj, hsub, hok, hkj⟩ := hrel
          have HSUB := Lib.hid hsub
          have HOK := Lib.hid hok
          have HKJ := Lib.hid hkj
          have HMJ := Lib.hid hMj
          have hBw : Below w0.heap.size w0 wr := hB2.trans (hBj.below hbs hB2.size)
          have lj : Lies wr W.heap.size 57 #[.map (some bc), .map (some bs)] := (hBj.block _ l2.lt (by have := hS.lt; omega)).trans l2
          have p0 := lj.cell 0
          have p1 := lj.cell 1
          have r3 : wr.cell? ⟨b, o + 3, none⟩ = some (.slice A kids.length q) := (hBw.cell (p := ⟨b, o + 3, none⟩) hat.lt).trans (HR0.out 3 _ rfl)
          clear hsub hok hkj hMj
          by_cases hlt : j < kids.length
          · obtain ⟨g5, o5, rfl, hx5⟩ := HQ.out j hlt
            have hjq : j < q := by omega
            have hji : (j : Int) < (kids.length : Int) := by omega
            go_wp2
            go_still_tail 7, (by kernel_rfl)
            change wpList _ _ _ _ _ wr.drew
            have hkj? : kids[j]? = some kids[j] := List.getElem?_eq_getElem hlt
            have hih := HIH.out j _ hkj? (HKS.out j _ hkj?) wr.drew Mj (hBw.trans ⟨rfl, rfl, rfl, Nat.le_refl _, fun _ _ => rfl⟩) (hI2.keep (hBj.block _ hI2.lt hne)) hSj HMJ.out
            have hka : kidAt (.slice (some ⟨g5, o5, none⟩) kids.length q) j = ⟨g5, o5 + j * 6, none⟩ := rfl
            rw [hka] at hih
            have hBd : Bt bs W2 wr.drew := hBj.trans ⟨rfl, rfl, rfl, Nat.le_refl _, fun _ _ _ => rfl⟩
            generalize wr.drew = wd at *
            have HI := Lib.hid hih
            clear hih
            go_wp2_with fail
            refine HI.out.mono ?_
            rintro e W3 ⟨r, M3, rfl, hS3, hbt3, ht, hf⟩
            have hB3 : Bt bs W2 W3 := hBd.trans hbt3
            have HT := Lib.hid ht
            have HFf := Lib.hid hf
            clear ht hf
            cases r
            · go_wp2
              go_ret
              refine ⟨false, M3, rfl, hS3, hBt2.trans hB3, (fun h => by cases h), fun _ => ?_⟩
              have h1 := HFf.out (by trivial)
              rw [okT, Bool.and_eq_false_iff]
              refine .inr ?_
              rw [Bool.eq_false_iff]
              intro hall
              rw [okL_iff] at hall
              rw [hall _ (List.getElem_mem hlt)] at h1
              cases h1
            · obtain ⟨t1, t2, t3⟩ := HT.out (by trivial)
              go_wp2
              go_roundw
              case rel =>
                refine ⟨j + 1, M3, by omega, by simp, hS3, hB3, fun x hx => ?_, fun x hx => t2 x (HSUB.out x hx), fun x hx hn => ?_, fun i hi => ?_⟩
                · by_cases hxm : x ∈ Mj
                  · exact HMJ.out x hxm
                  · obtain ⟨u, hu, _⟩ := t3 x hx hxm
                    exact hu.at_
                · by_cases hxm : x ∈ Mj
                  · exact (HOK.out x hxm hn).mono t2
                  · exact t3 x hx hxm
                · rcases Nat.lt_or_ge i j with h | h
                  · exact t2 _ (HKJ.out i h)
                  · obtain rfl : i = j := by omega
                    exact t1
              case measure => (simp [intOf] <;> omega)
          · obtain rfl : j = kids.length := by omega
            go_wp2
            go_ret
            refine ⟨true, Mj, rfl, hSj, hBt2.trans hBj, (fun _ => ⟨HSUB.out _ (mem_addU.2 (.inr rfl)), fun x hx => HSUB.out x (mem_addU.2 (.inl hx)), fun x hx hxM => ?_⟩), (fun h => by cases h)⟩
            by_cases hxa : x = ⟨b, o, none⟩
            · subst hxa
              refine ⟨_, hta, HAB.out, fun y hy => ?_⟩
              rw [HKI.out] at hy
              obtain ⟨i, hi⟩ := List.mem_iff_getElem?.1 hy
              have hil : i < kids.length := by
                have h1 := (List.getElem?_eq_some_iff.1 hi).1
                rw [rowA_len HHK.out] at h1
                exact h1
              rw [rowA_get HHK.out hil] at hi
              injection hi with hi
              rw [← hi]
              exact HKJ.out i hil
            · exact HOK.out x hx (fun h => by rw [mem_addU] at h; rcases h with h | h; exact hxM h; exact hxa h)
end Go.Proofs.YtjeolmcjhpkcbaaDoor
