/- What gathers the variables: at types without type variables whose places are all unlike. -/
import Derived.Test.YtjeolmcjhpkcbaaDoorTyF
import Derived.Outline
namespace Go.Proofs.YtjeolmcjhpkcbaaDoor
open Go.RowKit

mutual
def rwT : Ty → List Int → List Int
  | .mk _ _ _ kids _ rv, L => rwL kids rv true L
def rwL : List Ty → Int → Bool → List Int → List Int
  | [], _, _, L => L
  | t :: r, rv, f, L => rwL r rv false (if f = true ∧ rv ≠ 0 then addN (rwT t L) rv else rwT t L)
end
mutual
def noV : Ty → Bool
  | .mk k _ _ kids _ _ => !decide (k = 7) && noVL kids
def noVL : List Ty → Bool
  | [] => true
  | t :: r => noV t && noVL r
end
theorem noVL_get : ∀ (l : List Ty) (i : Nat) t, noVL l = true → l[i]? = some t → noV t = true
  | [], i, t, _, h => by simp at h
  | u :: r, 0, t, h, h2 => by
    simp only [noVL, Bool.and_eq_true] at h
    have : u = t := by simpa using h2
    exact this ▸ h.1
  | u :: r, i + 1, t, h, h2 => by
    simp only [noVL, Bool.and_eq_true] at h
    exact noVL_get r i t h.2 (by simpa using h2)
/-- How many row variables can come of a type. -/
theorem addN_len (L : List Int) (n : Int) : (addN L n).length ≤ L.length + 1 := by unfold addN; split <;> simp
mutual
theorem rwT_len : ∀ (t : Ty) (L : List Int), (rwT t L).length ≤ L.length + t.size
  | .mk _ _ _ kids _ rv, L => by
    have := rwL_len kids rv true L
    simp only [rwT, Ty.size, if_true] at this ⊢; omega
theorem rwL_len : ∀ (l : List Ty) (rv : Int) (f : Bool) (L : List Int), (rwL l rv f L).length ≤ L.length + Ty.sizeL l + (if f then 1 else 0)
  | [], _, f, L => by simp [rwL, Ty.sizeL]
  | t :: r, rv, f, L => by
    simp only [rwL, Ty.sizeL]
    have h1 := rwT_len t L
    have h2 := rwL_len r rv false (if f = true ∧ rv ≠ 0 then addN (rwT t L) rv else rwT t L)
    have h3 := addN_len (rwT t L) rv
    cases f
    · simp at h2 ⊢; omega
    · by_cases h : rv = 0
      · simp [h] at h2 ⊢; omega
      · simp [h] at h2 ⊢; omega
end
theorem rwL_snoc (rv : Int) (t : Ty) : ∀ (l : List Ty) (f : Bool) (L : List Int), rwL (l ++ [t]) rv f L = if (f = true ∧ l = []) ∧ rv ≠ 0 then addN (rwT t (rwL l rv f L)) rv else rwT t (rwL l rv f L)
  | [], f, L => by simp [rwL]
  | u :: r, f, L => by
    simp only [List.cons_append, rwL]
    rw [rwL_snoc rv t r false]
    simp
theorem sizeL_app : ∀ (a b : List Ty), Ty.sizeL (a ++ b) = Ty.sizeL a + Ty.sizeL b
  | [], b => by simp [Ty.sizeL]
  | t :: a, b => by simp only [List.cons_append, Ty.sizeL, sizeL_app a b]; omega
theorem sizeL_take {l : List Ty} {j : Nat} {t : Ty} (h : l[j]? = some t) : Ty.sizeL (l.take j) + t.size ≤ Ty.sizeL l := by
  have h1 : l = l.take j ++ t :: l.drop (j + 1) := by
    obtain ⟨hj, rfl⟩ := List.getElem?_eq_some_iff.1 h
    rw [← List.drop_eq_getElem_cons, List.take_append_drop]
  have h2 := congrArg Ty.sizeL h1
  rw [sizeL_app, Ty.sizeL] at h2
  omega
theorem deep_get : ∀ (l : List Ty) (i : Nat) t, l[i]? = some t → t.deep ≤ Ty.deepL l
  | [], i, t, h => by simp at h
  | u :: r, 0, t, h => by
    have : u = t := by simpa using h
    subst this
    simp only [Ty.deepL]; omega
  | u :: r, i + 1, t, h => by
    have := deep_get r i t (by simpa using h)
    simp only [Ty.deepL]; omega
/-- The places of a type, in the order in which they are met. -/
def addrs (w : World) : Nat → Addr → List Addr
  | 0, a => [a]
  | n + 1, a => a :: (kidsA w a).flatMap (addrs w n)
def gC (bs b1 b2 : Nat) (v2 : Value) : Array Value := #[.map (some bs), .map (some b1), .slice none 0 0, .map (some b2), v2]
/-- Where the gathering stands. -/
structure GSt (w0 : World) (bs b1 b2 bg B : Nat) (M : List Addr) (L : List Int) (W : World) : Prop where
  own : ∃ A k c, Lies W bg 83 (gC bs b1 b2 (.slice A k c)) ∧ W.ownsRow B 3 1 (.slice A k c) L.length (L.map fun i => .int .i64 i)
  seen : Sn W bs M
  map : IMap W b2 (setL L)
  below : Below w0.heap.size w0 W
  old : ∀ x ∈ M, AtCells w0 x
  room : B ≤ W.heap.size

set_option maxRecDepth 100000 in
set_option maxHeartbeats 8000000 in
theorem gather_any (w0 : World) (bs b1 b2 bg B : Nat) (h1 : w0.heap.size ≤ bs) (h2 : w0.heap.size ≤ b2) (h3 : w0.heap.size ≤ bg) (hB1 : bs < B) (hB2 : b2 < B) (hB3 : bg < B) (n1 : bs ≠ b2) (n2 : bs ≠ bg) (n3 : b2 ≠ bg) :
    ∀ (n : Nat) (a : Addr) (t : Ty), TA w0 a t → t.deep ≤ n → noV t = true → ∀ (W : World) (M : List Addr) (L : List Int), GSt w0 bs b1 b2 bg B M L W → (M ++ addrs w0 n a).Nodup → L.length + t.size ≤ 100000000 →
      Calls Tryd.prog 49 #[.pointer (some ⟨bg, 0, none⟩), .pointer (some a)] W fun e W' => e = .returned (.tuple #[]) ∧ GSt w0 bs b1 b2 bg B (M ++ addrs w0 n a) (rwT t L) W' := by
  intro n
  induction n with
  | zero =>
    intro a t _ hdp
    have := deep_pos t
    omega
  | succ n ih =>
    intro a t hta hdp hnv W M L hG hnd hLs
    obtain ⟨k, nm, v, kids, ls, rv⟩ := t
    obtain ⟨kv, lv, h0, hat, hr, hk, _, hks⟩ := hta.open
    obtain ⟨b, o, sp⟩ := a
    have hsp : sp = none := h0
    subst hsp
    simp only [noV, Bool.and_eq_true, Bool.not_eq_true', decide_eq_false_iff_not] at hnv
    obtain ⟨hk7, hnvl⟩ := hnv
    have hnm : (⟨b, o, none⟩ : Addr) ∉ M := by
      intro hm
      rw [addrs, List.nodup_append] at hnd
      exact hnd.2.2 _ hm _ (by simp) rfl
    obtain ⟨A2, k2, c2, hl, hown⟩ := hG.own
    have hB := hG.below
    have hf := first_any W bs M ⟨b, o, none⟩ hG.seen (hat.keep (hB.block _ hat.lt))
    have hadd : addU M ⟨b, o, none⟩ = M ++ [⟨b, o, none⟩] := if_neg hnm
    have hdec : decide ((⟨b, o, none⟩ : Addr) ∉ M) = true := by simp [hnm]
    rw [hadd, hdec] at hf
    have HF := Lib.hid hf
    have c0 : W.cell? ⟨bg, 0, none⟩ = some (.map (some bs)) := hl.cell 0
    have HG := Lib.hid hl
    have HO := Lib.hid hown
    have q0 := (hB.cell (p := ⟨b, o, none⟩) hat.lt)
    clear hl hown
    go_enter Tryd.func49, Tryd.ntmps49
    go_wp2_with fail
    refine HF.out.mono ?_
    rintro e W1 ⟨rfl, hS1, hbt⟩
    have hB1' : Below w0.heap.size w0 W1 := hB.trans (hbt.below h1 hB.size)
    have hl1 : Lies W1 bg 83 (gC bs b1 b2 (.slice A2 k2 c2)) := (hbt.block _ HG.out.lt (by omega)).trans HG.out
    have hG1 : GSt w0 bs b1 b2 bg B (M ++ [⟨b, o, none⟩]) L W1 := by
      refine ⟨⟨A2, k2, c2, hl1, own_same HO.out fun g hg hlt => hbt.block g hlt (by omega)⟩, hS1, hG.map.keep (hbt.block _ hG.map.lt (by omega)), hB1', fun x hx => ?_, Nat.le_trans hG.room hbt.size⟩
      rcases List.mem_append.1 hx with hx | hx
      · exact hG.old x hx
      · rw [List.mem_singleton.1 hx]; exact hat
    obtain ⟨r0, _, _, r3, _, r5⟩ := reads6 (hr.keep (hB1'.block _ hat.lt))
    obtain ⟨A, q, rfl, hq, hql, hqg⟩ := slok_form hk
    have HQ := Lib.hid hqg
    have HK := Lib.hid hk
    have hkn : kids.length ≤ 9223372036854775807 := by
      obtain ⟨_, _, e1, e2, e3, _⟩ := hk
      injection e1
      unfold maxLen at e3; omega
    have hkids : kidsA w0 ⟨b, o, none⟩ = rowA (.slice A kids.length q) := kids_of hr
    have HKI := Lib.hid hkids
    have HR0 := Lib.hid hr
    have HKS := Lib.hid hks
    have HND := Lib.hid hnd
    have hrwl : rwT (.mk k nm v kids ls rv) L = rwL kids rv true L := by rw [rwT]
    have HRW := Lib.hid hrwl
    clear hqg hkids hr hk hks hnd hrwl
    go_wp2
    have hk7b : (k == 7) = false := by simpa using hk7
    simp only [hk7b]
    go_loopw [30] (fun i wr => ∃ (j : Nat), j ≤ kids.length ∧ i = .int .i64 j ∧ GSt w0 bs b1 b2 bg B (M ++ ⟨b, o, none⟩ :: ((rowA (.slice A kids.length q)).take j).flatMap (addrs w0 n)) (rwL (kids.take j) rv true L) wr) (fun i _ => kids.length - (intOf i).toNat)
    case atStart => exact ⟨0, Nat.zero_le _, rfl, by simpa [rwL] using hG1⟩
    case round =>
      obtain ⟨j, hj, rfl, hGj⟩ := hrel
      have hBw := hGj.below
      have r3j : wr.cell? ⟨b, o + 3, none⟩ = some (.slice A kids.length q) := (hBw.cell (p := ⟨b, o + 3, none⟩) hat.lt).trans (HR0.out 3 _ rfl)
      by_cases hlt : j < kids.length
      · obtain ⟨g5, o5, rfl, hx5⟩ := HQ.out j hlt
        have hjq : j < q := by omega
        have hji : (j : Int) < (kids.length : Int) := by omega
        have hkj? : kids[j]? = some kids[j] := List.getElem?_eq_getElem hlt
        have hka : kidAt (.slice (some ⟨g5, o5, none⟩) kids.length q) j = ⟨g5, o5 + j * 6, none⟩ := rfl
        have hstep : (rowA (.slice (some ⟨g5, o5, none⟩) kids.length q)).take (j + 1) = (rowA (.slice (some ⟨g5, o5, none⟩) kids.length q)).take j ++ [⟨g5, o5 + j * 6, none⟩] := take_step _ _ _ hx5
        have hMs : M ++ ⟨b, o, none⟩ :: ((rowA (.slice (some ⟨g5, o5, none⟩) kids.length q)).take j).flatMap (addrs w0 n) ++ addrs w0 n ⟨g5, o5 + j * 6, none⟩ = M ++ ⟨b, o, none⟩ :: ((rowA (.slice (some ⟨g5, o5, none⟩) kids.length q)).take (j + 1)).flatMap (addrs w0 n) := by
          rw [hstep, List.flatMap_append]
          simp
        have hnd2 : (M ++ ⟨b, o, none⟩ :: ((rowA (.slice (some ⟨g5, o5, none⟩) kids.length q)).take (j + 1)).flatMap (addrs w0 n)).Nodup := by
          refine List.Nodup.sublist ?_ HND.out
          rw [addrs, HKI.out]
          refine List.Sublist.append (List.Sublist.refl _) (List.Sublist.cons_cons _ ?_)
          have e := List.take_append_drop (j + 1) (rowA (.slice (some ⟨g5, o5, none⟩) kids.length q))
          have e2 := congrArg (fun l => l.flatMap (addrs w0 n)) e
          simp only [List.flatMap_append] at e2
          rw [← e2]
          exact List.sublist_append_left _ _
        have hlen : (rwL (kids.take j) rv true L).length + (kids[j]).size ≤ 100000000 := by
          have e1 := rwL_len (kids.take j) rv true L
          have e2 := sizeL_take hkj?
          simp only [Ty.size] at hLs
          simp only [if_true] at e1
          omega
        have hdj : (kids[j]).deep ≤ n := by
          have := deep_get _ _ _ hkj?
          simp only [Ty.deep] at hdp
          omega
        have hcall := ih ⟨g5, o5 + j * 6, none⟩ kids[j] (hka ▸ HKS.out j _ hkj?) hdj (noVL_get _ _ _ hnvl hkj?) wr _ _ hGj (by rw [hMs]; exact hnd2) hlen
        rw [hMs] at hcall
        have htk : kids.take (j + 1) = kids.take j ++ [kids[j]] := take_step _ _ _ hkj?
        have hrw := rwL_snoc rv kids[j] (kids.take j) true L
        rw [← htk] at hrw
        have hlr : (rwT kids[j] (rwL (kids.take j) rv true L)).length ≤ 100000000 := by
          have := rwT_len kids[j] (rwL (kids.take j) rv true L)
          omega
        have HLR := Lib.hid hlr
        have HRS := Lib.hid hrw
        have HC := Lib.hid hcall
        generalize rwT kids[j] (rwL (kids.take j) rv true L) = X at *
        clear hcall hMs hnd2 hstep hrw hlr hGj htk
        go_wp2_with fail
        refine HC.out.mono ?_
        rintro e W2 ⟨rfl, hG2⟩
        have s5 : W2.cell? ⟨b, o + 5, none⟩ = some (.int .i64 rv) := (hG2.below.cell (p := ⟨b, o + 5, none⟩) hat.lt).trans (HR0.out 5 _ rfl)
        have HG2 := Lib.hid hG2
        clear hG2
        by_cases hj0 : j = 0
        · subst hj0
          by_cases hrv : rv = 0
          · go_wp2
            go_roundw
            case rel =>
              refine ⟨1, by omega, by simp, ?_⟩
              rw [HRS.out, if_neg (by simp [hrv])]
              exact HG2.out
            case measure => (simp [intOf] <;> omega)
          · have hrvi : (rv == 0) = false := by simpa using hrv
            go_wp2
            go_still_tail 8, (by kernel_rfl)
            change wpList _ _ _ _ _ W2.drew
            have hG2d : GSt w0 bs b1 b2 bg B (M ++ ⟨b, o, none⟩ :: ((rowA (.slice (some ⟨g5, o5, none⟩) kids.length q)).take (0 + 1)).flatMap (addrs w0 n)) X W2.drew := by
              obtain ⟨h1, h2, h3, h4, h5, h6⟩ := HG2.out
              exact ⟨h1, h2, h3, h4.trans ⟨rfl, rfl, rfl, Nat.le_refl _, fun _ _ => rfl⟩, h5, h6⟩
            generalize W2.drew = Wd at *
            obtain ⟨A5, k5, c5, hl5, hown5⟩ := hG2d.own
            have hc := numAdd_any Wd bg 3 b2 B _ X A5 k5 c5 rv hl5 rfl rfl hG2d.map hown5 hB2 hB3 n3 HLR.out hG2d.room
            have HCA := Lib.hid hc
            have HGd := Lib.hid hG2d
            clear hc hl5 hown5 hG2d
            go_wp2_with fail
            refine HCA.out.mono ?_
            rintro e W3 ⟨rfl, A6, k6, c6, hl6, hm6, hown6, hfr⟩
            have hG3 : GSt w0 bs b1 b2 bg B (M ++ ⟨b, o, none⟩ :: ((rowA (.slice (some ⟨g5, o5, none⟩) kids.length q)).take (0 + 1)).flatMap (addrs w0 n)) (addN X rv) W3 := by
              have hd := HGd.out
              refine ⟨⟨A6, k6, c6, hl6, hown6⟩, ?_, hm6, ?_, hd.old, Nat.le_trans hd.room hfr.size⟩
              · refine ⟨hd.seen.1.keep (hfr.block _ hd.seen.1.lt (by omega)), fun x hx => ?_⟩
                have h1 := (hd.old x hx).lt
                exact (hd.seen.2 x hx).keep (hfr.block _ (hd.seen.2 x hx).lt (by omega))
              · exact hd.below.trans ⟨hfr.os, hfr.tape, hfr.output, hfr.size, fun g hg => hfr.block g (by have := hd.below.size; omega) (by omega)⟩
            have HG3 := Lib.hid hG3
            clear hG3 hl6 hm6 hown6 hfr
            go_wp2_with fail
            go_roundw
            case rel =>
              refine ⟨1, by omega, by simp, ?_⟩
              rw [HRS.out, if_pos (by simp [hrv])]
              exact HG3.out
            case measure => (simp [intOf] <;> omega)
        · have hj0i : ¬ (j : Int) = 0 := by omega
          go_wp2
          go_roundw
          case rel =>
            refine ⟨j + 1, by omega, by simp, ?_⟩
            rw [HRS.out, if_neg (by rintro ⟨⟨_, h⟩, _⟩; have := congrArg List.length h; rw [List.length_take, List.length_nil] at this; omega)]
            exact HG2.out
          case measure => (simp [intOf] <;> omega)
      · obtain rfl : j = kids.length := by omega
        go_wp2
        go_end0
        refine ⟨rfl, ?_⟩
        rw [HRW.out, addrs, HKI.out]
        have h1 : (rowA (.slice A kids.length q)).take kids.length = rowA (.slice A kids.length q) := List.take_of_length_le (by rw [rowA_len HK.out]; omega)
        rw [h1, List.take_length] at hGj
        exact hGj
end Go.Proofs.YtjeolmcjhpkcbaaDoor
