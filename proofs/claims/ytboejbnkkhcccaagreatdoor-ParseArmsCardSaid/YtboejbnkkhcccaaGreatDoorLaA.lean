/- What Parse answers of the two texts of ParseArms, and how their arms lie. -/
import Derived.Test.YtboejbnkkhcccaaGreatDoorLpBase
import Derived.Test.YtboejbnkkhcccaaGreatDoorPzArms
namespace Go.Proofs.YtboejbnkkhcccaaGreatDoor
open Go.RowKit Pz

theorem vsB_len : ∀ (m a : Nat), (vsB a m).length ≤ 7 * m
  | 0, _ => by simp [vsB]
  | m + 1, a => by
    have := vsB_len m (a + 1)
    have := dgF_len 5 a
    rw [vsB_cons]
    simp only [nmV, List.length_cons, List.length_append]
    omega
theorem armB_len (v i : Nat) (hv : v ≤ 6) : (armB v i).length ≤ 60 := by
  have := vsB_len v 0
  have := dgF_len 5 i
  unfold armB nmC
  simp only [List.length_cons, List.length_append]
  omega
theorem armsB_len (V : Nat → Nat) (hV : ∀ i, V i ≤ 6) : ∀ (m a : Nat), (armsB V a m).length ≤ 62 * m
  | 0, _ => by simp [armsB]
  | m + 1, a => by
    have := armsB_len V hV m (a + 1)
    have := armB_len (V a) a (hV a)
    rw [armsB_cons]
    simp only [List.length_cons, List.length_append]
    omega
theorem arms0_len (V : Nat → Nat) (hV : ∀ i, V i ≤ 6) (m : Nat) : (arms0 V m).length ≤ 62 * m := by
  cases m with
  | zero => exact Nat.zero_le _
  | succ m =>
    have := armsB_len V hV m 1
    have := armB_len (V 0) 0 (hV 0)
    unfold arms0
    rw [List.length_append]
    omega
theorem clsB_len : ∀ (m a : Nat), (clsB a m).length ≤ 30 * m
  | 0, _ => by simp [clsB]
  | m + 1, a => by
    have := clsB_len m (a + 1)
    have := dgF_len 5 a
    rw [clsB_cons]
    unfold clB nmO
    simp only [List.length_cons, List.length_append]
    omega
def endB : List UInt8 := [32, 125]
def isRb (tl : List Lx.Tk) : Prop := ∃ q, tl = [⟨5, tRb, 0, q⟩]
set_option maxRecDepth 10000 in
theorem lex_endB (p : Nat) : ∃ tl, Lexes p endB tl none ∧ isRb tl :=
  ⟨_, .blank (Lexes.tok (x := ⟨5, tRb, 0, 0⟩) (m := 1) rfl rfl (.done _ _ rfl)), _, rfl⟩
set_option maxRecDepth 10000 in
theorem arms_parse (V : Nat → Nat) (hV : ∀ i, V i ≤ 6) (n : Nat) (hn : n ≤ 60) : ∃ a x rs, parseR (matchB ++ arms0 V n ++ endB) = (⟨[], [], .mk 12 a [] [] 0 [x] rs⟩, 0, 0) ∧ ArmR V 0 n rs := by
  have hin : ∃ ws tl, Lexes 9 (arms0 V n ++ endB) ws none ∧ InW V n ws tl ∧ isRb tl := by
    cases n with
    | zero =>
      obtain ⟨tl, h1, h2⟩ := lex_endB 9
      exact ⟨tl, tl, h1, rfl, h2⟩
    | succ m =>
      have hs : sepH (armsB V 1 m ++ endB) = true := armsB_sep V 1 m endB rfl
      obtain ⟨ws, s, h1, h2, tl, h3, h4⟩ := lex_arm (V 0) 0 (by have := hV 0; omega) (by omega) (armsB V 1 m ++ endB) hs none (fun s => ∃ tl, ArmsW V 1 m s tl ∧ isRb tl) (fun p => by
        obtain ⟨ws, tl, k1, k2, k3⟩ := lex_arms V (fun i => by have := hV i; omega) endB rfl none isRb lex_endB m 1 p (by omega)
        exact ⟨ws, k1, tl, k2, k3⟩) 9
      refine ⟨ws, tl, ?_, ⟨s, h2, h3⟩, h4⟩
      unfold arms0
      rw [List.append_assoc]
      exact h1
  obtain ⟨ws, tl, h1, h2, q, rfl⟩ := hin
  have hx : Lexes 0 (matchB ++ arms0 V n ++ endB) (⟨4, tMatch, 0, 0⟩ :: ⟨2, [120], 0, 6⟩ :: ⟨5, tLb, 0, 8⟩ :: ws) none := by
    rw [List.append_assoc]
    exact Lexes.tok (l := matchB ++ (arms0 V n ++ endB)) (x := ⟨4, tMatch, 0, 0⟩) (m := 5) rfl rfl (.blank (Lexes.tok (x := ⟨2, [120], 0, 0⟩) (m := 1) rfl rfl (.blank (Lexes.tok (x := ⟨5, tLb, 0, 0⟩) (m := 1) rfl rfl h1))))
  have hl := arms0_len V hV n
  have hlen : (matchB ++ arms0 V n ++ endB).length ≤ 10000 := by
    rw [List.length_append, List.length_append]
    show 9 + _ + 2 ≤ _
    omega
  obtain ⟨rs, e, hr⟩ := match_program (matchB ++ arms0 V n ++ endB).length V n 0 6 8 q ws h2
  refine ⟨0, _, rs, (parseR_ok (lexR_ok (by omega) hx)).trans (parseW_ok e rfl ?_), hr⟩
  have := hr.deep
  have h1 := deep_leaf 1 6 [120] [] 0
  simp only [Tm.deep, deepL] at h1 ⊢
  omega
set_option maxRecDepth 10000 in
theorem cls_parse (n : Nat) (hn : n ≤ 60) : ∃ a x rs, parseR (handB ++ clsB 0 n ++ endB) = (⟨[], [], .mk 14 a [69] [] 0 [x] rs⟩, 0, 0) ∧ HanR n rs := by
  obtain ⟨ws, tl, h1, h2, q, rfl⟩ := lex_cls endB rfl none isRb lex_endB n 0 26 (by omega)
  have hsep : sepH (clsB 0 n ++ endB) = true := clsB_sep 0 n endB rfl
  have hy : firstF ([121] ++ (clsB 0 n ++ endB)) = some (⟨2, [121], 0, 0⟩, 1) := by rw [first_sep [121] _ (by simp) hsep]; rfl
  have hx : Lexes 0 (handB ++ clsB 0 n ++ endB) (⟨4, tHandle, 0, 0⟩ :: ⟨3, [69], 0, 7⟩ :: ⟨2, [120], 0, 9⟩ :: ⟨5, tLb, 0, 11⟩ :: ⟨4, tReturn, 0, 13⟩ :: ⟨2, [121], 0, 20⟩ :: ⟨5, tArrow, 0, 22⟩ :: ⟨2, [121], 0, 25⟩ :: ws) none := by
    rw [List.append_assoc]
    exact Lexes.tok (l := handB ++ (clsB 0 n ++ endB)) (x := ⟨4, tHandle, 0, 0⟩) (m := 6) rfl rfl (.blank (Lexes.tok (x := ⟨3, [69], 0, 0⟩) (m := 1) rfl rfl (.blank (Lexes.tok (x := ⟨2, [120], 0, 0⟩) (m := 1) rfl rfl (.blank (Lexes.tok (x := ⟨5, tLb, 0, 0⟩) (m := 1) rfl rfl
      (.blank (Lexes.tok (x := ⟨4, tReturn, 0, 0⟩) (m := 6) rfl rfl (.blank (Lexes.tok (x := ⟨2, [121], 0, 0⟩) (m := 1) rfl rfl (.blank (Lexes.tok (x := ⟨5, tArrow, 0, 0⟩) (m := 2) rfl rfl (.blank (Lexes.tok (x := ⟨2, [121], 0, 0⟩) (m := 1) rfl hy h1))))))))))))))
  have hl := clsB_len n 0
  have hlen : (handB ++ clsB 0 n ++ endB).length ≤ 10000 := by
    rw [List.length_append, List.length_append]
    show 26 + _ + 2 ≤ _
    omega
  obtain ⟨rs, e, hr⟩ := hand_program (handB ++ clsB 0 n ++ endB).length n 0 7 9 11 13 20 22 25 q ws h2
  refine ⟨0, _, rs, (parseR_ok (lexR_ok (by omega) hx)).trans (parseW_ok e rfl ?_), hr⟩
  obtain ⟨vs, t, r, rfl, hd, hr⟩ := hr
  have := hr.deep
  have h1 := deep_leaf 1 9 [120] [] 0
  simp only [Tm.deep, deepL, deepA] at h1 hd ⊢
  omega

theorem flatten_row {α : Type} (n : Nat) : ∀ (xs : List (List α)), (∀ x ∈ xs, x.length = n) → ∀ (i : Nat) x, xs[i]? = some x → ∀ j, j < n → xs.flatten[i * n + j]? = x[j]?
  | [], _, i, x, h, _, _ => by simp at h
  | y :: r, hl, 0, x, h, j, hj => by
    simp only [List.getElem?_cons_zero, Option.some.injEq] at h
    subst h
    rw [List.flatten_cons, Nat.zero_mul, Nat.zero_add, List.getElem?_append_left (by rw [hl y (by simp)]; exact hj)]
  | y :: r, hl, i + 1, x, h, j, hj => by
    have hy := hl y (by simp)
    have := flatten_row n r (fun z hz => hl z (by simp [hz])) i x (by simpa using h) j hj
    rw [List.flatten_cons, List.getElem?_append_right (by rw [hy, Nat.succ_mul]; omega), hy, show (i + 1) * n + j - n = i * n + j by rw [Nat.succ_mul]; omega]
    exact this
/-- The arms of a term, as they lie. -/
theorem open_arms {w : World} {P : Nat → Prop} {k p n : Nat} {nm pm : Str} {kids : List Tm} {arms : List Arm} {b : List Value} (h : HT w P (.mk k p nm pm n kids arms) b) :
    ∃ kv A ca, b = tmC k p nm pm n kv (.slice A arms.length ca) ∧ arms.length ≤ ca ∧ (0 < arms.length → ∃ ga, A = some ⟨ga, 0, none⟩ ∧ ∀ (i : Nat) a, arms[i]? = some a → ∃ B c bc, w.rangeAt ga (i * 23) (.string (ba a.1) :: .slice B a.2.1.length c :: bc) ∧ HT w P a.2.2 bc) := by
  cases h with
  | mk _ _ _ _ _ _ _ kv av kc vv bc hk hkl hks hvl hbl ha hav has =>
  have hzl : (List.zipWith (fun (a : Arm) (x : Value × List Value) => Value.string (ba a.1) :: x.1 :: x.2) arms (vv.zip bc)).length = arms.length := by
    rw [List.length_zipWith, List.length_zip]; omega
  have ha2 := ha.2
  rw [hzl] at ha2
  rcases own_cells ha2 with ⟨rfl, h0⟩ | ⟨ga, ca, rfl, hca, _, _, hcA⟩
  · exact ⟨kv, none, 0, by rw [h0], by omega, fun h => by omega⟩
  · refine ⟨kv, _, ca, rfl, hca, fun _ => ⟨ga, rfl, fun i a hi => ?_⟩⟩
    have hlt : i < arms.length := (List.getElem?_eq_some_iff.1 hi).1
    obtain ⟨v, hv⟩ : ∃ v, vv[i]? = some v := ⟨_, List.getElem?_eq_getElem (by omega)⟩
    obtain ⟨c, hc⟩ : ∃ c, bc[i]? = some c := ⟨_, List.getElem?_eq_getElem (by omega)⟩
    have hT := has i a c hi hc
    have hlc := hT.len
    obtain ⟨B, cc, hvs⟩ : ∃ B cc, v = .slice B a.2.1.length cc := by
      rcases own_cells (hav i a v hi hv) with ⟨h1, h2⟩ | ⟨g, cap, h1, _⟩
      · exact ⟨_, _, by rw [h1, h2]⟩
      · exact ⟨_, _, h1⟩
    refine ⟨B, cc, c, fun j u hj => ?_, hT⟩
    rw [← hvs] at hj
    have hrow : (List.zipWith (fun (a : Arm) (x : Value × List Value) => Value.string (ba a.1) :: x.1 :: x.2) arms (vv.zip bc))[i]? = some (.string (ba a.1) :: v :: c) := by
      rw [List.getElem?_zipWith, hi, List.getElem?_zip_eq_some.2 (show vv[i]? = some (v, c).1 ∧ bc[i]? = some (v, c).2 from ⟨hv, hc⟩)]
    have hj23 : j < 23 := by
      have := (List.getElem?_eq_some_iff.1 hj).1
      simp only [List.length_cons] at this
      omega
    have := flatten_row 23 _ ha.1 i _ hrow j hj23
    exact hcA (i * 23 + j) u (by rw [this, hj])
end Go.Proofs.YtboejbnkkhcccaaGreatDoor
