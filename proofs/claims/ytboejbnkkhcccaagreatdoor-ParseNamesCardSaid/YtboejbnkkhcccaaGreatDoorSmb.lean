/- The contract of Small, second part: keywords. -/
import Derived.Test.YtboejbnkkhcccaaGreatDoorSml
import Derived.Test.YtboejbnkkhcccaaGreatDoorGbLexA
namespace Go.Proofs.YtboejbnkkhcccaaGreatDoor
open Go.RowKit

def keyL : List (List UInt8) := [[102, 117, 110], [108, 101, 116], [105, 110], [114, 101, 99], [105, 102], [116, 104, 101, 110], [101, 108, 115, 101], [109, 97, 116, 99, 104], [104, 97, 110, 100, 108, 101], [114, 101, 116, 117, 114, 110], [101, 102, 102, 101, 99, 116], [100, 97, 116, 97], [112, 114, 105, 110, 116], [114, 101, 97, 100], [114, 101, 102], [116, 114, 117, 101], [102, 97, 108, 115, 101], [105, 110, 116], [98, 111, 111, 108], [117, 110, 105, 116]]
def inL (ks : List (List UInt8)) (l : List UInt8) : Bool := ks.any fun k => l == k
theorem kwB_keys (l : List UInt8) : Lx.kwB l = inL keyL l := by
  simp only [Lx.kwB, inL, keyL, List.any_cons, List.any_nil, Bool.or_assoc, Bool.or_false]
def keysC : Array Value := #[.string ⟨#[102, 117, 110]⟩, .string ⟨#[108, 101, 116]⟩, .string ⟨#[105, 110]⟩, .string ⟨#[114, 101, 99]⟩, .string ⟨#[105, 102]⟩, .string ⟨#[116, 104, 101, 110]⟩, .string ⟨#[101, 108, 115, 101]⟩, .string ⟨#[109, 97, 116, 99, 104]⟩, .string ⟨#[104, 97, 110, 100, 108, 101]⟩, .string ⟨#[114, 101, 116, 117, 114, 110]⟩, .string ⟨#[101, 102, 102, 101, 99, 116]⟩, .string ⟨#[100, 97, 116, 97]⟩, .string ⟨#[112, 114, 105, 110, 116]⟩, .string ⟨#[114, 101, 97, 100]⟩, .string ⟨#[114, 101, 102]⟩, .string ⟨#[116, 114, 117, 101]⟩, .string ⟨#[102, 97, 108, 115, 101]⟩, .string ⟨#[105, 110, 116]⟩, .string ⟨#[98, 111, 111, 108]⟩, .string ⟨#[117, 110, 105, 116]⟩]
theorem keysC_at (i : Nat) (k : List UInt8) (h : keyL[i]? = some k) : keysC[i]? = some (.string (ba k)) := by
  have e : keysC = (keyL.map fun k => Value.string (ba k)).toArray := rfl
  rw [e]
  simp [h]
theorem inL_drop (ks : List (List UInt8)) (i : Nat) (k l : List UInt8) (h : ks[i]? = some k) : inL (ks.drop i) l = ((l == k) || inL (ks.drop (i + 1)) l) := by
  obtain ⟨hi, he⟩ := List.getElem?_eq_some_iff.1 h
  rw [List.drop_eq_getElem_cons hi, he]
  rfl
theorem ba_list' (l : List UInt8) : (ba l).data.toList = l := by simp [ba]
theorem below_al (w : World) (o : Obj) : Below w.heap.size w (w.alloc o) := (Below.refl _ _).alloc (Nat.le_refl _) _
theorem ba_inj {a b : List UInt8} (h : ba a = ba b) : a = b := by
  have := congrArg (fun s : ByteArray => s.data.toList) h
  simpa [ba] using this
set_option maxHeartbeats 800000 in
theorem keys_any (w : World) : Calls Tryz.prog 32 #[] w fun e w' => e = .returned (.slice (some ⟨w.heap.size, 0, none⟩) 20 20) ∧ w' = w.alloc (.cells keysC 9) := by
  go_enter Tryz.func32, Tryz.ntmps32
  go_wp2
  go_ret
  exact ⟨rfl, rfl⟩
set_option maxHeartbeats 800000 in
theorem has_any (ks : List (List UInt8)) (g n cap : Nat) (s : List UInt8) (w : World) (hc : ∀ i k, ks[i]? = some k → w.cell? ⟨g, i, none⟩ = some (.string (ba k))) (hn : n = ks.length) (hl : ks.length ≤ 1000) (hcap : n ≤ cap) :
    Calls Tryz.prog 31 #[.slice (some ⟨g, 0, none⟩) n cap, .string (ba s)] w fun e w' => e = .returned (.bool (inL ks s)) ∧ w = w' := by
  have HN := Lib.hid hn
  have hn1 : n ≤ 1000 := by omega
  have HC := Lib.hid hc
  clear hn hl hc
  go_enter Tryz.func31, Tryz.ntmps31
  go_wp2
  go_loop [5] (fun i => ∃ k : Nat, k ≤ n ∧ i = .int .i64 k ∧ inL ks s = inL (ks.drop k) s) (fun i => n - (intOf i).toNat)
  case atStart => exact ⟨0, Nat.zero_le _, rfl, by simp⟩
  case round =>
    obtain ⟨k, hk, rfl, hr⟩ := hrel
    have HR := Lib.hid hr
    clear hr
    by_cases hlt : k < n
    · obtain ⟨q, hq⟩ : ∃ q, ks[k]? = some q := ⟨_, List.getElem?_eq_getElem (by rw [← HN.out]; exact hlt)⟩
      have hcell := HC.out k q hq
      have hd := inL_drop ks k q s hq
      have HD := Lib.hid hd
      clear hd hq
      by_cases he : s = q
      · subst he
        go_wp2
        go_ret
        exact ⟨ret_bool (by rw [HR.out, HD.out]; simp), rfl⟩
      · have h1 : ((ba q).toList == (ba s).toList) = false := by
          rw [Lib.toList_data, Lib.toList_data, ba_list', ba_list', beq_eq_false_iff_ne]
          exact fun e => he e.symm
        have h2 : (s == q) = false := by simpa using he
        have H2 := Lib.hid h2
        have he2 : ¬ ba q = ba s := fun e => he (ba_inj e).symm
        clear h2 he
        go_wp2
        go_round
        case rel => exact ⟨k + 1, by omega, by go_num, by rw [HR.out, HD.out, H2.out]; rfl⟩
        case measure => simp [intOf]; omega
    · go_wp2
      go_ret
      exact ⟨ret_bool (by rw [HR.out, List.drop_of_length_le (by rw [← HN.out]; omega)]; rfl), rfl⟩
theorem haskeys_any (s : List UInt8) (w : World) :
    Calls Tryz.prog 31 #[.slice (some ⟨w.heap.size, 0, none⟩) 20 20, .string (ba s)] (w.alloc (.cells keysC 9)) fun e w' => e = .returned (.bool (Lx.kwB s)) ∧ (w.alloc (.cells keysC 9)) = w' := by
  rw [kwB_keys]
  refine has_any keyL w.heap.size 20 20 s _ (fun i k h => ?_) rfl (by decide) (Nat.le_refl _)
  rw [(Lies.new w 9 keysC).cell]
  exact keysC_at i k h
theorem capB_head (c : UInt8) (r : List UInt8) : Lx.capB (c :: r) = larB c := by
  simp [Lx.capB, larB, Lx.inB]
set_option maxRecDepth 100000 in
set_option maxHeartbeats 1000000 in
theorem smallN_any (L : List UInt8) (w : World) (hs : L.length ≤ 1000) :
    Calls Tryz.prog 16 #[.string (ba L)] w fun e w' => e = .returned (.bool (smallB L)) ∧ Below w.heap.size w w' := by
  have hsz := ba_size L
  have hnm := nameS_any (ba L) w (by omega)
  rw [ba_list'] at hnm
  have HNM := Lib.hid hnm
  clear hnm
  have hsm : smallB L = (nameB L && !Lx.capB L && decide (L.length ≤ 60) && !Lx.kwB L) := rfl
  cases hn : nameB L with
  | false =>
    have HN := Lib.hid hn
    have HSM := Lib.hid hsm
    clear hn hsm
    go_enter Tryz.func16, Tryz.ntmps16
    go_wp2_with ((with_reducible refine HNM.out.mono ?_); rintro e w' ⟨rfl, rfl⟩; rw [HN.out])
    go_ret
    exact ⟨ret_bool (by rw [HSM.out, HN.out]; rfl), Below.refl _ _⟩
  | true =>
    match L, hn with
    | c :: r, hn =>
      rw [capB_head] at hsm
      have h0 : (ba (c :: r))[0]'(by rw [ba_size]; simp) = c := rfl
      have h1 : 0 < (ba (c :: r)).size := by rw [ba_size]; simp
      have hll : (ba (c :: r)).size = (c :: r).length := ba_size _
      have HLL := Lib.hid hll
      obtain ⟨s, hS⟩ : ∃ s, s = ba (c :: r) := ⟨_, rfl⟩
      have hsi : ∀ h : 0 < s.size, s[0] = c := by subst hS; exact fun _ => rfl
      have hgot := fun W => haskeys_any (c :: r) W
      rw [← hS] at h1 HNM hgot HLL ⊢
      have hs2 : s.size ≤ 1000 := by rw [HLL.out]; exact hs
      have HSM := Lib.hid hsm
      have HN := Lib.hid hn
      have H0 := hsi h1
      have H0' := Lib.hid H0
      clear hsi hsm hn h0 hll hsz hS H0
      cases hc : larB c with
      | true =>
        have HCc := Lib.hid hc
        clear hc
        go_enter Tryz.func16, Tryz.ntmps16
        go_wp2_with (first | ((with_reducible refine HNM.out.mono ?_); rintro e w' ⟨rfl, rfl⟩; rw [HN.out]) | ((with_reducible refine (in_lar _ _).mono ?_); rintro e w' ⟨rfl, rfl⟩; rw [H0'.out, HCc.out]))
        go_ret
        exact ⟨ret_bool (by rw [HSM.out, HN.out, HCc.out]; rfl), Below.refl _ _⟩
      | false =>
        have HCc := Lib.hid hc
        clear hc
        by_cases h6 : s.size ≤ 60
        · have hk := hgot w
          have h6b : decide ((c :: r).length ≤ 60) = true := by rw [← HLL.out]; exact decide_eq_true h6
          have H6 := Lib.hid h6b
          have HK := Lib.hid hk
          have hb := below_al w (.cells keysC 9)
          clear hk hgot h6b
          cases hw : Lx.kwB (c :: r)
          all_goals
            have HW := Lib.hid hw
            clear hw
            go_enter Tryz.func16, Tryz.ntmps16
            go_wp2_with (first | ((with_reducible refine HNM.out.mono ?_); rintro e w' ⟨rfl, rfl⟩; rw [HN.out]) | ((with_reducible refine (in_lar _ _).mono ?_); rintro e w' ⟨rfl, rfl⟩; rw [H0'.out, HCc.out]) | ((with_reducible refine (keys_any _).mono ?_); rintro e w' ⟨rfl, rfl⟩) | ((with_reducible refine HK.out.mono ?_); rintro e w' ⟨rfl, rfl⟩; rw [HW.out]))
            go_ret
            exact ⟨ret_bool (by rw [HSM.out, HN.out, HCc.out, H6.out, HW.out]; rfl), hb⟩
        · have h6b : decide ((c :: r).length ≤ 60) = false := by rw [← HLL.out]; exact decide_eq_false h6
          have H6 := Lib.hid h6b
          clear hgot h6b
          go_enter Tryz.func16, Tryz.ntmps16
          go_wp2_with (first | ((with_reducible refine HNM.out.mono ?_); rintro e w' ⟨rfl, rfl⟩; rw [HN.out]) | ((with_reducible refine (in_lar _ _).mono ?_); rintro e w' ⟨rfl, rfl⟩; rw [H0'.out, HCc.out]))
          go_ret
          exact ⟨ret_bool (by rw [HSM.out, HN.out, HCc.out, H6.out]; simp), Below.refl _ _⟩
end Go.Proofs.YtboejbnkkhcccaaGreatDoor
