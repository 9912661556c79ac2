/- The walk of the law LexBounds. -/
import Derived.Test.YtgffhjcnfjgpnaaDoorPureD
import Derived.Test.YtgffhjcnfjgpnaaDoorLawAlone
import Derived.IntWalk
import Derived.Lib.SmallJoins
namespace Go.Proofs.YtgffhjcnfjgpnaaDoor
open Go.RowKit

def DigRel (V : Nat) (w1 : World) (s x : Value) (wr : World) : Prop := ∃ (D : List UInt8) (X : Nat), s = .string (ba D) ∧ x = .int .i64 X ∧ (∀ c ∈ D, digB c) ∧ V = X * 10 ^ D.length + Lx.valN D ∧ D.length ≤ 19 ∧ Below w1.heap.size w1 wr
theorem dig_step {V X : Nat} {D : List UInt8} (dg : UInt8) (hX : 0 < X) (hV : V ≤ 9223372036854775807) (h : V = X * 10 ^ D.length + Lx.valN D) (hd : dg.toNat = 48 + X % 10) :
    V = (X / 10) * 10 ^ (dg :: D).length + Lx.valN (dg :: D) ∧ (dg :: D).length ≤ 19 := by
  have hb : D.length ≤ 18 := ten_bound (V := V) hX (by omega) (by omega)
  refine ⟨?_, by simp; omega⟩
  rw [valN_cons, hd, List.length_cons, Nat.pow_succ, Nat.add_sub_cancel_left, Nat.mul_comm (10 ^ D.length) 10, ← Nat.mul_assoc, ← Nat.add_assoc, ← Nat.add_mul]
  have e : X / 10 * 10 + X % 10 = X := by omega
  rw [e]; exact h
theorem digit_of (X : Nat) : ∃ dg : UInt8, dg.toNat = 48 + X % 10 := ⟨UInt8.ofNat (48 + X % 10), by simp; omega⟩
theorem conv_one (c : UInt8) (y : Int) (hy : (c.toNat : Int) = y) (w : World) : (convert 22 9 (.slice (some ⟨w.heap.size, 0, none⟩) 1 1)).run Tryd.prog (w.alloc (.cells #[.int .u8 y] 5)) = .ok (.string (ba [c])) (w.alloc (.cells #[.int .u8 y] 5)) :=
  conv_bs (Bs.lit w [c] #[.int .u8 y] (0, 0) (n := 1) rfl rfl (by subst hy; rfl))
theorem ba_app (a b : List UInt8) : ba a ++ ba b = ba (a ++ b) := by
  apply ByteArray.ext
  apply Array.toList_inj.1
  simp [ba]
def strLen : Value → Nat
  | .string s => s.size
  | _ => 0
def NameRel (great : Bool) (Q : Nat) (s : Value) : Prop := ∃ k : Nat, s = .string (ba (nameL great k)) ∧ k + 1 ≤ Q
theorem name_app (great : Bool) (k : Nat) : ba (nameL great k) ++ ba [120] = ba (nameL great (k + 1)) := by
  rw [ba_app]
  congr 1
  simp [nameL, List.replicate_succ']
theorem Bs.bytesT (w : World) (s : ByteArray) : Bs (Lib.bytesWorld w 5 s) (.slice (some ⟨w.heap.size, 0, none⟩) s.size (grownCap w s.size 0 5)) s.data.toList := by
  have e : s = ba s.data.toList := by simp [ba]
  have h := Bs.bytes w s.data.toList s.size (by rw [← e])
  rw [← e] at h
  exact h
def NouRel (V K : Nat) (s i : Value) : Prop := ∃ (E : List UInt8) (j : Nat), s = .string (ba E) ∧ i = .int .i64 j ∧ j ≤ K ∧ (∀ c ∈ E, digB c) ∧ Lx.valN E = V ∧ E.length ≤ 19 + j
instance (c : UInt8) : Decidable (digB c) := by unfold digB; infer_instance
theorem nou_dig {E : List UInt8} (h : ∀ c ∈ E, digB c) : ∀ c ∈ (48 :: E : List UInt8), digB c := by
  intro c hc
  simp only [List.mem_cons] at hc
  rcases hc with rfl | hc
  · decide
  · exact h c hc
set_option maxRecDepth 100000 in
set_option maxHeartbeats 2000000 in
theorem bounds_any (v nn n : Int) (great : Bool) (w : World) (hG : Good w) :
    Calls Tryd.prog 6 #[.int .i64 v, .int .i64 nn, .int .i64 n, .bool great] w (Yes w) := by
  obtain ⟨V, hV, hbits⟩ := and_mask v 9223372036854775807 (by decide)
  have hbits' : bits .and .i64 v 9223372036854775807 = (V : Int) := hbits
  clear hbits
  have hVb : (V : Int) ≤ 9223372036854775807 := by omega
  obtain ⟨K, hK, hbK0⟩ := and_mask nn 15 (by decide)
  have hbK : bits .and .i64 nn 15 = (K : Int) := hbK0
  clear hbK0
  obtain ⟨M, hM, hbM0⟩ := and_mask n 65535 (by decide)
  have hbM : bits .and .i64 n 65535 = (M : Int) := hbM0
  clear hbM0
  have hcvs := conv_sb
  have hba := ba_toList
  have hcvl := fun (W : World) (C : Array Value) (n c : Nat) => Lib.run_convert_bytes_const (P := Tryd.prog) W 22 5 C n c Tryd.underlying22 Tryd.underlying5
  go_enter Tryd.func6, Tryd.ntmps6
  go_wp2_with fail
  refine (shown_any _ hG).mono ?_
  rintro e w1 ⟨rfl, hB1⟩
  have hG1 := hG.later hB1
  have hs1 := hB1.size
  go_wp2_with fail
  clear hbits'
  go_loopw [10, 11] (fun s x wr => DigRel V w1 s x wr) (fun _ x _ => (intOf x).toNat)
  case atStart => exact ⟨[], V, rfl, rfl, by simp, by simp [Lx.valN], by simp, Below.refl _ _⟩
  case round =>
    rename_i wr
    obtain ⟨D, X, rfl, rfl, hD, hVX, hDl, hnx⟩ := hrel
    have HV := Lib.hid hVX
    have HD := Lib.hid hD
    clear hD
    have hsz := hnx.size
    have hDs := ba_size D
    have hDs2 : (ba D).size ≤ 19 := by omega
    have HDs := Lib.hid hDs
    clear hDs hDl
    by_cases hX : 0 < X
    · have hXV : X ≤ V := by
        rw [hVX]
        have := Nat.le_mul_of_pos_right X (Nat.pow_pos (n := D.length) (show 0 < 10 by decide))
        omega
      clear hVX
      have hXb : (X : Int) ≤ 9223372036854775807 := by omega
      obtain ⟨dg, hdg⟩ := digit_of X
      have hst := dig_step dg hX hV HV.out hdg
      have HS := Lib.hid hst
      clear hst
      have hdD : ∀ c ∈ dg :: D, digB c := by
        intro c hc
        simp only [List.mem_cons] at hc
        rcases hc with rfl | hc
        · unfold digB; omega
        · exact HD.out c hc
      have HDD := Lib.hid hdD
      clear hdD
      have hcv := conv_one dg (48 + (X : Int) % 10) (by omega) wr
      have HDG := Lib.hid hdg
      clear hdg
      have hdgs : (ba [dg]).size ≤ 1 := by rw [ba_size]; simp
      go_wp2
      have happ := ba_app [dg] D
      go_roundw
      case rel => first | exact ⟨dg :: D, X / 10, by rw [happ]; rfl, by go_num, HDD.out, HS.out.1, HS.out.2, hnx.alloc (by omega) _⟩ | ((repeat apply Exists.intro); exact ⟨⟨dg :: D, X / 10, by rw [happ]; rfl, by go_num, HDD.out, HS.out.1, HS.out.2, hnx.alloc (by omega) _⟩, rfl⟩)
      case measure => simp [intOf] <;> omega
    · have hX0 : X = 0 := by omega
      have hVD : Lx.valN D = V := by rw [HV.out, hX0]; simp
      have hDlen : D.length ≤ 19 := by rw [← HDs.out]; exact hDs2
      have HVD := Lib.hid hVD
      clear hVD hX0 hVX
      go_wp2_with fail
      go_loop [10, 12] (fun s i => NouRel V K s i) (fun _ i => K - (intOf i).toNat)
      case atStart => exact ⟨D, 0, rfl, rfl, Nat.zero_le _, HD.out, HVD.out, by omega⟩
      case round =>
        obtain ⟨E, j, rfl, rfl, hj, hE, hEV, hEl⟩ := hrel
        have hEs := ba_size E
        have hEs2 : (ba E).size ≤ 40 := by omega
        have HE := Lib.hid hE
        have HEV := Lib.hid hEV
        have HES := Lib.hid hEs
        clear hE hEV hEs
        by_cases hjK : j < K
        · go_wp2
          have happ := ba_app [48] E
          go_round
          case rel => exact ⟨48 :: E, j + 1, by rw [show (48 :: E) = [48] ++ E from rfl, ← happ]; rfl, by go_num, by omega, nou_dig HE.out, by rw [valN_cons, HEV.out]; simp, by simp; omega⟩
          case measure => simp [intOf] <;> omega
        · by_cases hE0 : E = []
          · have hV0 : V = 0 := by rw [← HEV.out, hE0]; rfl
            have hemp : E.isEmpty = true := by rw [hE0]; rfl
            have hlex := lex_digits [48] (by simp [digB]) (by simp) (by decide) (by decide)
            have hS2 : (⟨#[48]⟩ : ByteArray).toList = [48] := by rw [Lib.toList_data]
            have hSV : Lx.valN [48] = V := by rw [hV0]; rfl
            have HS2 := Lib.hid hSV
            have HLX := Lib.hid hlex
            clear hE0 hV0 hSV hlex
            have hGw := (hG1.later hnx)
            have hBb := Lib.bytesWorld_below wr 5 ⟨#[48]⟩
            have hsb := hBb.size
            go_wp2_with fail
            refine (lex_any _ _ _ (Bs.bytesT wr ⟨#[48]⟩) (hGw.later hBb) (by decide)).mono ?_
            rintro e w4 ⟨v4, rfl, hown4, hB4⟩
            rw [show ((⟨#[48]⟩ : ByteArray).data.toList) = [48] from rfl, HLX.out, HS2.out] at hown4 ⊢
            have hs4 := hB4.size
            have hT4 := Ts.own hown4
            obtain ⟨g4, o4, c4, hv4, _⟩ := hT4.form (by simp)
            subst hv4
            obtain ⟨y0, y1, y2, y3⟩ := hT4.at_ (i := 0) (x := ⟨1, [48], V, 0⟩) rfl
            simp only [Nat.zero_mul, Nat.add_zero, Int.cast_ofNat_Int] at y0 y1 y2 y3
            have hN4 := (hnx.trans (hBb.mono hsz)).trans (hB4.mono (by omega))
            have hG4 := (hGw.later hBb).later hB4
            have hs14 := hN4.size
            clear hown4 hT4 hBb hsb
            go_wp2_with fail
            refine (lex_any _ [57, 50, 50, 51, 51, 55, 50, 48, 51, 54, 56, 53, 52, 55, 55, 53, 56, 48, 56] _ (Bs.lit w4 _ _ _ rfl rfl (by rfl)) (hG4.later ((Below.refl _ _).alloc (Nat.le_refl _) _)) (by decide)).mono ?_
            rintro e w5 ⟨v5, rfl, hown5, hB5⟩
            rw [lex_great] at hown5 ⊢
            obtain ⟨A5, c5, hv5⟩ := (Ts.own hown5).nil_of
            subst hv5
            have hB45 : Below w4.heap.size w4 w5 := ((Below.refl _ _).alloc (Nat.le_refl _) _).trans (hB5.mono (by simp))
            have hN5 := hN4.trans (hB45.mono hs14)
            have hs15 := hN5.size
            have hB45k := hB45
            clear hown5 hB5 hB45
            cases great
            · go_wp2_with fail
              go_loop [19] (fun s => NameRel false (1 + M % 100) s) (fun s => 1 + M % 100 - strLen s)
              case atStart => exact ⟨0, rfl, by omega⟩
              case round =>
                obtain ⟨k, rfl, hkQ⟩ := hrel
                have hks : (ba (nameL false k)).size = k + 1 := by rw [ba_size]; simp [nameL]
                by_cases hlt : k + 1 < 1 + M % 100
                · have hlt2 : (ba (nameL false k)).size < 1 + M % 100 := by omega
                  have hsm : (ba (nameL false k)).size ≤ 200 := by omega
                  have HKS := Lib.hid hks
                  clear hks
                  go_wp2
                  have happ := name_app false k
                  go_round
                  case rel => exact ⟨k + 1, by rw [← happ]; rfl, by omega⟩
                  case measure =>
                    have h2 : (ba (nameL false k) ++ ba [120]).size = k + 2 := by rw [happ, ba_size]; simp [nameL]
                    have h3 := HKS.out
                    show 1 + M % 100 - (ba (nameL false k) ++ ba [120]).size < 1 + M % 100 - (ba (nameL false k)).size
                    omega
                · have hlt2 : ¬ (ba (nameL false k)).size < 1 + M % 100 := by omega
                  have hsm : (ba (nameL false k)).size ≤ 200 := by omega
                  have hln := lex_name false k (by omega)
                  have hkM : k = M % 100 := by omega
                  have HKS := Lib.hid hks
                  have HLN := Lib.hid hln
                  have HKM := Lib.hid hkM
                  clear hks hln hkM
                  have hGw5 := hG4.later hB45k
                  have hBb5 := Lib.bytesWorld_below w5 5 (ba (nameL false k))
                  have hsb5 := hBb5.size
                  go_wp2_with fail
                  refine (lex_any _ _ _ (Bs.bytesT w5 (ba (nameL false k))) (hGw5.later hBb5) (by rw [ba_list]; have := HKS.out; rw [ba_size] at this; omega)).mono ?_
                  rintro e w6 ⟨v6, rfl, hown6, hB6⟩
                  rw [ba_list, HLN.out] at hown6 ⊢
                  have hN6 := (hN5.trans (hBb5.mono hs15)).trans (hB6.mono (by omega))
                  have hT6 := Ts.own hown6
                  clear hown6 hBb5 hB6
                  by_cases hk60 : k < 60
                  · rw [if_pos hk60] at hT6 ⊢
                    have hQ : 1 + M % 100 ≤ 60 := by have := HKM.out; omega
                    obtain ⟨g6, o6, c6, hv6, _⟩ := hT6.form (by simp)
                    subst hv6
                    obtain ⟨z0, z1, _, _⟩ := hT6.at_ (i := 0) (x := ⟨if false then 3 else 2, nameL false k, 0, 0⟩) rfl
                    simp at z0 z1
                    clear hT6
                    go_wp2
                    go_ret
                    exact ⟨rfl, hB1.trans (hN6.mono hs1)⟩
                  · rw [if_neg hk60] at hT6 ⊢
                    have hQ : ¬ 1 + M % 100 ≤ 60 := by have := HKM.out; omega
                    have hQ2 : 60 < 1 + M % 100 := by omega
                    obtain ⟨A6, c6, hv6⟩ := hT6.nil_of
                    subst hv6
                    clear hT6
                    go_wp2
                    go_ret
                    exact ⟨rfl, hB1.trans (hN6.mono hs1)⟩
            · go_wp2_with fail
              go_loop [19] (fun s => NameRel true (1 + M % 100) s) (fun s => 1 + M % 100 - strLen s)
              case atStart => exact ⟨0, rfl, by omega⟩
              case round =>
                obtain ⟨k, rfl, hkQ⟩ := hrel
                have hks : (ba (nameL true k)).size = k + 1 := by rw [ba_size]; simp [nameL]
                by_cases hlt : k + 1 < 1 + M % 100
                · have hlt2 : (ba (nameL true k)).size < 1 + M % 100 := by omega
                  have hsm : (ba (nameL true k)).size ≤ 200 := by omega
                  have HKS := Lib.hid hks
                  clear hks
                  go_wp2
                  have happ := name_app true k
                  go_round
                  case rel => exact ⟨k + 1, by rw [← happ]; rfl, by omega⟩
                  case measure =>
                    have h2 : (ba (nameL true k) ++ ba [120]).size = k + 2 := by rw [happ, ba_size]; simp [nameL]
                    have h3 := HKS.out
                    show 1 + M % 100 - (ba (nameL true k) ++ ba [120]).size < 1 + M % 100 - (ba (nameL true k)).size
                    omega
                · have hlt2 : ¬ (ba (nameL true k)).size < 1 + M % 100 := by omega
                  have hsm : (ba (nameL true k)).size ≤ 200 := by omega
                  have hln := lex_name true k (by omega)
                  have hkM : k = M % 100 := by omega
                  have HKS := Lib.hid hks
                  have HLN := Lib.hid hln
                  have HKM := Lib.hid hkM
                  clear hks hln hkM
                  have hGw5 := hG4.later hB45k
                  have hBb5 := Lib.bytesWorld_below w5 5 (ba (nameL true k))
                  have hsb5 := hBb5.size
                  go_wp2_with fail
                  refine (lex_any _ _ _ (Bs.bytesT w5 (ba (nameL true k))) (hGw5.later hBb5) (by rw [ba_list]; have := HKS.out; rw [ba_size] at this; omega)).mono ?_
                  rintro e w6 ⟨v6, rfl, hown6, hB6⟩
                  rw [ba_list, HLN.out] at hown6 ⊢
                  have hN6 := (hN5.trans (hBb5.mono hs15)).trans (hB6.mono (by omega))
                  have hT6 := Ts.own hown6
                  clear hown6 hBb5 hB6
                  by_cases hk60 : k < 60
                  · rw [if_pos hk60] at hT6 ⊢
                    have hQ : 1 + M % 100 ≤ 60 := by have := HKM.out; omega
                    obtain ⟨g6, o6, c6, hv6, _⟩ := hT6.form (by simp)
                    subst hv6
                    obtain ⟨z0, z1, _, _⟩ := hT6.at_ (i := 0) (x := ⟨if true then 3 else 2, nameL true k, 0, 0⟩) rfl
                    simp at z0 z1
                    clear hT6
                    go_wp2
                    go_ret
                    exact ⟨rfl, hB1.trans (hN6.mono hs1)⟩
                  · rw [if_neg hk60] at hT6 ⊢
                    have hQ : ¬ 1 + M % 100 ≤ 60 := by have := HKM.out; omega
                    have hQ2 : 60 < 1 + M % 100 := by omega
                    obtain ⟨A6, c6, hv6⟩ := hT6.nil_of
                    subst hv6
                    clear hT6
                    go_wp2
                    go_ret
                    exact ⟨rfl, hB1.trans (hN6.mono hs1)⟩
          · have hemp : E.isEmpty = false := by simpa using hE0
            have hlex := lex_digits E HE.out hE0 (by rw [HEV.out]; omega) (by omega)
            have hSV : Lx.valN E = V := HEV.out
            have HS2 := Lib.hid hSV
            have HLX := Lib.hid hlex
            clear hE0 hSV hlex
            have hGw := (hG1.later hnx)
            have hBb := Lib.bytesWorld_below wr 5 (ba E)
            have hsb := hBb.size
            go_wp2_with fail
            refine (lex_any _ _ _ (Bs.bytesT wr (ba E)) (hGw.later hBb) (by rw [ba_list]; omega)).mono ?_
            rintro e w4 ⟨v4, rfl, hown4, hB4⟩
            rw [ba_list, HLX.out, HS2.out] at hown4 ⊢
            have hs4 := hB4.size
            have hT4 := Ts.own hown4
            obtain ⟨g4, o4, c4, hv4, _⟩ := hT4.form (by simp)
            subst hv4
            obtain ⟨y0, y1, y2, y3⟩ := hT4.at_ (i := 0) (x := ⟨1, E, V, 0⟩) rfl
            simp only [Nat.zero_mul, Nat.add_zero, Int.cast_ofNat_Int] at y0 y1 y2 y3
            have hN4 := (hnx.trans (hBb.mono hsz)).trans (hB4.mono (by omega))
            have hG4 := (hGw.later hBb).later hB4
            have hs14 := hN4.size
            clear hown4 hT4 hBb hsb
            go_wp2_with fail
            refine (lex_any _ [57, 50, 50, 51, 51, 55, 50, 48, 51, 54, 56, 53, 52, 55, 55, 53, 56, 48, 56] _ (Bs.lit w4 _ _ _ rfl rfl (by rfl)) (hG4.later ((Below.refl _ _).alloc (Nat.le_refl _) _)) (by decide)).mono ?_
            rintro e w5 ⟨v5, rfl, hown5, hB5⟩
            rw [lex_great] at hown5 ⊢
            obtain ⟨A5, c5, hv5⟩ := (Ts.own hown5).nil_of
            subst hv5
            have hB45 : Below w4.heap.size w4 w5 := ((Below.refl _ _).alloc (Nat.le_refl _) _).trans (hB5.mono (by simp))
            have hN5 := hN4.trans (hB45.mono hs14)
            have hs15 := hN5.size
            have hB45k := hB45
            clear hown5 hB5 hB45
            cases great
            · go_wp2_with fail
              go_loop [19] (fun s => NameRel false (1 + M % 100) s) (fun s => 1 + M % 100 - strLen s)
              case atStart => exact ⟨0, rfl, by omega⟩
              case round =>
                obtain ⟨k, rfl, hkQ⟩ := hrel
                have hks : (ba (nameL false k)).size = k + 1 := by rw [ba_size]; simp [nameL]
                by_cases hlt : k + 1 < 1 + M % 100
                · have hlt2 : (ba (nameL false k)).size < 1 + M % 100 := by omega
                  have hsm : (ba (nameL false k)).size ≤ 200 := by omega
                  have HKS := Lib.hid hks
                  clear hks
                  go_wp2
                  have happ := name_app false k
                  go_round
                  case rel => exact ⟨k + 1, by rw [← happ]; rfl, by omega⟩
                  case measure =>
                    have h2 : (ba (nameL false k) ++ ba [120]).size = k + 2 := by rw [happ, ba_size]; simp [nameL]
                    have h3 := HKS.out
                    show 1 + M % 100 - (ba (nameL false k) ++ ba [120]).size < 1 + M % 100 - (ba (nameL false k)).size
                    omega
                · have hlt2 : ¬ (ba (nameL false k)).size < 1 + M % 100 := by omega
                  have hsm : (ba (nameL false k)).size ≤ 200 := by omega
                  have hln := lex_name false k (by omega)
                  have hkM : k = M % 100 := by omega
                  have HKS := Lib.hid hks
                  have HLN := Lib.hid hln
                  have HKM := Lib.hid hkM
                  clear hks hln hkM
                  have hGw5 := hG4.later hB45k
                  have hBb5 := Lib.bytesWorld_below w5 5 (ba (nameL false k))
                  have hsb5 := hBb5.size
                  go_wp2_with fail
                  refine (lex_any _ _ _ (Bs.bytesT w5 (ba (nameL false k))) (hGw5.later hBb5) (by rw [ba_list]; have := HKS.out; rw [ba_size] at this; omega)).mono ?_
                  rintro e w6 ⟨v6, rfl, hown6, hB6⟩
                  rw [ba_list, HLN.out] at hown6 ⊢
                  have hN6 := (hN5.trans (hBb5.mono hs15)).trans (hB6.mono (by omega))
                  have hT6 := Ts.own hown6
                  clear hown6 hBb5 hB6
                  by_cases hk60 : k < 60
                  · rw [if_pos hk60] at hT6 ⊢
                    have hQ : 1 + M % 100 ≤ 60 := by have := HKM.out; omega
                    obtain ⟨g6, o6, c6, hv6, _⟩ := hT6.form (by simp)
                    subst hv6
                    obtain ⟨z0, z1, _, _⟩ := hT6.at_ (i := 0) (x := ⟨if false then 3 else 2, nameL false k, 0, 0⟩) rfl
                    simp at z0 z1
                    clear hT6
                    go_wp2
                    go_ret
                    exact ⟨rfl, hB1.trans (hN6.mono hs1)⟩
                  · rw [if_neg hk60] at hT6 ⊢
                    have hQ : ¬ 1 + M % 100 ≤ 60 := by have := HKM.out; omega
                    have hQ2 : 60 < 1 + M % 100 := by omega
                    obtain ⟨A6, c6, hv6⟩ := hT6.nil_of
                    subst hv6
                    clear hT6
                    go_wp2
                    go_ret
                    exact ⟨rfl, hB1.trans (hN6.mono hs1)⟩
            · go_wp2_with fail
              go_loop [19] (fun s => NameRel true (1 + M % 100) s) (fun s => 1 + M % 100 - strLen s)
              case atStart => exact ⟨0, rfl, by omega⟩
              case round =>
                obtain ⟨k, rfl, hkQ⟩ := hrel
                have hks : (ba (nameL true k)).size = k + 1 := by rw [ba_size]; simp [nameL]
                by_cases hlt : k + 1 < 1 + M % 100
                · have hlt2 : (ba (nameL true k)).size < 1 + M % 100 := by omega
                  have hsm : (ba (nameL true k)).size ≤ 200 := by omega
                  have HKS := Lib.hid hks
                  clear hks
                  go_wp2
                  have happ := name_app true k
                  go_round
                  case rel => exact ⟨k + 1, by rw [← happ]; rfl, by omega⟩
                  case measure =>
                    have h2 : (ba (nameL true k) ++ ba [120]).size = k + 2 := by rw [happ, ba_size]; simp [nameL]
                    have h3 := HKS.out
                    show 1 + M % 100 - (ba (nameL true k) ++ ba [120]).size < 1 + M % 100 - (ba (nameL true k)).size
                    omega
                · have hlt2 : ¬ (ba (nameL true k)).size < 1 + M % 100 := by omega
                  have hsm : (ba (nameL true k)).size ≤ 200 := by omega
                  have hln := lex_name true k (by omega)
                  have hkM : k = M % 100 := by omega
                  have HKS := Lib.hid hks
                  have HLN := Lib.hid hln
                  have HKM := Lib.hid hkM
                  clear hks hln hkM
                  have hGw5 := hG4.later hB45k
                  have hBb5 := Lib.bytesWorld_below w5 5 (ba (nameL true k))
                  have hsb5 := hBb5.size
                  go_wp2_with fail
                  refine (lex_any _ _ _ (Bs.bytesT w5 (ba (nameL true k))) (hGw5.later hBb5) (by rw [ba_list]; have := HKS.out; rw [ba_size] at this; omega)).mono ?_
                  rintro e w6 ⟨v6, rfl, hown6, hB6⟩
                  rw [ba_list, HLN.out] at hown6 ⊢
                  have hN6 := (hN5.trans (hBb5.mono hs15)).trans (hB6.mono (by omega))
                  have hT6 := Ts.own hown6
                  clear hown6 hBb5 hB6
                  by_cases hk60 : k < 60
                  · rw [if_pos hk60] at hT6 ⊢
                    have hQ : 1 + M % 100 ≤ 60 := by have := HKM.out; omega
                    obtain ⟨g6, o6, c6, hv6, _⟩ := hT6.form (by simp)
                    subst hv6
                    obtain ⟨z0, z1, _, _⟩ := hT6.at_ (i := 0) (x := ⟨if true then 3 else 2, nameL true k, 0, 0⟩) rfl
                    simp at z0 z1
                    clear hT6
                    go_wp2
                    go_ret
                    exact ⟨rfl, hB1.trans (hN6.mono hs1)⟩
                  · rw [if_neg hk60] at hT6 ⊢
                    have hQ : ¬ 1 + M % 100 ≤ 60 := by have := HKM.out; omega
                    have hQ2 : 60 < 1 + M % 100 := by omega
                    obtain ⟨A6, c6, hv6⟩ := hT6.nil_of
                    subst hv6
                    clear hT6
                    go_wp2
                    go_ret
                    exact ⟨rfl, hB1.trans (hN6.mono hs1)⟩
end Go.Proofs.YtgffhjcnfjgpnaaDoor
