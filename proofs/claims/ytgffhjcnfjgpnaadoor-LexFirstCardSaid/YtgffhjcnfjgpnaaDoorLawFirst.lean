/- The walk of the law LexFirst. -/
import Derived.Test.YtgffhjcnfjgpnaaDoorLawBack
import Derived.Deep.DeepCutAuto
import Derived.Test.YtgffhjcnfjgpnaaDoorLink
namespace Go.Proofs.YtgffhjcnfjgpnaaDoor
open Go.RowKit

def badB (x : Int) : Bool := decide (128 ≤ x) || x == 36 || x == 34 || x == 37 || x == 38 || x == 39 || x == 46 || x == 62 || x == 63 || x == 64 || x == 91 || x == 92 || x == 93 || x == 94 || x == 96 || x == 124 || x == 126 || decide (x < 9) || x == 11 || x == 12 || (decide (13 < x) && decide (x < 32)) || x == 127
def okHead : List UInt8 → Bool
  | a :: _ => !badB (a.toNat : Int)
  | [] => false
theorem ok_heads : ∀ k, k < 16 → okHead (sgn k) = true := by decide
theorem bad_none (c : UInt8) (r : List UInt8) (h : badB (c.toNat : Int) = true) : firstF (c :: r) = none ∧ sepB c = false := by
  have hs : sepB c = false := by
    rw [Bool.eq_false_iff]; intro h2
    simp [sepB] at h2
    simp [badB] at h
    omega
  refine ⟨firstF_none _ fun j hj => ?_, hs⟩
  match j, hj with
  | 0, _ =>
    simp only [begF, headIn]
    rw [Bool.eq_false_iff]; intro h2
    simp [Lx.inB, Lx.digs] at h2
    simp [badB] at h
    omega
  | 1, _ =>
    simp only [begF, headIn]
    rw [Bool.eq_false_iff]; intro h2
    simp [Lx.inB, Lx.lets] at h2
    simp [badB] at h
    omega
  | k + 2, hj =>
    simp only [begF]
    rw [Bool.eq_false_iff]; intro h2
    have h3 := ok_heads k (by omega)
    cases hs : sgn k with
    | nil => rw [hs] at h3; cases h3
    | cons a d =>
      rw [hs] at h3 h2
      simp only [Lx.preB, List.isPrefixOf, Bool.and_eq_true, beq_iff_eq] at h2
      rw [okHead, h2.1, h] at h3
      cases h3
theorem lex_bad {L : List UInt8} {ws : List Lx.Tk} (h : Lexes 0 L ws none) (c : UInt8) (M : List UInt8) (hc : badB (c.toNat : Int) = true) : Lexes 0 (L ++ 10 :: c :: M) ws (some (L.length + 1)) := by
  obtain ⟨h1, h2⟩ := bad_none c M hc
  have hk := sk_head M h2
  have he := Lexes.err (L.length + 1) (c :: M) (by rw [hk]; simp) (by rw [hk]; exact h1)
  rw [hk] at he
  have := (h.joins (c :: M)).1 rfl [] _ (by simpa using he)
  simpa using this
theorem Bs.bytesS (w : World) (s : ByteArray) : Bs (Lib.bytesWorld w 5 s) (.slice (some ⟨w.heap.size, 0, none⟩) s.size (grownCap w s.size 0 5)) s.data.toList := by
  have e : s = ba s.data.toList := by simp [ba]
  have h := Bs.bytes w s.data.toList s.size (by rw [← e])
  rw [← e] at h
  exact h

theorem ba_four (L M : List UInt8) (c : UInt8) : ba L ++ ⟨#[10]⟩ ++ ba [c] ++ ba M = ba (L ++ 10 :: c :: M) := by
  apply ByteArray.ext
  apply Array.toList_inj.1
  simp [ba]
theorem bs_four (w : World) (l : List UInt8) (o : Obj) (n : Nat) (hn : n = (ba l).size) : Bs (Lib.bytesWorld (w.alloc o) 5 (ba l)) (.slice (some ⟨w.heap.size + 1, 0, none⟩) n (grownCap (w.alloc o) n 0 5)) l := by
  have := Bs.bytes (w.alloc o) l n hn
  simpa using this
theorem conv_oneB (c : UInt8) (y : Int) (hy : (c.toNat : Int) = y) (w : World) : (convert 22 9 (.slice (some ⟨w.heap.size, 0, none⟩) 1 1)).run Tryd.prog (w.alloc (.cells #[.int .u8 y] 5)) = .ok (.string (ba [c])) (w.alloc (.cells #[.int .u8 y] 5)) :=
  conv_bs (Bs.lit w [c] #[.int .u8 y] (0, 0) (n := 1) rfl rfl (by subst hy; rfl))
set_option maxRecDepth 100000 in
set_option maxHeartbeats 40000000 in
theorem lexfirst_any (v : Value) (l : List UInt8) (x : Int) (u : Value) (m : List UInt8) (w : World) (hb : Bs w v l) (hbm : Bs w u m) (hG : Good w) (hl : l.length ≤ 140737488351232) (hx : 0 ≤ x ∧ x ≤ 255) (hm : m.length ≤ 140737488351232) :
    Calls Tryd.prog 5 #[v, .int .u8 x, u] w (Yes w) := by
  have hb0 := hb
  have hm0 := hbm
  obtain ⟨A, c, rfl, hlc, hcell⟩ := hb
  obtain ⟨Am, cm, rfl, hlcm, hcellm⟩ := hbm
  clear hcell hcellm
  have hmn := min_len l 2000
  have hmm := min_len m 200
  have hb1 := hb0.cut 2000
  have hm1 := hm0.cut 200
  have hL : (l.take 2000).length ≤ 2000 := by rw [List.length_take]; omega
  have hLc : (l.take 2000).length ≤ c := by rw [List.length_take]; omega
  have hM : (m.take 200).length ≤ 200 := by rw [List.length_take]; omega
  have hMc : (m.take 200).length ≤ cm := by rw [List.length_take]; omega
  generalize l.take 2000 = L at hmn hb1 hL hLc
  generalize m.take 200 = M at hmm hm1 hM hMc
  have HM := Lib.hid hmn
  have HMM := Lib.hid hmm
  clear hmn hmm hb0 hm0
  have hl0 : (0:Int) ≤ (l.length : Int) := by omega
  have hm0 : (0:Int) ≤ (m.length : Int) := by omega
  obtain ⟨hx0, hx1⟩ := hx
  have hcv := conv_sb
  go_enter Tryd.func5, Tryd.ntmps5
  go_wp2_with fail
  refine (shown_any _ hG).mono ?_
  rintro e w1 ⟨rfl, hB1⟩
  have hG1 := hG.later hB1
  have hs1 := hB1.size
  go_upto_region 4 with (fail)
  rw [show ((2000 : Int)) = ((2000 : Nat) : Int) from rfl, HM.out, show ((200 : Int)) = ((200 : Nat) : Int) from rfl, HMM.out]
  go_wp2_with fail
  refine (lex_any _ L _ (hb1.later hB1) hG1 (by omega)).mono ?_
  rintro e w2 ⟨v2, rfl, hown2, hB2⟩
  have hs2 := hB2.size
  go_upto_region 5 with (fail)
  go_cut [11] from 33 (fun s11 wx => s11 = .bool (badB x) ∧ wx = w2)
  case first =>
    clear hown2 hb1 hm1 hG hG1 hB1 hB2
    refine wp_region_lit ?_
    refine link0 x 128 _ .geq 33 164 (cmp_geq _ x 128) rfl rfl rfl rfl rfl rfl rfl rfl rfl rfl (by decide) (by decide) rfl ?_
    intro u1 u2 s0 a0 hs0 ha0 hn hx1 hb1
    refine link4 x 36 _ _ .eql 2 35 164 (cmp_eql _ x 36) rfl rfl rfl rfl rfl rfl rfl rfl rfl rfl rfl rfl rfl hn (by decide) (by decide) hx1 hb1 ?_
    clear hn hx1 hb1
    intro u1 u2 s1 a1 hs1 ha1 hn hx1 hb1
    refine link4 x 34 _ _ .eql 6 39 164 (cmp_eql _ x 34) rfl rfl rfl rfl rfl rfl rfl rfl rfl rfl rfl rfl rfl hn (by decide) (by decide) hx1 hb1 ?_
    clear hn hx1 hb1
    intro u1 u2 s2 a2 hs2 ha2 hn hx1 hb1
    refine link4 x 37 _ _ .eql 10 43 164 (cmp_eql _ x 37) rfl rfl rfl rfl rfl rfl rfl rfl rfl rfl rfl rfl rfl hn (by decide) (by decide) hx1 hb1 ?_
    clear hn hx1 hb1
    intro u1 u2 s3 a3 hs3 ha3 hn hx1 hb1
    refine link4 x 38 _ _ .eql 14 47 164 (cmp_eql _ x 38) rfl rfl rfl rfl rfl rfl rfl rfl rfl rfl rfl rfl rfl hn (by decide) (by decide) hx1 hb1 ?_
    clear hn hx1 hb1
    intro u1 u2 s4 a4 hs4 ha4 hn hx1 hb1
    refine link4 x 39 _ _ .eql 18 51 164 (cmp_eql _ x 39) rfl rfl rfl rfl rfl rfl rfl rfl rfl rfl rfl rfl rfl hn (by decide) (by decide) hx1 hb1 ?_
    clear hn hx1 hb1
    intro u1 u2 s5 a5 hs5 ha5 hn hx1 hb1
    refine link4 x 46 _ _ .eql 22 55 164 (cmp_eql _ x 46) rfl rfl rfl rfl rfl rfl rfl rfl rfl rfl rfl rfl rfl hn (by decide) (by decide) hx1 hb1 ?_
    clear hn hx1 hb1
    intro u1 u2 s6 a6 hs6 ha6 hn hx1 hb1
    refine link4 x 62 _ _ .eql 26 59 164 (cmp_eql _ x 62) rfl rfl rfl rfl rfl rfl rfl rfl rfl rfl rfl rfl rfl hn (by decide) (by decide) hx1 hb1 ?_
    clear hn hx1 hb1
    intro u1 u2 s7 a7 hs7 ha7 hn hx1 hb1
    refine link4 x 63 _ _ .eql 30 63 164 (cmp_eql _ x 63) rfl rfl rfl rfl rfl rfl rfl rfl rfl rfl rfl rfl rfl hn (by decide) (by decide) hx1 hb1 ?_
    clear hn hx1 hb1
    intro u1 u2 s8 a8 hs8 ha8 hn hx1 hb1
    refine link4 x 64 _ _ .eql 34 67 164 (cmp_eql _ x 64) rfl rfl rfl rfl rfl rfl rfl rfl rfl rfl rfl rfl rfl hn (by decide) (by decide) hx1 hb1 ?_
    clear hn hx1 hb1
    intro u1 u2 s9 a9 hs9 ha9 hn hx1 hb1
    refine link4 x 91 _ _ .eql 38 71 164 (cmp_eql _ x 91) rfl rfl rfl rfl rfl rfl rfl rfl rfl rfl rfl rfl rfl hn (by decide) (by decide) hx1 hb1 ?_
    clear hn hx1 hb1
    intro u1 u2 s10 a10 hs10 ha10 hn hx1 hb1
    refine link4 x 92 _ _ .eql 42 75 164 (cmp_eql _ x 92) rfl rfl rfl rfl rfl rfl rfl rfl rfl rfl rfl rfl rfl hn (by decide) (by decide) hx1 hb1 ?_
    clear hn hx1 hb1
    intro u1 u2 s11 a11 hs11 ha11 hn hx1 hb1
    refine link4 x 93 _ _ .eql 46 79 164 (cmp_eql _ x 93) rfl rfl rfl rfl rfl rfl rfl rfl rfl rfl rfl rfl rfl hn (by decide) (by decide) hx1 hb1 ?_
    clear hn hx1 hb1
    intro u1 u2 s12 a12 hs12 ha12 hn hx1 hb1
    refine link4 x 94 _ _ .eql 50 83 164 (cmp_eql _ x 94) rfl rfl rfl rfl rfl rfl rfl rfl rfl rfl rfl rfl rfl hn (by decide) (by decide) hx1 hb1 ?_
    clear hn hx1 hb1
    intro u1 u2 s13 a13 hs13 ha13 hn hx1 hb1
    refine link4 x 96 _ _ .eql 54 87 164 (cmp_eql _ x 96) rfl rfl rfl rfl rfl rfl rfl rfl rfl rfl rfl rfl rfl hn (by decide) (by decide) hx1 hb1 ?_
    clear hn hx1 hb1
    intro u1 u2 s14 a14 hs14 ha14 hn hx1 hb1
    refine link4 x 124 _ _ .eql 58 91 164 (cmp_eql _ x 124) rfl rfl rfl rfl rfl rfl rfl rfl rfl rfl rfl rfl rfl hn (by decide) (by decide) hx1 hb1 ?_
    clear hn hx1 hb1
    intro u1 u2 s15 a15 hs15 ha15 hn hx1 hb1
    refine link4 x 126 _ _ .eql 62 95 164 (cmp_eql _ x 126) rfl rfl rfl rfl rfl rfl rfl rfl rfl rfl rfl rfl rfl hn (by decide) (by decide) hx1 hb1 ?_
    clear hn hx1 hb1
    intro u1 u2 s16 a16 hs16 ha16 hn hx1 hb1
    refine link4 x 9 _ _ .lss 66 99 164 (cmp_lss _ x 9) rfl rfl rfl rfl rfl rfl rfl rfl rfl rfl rfl rfl rfl hn (by decide) (by decide) hx1 hb1 ?_
    clear hn hx1 hb1
    intro u1 u2 s17 a17 hs17 ha17 hn hx1 hb1
    refine link4 x 11 _ _ .eql 70 103 164 (cmp_eql _ x 11) rfl rfl rfl rfl rfl rfl rfl rfl rfl rfl rfl rfl rfl hn (by decide) (by decide) hx1 hb1 ?_
    clear hn hx1 hb1
    intro u1 u2 s18 a18 hs18 ha18 hn hx1 hb1
    refine link4 x 12 _ _ .eql 74 107 164 (cmp_eql _ x 12) rfl rfl rfl rfl rfl rfl rfl rfl rfl rfl rfl rfl rfl hn (by decide) (by decide) hx1 hb1 ?_
    clear hn hx1 hb1
    intro u1 u2 s19 a19 hs19 ha19 hn hx1 hb1
    refine link8 x 13 32 _ _ _ .gtr .lss 78 81 111 164 (cmp_gtr _ x 13) (cmp_lss _ x 32) rfl rfl rfl rfl rfl rfl rfl rfl rfl rfl rfl rfl rfl rfl rfl rfl rfl rfl rfl rfl rfl rfl rfl rfl rfl rfl hn (by decide) (by decide) hx1 hb1 ?_
    clear hn hx1 hb1
    intro u1 u2 u3 u4 u5 u6 s20 a20 hs20 ha20 hn hx1 hb1
    refine link3 x 127 _ _ .eql 86 119 164 (cmp_eql _ x 127) rfl rfl rfl rfl rfl rfl rfl rfl rfl rfl hn (by decide) (by decide) hx1 hb1 ?_
    clear hn hx1 hb1
    intro u1 u2 s hs
    have hbad : s = badB x := by rw [hs, hs20, hs19, hs18, hs17, hs16, hs15, hs14, hs13, hs12, hs11, hs10, hs9, hs8, hs7, hs6, hs5, hs4, hs3, hs2, hs1, hs0]; rfl
    clear hs hs0 hs1 hs2 hs3 hs4 hs5 hs6 hs7 hs8 hs9 hs10 hs11 hs12 hs13 hs14 hs15 hs16 hs17 hs18 hs19 hs20
    subst ha20 ha19 ha18 ha17 ha16 ha15 ha14 ha13 ha12 ha11 ha10 ha9 ha8 ha7 ha6 ha5 ha4 ha3 ha2 ha1 ha0
    go_wp2_with fail
    go_meet
    exact ⟨rfl, rfl⟩
  case rest =>
    obtain ⟨rfl, rfl⟩ := hcut
    obtain ⟨cU, rfl⟩ : ∃ cU : UInt8, (cU.toNat : Int) = x := ⟨UInt8.ofNat x.toNat, by simp; omega⟩
    rcases lexR_cases L (by omega) with ⟨ws, hr, hw⟩ | ⟨ws, p, hr, hw⟩
    · rw [hr] at hown2 ⊢
      obtain ⟨A2, c2, hv2, _⟩ := Ts.own hown2
      subst hv2
      clear hown2
      rcases hbb : badB (cU.toNat : Int) with _ | _
      · go_wp2
        go_ret
        exact ⟨rfl, hB1.trans (hB2.mono hs1)⟩
      · have hG2 := hG1.later hB2
        have hbL := (hb1.later hB1).later hB2
        have hbM := (hm1.later hB1).later hB2
        have hcL := conv_bs hbL
        have hcM := fun o => conv_bs (hbM.later ((Below.refl _ _).alloc (Nat.le_refl _) o))
        have hcC := conv_oneB cU _ rfl wc
        have hsL := ba_size L
        have hsM := ba_size M
        have hsLl : (ba L).size ≤ 2000 := by omega
        have hsMl : (ba M).size ≤ 200 := by omega
        have hlex := lexR_err (by simp; omega) (lex_bad hw cU M hbb)
        have hsC : (ba [cU]).size ≤ 1 := by rw [ba_size]; simp
        have heq := ba_four L M cU
        have hbs := fun n hn => bs_four wc (L ++ 10 :: cU :: M) (.cells #[.int .u8 (cU.toNat : Int)] 5) n hn
        have hn4 : (ba L).size + 1 + (ba [cU]).size + (ba M).size = (ba (L ++ 10 :: cU :: M)).size := by rw [ba_size, ba_size, ba_size, ba_size]; simp; omega
        have hBW : Below wc.heap.size wc (Lib.bytesWorld (wc.alloc (.cells #[.int .u8 (cU.toNat : Int)] 5)) 5 (ba (L ++ 10 :: cU :: M))) := ((Below.refl _ _).alloc (Nat.le_refl _) _).trans ((Lib.bytesWorld_below _ 5 _).mono (by simp))
        have hsW := hBW.size
        have HN := Lib.hid hn4
        have HE := Lib.hid heq
        have HX := Lib.hid hlex
        have HB := Lib.hid hbs
        clear hsL hsM hbb hlex hbs heq hn4 hb1 hm1 hbL hbM
        go_wp2_with fail
        rw [HE.out]
        refine (lex_any _ (L ++ 10 :: cU :: M) _ (HB.out _ HN.out) (hG2.later hBW) (by simp; omega)).mono ?_
        rintro e w3 ⟨v3, rfl, hown3, hB3⟩
        have hcast : ((L.length + 1 : Nat) : Int) = (L.length : Int) + 1 := by omega
        rw [HX.out] at hown3 ⊢
        rw [hcast]
        obtain ⟨A3, c3, rfl⟩ := (Ts.own hown3).nil_of
        clear hown3
        go_wp2
        go_ret
        exact ⟨rfl, ((hB1.trans (hB2.mono hs1)).trans (hBW.mono (by omega))).trans (hB3.mono (by omega))⟩
    · rw [hr] at hown2 ⊢
      obtain ⟨A2, c2, rfl⟩ := (Ts.own hown2).nil_of
      clear hown2
      go_wp2
      go_ret
      exact ⟨rfl, hB1.trans (hB2.mono hs1)⟩
end Go.Proofs.YtgffhjcnfjgpnaaDoor
