/- A unifier goes on with what is said of variables, where of types nothing was said before. -/
import Derived.Test.YtpbhndmfmnfeoaaGreatMg35
import Derived.Test.YtpbhndmfmnfeoaaGreatMg17
import Derived.Test.YtpbhndmfmnfeoaaGreatUnGp
import Derived.Test.YtpbhndmfmnfeoaaGreatMg21
import Derived.Deep.CutRange
import Derived.Outline
namespace Go.Proofs.YtpbhndmfmnfeoaaGreat.Ug
open Go.RowKit

set_option maxRecDepth 100000 in
set_option maxHeartbeats 8000000 in
theorem goOn_any (w : World) (bu : Nat) (A1 : Option Addr) (n1 c1 : Nat) (A2 : Option Addr) (n2 c2 : Nat) (nx : Int) (m m' : Nat) (T : Int → Option Ty) (R R2 : Int → Option (List Str × Int)) (nv : Value) (hu : Lies w bu 53 #[.slice A1 n1 c1, .slice A2 n2 c2, .int .i64 nx])
    (hs : SubV (blank (fun b => b = bu) w) (.agg #[.slice A1 n1 c1, .slice A2 n2 c2]) m T0 R) (hn : SubV (blank (fun b => b = bu) w) nv m' T R2) (hm : m ≤ 1000) (hm' : m' ≤ 1000) (hcl : ∀ n r, i64ok n → R n = some r → insR R2 r.2 = none) (hsz : ∀ k t, T k = some t → t.size ≤ 200) :
    Calls Tryz.prog 49 #[.pointer (some ⟨bu, 0, none⟩), nv] w fun e w' => e = .returned (.int .i64 0) ∧ ∃ A5 n5 c5 A6 n6 c6, Lies w' bu 53 #[.slice A5 n5 c5, .slice A6 n6 c6, .int .i64 nx] ∧
      SubV (blank (fun b => b = bu) w') (.agg #[.slice A5 n5 c5, .slice A6 n6 c6]) (m + m' + 1) T (thenF R R2) ∧ w.grownBy w' (some bu) := by
  obtain ⟨A3, n3, c3, A4, n4, c4, rfl⟩ := hn.shape
  obtain ⟨W, hW⟩ : ∃ W, W = w.alloc (.cells #[.slice A3 n3 c3, .slice A4 n4 c4] 34) := ⟨_, rfl⟩
  have hb : Below w.heap.size w W := by rw [hW]; exact below_new w _
  have k0 : Lies W w.heap.size 34 #[.slice A3 n3 c3, .slice A4 n4 c4] := by rw [hW]; exact Lies.new _ _ _
  have HC := Lib.hid (anyLarge_any W _ m' T R2 (hn.keepL (blank_self hb)) (by omega) hsz)
  have HW := Lib.hid hW
  have HB := Lib.hid hb
  have HU := Lib.hid hu
  have hbu : bu < w.heap.size := hu.lt
  have HK0 := Lib.hid k0
  have hct : ∀ (K : Nat) (hK : w.heap.size ≤ K) (X : World) (hx : Below w.heap.size w X), _ := fun K hK X hx => then_any (fun b => b = bu ∨ b = K) T X _ _ m m' R R2 (hs.keepL (blank_two hK hx)) (hn.keepL (blank_two hK hx)) (by omega) (by omega) hcl
  have HCT := Lib.hid hct
  have HSZ := Lib.hid hsz
  clear hW hb hu k0 hct hs hn hcl hsz
  go_enter Tryz.func49, Tryz.ntmps49
  go_wp2_with fail
  rw [← HW.out]
  refine HC.out.mono ?_
  rintro e w1 ⟨rfl, hb1⟩
  have hB1 := HB.out.trans (hb1.mono HB.out.size)
  have hk1 := HK0.out.later hb1
  have hu1 := HU.out.later hB1
  have HK := Lib.hid (show ∀ X : World, Below w1.heap.size w1 X → (X.cell? ⟨bu, 0, none⟩ = some (.slice A1 n1 c1) ∧ X.cell? ⟨bu, 1, none⟩ = some (.slice A2 n2 c2)) ∧ X.cell? ⟨w.heap.size, 0, none⟩ = some (.slice A3 n3 c3) ∧ X.cell? ⟨w.heap.size, 1, none⟩ = some (.slice A4 n4 c4) from
    fun X hx => ⟨⟨(hu1.later hx).cell 0, (hu1.later hx).cell 1⟩, (hk1.later hx).cell 0, (hk1.later hx).cell 1⟩)
  have HB1 := Lib.hid hB1
  have HU1 := Lib.hid hu1
  clear hB1 hk1 hu1 hb1 HC
  go_upto_region 3 with fail
  go_cut [5] from 8 to 13 (fun p wx => ∃ (g : Nat) (A5 : Option Addr) (n5 c5 : Nat) (A6 : Option Addr) (n6 c6 : Nat), p = .pointer (some ⟨g, 0, none⟩) ∧ w.heap.size ≤ g ∧ Lies wx g 34 #[.slice A5 n5 c5, .slice A6 n6 c6] ∧
    (∀ wf, Kept (fun b => b = bu ∨ b = g) wx wf → SubV wf (.agg #[.slice A5 n5 c5, .slice A6 n6 c6]) (m + m' + 1) T (thenF R R2)) ∧ Below w1.heap.size w1 wx)
  case first =>
    go_region_held3 (fun X => (X.cell? ⟨bu, 0, none⟩ = some (.slice A1 n1 c1) ∧ X.cell? ⟨bu, 1, none⟩ = some (.slice A2 n2 c2)) ∧ X.cell? ⟨w.heap.size, 0, none⟩ = some (.slice A3 n3 c3) ∧ X.cell? ⟨w.heap.size, 1, none⟩ = some (.slice A4 n4 c4))
      (first | exact HK.out _ (Below.refl _ _).drew | exact HK.out _ ((Below.refl _ _).alloc (Nat.le_refl _) _).drew | exact HK.out _ hb3 | exact HK.out _ (hb3.alloc hb3.size _) | exact HK.out _ ((hb3.setCell (p := ⟨w1.heap.size, 0, none⟩) (Nat.le_refl _) _).setCell (p := ⟨w1.heap.size, 1, none⟩) (Nat.le_refl _) _))
      (first
        | (go_at_call 66; refine (HCT.out w1.heap.size HB1.out.size _ (HB1.out.trans ((Below.refl w1.heap.size w1).drew.mono HB1.out.size))).mono ?_; rintro e x3 ⟨A5, n5, c5, A6, n6, c6, rfl, hn5, hba⟩; have hb3 : Below w1.heap.size w1 x3 := (Below.refl _ _).drew.trans hba; have HN5 := Lib.hid hn5; clear hba hn5)
        | (go_at_call 66; refine (HCT.out w1.heap.size HB1.out.size _ (HB1.out.trans (((Below.refl w1.heap.size w1).alloc (Nat.le_refl _) _).drew.mono HB1.out.size))).mono ?_; rintro e x3 ⟨A5, n5, c5, A6, n6, c6, rfl, hn5, hba⟩; have hb3 : Below w1.heap.size w1 x3 := (((Below.refl w1.heap.size w1).alloc (Nat.le_refl _) _).drew).trans (hba.mono (by simp)); have nb : Lies x3 w1.heap.size _ _ := Lies.later (w := ((w1.alloc (.cells #[.slice none 0 0, .slice none 0 0] 34)).drew)) (Lies.new w1 _ _) hba; have q0 := nb.cell 0; have q1 := nb.cell 1; have f0 := nb.free 0; have f1 := nb.free 1; have l2 := nb.lt; have HN5 := Lib.hid hn5; clear hba hn5))
    · go_wp2_with fail
      go_meet
      have hw1 := HB1.out.size
      refine ⟨x3.heap.size, A5, n5, c5, A6, n6, c6, rfl, by have := hb3.size; omega, Lies.new x3 _ _, fun wf hkf => HN5.out wf ⟨?_, fun b hb hn => ?_⟩, hb3.alloc hb3.size _⟩
      · have := hkf.1; simp at this; omega
      · exact (hkf.2 b (by simp; omega) (fun e => by rcases e with e | e; exact hn ⟨.inl e, by show b < w1.heap.size; omega⟩; omega)).trans (Below.heap_alloc x3 _ b hb)
    · go_wp2_with fail
      go_meet
      have hw1 := HB1.out.size
      obtain ⟨Z, hZ⟩ : ∃ Z, Z = (x3.setCell ⟨w1.heap.size, 0, none⟩ (.slice A5 n5 c5)).setCell ⟨w1.heap.size, 1, none⟩ (.slice A6 n6 c6) := ⟨_, rfl⟩
      rw [← hZ]
      have nz : Lies Z w1.heap.size 34 #[.slice A5 n5 c5, .slice A6 n6 c6] := by rw [hZ]; exact (nb.set 0 _).set 1 _
      have hzz : Z.heap.size = x3.heap.size := by rw [hZ]; simp [World.setCell]
      have hfz : ∀ i, i ≠ w1.heap.size → Z.heap[i]? = x3.heap[i]? := fun i h1 => by
        rw [hZ]
        exact (Below.heap_setCell _ ⟨w1.heap.size, 1, none⟩ _ i h1).trans (Below.heap_setCell _ ⟨w1.heap.size, 0, none⟩ _ i h1)
      have hbz : Below w1.heap.size w1 Z := by
        rw [hZ]
        exact (hb3.setCell (p := ⟨w1.heap.size, 0, none⟩) (Nat.le_refl _) _).setCell (p := ⟨w1.heap.size, 1, none⟩) (Nat.le_refl _) _
      refine ⟨w1.heap.size, A5, n5, c5, A6, n6, c6, rfl, hw1, nz, fun wf hkf => HN5.out wf ⟨?_, fun b hb hn => ?_⟩, hbz⟩
      · have := hkf.1; omega
      · exact (hkf.2 b (by omega) (fun e => by rcases e with e | e; exact hn ⟨.inl e, by show b < (w1.alloc _).heap.size; simp; omega⟩; exact hn ⟨.inr e, by show b < (w1.alloc _).heap.size; simp; omega⟩)).trans (hfz b (fun e => hn ⟨.inr e, by show b < (w1.alloc _).heap.size; simp; omega⟩))
  case rest =>
    obtain ⟨g, A5, n5, c5, A6, n6, c6, rfl, hg, hl, hsv, hbx⟩ := hcut
    obtain ⟨w4, rfl⟩ : ∃ w4, w4 = wc := ⟨_, rfl⟩
    have hB4 := HB1.out.trans (hbx.mono HB1.out.size)
    have HAL := Lib.hid (anyLarge_any w4 _ (m + m' + 1) T _ (hsv w4 ⟨Nat.le_refl _, fun _ _ _ => rfl⟩) (by omega) HSZ.out)
    have x0 := hl.cell 0
    have x1 := hl.cell 1
    have HL := Lib.hid hl
    have HSV := Lib.hid hsv
    have HB4 := Lib.hid hB4
    have HG := Lib.hid hg
    have HU4 := Lib.hid (HU1.out.later hbx)
    clear hl hsv hB4 hg hbx
    go_wp2_with fail
    refine HAL.out.mono ?_
    rintro e w5 ⟨rfl, hb5⟩
    have hl5 := HL.out.later hb5
    have hu5 := HU4.out.later hb5
    have y0 := hl5.cell 0
    have y1 := hl5.cell 1
    have z0 := hu5.cell 0
    have z1 := hu5.cell 1
    have f0 := hu5.free 0
    have f1 := hu5.free 1
    have lu := hu5.lt
    have HU5 := Lib.hid hu5
    have HB5 := Lib.hid hb5
    clear hl5 hu5 hb5 HAL x0 x1
    go_wp2_with fail
    go_ret
    have hb5 := HB5.out
    have hb45 := HB4.out.trans (hb5.mono HB4.out.size)
    have hfz : ∀ i, i ≠ bu → ((w5.setCell ⟨bu, 0, none⟩ (.slice A5 n5 c5)).setCell ⟨bu, 1, none⟩ (.slice A6 n6 c6)).heap[i]? = w5.heap[i]? := fun i h1 =>
      (Below.heap_setCell _ ⟨bu, 1, none⟩ _ i h1).trans (Below.heap_setCell _ ⟨bu, 0, none⟩ _ i h1)
    refine ⟨rfl, A5, n5, c5, A6, n6, c6, (HU5.out.set 0 _).set 1 _, HSV.out _ ⟨?_, fun b hb hn => ?_⟩, hb45.os, hb45.tape, hb45.output, ?_, fun k hk hne => ?_⟩
    · rw [blank_size]; simp [World.setCell]; exact hb5.size
    · rw [blank_at (X := fun b => b = bu) (fun e => hn (.inl e)), hfz b (fun e => hn (.inl e))]
      exact hb5.block b hb
    · simp [World.setCell]; exact hb45.size
    · rw [hfz k (fun e => hne (by rw [e]))]
      exact hb45.block k hk
end Go.Proofs.YtpbhndmfmnfeoaaGreat.Ug

/- The variables of types that have none; a type variable is to be such a type. -/
namespace Go.Proofs.YtpbhndmfmnfeoaaGreat.Ug
open Go.RowKit Si

set_option maxRecDepth 100000 in
set_option maxHeartbeats 8000000 in
theorem gatherG_any (w0 : World) (bs b1 b2 bg : Nat) (hbs : w0.heap.size ≤ bs) (hbg : w0.heap.size ≤ bg) (hne : bg ≠ bs) : ∀ (N : Nat) (a : Addr) (t : Ty), TF w0 a t → gr t → t.size ≤ N → N ≤ 1000 → ∀ (W : World) (M : List Addr), Sn W bs M → Lies W bg 121 (gU bs b1 b2 (.slice none 0 0)) → Below w0.heap.size w0 W →
    Calls Tryz.prog 70 #[.pointer (some ⟨bg, 0, none⟩), .pointer (some a)] W fun e W' => e = .returned (.tuple #[]) ∧ ∃ M', Sn W' bs M' ∧ Lies W' bg 121 (gU bs b1 b2 (.slice none 0 0)) ∧ Below w0.heap.size w0 W' ∧ Bt bs W W'
  | 0, _, t, _, _, h, _ => by have := Ty.size_pos t; omega
  | N + 1, a, t, h, hg, hs, hN => by
    intro W M hsn hl hB
    have ih := gatherG_any w0 bs b1 b2 bg hbs hbg hne N
    cases h with
    | mk _ k nm v kids ls rv kv lv h0 hat hr hk hls hok hks =>
    obtain ⟨b, o, sp⟩ := a
    have hsp : sp = none := h0
    subst hsp
    rw [gr] at hg
    obtain ⟨⟨hk7, rfl, _⟩, hgl⟩ := hg
    obtain ⟨A, q, rfl, hq, hqg⟩ := hk.slr.form
    have hkz : ∀ (j : Nat) t, kids[j]? = some t → t.size ≤ N := fun j t ht => by
      have h1 := sizeL_stepG kids j t ht
      have h2 := sizeL_leG kids (j + 1)
      simp only [Ty.size] at hs
      omega
    have hnk : kids.length ≤ 1000 := by have := sizeL_lenS kids; simp only [Ty.size] at hs; omega
    have hf := first_any W bs M ⟨b, o, none⟩ hsn (hat.keep (hB.block _ hat.lt))
    have c0 : W.cell? ⟨bg, 0, none⟩ = some (.map (some bs)) := hl.cell 0
    obtain ⟨n, hn⟩ : ∃ n, n = kids.length := ⟨_, rfl⟩
    rw [← hn] at hk hq hqg hr hnk
    have HF := Lib.hid hf
    have HL := Lib.hid hl
    have HB := Lib.hid hB
    have HLT := Lib.hid (show b < w0.heap.size from hat.lt)
    have HR0 := Lib.hid hr
    have HKS := Lib.hid hks
    have HQ := Lib.hid hqg
    have HN := Lib.hid hn
    have HKZ := Lib.hid hkz
    have HGL := Lib.hid (fun (j : Nat) (t : Ty) (h : kids[j]? = some t) => grL_mem hgl t (List.mem_of_getElem? h))
    have IH := Lib.hid ih
    have HBS := Lib.hid (And.intro hbs (And.intro hbg hne))
    have hk7b : (k == 7) = false := by simpa using hk7
    clear hf hl hB hat hr hks hqg hn hkz hgl ih hs hk hls hok hsn hk7 hbs hbg hne h0
    go_enter Tryz.func70, Tryz.ntmps70
    go_wp2_with fail
    refine HF.out.mono ?_
    rintro e W1 ⟨rfl, hsn1, hbt⟩
    have hb1 : Below w0.heap.size w0 W1 := HB.out.trans (hbt.below HBS.out.1 HB.out.size)
    have hl1 : Lies W1 bg 121 (gU bs b1 b2 (.slice none 0 0)) := (hbt.block _ HL.out.lt HBS.out.2.2).trans HL.out
    have HSN1 := Lib.hid hsn1
    have HB1 := Lib.hid hb1
    have HL1 := Lib.hid hl1
    have HBT := Lib.hid hbt
    by_cases hmem : (⟨b, o, none⟩ : Addr) ∉ M
    case neg =>
      rw [decide_eq_false hmem]
      clear hmem hsn1 hbt hb1 hl1 HF
      go_wp2_with fail
      refine bodyPost_ret (results_none rfl _ _ _) rfl ?_
      exact ⟨rfl, _, HSN1.out, HL1.out, HB1.out, HBT.out⟩
    case pos =>
      rw [decide_eq_true hmem]
      have r0 : W1.cell? ⟨b, o, none⟩ = some (.int .i64 k) := (hb1.cell (p := ⟨b, o, none⟩) HLT.out).trans (HR0.out 0 _ rfl)
      have r3 : W1.cell? ⟨b, o + 3, none⟩ = some (.slice A n q) := (hb1.cell (p := ⟨b, o + 3, none⟩) HLT.out).trans (HR0.out 3 _ rfl)
      clear hmem hsn1 hbt hb1 hl1 HF
      go_wp2_with fail
      clear r0 r3
      go_loopw [30] (fun i wr => ∃ (j : Nat) (M' : List Addr), j ≤ n ∧ i = .int .i64 j ∧ Sn wr bs M' ∧ Lies wr bg 121 (gU bs b1 b2 (.slice none 0 0)) ∧ Below w0.heap.size w0 wr ∧ Bt bs W wr) (fun i _ => n - (intOf i).toNat)
      case atStart => exact ⟨0, _, Nat.zero_le _, rfl, HSN1.out, HL1.out, HB1.out, HBT.out⟩
      case round =>
        obtain ⟨j, M', hj, rfl, hsn, hl, hBw, hbt⟩ := hrel
        have HSN := Lib.hid hsn
        have HLJ := Lib.hid hl
        have HBJ := Lib.hid hBw
        have HTJ := Lib.hid hbt
        have r3j : wr.cell? ⟨b, o + 3, none⟩ = some (.slice A n q) := (hBw.cell (p := ⟨b, o + 3, none⟩) HLT.out).trans (HR0.out 3 _ rfl)
        clear hsn hl hBw hbt
        by_cases hlt : j < n
        · obtain ⟨t, ht⟩ : ∃ t, kids[j]? = some t := ⟨_, List.getElem?_eq_getElem (by have := HN.out; omega)⟩
          obtain ⟨g5, o5, rfl⟩ := HQ.out (by omega)
          have hjq : j < q := by omega
          have hji : (j : Int) < (n : Int) := by omega
          have hcall := IH.out ⟨g5, o5 + j * 6, none⟩ t (HKS.out j t ht) (HGL.out j t ht) (HKZ.out j t ht) (by omega) wr M' HSN.out HLJ.out HBJ.out
          have HC := Lib.hid hcall
          clear hcall ht
          go_wp2_with fail
          refine HC.out.mono ?_
          rintro e W5 ⟨rfl, M5, hs5, hl5, hb5, ht5⟩
          have HS5 := Lib.hid hs5
          have HL5 := Lib.hid hl5
          have HB5 := Lib.hid hb5
          have HT5 := Lib.hid (HTJ.out.trans ht5)
          have s5 : W5.cell? ⟨b, o + 5, none⟩ = some (.int .i64 0) := (hb5.cell (p := ⟨b, o + 5, none⟩) HLT.out).trans (HR0.out 5 _ rfl)
          clear hs5 hl5 hb5 ht5
          by_cases hj0 : j = 0
          · subst hj0
            go_wp2_with fail
            go_roundw
            case rel => exact ⟨1, M5, by omega, by simp, HS5.out, HL5.out, HB5.out, HT5.out⟩
            case measure => (simp [intOf] <;> omega)
          · have hj0i : ¬ (j : Int) = 0 := by omega
            go_wp2_with fail
            go_roundw
            case rel => exact ⟨j + 1, M5, by omega, by simp, HS5.out, HL5.out, HB5.out, HT5.out⟩
            case measure => (simp [intOf] <;> omega)
        · obtain rfl : j = n := by omega
          go_wp2_with fail
          go_end0
          exact ⟨rfl, M', HSN.out, HLJ.out, HBJ.out, HTJ.out⟩
set_option maxRecDepth 100000 in
set_option maxHeartbeats 8000000 in
theorem varsG_any (w : World) (t : Ty) (l : List Value) (ht : TFV w t l) (hg : gr t) (hsz : t.size ≤ 1000) :
    Calls Tryz.prog 54 #[.agg l.toArray] w fun e w' => e = .returned (.tuple #[.slice none 0 0, .slice none 0 0]) ∧ Below w.heap.size w w' := by
  obtain ⟨k1, nm1, v1, A1, n1, c1, B1, m1, d1, rv1, rfl⟩ := ht.trv.form
  obtain ⟨w0, hw0⟩ : ∃ w0, w0 = w.alloc (.cells #[.int .i64 k1, .string (ba nm1), .int .i64 v1, .slice A1 n1 c1, .slice B1 m1 d1, .int .i64 rv1] 44) := ⟨_, rfl⟩
  have hb0 : Below w.heap.size w w0 := by rw [hw0]; exact below_new w _
  have hs0 : w0.heap.size = w.heap.size + 1 := by rw [hw0]; simp
  have ht0 : Lies w0 w.heap.size 44 #[.int .i64 k1, .string (ba nm1), .int .i64 v1, .slice A1 n1 c1, .slice B1 m1 d1, .int .i64 rv1] := by rw [hw0]; exact Lies.new w _ _
  have htf : TF w0 ⟨w.heap.size, 0, none⟩ t := TFV.root (ht.later hb0) rfl ⟨_, _, ht0⟩ (reads_lies ht0)
  have HTF := Lib.hid htf
  have HGR := Lib.hid hg
  have HW := Lib.hid hw0
  have HS0 := Lib.hid hs0
  have HT0 := Lib.hid ht0
  have HB0 := Lib.hid hb0
  have hmm := @run_makeMap Tryz.prog
  clear hw0 hs0 ht0 hb0 htf ht hg
  go_enter Tryz.func54, Tryz.ntmps54
  go_wp2_with fail
  rw [← HW.out]
  obtain ⟨m1, hm1⟩ : ∃ m1, m1 = w0.alloc (.map #[] 0) := ⟨_, rfl⟩
  rw [← hm1]
  obtain ⟨m2, hm2⟩ : ∃ m2, m2 = m1.alloc (.map #[] 0) := ⟨_, rfl⟩
  rw [← hm2]
  obtain ⟨m3, hm3⟩ : ∃ m3, m3 = m2.alloc (.map #[] 0) := ⟨_, rfl⟩
  rw [← hm3]
  have z0 := HS0.out
  have z1 : m1.heap.size = w.heap.size + 2 := by rw [hm1, World.size_alloc, z0]
  have z2 : m2.heap.size = w.heap.size + 3 := by rw [hm2, World.size_alloc, z1]
  have z3 : m3.heap.size = w.heap.size + 4 := by rw [hm3, World.size_alloc, z2]
  have b1 : Below w0.heap.size w0 m1 := by rw [hm1]; exact below_new _ _
  have b2 : Below m1.heap.size m1 m2 := by rw [hm2]; exact below_new _ _
  have b3 : Below m2.heap.size m2 m3 := by rw [hm3]; exact below_new _ _
  obtain ⟨W, hW⟩ : ∃ W, W = m3.alloc (.cells (gU (w.heap.size + 1) (w.heap.size + 2) (w.heap.size + 3) (.slice none 0 0)) 121) := ⟨_, rfl⟩
  have b4 : Below m3.heap.size m3 W := by rw [hW]; exact below_new _ _
  have bW : Below w0.heap.size w0 W := ((b1.trans (b2.mono b1.size)).trans (b3.mono (by omega))).trans (b4.mono (by omega))
  have s1 : Sn W (w.heap.size + 1) [] := by
    have h := Sn.made w0
    rw [← hm1, z0] at h
    exact ((h.keep b2.block).keep b3.block).keep b4.block
  have lg : Lies W (w.heap.size + 4) 121 (gU (w.heap.size + 1) (w.heap.size + 2) (w.heap.size + 3) (.slice none 0 0)) := by rw [hW]; exact Lies.new' m3 _ _ z3
  have lt0 := HT0.out.later bW
  have hsW : W.heap.size = w.heap.size + 5 := by rw [hW, World.size_alloc, z3]
  have hcall := gatherG_any w0 (w.heap.size + 1) (w.heap.size + 2) (w.heap.size + 3) (w.heap.size + 4) (by omega) (by omega) (by omega) t.size _ t HTF.out HGR.out (Nat.le_refl _) hsz W [] s1 lg bW
  unfold gU at hW
  rw [← hW]
  have HBW := Lib.hid (HB0.out.trans (bW.mono HB0.out.size))
  have HWS := Lib.hid hsW
  refine hcall.mono ?_
  rintro e W1 ⟨rfl, _, _, hl5, hb5, hbt⟩
  have d2 : W1.cell? ⟨w.heap.size + 1 + 1 + 1 + 1, 2, none⟩ = some (.slice none 0 0) := hl5.cell 2
  have d4 : W1.cell? ⟨w.heap.size + 1 + 1 + 1 + 1, 4, none⟩ = some (.slice none 0 0) := hl5.cell 4
  have HB1 := Lib.hid (HBW.out.trans (hbt.below (by omega) (by have := HWS.out; omega)))
  clear hcall hl5 hb5 hbt hm1 hm2 hm3 hW b1 b2 b3 b4 bW s1 lg lt0 hsW z0 z1 z2 z3
  go_wp2
  go_quiet (fail)
  go_wp2
  go_ret2
  exact ⟨rfl, HB1.out.trans ((below_drewN _ _).mono HB1.out.size)⟩
set_option maxRecDepth 100000 in
set_option maxHeartbeats 8000000 in
theorem indexI0_any (w : World) (n : Int) :
    Calls Tryz.prog 71 #[.slice none 0 0, .int .i64 n] w fun e w' => e = .returned (.int .i64 (-1)) ∧ w' = w := by
  go_enter Tryz.func71, Tryz.ntmps71
  go_wp2
  refine wp_loop_rounds 1 ?_
  rw [rounds_succ]
  go_wp2
  go_ret
  exact ⟨rfl, rfl⟩
set_option maxRecDepth 100000 in
set_option maxHeartbeats 8000000 in
theorem containsI0_any (w : World) (n : Int) :
    Calls Tryz.prog 55 #[.slice none 0 0, .int .i64 n] w fun e w' => e = .returned (.bool false) ∧ w' = w := by
  have HX := Lib.hid (indexI0_any w n)
  go_enter Tryz.func55, Tryz.ntmps55
  go_wp2_with fail
  refine HX.out.mono ?_
  rintro e w1 ⟨rfl, rfl⟩
  go_wp2
  go_ret
  exact ⟨rfl, rfl⟩
end Go.Proofs.YtpbhndmfmnfeoaaGreat.Ug

/- A type variable is to be a type without variables. -/
namespace Go.Proofs.YtpbhndmfmnfeoaaGreat.Ug
open Go.RowKit Si

theorem setTB (BX : Nat → Prop) {w : World} (hBX : ∀ b, BX b → b < w.heap.size) {sv : Value} {m : Nat} {T : Int → Option Ty} {R : Int → Option (List Str × Int)} (hs : SubV (blank BX w) sv m T R) (hm : m ≤ 1000) (n : Int) (hn : i64ok n) (t : Ty) (l : List Value) (ht : TRV w t l) (hsz : t.size ≤ 1000) :
    Calls Tryz.prog 56 #[sv, .int .i64 n, .agg l.toArray] w fun e w' => ∃ A1 n1 c1 A2 n2 c2, e = .returned (.agg #[.slice A1 n1 c1, .slice A2 n2 c2]) ∧ SubV (blank BX w') (.agg #[.slice A1 n1 c1, .slice A2 n2 c2]) (m + 1) (setF T n t) R ∧ Below w.heap.size w w' := by
  refine (setType_any BX w sv m T R hs hm n hn t l ht hsz).mono ?_
  rintro e w' ⟨sv', rfl, h1, h2⟩
  have h3 := h1 _ (kept_blank BX w.heap.size w' hBX)
  obtain ⟨A1, n1, c1, A2, n2, c2, rfl⟩ := h3.shape
  exact ⟨_, _, _, _, _, _, rfl, h3, h2⟩
/-- A unifier in block bu, that has said T of types and R of rows; its next number. -/
def UnT (w : World) (bu m : Nat) (T : Int → Option Ty) (R : Int → Option (List Str × Int)) (nx : Int) : Prop :=
  ∃ A1 n1 c1 A2 n2 c2, Lies w bu 53 #[.slice A1 n1 c1, .slice A2 n2 c2, .int .i64 nx] ∧ SubV (blank (fun b => b = bu) w) (.agg #[.slice A1 n1 c1, .slice A2 n2 c2]) m T R
set_option maxRecDepth 100000 in
set_option maxHeartbeats 8000000 in
theorem beTypeG_any (w : World) (bu m : Nat) (nx : Int) (hu : UnV w bu m R0 nx) (hm : m ≤ 900) (n : Int) (hn : i64ok n) (t : Ty) (l : List Value) (ht : TFV w t l) (hg : gr t) (hsz : t.size ≤ 200) :
    Calls Tryz.prog 37 #[.pointer (some ⟨bu, 0, none⟩), .int .i64 n, .agg l.toArray] w fun e w' => e = .returned (.int .i64 0) ∧ UnT w' bu (m + 2) (setF T0 n t) R0 nx ∧ w.grownBy w' (some bu) := by
  have hbu := hu.lt
  obtain ⟨k1, nm1, v1, A1, n1, c1, B1, m1, d1, rv1, rfl⟩ := ht.trv.form
  obtain ⟨W, hW⟩ : ∃ W, W = w.alloc (.cells #[.int .i64 k1, .string (ba nm1), .int .i64 v1, .slice A1 n1 c1, .slice B1 m1 d1, .int .i64 rv1] 44) := ⟨_, rfl⟩
  have hb : Below w.heap.size w W := by rw [hW]; exact below_new w _
  have k0 : Lies W w.heap.size 44 #[.int .i64 k1, .string (ba nm1), .int .i64 v1, .slice A1 n1 c1, .slice B1 m1 d1, .int .i64 rv1] := by rw [hW]; exact Lies.new _ _ _
  have x0 := k0.cell 0
  have x1 := k0.cell 1
  have x2 := k0.cell 2
  have x3 := k0.cell 3
  have x4 := k0.cell 4
  have x5 := k0.cell 5
  have HC := Lib.hid (varsG_any W t _ (ht.later hb) hg (by omega))
  have HK := Lib.hid (show ∀ X : World, Below W.heap.size W X → X.cell? ⟨w.heap.size, 0, none⟩ = some (.int .i64 k1) ∧ X.cell? ⟨w.heap.size, 1, none⟩ = some (.string (ba nm1)) ∧ X.cell? ⟨w.heap.size, 2, none⟩ = some (.int .i64 v1) ∧ X.cell? ⟨w.heap.size, 3, none⟩ = some (.slice A1 n1 c1) ∧ X.cell? ⟨w.heap.size, 4, none⟩ = some (.slice B1 m1 d1) ∧ X.cell? ⟨w.heap.size, 5, none⟩ = some (.int .i64 rv1) from fun X hx => ⟨(k0.later hx).cell 0, (k0.later hx).cell 1, (k0.later hx).cell 2, (k0.later hx).cell 3, (k0.later hx).cell 4, (k0.later hx).cell 5⟩)
  have hc2 : ∀ X : World, Below W.heap.size W X → _ := fun X hx => setTB (fun b => b = bu) (w := X) (fun b e => by have := hx.size; have := hb.size; rw [e]; omega) (SubV.none (blank (fun b => b = bu) X) 0) (by omega) n hn t _ (ht.trv.later (hb.trans (hx.mono hb.size))) (by omega)
  have HW := Lib.hid hW
  have HB := Lib.hid hb
  have HU := Lib.hid hu
  have HC2 := Lib.hid hc2
  have HT := Lib.hid (show ∀ k u, setF T0 n t k = some u → u.size ≤ 200 from fun k u h => by
    unfold setF at h
    split at h
    · injection h with h; rw [← h]; exact hsz
    · cases h)
  clear hW hb hu k0 hc2 ht hg hsz hn
  unfold noneV at HC2
  go_enter Tryz.func37, Tryz.ntmps37
  go_wp2_with fail
  rw [← HW.out]
  go_wp2_with fail
  refine HC.out.mono ?_
  rintro e w1 ⟨rfl, hb1⟩
  have HB1 := Lib.hid hb1
  clear hb1 HC x0 x1 x2 x3 x4 x5
  go_wp2_with fail
  refine (containsI0_any w1 n).mono ?_
  rintro e w2 ⟨rfl, rfl⟩
  go_upto_region 4 with fail
  go_region_held3 (fun X => X.cell? ⟨w.heap.size, 0, none⟩ = some (.int .i64 k1) ∧ X.cell? ⟨w.heap.size, 1, none⟩ = some (.string (ba nm1)) ∧ X.cell? ⟨w.heap.size, 2, none⟩ = some (.int .i64 v1) ∧ X.cell? ⟨w.heap.size, 3, none⟩ = some (.slice A1 n1 c1) ∧ X.cell? ⟨w.heap.size, 4, none⟩ = some (.slice B1 m1 d1) ∧ X.cell? ⟨w.heap.size, 5, none⟩ = some (.int .i64 rv1))
    (first | exact HK.out _ HB1.out.drew | exact HK.out _ hb3 | exact HK.out _ hb4 | exact HK5.out)
    (first
      | (go_at_call 8; refine (none_any _).mono ?_; unfold noneV; rintro e x3 ⟨rfl, hba⟩; have hb3 : Below W.heap.size W x3 := HB1.out.drew.trans (hba.mono HB1.out.drew.size); clear hba)
      | (go_at_call 56; refine (HC2.out _ hb3).mono ?_; rintro e x4 ⟨A5, n5, c5, A6, n6, c6, rfl, hn5, hba⟩; have hb4 : Below W.heap.size W x4 := hb3.trans (hba.mono hb3.size); have HN5 := Lib.hid hn5; clear hba hn5)
      | (go_at_call 49
         obtain ⟨E1, f1, e1, E2, f2, e2, hl1, hs1⟩ := HU.out.later (HB.out.trans (hb4.mono HB.out.size))
         refine (goOn_any x4 bu E1 f1 e1 E2 f2 e2 nx m 1 (setF T0 n t) R0 R0 _ hl1 hs1 HN5.out (by omega) (by omega) (fun k r _ h => by cases h) HT.out).mono ?_
         rintro e x5 ⟨rfl, E3, f3, e3, E4, f4, e4, hl5, hs5, hg5⟩
         have HR5 := Lib.hid (show UnT x5 bu (m + 2) (setF T0 n t) R0 nx from ⟨_, _, _, _, _, _, hl5, hs5⟩)
         have HG5 := Lib.hid (below_grown (HB.out.trans (hb4.mono HB.out.size)) hg5)
         have hlt := hb4.size
         have hws := HB.out.size
         have HK5 := Lib.hid (show x5.cell? ⟨w.heap.size, 0, none⟩ = some (.int .i64 k1) ∧ x5.cell? ⟨w.heap.size, 1, none⟩ = some (.string (ba nm1)) ∧ x5.cell? ⟨w.heap.size, 2, none⟩ = some (.int .i64 v1) ∧ x5.cell? ⟨w.heap.size, 3, none⟩ = some (.slice A1 n1 c1) ∧ x5.cell? ⟨w.heap.size, 4, none⟩ = some (.slice B1 m1 d1) ∧ x5.cell? ⟨w.heap.size, 5, none⟩ = some (.int .i64 rv1) from by
           have hk := HK.out _ hb4
           have hlw : w.heap.size < x4.heap.size := World.block_lt_of_cell? x4 _ hk.1
           have hbk : x5.heap[w.heap.size]? = x4.heap[w.heap.size]? := hg5.block _ hlw (fun e => by have := Option.some.inj e; omega)
           obtain ⟨h0, h1, h2, h3, h4, h5⟩ := hk
           exact ⟨(World.cell?_of_block (a := ⟨w.heap.size, 0, none⟩) hbk).trans h0, (World.cell?_of_block (a := ⟨w.heap.size, 1, none⟩) hbk).trans h1, (World.cell?_of_block (a := ⟨w.heap.size, 2, none⟩) hbk).trans h2, (World.cell?_of_block (a := ⟨w.heap.size, 3, none⟩) hbk).trans h3, (World.cell?_of_block (a := ⟨w.heap.size, 4, none⟩) hbk).trans h4, (World.cell?_of_block (a := ⟨w.heap.size, 5, none⟩) hbk).trans h5⟩)
         clear hl1 hs1 hl5 hs5 hg5 hlt hws))
  go_wp2
  go_ret
  exact ⟨rfl, HR5.out, HG5.out⟩
end Go.Proofs.YtpbhndmfmnfeoaaGreat.Ug
