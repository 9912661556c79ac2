/- SourceNests: the innermost handler answers. -/
import Derived.Test.YtfkakmafedhgdaaGreatDoorMg06
import Derived.Test.YtfkakmafedhgdaaGreatDoorSoBg
import Derived.Test.YtfkakmafedhgdaaGreatDoorMg29
namespace Go.Proofs.YtfkakmafedhgdaaGreatDoor.K
open Go Go.RowKit
namespace So

theorem src_of {α : Type} {f : α → Value} {w : World} {v : Value} {xs : List α} (h : SrcV w v (xs.map f)) : ∃ A c, v = .slice A xs.length c ∧ xs.length ≤ c ∧ (0 < xs.length → ∃ ad, A = some ad ∧ ∀ (j : Nat) x, xs[j]? = some x → w.cell? (ad.add j) = some (f x)) := by
  rcases h with ⟨rfl, h0⟩ | ⟨ad, c, rfl, h1, h2⟩
  · obtain rfl : xs = [] := by simpa using h0
    exact ⟨_, 0, rfl, Nat.le_refl _, fun h => absurd h (by simp)⟩
  · rw [List.length_map] at h1 ⊢
    exact ⟨some ad, c, rfl, h1, fun _ => ⟨ad, rfl, fun j x hx => h2 j _ (by rw [List.getElem?_map, hx]; rfl)⟩⟩
theorem strs_at {X : Nat} {w : World} {g : Nat} (l : List Str) (hL : Lies w g 9 (l.map fun s => Value.string (ba s)).toArray) (hX : g ≠ X) (hl : l.length ≤ 1000) {n : Nat} (hn : n = l.length) : StrsH (memX X w) (.slice (some ⟨g, 0, none⟩) n n) l := by
  subst hn
  refine ⟨⟨_, _, rfl, Nat.le_refl _, by omega, fun _ => ⟨_, 0, rfl⟩⟩, fun i s hs => hcX hX ?_⟩
  show w.cell? ⟨g, 0 + i, none⟩ = _
  rw [Nat.zero_add, hL.cell]
  simp [hs]
theorem arm_bu (s : Str) (p n : Nat) {l : List Value} (h : l.length = 21) : ∃ A : List Value, A = Value.string (ba s) :: .slice (some ⟨p, 0, none⟩) n n :: l ∧ Tryz.prog.built 35 [(0, .string (ba s)), (1, .slice (some ⟨p, 0, none⟩) n n), (2, .agg l.toArray)] = some A.toArray :=
  ⟨_, rfl, bu_arm _ _ n n l h⟩
theorem arms_leaf {X p0 p3 : Nat} {V : World} {lx DC A1 A2 : List Value} {t : Tm} (hx : TA X V (varT [120]) lx) (hd : TA X V t DC) (h0 : Lies V p0 9 #[.string ⟨#[120]⟩]) (h3 : Lies V p3 9 #[.string ⟨#[117]⟩, .string ⟨#[107]⟩]) (n0 : p0 ≠ X) (n3 : p3 ≠ X) (nv : V.heap.size ≠ X)
    (e1 : A1 = Value.string (ba [114, 101, 116, 117, 114, 110]) :: .slice (some ⟨p0, 0, none⟩) 1 1 :: lx) (e2 : A2 = Value.string (ba [103, 101, 116]) :: .slice (some ⟨p3, 0, none⟩) 2 2 :: DC) :
    ∃ (EF : List Value) (V4 : World) (pa : Nat), V4 = V.alloc (.cells EF.toArray 35) ∧ pa = V.heap.size ∧ Instr.fill (fun i => some (i * 23, 23)) ((Array.range (2 * 23)).map ((Value.agg zA).cells[· % (Value.agg zA).cells.size]!)) [(0, Value.agg A1.toArray), (1, Value.agg A2.toArray)] = some EF.toArray ∧
      ArmsA (memX X V4) [([114, 101, 116, 117, 114, 110], [[120]], varT [120]), ([103, 101, 116], [[117], [107]], t)] (.slice (some ⟨pa, 0, none⟩) 2 2) :=
  ⟨[A1, A2].flatten, _, _, rfl, rfl, fill_arms2 A1 A2 (by rw [e1]; simp [hx.len]) (by rw [e2]; simp [hd.len]) _ (by simp), arms_two hx hd (strs_at [[120]] h0 n0 (by show 1 ≤ 1000; omega) rfl) (strs_at [[117], [107]] h3 n3 (by show 2 ≤ 1000; omega) rfl) nv (by rw [e1, e2]; rfl)⟩
theorem yields_build {P : Program} {o : Oper} {a : Act} (t : TypeId) (parts : Array (Nat × Operand)) (ho : o.op = .build t parts) {cells : Array Value} (hf : P.built t (parts.map fun (i, x) => (i, a.eval x)).toList = some cells) (w : World) : (execOp a.eval o).run P w = .ok (.value (.agg cells)) w := by
  unfold execOp
  simp only [ho, Sem.run_bind, run_build w t _ cells hf, Result.andThen_ok]
  rfl
theorem TA.kx {X : Nat} {w W : World} {t : Tm} {l : List Value} (h : TA X w t l) (hk : KX X w W) : TA X W t l := by
  have hle : MLe (memX X w) (memX X W) := fun b o hb => by
    unfold memX at hb ⊢
    by_cases hx : b = X
    · rw [if_pos hx] at hb; cases hb
    · rw [if_neg hx] at hb ⊢
      exact (hk.block b (Array.getElem?_eq_some_iff.1 hb).1 hx).trans hb
  obtain ⟨av, kv, rv, rest, h1, h2, h3, h4, h5⟩ := h
  exact ⟨av, kv, rv, rest, h1, h2, h3, h4.le hle, h5.le hle⟩
theorem bu_unit : Tryz.prog.built 33 [(0, .int .i64 4)] = some (So.tC 4 [] 0 nilS nilS).toArray := by kernel_rfl
theorem nests_call {X : Nat} {w : World} {xs : List Int} {bs : List Bool} {n : Nat} {C : List Value} (hta : TA X w (nestT askU (prs xs bs n n)) C) (hX : X < w.heap.size) (hn : 0 < n) (h10 : n ≤ 10) (hi : ∀ x ∈ xs, i64P x) :
    Calls Tryz.prog 9 #[.agg ([Value.slice none 0 0, Value.slice none 0 0] ++ C).toArray, .slice none 0 0, .int .i64 1500] w fun e w' => ∃ A m c st ko, e = .returned (.agg (runL 1 1 (wantL (prs xs bs n n) (0, true)).1 (.slice A m c) st ko)) ∧ Below w.heap.size w w' := by
  obtain ⟨f, hres, e1, e2, e3⟩ := law_nests xs bs n hn h10 hi
  have hrun : run 1500 (start (nestT askU (prs xs bs n n)) []) = f := hres.2
  refine (run_val w _ (.slice none 0 0) 1500 (by omega) (prog_tm hta hX) (in_nil _) hres.1 (k' := 1) (n' := (wantL (prs xs bs n n) (0, true)).1) (by rw [hrun]; exact ⟨e1, e2, e3⟩)).mono fun e w' h => ?_
  rw [hrun] at h
  obtain ⟨tv, rfl, hown, hb⟩ := h
  obtain ⟨A, m, c, rfl⟩ := own_slice hown
  exact ⟨A, m, c, _, _, by rw [e1], hb⟩
set_option maxRecDepth 100000 in
set_option maxHeartbeats 8000000 in
theorem sourceNests_any (v : Value) (xs : List Int) (u : Value) (bs : List Bool) (w : World) (hv : SrcV w v (xs.map (Value.int .i64 ·))) (hu : SrcV w u (bs.map (Value.bool ·))) (hG : Good w) (hl : xs.length ≤ 140737488351232) (hr : ∀ x ∈ xs, i64P x) (hbl : bs.length ≤ 140737488351232) :
    Calls Tryz.prog 6 #[v, u] w fun e w' => e = .returned (.bool true) ∧ Below w.heap.size w w' := by
  obtain ⟨ie, hie, hiz, his⟩ := info39
  obtain ⟨ia, hia, haz, has⟩ := info_armE
  obtain ⟨A, c, rfl, hlc, hcell⟩ := src_of hv
  obtain ⟨B, d, rfl, hld, hcellb⟩ := src_of hu
  obtain ⟨nn, hnn⟩ : ∃ n, n = min xs.length 10 := ⟨_, rfl⟩
  have hmin : min (xs.length : Int) 10 = (nn : Int) := by omega
  have hn10 : nn ≤ 10 := by omega
  have hnl : nn ≤ xs.length := by omega
  have HSH := Lib.hid (shown_any w hG)
  have HCELL := Lib.hid hcell
  have HCELLB := Lib.hid hcellb
  have HI64 := Lib.hid hr
  clear hv hu hcell hcellb hG hnn hr
  go_enter Tryz.func6, Tryz.ntmps6
  go_wp2_with fail
  refine HSH.out.mono ?_
  rintro e w1 ⟨rfl, hb1⟩
  by_cases hn0 : nn = 0
  · subst hn0
    have HB1 := Lib.hid hb1
    clear hb1
    go_wp2
    go_ret
    exact ⟨rfl, HB1.out⟩
  have hnz : ((nn : Int) == 0) = false := by rw [beq_eq_false_iff_ne]; omega
  have hnz2 : ¬ (nn : Int) = 0 := by omega
  obtain ⟨DU, hDU⟩ : ∃ D : List Value, D = So.tC 4 [] 0 nilS nilS := ⟨_, rfl⟩
  obtain ⟨EU, hEU⟩ : ∃ D : List Value, D = [DU].flatten := ⟨_, rfl⟩
  obtain ⟨DK, hDK⟩ : ∃ D : List Value, D = So.tC 13 [103, 101, 116] 0 (.slice (some ⟨w1.heap.size, 0, none⟩) 1 1) nilS := ⟨_, rfl⟩
  have HBUDU := Lib.hid (show Tryz.prog.built 33 [(0, .int .i64 4)] = some DU.toArray by rw [hDU]; exact bu_unit)
  have HBUDK := Lib.hid (show Tryz.prog.built 33 [(0, .int .i64 13), (2, .string ⟨#[103, 101, 116]⟩), (5, .slice (some ⟨w1.heap.size, 0, none⟩) 1 1)] = some DK.toArray by rw [hDK]; exact bu_kids 13 [103, 101, 116] _ 1 1)
  obtain ⟨sb, hsb⟩ : ∃ b, b = w1.heap.size + 1 + 1 := ⟨_, rfl⟩
  have htu : TA sb w1 unT DU := by rw [hDU]; exact TA.tC (KidsA.none _) (ArmsA.none _)
  have htk : TA sb (w1.alloc (.cells EU.toArray 33)) askU DK := by rw [hDK]; exact TA.tC (kids_one htu (by omega) hEU) (ArmsA.none _)
  have HFEU := Lib.hid (show Instr.fill (fun i => some (i * 21, 21)) ((Array.range (1 * 21)).map ((Value.agg zC).cells[· % (Value.agg zC).cells.size]!)) [(0, Value.agg DU.toArray)] = some EU.toArray by rw [hEU]; exact fill_one' DU htu.len _ (by simp))
  obtain ⟨W5, hW5, hbW5, hzW5, lW5⟩ := keep_term ((w1.alloc (.cells EU.toArray 33))) DK.toArray
  have LZW5 := Lib.hid (Lies.new' ((w1.alloc (.cells EU.toArray 33))) 33 zC (N := w1.heap.size + 1) (by simp))
  have HEW5 := Lib.hid (show W5 = ((w1.alloc (.cells EU.toArray 33)).alloc (.cells zC 33)).setRow (w1.heap.size + 1) DK.toArray by rw [hW5, show ((w1.alloc (.cells EU.toArray 33))).heap.size = w1.heap.size + 1 by simp])
  have hz5 : W5.heap.size = w1.heap.size + 1 + 1 := by rw [hzW5]; simp
  obtain ⟨W6, hW6, hbW6, hzW6, lW6⟩ := keep_term (W5) DK.toArray
  have LZW6 := Lib.hid (Lies.new' (W5) 33 zC (N := W5.heap.size) (by simp))
  have HEW6 := Lib.hid (show W6 = (W5.alloc (.cells zC 33)).setRow (W5.heap.size) DK.toArray by rw [hW6, show (W5).heap.size = W5.heap.size by simp])
  have b1 := below_new w1 (.cells EU.toArray 33)
  have hb5 : Below w1.heap.size w1 W5 := b1.trans (hbW5.mono b1.size)
  have hb6 : Below w.heap.size w W6 := (hb1.trans (hb5.mono hb1.size)).trans (hbW6.mono (by have := hb1.size; have := hb5.size; omega))
  have hl5 : Lies W5 (w1.heap.size + 1) 33 DK.toArray := by have := lW5; simpa using this
  have hk6 : Lies W6 (w1.heap.size + 1) 33 DK.toArray := (hbW6.block _ (by omega)).trans hl5
  have htk6 : TA sb W6 askU DK := (htk.later hbW5).later hbW6
  have HFDK := Lib.hid htk.tmF
  have HFDKZ := Lib.hid htk.tmF.zero
  have HTK := Lib.hid htk6
  have HL5 := Lib.hid hl5
  have HK6 := Lib.hid hk6
  have HL0 := Lib.hid (show Lies W6 sb 33 DK.toArray by rw [hsb, ← hz5]; exact lW6)
  have HB6 := Lib.hid hb6
  have HZ6 := Lib.hid (show sb < W6.heap.size ∧ w.heap.size ≤ sb ∧ w1.heap.size + 1 < sb ∧ W5.heap.size = sb by have := hb1.size; omega)
  clear hsb hDU hEU hDK htu htk hW5 hbW5 hzW5 lW5 hz5 hW6 hbW6 hzW6 lW6 b1 hb5 hb6 hl5 hk6 htk6 hb1
  unfold zC at LZW5 HEW5 LZW6 HEW6 HFDKZ
  go_upto_region 6 with (first
      | ((with_reducible show wpList _ _ _ (⟨some 24, Op.build _ _, _, _, _, _⟩ :: _) _ _); refine wpList_buildTo rfl 33 _ rfl DU.toArray (by rw [Array.toList_map]; exact HBUDU.out) ?_)
      | ((with_reducible show wpList _ _ _ (⟨some 25, Op.buildSlice _ _ _, _, _, _, _⟩ :: _) _ _); refine wpList_buildSlice rfl 24 33 1 _ rfl EU.toArray ie (.agg zC) Tryz.underlying24 hie hiz (by rw [his]; decide) (by rw [his]; decide) (by rw [his, Array.toList_map]; exact HFEU.out) ?_)
      | ((with_reducible show wpList _ _ _ (⟨some 26, Op.build _ _, _, _, _, _⟩ :: _) _ _); refine wpList_buildTo rfl 33 _ rfl DK.toArray (by rw [Array.toList_map]; exact HBUDK.out) ?_)
      | ((with_reducible show wpList _ _ _ (⟨none, Op.store _ _ _, _, _, _, _⟩ :: _) _ _); refine wpList_store_rowTo rfl 33 (.tmp 7) (.tmp 26) rfl rfl (w1.heap.size + 1) DK.toArray rfl rfl 33 _ ?_ HFDK.out.size HFDKZ.out HFDK.out.one ?_; exact LZW5.out; rw [← HEW5.out]))
  go_wp2_with (first
    | ((with_reducible show wpList _ _ _ (⟨some 27, Op.load _ _, _, _, _, _⟩ :: _) _ _); refine wpList_load_row rfl 33 (.tmp 7) rfl (w1.heap.size + 1) rfl 33 DK.toArray (0, 0) _ ?_ Tryz.underlying33 rfl HFDK.out.size ?_; exact HL5.out)
    | ((with_reducible show wpList _ _ _ (⟨none, Op.store _ _ _, _, _, _, _⟩ :: _) _ _); refine wpList_store_rowTo rfl 33 (.tmp 8) (.tmp 27) rfl rfl W5.heap.size DK.toArray rfl rfl 33 _ ?_ HFDK.out.size HFDKZ.out HFDK.out.one ?_; exact LZW6.out; rw [← HEW6.out]))
  rw [HZ6.out.2.2.2]
  go_loopw [9, 10, 11, 12, 13, 14, 15] (fun a o x _ _ _ _ wr => ∃ (q : Nat) (C : List Value), q ≤ nn ∧ a = .int .i64 (wantL (prs xs bs nn q) (0, true)).1 ∧ o = .bool (wantL (prs xs bs nn q) (0, true)).2 ∧ x = .int .i64 (q : Int) ∧ TA sb wr (nestT askU (prs xs bs nn q)) C ∧ Lies wr sb 33 C.toArray ∧ KX sb W6 wr) (fun _ _ x _ _ _ _ _ => nn - (intOf x).toNat)
  case atStart => exact ⟨0, DK, Nat.zero_le _, rfl, rfl, rfl, HTK.out, HL0.out, KX.refl _ _⟩
  case round =>
    obtain ⟨q, C, hq, rfl, rfl, rfl, hta, hlies, hkx⟩ := hrel
    have HTA := Lib.hid hta
    have HL := Lib.hid hlies
    have HKX := Lib.hid hkx
    have HFC := Lib.hid hta.tmF
    have HTB := Lib.hid (show sb < wr.heap.size by have := HZ6.out; have := hkx.size; omega)
    clear hta hlies hkx
    obtain ⟨S, hS⟩ : ∃ S, S = wantL (prs xs bs nn q) (0, true) := ⟨_, rfl⟩
    rw [← hS]
    obtain ⟨wn, op⟩ := S
    have HS := Lib.hid hS
    clear hS
    dsimp only
    by_cases hlt : q < nn
    · obtain ⟨ad, rfl, had⟩ := HCELL.out (by omega)
      obtain ⟨x, hx⟩ : ∃ x, xs[q]? = some x := ⟨_, List.getElem?_eq_getElem (by omega)⟩
      have hxd : xs.getD q 0 = x := by rw [List.getD_eq_getElem?_getD, hx]; rfl
      have hwr : Below w.heap.size w wr := HKX.out.all HB6.out HZ6.out.2.1
      have hc0 := (hwr.cell (p := ad.add q) (World.block_lt_of_cell? _ _ (had q x hx))).trans (had q x hx)
      have hqi : (q : Int) < (nn : Int) := by omega
      have hqx : q < xs.length := by omega
      obtain ⟨mo, hmo⟩ : ∃ b, b = moreB bs nn q := ⟨_, rfl⟩
      have hP : prs xs bs nn (q + 1) = prs xs bs nn q ++ [(x, mo)] := by rw [prs_succ, hxd, hmo]
      have HC0 := Lib.hid hc0
      have HP := Lib.hid hP
      have HMO := Lib.hid hmo
      have HWR := Lib.hid hwr
      have HXL := Lib.hid hqx
      clear hP hmo had hx hxd hwr hc0 hqx
      go_upto_region 12 with (fail)
      go_cut [12] from 33 to 48 (fun p wx => p = .bool mo ∧ wx = wr)
      case first =>
        by_cases hb : q < bs.length
        · obtain ⟨bd, rfl, hbd⟩ := HCELLB.out (by omega)
          obtain ⟨y, hy⟩ : ∃ y, bs[q]? = some y := ⟨_, List.getElem?_eq_getElem hb⟩
          have hcb := (HWR.out.cell (p := bd.add q) (World.block_lt_of_cell? _ _ (hbd q y hy))).trans (hbd q y hy)
          have hbi : (q : Int) < (bs.length : Int) := by omega
          have hmv : mo = (y && decide (q + 1 < nn)) := by rw [HMO.out]; unfold moreB; rw [List.getD_eq_getElem?_getD, hy]; rfl
          have HMV := Lib.hid hmv
          clear hbd hy hmv
          cases y with
          | false =>
            go_wp2_with fail
            go_meet
            exact ⟨by rw [HMV.out]; rfl, rfl⟩
          | true =>
            by_cases hq1 : q + 1 < nn
            · have hq1i : (q : Int) < (nn : Int) - 1 := by omega
              have hq1b : decide (q + 1 < nn) = true := decide_eq_true hq1
              have HQ1 := Lib.hid hq1b
              clear hq1b
              go_wp2_with fail
              go_meet
              exact ⟨by rw [HMV.out, HQ1.out]; rfl, rfl⟩
            · have hq1i : ¬ (q : Int) < (nn : Int) - 1 := by omega
              have hq1b : decide (q + 1 < nn) = false := decide_eq_false hq1
              have HQ1 := Lib.hid hq1b
              clear hq1b
              go_wp2_with fail
              go_meet
              exact ⟨by rw [HMV.out, HQ1.out]; rfl, rfl⟩
        · have hbi : ¬ (q : Int) < (bs.length : Int) := by omega
          have hmv : mo = false := by rw [HMO.out]; unfold moreB; rw [List.getD_eq_getElem?_getD, List.getElem?_eq_none (by omega)]; rfl
          have HMV := Lib.hid hmv
          clear hmv
          go_wp2_with fail
          go_meet
          exact ⟨by rw [HMV.out], rfl⟩
      obtain ⟨rfl, hwc⟩ := hcut
      subst wc
      have HKR := Lib.hid (show Lies wr (w1.heap.size + 1) 33 DK.toArray from (HKX.out.block _ (by have := HZ6.out; omega) (by have := HZ6.out; omega)).trans HK6.out)
      have hc0 := HC0.out
      go_wp2_with fail
      refine (number_ta sb _ x).mono ?_
      rintro e w4 ⟨ln, rfl, htn, hb4⟩
      obtain ⟨W7, hW7, hbW7, hzW7, lW7⟩ := keep_term (w4) ln.toArray
      have LZW7 := Lib.hid (Lies.new' (w4) 33 zC (N := w4.heap.size) (by simp))
      have HEW7 := Lib.hid (show W7 = (w4.alloc (.cells zC 33)).setRow (w4.heap.size) ln.toArray by rw [hW7, show (w4).heap.size = w4.heap.size by simp])
      have hs4 := hb4.size
      have hk4 : Lies w4 (w1.heap.size + 1) 33 DK.toArray := (hb4.block _ (by have := HZ6.out; have := HTB.out; omega)).trans HKR.out
      have HK7 := Lib.hid (show Lies W7 (w1.heap.size + 1) 33 DK.toArray from (hbW7.block _ (by have := HZ6.out; have := HTB.out; omega)).trans hk4)
      have HT7 := Lib.hid (show TA sb W7 (numT x) ln from htn.later hbW7)
      have HL7 := Lib.hid lW7
      have HFln := Lib.hid htn.tmF
      have HFlnZ := Lib.hid htn.tmF.zero
      have HB7 := Lib.hid (show Below wr.heap.size wr W7 from hb4.trans (hbW7.mono hs4))
      have HG4 := Lib.hid hs4
      have HZ7 := Lib.hid (show W7.heap.size = w4.heap.size + 1 by rw [hzW7])
      have HTN := Lib.hid htn
      have HTK4 := Lib.hid (show TA sb w4 askU DK from ((HTK.out.kx HKX.out).later hb4))
      have HB47 := Lib.hid hbW7
      clear htn hb4 hs4 hk4 hW7 hbW7 hzW7 lW7
      unfold zC at LZW7 HEW7 HFlnZ
      go_upto_if 54 with ((with_reducible show wpList _ _ _ (⟨none, Op.store _ _ _, _, _, _, _⟩ :: _) _ _); refine wpList_store_rowTo rfl 33 (.tmp 13) (.tmp 53) rfl rfl w4.heap.size ln.toArray rfl rfl 33 _ ?_ HFln.out.size HFlnZ.out HFln.out.one ?_; exact LZW7.out; rw [← HEW7.out])
      go_cut [13] from 55 to 58 (fun p wx => ∃ (gb : Nat) (D : List Value), p = .pointer (some ⟨gb, 0, none⟩) ∧ Lies wx gb 33 D.toArray ∧ TA sb wx (ansT (x, mo)) D ∧ Below wr.heap.size wr wx ∧ wr.heap.size ≤ gb)
      case first =>
        cases mo with
        | false =>
          go_wp2_with fail
          go_meet
          exact ⟨w4.heap.size, ln, rfl, HL7.out, HT7.out, HB7.out, HG4.out⟩
        | true =>
          obtain ⟨EB, hEB⟩ : ∃ D : List Value, D = [ln, DK].flatten := ⟨_, rfl⟩
          have HFEB := Lib.hid (show Instr.fill (fun i => some (i * 21, 21)) ((Array.range (2 * 21)).map ((Value.agg zC).cells[· % (Value.agg zC).cells.size]!)) [(0, Value.agg ln.toArray), (1, Value.agg DK.toArray)] = some EB.toArray by rw [hEB]; exact fill_two ln DK HFln.out.len HFDK.out.len _ (by simp))
          have HEBE := Lib.hid hEB
          clear hEB
          go_wp2_with (first
            | ((with_reducible show wpList _ _ _ (⟨some 55, Op.load _ _, _, _, _, _⟩ :: _) _ _); refine wpList_load_row rfl 33 (.tmp 13) rfl w4.heap.size rfl 33 ln.toArray (0, 0) _ ?_ Tryz.underlying33 rfl HFln.out.size ?_; exact HL7.out)
            | ((with_reducible show wpList _ _ _ (⟨some 56, Op.load _ _, _, _, _, _⟩ :: _) _ _); refine wpList_load_row rfl 33 (.tmp 7) rfl (w1.heap.size + 1) rfl 33 DK.toArray (0, 0) _ ?_ Tryz.underlying33 rfl HFDK.out.size ?_; exact HK7.out)
            | ((with_reducible show wpList _ _ _ (⟨some 57, Op.buildSlice _ _ _, _, _, _, _⟩ :: _) _ _); refine wpList_buildSlice rfl 24 33 2 _ rfl EB.toArray ie (.agg zC) Tryz.underlying24 hie hiz (by rw [his]; decide) (by rw [his]; decide) (by rw [his, Array.toList_map]; exact HFEB.out) ?_))
          refine (op_term _ [43] (some ⟨W7.heap.size, 0, none⟩) 2 2).mono ?_
          rintro e w8 ⟨av, rest, rfl, hr1, hr2, hb8⟩
          obtain ⟨lo, hlo⟩ : ∃ D, D = tmL 10 av [43] [] 0 (.slice (some ⟨W7.heap.size, 0, none⟩) 2 2) (.slice none 0 0) rest := ⟨_, rfl⟩
          rw [← hlo]
          obtain ⟨W9, hW9⟩ : ∃ W, W = w8.setRow w4.heap.size lo.toArray := ⟨_, rfl⟩
          have hz7 := HZ7.out
          have b78 : Below W7.heap.size W7 w8 := (below_new W7 (.cells EB.toArray 33)).trans (hb8.mono (by simp))
          have b48 : Below w4.heap.size w4 w8 := HB47.out.trans (b78.mono (by omega))
          have b49 : Below w4.heap.size w4 W9 := by rw [hW9]; exact below_setRow' b48 (Nat.le_refl _) _
          have hl8 : Lies w8 w4.heap.size 33 ln.toArray := (b78.block _ (by omega)).trans HL7.out
          have hl9 : Lies W9 W7.heap.size 33 [ln, DK].flatten.toArray := by
            rw [hW9, ← HEBE.out]
            exact (heap_setRow' _ _ _ _ (by omega)).trans ((hb8.block _ (by simp)).trans (Lies.new W7 33 EB.toArray))
          have hkk := kids_new (w := w4) (ts := [numT x, askU]) (ls := [ln, DK]) rfl (by show 2 ≤ 2000000; omega) (fun i t l h1 h2 => by match i with | 0 => cases h1; cases h2; exact HTN.out | 1 => cases h1; cases h2; exact HTK4.out | i + 2 => cases h1) (by have := HTB.out; have := HG4.out; omega) (T := 33) hl9 b49 rfl
          have ht9 : TA sb W9 (ansT (x, true)) lo := ⟨av, _, _, rest, hlo, hr1, hr2, hkk, ArmsA.none _⟩
          have HL8 := Lib.hid hl8
          have HFlo := Lib.hid ht9.tmF
          have HCZ := Lib.hid (show ln.toArray.size = lo.toArray.size by simp [HFln.out.len, ht9.len])
          have HL9 := Lib.hid (show Lies W9 w4.heap.size 33 lo.toArray by rw [hW9]; exact lies_setRow' hl8 _)
          have HT9 := Lib.hid ht9
          have HB9 := Lib.hid (show Below wr.heap.size wr W9 by rw [hW9]; exact below_setRow' (HB7.out.trans (b78.mono (by have := HG4.out; omega))) HG4.out _)
          have HW9 := Lib.hid hW9
          clear hlo hW9 hz7 b78 b48 b49 hl8 hl9 hkk ht9 hr1 hr2 hb8
          dsimp only
          go_wp2_with ((with_reducible show wpList _ _ _ (⟨none, Op.store _ _ _, _, _, _, _⟩ :: _) _ _); refine wpList_store_rowTo rfl 33 (.tmp 13) (.tmp 58) rfl rfl w4.heap.size lo.toArray rfl rfl 33 _ ?_ HFlo.out.size HCZ.out HFlo.out.one ?_; exact HL8.out; rw [← HW9.out])
          go_meet
          exact ⟨w4.heap.size, lo, rfl, HL9.out, HT9.out, HB9.out, HG4.out⟩
      obtain ⟨gb, DB, rfl, hlb, htb, hbb, hgb⟩ := hcut
      obtain ⟨wb, rfl⟩ : ∃ W, W = wc := ⟨_, rfl⟩
      have HLB := Lib.hid hlb
      have HTD := Lib.hid htb
      have HBB := Lib.hid hbb
      have HGB := Lib.hid hgb
      have HC1 := Lib.hid ((hbb.cell (p := ad.add q) (World.block_lt_of_cell? _ _ hc0)).trans hc0)
      obtain ⟨wn2, hwn2⟩ : ∃ n, n = (match op with | true => wrap64 (wn + x) | false => wn) := ⟨_, rfl⟩
      obtain ⟨op2, hop2⟩ : ∃ b, b = (op && mo) := ⟨_, rfl⟩
      have HS2 := Lib.hid (show (wn2, op2) = wantL (prs xs bs nn (q + 1)) (0, true) by rw [HP.out, want_snoc, ← HS.out, hwn2, hop2]; cases op <;> rfl)
      have HWN2 := Lib.hid hwn2
      have HOP2 := Lib.hid hop2
      clear hlb htb hbb hgb hc0 hwn2 hop2
      have hc1 := HC1.out
      go_upto_if 59 with (fail)
      go_cut [9] from 60 to 65 (fun a wx => a = .int .i64 wn2 ∧ wx = wb)
      case first =>
        cases op with
        | false =>
          go_wp2_with fail
          go_meet
          exact ⟨by rw [HWN2.out], rfl⟩
        | true =>
          go_wp2_with fail
          go_meet
          exact ⟨by rw [HWN2.out], rfl⟩
      obtain ⟨rfl, hw2⟩ := hcut
      subst wc
      clear hc1
      go_upto_region 18 with (fail)
      go_cut [10] from 66 to 69 (fun o wx => o = .bool op2 ∧ wx = wb)
      case first =>
        cases op <;> cases mo
        all_goals
          go_wp2_with fail
          go_meet
          exact ⟨by rw [HOP2.out]; rfl, rfl⟩
      obtain ⟨rfl, hw3⟩ := hcut
      subst wc
      have HGL := Lib.hid (show gb < wb.heap.size from HLB.out.lt)
      have HFD := Lib.hid HTD.out.tmF
      have HZD := Lib.hid (show (Tryz.prog.info? 33).map (·.size) = some DB.length by rw [szTerm, HTD.out.len])
      have HSBW := Lib.hid (show sb < wb.heap.size by have := HTB.out; have := HBB.out.size; omega)
      go_upto_region 19 with (fail)
      go_cut [14] from 70 to 73 (fun p wx => ∃ (gc : Nat) (D : List Value), p = .pointer (some ⟨gc, 0, none⟩) ∧ Lies wx gc 33 D.toArray ∧ TA sb wx (appT (varT [107]) (ansT (x, mo))) D ∧ Below wb.heap.size wb wx ∧ wb.heap.size ≤ gc)
      case first =>
        refine wp_region_held_drew (S := fun VV => Lies VV gb 33 DB.toArray) (by kernel_rfl) ?_ (fun hHeld => ?_)
        · exact HLB.out
        have hbd : Below wb.heap.size wb wb.drew := (Below.refl _ _).drew
        generalize wb.drew = V0 at hHeld hbd ⊢
        have HB0 := Lib.hid hbd
        clear hbd
        refine wpAnyH_take (i := 1) (oi := ⟨some 71, _, _, _, _, _⟩) (v := .agg DB.toArray) rfl (by kernel_rfl) (by kernel_rfl) (by kernel_rfl) (fun _ _ _ h => h) (yieldsIf_load_mid (by rfl) 33 (.tmp 13) rfl gb 0 rfl DB _ (fun w' hS => Lies.range hS) Tryz.underlying33 rfl HZD.out) (by assumption) ?_
        try simp only [Act.put, s1, s2, s3]
        refine wpAnyH_ready (rs := [0, 4]) (by kernel_rfl) (by simp) ?_
        refine AllReadyH.cons (o := ⟨some 70, _, _, _, _, _⟩) rfl (fun K hK => ?_) (AllReadyH.cons (o := ⟨some 14, _, _, _, _, _⟩) rfl (fun K hK => ?_) AllReadyH.nil)
        · go_simp
          refine (variable_term _ [107]).mono ?_
          rintro e V1 ⟨av, rest, rfl, hr1, hr2, hbk⟩
          obtain ⟨lk, hlk⟩ : ∃ D, D = tmL 1 av [107] [] 0 (.slice none 0 0) (.slice none 0 0) rest := ⟨_, rfl⟩
          rw [← hlk]
          have HTV := Lib.hid (show ∀ W, TA sb W (varT [107]) lk from fun W => ⟨av, _, _, rest, hlk, hr1, hr2, KidsA.none _, ArmsA.none _⟩)
          have HB1 := Lib.hid (show Below wb.heap.size wb V1 from HB0.out.trans (hbk.mono HB0.out.size))
          have HZk := Lib.hid (show V0.heap.size ≤ V1.heap.size from hbk.size)
          have HKk := Lib.hid hbk
          clear hlk hr1 hr2 hbk
          (try dsimp only)
          refine hK.out _ _ ?_ (fun hHeld => ?_)
          · exact (HB1.out.block _ HGL.out).trans HLB.out
          clear hK K
          try simp only [Act.put, s1, s2, s3]
          refine wpAnyH_ready (rs := [2, 4]) (by kernel_rfl) (by simp) ?_
          refine AllReadyH.cons (o := ⟨some 72, _, _, _, _, _⟩) rfl (fun K hK => ?_) (AllReadyH.cons (o := ⟨some 14, _, _, _, _, _⟩) rfl (fun K hK => ?_) AllReadyH.nil)
          · obtain ⟨EB, hEB⟩ : ∃ D : List Value, D = [lk, DB].flatten := ⟨_, rfl⟩
            have HFEB := Lib.hid (show Instr.fill (fun i => some (i * 21, 21)) ((Array.range (2 * 21)).map ((Value.agg zC).cells[· % (Value.agg zC).cells.size]!)) [(0, Value.agg lk.toArray), (1, Value.agg DB.toArray)] = some EB.toArray by rw [hEB]; exact fill_two lk DB (HTV.out wb).len HFD.out.len _ (by simp))
            obtain ⟨pe, hpe⟩ : ∃ p, p = V1.heap.size := ⟨_, rfl⟩
            obtain ⟨V2, hV2⟩ : ∃ W, W = V1.alloc (.cells EB.toArray 33) := ⟨_, rfl⟩
            have HB2 := Lib.hid (show Below wb.heap.size wb V2 by rw [hV2]; exact HB1.out.alloc HB1.out.size _)
            have HZV2 := Lib.hid (show V2.heap.size = V1.heap.size + 1 by rw [hV2]; simp)
            have HLe := Lib.hid (show Lies V2 pe 33 [lk, DB].flatten.toArray by rw [hV2, ← hEB, hpe]; exact Lies.new _ _ _)
            have HAV2 := Lib.hid (show Below V1.heap.size V1 V2 by rw [hV2]; exact below_new _ _)
            have HPE := Lib.hid hpe
            obtain ⟨D2, hD2⟩ : ∃ D : List Value, D = So.tC 6 [] 0 (.slice (some ⟨pe, 0, none⟩) 2 2) nilS := ⟨_, rfl⟩
            have HBU2 := Lib.hid (show Tryz.prog.built 33 [(0, .int .i64 6), (5, .slice (some ⟨pe, 0, none⟩) 2 2)] = some D2.toArray by rw [hD2]; exact bu_app 6 _ 2 2)
            have HD2 := Lib.hid hD2
            rw [if_pos (by kernel_rfl)]
            refine wp_buildSlice 24 33 2 _ rfl EB.toArray ie (.agg zC) Tryz.underlying24 hie hiz (by rw [his]; decide) (by rw [his]; decide) (by rw [his, Array.toList_map]; exact HFEB.out) ?_
            rw [← hV2, ← hpe]
            clear hV2 hpe hEB hD2
            refine hK.out _ _ ?_ (fun hHeld => ?_)
            · exact (HB2.out.block _ HGL.out).trans HLB.out
            clear hK K
            try simp only [Act.put, s1, s2, s3]
            refine wpAnyH_take (i := 3) (oi := ⟨some 73, _, _, _, _, _⟩) (v := .agg D2.toArray) rfl (by kernel_rfl) (by kernel_rfl) (by kernel_rfl) (fun _ _ _ h => h) (Or.inl ⟨by kernel_rfl, fun w' _ => yields_build _ _ rfl (by rw [Array.toList_map]; exact HBU2.out) w'⟩) (by assumption) ?_
            try simp only [Act.put, s1, s2, s3]
            refine rd1 4 (some 14) rfl fun K hK => ?_
            go_simp
            obtain ⟨V3, hV3⟩ : ∃ W, W = V2.alloc (.cells zC 33) := ⟨_, rfl⟩
            have HB3 := Lib.hid (show Below wb.heap.size wb V3 by rw [hV3]; exact HB2.out.alloc HB2.out.size _)
            have HZV3 := Lib.hid (show V3.heap.size = V2.heap.size + 1 by rw [hV3]; simp)
            have HAV3 := Lib.hid (show Below V2.heap.size V2 V3 by rw [hV3]; exact below_new _ _)
            obtain ⟨pc, hp⟩ : ∃ p, p = V2.heap.size := ⟨_, rfl⟩
            have HPpc := Lib.hid hp
            have HLz := Lib.hid (show Lies V3 pc 33 zC by rw [hV3, hp]; exact Lies.new _ _ _)
            unfold zC at hV3
            rw [← hV3, ← hp]
            clear hV3 hp
            refine hK.out _ _ ?_ (fun hHeld => ?_)
            · exact (HB3.out.block _ HGL.out).trans HLB.out
            clear hK K
            try simp only [Act.put, s1, s2, s3]
            have hle : Lies V3 pe 33 [lk, DB].flatten.toArray := (HAV3.out.block _ HLe.out.lt).trans HLe.out
            have hlz : Lies V3 pc 33 zC := HLz.out
            have hne : pe ≠ pc ∧ wb.heap.size ≤ pc ∧ wb.heap.size ≤ pe := by have := HSBW.out; have := HPE.out; have := HPpc.out; have := HB1.out.size; have := HZV2.out; omega
            obtain ⟨WF, hWF⟩ : ∃ W, W = V3.setRow pc D2.toArray := ⟨_, rfl⟩
            have hbf : Below wb.heap.size wb WF := by rw [hWF]; exact below_setRow' HB3.out hne.2.1 _
            have hlf : Lies WF pe 33 [lk, DB].flatten.toArray := by rw [hWF]; exact (heap_setRow' _ _ _ _ hne.1).trans hle
            have hkk := kids_new (w := wb) (ts := [varT [107], ansT (x, mo)]) (ls := [lk, DB]) rfl (by show 2 ≤ 2000000; omega) (fun i t l h1 h2 => by match i with | 0 => cases h1; cases h2; exact HTV.out wb | 1 => cases h1; cases h2; exact HTD.out | i + 2 => cases h1) (show pe ≠ sb by have := HSBW.out; omega) (T := 33) hlf hbf rfl
            have htf : TA sb WF (appT (varT [107]) (ansT (x, mo))) D2 := by rw [HD2.out]; exact TA.tC hkk (ArmsA.none _)
            have HLZ := Lib.hid hlz
            have HF2 := Lib.hid htf.tmF
            have HF2Z := Lib.hid htf.tmF.zero
            have HTF := Lib.hid htf
            have HLF := Lib.hid (show Lies WF pc 33 D2.toArray by rw [hWF]; exact lies_setRow' hlz _)
            have HBF := Lib.hid hbf
            have HPC := Lib.hid hne.2.1
            have HWF := Lib.hid hWF
            clear hle hlz hne hbf hlf hkk htf hWF
            refine rd1 5 none rfl fun K hK => ?_
            rw [if_pos (by kernel_rfl)]
            refine wp_store_row 33 (.tmp 14) (.tmp 73) rfl pc D2.toArray rfl rfl 33 zC HLZ.out HF2.out.size HF2Z.out HF2.out.one ?_
            rw [← HWF.out]
            refine hK.out _ _ ?_ (fun hHeld => ?_)
            · exact (HBF.out.block _ HGL.out).trans HLB.out
            clear hK K
            try simp only [Act.put]
            refine wpAnyH_done (by kernel_rfl) ?_ _
            go_wp2_with fail
            go_meet
            exact ⟨pc, D2, rfl, HLF.out, HTF.out, HBF.out, HPC.out⟩
          · go_simp
            obtain ⟨V2, hV2⟩ : ∃ W, W = V1.alloc (.cells zC 33) := ⟨_, rfl⟩
            have HB2 := Lib.hid (show Below wb.heap.size wb V2 by rw [hV2]; exact HB1.out.alloc HB1.out.size _)
            have HZV2 := Lib.hid (show V2.heap.size = V1.heap.size + 1 by rw [hV2]; simp)
            have HAV2 := Lib.hid (show Below V1.heap.size V1 V2 by rw [hV2]; exact below_new _ _)
            obtain ⟨pc, hp⟩ : ∃ p, p = V1.heap.size := ⟨_, rfl⟩
            have HPpc := Lib.hid hp
            have HLz := Lib.hid (show Lies V2 pc 33 zC by rw [hV2, hp]; exact Lies.new _ _ _)
            unfold zC at hV2
            rw [← hV2, ← hp]
            clear hV2 hp
            refine hK.out _ _ ?_ (fun hHeld => ?_)
            · exact (HB2.out.block _ HGL.out).trans HLB.out
            clear hK K
            try simp only [Act.put, s1, s2, s3]
            refine rd1 2 (some 72) rfl fun K hK => ?_
            obtain ⟨EB, hEB⟩ : ∃ D : List Value, D = [lk, DB].flatten := ⟨_, rfl⟩
            have HFEB := Lib.hid (show Instr.fill (fun i => some (i * 21, 21)) ((Array.range (2 * 21)).map ((Value.agg zC).cells[· % (Value.agg zC).cells.size]!)) [(0, Value.agg lk.toArray), (1, Value.agg DB.toArray)] = some EB.toArray by rw [hEB]; exact fill_two lk DB (HTV.out wb).len HFD.out.len _ (by simp))
            obtain ⟨pe, hpe⟩ : ∃ p, p = V2.heap.size := ⟨_, rfl⟩
            obtain ⟨V3, hV3⟩ : ∃ W, W = V2.alloc (.cells EB.toArray 33) := ⟨_, rfl⟩
            have HB3 := Lib.hid (show Below wb.heap.size wb V3 by rw [hV3]; exact HB2.out.alloc HB2.out.size _)
            have HZV3 := Lib.hid (show V3.heap.size = V2.heap.size + 1 by rw [hV3]; simp)
            have HLe := Lib.hid (show Lies V3 pe 33 [lk, DB].flatten.toArray by rw [hV3, ← hEB, hpe]; exact Lies.new _ _ _)
            have HAV3 := Lib.hid (show Below V2.heap.size V2 V3 by rw [hV3]; exact below_new _ _)
            have HPE := Lib.hid hpe
            obtain ⟨D2, hD2⟩ : ∃ D : List Value, D = So.tC 6 [] 0 (.slice (some ⟨pe, 0, none⟩) 2 2) nilS := ⟨_, rfl⟩
            have HBU2 := Lib.hid (show Tryz.prog.built 33 [(0, .int .i64 6), (5, .slice (some ⟨pe, 0, none⟩) 2 2)] = some D2.toArray by rw [hD2]; exact bu_app 6 _ 2 2)
            have HD2 := Lib.hid hD2
            rw [if_pos (by kernel_rfl)]
            refine wp_buildSlice 24 33 2 _ rfl EB.toArray ie (.agg zC) Tryz.underlying24 hie hiz (by rw [his]; decide) (by rw [his]; decide) (by rw [his, Array.toList_map]; exact HFEB.out) ?_
            rw [← hV3, ← hpe]
            clear hV3 hpe hEB hD2
            refine hK.out _ _ ?_ (fun hHeld => ?_)
            · exact (HB3.out.block _ HGL.out).trans HLB.out
            clear hK K
            try simp only [Act.put, s1, s2, s3]
            refine wpAnyH_take (i := 3) (oi := ⟨some 73, _, _, _, _, _⟩) (v := .agg D2.toArray) rfl (by kernel_rfl) (by kernel_rfl) (by kernel_rfl) (fun _ _ _ h => h) (Or.inl ⟨by kernel_rfl, fun w' _ => yields_build _ _ rfl (by rw [Array.toList_map]; exact HBU2.out) w'⟩) (by assumption) ?_
            try simp only [Act.put, s1, s2, s3]
            have hle : Lies V3 pe 33 [lk, DB].flatten.toArray := HLe.out
            have hlz : Lies V3 pc 33 zC := (HAV3.out.block _ HLz.out.lt).trans HLz.out
            have hne : pe ≠ pc ∧ wb.heap.size ≤ pc ∧ wb.heap.size ≤ pe := by have := HSBW.out; have := HPE.out; have := HPpc.out; have := HB1.out.size; have := HZV2.out; omega
            obtain ⟨WF, hWF⟩ : ∃ W, W = V3.setRow pc D2.toArray := ⟨_, rfl⟩
            have hbf : Below wb.heap.size wb WF := by rw [hWF]; exact below_setRow' HB3.out hne.2.1 _
            have hlf : Lies WF pe 33 [lk, DB].flatten.toArray := by rw [hWF]; exact (heap_setRow' _ _ _ _ hne.1).trans hle
            have hkk := kids_new (w := wb) (ts := [varT [107], ansT (x, mo)]) (ls := [lk, DB]) rfl (by show 2 ≤ 2000000; omega) (fun i t l h1 h2 => by match i with | 0 => cases h1; cases h2; exact HTV.out wb | 1 => cases h1; cases h2; exact HTD.out | i + 2 => cases h1) (show pe ≠ sb by have := HSBW.out; omega) (T := 33) hlf hbf rfl
            have htf : TA sb WF (appT (varT [107]) (ansT (x, mo))) D2 := by rw [HD2.out]; exact TA.tC hkk (ArmsA.none _)
            have HLZ := Lib.hid hlz
            have HF2 := Lib.hid htf.tmF
            have HF2Z := Lib.hid htf.tmF.zero
            have HTF := Lib.hid htf
            have HLF := Lib.hid (show Lies WF pc 33 D2.toArray by rw [hWF]; exact lies_setRow' hlz _)
            have HBF := Lib.hid hbf
            have HPC := Lib.hid hne.2.1
            have HWF := Lib.hid hWF
            clear hle hlz hne hbf hlf hkk htf hWF
            refine rd1 5 none rfl fun K hK => ?_
            rw [if_pos (by kernel_rfl)]
            refine wp_store_row 33 (.tmp 14) (.tmp 73) rfl pc D2.toArray rfl rfl 33 zC HLZ.out HF2.out.size HF2Z.out HF2.out.one ?_
            rw [← HWF.out]
            refine hK.out _ _ ?_ (fun hHeld => ?_)
            · exact (HBF.out.block _ HGL.out).trans HLB.out
            clear hK K
            try simp only [Act.put]
            refine wpAnyH_done (by kernel_rfl) ?_ _
            go_wp2_with fail
            go_meet
            exact ⟨pc, D2, rfl, HLF.out, HTF.out, HBF.out, HPC.out⟩
        · go_simp
          obtain ⟨V1, hV1⟩ : ∃ W, W = V0.alloc (.cells zC 33) := ⟨_, rfl⟩
          have HB1 := Lib.hid (show Below wb.heap.size wb V1 by rw [hV1]; exact HB0.out.alloc HB0.out.size _)
          have HZV1 := Lib.hid (show V1.heap.size = V0.heap.size + 1 by rw [hV1]; simp)
          have HAV1 := Lib.hid (show Below V0.heap.size V0 V1 by rw [hV1]; exact below_new _ _)
          obtain ⟨pc, hp⟩ : ∃ p, p = V0.heap.size := ⟨_, rfl⟩
          have HPpc := Lib.hid hp
          have HLz := Lib.hid (show Lies V1 pc 33 zC by rw [hV1, hp]; exact Lies.new _ _ _)
          unfold zC at hV1
          rw [← hV1, ← hp]
          clear hV1 hp
          refine hK.out _ _ ?_ (fun hHeld => ?_)
          · exact (HB1.out.block _ HGL.out).trans HLB.out
          clear hK K
          try simp only [Act.put, s1, s2, s3]
          refine rd1 0 (some 70) rfl fun K hK => ?_
          go_simp
          refine (variable_term _ [107]).mono ?_
          rintro e V2 ⟨av, rest, rfl, hr1, hr2, hbk⟩
          obtain ⟨lk, hlk⟩ : ∃ D, D = tmL 1 av [107] [] 0 (.slice none 0 0) (.slice none 0 0) rest := ⟨_, rfl⟩
          rw [← hlk]
          have HTV := Lib.hid (show ∀ W, TA sb W (varT [107]) lk from fun W => ⟨av, _, _, rest, hlk, hr1, hr2, KidsA.none _, ArmsA.none _⟩)
          have HB2 := Lib.hid (show Below wb.heap.size wb V2 from HB1.out.trans (hbk.mono HB1.out.size))
          have HZk := Lib.hid (show V1.heap.size ≤ V2.heap.size from hbk.size)
          have HKk := Lib.hid hbk
          clear hlk hr1 hr2 hbk
          (try dsimp only)
          refine hK.out _ _ ?_ (fun hHeld => ?_)
          · exact (HB2.out.block _ HGL.out).trans HLB.out
          clear hK K
          try simp only [Act.put, s1, s2, s3]
          refine rd1 2 (some 72) rfl fun K hK => ?_
          obtain ⟨EB, hEB⟩ : ∃ D : List Value, D = [lk, DB].flatten := ⟨_, rfl⟩
          have HFEB := Lib.hid (show Instr.fill (fun i => some (i * 21, 21)) ((Array.range (2 * 21)).map ((Value.agg zC).cells[· % (Value.agg zC).cells.size]!)) [(0, Value.agg lk.toArray), (1, Value.agg DB.toArray)] = some EB.toArray by rw [hEB]; exact fill_two lk DB (HTV.out wb).len HFD.out.len _ (by simp))
          obtain ⟨pe, hpe⟩ : ∃ p, p = V2.heap.size := ⟨_, rfl⟩
          obtain ⟨V3, hV3⟩ : ∃ W, W = V2.alloc (.cells EB.toArray 33) := ⟨_, rfl⟩
          have HB3 := Lib.hid (show Below wb.heap.size wb V3 by rw [hV3]; exact HB2.out.alloc HB2.out.size _)
          have HZV3 := Lib.hid (show V3.heap.size = V2.heap.size + 1 by rw [hV3]; simp)
          have HLe := Lib.hid (show Lies V3 pe 33 [lk, DB].flatten.toArray by rw [hV3, ← hEB, hpe]; exact Lies.new _ _ _)
          have HAV3 := Lib.hid (show Below V2.heap.size V2 V3 by rw [hV3]; exact below_new _ _)
          have HPE := Lib.hid hpe
          obtain ⟨D2, hD2⟩ : ∃ D : List Value, D = So.tC 6 [] 0 (.slice (some ⟨pe, 0, none⟩) 2 2) nilS := ⟨_, rfl⟩
          have HBU2 := Lib.hid (show Tryz.prog.built 33 [(0, .int .i64 6), (5, .slice (some ⟨pe, 0, none⟩) 2 2)] = some D2.toArray by rw [hD2]; exact bu_app 6 _ 2 2)
          have HD2 := Lib.hid hD2
          rw [if_pos (by kernel_rfl)]
          refine wp_buildSlice 24 33 2 _ rfl EB.toArray ie (.agg zC) Tryz.underlying24 hie hiz (by rw [his]; decide) (by rw [his]; decide) (by rw [his, Array.toList_map]; exact HFEB.out) ?_
          rw [← hV3, ← hpe]
          clear hV3 hpe hEB hD2
          refine hK.out _ _ ?_ (fun hHeld => ?_)
          · exact (HB3.out.block _ HGL.out).trans HLB.out
          clear hK K
          try simp only [Act.put, s1, s2, s3]
          refine wpAnyH_take (i := 3) (oi := ⟨some 73, _, _, _, _, _⟩) (v := .agg D2.toArray) rfl (by kernel_rfl) (by kernel_rfl) (by kernel_rfl) (fun _ _ _ h => h) (Or.inl ⟨by kernel_rfl, fun w' _ => yields_build _ _ rfl (by rw [Array.toList_map]; exact HBU2.out) w'⟩) (by assumption) ?_
          try simp only [Act.put, s1, s2, s3]
          have hle : Lies V3 pe 33 [lk, DB].flatten.toArray := HLe.out
          have hlz : Lies V3 pc 33 zC := (HAV3.out.block _ (by have := HLz.out.lt; have := HZk.out; omega)).trans ((HKk.out.block _ HLz.out.lt).trans HLz.out)
          have hne : pe ≠ pc ∧ wb.heap.size ≤ pc ∧ wb.heap.size ≤ pe := by have := HSBW.out; have := HPE.out; have := HPpc.out; have := HZV1.out; have := HZk.out; have := HB0.out.size; omega
          obtain ⟨WF, hWF⟩ : ∃ W, W = V3.setRow pc D2.toArray := ⟨_, rfl⟩
          have hbf : Below wb.heap.size wb WF := by rw [hWF]; exact below_setRow' HB3.out hne.2.1 _
          have hlf : Lies WF pe 33 [lk, DB].flatten.toArray := by rw [hWF]; exact (heap_setRow' _ _ _ _ hne.1).trans hle
          have hkk := kids_new (w := wb) (ts := [varT [107], ansT (x, mo)]) (ls := [lk, DB]) rfl (by show 2 ≤ 2000000; omega) (fun i t l h1 h2 => by match i with | 0 => cases h1; cases h2; exact HTV.out wb | 1 => cases h1; cases h2; exact HTD.out | i + 2 => cases h1) (show pe ≠ sb by have := HSBW.out; omega) (T := 33) hlf hbf rfl
          have htf : TA sb WF (appT (varT [107]) (ansT (x, mo))) D2 := by rw [HD2.out]; exact TA.tC hkk (ArmsA.none _)
          have HLZ := Lib.hid hlz
          have HF2 := Lib.hid htf.tmF
          have HF2Z := Lib.hid htf.tmF.zero
          have HTF := Lib.hid htf
          have HLF := Lib.hid (show Lies WF pc 33 D2.toArray by rw [hWF]; exact lies_setRow' hlz _)
          have HBF := Lib.hid hbf
          have HPC := Lib.hid hne.2.1
          have HWF := Lib.hid hWF
          clear hle hlz hne hbf hlf hkk htf hWF
          refine rd1 5 none rfl fun K hK => ?_
          rw [if_pos (by kernel_rfl)]
          refine wp_store_row 33 (.tmp 14) (.tmp 73) rfl pc D2.toArray rfl rfl 33 zC HLZ.out HF2.out.size HF2Z.out HF2.out.one ?_
          rw [← HWF.out]
          refine hK.out _ _ ?_ (fun hHeld => ?_)
          · exact (HBF.out.block _ HGL.out).trans HLB.out
          clear hK K
          try simp only [Act.put]
          refine wpAnyH_done (by kernel_rfl) ?_ _
          go_wp2_with fail
          go_meet
          exact ⟨pc, D2, rfl, HLF.out, HTF.out, HBF.out, HPC.out⟩
      obtain ⟨gc, DC, rfl, hlc2, htc, hbc, hgc⟩ := hcut
      obtain ⟨wd, rfl⟩ : ∃ W, W = wc := ⟨_, rfl⟩
      have HLC := Lib.hid hlc2
      have HTC := Lib.hid htc
      have HBC := Lib.hid hbc
      have HGC := Lib.hid (show gc < wd.heap.size from hlc2.lt)
      have HSD := Lib.hid (show sb < wd.heap.size by have := HSBW.out; have := hbc.size; omega)
      have HZC := Lib.hid (show (Tryz.prog.info? 33).map (·.size) = some DC.length by rw [szTerm, htc.len])
      clear hlc2 htc hbc hgc
      go_upto_region 20 with (fail)
      go_cut [15] from 74 to 80 (fun v wx => ∃ pa : Nat, v = .slice (some ⟨pa, 0, none⟩) 2 2 ∧ ArmsA (memX sb wx) (armsN (x, mo)) (.slice (some ⟨pa, 0, none⟩) 2 2) ∧ Below wd.heap.size wd wx)
      case first =>
        refine wp_region_held_drew (S := fun VV => Lies VV gc 33 DC.toArray) (by kernel_rfl) ?_ (fun hHeld => ?_)
        · exact HLC.out
        have hbd : Below wd.heap.size wd wd.drew := (Below.refl _ _).drew
        generalize wd.drew = V0 at hHeld hbd ⊢
        have HBV0 := Lib.hid hbd
        clear hbd
        refine wpAnyH_take (i := 4) (oi := ⟨some 78, _, _, _, _, _⟩) (v := .agg DC.toArray) rfl (by kernel_rfl) (by kernel_rfl) (by kernel_rfl) (fun _ _ _ h => h) (yieldsIf_load_mid (by rfl) 33 (.tmp 14) rfl gc 0 rfl DC _ (fun w' hS => Lies.range hS) Tryz.underlying33 rfl HZC.out) (by assumption) ?_
        try simp only [Act.put, s1, s2, s3]
        refine wpAnyH_ready (rs := [0, 1, 3]) (by kernel_rfl) (by simp) ?_
        refine AllReadyH.cons (o := ⟨some 74, _, _, _, _, _⟩) rfl (fun K hK => ?_) (AllReadyH.cons (o := ⟨some 75, _, _, _, _, _⟩) rfl (fun K hK => ?_) (AllReadyH.cons (o := ⟨some 77, _, _, _, _, _⟩) rfl (fun K hK => ?_) AllReadyH.nil))
        · go_simp
          obtain ⟨V1, hV1⟩ : ∃ W, W = V0.alloc (.cells #[.string ⟨#[120]⟩] 9) := ⟨_, rfl⟩
          obtain ⟨p0, hp⟩ : ∃ p, p = V0.heap.size := ⟨_, rfl⟩
          have HBV1 := Lib.hid (show Below wd.heap.size wd V1 by rw [hV1]; exact HBV0.out.alloc HBV0.out.size _)
          have HAV1 := Lib.hid (show Below V0.heap.size V0 V1 by rw [hV1]; exact below_new _ _)
          have HS0V1 := Lib.hid (show Lies V1 p0 9 #[.string ⟨#[120]⟩] by rw [hV1, hp]; exact Lies.new _ _ _)
          have HP0 := Lib.hid (show wd.heap.size ≤ p0 by rw [hp]; exact HBV0.out.size)
          rw [← hV1, ← hp]
          clear hV1 hp
          refine hK.out _ _ ?_ (fun hHeld => ?_)
          · exact (HBV1.out.block _ HGC.out).trans HLC.out
          clear hK K
          try simp only [Act.put, s1, s2, s3]
          refine wpAnyH_ready (rs := [1, 3]) (by kernel_rfl) (by simp) ?_
          refine AllReadyH.cons (o := ⟨some 75, _, _, _, _, _⟩) rfl (fun K hK => ?_) (AllReadyH.cons (o := ⟨some 77, _, _, _, _, _⟩) rfl (fun K hK => ?_) AllReadyH.nil)
          · go_simp
            refine (variable_term _ [120]).mono ?_
            rintro e V2 ⟨av, rest, rfl, hr1, hr2, hbk⟩
            obtain ⟨lx, hlx⟩ : ∃ D, D = tmL 1 av [120] [] 0 (.slice none 0 0) (.slice none 0 0) rest := ⟨_, rfl⟩
            rw [← hlx]
            have HTX := Lib.hid (show ∀ W, TA sb W (varT [120]) lx from fun W => ⟨av, _, _, rest, hlx, hr1, hr2, KidsA.none _, ArmsA.none _⟩)
            have HBV2 := Lib.hid (show Below wd.heap.size wd V2 from HBV1.out.trans (hbk.mono HBV1.out.size))
            have HAV2 := Lib.hid hbk
            clear hlx hr1 hr2 hbk
            (try dsimp only)
            have HS0V2 := Lib.hid (show Lies V2 p0 9 #[.string ⟨#[120]⟩] from (HAV2.out.block _ HS0V1.out.lt).trans HS0V1.out)
            refine hK.out _ _ ?_ (fun hHeld => ?_)
            · exact (HBV2.out.block _ HGC.out).trans HLC.out
            clear hK K
            try simp only [Act.put, s1, s2, s3]
            obtain ⟨A1, hA1, hb1⟩ := arm_bu [114, 101, 116, 117, 114, 110] p0 1 (HTX.out wd).len
            have HBUA1 := Lib.hid hb1
            have HA1E := Lib.hid hA1
            clear hA1 hb1
            refine wpAnyH_take (i := 2) (oi := ⟨some 76, _, _, _, _, _⟩) (v := .agg A1.toArray) rfl (by kernel_rfl) (by kernel_rfl) (by kernel_rfl) (fun _ _ _ h => h) (Or.inl ⟨by kernel_rfl, fun w' _ => yields_build _ _ rfl (by rw [Array.toList_map]; exact HBUA1.out) w'⟩) (by assumption) ?_
            try simp only [Act.put, s1, s2, s3]
            refine rd1 3 (some 77) rfl fun K hK => ?_
            go_simp
            obtain ⟨V3, hV3⟩ : ∃ W, W = V2.alloc (.cells #[.string ⟨#[117]⟩, .string ⟨#[107]⟩] 9) := ⟨_, rfl⟩
            obtain ⟨p3, hp⟩ : ∃ p, p = V2.heap.size := ⟨_, rfl⟩
            have HBV3 := Lib.hid (show Below wd.heap.size wd V3 by rw [hV3]; exact HBV2.out.alloc HBV2.out.size _)
            have HAV3 := Lib.hid (show Below V2.heap.size V2 V3 by rw [hV3]; exact below_new _ _)
            have HS3V3 := Lib.hid (show Lies V3 p3 9 #[.string ⟨#[117]⟩, .string ⟨#[107]⟩] by rw [hV3, hp]; exact Lies.new _ _ _)
            have HP3 := Lib.hid (show wd.heap.size ≤ p3 by rw [hp]; exact HBV2.out.size)
            rw [← hV3, ← hp]
            clear hV3 hp
            have HS0V3 := Lib.hid (show Lies V3 p0 9 #[.string ⟨#[120]⟩] from (HAV3.out.block _ HS0V2.out.lt).trans HS0V2.out)
            refine hK.out _ _ ?_ (fun hHeld => ?_)
            · exact (HBV3.out.block _ HGC.out).trans HLC.out
            clear hK K
            try simp only [Act.put, s1, s2, s3]
            obtain ⟨A2, hA2, hb2⟩ := arm_bu [103, 101, 116] p3 2 HTC.out.len
            have HBUA2 := Lib.hid hb2
            have HA2E := Lib.hid hA2
            clear hA2 hb2
            refine wpAnyH_take (i := 5) (oi := ⟨some 79, _, _, _, _, _⟩) (v := .agg A2.toArray) rfl (by kernel_rfl) (by kernel_rfl) (by kernel_rfl) (fun _ _ _ h => h) (Or.inl ⟨by kernel_rfl, fun w' _ => yields_build _ _ rfl (by rw [Array.toList_map]; exact HBUA2.out) w'⟩) (by assumption) ?_
            try simp only [Act.put, s1, s2, s3]
            obtain ⟨EF, V4, pa, hV4, hpa, hfe, haa⟩ := arms_leaf (HTX.out V3) (HTC.out.later HBV3.out) HS0V3.out HS3V3.out (by have := HP0.out; have := HSD.out; omega) (by have := HP3.out; have := HSD.out; omega) (by have := HBV3.out.size; have := HSD.out; omega) HA1E.out HA2E.out
            have HFEF := Lib.hid hfe
            have HAA := Lib.hid haa
            have HBV4 := Lib.hid (show Below wd.heap.size wd V4 by rw [hV4]; exact HBV3.out.alloc HBV3.out.size _)
            refine rd1 6 (some 80) rfl fun K hK => ?_
            rw [if_pos (by kernel_rfl)]
            refine wp_buildSlice 25 35 2 _ rfl EF.toArray ia (.agg zA) Tryz.underlying25 hia haz (by rw [has]; decide) (by rw [has]; decide) (by rw [has, Array.toList_map]; exact HFEF.out) ?_
            rw [← hV4, ← hpa]
            clear hV4 hpa haa hfe
            refine hK.out _ _ ?_ (fun hHeld => ?_)
            · exact (HBV4.out.block _ HGC.out).trans HLC.out
            clear hK K
            try simp only [Act.put, s1, s2, s3]
            refine rd1 7 (some 15) rfl fun K hK => ?_
            go_simp
            refine hK.out _ _ ?_ (fun hHeld => ?_)
            · exact (HBV4.out.block _ HGC.out).trans HLC.out
            clear hK K
            try simp only [Act.put, s1, s2, s3]
            refine wpAnyH_done (by kernel_rfl) ?_ _
            go_wp2_with fail
            go_meet
            exact ⟨pa, rfl, HAA.out, HBV4.out⟩
          · go_simp
            obtain ⟨V2, hV2⟩ : ∃ W, W = V1.alloc (.cells #[.string ⟨#[117]⟩, .string ⟨#[107]⟩] 9) := ⟨_, rfl⟩
            obtain ⟨p3, hp⟩ : ∃ p, p = V1.heap.size := ⟨_, rfl⟩
            have HBV2 := Lib.hid (show Below wd.heap.size wd V2 by rw [hV2]; exact HBV1.out.alloc HBV1.out.size _)
            have HAV2 := Lib.hid (show Below V1.heap.size V1 V2 by rw [hV2]; exact below_new _ _)
            have HS3V2 := Lib.hid (show Lies V2 p3 9 #[.string ⟨#[117]⟩, .string ⟨#[107]⟩] by rw [hV2, hp]; exact Lies.new _ _ _)
            have HP3 := Lib.hid (show wd.heap.size ≤ p3 by rw [hp]; exact HBV1.out.size)
            rw [← hV2, ← hp]
            clear hV2 hp
            have HS0V2 := Lib.hid (show Lies V2 p0 9 #[.string ⟨#[120]⟩] from (HAV2.out.block _ HS0V1.out.lt).trans HS0V1.out)
            refine hK.out _ _ ?_ (fun hHeld => ?_)
            · exact (HBV2.out.block _ HGC.out).trans HLC.out
            clear hK K
            try simp only [Act.put, s1, s2, s3]
            obtain ⟨A2, hA2, hb2⟩ := arm_bu [103, 101, 116] p3 2 HTC.out.len
            have HBUA2 := Lib.hid hb2
            have HA2E := Lib.hid hA2
            clear hA2 hb2
            refine wpAnyH_take (i := 5) (oi := ⟨some 79, _, _, _, _, _⟩) (v := .agg A2.toArray) rfl (by kernel_rfl) (by kernel_rfl) (by kernel_rfl) (fun _ _ _ h => h) (Or.inl ⟨by kernel_rfl, fun w' _ => yields_build _ _ rfl (by rw [Array.toList_map]; exact HBUA2.out) w'⟩) (by assumption) ?_
            try simp only [Act.put, s1, s2, s3]
            refine rd1 1 (some 75) rfl fun K hK => ?_
            go_simp
            refine (variable_term _ [120]).mono ?_
            rintro e V3 ⟨av, rest, rfl, hr1, hr2, hbk⟩
            obtain ⟨lx, hlx⟩ : ∃ D, D = tmL 1 av [120] [] 0 (.slice none 0 0) (.slice none 0 0) rest := ⟨_, rfl⟩
            rw [← hlx]
            have HTX := Lib.hid (show ∀ W, TA sb W (varT [120]) lx from fun W => ⟨av, _, _, rest, hlx, hr1, hr2, KidsA.none _, ArmsA.none _⟩)
            have HBV3 := Lib.hid (show Below wd.heap.size wd V3 from HBV2.out.trans (hbk.mono HBV2.out.size))
            have HAV3 := Lib.hid hbk
            clear hlx hr1 hr2 hbk
            (try dsimp only)
            have HS0V3 := Lib.hid (show Lies V3 p0 9 #[.string ⟨#[120]⟩] from (HAV3.out.block _ HS0V2.out.lt).trans HS0V2.out)
            have HS3V3 := Lib.hid (show Lies V3 p3 9 #[.string ⟨#[117]⟩, .string ⟨#[107]⟩] from (HAV3.out.block _ HS3V2.out.lt).trans HS3V2.out)
            refine hK.out _ _ ?_ (fun hHeld => ?_)
            · exact (HBV3.out.block _ HGC.out).trans HLC.out
            clear hK K
            try simp only [Act.put, s1, s2, s3]
            obtain ⟨A1, hA1, hb1⟩ := arm_bu [114, 101, 116, 117, 114, 110] p0 1 (HTX.out wd).len
            have HBUA1 := Lib.hid hb1
            have HA1E := Lib.hid hA1
            clear hA1 hb1
            refine wpAnyH_take (i := 2) (oi := ⟨some 76, _, _, _, _, _⟩) (v := .agg A1.toArray) rfl (by kernel_rfl) (by kernel_rfl) (by kernel_rfl) (fun _ _ _ h => h) (Or.inl ⟨by kernel_rfl, fun w' _ => yields_build _ _ rfl (by rw [Array.toList_map]; exact HBUA1.out) w'⟩) (by assumption) ?_
            try simp only [Act.put, s1, s2, s3]
            obtain ⟨EF, V4, pa, hV4, hpa, hfe, haa⟩ := arms_leaf (HTX.out V3) (HTC.out.later HBV3.out) HS0V3.out HS3V3.out (by have := HP0.out; have := HSD.out; omega) (by have := HP3.out; have := HSD.out; omega) (by have := HBV3.out.size; have := HSD.out; omega) HA1E.out HA2E.out
            have HFEF := Lib.hid hfe
            have HAA := Lib.hid haa
            have HBV4 := Lib.hid (show Below wd.heap.size wd V4 by rw [hV4]; exact HBV3.out.alloc HBV3.out.size _)
            refine rd1 6 (some 80) rfl fun K hK => ?_
            rw [if_pos (by kernel_rfl)]
            refine wp_buildSlice 25 35 2 _ rfl EF.toArray ia (.agg zA) Tryz.underlying25 hia haz (by rw [has]; decide) (by rw [has]; decide) (by rw [has, Array.toList_map]; exact HFEF.out) ?_
            rw [← hV4, ← hpa]
            clear hV4 hpa haa hfe
            refine hK.out _ _ ?_ (fun hHeld => ?_)
            · exact (HBV4.out.block _ HGC.out).trans HLC.out
            clear hK K
            try simp only [Act.put, s1, s2, s3]
            refine rd1 7 (some 15) rfl fun K hK => ?_
            go_simp
            refine hK.out _ _ ?_ (fun hHeld => ?_)
            · exact (HBV4.out.block _ HGC.out).trans HLC.out
            clear hK K
            try simp only [Act.put, s1, s2, s3]
            refine wpAnyH_done (by kernel_rfl) ?_ _
            go_wp2_with fail
            go_meet
            exact ⟨pa, rfl, HAA.out, HBV4.out⟩
        · go_simp
          refine (variable_term _ [120]).mono ?_
          rintro e V1 ⟨av, rest, rfl, hr1, hr2, hbk⟩
          obtain ⟨lx, hlx⟩ : ∃ D, D = tmL 1 av [120] [] 0 (.slice none 0 0) (.slice none 0 0) rest := ⟨_, rfl⟩
          rw [← hlx]
          have HTX := Lib.hid (show ∀ W, TA sb W (varT [120]) lx from fun W => ⟨av, _, _, rest, hlx, hr1, hr2, KidsA.none _, ArmsA.none _⟩)
          have HBV1 := Lib.hid (show Below wd.heap.size wd V1 from HBV0.out.trans (hbk.mono HBV0.out.size))
          have HAV1 := Lib.hid hbk
          clear hlx hr1 hr2 hbk
          (try dsimp only)
          refine hK.out _ _ ?_ (fun hHeld => ?_)
          · exact (HBV1.out.block _ HGC.out).trans HLC.out
          clear hK K
          try simp only [Act.put, s1, s2, s3]
          refine wpAnyH_ready (rs := [0, 3]) (by kernel_rfl) (by simp) ?_
          refine AllReadyH.cons (o := ⟨some 74, _, _, _, _, _⟩) rfl (fun K hK => ?_) (AllReadyH.cons (o := ⟨some 77, _, _, _, _, _⟩) rfl (fun K hK => ?_) AllReadyH.nil)
          · go_simp
            obtain ⟨V2, hV2⟩ : ∃ W, W = V1.alloc (.cells #[.string ⟨#[120]⟩] 9) := ⟨_, rfl⟩
            obtain ⟨p0, hp⟩ : ∃ p, p = V1.heap.size := ⟨_, rfl⟩
            have HBV2 := Lib.hid (show Below wd.heap.size wd V2 by rw [hV2]; exact HBV1.out.alloc HBV1.out.size _)
            have HAV2 := Lib.hid (show Below V1.heap.size V1 V2 by rw [hV2]; exact below_new _ _)
            have HS0V2 := Lib.hid (show Lies V2 p0 9 #[.string ⟨#[120]⟩] by rw [hV2, hp]; exact Lies.new _ _ _)
            have HP0 := Lib.hid (show wd.heap.size ≤ p0 by rw [hp]; exact HBV1.out.size)
            rw [← hV2, ← hp]
            clear hV2 hp
            refine hK.out _ _ ?_ (fun hHeld => ?_)
            · exact (HBV2.out.block _ HGC.out).trans HLC.out
            clear hK K
            try simp only [Act.put, s1, s2, s3]
            obtain ⟨A1, hA1, hb1⟩ := arm_bu [114, 101, 116, 117, 114, 110] p0 1 (HTX.out wd).len
            have HBUA1 := Lib.hid hb1
            have HA1E := Lib.hid hA1
            clear hA1 hb1
            refine wpAnyH_take (i := 2) (oi := ⟨some 76, _, _, _, _, _⟩) (v := .agg A1.toArray) rfl (by kernel_rfl) (by kernel_rfl) (by kernel_rfl) (fun _ _ _ h => h) (Or.inl ⟨by kernel_rfl, fun w' _ => yields_build _ _ rfl (by rw [Array.toList_map]; exact HBUA1.out) w'⟩) (by assumption) ?_
            try simp only [Act.put, s1, s2, s3]
            refine rd1 3 (some 77) rfl fun K hK => ?_
            go_simp
            obtain ⟨V3, hV3⟩ : ∃ W, W = V2.alloc (.cells #[.string ⟨#[117]⟩, .string ⟨#[107]⟩] 9) := ⟨_, rfl⟩
            obtain ⟨p3, hp⟩ : ∃ p, p = V2.heap.size := ⟨_, rfl⟩
            have HBV3 := Lib.hid (show Below wd.heap.size wd V3 by rw [hV3]; exact HBV2.out.alloc HBV2.out.size _)
            have HAV3 := Lib.hid (show Below V2.heap.size V2 V3 by rw [hV3]; exact below_new _ _)
            have HS3V3 := Lib.hid (show Lies V3 p3 9 #[.string ⟨#[117]⟩, .string ⟨#[107]⟩] by rw [hV3, hp]; exact Lies.new _ _ _)
            have HP3 := Lib.hid (show wd.heap.size ≤ p3 by rw [hp]; exact HBV2.out.size)
            rw [← hV3, ← hp]
            clear hV3 hp
            have HS0V3 := Lib.hid (show Lies V3 p0 9 #[.string ⟨#[120]⟩] from (HAV3.out.block _ HS0V2.out.lt).trans HS0V2.out)
            refine hK.out _ _ ?_ (fun hHeld => ?_)
            · exact (HBV3.out.block _ HGC.out).trans HLC.out
            clear hK K
            try simp only [Act.put, s1, s2, s3]
            obtain ⟨A2, hA2, hb2⟩ := arm_bu [103, 101, 116] p3 2 HTC.out.len
            have HBUA2 := Lib.hid hb2
            have HA2E := Lib.hid hA2
            clear hA2 hb2
            refine wpAnyH_take (i := 5) (oi := ⟨some 79, _, _, _, _, _⟩) (v := .agg A2.toArray) rfl (by kernel_rfl) (by kernel_rfl) (by kernel_rfl) (fun _ _ _ h => h) (Or.inl ⟨by kernel_rfl, fun w' _ => yields_build _ _ rfl (by rw [Array.toList_map]; exact HBUA2.out) w'⟩) (by assumption) ?_
            try simp only [Act.put, s1, s2, s3]
            obtain ⟨EF, V4, pa, hV4, hpa, hfe, haa⟩ := arms_leaf (HTX.out V3) (HTC.out.later HBV3.out) HS0V3.out HS3V3.out (by have := HP0.out; have := HSD.out; omega) (by have := HP3.out; have := HSD.out; omega) (by have := HBV3.out.size; have := HSD.out; omega) HA1E.out HA2E.out
            have HFEF := Lib.hid hfe
            have HAA := Lib.hid haa
            have HBV4 := Lib.hid (show Below wd.heap.size wd V4 by rw [hV4]; exact HBV3.out.alloc HBV3.out.size _)
            refine rd1 6 (some 80) rfl fun K hK => ?_
            rw [if_pos (by kernel_rfl)]
            refine wp_buildSlice 25 35 2 _ rfl EF.toArray ia (.agg zA) Tryz.underlying25 hia haz (by rw [has]; decide) (by rw [has]; decide) (by rw [has, Array.toList_map]; exact HFEF.out) ?_
            rw [← hV4, ← hpa]
            clear hV4 hpa haa hfe
            refine hK.out _ _ ?_ (fun hHeld => ?_)
            · exact (HBV4.out.block _ HGC.out).trans HLC.out
            clear hK K
            try simp only [Act.put, s1, s2, s3]
            refine rd1 7 (some 15) rfl fun K hK => ?_
            go_simp
            refine hK.out _ _ ?_ (fun hHeld => ?_)
            · exact (HBV4.out.block _ HGC.out).trans HLC.out
            clear hK K
            try simp only [Act.put, s1, s2, s3]
            refine wpAnyH_done (by kernel_rfl) ?_ _
            go_wp2_with fail
            go_meet
            exact ⟨pa, rfl, HAA.out, HBV4.out⟩
          · go_simp
            obtain ⟨V2, hV2⟩ : ∃ W, W = V1.alloc (.cells #[.string ⟨#[117]⟩, .string ⟨#[107]⟩] 9) := ⟨_, rfl⟩
            obtain ⟨p3, hp⟩ : ∃ p, p = V1.heap.size := ⟨_, rfl⟩
            have HBV2 := Lib.hid (show Below wd.heap.size wd V2 by rw [hV2]; exact HBV1.out.alloc HBV1.out.size _)
            have HAV2 := Lib.hid (show Below V1.heap.size V1 V2 by rw [hV2]; exact below_new _ _)
            have HS3V2 := Lib.hid (show Lies V2 p3 9 #[.string ⟨#[117]⟩, .string ⟨#[107]⟩] by rw [hV2, hp]; exact Lies.new _ _ _)
            have HP3 := Lib.hid (show wd.heap.size ≤ p3 by rw [hp]; exact HBV1.out.size)
            rw [← hV2, ← hp]
            clear hV2 hp
            refine hK.out _ _ ?_ (fun hHeld => ?_)
            · exact (HBV2.out.block _ HGC.out).trans HLC.out
            clear hK K
            try simp only [Act.put, s1, s2, s3]
            obtain ⟨A2, hA2, hb2⟩ := arm_bu [103, 101, 116] p3 2 HTC.out.len
            have HBUA2 := Lib.hid hb2
            have HA2E := Lib.hid hA2
            clear hA2 hb2
            refine wpAnyH_take (i := 5) (oi := ⟨some 79, _, _, _, _, _⟩) (v := .agg A2.toArray) rfl (by kernel_rfl) (by kernel_rfl) (by kernel_rfl) (fun _ _ _ h => h) (Or.inl ⟨by kernel_rfl, fun w' _ => yields_build _ _ rfl (by rw [Array.toList_map]; exact HBUA2.out) w'⟩) (by assumption) ?_
            try simp only [Act.put, s1, s2, s3]
            refine rd1 0 (some 74) rfl fun K hK => ?_
            go_simp
            obtain ⟨V3, hV3⟩ : ∃ W, W = V2.alloc (.cells #[.string ⟨#[120]⟩] 9) := ⟨_, rfl⟩
            obtain ⟨p0, hp⟩ : ∃ p, p = V2.heap.size := ⟨_, rfl⟩
            have HBV3 := Lib.hid (show Below wd.heap.size wd V3 by rw [hV3]; exact HBV2.out.alloc HBV2.out.size _)
            have HAV3 := Lib.hid (show Below V2.heap.size V2 V3 by rw [hV3]; exact below_new _ _)
            have HS0V3 := Lib.hid (show Lies V3 p0 9 #[.string ⟨#[120]⟩] by rw [hV3, hp]; exact Lies.new _ _ _)
            have HP0 := Lib.hid (show wd.heap.size ≤ p0 by rw [hp]; exact HBV2.out.size)
            rw [← hV3, ← hp]
            clear hV3 hp
            have HS3V3 := Lib.hid (show Lies V3 p3 9 #[.string ⟨#[117]⟩, .string ⟨#[107]⟩] from (HAV3.out.block _ HS3V2.out.lt).trans HS3V2.out)
            refine hK.out _ _ ?_ (fun hHeld => ?_)
            · exact (HBV3.out.block _ HGC.out).trans HLC.out
            clear hK K
            try simp only [Act.put, s1, s2, s3]
            obtain ⟨A1, hA1, hb1⟩ := arm_bu [114, 101, 116, 117, 114, 110] p0 1 (HTX.out wd).len
            have HBUA1 := Lib.hid hb1
            have HA1E := Lib.hid hA1
            clear hA1 hb1
            refine wpAnyH_take (i := 2) (oi := ⟨some 76, _, _, _, _, _⟩) (v := .agg A1.toArray) rfl (by kernel_rfl) (by kernel_rfl) (by kernel_rfl) (fun _ _ _ h => h) (Or.inl ⟨by kernel_rfl, fun w' _ => yields_build _ _ rfl (by rw [Array.toList_map]; exact HBUA1.out) w'⟩) (by assumption) ?_
            try simp only [Act.put, s1, s2, s3]
            obtain ⟨EF, V4, pa, hV4, hpa, hfe, haa⟩ := arms_leaf (HTX.out V3) (HTC.out.later HBV3.out) HS0V3.out HS3V3.out (by have := HP0.out; have := HSD.out; omega) (by have := HP3.out; have := HSD.out; omega) (by have := HBV3.out.size; have := HSD.out; omega) HA1E.out HA2E.out
            have HFEF := Lib.hid hfe
            have HAA := Lib.hid haa
            have HBV4 := Lib.hid (show Below wd.heap.size wd V4 by rw [hV4]; exact HBV3.out.alloc HBV3.out.size _)
            refine rd1 6 (some 80) rfl fun K hK => ?_
            rw [if_pos (by kernel_rfl)]
            refine wp_buildSlice 25 35 2 _ rfl EF.toArray ia (.agg zA) Tryz.underlying25 hia haz (by rw [has]; decide) (by rw [has]; decide) (by rw [has, Array.toList_map]; exact HFEF.out) ?_
            rw [← hV4, ← hpa]
            clear hV4 hpa haa hfe
            refine hK.out _ _ ?_ (fun hHeld => ?_)
            · exact (HBV4.out.block _ HGC.out).trans HLC.out
            clear hK K
            try simp only [Act.put, s1, s2, s3]
            refine rd1 7 (some 15) rfl fun K hK => ?_
            go_simp
            refine hK.out _ _ ?_ (fun hHeld => ?_)
            · exact (HBV4.out.block _ HGC.out).trans HLC.out
            clear hK K
            try simp only [Act.put, s1, s2, s3]
            refine wpAnyH_done (by kernel_rfl) ?_ _
            go_wp2_with fail
            go_meet
            exact ⟨pa, rfl, HAA.out, HBV4.out⟩
        · go_simp
          obtain ⟨V1, hV1⟩ : ∃ W, W = V0.alloc (.cells #[.string ⟨#[117]⟩, .string ⟨#[107]⟩] 9) := ⟨_, rfl⟩
          obtain ⟨p3, hp⟩ : ∃ p, p = V0.heap.size := ⟨_, rfl⟩
          have HBV1 := Lib.hid (show Below wd.heap.size wd V1 by rw [hV1]; exact HBV0.out.alloc HBV0.out.size _)
          have HAV1 := Lib.hid (show Below V0.heap.size V0 V1 by rw [hV1]; exact below_new _ _)
          have HS3V1 := Lib.hid (show Lies V1 p3 9 #[.string ⟨#[117]⟩, .string ⟨#[107]⟩] by rw [hV1, hp]; exact Lies.new _ _ _)
          have HP3 := Lib.hid (show wd.heap.size ≤ p3 by rw [hp]; exact HBV0.out.size)
          rw [← hV1, ← hp]
          clear hV1 hp
          refine hK.out _ _ ?_ (fun hHeld => ?_)
          · exact (HBV1.out.block _ HGC.out).trans HLC.out
          clear hK K
          try simp only [Act.put, s1, s2, s3]
          obtain ⟨A2, hA2, hb2⟩ := arm_bu [103, 101, 116] p3 2 HTC.out.len
          have HBUA2 := Lib.hid hb2
          have HA2E := Lib.hid hA2
          clear hA2 hb2
          refine wpAnyH_take (i := 5) (oi := ⟨some 79, _, _, _, _, _⟩) (v := .agg A2.toArray) rfl (by kernel_rfl) (by kernel_rfl) (by kernel_rfl) (fun _ _ _ h => h) (Or.inl ⟨by kernel_rfl, fun w' _ => yields_build _ _ rfl (by rw [Array.toList_map]; exact HBUA2.out) w'⟩) (by assumption) ?_
          try simp only [Act.put, s1, s2, s3]
          refine wpAnyH_ready (rs := [0, 1]) (by kernel_rfl) (by simp) ?_
          refine AllReadyH.cons (o := ⟨some 74, _, _, _, _, _⟩) rfl (fun K hK => ?_) (AllReadyH.cons (o := ⟨some 75, _, _, _, _, _⟩) rfl (fun K hK => ?_) AllReadyH.nil)
          · go_simp
            obtain ⟨V2, hV2⟩ : ∃ W, W = V1.alloc (.cells #[.string ⟨#[120]⟩] 9) := ⟨_, rfl⟩
            obtain ⟨p0, hp⟩ : ∃ p, p = V1.heap.size := ⟨_, rfl⟩
            have HBV2 := Lib.hid (show Below wd.heap.size wd V2 by rw [hV2]; exact HBV1.out.alloc HBV1.out.size _)
            have HAV2 := Lib.hid (show Below V1.heap.size V1 V2 by rw [hV2]; exact below_new _ _)
            have HS0V2 := Lib.hid (show Lies V2 p0 9 #[.string ⟨#[120]⟩] by rw [hV2, hp]; exact Lies.new _ _ _)
            have HP0 := Lib.hid (show wd.heap.size ≤ p0 by rw [hp]; exact HBV1.out.size)
            rw [← hV2, ← hp]
            clear hV2 hp
            have HS3V2 := Lib.hid (show Lies V2 p3 9 #[.string ⟨#[117]⟩, .string ⟨#[107]⟩] from (HAV2.out.block _ HS3V1.out.lt).trans HS3V1.out)
            refine hK.out _ _ ?_ (fun hHeld => ?_)
            · exact (HBV2.out.block _ HGC.out).trans HLC.out
            clear hK K
            try simp only [Act.put, s1, s2, s3]
            refine rd1 1 (some 75) rfl fun K hK => ?_
            go_simp
            refine (variable_term _ [120]).mono ?_
            rintro e V3 ⟨av, rest, rfl, hr1, hr2, hbk⟩
            obtain ⟨lx, hlx⟩ : ∃ D, D = tmL 1 av [120] [] 0 (.slice none 0 0) (.slice none 0 0) rest := ⟨_, rfl⟩
            rw [← hlx]
            have HTX := Lib.hid (show ∀ W, TA sb W (varT [120]) lx from fun W => ⟨av, _, _, rest, hlx, hr1, hr2, KidsA.none _, ArmsA.none _⟩)
            have HBV3 := Lib.hid (show Below wd.heap.size wd V3 from HBV2.out.trans (hbk.mono HBV2.out.size))
            have HAV3 := Lib.hid hbk
            clear hlx hr1 hr2 hbk
            (try dsimp only)
            have HS3V3 := Lib.hid (show Lies V3 p3 9 #[.string ⟨#[117]⟩, .string ⟨#[107]⟩] from (HAV3.out.block _ HS3V2.out.lt).trans HS3V2.out)
            have HS0V3 := Lib.hid (show Lies V3 p0 9 #[.string ⟨#[120]⟩] from (HAV3.out.block _ HS0V2.out.lt).trans HS0V2.out)
            refine hK.out _ _ ?_ (fun hHeld => ?_)
            · exact (HBV3.out.block _ HGC.out).trans HLC.out
            clear hK K
            try simp only [Act.put, s1, s2, s3]
            obtain ⟨A1, hA1, hb1⟩ := arm_bu [114, 101, 116, 117, 114, 110] p0 1 (HTX.out wd).len
            have HBUA1 := Lib.hid hb1
            have HA1E := Lib.hid hA1
            clear hA1 hb1
            refine wpAnyH_take (i := 2) (oi := ⟨some 76, _, _, _, _, _⟩) (v := .agg A1.toArray) rfl (by kernel_rfl) (by kernel_rfl) (by kernel_rfl) (fun _ _ _ h => h) (Or.inl ⟨by kernel_rfl, fun w' _ => yields_build _ _ rfl (by rw [Array.toList_map]; exact HBUA1.out) w'⟩) (by assumption) ?_
            try simp only [Act.put, s1, s2, s3]
            obtain ⟨EF, V4, pa, hV4, hpa, hfe, haa⟩ := arms_leaf (HTX.out V3) (HTC.out.later HBV3.out) HS0V3.out HS3V3.out (by have := HP0.out; have := HSD.out; omega) (by have := HP3.out; have := HSD.out; omega) (by have := HBV3.out.size; have := HSD.out; omega) HA1E.out HA2E.out
            have HFEF := Lib.hid hfe
            have HAA := Lib.hid haa
            have HBV4 := Lib.hid (show Below wd.heap.size wd V4 by rw [hV4]; exact HBV3.out.alloc HBV3.out.size _)
            refine rd1 6 (some 80) rfl fun K hK => ?_
            rw [if_pos (by kernel_rfl)]
            refine wp_buildSlice 25 35 2 _ rfl EF.toArray ia (.agg zA) Tryz.underlying25 hia haz (by rw [has]; decide) (by rw [has]; decide) (by rw [has, Array.toList_map]; exact HFEF.out) ?_
            rw [← hV4, ← hpa]
            clear hV4 hpa haa hfe
            refine hK.out _ _ ?_ (fun hHeld => ?_)
            · exact (HBV4.out.block _ HGC.out).trans HLC.out
            clear hK K
            try simp only [Act.put, s1, s2, s3]
            refine rd1 7 (some 15) rfl fun K hK => ?_
            go_simp
            refine hK.out _ _ ?_ (fun hHeld => ?_)
            · exact (HBV4.out.block _ HGC.out).trans HLC.out
            clear hK K
            try simp only [Act.put, s1, s2, s3]
            refine wpAnyH_done (by kernel_rfl) ?_ _
            go_wp2_with fail
            go_meet
            exact ⟨pa, rfl, HAA.out, HBV4.out⟩
          · go_simp
            refine (variable_term _ [120]).mono ?_
            rintro e V2 ⟨av, rest, rfl, hr1, hr2, hbk⟩
            obtain ⟨lx, hlx⟩ : ∃ D, D = tmL 1 av [120] [] 0 (.slice none 0 0) (.slice none 0 0) rest := ⟨_, rfl⟩
            rw [← hlx]
            have HTX := Lib.hid (show ∀ W, TA sb W (varT [120]) lx from fun W => ⟨av, _, _, rest, hlx, hr1, hr2, KidsA.none _, ArmsA.none _⟩)
            have HBV2 := Lib.hid (show Below wd.heap.size wd V2 from HBV1.out.trans (hbk.mono HBV1.out.size))
            have HAV2 := Lib.hid hbk
            clear hlx hr1 hr2 hbk
            (try dsimp only)
            have HS3V2 := Lib.hid (show Lies V2 p3 9 #[.string ⟨#[117]⟩, .string ⟨#[107]⟩] from (HAV2.out.block _ HS3V1.out.lt).trans HS3V1.out)
            refine hK.out _ _ ?_ (fun hHeld => ?_)
            · exact (HBV2.out.block _ HGC.out).trans HLC.out
            clear hK K
            try simp only [Act.put, s1, s2, s3]
            refine rd1 0 (some 74) rfl fun K hK => ?_
            go_simp
            obtain ⟨V3, hV3⟩ : ∃ W, W = V2.alloc (.cells #[.string ⟨#[120]⟩] 9) := ⟨_, rfl⟩
            obtain ⟨p0, hp⟩ : ∃ p, p = V2.heap.size := ⟨_, rfl⟩
            have HBV3 := Lib.hid (show Below wd.heap.size wd V3 by rw [hV3]; exact HBV2.out.alloc HBV2.out.size _)
            have HAV3 := Lib.hid (show Below V2.heap.size V2 V3 by rw [hV3]; exact below_new _ _)
            have HS0V3 := Lib.hid (show Lies V3 p0 9 #[.string ⟨#[120]⟩] by rw [hV3, hp]; exact Lies.new _ _ _)
            have HP0 := Lib.hid (show wd.heap.size ≤ p0 by rw [hp]; exact HBV2.out.size)
            rw [← hV3, ← hp]
            clear hV3 hp
            have HS3V3 := Lib.hid (show Lies V3 p3 9 #[.string ⟨#[117]⟩, .string ⟨#[107]⟩] from (HAV3.out.block _ HS3V2.out.lt).trans HS3V2.out)
            refine hK.out _ _ ?_ (fun hHeld => ?_)
            · exact (HBV3.out.block _ HGC.out).trans HLC.out
            clear hK K
            try simp only [Act.put, s1, s2, s3]
            obtain ⟨A1, hA1, hb1⟩ := arm_bu [114, 101, 116, 117, 114, 110] p0 1 (HTX.out wd).len
            have HBUA1 := Lib.hid hb1
            have HA1E := Lib.hid hA1
            clear hA1 hb1
            refine wpAnyH_take (i := 2) (oi := ⟨some 76, _, _, _, _, _⟩) (v := .agg A1.toArray) rfl (by kernel_rfl) (by kernel_rfl) (by kernel_rfl) (fun _ _ _ h => h) (Or.inl ⟨by kernel_rfl, fun w' _ => yields_build _ _ rfl (by rw [Array.toList_map]; exact HBUA1.out) w'⟩) (by assumption) ?_
            try simp only [Act.put, s1, s2, s3]
            obtain ⟨EF, V4, pa, hV4, hpa, hfe, haa⟩ := arms_leaf (HTX.out V3) (HTC.out.later HBV3.out) HS0V3.out HS3V3.out (by have := HP0.out; have := HSD.out; omega) (by have := HP3.out; have := HSD.out; omega) (by have := HBV3.out.size; have := HSD.out; omega) HA1E.out HA2E.out
            have HFEF := Lib.hid hfe
            have HAA := Lib.hid haa
            have HBV4 := Lib.hid (show Below wd.heap.size wd V4 by rw [hV4]; exact HBV3.out.alloc HBV3.out.size _)
            refine rd1 6 (some 80) rfl fun K hK => ?_
            rw [if_pos (by kernel_rfl)]
            refine wp_buildSlice 25 35 2 _ rfl EF.toArray ia (.agg zA) Tryz.underlying25 hia haz (by rw [has]; decide) (by rw [has]; decide) (by rw [has, Array.toList_map]; exact HFEF.out) ?_
            rw [← hV4, ← hpa]
            clear hV4 hpa haa hfe
            refine hK.out _ _ ?_ (fun hHeld => ?_)
            · exact (HBV4.out.block _ HGC.out).trans HLC.out
            clear hK K
            try simp only [Act.put, s1, s2, s3]
            refine rd1 7 (some 15) rfl fun K hK => ?_
            go_simp
            refine hK.out _ _ ?_ (fun hHeld => ?_)
            · exact (HBV4.out.block _ HGC.out).trans HLC.out
            clear hK K
            try simp only [Act.put, s1, s2, s3]
            refine wpAnyH_done (by kernel_rfl) ?_ _
            go_wp2_with fail
            go_meet
            exact ⟨pa, rfl, HAA.out, HBV4.out⟩
      obtain ⟨pa, rfl, haa, hbe⟩ := hcut
      obtain ⟨we, rfl⟩ : ∃ W, W = wc := ⟨_, rfl⟩
      have hbre : Below wr.heap.size wr we := HBB.out.trans ((HBC.out.trans (hbe.mono HBC.out.size)).mono HBB.out.size)
      obtain ⟨EH, hEH⟩ : ∃ D : List Value, D = [C].flatten := ⟨_, rfl⟩
      obtain ⟨DH, hDH⟩ : ∃ D : List Value, D = So.tC 14 [69] 0 (.slice (some ⟨we.heap.size, 0, none⟩) 1 1) (.slice (some ⟨pa, 0, none⟩) 2 2) := ⟨_, rfl⟩
      have HFEH := Lib.hid (show Instr.fill (fun i => some (i * 21, 21)) ((Array.range (1 * 21)).map ((Value.agg zC).cells[· % (Value.agg zC).cells.size]!)) [(0, Value.agg C.toArray)] = some EH.toArray by rw [hEH]; exact fill_one' C HFC.out.len _ (by simp))
      have HBUDH := Lib.hid (show Tryz.prog.built 33 [(0, .int .i64 14), (2, .string ⟨#[69]⟩), (5, .slice (some ⟨we.heap.size, 0, none⟩) 1 1), (6, .slice (some ⟨pa, 0, none⟩) 2 2)] = some DH.toArray by rw [hDH]; exact bu_hand 14 [69] _ _ 1 1 2 2)
      have hle : Lies we sb 33 C.toArray := (hbre.block _ HTB.out).trans HL.out
      have hth : TA sb (we.alloc (.cells EH.toArray 33)) (nestT askU (prs xs bs nn (q + 1))) DH := by
        rw [HP.out, nest_snoc, hDH]
        exact TA.tC (kids_one (HTA.out.later hbre) (by have := hbre.size; have := HTB.out; omega) hEH) (haa.le (memX_le (below_new we (.cells EH.toArray 33))))
      have hl2 : Lies (we.alloc (.cells EH.toArray 33)) sb 33 C.toArray := hle.alloc _
      obtain ⟨WG, hWG⟩ : ∃ W, W = (we.alloc (.cells EH.toArray 33)).setRow sb DH.toArray := ⟨_, rfl⟩
      have HTN := Lib.hid (show TA sb WG (nestT askU (prs xs bs nn (q + 1))) DH by rw [hWG]; exact hth.set _)
      have HLN := Lib.hid (show Lies WG sb 33 DH.toArray by rw [hWG]; exact lies_setRow' hl2 _)
      have HKN := Lib.hid (show KX sb W6 WG by rw [hWG]; exact ((HKX.out.below hbre).below (below_new we _)).set _)
      have HFDH := Lib.hid hth.tmF
      have HCDH := Lib.hid (show C.toArray.size = DH.toArray.size by simp [HFC.out.len, hth.len])
      have HLE := Lib.hid hle
      have HL2 := Lib.hid hl2
      have HWG := Lib.hid hWG
      clear hbre hEH hDH hle hth hl2 hWG haa hbe
      go_wp2_with (first
        | ((with_reducible show wpList _ _ _ (⟨some 81, Op.load _ _, _, _, _, _⟩ :: _) _ _); refine wpList_load_row rfl 33 (.tmp 8) rfl sb rfl 33 C.toArray (0, 0) _ ?_ Tryz.underlying33 rfl HFC.out.size ?_; exact HLE.out)
        | ((with_reducible show wpList _ _ _ (⟨some 82, Op.buildSlice _ _ _, _, _, _, _⟩ :: _) _ _); refine wpList_buildSlice rfl 24 33 1 _ rfl EH.toArray ie (.agg zC) Tryz.underlying24 hie hiz (by rw [his]; decide) (by rw [his]; decide) (by rw [his, Array.toList_map]; exact HFEH.out) ?_)
        | ((with_reducible show wpList _ _ _ (⟨some 84, Op.build _ _, _, _, _, _⟩ :: _) _ _); refine wpList_buildTo rfl 33 _ rfl DH.toArray (by rw [Array.toList_map]; exact HBUDH.out) ?_)
        | ((with_reducible show wpList _ _ _ (⟨none, Op.store _ _ _, _, _, _, _⟩ :: _) _ _); refine wpList_store_rowTo rfl 33 (.tmp 8) (.tmp 84) rfl rfl sb DH.toArray rfl rfl 33 _ ?_ HFDH.out.size HCDH.out HFDH.out.one ?_; exact HL2.out; rw [← HWG.out]))
      go_roundw
      case rel => exact ⟨q + 1, DH, by omega, by rw [← HS2.out], by rw [← HS2.out], by go_num, HTN.out, HLN.out, HKN.out⟩
      case measure => (simp [intOf] <;> omega)
    · obtain rfl : q = nn := by omega
      have hqi : ¬ (q : Int) < (q : Int) := by omega
      have HCALL := Lib.hid (nests_call HTA.out HTB.out (by omega) hn10 HI64.out)
      have HBP := Lib.hid (built_prog C HFC.out.len)
      have HWR := Lib.hid (HKX.out.all HB6.out HZ6.out.2.1)
      go_wp2_with (first
        | ((with_reducible show wpList _ _ _ (⟨some 85, Op.load _ _, _, _, _, _⟩ :: _) _ _); refine wpList_load_row rfl 33 (.tmp 8) rfl sb rfl 33 C.toArray (0, 0) _ ?_ Tryz.underlying33 rfl HFC.out.size ?_; exact HL.out)
        | ((with_reducible show wpList _ _ _ (⟨some 86, Op.build _ _, _, _, _, _⟩ :: _) _ _); refine wpList_buildTo rfl 47 _ rfl ([Value.slice none 0 0, Value.slice none 0 0] ++ C).toArray (by rw [Array.toList_map]; exact HBP.out) ?_))
      refine HCALL.out.mono ?_
      rintro e w7 ⟨A7, m7, c7, st7, ko7, rfl, hb7⟩
      rw [← HS.out]
      obtain ⟨R7, hR7⟩ : ∃ R, R = runL 1 1 wn (.slice A7 m7 c7) st7 ko7 := ⟨_, rfl⟩
      dsimp only
      rw [← hR7]
      obtain ⟨W7, hW7, hbW7, hzW7, lW7⟩ := keep_run w7 R7
      have HSZ7 := Lib.hid (show (Tryz.prog.info? 42).map (·.size) = some R7.size by rw [szRun, hR7]; rfl)
      have HON7 := Lib.hid (show R7.all (·.oneCell') = true by rw [hR7]; simp [runL, Value.oneCell'])
      have HZZ7 := Lib.hid (show (#[.int .i64 0, .int .i64 0, .int .i64 0, .string ⟨#[]⟩, .slice none 0 0, .slice none 0 0, .int .i64 0, .int .i64 0] : Array Value).size = R7.size by rw [hR7]; rfl)
      have HR7 := Lib.hid hR7
      have HW7 := Lib.hid hW7
      have LW7 := Lib.hid lW7
      have LV7 := Lib.hid (Lies.new w7 42 #[.int .i64 0, .int .i64 0, .int .i64 0, .string ⟨#[]⟩, .slice none 0 0, .slice none 0 0, .int .i64 0, .int .i64 0])
      have HB7 := Lib.hid (show Below w.heap.size w W7 from (HWR.out.trans (hb7.mono HWR.out.size)).trans (hbW7.mono (by have := HWR.out.size; have := hb7.size; omega)))
      clear hb7 hR7 hW7 hbW7 hzW7 lW7 hqi
      go_upto_region 23 with (refine wpList_store_rowTo rfl 42 (.tmp 16) (.tmp 87) rfl rfl w7.heap.size R7 rfl rfl 42 _ ?_ HSZ7.out HZZ7.out HON7.out ?_; exact LV7.out; rw [← HW7.out])
      have e0 : W7.cell? ⟨w7.heap.size, 0, none⟩ = some (.int .i64 1) := by rw [LW7.out.cell, HR7.out]; rfl
      have e2 : W7.cell? ⟨w7.heap.size, 2, none⟩ = some (.int .i64 wn) := by rw [LW7.out.cell, HR7.out]; rfl
      go_wp2
      go_ret
      exact ⟨rfl, HB7.out⟩
end So
end Go.Proofs.YtfkakmafedhgdaaGreatDoor.K
