/- SourceAnswers: who resumes at once with a number has answered with it. -/
import Derived.Test.YtfkakmafedhgdaaGreatDoorSoBg
import Derived.Test.YtfkakmafedhgdaaGreatDoorMg30
namespace Go.Proofs.YtfkakmafedhgdaaGreatDoor.K
open Go Go.RowKit
namespace So

theorem src_slice {w : World} {v : Value} {xs : List Int} (h : SrcV w v (xs.map (Value.int .i64 ·))) : ∃ A c, v = .slice A xs.length c ∧ xs.length ≤ c ∧ (0 < xs.length → ∃ ad, A = some ad ∧ ∀ (j : Nat) x, xs[j]? = some x → w.cell? (ad.add j) = some (.int .i64 x)) := by
  rcases h with ⟨rfl, h0⟩ | ⟨ad, c, rfl, h1, h2⟩
  · obtain rfl : xs = [] := by simpa using h0
    exact ⟨_, 0, rfl, Nat.le_refl _, fun h => absurd h (by simp)⟩
  · rw [List.length_map] at h1 ⊢
    exact ⟨some ad, c, rfl, h1, fun _ => ⟨ad, rfl, fun j x hx => h2 j _ (by rw [List.getElem?_map, hx]; rfl)⟩⟩
def wantR (m : Int) : List Int → Int
  | [] => 0
  | x :: r => wrap64 (wrap64 (wantR m r + x) + m)
theorem want_sum (m : Int) : ∀ R : List Int, wantR m R = sumV m R
  | [] => rfl
  | x :: r => by
    show wrap64 (wrap64 (wantR m r + x) + m) = wrap64 (sumV m r + wrap64 (x + m))
    rw [want_sum m r]
    unfold wrap64
    omega
theorem empty_run (m : Int) (stops : Bool) (n : Nat) (hn : 200 ≤ n) : ∃ f, Res (start (handT (sumR []) (armsA stops m)) []) n f ∧ f.out = 1 ∧ f.at_ = none ∧ f.val = .lit 1 0 ∧ f.konts = 0 ∧ f.trace = [] := by
  obtain ⟨k, rfl⟩ : ∃ k, n = k + 1 + 1 + 1 + 1 := ⟨n - 4, by omega⟩
  have hh : [((armsA stops m, ([] : Env)), ([] : List Frame))].length ≤ 1000 := by show 1 ≤ 1000; omega
  refine ⟨⟨none, .lit 1 0, [], [], [], [], [], 1, 0 + 1 + 1 + 1 + 1, 0⟩, ?_, rfl, rfl, rfl, rfl, rfl⟩
  show Res ⟨some (handT (sumR []) (armsA stops m), []), unitV, [], [], [], [], [], 0, 0, 0⟩ _ _
  refine Res.one (s' := ⟨some (sumR [], []), unitV, [], [((armsA stops m, []), [])], [], [], [], 0, 0 + 1, 0⟩) (ok_h (Nat.zero_le _) (by omega) rfl) rfl rfl ?_
  refine Res.one (s' := ⟨none, .lit 1 0, [], [((armsA stops m, []), [])], [], [], [], 0, 0 + 1 + 1, 0⟩) (ok_h hh (by omega) rfl) rfl rfl ?_
  refine Res.one (s' := ⟨some (varT [120], [([120], .lit 1 0)]), .lit 1 0, [], [], [], [], [], 0, 0 + 1 + 1 + 1, 0⟩) (ok_h hh (by omega) rfl) rfl rfl ?_
  refine Res.one (ok_h (Nat.zero_le _) (by omega) rfl) rfl rfl ?_
  exact Res.over (okB_mk (Nat.zero_le _) (Nat.zero_le _) (Nat.zero_le _) (Nat.zero_le _) rfl) (by show (1 : Int) ≠ 0; decide) k
/-- What the law wants of a run. -/
def wantN (m : Int) (stops : Bool) (xs : List Int) : Int := match stops, xs with
  | true, x :: _ => addV x m
  | true, [] => 0
  | false, xs => sumV m xs.reverse
def kontN (stops : Bool) (xs : List Int) : Nat := match stops with | true => min xs.length 1 | false => xs.length
theorem law_run (m : Int) (stops : Bool) (xs : List Int) (hx : xs.length ≤ 9) : ∃ f, Res (start (handT (sumR xs.reverse) (armsA stops m)) []) 1500 f ∧ f.out = 1 ∧ f.at_ = none ∧ f.val = .lit 1 (wantN m stops xs) ∧ f.konts = kontN stops xs ∧ f.trace = [] := by
  cases stops with
  | false =>
    obtain ⟨f, h1, h2, h3, h4, h5, h6⟩ := answers_run m xs.reverse 1500 (by simpa using hx) (by omega)
    exact ⟨f, h1, h2, h3, h4, by rw [h5, List.length_reverse]; rfl, h6⟩
  | true =>
    cases xs with
    | nil => exact empty_run m true 1500 (by omega)
    | cons x r =>
      obtain ⟨f, h1, h2, h3, h4, h5, h6⟩ := stops_run m x r.reverse 1500 (by simp at hx ⊢; omega) (by omega)
      exact ⟨f, by rw [List.reverse_cons]; exact h1, h2, h3, h4, by rw [h5]; simp [kontN], h6⟩
theorem answers_call {X : Nat} {w : World} {m : Int} {stops : Bool} {xs : List Int} {C : List Value} (hta : TA X w (handT (sumR xs.reverse) (armsA stops m)) C) (hX : X < w.heap.size) (hx : xs.length ≤ 9) :
    Calls Tryz.prog 9 #[.agg ([Value.slice none 0 0, Value.slice none 0 0] ++ C).toArray, .slice none 0 0, .int .i64 1500] w fun e w' => ∃ A c st, e = .returned (.agg (runL 1 1 (wantN m stops xs) (.slice A 0 c) st (kontN stops xs))) ∧ Below w.heap.size w w' := by
  obtain ⟨f, hres, e1, e2, e3, e4, e5⟩ := law_run m stops xs hx
  have hrun : run 1500 (start (handT (sumR xs.reverse) (armsA stops m)) []) = f := hres.2
  refine (run_val w _ (.slice none 0 0) 1500 (by omega) (prog_tm hta hX) (in_nil _) hres.1 (k' := 1) (n' := wantN m stops xs) (by rw [hrun]; exact ⟨e1, e2, e3⟩)).mono fun e w' h => ?_
  rw [hrun] at h
  obtain ⟨tv, rfl, hown, hb⟩ := h
  rw [e5] at hown
  rcases own_cells hown with ⟨rfl, _⟩ | ⟨g, c, rfl, _⟩
  · exact ⟨none, 0, f.steps, by rw [e1, e4], hb⟩
  · exact ⟨_, c, f.steps, by rw [e1, e4]; rfl, hb⟩
set_option maxRecDepth 100000 in
set_option maxHeartbeats 8000000 in
theorem sourceAnswers_any (v : Value) (xs : List Int) (m : Int) (stops : Bool) (w : World) (hv : SrcV w v (xs.map (Value.int .i64 ·))) (hG : Good w) (hl : xs.length ≤ 140737488351232) :
    Calls Tryz.prog 3 #[v, .int .i64 m, .bool stops] w fun e w' => e = .returned (.bool true) ∧ Below w.heap.size w w' := by
  obtain ⟨ie, hie, hiz, his⟩ := info39
  obtain ⟨ia, hia, haz, has⟩ := info_armE
  obtain ⟨A, c, rfl, hlc, hcell⟩ := src_slice hv
  obtain ⟨nn, hnn⟩ : ∃ n, n = min xs.length 9 := ⟨_, rfl⟩
  have hmin : min (xs.length : Int) 9 = (nn : Int) := by omega
  have hn9 : nn ≤ 9 := by omega
  have hnl : nn ≤ xs.length := by omega
  have HSH := Lib.hid (shown_any w hG)
  have HCELL := Lib.hid hcell
  have HNN := Lib.hid hnn
  clear hv hcell hG hnn
  go_enter Tryz.func3, Tryz.ntmps3
  go_wp2_with fail
  refine HSH.out.mono ?_
  rintro e w1 ⟨rfl, hb1⟩
  obtain ⟨D0, hD0⟩ : ∃ D : List Value, D = So.tC 2 [] 0 nilS nilS := ⟨_, rfl⟩
  obtain ⟨sb, hsb⟩ : ∃ b, b = w1.heap.size := ⟨_, rfl⟩
  have HBUD0 := Lib.hid (show Tryz.prog.built 33 [(0, .int .i64 2)] = some D0.toArray by rw [hD0]; exact bu_num0)
  obtain ⟨W2, hW2, hbW2, hzW2, lW2⟩ := keep_term (w1) D0.toArray
  have LZW2 := Lib.hid (Lies.new' (w1) 33 zC (N := sb) (by rw [hsb]))
  have HEW2 := Lib.hid (show W2 = (w1.alloc (.cells zC 33)).setRow (sb) D0.toArray by rw [hW2, show (w1).heap.size = sb by rw [hsb]])
  have hta0 : TA sb W2 (numT 0) D0 := by rw [hD0]; exact TA.tC (KidsA.none _) (ArmsA.none _)
  have HFD0 := Lib.hid hta0.tmF
  have HFD0Z := Lib.hid hta0.tmF.zero
  have HTA0 := Lib.hid hta0
  have HL0 := Lib.hid (show Lies W2 sb 33 D0.toArray by rw [hsb]; exact lW2)
  have HZ2 := Lib.hid (show sb < W2.heap.size by omega)
  have HB2 := Lib.hid (show Below w.heap.size w W2 from hb1.trans (hbW2.mono hb1.size))
  have HWS := Lib.hid (show w.heap.size ≤ sb by have := hb1.size; omega)
  have HSB := Lib.hid hsb
  clear hD0 hsb hW2 hbW2 hzW2 lW2 hta0 hb1
  unfold zC at LZW2 HEW2 HFD0Z
  go_wp2_with (first
    | ((with_reducible show wpList _ _ _ (⟨some 20, Op.build _ _, _, _, _, _⟩ :: _) _ _); refine wpList_buildTo rfl 33 _ rfl D0.toArray (by rw [Array.toList_map]; exact HBUD0.out) ?_)
    | ((with_reducible show wpList _ _ _ (⟨none, Op.store _ _ _, _, _, _, _⟩ :: _) _ _); refine wpList_store_rowTo rfl 33 (.tmp 8) (.tmp 20) rfl rfl w1.heap.size D0.toArray rfl rfl 33 _ ?_ HFD0.out.size HFD0Z.out HFD0.out.one ?_; rw [← HSB.out]; exact LZW2.out; rw [← HSB.out, ← HEW2.out]))
  go_loopw [9, 11, 12] (fun a x _ wr => ∃ (q : Nat) (C : List Value), q ≤ nn ∧ a = .int .i64 (wantR m (xs.take q).reverse) ∧ x = .int .i64 (q : Int) ∧ TA sb wr (sumR (xs.take q).reverse) C ∧ Lies wr sb 33 C.toArray ∧ KX sb W2 wr) (fun _ x _ _ => nn - (intOf x).toNat)
  case atStart => exact ⟨0, D0, Nat.zero_le _, by simp [wantR], rfl, by rw [show (xs.take 0).reverse = [] by simp]; exact HTA0.out, HL0.out, KX.refl _ _⟩
  case round =>
    obtain ⟨q, C, hq, rfl, rfl, hta, hlies, hkx⟩ := hrel
    have HTA := Lib.hid hta
    have HL := Lib.hid hlies
    have HKX := Lib.hid hkx
    have HFC := Lib.hid hta.tmF
    have HTB := Lib.hid (show sb < wr.heap.size by have := HZ2.out; have := hkx.size; omega)
    clear hta hlies hkx
    by_cases hlt : q < nn
    · obtain ⟨ad, rfl, had⟩ := HCELL.out (by omega)
      obtain ⟨x, hx⟩ : ∃ x, xs[q]? = some x := ⟨_, List.getElem?_eq_getElem (by omega)⟩
      have hR : (xs.take (q + 1)).reverse = x :: (xs.take q).reverse := by rw [List.take_add_one, hx]; simp
      have hwr : Below w.heap.size w wr := HKX.out.all HB2.out HWS.out
      have hc0 := (hwr.cell (p := ad.add q) (World.block_lt_of_cell? _ _ (had q x hx))).trans (had q x hx)
      have hqi : (q : Int) < (nn : Int) := by omega
      have hqx : q < xs.length := by omega
      obtain ⟨wn, hwn⟩ : ∃ n, n = wantR m (xs.take q).reverse := ⟨_, rfl⟩
      rw [← hwn]
      obtain ⟨R, hRR⟩ : ∃ R, R = (xs.take q).reverse := ⟨_, rfl⟩
      rw [← hRR] at hR hwn
      have HTA2 := Lib.hid (show TA sb wr (sumR R) C by rw [hRR]; exact HTA.out)
      have HR := Lib.hid hR
      have HWN := Lib.hid hwn
      have HAD := Lib.hid had
      have HX := Lib.hid hx
      clear hR hwn hRR had hx hwr
      obtain ⟨D1, hD1⟩ : ∃ D : List Value, D = So.tC 2 [] x nilS nilS := ⟨_, rfl⟩
      obtain ⟨E1, hE1⟩ : ∃ D : List Value, D = [D1].flatten := ⟨_, rfl⟩
      obtain ⟨D2, hD2⟩ : ∃ D : List Value, D = So.tC 13 [103, 101, 116] 0 (.slice (some ⟨wr.heap.size, 0, none⟩) 1 1) nilS := ⟨_, rfl⟩
      have ht1 : TA sb wr (numT x) D1 := by rw [hD1]; exact TA.tC (KidsA.none _) (ArmsA.none _)
      have ht2 : TA sb (wr.alloc (.cells E1.toArray 33)) (askT x) D2 := by rw [hD2]; exact TA.tC (kids_one ht1 (by have := HTB.out; omega) hE1) (ArmsA.none _)
      have HBUD1 := Lib.hid (show Tryz.prog.built 33 [(0, .int .i64 2), (4, .int .i64 x)] = some D1.toArray by rw [hD1]; exact bu_num x)
      have HFE1 := Lib.hid (show Instr.fill (fun i => some (i * 21, 21)) ((Array.range (1 * 21)).map ((Value.agg zC).cells[· % (Value.agg zC).cells.size]!)) [(0, Value.agg D1.toArray)] = some E1.toArray by rw [hE1]; exact fill_one' D1 ht1.len _ (by simp))
      have HBUD2 := Lib.hid (show Tryz.prog.built 33 [(0, .int .i64 13), (2, .string ⟨#[103, 101, 116]⟩), (5, .slice (some ⟨wr.heap.size, 0, none⟩) 1 1)] = some D2.toArray by rw [hD2]; exact bu_kids 13 [103, 101, 116] _ 1 1)
      obtain ⟨W8, hW8, hbW8, hzW8, lW8⟩ := keep_term ((wr.alloc (.cells E1.toArray 33))) D2.toArray
      have LZW8 := Lib.hid (Lies.new' ((wr.alloc (.cells E1.toArray 33))) 33 zC (N := wr.heap.size + 1) (by simp))
      have HEW8 := Lib.hid (show W8 = ((wr.alloc (.cells E1.toArray 33)).alloc (.cells zC 33)).setRow (wr.heap.size + 1) D2.toArray by rw [hW8, show ((wr.alloc (.cells E1.toArray 33))).heap.size = wr.heap.size + 1 by simp])
      have b1 := below_new wr (.cells E1.toArray 33)
      have hbb : Below wr.heap.size wr W8 := b1.trans (hbW8.mono b1.size)
      have hz8 : W8.heap.size = wr.heap.size + 1 + 1 := by rw [hzW8]; simp
      have ht8 : TA sb W8 (askT x) D2 := ht2.later hbW8
      have hl8 : Lies W8 (wr.heap.size + 1) 33 D2.toArray := by have := lW8; simpa using this
      have hs8 : Lies W8 sb 33 C.toArray := (hbb.block _ HTB.out).trans HL.out
      obtain ⟨E3, hE3⟩ : ∃ D : List Value, D = [C, D2].flatten := ⟨_, rfl⟩
      obtain ⟨D3, hD3⟩ : ∃ D : List Value, D = So.tC 10 [43] 0 (.slice (some ⟨W8.heap.size, 0, none⟩) 2 2) nilS := ⟨_, rfl⟩
      have ht3 : TA sb (W8.alloc (.cells E3.toArray 33)) (sumR (x :: R)) D3 := by rw [hD3]; exact TA.tC (kids_two (HTA2.out.later hbb) ht8 (by have := HTB.out; omega) hE3) (ArmsA.none _)
      have HFE3 := Lib.hid (show Instr.fill (fun i => some (i * 21, 21)) ((Array.range (2 * 21)).map ((Value.agg zC).cells[· % (Value.agg zC).cells.size]!)) [(0, Value.agg C.toArray), (1, Value.agg D2.toArray)] = some E3.toArray by rw [hE3]; exact fill_two C D2 HFC.out.len ht2.len _ (by simp))
      have HBUD3 := Lib.hid (show Tryz.prog.built 33 [(0, .int .i64 10), (2, .string ⟨#[43]⟩), (5, .slice (some ⟨W8.heap.size, 0, none⟩) 2 2)] = some D3.toArray by rw [hD3]; exact bu_kids 10 [43] _ 2 2)
      have HFD2 := Lib.hid ht2.tmF
      have HFD2Z := Lib.hid ht2.tmF.zero
      have HFD3 := Lib.hid ht3.tmF
      have HCD3 := Lib.hid (show C.toArray.size = D3.toArray.size by simp [HFC.out.len, ht3.len])
      have HL8 := Lib.hid hl8
      have HS8 := Lib.hid hs8
      have hS9 : Lies (W8.alloc (.cells E3.toArray 33)) sb 33 C.toArray := hs8.alloc _
      have HS9 := Lib.hid hS9
      obtain ⟨W9, hW9⟩ : ∃ W, W = (W8.alloc (.cells E3.toArray 33)).setRow sb D3.toArray := ⟨_, rfl⟩
      have HTN := Lib.hid (show TA sb W9 (sumR (xs.take (q + 1)).reverse) D3 by rw [HR.out, hW9]; exact ht3.set _)
      have HLN := Lib.hid (show Lies W9 sb 33 D3.toArray by rw [hW9]; exact lies_setRow' hS9 _)
      have hkn : KX sb wr W9 := by rw [hW9]; exact (((KX.refl sb wr).below hbb).below (below_new W8 _)).set _
      have HKN := Lib.hid (show KX sb W2 W9 by rw [hW9]; exact ((HKX.out.below hbb).below (below_new W8 _)).set _)
      have HC8 := Lib.hid ((hbb.cell (p := ad.add q) (World.block_lt_of_cell? _ _ hc0)).trans hc0)
      have hw9 : Below w.heap.size w W9 := HKN.out.all HB2.out HWS.out
      have HC9 := Lib.hid ((hw9.cell (p := ad.add q) (World.block_lt_of_cell? _ _ (HAD.out q x HX.out))).trans (HAD.out q x HX.out))
      have HW9 := Lib.hid hW9
      clear hD1 hE1 hD2 hE3 hD3 ht1 ht2 ht3 ht8 b1 hbb hz8 hl8 hs8 hS9 hW8 hbW8 hzW8 lW8 hW9 hkn hw9
      unfold zC at LZW8 HEW8 HFD2Z
      go_upto_region 9 with (first
          | ((with_reducible show wpList _ _ _ (⟨some 33, Op.build _ _, _, _, _, _⟩ :: _) _ _); refine wpList_buildTo rfl 33 _ rfl D1.toArray (by rw [Array.toList_map]; exact HBUD1.out) ?_)
          | ((with_reducible show wpList _ _ _ (⟨some 34, Op.buildSlice _ _ _, _, _, _, _⟩ :: _) _ _); refine wpList_buildSlice rfl 24 33 1 _ rfl E1.toArray ie (.agg zC) Tryz.underlying24 hie hiz (by rw [his]; decide) (by rw [his]; decide) (by rw [his, Array.toList_map]; exact HFE1.out) ?_)
          | ((with_reducible show wpList _ _ _ (⟨some 35, Op.build _ _, _, _, _, _⟩ :: _) _ _); refine wpList_buildTo rfl 33 _ rfl D2.toArray (by rw [Array.toList_map]; exact HBUD2.out) ?_)
          | ((with_reducible show wpList _ _ _ (⟨none, Op.store _ _ _, _, _, _, _⟩ :: _) _ _); refine wpList_store_rowTo rfl 33 (.tmp 12) (.tmp 35) rfl rfl (wr.heap.size + 1) D2.toArray rfl rfl 33 _ ?_ HFD2.out.size HFD2Z.out HFD2.out.one ?_; exact LZW8.out; rw [← HEW8.out]))
      clear hc0
      go_upto_region 10 with (first
          | ((with_reducible show wpList _ _ _ (⟨some 36, Op.load _ _, _, _, _, _⟩ :: _) _ _); refine wpList_load_row rfl 33 (.tmp 8) rfl sb rfl 33 C.toArray (0, 0) _ ?_ Tryz.underlying33 rfl HFC.out.size ?_; exact HS8.out)
          | ((with_reducible show wpList _ _ _ (⟨some 37, Op.load _ _, _, _, _, _⟩ :: _) _ _); refine wpList_load_row rfl 33 (.tmp 12) rfl (wr.heap.size + 1) rfl 33 D2.toArray (0, 0) _ ?_ Tryz.underlying33 rfl HFD2.out.size ?_; exact HL8.out)
          | ((with_reducible show wpList _ _ _ (⟨some 38, Op.buildSlice _ _ _, _, _, _, _⟩ :: _) _ _); refine wpList_buildSlice rfl 24 33 2 _ rfl E3.toArray ie (.agg zC) Tryz.underlying24 hie hiz (by rw [his]; decide) (by rw [his]; decide) (by rw [his, Array.toList_map]; exact HFE3.out) ?_)
          | ((with_reducible show wpList _ _ _ (⟨some 39, Op.build _ _, _, _, _, _⟩ :: _) _ _); refine wpList_buildTo rfl 33 _ rfl D3.toArray (by rw [Array.toList_map]; exact HBUD3.out) ?_)
          | ((with_reducible show wpList _ _ _ (⟨none, Op.store _ _ _, _, _, _, _⟩ :: _) _ _); refine wpList_store_rowTo rfl 33 (.tmp 8) (.tmp 39) rfl rfl sb D3.toArray rfl rfl 33 _ ?_ HFD3.out.size HCD3.out HFD3.out.one ?_; exact HS9.out; rw [← HW9.out]))
      have hc9 := HC9.out
      go_wp2
      go_roundw
      case rel => exact ⟨q + 1, D3, by omega, by rw [HR.out]; show _ = Value.int .i64 (wrap64 (wrap64 (wantR m R + x) + m)); rw [← HWN.out], by go_num, HTN.out, HLN.out, HKN.out⟩
      case measure => (simp [intOf] <;> omega)
    · obtain rfl : q = nn := by omega
      have hqi : ¬ (q : Int) < (q : Int) := by omega
      obtain ⟨ys, hys⟩ : ∃ ys, ys = xs.take q := ⟨_, rfl⟩
      have hyl : ys.length = q := by rw [hys, List.length_take]; omega
      obtain ⟨XB, hXB⟩ : ∃ b, b = wr.heap.size + 1 + 1 + 1 + 1 := ⟨_, rfl⟩
      obtain ⟨wn, hwn⟩ : ∃ n, n = wantR m (xs.take q).reverse := ⟨_, rfl⟩
      rw [← hwn]
      have hts : TA XB wr (sumR ys.reverse) C := by rw [hys]; exact HTA.out.swap (by omega)
      have hwr := HKX.out.all HB2.out HWS.out
      obtain ⟨DX, hDX⟩ : ∃ D : List Value, D = So.tC 1 [120] 0 nilS nilS := ⟨_, rfl⟩
      have HBUDX := Lib.hid (show Tryz.prog.built 33 [(0, .int .i64 1), (2, .string ⟨#[120]⟩)] = some DX.toArray by rw [hDX]; exact bu_var [120])
      obtain ⟨W11, hW11, hbW11, hzW11, lW11⟩ := keep_term (wr) DX.toArray
      have LZW11 := Lib.hid (Lies.new' (wr) 33 zC (N := wr.heap.size) (by simp))
      have HEW11 := Lib.hid (show W11 = (wr.alloc (.cells zC 33)).setRow (wr.heap.size) DX.toArray by rw [hW11, show (wr).heap.size = wr.heap.size by simp])
      have htx : TA XB wr (varT [120]) DX := by rw [hDX]; exact TA.tC (KidsA.none _) (ArmsA.none _)
      have htx1 := htx.later hbW11
      obtain ⟨DM, hDM⟩ : ∃ D : List Value, D = So.tC 2 [] m nilS nilS := ⟨_, rfl⟩
      have HBUDM := Lib.hid (show Tryz.prog.built 33 [(0, .int .i64 2), (4, .int .i64 m)] = some DM.toArray by rw [hDM]; exact bu_num m)
      have htm : TA XB W11 (numT m) DM := by rw [hDM]; exact TA.tC (KidsA.none _) (ArmsA.none _)
      obtain ⟨EP, hEP⟩ : ∃ D : List Value, D = [DX, DM].flatten := ⟨_, rfl⟩
      have HFEP := Lib.hid (show Instr.fill (fun i => some (i * 21, 21)) ((Array.range (2 * 21)).map ((Value.agg zC).cells[· % (Value.agg zC).cells.size]!)) [(0, Value.agg DX.toArray), (1, Value.agg DM.toArray)] = some EP.toArray by rw [hEP]; exact fill_two DX DM htx.len htm.len _ (by simp))
      obtain ⟨DP, hDP⟩ : ∃ D : List Value, D = So.tC 10 [43] 0 (.slice (some ⟨W11.heap.size, 0, none⟩) 2 2) nilS := ⟨_, rfl⟩
      have HBUDP := Lib.hid (show Tryz.prog.built 33 [(0, .int .i64 10), (2, .string ⟨#[43]⟩), (5, .slice (some ⟨W11.heap.size, 0, none⟩) 2 2)] = some DP.toArray by rw [hDP]; exact bu_kids 10 [43] _ 2 2)
      have htp : TA XB (W11.alloc (.cells EP.toArray 33)) (plusT m) DP := by rw [hDP]; exact TA.tC (kids_two htx1 htm (by omega) hEP) (ArmsA.none _)
      obtain ⟨W12, hW12, hbW12, hzW12, lW12⟩ := keep_term ((W11.alloc (.cells EP.toArray 33))) DP.toArray
      have LZW12 := Lib.hid (Lies.new' ((W11.alloc (.cells EP.toArray 33))) 33 zC (N := W11.heap.size + 1) (by simp))
      have HEW12 := Lib.hid (show W12 = ((W11.alloc (.cells EP.toArray 33)).alloc (.cells zC 33)).setRow (W11.heap.size + 1) DP.toArray by rw [hW12, show ((W11.alloc (.cells EP.toArray 33))).heap.size = W11.heap.size + 1 by simp])
      have b12 : Below W11.heap.size W11 W12 := (below_new W11 (.cells EP.toArray 33)).trans (hbW12.mono (by simp))
      have hz12 : W12.heap.size = W11.heap.size + 1 + 1 := by rw [hzW12]; simp
      have htp2 := htp.later hbW12
      obtain ⟨DK, hDK⟩ : ∃ D : List Value, D = So.tC 1 [107] 0 nilS nilS := ⟨_, rfl⟩
      have HBUDK := Lib.hid (show Tryz.prog.built 33 [(0, .int .i64 1), (2, .string ⟨#[107]⟩)] = some DK.toArray by rw [hDK]; exact bu_var [107])
      have htk : TA XB W12 (varT [107]) DK := by rw [hDK]; exact TA.tC (KidsA.none _) (ArmsA.none _)
      obtain ⟨EA, hEA⟩ : ∃ D : List Value, D = [DK, DP].flatten := ⟨_, rfl⟩
      have HFEA := Lib.hid (show Instr.fill (fun i => some (i * 21, 21)) ((Array.range (2 * 21)).map ((Value.agg zC).cells[· % (Value.agg zC).cells.size]!)) [(0, Value.agg DK.toArray), (1, Value.agg DP.toArray)] = some EA.toArray by rw [hEA]; exact fill_two DK DP htk.len htp.len _ (by simp))
      obtain ⟨DA, hDA⟩ : ∃ D : List Value, D = So.tC 6 [] 0 (.slice (some ⟨W12.heap.size, 0, none⟩) 2 2) nilS := ⟨_, rfl⟩
      have HBUDA := Lib.hid (show Tryz.prog.built 33 [(0, .int .i64 6), (5, .slice (some ⟨W12.heap.size, 0, none⟩) 2 2)] = some DA.toArray by rw [hDA]; exact bu_app 6 _ 2 2)
      have hta' : TA XB (W12.alloc (.cells EA.toArray 33)) (appT (varT [107]) (plusT m)) DA := by rw [hDA]; exact TA.tC (kids_two htk htp2 (by omega) hEA) (ArmsA.none _)
      obtain ⟨W13, hW13, hbW13, hzW13, lW13⟩ := keep_term ((W12.alloc (.cells EA.toArray 33))) DA.toArray
      have LZW13 := Lib.hid (Lies.new' ((W12.alloc (.cells EA.toArray 33))) 33 zC (N := W12.heap.size + 1) (by simp))
      have HEW13 := Lib.hid (show W13 = ((W12.alloc (.cells EA.toArray 33)).alloc (.cells zC 33)).setRow (W12.heap.size + 1) DA.toArray by rw [hW13, show ((W12.alloc (.cells EA.toArray 33))).heap.size = W12.heap.size + 1 by simp])
      have b13 : Below W12.heap.size W12 W13 := (below_new W12 (.cells EA.toArray 33)).trans (hbW13.mono (by simp))
      have hz13 : W13.heap.size = W12.heap.size + 1 + 1 := by rw [hzW13]; simp
      have b23 : Below W11.heap.size W11 W13 := b12.trans (b13.mono b12.size)
      have ba3 : Below wr.heap.size wr W13 := hbW11.trans (b23.mono hbW11.size)
      have hl13 : Lies W13 (wr.heap.size) 33 DX.toArray := (b23.block _ (by omega)).trans lW11
      have hlp : Lies W12 (W11.heap.size + 1) 33 DP.toArray := by have := lW12; simpa using this
      have hl14 : Lies W13 (W11.heap.size + 1) 33 DP.toArray := (b13.block _ (by omega)).trans hlp
      have hl15 : Lies W13 (W12.heap.size + 1) 33 DA.toArray := by have := lW13; simpa using this
      have hl8 : Lies W13 sb 33 C.toArray := (ba3.block _ HTB.out).trans HL.out
      have HLX := Lib.hid lW11
      have HLP := Lib.hid hlp
      have HFDX := Lib.hid htx.tmF
      have HFDXZ := Lib.hid htx.tmF.zero
      have HFDM := Lib.hid htm.tmF
      have HFDMZ := Lib.hid htm.tmF.zero
      have HFDP := Lib.hid htp.tmF
      have HFDPZ := Lib.hid htp.tmF.zero
      have HFDK := Lib.hid htk.tmF
      have HFDKZ := Lib.hid htk.tmF.zero
      have HFDA := Lib.hid hta'.tmF
      have HFDAZ := Lib.hid hta'.tmF.zero
      have HTS := Lib.hid (hts.later ba3)
      have HTX := Lib.hid (htx1.later b23)
      have HTP := Lib.hid (htp2.later b13)
      have HTA3 := Lib.hid (hta'.later hbW13)
      have H13 := Lib.hid hl13
      have H14 := Lib.hid hl14
      have H15 := Lib.hid hl15
      have H8 := Lib.hid hl8
      have HBA := Lib.hid (hwr.trans (ba3.mono hwr.size))
      have HSZ := Lib.hid (show XB = W12.heap.size + 1 ∧ W13.heap.size = W12.heap.size + 1 + 1 ∧ W12.heap.size = wr.heap.size + 3 ∧ W11.heap.size = wr.heap.size + 1 ∧ sb < wr.heap.size from ⟨by omega, hz13, by omega, by omega, HTB.out⟩)
      have HWN := Lib.hid hwn
      have HYS := Lib.hid hys
      have HYL := Lib.hid hyl
      have hq9 : q ≤ 9 := hn9
      clear hyl hXB hwn hys hts hwr hDX hW11 hbW11 hzW11 lW11 htx htx1 hDM htm hEP hDP htp hW12 hbW12 hzW12 lW12 b12 hz12 htp2 hDK htk hEA hDA hta' hW13 hbW13 hzW13 lW13 b13 hz13 b23 ba3 hlp hl13 hl14 hl15 hl8 hqi
      unfold zC at LZW11 HEW11 LZW12 HEW12 LZW13 HEW13 HFDXZ HFDPZ HFDAZ
      go_upto_region 12 with (first
          | ((with_reducible show wpList _ _ _ (⟨some 48, Op.build _ _, _, _, _, _⟩ :: _) _ _); refine wpList_buildTo rfl 33 _ rfl DX.toArray (by rw [Array.toList_map]; exact HBUDX.out) ?_)
          | ((with_reducible show wpList _ _ _ (⟨none, Op.store _ _ _, _, _, _, _⟩ :: _) _ _); refine wpList_store_rowTo rfl 33 (.tmp 13) (.tmp 48) rfl rfl wr.heap.size DX.toArray rfl rfl 33 _ ?_ HFDX.out.size HFDXZ.out HFDX.out.one ?_; exact LZW11.out; rw [← HEW11.out]))
      go_upto_region 13 with (first
          | ((with_reducible show wpList _ _ _ (⟨some 49, Op.load _ _, _, _, _, _⟩ :: _) _ _); refine wpList_load_row rfl 33 (.tmp 13) rfl wr.heap.size rfl 33 DX.toArray (0, 0) _ ?_ Tryz.underlying33 rfl HFDX.out.size ?_; exact HLX.out)
          | ((with_reducible show wpList _ _ _ (⟨some 51, Op.build _ _, _, _, _, _⟩ :: _) _ _); refine wpList_buildTo rfl 33 _ rfl DM.toArray (by rw [Array.toList_map]; exact HBUDM.out) ?_)
          | ((with_reducible show wpList _ _ _ (⟨some 52, Op.buildSlice _ _ _, _, _, _, _⟩ :: _) _ _); refine wpList_buildSlice rfl 24 33 2 _ rfl EP.toArray ie (.agg zC) Tryz.underlying24 hie hiz (by rw [his]; decide) (by rw [his]; decide) (by rw [his, Array.toList_map]; exact HFEP.out) ?_)
          | ((with_reducible show wpList _ _ _ (⟨some 53, Op.build _ _, _, _, _, _⟩ :: _) _ _); refine wpList_buildTo rfl 33 _ rfl DP.toArray (by rw [Array.toList_map]; exact HBUDP.out) ?_)
          | ((with_reducible show wpList _ _ _ (⟨none, Op.store _ _ _, _, _, _, _⟩ :: _) _ _); refine wpList_store_rowTo rfl 33 (.tmp 14) (.tmp 53) rfl rfl (W11.heap.size + 1) DP.toArray rfl rfl 33 _ ?_ HFDP.out.size HFDPZ.out HFDP.out.one ?_; exact LZW12.out; rw [← HEW12.out]))
      go_upto_region 14 with (first
          | ((with_reducible show wpList _ _ _ (⟨some 54, Op.build _ _, _, _, _, _⟩ :: _) _ _); refine wpList_buildTo rfl 33 _ rfl DK.toArray (by rw [Array.toList_map]; exact HBUDK.out) ?_)
          | ((with_reducible show wpList _ _ _ (⟨some 55, Op.load _ _, _, _, _, _⟩ :: _) _ _); refine wpList_load_row rfl 33 (.tmp 14) rfl (W11.heap.size + 1) rfl 33 DP.toArray (0, 0) _ ?_ Tryz.underlying33 rfl HFDP.out.size ?_; exact HLP.out)
          | ((with_reducible show wpList _ _ _ (⟨some 56, Op.buildSlice _ _ _, _, _, _, _⟩ :: _) _ _); refine wpList_buildSlice rfl 24 33 2 _ rfl EA.toArray ie (.agg zC) Tryz.underlying24 hie hiz (by rw [his]; decide) (by rw [his]; decide) (by rw [his, Array.toList_map]; exact HFEA.out) ?_)
          | ((with_reducible show wpList _ _ _ (⟨some 57, Op.build _ _, _, _, _, _⟩ :: _) _ _); refine wpList_buildTo rfl 33 _ rfl DA.toArray (by rw [Array.toList_map]; exact HBUDA.out) ?_)
          | ((with_reducible show wpList _ _ _ (⟨none, Op.store _ _ _, _, _, _, _⟩ :: _) _ _); refine wpList_store_rowTo rfl 33 (.tmp 15) (.tmp 57) rfl rfl (W12.heap.size + 1) DA.toArray rfl rfl 33 _ ?_ HFDA.out.size HFDAZ.out HFDA.out.one ?_; exact LZW13.out; rw [← HEW13.out]))
      cases stops with
      | false =>
        go_upto_region 20 with (fail)
        have hsz := HSZ.out
        obtain ⟨V1, hV1⟩ : ∃ V, V = W13.alloc (.cells #[.string ⟨#[120]⟩] 9) := ⟨_, rfl⟩
        obtain ⟨V2, hV2⟩ : ∃ V, V = V1.alloc (.cells #[.string ⟨#[120]⟩, .string ⟨#[107]⟩] 9) := ⟨_, rfl⟩
        have z1 : V1.heap.size = W13.heap.size + 1 := by rw [hV1]; simp
        have z2 : V2.heap.size = W13.heap.size + 1 + 1 := by rw [hV2]; simp [z1]
        have c1 : Below W13.heap.size W13 V1 := by rw [hV1]; exact below_new _ _
        have c2 : Below W13.heap.size W13 V2 := by rw [hV2]; exact c1.alloc (by omega) _
        have hv1 : StrsH (memX XB V1) (.slice (some ⟨W13.heap.size, 0, none⟩) 1 1) [[120]] := by rw [hV1]; exact strs_new [[120]] (by omega) (by show 1 ≤ 1000; omega) rfl
        have hv2 := strs_new (X := XB) (w := V1) [[120], [107]] (by omega) (by show 2 ≤ 1000; omega) (n := 2) rfl
        rw [z1] at hv2
        have htx2 := HTX.out.later c2
        have htb2 := HTA3.out.later c2
        obtain ⟨A1, hA1⟩ : ∃ D : List Value, D = (Value.string (ba [114, 101, 116, 117, 114, 110]) :: .slice (some ⟨W13.heap.size, 0, none⟩) 1 1 :: DX) := ⟨_, rfl⟩
        obtain ⟨A2, hA2⟩ : ∃ D : List Value, D = (Value.string (ba [103, 101, 116]) :: .slice (some ⟨W13.heap.size + 1, 0, none⟩) 2 2 :: DA) := ⟨_, rfl⟩
        obtain ⟨EF, hEF⟩ : ∃ D : List Value, D = [A1, A2].flatten := ⟨_, rfl⟩
        obtain ⟨V3, hV3⟩ : ∃ V, V = V2.alloc (.cells EF.toArray 35) := ⟨_, rfl⟩
        have z3 : V3.heap.size = W13.heap.size + 1 + 1 + 1 := by rw [hV3]; simp [z2]
        have c3 : Below W13.heap.size W13 V3 := by rw [hV3]; exact c2.alloc (by omega) _
        have haa := arms_two htx2 htb2 (n1 := [114, 101, 116, 117, 114, 110]) (n2 := [103, 101, 116]) (hv1.le (memX_le (by rw [hV2]; exact below_new V1 _))) (by rw [hV2]; exact hv2) (by omega) (D := EF) (by rw [hEF, hA1, hA2])
        rw [← hV3, z2] at haa
        have HBUA1 := Lib.hid (show Tryz.prog.built 35 [(0, .string ⟨#[114, 101, 116, 117, 114, 110]⟩), (1, .slice (some ⟨W13.heap.size, 0, none⟩) 1 1), (2, .agg DX.toArray)] = some A1.toArray by rw [hA1]; exact bu_arm _ _ 1 1 DX HFDX.out.len)
        have HBUA2 := Lib.hid (show Tryz.prog.built 35 [(0, .string ⟨#[103, 101, 116]⟩), (1, .slice (some ⟨W13.heap.size + 1, 0, none⟩) 2 2), (2, .agg DA.toArray)] = some A2.toArray by rw [hA2]; exact bu_arm _ _ 2 2 DA HFDA.out.len)
        have HFEF := Lib.hid (show Instr.fill (fun i => some (i * 23, 23)) ((Array.range (2 * 23)).map ((Value.agg zA).cells[· % (Value.agg zA).cells.size]!)) [(0, Value.agg A1.toArray), (1, Value.agg A2.toArray)] = some EF.toArray by rw [hEF]; exact fill_arms2 A1 A2 (by rw [hA1]; simp [HFDX.out.len]) (by rw [hA2]; simp [HFDA.out.len]) _ (by simp))
        obtain ⟨EH, hEH⟩ : ∃ D : List Value, D = [C].flatten := ⟨_, rfl⟩
        have hts3 := HTS.out.later c3
        obtain ⟨V4, hV4⟩ : ∃ V, V = V3.alloc (.cells EH.toArray 33) := ⟨_, rfl⟩
        have hkk := kids_one hts3 (by omega) hEH
        rw [← hV4, z3] at hkk
        have HFEH := Lib.hid (show Instr.fill (fun i => some (i * 21, 21)) ((Array.range (1 * 21)).map ((Value.agg zC).cells[· % (Value.agg zC).cells.size]!)) [(0, Value.agg C.toArray)] = some EH.toArray by rw [hEH]; exact fill_one' C HFC.out.len _ (by simp))
        obtain ⟨DH, hDH⟩ : ∃ D : List Value, D = So.tC 14 [69] 0 (.slice (some ⟨W13.heap.size + 1 + 1 + 1, 0, none⟩) 1 1) (.slice (some ⟨W13.heap.size + 1 + 1, 0, none⟩) 2 2) := ⟨_, rfl⟩
        have hth : TA XB V4 (handT (sumR ys.reverse) (armsA false m)) DH := by rw [hDH]; exact TA.tC hkk (haa.le (memX_le (by rw [hV4]; exact below_new V3 _)))
        have HBUDH := Lib.hid (show Tryz.prog.built 33 [(0, .int .i64 14), (2, .string ⟨#[69]⟩), (5, .slice (some ⟨W13.heap.size + 1 + 1 + 1, 0, none⟩) 1 1), (6, .slice (some ⟨W13.heap.size + 1 + 1, 0, none⟩) 2 2)] = some DH.toArray by rw [hDH]; exact bu_hand 14 [69] _ _ 1 1 2 2)
        have HBP := Lib.hid (built_prog DH hth.len)
        have HC4 := Lib.hid (show Below W13.heap.size W13 V4 by rw [hV4]; exact c3.alloc (by omega) _)
        have HCALL := Lib.hid (answers_call hth (by have := HC4.out.size; omega) (by rw [HYL.out]; exact hq9))
        have H8B := Lib.hid (show Lies V3 sb 33 C.toArray from (c3.block _ (by omega)).trans H8.out)
        have H13B := Lib.hid (show Lies V1 wr.heap.size 33 DX.toArray from (c1.block _ (by omega)).trans H13.out)
        have H15B := Lib.hid (show Lies V2 (W12.heap.size + 1) 33 DA.toArray from (c2.block _ (by omega)).trans H15.out)
        have HN := Lib.hid (show wantN m false ys = wn from by rw [HWN.out, ← HYS.out]; exact (want_sum m ys.reverse).symm)
        have HK := Lib.hid (show kontN false ys = q from HYL.out)
        clear hsz z1 z2 z3 c1 c2 c3 hv1 hv2 htx2 htb2 hA1 hA2 hEF haa hEH hts3 hkk hDH hth
        subst hV4 hV3 hV2 hV1
        go_wp2_with (first
          | ((with_reducible show wpList _ _ _ (⟨some 71, Op.load _ _, _, _, _, _⟩ :: _) _ _); refine wpList_load_row rfl 33 (.tmp 13) rfl wr.heap.size rfl 33 DX.toArray (0, 0) _ ?_ Tryz.underlying33 rfl HFDX.out.size ?_; exact H13B.out)
          | ((with_reducible show wpList _ _ _ (⟨some 72, Op.build _ _, _, _, _, _⟩ :: _) _ _); refine wpList_buildTo rfl 35 _ rfl A1.toArray (by rw [Array.toList_map]; exact HBUA1.out) ?_)
          | ((with_reducible show wpList _ _ _ (⟨some 74, Op.load _ _, _, _, _, _⟩ :: _) _ _); refine wpList_load_row rfl 33 (.tmp 15) rfl (W12.heap.size + 1) rfl 33 DA.toArray (0, 0) _ ?_ Tryz.underlying33 rfl HFDA.out.size ?_; exact H15B.out)
          | ((with_reducible show wpList _ _ _ (⟨some 75, Op.build _ _, _, _, _, _⟩ :: _) _ _); refine wpList_buildTo rfl 35 _ rfl A2.toArray (by rw [Array.toList_map]; exact HBUA2.out) ?_)
          | ((with_reducible show wpList _ _ _ (⟨some 76, Op.buildSlice _ _ _, _, _, _, _⟩ :: _) _ _); refine wpList_buildSlice rfl 25 35 2 _ rfl EF.toArray ia (.agg zA) Tryz.underlying25 hia haz (by rw [has]; decide) (by rw [has]; decide) (by rw [has, Array.toList_map]; exact HFEF.out) ?_)
          | ((with_reducible show wpList _ _ _ (⟨some 77, Op.load _ _, _, _, _, _⟩ :: _) _ _); refine wpList_load_row rfl 33 (.tmp 8) rfl sb rfl 33 C.toArray (0, 0) _ ?_ Tryz.underlying33 rfl HFC.out.size ?_; exact H8B.out)
          | ((with_reducible show wpList _ _ _ (⟨some 78, Op.buildSlice _ _ _, _, _, _, _⟩ :: _) _ _); refine wpList_buildSlice rfl 24 33 1 _ rfl EH.toArray ie (.agg zC) Tryz.underlying24 hie hiz (by rw [his]; decide) (by rw [his]; decide) (by rw [his, Array.toList_map]; exact HFEH.out) ?_)
          | ((with_reducible show wpList _ _ _ (⟨some 80, Op.build _ _, _, _, _, _⟩ :: _) _ _); refine wpList_buildTo rfl 33 _ rfl DH.toArray (by rw [Array.toList_map]; exact HBUDH.out) ?_)
          | ((with_reducible show wpList _ _ _ (⟨some 81, Op.build _ _, _, _, _, _⟩ :: _) _ _); refine wpList_buildTo rfl 47 _ rfl ([Value.slice none 0 0, Value.slice none 0 0] ++ DH).toArray (by rw [Array.toList_map]; exact HBP.out) ?_))
        refine HCALL.out.mono ?_
        rintro e w7 ⟨A7, c7, st7, rfl, hb7⟩
        rw [HN.out, HK.out]
        obtain ⟨R7, hR7⟩ : ∃ R, R = runL 1 1 (wn) (.slice A7 0 c7) st7 (q) := ⟨_, rfl⟩
        rw [← hR7]
        obtain ⟨W7, hW7, hbW7, hzW7, lW7⟩ := keep_run w7 R7
        have HSZ7 := Lib.hid (show (Tryz.prog.info? 42).map (·.size) = some R7.size by rw [szRun, hR7]; rfl)
        have HON7 := Lib.hid (show R7.all (·.oneCell') = true by rw [hR7]; simp [runL, Value.oneCell'])
        have HZZ7 := Lib.hid (show (#[.int .i64 0, .int .i64 0, .int .i64 0, .string ⟨#[]⟩, .slice none 0 0, .slice none 0 0, .int .i64 0, .int .i64 0] : Array Value).size = R7.size by rw [hR7]; rfl)
        have HR7 := Lib.hid hR7
        have HW7 := Lib.hid hW7
        have LW7 := Lib.hid lW7
        have LV7 := Lib.hid (Lies.new w7 42 #[.int .i64 0, .int .i64 0, .int .i64 0, .string ⟨#[]⟩, .slice none 0 0, .slice none 0 0, .int .i64 0, .int .i64 0])
        have HB7 := Lib.hid (show Below w.heap.size w W7 from (HBA.out.trans ((HC4.out.trans (hb7.mono HC4.out.size)).mono HBA.out.size)).trans (hbW7.mono (by have := HBA.out.size; have := HC4.out.size; have := hb7.size; omega)))
        clear hb7 hR7 hW7 hbW7 hzW7 lW7
        go_upto_region 22 with (refine wpList_store_rowTo rfl 42 (.tmp 18) (.tmp 82) rfl rfl w7.heap.size R7 rfl rfl 42 _ ?_ HSZ7.out HZZ7.out HON7.out ?_; exact LV7.out; rw [← HW7.out])
        have e0 : W7.cell? ⟨w7.heap.size, 0, none⟩ = some (.int .i64 1) := by rw [LW7.out.cell, HR7.out]; rfl
        have e1 : W7.cell? ⟨w7.heap.size, 1, none⟩ = some (.int .i64 1) := by rw [LW7.out.cell, HR7.out]; rfl
        have e2 : W7.cell? ⟨w7.heap.size, 2, none⟩ = some (.int .i64 (wn)) := by rw [LW7.out.cell, HR7.out]; rfl
        have e5 : W7.cell? ⟨w7.heap.size, 5, none⟩ = some (.slice A7 0 c7) := by rw [LW7.out.cell, HR7.out]; rfl
        have e7 : W7.cell? ⟨w7.heap.size, 7, none⟩ = some (.int .i64 ((q : Nat) : Int)) := by rw [LW7.out.cell, HR7.out]; rfl
        go_wp2
        go_ret
        exact ⟨rfl, HB7.out⟩
      | true =>
        obtain ⟨kk, hkk⟩ : ∃ k, k = min q 1 := ⟨_, rfl⟩
        have hk1 : min (q : Int) 1 = (kk : Int) := by omega
        have HKK := Lib.hid hkk
        clear hkk
        have h16 : Lies (W13.setRow XB DP.toArray) XB 33 DP.toArray := lies_setRow' (by rw [HSZ.out.1]; exact H15.out) _
        obtain ⟨W16, hW16⟩ : ∃ W, W = W13.setRow (W12.heap.size + 1) DP.toArray := ⟨_, rfl⟩
        have hWX : W16 = W13.setRow XB DP.toArray := by rw [hW16, HSZ.out.1]
        have hz16 : W16.heap.size = W13.heap.size := by rw [hW16, size_setRow']
        have hsz := HSZ.out
        have HTS6 := Lib.hid (show TA XB W16 (sumR ys.reverse) C by rw [hWX]; exact HTS.out.set _)
        have HTX6 := Lib.hid (show TA XB W16 (varT [120]) DX by rw [hWX]; exact HTX.out.set _)
        have HTP6 := Lib.hid (show TA XB W16 (plusT m) DP by rw [hWX]; exact HTP.out.set _)
        have H156 := Lib.hid (show Lies W16 (W12.heap.size + 1) 33 DP.toArray by rw [← HSZ.out.1, hWX]; exact h16)
        have H136 := Lib.hid (show Lies W16 wr.heap.size 33 DX.toArray by rw [hW16]; exact (heap_setRow' _ _ _ _ (by omega)).trans H13.out)
        have H86 := Lib.hid (show Lies W16 sb 33 C.toArray by rw [hW16]; exact (heap_setRow' _ _ _ _ (by omega)).trans H8.out)
        have HBA6 := Lib.hid (show Below w.heap.size w W16 by rw [hW16]; exact below_setRow' HBA.out (by have := HBA.out.size; have := HWS.out; omega) _)
        have HSZ6 := Lib.hid (show W16.heap.size = W12.heap.size + 1 + 1 by omega)
        have HCDP := Lib.hid (show DA.toArray.size = DP.toArray.size by simp [HFDA.out.len, HFDP.out.len])
        have HW16 := Lib.hid hW16
        clear h16 hW16 hWX hz16 hsz
        go_upto_region 17 with (first
          | ((with_reducible show wpList _ _ _ (⟨some 60, Op.load _ _, _, _, _, _⟩ :: _) _ _); refine wpList_load_row rfl 33 (.tmp 14) rfl (W11.heap.size + 1) rfl 33 DP.toArray (0, 0) _ ?_ Tryz.underlying33 rfl HFDP.out.size ?_; exact H14.out)
          | ((with_reducible show wpList _ _ _ (⟨none, Op.store _ _ _, _, _, _, _⟩ :: _) _ _); refine wpList_store_rowTo rfl 33 (.tmp 15) (.tmp 60) rfl rfl (W12.heap.size + 1) DP.toArray rfl rfl 33 _ ?_ HFDP.out.size HCDP.out HFDP.out.one ?_; exact H15.out; rw [← HW16.out]))
        by_cases hq0 : q = 0
        · have hqg : ¬ (0 : Int) < (q : Int) := by omega
          go_upto_region 20 with (fail)
          have hsz := HSZ.out
          have hsz6 := HSZ6.out
          obtain ⟨V1, hV1⟩ : ∃ V, V = W16.alloc (.cells #[.string ⟨#[120]⟩] 9) := ⟨_, rfl⟩
          obtain ⟨V2, hV2⟩ : ∃ V, V = V1.alloc (.cells #[.string ⟨#[120]⟩, .string ⟨#[107]⟩] 9) := ⟨_, rfl⟩
          have z1 : V1.heap.size = W16.heap.size + 1 := by rw [hV1]; simp
          have z2 : V2.heap.size = W16.heap.size + 1 + 1 := by rw [hV2]; simp [z1]
          have c1 : Below W16.heap.size W16 V1 := by rw [hV1]; exact below_new _ _
          have c2 : Below W16.heap.size W16 V2 := by rw [hV2]; exact c1.alloc (by omega) _
          have hv1 : StrsH (memX XB V1) (.slice (some ⟨W16.heap.size, 0, none⟩) 1 1) [[120]] := by rw [hV1]; exact strs_new [[120]] (by omega) (by show 1 ≤ 1000; omega) rfl
          have hv2 := strs_new (X := XB) (w := V1) [[120], [107]] (by omega) (by show 2 ≤ 1000; omega) (n := 2) rfl
          rw [z1] at hv2
          have htx2 := HTX6.out.later c2
          have htb2 := HTP6.out.later c2
          obtain ⟨A1, hA1⟩ : ∃ D : List Value, D = (Value.string (ba [114, 101, 116, 117, 114, 110]) :: .slice (some ⟨W16.heap.size, 0, none⟩) 1 1 :: DX) := ⟨_, rfl⟩
          obtain ⟨A2, hA2⟩ : ∃ D : List Value, D = (Value.string (ba [103, 101, 116]) :: .slice (some ⟨W16.heap.size + 1, 0, none⟩) 2 2 :: DP) := ⟨_, rfl⟩
          obtain ⟨EF, hEF⟩ : ∃ D : List Value, D = [A1, A2].flatten := ⟨_, rfl⟩
          obtain ⟨V3, hV3⟩ : ∃ V, V = V2.alloc (.cells EF.toArray 35) := ⟨_, rfl⟩
          have z3 : V3.heap.size = W16.heap.size + 1 + 1 + 1 := by rw [hV3]; simp [z2]
          have c3 : Below W16.heap.size W16 V3 := by rw [hV3]; exact c2.alloc (by omega) _
          have haa := arms_two htx2 htb2 (n1 := [114, 101, 116, 117, 114, 110]) (n2 := [103, 101, 116]) (hv1.le (memX_le (by rw [hV2]; exact below_new V1 _))) (by rw [hV2]; exact hv2) (by omega) (D := EF) (by rw [hEF, hA1, hA2])
          rw [← hV3, z2] at haa
          have HBUA1 := Lib.hid (show Tryz.prog.built 35 [(0, .string ⟨#[114, 101, 116, 117, 114, 110]⟩), (1, .slice (some ⟨W16.heap.size, 0, none⟩) 1 1), (2, .agg DX.toArray)] = some A1.toArray by rw [hA1]; exact bu_arm _ _ 1 1 DX HFDX.out.len)
          have HBUA2 := Lib.hid (show Tryz.prog.built 35 [(0, .string ⟨#[103, 101, 116]⟩), (1, .slice (some ⟨W16.heap.size + 1, 0, none⟩) 2 2), (2, .agg DP.toArray)] = some A2.toArray by rw [hA2]; exact bu_arm _ _ 2 2 DP HFDP.out.len)
          have HFEF := Lib.hid (show Instr.fill (fun i => some (i * 23, 23)) ((Array.range (2 * 23)).map ((Value.agg zA).cells[· % (Value.agg zA).cells.size]!)) [(0, Value.agg A1.toArray), (1, Value.agg A2.toArray)] = some EF.toArray by rw [hEF]; exact fill_arms2 A1 A2 (by rw [hA1]; simp [HFDX.out.len]) (by rw [hA2]; simp [HFDP.out.len]) _ (by simp))
          obtain ⟨EH, hEH⟩ : ∃ D : List Value, D = [C].flatten := ⟨_, rfl⟩
          have hts3 := HTS6.out.later c3
          obtain ⟨V4, hV4⟩ : ∃ V, V = V3.alloc (.cells EH.toArray 33) := ⟨_, rfl⟩
          have hkk := kids_one hts3 (by omega) hEH
          rw [← hV4, z3] at hkk
          have HFEH := Lib.hid (show Instr.fill (fun i => some (i * 21, 21)) ((Array.range (1 * 21)).map ((Value.agg zC).cells[· % (Value.agg zC).cells.size]!)) [(0, Value.agg C.toArray)] = some EH.toArray by rw [hEH]; exact fill_one' C HFC.out.len _ (by simp))
          obtain ⟨DH, hDH⟩ : ∃ D : List Value, D = So.tC 14 [69] 0 (.slice (some ⟨W16.heap.size + 1 + 1 + 1, 0, none⟩) 1 1) (.slice (some ⟨W16.heap.size + 1 + 1, 0, none⟩) 2 2) := ⟨_, rfl⟩
          have hth : TA XB V4 (handT (sumR ys.reverse) (armsA true m)) DH := by rw [hDH]; exact TA.tC hkk (haa.le (memX_le (by rw [hV4]; exact below_new V3 _)))
          have HBUDH := Lib.hid (show Tryz.prog.built 33 [(0, .int .i64 14), (2, .string ⟨#[69]⟩), (5, .slice (some ⟨W16.heap.size + 1 + 1 + 1, 0, none⟩) 1 1), (6, .slice (some ⟨W16.heap.size + 1 + 1, 0, none⟩) 2 2)] = some DH.toArray by rw [hDH]; exact bu_hand 14 [69] _ _ 1 1 2 2)
          have HBP := Lib.hid (built_prog DH hth.len)
          have HC4 := Lib.hid (show Below W16.heap.size W16 V4 by rw [hV4]; exact c3.alloc (by omega) _)
          have HCALL := Lib.hid (answers_call hth (by have := HC4.out.size; omega) (by rw [HYL.out]; exact hq9))
          have H8B := Lib.hid (show Lies V3 sb 33 C.toArray from (c3.block _ (by omega)).trans H86.out)
          have H13B := Lib.hid (show Lies V1 wr.heap.size 33 DX.toArray from (c1.block _ (by omega)).trans H136.out)
          have H15B := Lib.hid (show Lies V2 (W12.heap.size + 1) 33 DP.toArray from (c2.block _ (by omega)).trans H156.out)
          have HN := Lib.hid (show wantN m true ys = wn from by rw [HWN.out, ← HYS.out, show ys = [] from List.eq_nil_of_length_eq_zero (by rw [HYL.out]; exact hq0)]; rfl)
          have HK := Lib.hid (show kontN true ys = kk from by show min ys.length 1 = _; rw [HYL.out, HKK.out])
          clear hsz hsz6 z1 z2 z3 c1 c2 c3 hv1 hv2 htx2 htb2 hA1 hA2 hEF haa hEH hts3 hkk hDH hth
          subst hV4 hV3 hV2 hV1
          go_wp2_with (first
            | ((with_reducible show wpList _ _ _ (⟨some 71, Op.load _ _, _, _, _, _⟩ :: _) _ _); refine wpList_load_row rfl 33 (.tmp 13) rfl wr.heap.size rfl 33 DX.toArray (0, 0) _ ?_ Tryz.underlying33 rfl HFDX.out.size ?_; exact H13B.out)
            | ((with_reducible show wpList _ _ _ (⟨some 72, Op.build _ _, _, _, _, _⟩ :: _) _ _); refine wpList_buildTo rfl 35 _ rfl A1.toArray (by rw [Array.toList_map]; exact HBUA1.out) ?_)
            | ((with_reducible show wpList _ _ _ (⟨some 74, Op.load _ _, _, _, _, _⟩ :: _) _ _); refine wpList_load_row rfl 33 (.tmp 15) rfl (W12.heap.size + 1) rfl 33 DP.toArray (0, 0) _ ?_ Tryz.underlying33 rfl HFDP.out.size ?_; exact H15B.out)
            | ((with_reducible show wpList _ _ _ (⟨some 75, Op.build _ _, _, _, _, _⟩ :: _) _ _); refine wpList_buildTo rfl 35 _ rfl A2.toArray (by rw [Array.toList_map]; exact HBUA2.out) ?_)
            | ((with_reducible show wpList _ _ _ (⟨some 76, Op.buildSlice _ _ _, _, _, _, _⟩ :: _) _ _); refine wpList_buildSlice rfl 25 35 2 _ rfl EF.toArray ia (.agg zA) Tryz.underlying25 hia haz (by rw [has]; decide) (by rw [has]; decide) (by rw [has, Array.toList_map]; exact HFEF.out) ?_)
            | ((with_reducible show wpList _ _ _ (⟨some 77, Op.load _ _, _, _, _, _⟩ :: _) _ _); refine wpList_load_row rfl 33 (.tmp 8) rfl sb rfl 33 C.toArray (0, 0) _ ?_ Tryz.underlying33 rfl HFC.out.size ?_; exact H8B.out)
            | ((with_reducible show wpList _ _ _ (⟨some 78, Op.buildSlice _ _ _, _, _, _, _⟩ :: _) _ _); refine wpList_buildSlice rfl 24 33 1 _ rfl EH.toArray ie (.agg zC) Tryz.underlying24 hie hiz (by rw [his]; decide) (by rw [his]; decide) (by rw [his, Array.toList_map]; exact HFEH.out) ?_)
            | ((with_reducible show wpList _ _ _ (⟨some 80, Op.build _ _, _, _, _, _⟩ :: _) _ _); refine wpList_buildTo rfl 33 _ rfl DH.toArray (by rw [Array.toList_map]; exact HBUDH.out) ?_)
            | ((with_reducible show wpList _ _ _ (⟨some 81, Op.build _ _, _, _, _, _⟩ :: _) _ _); refine wpList_buildTo rfl 47 _ rfl ([Value.slice none 0 0, Value.slice none 0 0] ++ DH).toArray (by rw [Array.toList_map]; exact HBP.out) ?_))
          refine HCALL.out.mono ?_
          rintro e w7 ⟨A7, c7, st7, rfl, hb7⟩
          rw [HN.out, HK.out]
          obtain ⟨R7, hR7⟩ : ∃ R, R = runL 1 1 (wn) (.slice A7 0 c7) st7 (kk) := ⟨_, rfl⟩
          rw [← hR7]
          obtain ⟨W7, hW7, hbW7, hzW7, lW7⟩ := keep_run w7 R7
          have HSZ7 := Lib.hid (show (Tryz.prog.info? 42).map (·.size) = some R7.size by rw [szRun, hR7]; rfl)
          have HON7 := Lib.hid (show R7.all (·.oneCell') = true by rw [hR7]; simp [runL, Value.oneCell'])
          have HZZ7 := Lib.hid (show (#[.int .i64 0, .int .i64 0, .int .i64 0, .string ⟨#[]⟩, .slice none 0 0, .slice none 0 0, .int .i64 0, .int .i64 0] : Array Value).size = R7.size by rw [hR7]; rfl)
          have HR7 := Lib.hid hR7
          have HW7 := Lib.hid hW7
          have LW7 := Lib.hid lW7
          have LV7 := Lib.hid (Lies.new w7 42 #[.int .i64 0, .int .i64 0, .int .i64 0, .string ⟨#[]⟩, .slice none 0 0, .slice none 0 0, .int .i64 0, .int .i64 0])
          have HB7 := Lib.hid (show Below w.heap.size w W7 from (HBA6.out.trans ((HC4.out.trans (hb7.mono HC4.out.size)).mono HBA6.out.size)).trans (hbW7.mono (by have := HBA6.out.size; have := HC4.out.size; have := hb7.size; omega)))
          clear hb7 hR7 hW7 hbW7 hzW7 lW7
          go_upto_region 22 with (refine wpList_store_rowTo rfl 42 (.tmp 18) (.tmp 82) rfl rfl w7.heap.size R7 rfl rfl 42 _ ?_ HSZ7.out HZZ7.out HON7.out ?_; exact LV7.out; rw [← HW7.out])
          have e0 : W7.cell? ⟨w7.heap.size, 0, none⟩ = some (.int .i64 1) := by rw [LW7.out.cell, HR7.out]; rfl
          have e1 : W7.cell? ⟨w7.heap.size, 1, none⟩ = some (.int .i64 1) := by rw [LW7.out.cell, HR7.out]; rfl
          have e2 : W7.cell? ⟨w7.heap.size, 2, none⟩ = some (.int .i64 (wn)) := by rw [LW7.out.cell, HR7.out]; rfl
          have e5 : W7.cell? ⟨w7.heap.size, 5, none⟩ = some (.slice A7 0 c7) := by rw [LW7.out.cell, HR7.out]; rfl
          have e7 : W7.cell? ⟨w7.heap.size, 7, none⟩ = some (.int .i64 ((kk : Nat) : Int)) := by rw [LW7.out.cell, HR7.out]; rfl
          go_wp2
          go_ret
          exact ⟨rfl, HB7.out⟩
        · have hqg : (0 : Int) < (q : Int) := by omega
          obtain ⟨ad, rfl, had⟩ := HCELL.out (by omega)
          obtain ⟨x0, hx0⟩ : ∃ x, xs[0]? = some x := ⟨_, List.getElem?_eq_getElem (by omega)⟩
          have hd0 := had 0 x0 hx0
          rw [Addr.add_zero'] at hd0
          have hc0 := (HBA6.out.cell (p := ad) (World.block_lt_of_cell? _ _ hd0)).trans hd0
          have hxl : 0 < xs.length := by omega
          have HYX := Lib.hid (show ∃ r, ys = x0 :: r by rw [HYS.out]; cases xs with | nil => cases hx0 | cons a b => cases hx0; exact ⟨_, List.take_cons (by omega)⟩)
          clear had hx0 hd0
          go_upto_region 20 with (fail)
          clear hc0
          have hsz := HSZ.out
          have hsz6 := HSZ6.out
          obtain ⟨V1, hV1⟩ : ∃ V, V = W16.alloc (.cells #[.string ⟨#[120]⟩] 9) := ⟨_, rfl⟩
          obtain ⟨V2, hV2⟩ : ∃ V, V = V1.alloc (.cells #[.string ⟨#[120]⟩, .string ⟨#[107]⟩] 9) := ⟨_, rfl⟩
          have z1 : V1.heap.size = W16.heap.size + 1 := by rw [hV1]; simp
          have z2 : V2.heap.size = W16.heap.size + 1 + 1 := by rw [hV2]; simp [z1]
          have c1 : Below W16.heap.size W16 V1 := by rw [hV1]; exact below_new _ _
          have c2 : Below W16.heap.size W16 V2 := by rw [hV2]; exact c1.alloc (by omega) _
          have hv1 : StrsH (memX XB V1) (.slice (some ⟨W16.heap.size, 0, none⟩) 1 1) [[120]] := by rw [hV1]; exact strs_new [[120]] (by omega) (by show 1 ≤ 1000; omega) rfl
          have hv2 := strs_new (X := XB) (w := V1) [[120], [107]] (by omega) (by show 2 ≤ 1000; omega) (n := 2) rfl
          rw [z1] at hv2
          have htx2 := HTX6.out.later c2
          have htb2 := HTP6.out.later c2
          obtain ⟨A1, hA1⟩ : ∃ D : List Value, D = (Value.string (ba [114, 101, 116, 117, 114, 110]) :: .slice (some ⟨W16.heap.size, 0, none⟩) 1 1 :: DX) := ⟨_, rfl⟩
          obtain ⟨A2, hA2⟩ : ∃ D : List Value, D = (Value.string (ba [103, 101, 116]) :: .slice (some ⟨W16.heap.size + 1, 0, none⟩) 2 2 :: DP) := ⟨_, rfl⟩
          obtain ⟨EF, hEF⟩ : ∃ D : List Value, D = [A1, A2].flatten := ⟨_, rfl⟩
          obtain ⟨V3, hV3⟩ : ∃ V, V = V2.alloc (.cells EF.toArray 35) := ⟨_, rfl⟩
          have z3 : V3.heap.size = W16.heap.size + 1 + 1 + 1 := by rw [hV3]; simp [z2]
          have c3 : Below W16.heap.size W16 V3 := by rw [hV3]; exact c2.alloc (by omega) _
          have haa := arms_two htx2 htb2 (n1 := [114, 101, 116, 117, 114, 110]) (n2 := [103, 101, 116]) (hv1.le (memX_le (by rw [hV2]; exact below_new V1 _))) (by rw [hV2]; exact hv2) (by omega) (D := EF) (by rw [hEF, hA1, hA2])
          rw [← hV3, z2] at haa
          have HBUA1 := Lib.hid (show Tryz.prog.built 35 [(0, .string ⟨#[114, 101, 116, 117, 114, 110]⟩), (1, .slice (some ⟨W16.heap.size, 0, none⟩) 1 1), (2, .agg DX.toArray)] = some A1.toArray by rw [hA1]; exact bu_arm _ _ 1 1 DX HFDX.out.len)
          have HBUA2 := Lib.hid (show Tryz.prog.built 35 [(0, .string ⟨#[103, 101, 116]⟩), (1, .slice (some ⟨W16.heap.size + 1, 0, none⟩) 2 2), (2, .agg DP.toArray)] = some A2.toArray by rw [hA2]; exact bu_arm _ _ 2 2 DP HFDP.out.len)
          have HFEF := Lib.hid (show Instr.fill (fun i => some (i * 23, 23)) ((Array.range (2 * 23)).map ((Value.agg zA).cells[· % (Value.agg zA).cells.size]!)) [(0, Value.agg A1.toArray), (1, Value.agg A2.toArray)] = some EF.toArray by rw [hEF]; exact fill_arms2 A1 A2 (by rw [hA1]; simp [HFDX.out.len]) (by rw [hA2]; simp [HFDP.out.len]) _ (by simp))
          obtain ⟨EH, hEH⟩ : ∃ D : List Value, D = [C].flatten := ⟨_, rfl⟩
          have hts3 := HTS6.out.later c3
          obtain ⟨V4, hV4⟩ : ∃ V, V = V3.alloc (.cells EH.toArray 33) := ⟨_, rfl⟩
          have hkk := kids_one hts3 (by omega) hEH
          rw [← hV4, z3] at hkk
          have HFEH := Lib.hid (show Instr.fill (fun i => some (i * 21, 21)) ((Array.range (1 * 21)).map ((Value.agg zC).cells[· % (Value.agg zC).cells.size]!)) [(0, Value.agg C.toArray)] = some EH.toArray by rw [hEH]; exact fill_one' C HFC.out.len _ (by simp))
          obtain ⟨DH, hDH⟩ : ∃ D : List Value, D = So.tC 14 [69] 0 (.slice (some ⟨W16.heap.size + 1 + 1 + 1, 0, none⟩) 1 1) (.slice (some ⟨W16.heap.size + 1 + 1, 0, none⟩) 2 2) := ⟨_, rfl⟩
          have hth : TA XB V4 (handT (sumR ys.reverse) (armsA true m)) DH := by rw [hDH]; exact TA.tC hkk (haa.le (memX_le (by rw [hV4]; exact below_new V3 _)))
          have HBUDH := Lib.hid (show Tryz.prog.built 33 [(0, .int .i64 14), (2, .string ⟨#[69]⟩), (5, .slice (some ⟨W16.heap.size + 1 + 1 + 1, 0, none⟩) 1 1), (6, .slice (some ⟨W16.heap.size + 1 + 1, 0, none⟩) 2 2)] = some DH.toArray by rw [hDH]; exact bu_hand 14 [69] _ _ 1 1 2 2)
          have HBP := Lib.hid (built_prog DH hth.len)
          have HC4 := Lib.hid (show Below W16.heap.size W16 V4 by rw [hV4]; exact c3.alloc (by omega) _)
          have HCALL := Lib.hid (answers_call hth (by have := HC4.out.size; omega) (by rw [HYL.out]; exact hq9))
          have H8B := Lib.hid (show Lies V3 sb 33 C.toArray from (c3.block _ (by omega)).trans H86.out)
          have H13B := Lib.hid (show Lies V1 wr.heap.size 33 DX.toArray from (c1.block _ (by omega)).trans H136.out)
          have H15B := Lib.hid (show Lies V2 (W12.heap.size + 1) 33 DP.toArray from (c2.block _ (by omega)).trans H156.out)
          have HN := Lib.hid (show wantN m true ys = wrap64 (x0 + m) from by obtain ⟨r, hr⟩ := HYX.out; rw [hr]; rfl)
          have HK := Lib.hid (show kontN true ys = kk from by show min ys.length 1 = _; rw [HYL.out, HKK.out])
          clear hsz hsz6 z1 z2 z3 c1 c2 c3 hv1 hv2 htx2 htb2 hA1 hA2 hEF haa hEH hts3 hkk hDH hth
          subst hV4 hV3 hV2 hV1
          go_wp2_with (first
            | ((with_reducible show wpList _ _ _ (⟨some 71, Op.load _ _, _, _, _, _⟩ :: _) _ _); refine wpList_load_row rfl 33 (.tmp 13) rfl wr.heap.size rfl 33 DX.toArray (0, 0) _ ?_ Tryz.underlying33 rfl HFDX.out.size ?_; exact H13B.out)
            | ((with_reducible show wpList _ _ _ (⟨some 72, Op.build _ _, _, _, _, _⟩ :: _) _ _); refine wpList_buildTo rfl 35 _ rfl A1.toArray (by rw [Array.toList_map]; exact HBUA1.out) ?_)
            | ((with_reducible show wpList _ _ _ (⟨some 74, Op.load _ _, _, _, _, _⟩ :: _) _ _); refine wpList_load_row rfl 33 (.tmp 15) rfl (W12.heap.size + 1) rfl 33 DP.toArray (0, 0) _ ?_ Tryz.underlying33 rfl HFDP.out.size ?_; exact H15B.out)
            | ((with_reducible show wpList _ _ _ (⟨some 75, Op.build _ _, _, _, _, _⟩ :: _) _ _); refine wpList_buildTo rfl 35 _ rfl A2.toArray (by rw [Array.toList_map]; exact HBUA2.out) ?_)
            | ((with_reducible show wpList _ _ _ (⟨some 76, Op.buildSlice _ _ _, _, _, _, _⟩ :: _) _ _); refine wpList_buildSlice rfl 25 35 2 _ rfl EF.toArray ia (.agg zA) Tryz.underlying25 hia haz (by rw [has]; decide) (by rw [has]; decide) (by rw [has, Array.toList_map]; exact HFEF.out) ?_)
            | ((with_reducible show wpList _ _ _ (⟨some 77, Op.load _ _, _, _, _, _⟩ :: _) _ _); refine wpList_load_row rfl 33 (.tmp 8) rfl sb rfl 33 C.toArray (0, 0) _ ?_ Tryz.underlying33 rfl HFC.out.size ?_; exact H8B.out)
            | ((with_reducible show wpList _ _ _ (⟨some 78, Op.buildSlice _ _ _, _, _, _, _⟩ :: _) _ _); refine wpList_buildSlice rfl 24 33 1 _ rfl EH.toArray ie (.agg zC) Tryz.underlying24 hie hiz (by rw [his]; decide) (by rw [his]; decide) (by rw [his, Array.toList_map]; exact HFEH.out) ?_)
            | ((with_reducible show wpList _ _ _ (⟨some 80, Op.build _ _, _, _, _, _⟩ :: _) _ _); refine wpList_buildTo rfl 33 _ rfl DH.toArray (by rw [Array.toList_map]; exact HBUDH.out) ?_)
            | ((with_reducible show wpList _ _ _ (⟨some 81, Op.build _ _, _, _, _, _⟩ :: _) _ _); refine wpList_buildTo rfl 47 _ rfl ([Value.slice none 0 0, Value.slice none 0 0] ++ DH).toArray (by rw [Array.toList_map]; exact HBP.out) ?_))
          refine HCALL.out.mono ?_
          rintro e w7 ⟨A7, c7, st7, rfl, hb7⟩
          rw [HN.out, HK.out]
          obtain ⟨R7, hR7⟩ : ∃ R, R = runL 1 1 (wrap64 (x0 + m)) (.slice A7 0 c7) st7 (kk) := ⟨_, rfl⟩
          rw [← hR7]
          obtain ⟨W7, hW7, hbW7, hzW7, lW7⟩ := keep_run w7 R7
          have HSZ7 := Lib.hid (show (Tryz.prog.info? 42).map (·.size) = some R7.size by rw [szRun, hR7]; rfl)
          have HON7 := Lib.hid (show R7.all (·.oneCell') = true by rw [hR7]; simp [runL, Value.oneCell'])
          have HZZ7 := Lib.hid (show (#[.int .i64 0, .int .i64 0, .int .i64 0, .string ⟨#[]⟩, .slice none 0 0, .slice none 0 0, .int .i64 0, .int .i64 0] : Array Value).size = R7.size by rw [hR7]; rfl)
          have HR7 := Lib.hid hR7
          have HW7 := Lib.hid hW7
          have LW7 := Lib.hid lW7
          have LV7 := Lib.hid (Lies.new w7 42 #[.int .i64 0, .int .i64 0, .int .i64 0, .string ⟨#[]⟩, .slice none 0 0, .slice none 0 0, .int .i64 0, .int .i64 0])
          have HB7 := Lib.hid (show Below w.heap.size w W7 from (HBA6.out.trans ((HC4.out.trans (hb7.mono HC4.out.size)).mono HBA6.out.size)).trans (hbW7.mono (by have := HBA6.out.size; have := HC4.out.size; have := hb7.size; omega)))
          clear hb7 hR7 hW7 hbW7 hzW7 lW7
          go_upto_region 22 with (refine wpList_store_rowTo rfl 42 (.tmp 18) (.tmp 82) rfl rfl w7.heap.size R7 rfl rfl 42 _ ?_ HSZ7.out HZZ7.out HON7.out ?_; exact LV7.out; rw [← HW7.out])
          have e0 : W7.cell? ⟨w7.heap.size, 0, none⟩ = some (.int .i64 1) := by rw [LW7.out.cell, HR7.out]; rfl
          have e1 : W7.cell? ⟨w7.heap.size, 1, none⟩ = some (.int .i64 1) := by rw [LW7.out.cell, HR7.out]; rfl
          have e2 : W7.cell? ⟨w7.heap.size, 2, none⟩ = some (.int .i64 (wrap64 (x0 + m))) := by rw [LW7.out.cell, HR7.out]; rfl
          have e5 : W7.cell? ⟨w7.heap.size, 5, none⟩ = some (.slice A7 0 c7) := by rw [LW7.out.cell, HR7.out]; rfl
          have e7 : W7.cell? ⟨w7.heap.size, 7, none⟩ = some (.int .i64 ((kk : Nat) : Int)) := by rw [LW7.out.cell, HR7.out]; rfl
          go_wp2
          go_ret
          exact ⟨rfl, HB7.out⟩
end So
end Go.Proofs.YtfkakmafedhgdaaGreatDoor.K
