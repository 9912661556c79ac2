/- How deep a value is, and whether all within it is as it has to be: depth. -/
import Derived.Test.YtkdjmobplknmgaaDoorVaC
import Derived.Deep.RegionHeld3
import Derived.StillTailTactics
import Derived.IntWalk
namespace Go.Proofs.YtkdjmobplknmgaaDoor
open Go.RowKit

/-- A function that tells whether a value is as it has to be, if its kids are. -/
structure Alone (F : Nat) (al : Int → Int → Str → Nat → Bool) : Prop where
  ent : ∀ (args : Array Value) (w : World), (callFunc F args).run Tryd.prog w = .ok (.enter F args) w
  run : ∀ (w : World) (b o : Nat) (k n : Int) (nm : Str) (A : Option Addr) (m c : Nat), ReadsAt w ⟨b, o, none⟩ (vC k n nm (.slice A m c)) → Calls Tryd.prog F #[.pointer (some ⟨b, o, none⟩)] w fun e w' => e = .returned (.bool (al k n nm m)) ∧ w' = w
theorem alone_R : Alone 32 alR := ⟨fun args w => by go_simp, rightAlone_any⟩
theorem alone_F : Alone 35 alF := ⟨fun args w => by go_simp, firstAlone_any⟩
def judgeV (F b : Nat) : Value := .agg #[.func (.func F) #[] #[], .map (some b)]
def DepthEnd (al : Int → Int → Str → Nat → Bool) (t : Vl) (most : Nat) (w : World) (b lo hi : Nat) (L : List Addr) (e : Ending) (w' : World) : Prop :=
  ∃ (d : Nat) (L' : List Addr), e = .returned (.tuple #[.int .i64 (d : Int), .bool (decide (t.deep ≤ most) && okV al t)]) ∧ ((decide (t.deep ≤ most) && okV al t) = true → d = t.deep) ∧ KeyL w' b L' ∧ (∀ x ∈ L', x ∈ L ∨ (lo ≤ x.block ∧ x.block < hi)) ∧ Bt b w w'
def DepthOK (F : Nat) (al : Int → Int → Str → Nat → Bool) (t : Vl) : Prop :=
  ∀ (w : World) (b most lo hi : Nat) (a : Addr) (L : List Addr), KeyL w b L → VA w lo hi a t → (∀ x ∈ L, x.block < lo ∨ hi ≤ x.block) → most ≤ 1000 →
    Calls Tryd.prog 47 #[judgeV F b, .pointer (some a), .int .i64 (most : Int)] w (DepthEnd al t most w b lo hi L)
/-- Where the loop over the kids stands. -/
def DepRel (al : Int → Int → Str → Nat → Bool) (kids : List Vl) (most : Nat) (w2 : World) (b lo g : Nat) (f : Nat → Nat) (L : List Addr) (d i : Value) (wr : World) : Prop :=
  ∃ (q : Nat) (L' : List Addr), q ≤ kids.length ∧ i = .int .i64 (q : Int) ∧ d = .int .i64 ((Vl.deepL (kids.take q) : Nat) : Int) ∧ Vl.deepL (kids.take q) + 1 ≤ most ∧ okVL al (kids.take q) = true ∧ KeyL wr b L' ∧ (∀ x ∈ L', x ∈ L ∨ x.block = g ∨ (lo ≤ x.block ∧ x.block < f q)) ∧ Bt b w2 wr

theorem DepthEnd.no {al : Int → Int → Str → Nat → Bool} {t : Vl} {most : Nat} {w : World} {b lo hi : Nat} {L L' : List Addr} {w' : World} (h : (decide (t.deep ≤ most) && okV al t) = false) (hK : KeyL w' b L') (hL : ∀ x ∈ L', x ∈ L ∨ (lo ≤ x.block ∧ x.block < hi)) (hB : Bt b w w') :
    DepthEnd al t most w b lo hi L (.returned (.tuple #[.int .i64 0, .bool false])) w' := ⟨0, L', (by rw [h]; rfl), (fun e => by rw [h] at e; cases e), hK, hL, hB⟩
theorem DepthEnd.yes {al : Int → Int → Str → Nat → Bool} {t : Vl} {most : Nat} {w : World} {b lo hi : Nat} {L L' : List Addr} {w' : World} {d : Int} (h : (decide (t.deep ≤ most) && okV al t) = true) (hd : d = (t.deep : Int)) (hK : KeyL w' b L') (hL : ∀ x ∈ L', x ∈ L ∨ (lo ≤ x.block ∧ x.block < hi)) (hB : Bt b w w') :
    DepthEnd al t most w b lo hi L (.returned (.tuple #[.int .i64 d, .bool true])) w' := ⟨t.deep, L', (by rw [h, hd]), (fun _ => rfl), hK, hL, hB⟩
theorem deepL_take {kids : List Vl} {q : Nat} {t : Vl} (ht : kids[q]? = some t) : Vl.deepL (kids.take (q + 1)) = max (Vl.deepL (kids.take q)) t.deep := by
  rw [take_step kids q t ht, Vl.deepL_append]
  simp [Vl.deepL]
theorem okVL_take {al : Int → Int → Str → Nat → Bool} {kids : List Vl} {q : Nat} {t : Vl} (ht : kids[q]? = some t) : okVL al (kids.take (q + 1)) = (okVL al (kids.take q) && okV al t) := by
  rw [take_step kids q t ht, okVL_append]
  simp [okVL]
theorem deep_mem {t : Vl} : ∀ {l : List Vl}, t ∈ l → t.deep ≤ Vl.deepL l
  | [], h => by cases h
  | x :: r, h => by
    unfold Vl.deepL
    rcases List.mem_cons.1 h with rfl | h
    · omega
    · have := deep_mem h
      omega
theorem ok_mem {al : Int → Int → Str → Nat → Bool} {t : Vl} : ∀ {l : List Vl}, t ∈ l → okVL al l = true → okV al t = true
  | [], h, _ => by cases h
  | x :: r, h, e => by
    unfold okVL at e
    rw [Bool.and_eq_true] at e
    rcases List.mem_cons.1 h with rfl | h
    · exact e.1
    · exact ok_mem h e.2

set_option maxRecDepth 100000 in
set_option maxHeartbeats 8000000 in
theorem depth_step {F : Nat} {al : Int → Int → Str → Nat → Bool} (hF : Alone F al) (k n : Int) (nm : Str) (kids : List Vl) (ih : ∀ (i : Nat) t, kids[i]? = some t → DepthOK F al t) : DepthOK F al (.mk k n nm kids) := by
  intro w b most lo hi a L hK hV hL hmost
  obtain ⟨kv, f, hsp, hat, hr, hsl, hlo, hf, hks⟩ := hV.open
  obtain ⟨A, c, rfl, hmc, hcm, hg⟩ := hsl
  obtain ⟨ab, ao, asp⟩ := a
  have hsp' : asp = none := hsp
  subst hsp'
  have hent := hF.ent
  -- the box
  obtain ⟨w1, hw1⟩ : ∃ w1, w1 = w.alloc (.cells #[.func (.func F) #[] #[], .map (some b)] 83) := ⟨_, rfl⟩
  have hb1 : Below w.heap.size w w1 := by rw [hw1]; exact below_new w _
  have l1 : Lies w1 w.heap.size 83 #[.func (.func F) #[] #[], .map (some b)] := by rw [hw1]; exact Lies.new w _ _
  have hr1 := hr.keep (hb1.block _ hat.lt)
  have hrun := Lib.hid (hF.run w1 ab ao k n nm A kids.length c hr1)
  obtain ⟨c0, c1, c2, c3⟩ := reads4 hr1
  have j0 := l1.cell 0
  have j1 := l1.cell 1
  have hdeep : (Vl.mk k n nm kids).deep = 1 + Vl.deepL kids := by simp [Vl.deep]
  have hokv : okV al (.mk k n nm kids) = (al k n nm kids.length && okVL al kids) := by simp [okV]
  have HD := Lib.hid hdeep
  have HO := Lib.hid hokv
  have HW := Lib.hid hw1
  have HK := Lib.hid hK
  have HL := Lib.hid hL
  have HR := Lib.hid hr1
  have HR0 := Lib.hid hr
  have HG := Lib.hid hg
  have HKS := Lib.hid hks
  have HAT := Lib.hid hat
  have HIH := Lib.hid ih
  have HB1 := Lib.hid hb1
  have HL1 := Lib.hid l1
  have HF := Lib.hid hf
  have HV := Lib.hid hV
  clear hdeep hokv hw1 hK hV hL hr hr1 hg hks hat ih hsp hb1 l1 hf
  unfold judgeV
  by_cases h0 : most = 0
  · subst h0
    go_enter Tryd.func47, Tryd.ntmps47
    go_wp2
    rw [← HW.out]
    go_ret2
    exact .no (by rw [HD.out]; simp) (HK.out.later HB1.out) (fun x hx => .inl hx) (.of_below HB1.out)
  · have h0i : ¬ (most : Int) = 0 := by omega
    by_cases hal : al k n nm kids.length = true
    · rw [hal] at hrun
      have HAL := Lib.hid hal
      clear hal
      by_cases hz : kids.length = 0
      · have hzi : (kids.length : Int) = 0 := by omega
        have hnil : kids = [] := List.eq_nil_of_length_eq_zero hz
        have hy : (decide ((Vl.mk k n nm kids).deep ≤ most) && okV al (Vl.mk k n nm kids)) = true := by
          rw [HD.out, HO.out, HAL.out, hnil, show Vl.deepL [] = 0 from rfl, show okVL al [] = true from rfl, Bool.and_true, Bool.and_true, decide_eq_true_eq]
          omega
        have HY := Lib.hid hy
        have HN := Lib.hid hnil
        have HZ := Lib.hid hz
        clear hnil hz hy
        go_enter Tryd.func47, Tryd.ntmps47
        go_wp2_with fail
        rw [← HW.out]
        go_wp2_with fail
        refine hrun.out.mono ?_
        rintro e w1 ⟨rfl, rfl⟩
        go_wp2
        go_ret2
        exact .yes HY.out (by rw [HD.out, HN.out]; rfl) (HK.out.later HB1.out) (fun x hx => .inl hx) (.of_below HB1.out)
      · have hzi : ¬ (kids.length : Int) = 0 := by omega
        have hzp : (0 : Int) < (kids.length : Int) := by omega
        obtain ⟨g, rfl, hgat, hfg, hghi⟩ := HG.out (by omega)
        have hgat1 : AtCells w1 ⟨g, 0, none⟩ := hgat.keep (HB1.out.block _ hgat.lt)
        have hgL : (⟨g, 0, none⟩ : Addr) ∉ L := fun h => by
          have h1 := HL.out _ h
          have h2 := mono_le HF.out (Nat.zero_le kids.length)
          have h3 : g < lo ∨ hi ≤ g := h1
          omega
        have hkid := kids_any w1 ab ao g k n nm kids.length c HR.out (by omega) hmc hcm
        unfold keyL at hkid
        have HKD := Lib.hid hkid
        have hslot : (0 : Nat) < kids.length := by omega
        have hmb : kids.length ≤ 9223372036854775807 := by unfold maxLen at hcm; omega
        have HK1 := Lib.hid (HK.out.later HB1.out)
        have HGA := Lib.hid hgat1
        have HGL := Lib.hid hgL
        clear hkid hgat hgat1 hgL hz
        go_enter Tryd.func47, Tryd.ntmps47
        go_wp2_with fail
        rw [← HW.out]
        go_wp2_with fail
        refine hrun.out.mono ?_
        rintro e w1 ⟨rfl, rfl⟩
        go_wp2_with fail
        refine HKD.out.mono ?_
        rintro e w2 ⟨rfl, hb2⟩
        obtain ⟨w3, hw3⟩ : ∃ w3, w3 = w2.alloc (.cells #[.pointer (some ⟨g, 0, none⟩), .int .i64 (kids.length : Int)] 66) := ⟨_, rfl⟩
        have hb3 : Below w1.heap.size w1 w3 := by rw [hw3]; exact hb2.trans ((below_new w2 _).mono hb2.size)
        have l3 : Lies w3 w2.heap.size 66 #[.pointer (some ⟨g, 0, none⟩), .int .i64 (kids.length : Int)] := by rw [hw3]; exact Lies.new w2 _ _
        have hk3 := HK1.out.later hb3
        have hg3 : AtCells w3 ⟨g, 0, none⟩ := HGA.out.keep (hb3.block _ HGA.out.lt)
        have d0 : w3.cell? ⟨w2.heap.size, 0, none⟩ = some (.pointer (some ⟨g, 0, none⟩)) := l3.cell 0
        have d1 : w3.cell? ⟨w2.heap.size, 1, none⟩ = some (.int .i64 (kids.length : Int)) := l3.cell 1
        have l13 := HL1.out.later hb3
        have e0 : w3.cell? ⟨w.heap.size, 0, none⟩ = some (.func (.func F) #[] #[]) := l13.cell 0
        have e1 : w3.cell? ⟨w.heap.size, 1, none⟩ = some (.map (some b)) := l13.cell 1
        have hr3 := HR.out.keep (hb3.block _ (HL1.out.lt |> fun _ => by have := World.block_lt_of_cell? w1 _ c0; exact this))
        obtain ⟨x0, x1, x2, x3⟩ := reads4 hr3
        have u1 := e1
        have u2 := d0
        have u3 := d1
        rw [hw3] at u1 u2 u3
        have HW3 := Lib.hid hw3
        have HB3 := Lib.hid hb3
        have HL3 := Lib.hid l3
        have HK3 := Lib.hid hk3
        have HG3 := Lib.hid hg3
        have HL13 := Lib.hid l13
        have HR3 := Lib.hid hr3
        have HS2 := Lib.hid hb2
        clear hw3 hb3 l3 hk3 hg3 l13 hr3 hb2
        go_wp2_with (first | (at_lookup; go_loud (rw [← HW3.out]); go_loud (refine wpList_look_keyL _ rfl 42 (.tmp 33) (.tmp 34) rfl Tryd.underlying42 rfl HK3.out ⟨g, 0, none⟩ (kids.length : Int) rfl HG3.out HGL.out ?_)) | (at_mapUpdate; refine wpList_put_keyL _ rfl 42 (.tmp 45) (.tmp 46) (.const (.int .i64 1000)) rfl Tryd.underlying42 rfl HK3.out ⟨g, 0, none⟩ (kids.length : Int) 1000 rfl rfl HG3.out ?_; intro w4 hk4 hgr4 hs4; have HK4 := Lib.hid hk4; have HGR4 := Lib.hid hgr4; clear hk4 hgr4 hs4; have hq3 := (Bt.of_grown HGR4.out); have z3 := World.cell?_of_block (w := w3) (w' := w4) (a := ⟨ab, ao + 3, none⟩) (hq3.keeps HK3.out.isMap ⟨ab, ao, none⟩ (HAT.out.keep ((HB1.out.trans (HB3.out.mono HB1.out.size)).block _ HAT.out.lt))); rw [x3] at z3; clear hq3))
        have hbw := HK.out.lt
        have hb03 : Below w.heap.size w w3 := HB1.out.trans (HB3.out.mono HB1.out.size)
        have hs2 : w.heap.size < w2.heap.size := Nat.lt_of_lt_of_le HL1.out.lt HS2.out.size
        have HB03 := Lib.hid (Bt.of_below (b := b) hb03)
        have HNE := Lib.hid (And.intro (show w.heap.size ≠ b by omega) (show w2.heap.size ≠ b by omega))
        have hmi1 : ((most - 1 : Nat) : Int) = (most : Int) - 1 := by omega
        have hwm : IntKind.i64.wrap ((most : Int) - 1) = (most : Int) - 1 := IntWalk.i64_in _ (by omega)
        have HM1 := Lib.hid hmi1
        clear hmi1 hb03 hs2
        go_loopw [9, 52] (fun d i wr => DepRel al kids most w3 b lo g f L d i wr) (fun _ i _ => kids.length - (intOf i).toNat)
        case atStart =>
          refine ⟨0, _, Nat.zero_le _, rfl, rfl, ?_, rfl, HK4.out, fun x hx => ?_, .of_grown HGR4.out⟩
          · show 0 + 1 ≤ most
            omega
          · rcases List.mem_cons.1 hx with rfl | hx
            · exact .inr (.inl rfl)
            · exact .inl hx
        case round =>
          obtain ⟨q, L', hq, rfl, rfl, hdm, hokq, hK', hL', hBt⟩ := hrel
          have hBW := HB03.out.trans hBt
          have l13r := HL13.out.bt hBt HNE.out.1
          have l3r := HL3.out.bt hBt HNE.out.2
          have e0r : wr.cell? ⟨w.heap.size, 0, none⟩ = some (.func (.func F) #[] #[]) := l13r.cell 0
          have e1r : wr.cell? ⟨w.heap.size, 1, none⟩ = some (.map (some b)) := l13r.cell 1
          have d0r : wr.cell? ⟨w2.heap.size, 0, none⟩ = some (.pointer (some ⟨g, 0, none⟩)) := l3r.cell 0
          have d1r : wr.cell? ⟨w2.heap.size, 1, none⟩ = some (.int .i64 (kids.length : Int)) := l3r.cell 1
          have hrr := HR0.out.keep (hBW.keeps HK.out.isMap _ HAT.out)
          have x3r : wr.cell? ⟨ab, ao + 3, none⟩ = some (.slice (some ⟨g, 0, none⟩) kids.length c) := hrr 3 _ rfl
          have hgatr : AtCells wr ⟨g, 0, none⟩ := HG3.out.keep (hBt.keeps HK3.out.isMap _ HG3.out)
          have HBW := Lib.hid hBW
          have HBT := Lib.hid hBt
          have HDM := Lib.hid hdm
          have HOQ := Lib.hid hokq
          have HKQ := Lib.hid hK'
          have HLQ := Lib.hid hL'
          have HGR := Lib.hid hgatr
          have HLA := Lib.hid l13r
          clear hBW hBt hdm hokq hK' hL' hgatr l13r l3r hrr d0 d1 e0 e1 x0 x1 x2 x3 u1 u2 u3 z3 c0 c1 c2 c3 j0 j1
          by_cases hlt : q < kids.length
          · obtain ⟨t, ht⟩ : ∃ t, kids[q]? = some t := ⟨_, List.getElem?_eq_getElem hlt⟩
            have hva : VA wr (f q) (f (q + 1)) ⟨g, q * 4, none⟩ t := by
              have h := (HKS.out q t ht).keep (HBW.out.keeps HK.out.isMap)
              have e : kidV (.slice (some ⟨g, 0, none⟩) kids.length c) q = ⟨g, q * 4, none⟩ := by simp [kidV]
              rwa [e] at h
            have hfree : ∀ x ∈ L', x.block < f q ∨ f (q + 1) ≤ x.block := fun x hx => by
              have h1 := mono_le HF.out (Nat.zero_le q)
              have h2 := mono_le HF.out (show q + 1 ≤ kids.length by omega)
              have h3 := mono_le HF.out (Nat.zero_le (q + 1))
              rcases HLQ.out x hx with h | h | h
              · have h4 := HL.out x h
                omega
              · omega
              · omega
            have hc := HIH.out q t ht wr.drew b (most - 1) (f q) (f (q + 1)) ⟨g, q * 4, none⟩ L' HKQ.out (VA.keep (w := wr) (w' := wr.drew) (fun _ _ => rfl) hva) hfree (by omega)
            unfold judgeV DepthEnd at hc
            rw [HM1.out] at hc
            have hmem : t ∈ kids := List.mem_of_getElem? ht
            have hdt := deepL_take ht
            have hot := okVL_take (al := al) ht
            have hqc : q < c := by omega
            have HT := Lib.hid ht
            have HME := Lib.hid hmem
            have HDT := Lib.hid hdt
            have HOT := Lib.hid hot
            have hS : wr.cell? ⟨w.heap.size, 0, none⟩ = some (.func (.func F) #[] #[]) ∧ wr.cell? ⟨w.heap.size, 1, none⟩ = some (.map (some b)) ∧ wr.cell? ⟨ab, ao + 3, none⟩ = some (.slice (some ⟨g, 0, none⟩) kids.length c) := ⟨e0r, e1r, x3r⟩
            have hkeep : ∀ V : World, Bt b wr V → V.cell? ⟨w.heap.size, 0, none⟩ = some (.func (.func F) #[] #[]) ∧ V.cell? ⟨w.heap.size, 1, none⟩ = some (.map (some b)) ∧ V.cell? ⟨ab, ao + 3, none⟩ = some (.slice (some ⟨g, 0, none⟩) kids.length c) := fun V hV => by
              have h1 := HLA.out.bt hV HNE.out.1
              have h2 := HR0.out.keep ((HBW.out.trans hV).keeps HK.out.isMap _ HAT.out)
              exact ⟨h1.cell 0, h1.cell 1, h2 3 _ rfl⟩
            have hdr : Bt b wr wr.drew := ⟨rfl, rfl, rfl, Nat.le_refl _, fun _ _ _ => rfl⟩
            have HKP := Lib.hid hkeep
            have HDR := Lib.hid hdr
            have HSS := Lib.hid hS
            clear ht hva hfree hmem hdt hot hkeep hdr hS
            by_cases hfb : (decide (t.deep ≤ most - 1) && okV al t) = true
            · rw [hfb] at hc
              have HFB := Lib.hid hfb
              have HC := Lib.hid hc
              clear hfb hc
              go_wp2_with fail
              go_region_held3 (fun V => V.cell? ⟨w.heap.size, 0, none⟩ = some (.func (.func F) #[] #[]) ∧ V.cell? ⟨w.heap.size, 1, none⟩ = some (.map (some b)) ∧ V.cell? ⟨ab, ao + 3, none⟩ = some (.slice (some ⟨g, 0, none⟩) kids.length c))
                (first | with_reducible exact HSS.out | with_reducible exact HKP.out _ HDR.out | with_reducible exact hS5)
                ((go_at_call 47; refine HC.out.mono ?_; rintro e w5 ⟨dd, L2, rfl, hdd, hK5, hL5, hB5⟩; have hS5 := HKP.out _ (HDR.out.trans hB5); have HDD := Lib.hid hdd; have HK5 := Lib.hid hK5; have HL5 := Lib.hid hL5; have HB5 := Lib.hid hB5; clear hdd hK5 hL5 hB5))
              all_goals
                obtain rfl : dd = t.deep := by first | exact HDD.out rfl | exact HDD.out trivial | exact HDD.out
                have hdl : t.deep ≤ most - 1 := by
                  have := HFB.out
                  rw [Bool.and_eq_true, decide_eq_true_eq] at this
                  exact this.1
                have HDL := Lib.hid hdl
                clear hdl HDD
                go_wp2
                go_roundw
                case rel =>
                  refine ⟨q + 1, L2, by omega, by go_num, ?_, ?_, ?_, HK5.out, fun x hx => ?_, HBT.out.trans (HDR.out.trans HB5.out)⟩
                  · rw [HDT.out]
                    exact congrArg (Value.int .i64) (by omega)
                  · have h1 := HDM.out
                    have h2 := HDL.out
                    rw [HDT.out]
                    omega
                  · have h2 := HFB.out
                    rw [Bool.and_eq_true] at h2
                    rw [HOT.out, HOQ.out, h2.2]
                    rfl
                  · have h1 := HF.out q
                    rcases HL5.out x hx with h | h
                    · rcases HLQ.out x h with h | h | h
                      · exact .inl h
                      · exact .inr (.inl h)
                      · exact .inr (.inr ⟨h.1, by omega⟩)
                    · have h2 := mono_le HF.out (Nat.zero_le q)
                      exact .inr (.inr ⟨by omega, h.2⟩)
                case measure => simp [intOf]; omega
            · have hfb' : (decide (t.deep ≤ most - 1) && okV al t) = false := by simpa using hfb
              rw [hfb'] at hc
              have HFB := Lib.hid hfb'
              have HC := Lib.hid hc
              clear hfb hc hfb'
              go_wp2_with fail
              go_region_held3 (fun V => V.cell? ⟨w.heap.size, 0, none⟩ = some (.func (.func F) #[] #[]) ∧ V.cell? ⟨w.heap.size, 1, none⟩ = some (.map (some b)) ∧ V.cell? ⟨ab, ao + 3, none⟩ = some (.slice (some ⟨g, 0, none⟩) kids.length c))
                (first | with_reducible exact HSS.out | with_reducible exact HKP.out _ HDR.out | with_reducible exact hS5)
                ((go_at_call 47; refine HC.out.mono ?_; rintro e w5 ⟨dd, L2, rfl, hdd, hK5, hL5, hB5⟩; have hS5 := HKP.out _ (HDR.out.trans hB5); have HDD := Lib.hid hdd; have HK5 := Lib.hid hK5; have HL5 := Lib.hid hL5; have HB5 := Lib.hid hB5; clear hdd hK5 hL5 hB5))
              all_goals
                go_wp2
                go_ret2
                refine .no ?_ HK5.out (fun x hx => ?_) (HBW.out.trans (HDR.out.trans HB5.out))
                · have h1 := deep_mem HME.out
                  have h2 := HFB.out
                  rw [HD.out, HO.out]
                  rw [Bool.and_eq_false_iff, decide_eq_false_iff_not] at h2 ⊢
                  rcases h2 with h2 | h2
                  · exact .inl (by omega)
                  · refine .inr ?_
                    rw [Bool.and_eq_false_iff]
                    refine .inr ?_
                    rw [Bool.eq_false_iff]
                    intro h3
                    rw [ok_mem HME.out h3] at h2
                    cases h2
                · have h1 := mono_le HF.out (show q + 1 ≤ kids.length by omega)
                  have h0' := mono_le HF.out (Nat.zero_le q)
                  have h0'' := mono_le HF.out (Nat.zero_le kids.length)
                  have h5 := HF.out q
                  rcases HL5.out x hx with h | h
                  · rcases HLQ.out x h with h | h | h
                    · exact .inl h
                    · exact .inr (by omega)
                    · exact .inr (by omega)
                  · exact .inr (by omega)
          · obtain rfl : q = kids.length := by omega
            rw [List.take_length] at HDM HOQ
            have hy : (decide ((Vl.mk k n nm kids).deep ≤ most) && okV al (Vl.mk k n nm kids)) = true := by
              rw [HD.out, HO.out, HAL.out, HOQ.out, Bool.and_true, Bool.and_true, decide_eq_true_eq]
              have := HDM.out
              omega
            have HY := Lib.hid hy
            rw [List.take_length]
            have hdm : Vl.deepL kids + 1 ≤ most := HDM.out
            clear hy
            go_wp2_with (at_mapUpdate; refine wpList_put_keyL _ rfl 42 (.tmp 75) (.tmp 76) (.tmp 77) rfl Tryd.underlying42 rfl HKQ.out ⟨g, 0, none⟩ (kids.length : Int) (Vl.deepL kids : Nat) rfl rfl HGR.out ?_; intro w6 hk6 hgr6 hs6; have HK6 := Lib.hid hk6; have HGR6 := Lib.hid hgr6; clear hk6 hgr6 hs6)
            go_ret2
            refine .yes HY.out (by rw [HD.out]; omega) HK6.out (fun x hx => ?_) (HBW.out.trans (.of_grown HGR6.out))
            have h0' := mono_le HF.out (Nat.zero_le kids.length)
            rcases List.mem_cons.1 hx with rfl | hx
            · exact .inr ⟨by show lo ≤ g; omega, hghi⟩
            · rcases HLQ.out x hx with h | h | h
              · exact .inl h
              · exact .inr (by omega)
              · exact .inr (by omega)
    · have halF : al k n nm kids.length = false := by simpa using hal
      rw [halF] at hrun
      have HAL := Lib.hid halF
      clear halF hal
      go_enter Tryd.func47, Tryd.ntmps47
      go_wp2_with fail
      rw [← HW.out]
      go_wp2_with fail
      refine hrun.out.mono ?_
      rintro e w1 ⟨rfl, rfl⟩
      go_wp2
      go_ret2
      exact .no (by rw [HO.out, HAL.out]; simp) (HK.out.later HB1.out) (fun x hx => .inl hx) (.of_below HB1.out)
theorem depth_all {F : Nat} {al : Int → Int → Str → Nat → Bool} (hF : Alone F al) : ∀ (m : Nat) (t : Vl), t.size ≤ m → DepthOK F al t
  | 0, .mk k n nm kids, h => absurd h (by simp [Vl.size])
  | m + 1, .mk k n nm kids, h => depth_step hF k n nm kids fun i t ht => depth_all hF m t (by
      have h1 := Vl.size_mem (List.mem_of_getElem? ht)
      have h2 : 1 + Vl.sizeL kids ≤ m + 1 := by simpa [Vl.size] using h
      omega)
end Go.Proofs.YtkdjmobplknmgaaDoor
