/- A value's text; write. -/
import Derived.Test.YtkdjmobplknmgaaDoorVtZ
namespace Go.Proofs.YtkdjmobplknmgaaDoor
open Go Go.RowKit Go.Shelf

mutual
/-- A value's text. -/
def txtV : Vl → Str
  | .mk k n nm [] => wordV k n nm
  | .mk k n nm (t :: r) => wordV k n nm ++ (40 :: (txtV t ++ restL r) ++ [41])
def restL : List Vl → Str
  | [] => []
  | t :: r => 44 :: 32 :: (txtV t ++ restL r)
end
/-- What stands ahead of the closing bracket. -/
def preL : List Vl → Str
  | [] => []
  | t :: r => 40 :: (txtV t ++ restL r)
theorem txt_none (k n : Int) (nm : Str) : txtV (.mk k n nm []) = wordV k n nm := by simp [txtV]
theorem txt_some (k n : Int) (nm : Str) {kids : List Vl} (h : 0 < kids.length) : txtV (.mk k n nm kids) = wordV k n nm ++ preL kids ++ [41] := by
  cases kids with
  | nil => simp at h
  | cons t r => simp [txtV, preL]
theorem restL_snoc : ∀ (l : List Vl) (t : Vl), restL (l ++ [t]) = restL l ++ (44 :: 32 :: txtV t)
  | [], t => by simp [restL]
  | x :: r, t => by simp [restL, restL_snoc r t]
def sepL (q : Nat) : Str := if q = 0 then [40] else [44, 32]
theorem preL_take {kids : List Vl} {q : Nat} {t : Vl} (ht : kids[q]? = some t) : preL (kids.take (q + 1)) = preL (kids.take q) ++ sepL q ++ txtV t := by
  rw [take_step kids q t ht]
  cases hk : kids.take q with
  | nil =>
    have : q = 0 := by
      have h1 : (kids.take q).length = 0 := by rw [hk]; rfl
      have h2 := (List.getElem?_eq_some_iff.1 ht).1
      rw [List.length_take] at h1
      omega
    subst this
    simp [preL, restL, sepL]
  | cons x r =>
    have : q ≠ 0 := by rintro rfl; simp at hk
    simp [preL, restL_snoc, sepL, this]
mutual
theorem len_txt : ∀ t : Vl, (txtV t).length = lenV t
  | .mk k n nm [] => by simp [txtV, lenV, lenL]
  | .mk k n nm (t :: r) => by
    have h1 := len_txt t
    have h2 := len_rest r
    simp only [txtV, lenV, lenL, List.length_append, List.length_cons, List.length_nil, h1, h2]
    omega
theorem len_rest : ∀ l : List Vl, (restL l).length = lenL l
  | [] => by simp [restL, lenL]
  | t :: r => by
    have h1 := len_txt t
    have h2 := len_rest r
    simp only [restL, lenL, List.length_append, List.length_cons, h1, h2]
    omega
end
theorem len_pre : ∀ l : List Vl, (preL l).length ≤ lenL l
  | [] => by simp [preL]
  | t :: r => by
    have h1 := len_txt t
    have h2 := len_rest r
    simp only [preL, lenL, List.length_append, List.length_cons, h1, h2]
    omega

/-- A builder in a block of the call's own, holding some bytes. -/
def Bld (w : World) (b : Nat) (l : Str) : Prop := Lib.IsBuilder 49 5 b b (Lib.byteCells l) w
def Used (w : World) (b : Nat) (l : Str) : Prop := Lib.BuilderAt 49 5 b b (.pointer (some ⟨b, 0, none⟩)) (Lib.byteCells l) w
theorem Used.bld {w : World} {b : Nat} {l : Str} (h : Used w b l) : Bld w b l := .inr h
theorem builder_later {w w' : World} {B b : Nat} {p : Value} {bs : List Value} (h : Lib.BuilderAt 49 5 B b p bs w) (hb : Below w.heap.size w w') : Lib.BuilderAt 49 5 B b p bs w' := by
  obtain ⟨hB, v, hbk, hown, hne⟩ := h
  exact ⟨hB, v, (hb.block _ (lt_of_block hbk)).trans hbk, own_later hown hb, hne⟩
theorem Bld.later {w w' : World} {b : Nat} {l : Str} (h : Bld w b l) (hb : Below w.heap.size w w') : Bld w' b l := h.imp (fun h => builder_later h hb) fun h => builder_later h hb
theorem Bld.lt {w : World} {b : Nat} {l : Str} (h : Bld w b l) : b < w.heap.size := by
  rcases h with ⟨_, v, hbk, _⟩ | ⟨_, v, hbk, _⟩ <;> exact lt_of_block hbk
theorem wstr_any (b : Nat) (l : Str) (s : ByteArray) (w : World) (h : Bld w b l) (hlen : l.length + s.size ≤ 140737488355328) :
    Calls Tryd.prog 45 #[.pointer (some ⟨b, 0, none⟩), .string s] w fun e w' => e = .returned (.tuple #[.int .i64 (s.size : Int), .nilIface]) ∧ Used w' b (l ++ s.data.toList) ∧ Below b w w' := by
  have e1 : Lib.byteCells (l ++ s.data.toList) = Lib.byteCells l ++ Lib.strCells s := by simp [Lib.byteCells, Lib.strCells]
  unfold Used
  rw [e1]
  exact Any.Builder_WriteString Tryd.lay166 Tryd.Builder_Extra b b (Lib.byteCells l) s w h (by rw [Lib.byteCells_length]; exact hlen) (Nat.le_of_lt h.lt)
/-- What lies ahead of a block stays. -/
theorem VA.ahead {w w' : World} {B : Nat} (hb : Below B w w') {lo hi : Nat} {a : Addr} {t : Vl} (h : VA w lo hi a t) : a.block < B → hi ≤ B → VA w' lo hi a t := by
  induction h with
  | mk lo hi a k n nm kids kv f h0 hat hr hsl hlo hf _ ih =>
    intro ha hh
    obtain ⟨A, c, rfl, h2, h3, h4⟩ := hsl
    refine .mk lo hi a k n nm kids _ f h0 (hat.keep (hb.block _ ha)) (hr.keep (hb.block _ ha)) ⟨A, c, rfl, h2, h3, fun h => ?_⟩ hlo hf fun i t ht => ?_
    · obtain ⟨g, h5, h6, h7, h8⟩ := h4 h
      exact ⟨g, h5, h6.keep (hb.block _ (by show g < B; omega)), h7, h8⟩
    · have hi1 := (List.getElem?_eq_some_iff.1 ht).1
      obtain ⟨g, rfl, h6, h7, h8⟩ := h4 (by omega)
      have h9 := mono_le hf (show i + 1 ≤ kids.length by omega)
      exact ih i t ht (by show g < B; omega) (by omega)
def WEnd (w : World) (b : Nat) (l : Str) (e : Ending) (w' : World) : Prop := e = .returned (.tuple #[]) ∧ Used w' b l ∧ Below b w w'
structure WAsk (t : Vl) (w : World) (b lo hi : Nat) (a : Addr) (l : Str) : Prop where
  bld : Bld w b l
  at_ : VA w lo hi a t
  ab : a.block < b
  hib : hi ≤ b
  tab : Tab w
  ahead : 1 < b
  num : okV alN t = true
  len : l.length + lenV t ≤ 100000000
def WriteOK (t : Vl) : Prop := ∀ (w : World) (b lo hi : Nat) (a : Addr) (l : Str), WAsk t w b lo hi a l → Calls Tryd.prog 28 #[.pointer (some ⟨b, 0, none⟩), .pointer (some a)] w (WEnd w b (l ++ txtV t))
def WRel (kids : List Vl) (w : World) (b : Nat) (l : Str) (s i : Value) (wr : World) : Prop :=
  ∃ q : Nat, q ≤ kids.length ∧ i = .int .i64 (q : Int) ∧ s = .string (ba (sepL q)) ∧ Bld wr b (l ++ preL (kids.take q)) ∧ Below b w wr
set_option maxRecDepth 100000 in
set_option maxHeartbeats 8000000 in
theorem write_step (k n : Int) (nm : Str) (kids : List Vl) (ih : ∀ (i : Nat) t, kids[i]? = some t → WriteOK t) : WriteOK (.mk k n nm kids) := by
  intro w b lo hi a l hA
  obtain ⟨hBl, hV, hab, hhi, hT, hgb, hN, hlen⟩ := hA
  have hV0 := hV
  obtain ⟨kv, f, hsp, hat, hr, hsl, hlo, hf, hks⟩ := hV.open
  obtain ⟨A, c, rfl, hmc, hcm, hg⟩ := hsl
  obtain ⟨ab, ao, asp⟩ := a
  have hsp' : asp = none := hsp
  subst hsp'
  have hN2 : i64r n ∧ okVL alN kids = true := by
    have : okV alN (.mk k n nm kids) = (alN k n nm kids.length && okVL alN kids) := by simp [okV]
    rw [this, Bool.and_eq_true] at hN
    exact ⟨alN_r hN.1, hN.2⟩
  have hlv : lenV (.mk k n nm kids) = (wordV k n nm).length + lenL kids := by simp [lenV]
  have hwd := word_any w ab ao k n nm _ hr hN2.1 hT
  have hbl := hBl.lt
  have habb : ab < b := hab
  obtain ⟨T, hTT⟩ : ∃ T, T = wordV k n nm := ⟨_, rfl⟩
  rw [← hTT] at hwd hlv
  have hl1 : l.length + T.length + lenL kids ≤ 100000000 := by omega
  have HWD := Lib.hid hwd
  have HR0 := Lib.hid hr
  have HAT := Lib.hid hat
  have HTT := Lib.hid hTT
  have HL1 := Lib.hid hl1
  have HBL := Lib.hid hBl
  have HTB := Lib.hid hT
  have HNK := Lib.hid hN2.2
  have HIH := Lib.hid ih
  have HKS := Lib.hid hks
  have HG := Lib.hid hg
  have HF := Lib.hid hf
  have HAB := Lib.hid hab
  clear hwd hr hat hTT hl1 hBl hT hN2 ih hks hg hf hN hV hV0 hlv hlen hsp hab
  by_cases hz : kids.length = 0
  · have hzi : (kids.length : Int) = 0 := by omega
    have hnil : kids = [] := List.eq_nil_of_length_eq_zero hz
    have htx : txtV (.mk k n nm kids) = T := by rw [hnil, txt_none]; exact HTT.out.symm
    have HTX := Lib.hid htx
    clear hz hnil htx
    go_enter Tryd.func28, Tryd.ntmps28
    go_wp2_with fail
    refine HWD.out.mono ?_
    rintro e w1 ⟨rfl, hb1⟩
    have hr1 := HR0.out.keep (hb1.block _ HAT.out.lt)
    have hws := wstr_any b l (ba T) w1 (HBL.out.later hb1) (by rw [ba_size]; have := HL1.out; omega)
    rw [ba_list] at hws
    have HWS := Lib.hid hws
    have HB1 := Lib.hid (hb1.mono (Nat.le_of_lt hbl))
    have HR1 := Lib.hid hr1
    clear hr1 hb1 hws
    go_wp2_with fail
    refine HWS.out.mono ?_
    rintro e w2 ⟨rfl, hu2, hb2⟩
    have x3 : w2.cell? ⟨ab, ao + 3, none⟩ = some (.slice A kids.length c) := (HR1.out.keep (hb2.block ab habb)) 3 _ rfl
    have HU2 := Lib.hid hu2
    have HB2 := Lib.hid (HB1.out.trans hb2)
    clear hu2 hb2
    go_wp2
    refine bodyPost_ret (results_none rfl _ _ _) rfl ?_
    exact ⟨rfl, by rw [HTX.out]; exact HU2.out, HB2.out⟩
  · have hzi : ¬ (kids.length : Int) = 0 := by omega
    have hzb : ((kids.length : Int) == 0) = false := beq_false_of_ne (by omega)
    have hkp : 0 < kids.length := by omega
    have hzp : (0 : Int) < (kids.length : Int) := by omega
    have hmb : kids.length ≤ 9223372036854775807 := by unfold maxLen at hcm; omega
    obtain ⟨g, rfl, hgat, hfg, hghi⟩ := HG.out (by omega)
    have htx : txtV (.mk k n nm kids) = T ++ preL kids ++ [41] := by rw [txt_some _ _ _ hkp, HTT.out]
    have HTX := Lib.hid htx
    have HGA := Lib.hid hgat
    clear hz htx hgat
    go_enter Tryd.func28, Tryd.ntmps28
    go_wp2_with fail
    refine HWD.out.mono ?_
    rintro e w1 ⟨rfl, hb1⟩
    have hr1 := HR0.out.keep (hb1.block _ HAT.out.lt)
    have hws := wstr_any b l (ba T) w1 (HBL.out.later hb1) (by rw [ba_size]; have := HL1.out; omega)
    rw [ba_list] at hws
    have HWS := Lib.hid hws
    have HB1 := Lib.hid (hb1.mono (Nat.le_of_lt hbl))
    have HR1 := Lib.hid hr1
    clear hr1 hb1 hws
    go_wp2_with fail
    refine HWS.out.mono ?_
    rintro e w2 ⟨rfl, hu2, hb2⟩
    have x3 : w2.cell? ⟨ab, ao + 3, none⟩ = some (.slice (some ⟨g, 0, none⟩) kids.length c) := (HR1.out.keep (hb2.block ab habb)) 3 _ rfl
    have HU2 := Lib.hid hu2
    have HB2 := Lib.hid (HB1.out.trans hb2)
    clear hu2 hb2
    go_wp2_with fail
    go_loopw [4, 21] (fun s i wr => WRel kids w b (l ++ T) s i wr) (fun _ i _ => kids.length - (intOf i).toNat)
    case atStart => exact ⟨0, Nat.zero_le _, rfl, rfl, by rw [List.take_zero]; show Bld _ _ ((l ++ T) ++ []); rw [List.append_nil]; exact HU2.out.bld, HB2.out⟩
    case round =>
      obtain ⟨q, hq, rfl, rfl, hBq, hBt⟩ := hrel
      have x3r : wr.cell? ⟨ab, ao + 3, none⟩ = some (.slice (some ⟨g, 0, none⟩) kids.length c) := (HR0.out.keep (hBt.block ab habb)) 3 _ rfl
      have HBQ := Lib.hid hBq
      have HBT := Lib.hid hBt
      clear hBq hBt x3
      by_cases hlt : q < kids.length
      · obtain ⟨t, ht⟩ : ∃ t, kids[q]? = some t := ⟨_, List.getElem?_eq_getElem hlt⟩
        have hmem : t ∈ kids := List.mem_of_getElem? ht
        have hva0 := HKS.out q t ht
        have e : kidV (.slice (some ⟨g, 0, none⟩) kids.length c) q = ⟨g, q * 4, none⟩ := by simp [kidV]
        rw [e] at hva0
        have hlk := lenL_take ht
        have hlk2 := lenL_take_le kids (q + 1)
        have hlp := len_pre (kids.take q)
        have hpt := preL_take ht
        have hll := HL1.out
        have hfi := mono_le HF.out (show q + 1 ≤ kids.length by omega)
        have hsl : (sepL q).length ≤ 2 := by unfold sepL; split <;> simp
        have hws := wstr_any b (l ++ T ++ preL (kids.take q)) (ba (sepL q)) wr HBQ.out (by rw [ba_size]; simp only [List.length_append]; omega)
        rw [ba_list] at hws
        have hih : ∀ w5, Used w5 b (l ++ T ++ preL (kids.take q) ++ sepL q) → Below b w w5 → Calls Tryd.prog 28 #[.pointer (some ⟨b, 0, none⟩), .pointer (some ⟨g, q * 4, none⟩)] w5 (WEnd w5 b (l ++ T ++ preL (kids.take q) ++ sepL q ++ txtV t)) := fun w5 hU hB =>
          HIH.out q t ht w5 b (f q) (f (q + 1)) ⟨g, q * 4, none⟩ _ ⟨hU.bld, hva0.ahead hB (by show g < b; omega) (by omega), by show g < b; omega, by omega, HTB.out.below hB hgb, hgb, ok_mem hmem HNK.out, by simp only [List.length_append]; omega⟩
        have hqc : q < c := by omega
        have HPT := Lib.hid hpt
        have HWS2 := Lib.hid hws
        have HI2 := Lib.hid hih
        unfold WEnd at HI2
        clear ht hmem hva0 e hlk hlk2 hlp hpt hll hfi hsl hws hih
        go_wp2_with fail
        refine HWS2.out.mono ?_
        rintro e w5 ⟨rfl, hu5, hb5⟩
        have hB5 := HBT.out.trans hb5
        have x5 : w5.cell? ⟨ab, ao + 3, none⟩ = some (.slice (some ⟨g, 0, none⟩) kids.length c) := (HR0.out.keep (hB5.block ab habb)) 3 _ rfl
        have HI5 := Lib.hid (HI2.out w5 hu5 hB5)
        have HB5 := Lib.hid hB5
        clear hu5 hb5 hB5
        go_wp2_with fail
        refine HI5.out.mono ?_
        rintro e w6 ⟨rfl, hu6, hb6⟩
        have HU6 := Lib.hid hu6
        have HB6 := Lib.hid (HB5.out.trans hb6)
        clear hu6 hb6
        go_wp2
        go_roundw
        case rel =>
          refine ⟨q + 1, by omega, by go_num, rfl, ?_, HB6.out⟩
          rw [HPT.out]
          have := HU6.out.bld
          simpa [List.append_assoc] using this
        case measure => simp [intOf]; omega
      · obtain rfl : q = kids.length := by omega
        have hll := HL1.out
        have hlp := len_pre kids
        rw [List.take_length] at HBQ
        have hws := wstr_any b (l ++ T ++ preL kids) (ba [41]) wr HBQ.out (by rw [ba_size]; simp only [List.length_append, List.length_cons, List.length_nil]; omega)
        rw [ba_list] at hws
        have HWS2 := Lib.hid hws
        clear hll hlp hws
        go_wp2_with fail
        refine HWS2.out.mono ?_
        rintro e w5 ⟨rfl, hu5, hb5⟩
        have HU5 := Lib.hid hu5
        have HB5 := Lib.hid (HBT.out.trans hb5)
        clear hu5 hb5
        go_wp2
        go_end0
        refine ⟨rfl, ?_, HB5.out⟩
        rw [HTX.out]
        have := HU5.out
        simpa [List.append_assoc] using this
theorem write_all : ∀ (m : Nat) (t : Vl), t.size ≤ m → WriteOK t
  | 0, .mk k n nm kids, h => absurd h (by simp [Vl.size])
  | m + 1, .mk k n nm kids, h => write_step k n nm kids fun i t ht => write_all m t (by
      have h1 := Vl.size_mem (List.mem_of_getElem? ht)
      have h2 : 1 + Vl.sizeL kids ≤ m + 1 := by simpa [Vl.size] using h
      omega)
end Go.Proofs.YtkdjmobplknmgaaDoor
