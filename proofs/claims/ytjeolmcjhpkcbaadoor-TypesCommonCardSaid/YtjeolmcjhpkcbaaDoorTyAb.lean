/- The contracts of text and Text. -/
import Derived.Test.YtjeolmcjhpkcbaaDoorTyAa
import Derived.Test.YtjeolmcjhpkcbaaDoorTyP
import Derived.Outline
namespace Go.Proofs.YtjeolmcjhpkcbaaDoor
open Go.RowKit Go.Shelf

set_option maxRecDepth 100000 in
set_option maxHeartbeats 4000000 in
theorem text_leaf (k : Int) (nm : Str) (v : Int) (kids : List Ty) (ls : List Str) (rv : Int) (l : List Value) (w : World) (ht : TV w (.mk k nm v kids ls rv) l) (h6 : k ≠ 6) (h5 : k ≠ 5) (hok : okX (.mk k nm v kids ls rv) = true) :
    Calls Tryd.prog 34 #[.agg l.toArray] w fun e w' => e = .returned (.string (ba (txT (.mk k nm v kids ls rv)))) ∧ Below w.heap.size w w' := by
  obtain ⟨kv, lv, rfl, ⟨A, q, rfl, _⟩, hsl, _⟩ := ht
  obtain ⟨A2, q2, rfl, _⟩ := hsl.slice
  have hb0 := below_new w (.cells (tyC k nm v (.slice A kids.length q) (.slice A2 ls.length q2) rv).toArray 27)
  have hR : txT (.mk k nm v kids ls rv) = txK k nm v ls rv (txL kids) := by rw [txT]
  have h7v : k = 7 → 0 ≤ v ∧ v < 100 := by
    intro h
    simp only [okX, Bool.and_eq_true, Bool.or_eq_true, Bool.not_eq_true', decide_eq_true_eq, decide_eq_false_iff_not] at hok
    exact hok.1.1.1.1.resolve_left (fun hn => hn h)
  rw [hR]
  unfold tyC at *
  clear hR hok hsl
  by_cases h1 : k = 1
  · subst h1
    go_enter Tryd.func34, Tryd.ntmps34
    go_wp2
    go_ret
    exact ⟨rfl, hb0⟩
  by_cases h2 : k = 2
  · subst h2
    go_enter Tryd.func34, Tryd.ntmps34
    go_wp2
    go_ret
    exact ⟨rfl, hb0⟩
  by_cases h3 : k = 3
  · subst h3
    go_enter Tryd.func34, Tryd.ntmps34
    go_wp2
    go_ret
    exact ⟨rfl, hb0⟩
  by_cases h7 : k = 7
  · subst h7
    obtain ⟨hv0, hv1⟩ := h7v rfl
    obtain ⟨n, rfl⟩ : ∃ n : Nat, v = (n : Int) := ⟨v.toNat, by omega⟩
    have hit := fun W => itoa_any n (by omega) W
    have HI := Lib.hid hit
    have hds := ba_size (Lib.decDigits n)
    have hdl := dec_len n (by omega)
    clear hit h7v
    go_enter Tryd.func34, Tryd.ntmps34
    go_wp2_with fail
    refine (HI.out _).mono ?_
    rintro e w2 ⟨rfl, rfl⟩
    go_wp2
    go_ret
    refine ⟨?_, hb0⟩
    have : txK 7 nm (n : Int) ls rv (txL kids) = [39] ++ Lib.decDigits n := by
      unfold txK
      simp
    rw [this, ← ba_app]
    rfl
  · have hR : txK k nm v ls rv (txL kids) = nm := by
      unfold txK
      rw [if_neg h1, if_neg h2, if_neg h3, if_neg h7, if_neg h6, if_neg h5]
    rw [hR]
    clear hR h7v
    go_enter Tryd.func34, Tryd.ntmps34
    go_wp2
    go_ret
    exact ⟨rfl, hb0⟩
theorem text_any : ∀ n, TxC n
  | 0 => fun t l w ht hd hok => by
    have := deep_pos t
    omega
  | n + 1 => fun t l w ht hd hok => by
    obtain ⟨k, nm, v, kids, ls, rv⟩ := t
    by_cases h6 : k = 6
    · subst h6
      exact text_ref n (text_any n) nm v kids ls rv l w ht hd hok
    by_cases h5 : k = 5
    · subst h5
      have hl2 : 2 ≤ kids.length := by
        have hok2 := hok
        simp only [okX, Bool.and_eq_true, Bool.or_eq_true, Bool.not_eq_true', decide_eq_true_eq, decide_eq_false_iff_not] at hok2
        exact (hok2.1.1.2.resolve_left (by simp)).1.1.1.1
      match kids, hl2 with
      | u1 :: u2 :: r, _ => exact text_fun n (text_any n) nm v u1 u2 r ls rv l w ht hd hok
    · exact text_leaf k nm v kids ls rv l w ht h6 h5 hok
set_option maxRecDepth 100000 in
set_option maxHeartbeats 4000000 in
theorem textAll_any (l : List Value) (t : Ty) (w : World) (ht : TV w t l) (hs : t.size ≤ 90000000) (hok : okX t = true) :
    Calls Tryd.prog 14 #[.agg l.toArray] w fun e w' => e = .returned (.string (ba (if rightT t = true then txT t else []))) ∧ Below w.heap.size w w' := by
  have htv := ht
  obtain ⟨k, nm, v, kids, ls, rv⟩ := t
  obtain ⟨kv, lv, rfl, ⟨A, q, rfl, _⟩, hsl, _⟩ := ht
  obtain ⟨A2, q2, rfl, _⟩ := hsl.slice
  generalize hT : Ty.mk k nm v kids ls rv = T at *
  have hb0 := below_new w (.cells (tyC k nm v (.slice A kids.length q) (.slice A2 ls.length q2) rv).toArray 27)
  have hrt := rightAll_any _ T _ (htv.later hb0) hs
  have htx : ∀ W, TV W T (tyC k nm v (.slice A kids.length q) (.slice A2 ls.length q2) rv) → Calls Tryd.prog 34 #[.agg (tyC k nm v (.slice A kids.length q) (.slice A2 ls.length q2) rv).toArray] W fun e w' => e = .returned (.string (ba (txT T))) ∧ Below W.heap.size W w' := fun W hW => text_any T.deep T _ W hW (Nat.le_refl _) hok
  have l0 := Lies.new w 27 (tyC k nm v (.slice A kids.length q) (.slice A2 ls.length q2) rv).toArray
  have hsz := hb0.size
  have HTV := Lib.hid htv
  unfold tyC at *
  have HRT := Lib.hid hrt
  have HTX := Lib.hid htx
  have HL := Lib.hid l0
  obtain ⟨R, hR⟩ : ∃ R, R = rightT T := ⟨_, rfl⟩
  rw [← hR] at HRT ⊢
  clear hrt htx htv hT hsl l0 hR hok
  cases R
  · go_enter Tryd.func14, Tryd.ntmps14
    go_wp2_with fail
    refine HRT.out.mono ?_
    rintro e w1 ⟨rfl, hb1⟩
    go_wp2
    go_ret
    exact ⟨rfl, hb0.trans (hb1.mono hsz)⟩
  · go_enter Tryd.func14, Tryd.ntmps14
    go_wp2_with fail
    refine HRT.out.mono ?_
    rintro e w1 ⟨rfl, hb1⟩
    have hB1 := hb0.trans (hb1.mono hsz)
    have l1 := HL.out.later hb1
    have c0 := l1.cell 0
    have c1 := l1.cell 1
    have c2 := l1.cell 2
    have c3 := l1.cell 3
    have c4 := l1.cell 4
    have c5 := l1.cell 5
    have h2 := HTX.out w1 (HTV.out.later hB1)
    have H2 := Lib.hid h2
    clear h2
    go_wp2_with fail
    refine H2.out.mono ?_
    rintro e w2 ⟨rfl, hb2⟩
    go_wp2
    go_ret
    exact ⟨rfl, hB1.trans (hb2.mono hB1.size)⟩
end Go.Proofs.YtjeolmcjhpkcbaaDoor
