/- The contract of text. -/
import Derived.Test.YtjeolmcjhpkcbaaDoorTyL
import Derived.Outline
namespace Go.Proofs.YtjeolmcjhpkcbaaDoor
open Go.RowKit Go.Shelf

theorem kid_cells {w : World} {a : Addr} {u : Ty} (h : TA w a u) : ∃ k nm v kids ls rv kv lv, u = .mk k nm v kids ls rv ∧ a.spot = none ∧ ReadsAt w a (tyC k nm v kv lv rv) ∧ TV w u (tyC k nm v kv lv rv) := by
  obtain ⟨k, nm, v, kids, ls, rv⟩ := u
  obtain ⟨kv, lv, h0, _, hr, hk, hl, hks⟩ := h.open
  exact ⟨k, nm, v, kids, ls, rv, kv, lv, rfl, h0, hr, kv, lv, rfl, hk, hl, hks⟩
theorem okXL_get : ∀ (l : List Ty) (i : Nat) t, okXL l = true → l[i]? = some t → okX t = true
  | [], i, t, _, h => by simp at h
  | u :: r, 0, t, h, h2 => by
    simp only [okXL, Bool.and_eq_true] at h
    have : u = t := by simpa using h2
    exact this ▸ h.1
  | u :: r, i + 1, t, h, h2 => by
    simp only [okXL, Bool.and_eq_true] at h
    exact okXL_get r i t h.2 (by simpa using h2)
theorem deepL_get : ∀ (l : List Ty) (i : Nat) t, l[i]? = some t → t.deep ≤ Ty.deepL l
  | [], i, t, h => by simp at h
  | u :: r, 0, t, h => by
    have : u = t := by simpa using h
    subst this
    simp only [Ty.deepL]; omega
  | u :: r, i + 1, t, h => by
    have := deepL_get r i t (by simpa using h)
    simp only [Ty.deepL]; omega
def TxC (n : Nat) : Prop := ∀ (t : Ty) (l : List Value) (w : World), TV w t l → t.deep ≤ n → okX t = true → Calls Tryd.prog 34 #[.agg l.toArray] w fun e w' => e = .returned (.string (ba (txT t))) ∧ Below w.heap.size w w'

set_option maxRecDepth 100000 in
set_option maxHeartbeats 4000000 in
/-- A ref of a type. -/
theorem text_ref (n : Nat) (ih : TxC n) (nm : Str) (v : Int) (kids : List Ty) (ls : List Str) (rv : Int) (l : List Value) (w : World) (ht : TV w (.mk 6 nm v kids ls rv) l) (hd : (Ty.mk 6 nm v kids ls rv).deep ≤ n + 1) (hok : okX (.mk 6 nm v kids ls rv) = true) :
    Calls Tryd.prog 34 #[.agg l.toArray] w fun e w' => e = .returned (.string (ba (txT (.mk 6 nm v kids ls rv)))) ∧ Below w.heap.size w w' := by
  have htv := ht
  obtain ⟨kv, lv, rfl, hsk, hsl, hks⟩ := ht
  obtain ⟨A, q, rfl, hq, hqm, hA⟩ := hsk
  obtain ⟨A2, q2, rfl, _⟩ := hsl.slice
  have hl1 : 1 ≤ kids.length := by
    simp only [okX, Bool.and_eq_true, Bool.or_eq_true, decide_eq_true_eq] at hok
    rcases hok.1.1.1.2 with h | h
    · simp at h
    · exact h
  obtain ⟨g, o, rfl, _⟩ := hA (by omega)
  match kids, hl1, hks, hq, htv, hd, hok with
  | u :: r, hl1, hks, hq, htv, hd, hok =>
  have hu : TA w ⟨g, o + 0 * 6, none⟩ u := hks 0 u rfl
  rw [Nat.zero_mul, Nat.add_zero] at hu
  have huok : okX u = true := by
    simp only [okX, okXL, Bool.and_eq_true] at hok
    exact hok.2.1
  have hud : u.deep ≤ n := by
    simp only [Ty.deep, Ty.deepL] at hd
    omega
  obtain ⟨R, hR⟩ : ∃ R, R = txT (.mk 6 nm v (u :: r) ls rv) := ⟨_, rfl⟩
  have hRl : R.length ≤ 100000 := by rw [hR]; exact okX_len _ hok
  have hRe : R = [114, 101, 102, 32] ++ brB [5, 6] (u.kind, txT u) := by rw [hR]; rfl
  have hbl : (brB [5, 6] (u.kind, txT u)).length ≤ 100000 := by
    have := congrArg List.length hRe
    simp only [List.length_append] at this
    omega
  rw [← hR]
  have hbz := ba_sz hbl
  obtain ⟨k', nm', v', kids', ls', rv', kv', lv', hue, _, hru, htu⟩ := kid_cells hu
  have hb1 := below_new w (.cells (tyC 6 nm v (.slice (some ⟨g, o, none⟩) (u :: r).length q) (.slice A2 ls.length q2) rv).toArray 27)
  have hb2 := hb1.trans ((below_new (w.alloc (.cells (tyC 6 nm v (.slice (some ⟨g, o, none⟩) (u :: r).length q) (.slice A2 ls.length q2) rv).toArray 27)) (.cells #[.int .i64 5, .int .i64 6] 3)).mono hb1.size)
  have hN : (w.alloc (.cells (tyC 6 nm v (.slice (some ⟨g, o, none⟩) (u :: r).length q) (.slice A2 ls.length q2) rv).toArray 27)).heap.size = w.heap.size + 1 := by simp
  have lk := Lies.new' (w.alloc (.cells (tyC 6 nm v (.slice (some ⟨g, o, none⟩) (u :: r).length q) (.slice A2 ls.length q2) rv).toArray 27)) 3 #[.int .i64 5, .int .i64 6] hN
  have hbr := bracketed_any u _ _ (htu.later hb2) [5, 6] (w.heap.size + 1) 2 rfl (by omega) (fun j x hj => by rw [lk.cell]; simpa using (by
    match j, hj with
    | 0, hj => simpa using hj
    | 1, hj => simpa using hj : (#[Value.int .i64 5, Value.int .i64 6] : Array Value)[j]? = some (.int .i64 x))) (okX_len u huok) (fun W hW => ih u _ W hW hud huok)
  have hru1 : ReadsAt (w.alloc (.cells (tyC 6 nm v (.slice (some ⟨g, o, none⟩) (u :: r).length q) (.slice A2 ls.length q2) rv).toArray 27)) ⟨g, o, none⟩ (tyC k' nm' v' kv' lv' rv') := hru.keep (hb1.block _ hu.at_.lt)
  obtain ⟨c0, c1, c2, c3, c4, c5⟩ := reads6 hru1
  have hkl : ∃ A3 n3 q3, kv' = .slice A3 n3 q3 := by
    subst hue
    obtain ⟨kv9, lv9, h9, ⟨A3, q3, h8, _⟩, _⟩ := htu
    have := congrArg (fun l => l[3]?) h9
    simp only [tyC] at this
    exact ⟨_, _, _, by injection this with this; rw [this, h8]⟩
  have hll : ∃ A3 n3 q3, lv' = .slice A3 n3 q3 := by
    subst hue
    obtain ⟨kv9, lv9, h9, _, hs9, _⟩ := htu
    obtain ⟨A3, q3, h8, _⟩ := hs9.slice
    have := congrArg (fun l => l[4]?) h9
    simp only [tyC] at this
    exact ⟨_, _, _, by injection this with this; rw [this, h8]⟩
  obtain ⟨A3, n3, q3, rfl⟩ := hkl
  obtain ⟨A4, n4, q4, rfl⟩ := hll
  unfold tyC at *
  have HBR := Lib.hid hbr
  have HRE := Lib.hid hRe
  have hb2s := hb2.size
  have hlen1 : 0 < (u :: r).length := by simp
  generalize (u :: r).length = len at *
  clear hbr hRe hR hru hru1 htu htv hsl hks hu hue lk
  go_enter Tryd.func34, Tryd.ntmps34
  go_wp2_with fail
  refine HBR.out.mono ?_
  rintro e w1 ⟨rfl, hbw⟩
  go_wp2
  go_ret
  refine ⟨?_, hb2.trans (hbw.mono hb2s)⟩
  rw [HRE.out, ← ba_app]
  rfl
end Go.Proofs.YtjeolmcjhpkcbaaDoor
