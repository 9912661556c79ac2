/- whole: what becomes of a type, list by list. -/
import Derived.Test.YtpbhndmfmnfeoaaGreatSbo
import Derived.Outline
import Derived.Deep.LoopGhost
import Derived.StillTailTactics
import Derived.IntWalk
namespace Go.Proofs.YtpbhndmfmnfeoaaGreat
open Go.RowKit

theorem hd_oks {T : Int → Option Ty} {w0 : World} {gt : GMap} (htm : TM w0 T gt) {t : Ty} {l : List Value} (ht : TRV w0 t l) {said : Bool} {k : Int} {nm : Str} {v : Int} {kids : List Ty} {ls : List Str} {rv : Int} {s0 : Bool} (hd : hdT T said t = (.mk k nm v kids ls rv, s0)) : oks k v rv := by
  obtain ⟨k', nm', v', kids', ls', rv'⟩ := t
  obtain ⟨kv, lv, _, _, _, ho, _⟩ := ht
  cases said with
  | true =>
    simp only [hdT, if_true, Prod.mk.injEq, Ty.mk.injEq] at hd
    obtain ⟨⟨rfl, rfl, rfl, rfl, rfl, rfl⟩, rfl⟩ := hd
    exact ho
  | false =>
    simp only [hdT, Bool.false_eq_true, if_false] at hd
    cases hi : insT T k' v' with
    | some u =>
      rw [hi] at hd
      simp only [Prod.mk.injEq] at hd
      obtain ⟨rfl, rfl⟩ := hd
      have hT : T v' = some (.mk k nm v kids ls rv) := by
        unfold insT at hi
        split at hi
        · exact hi
        · cases hi
      have h := htm v' ho.2.1
      rw [hT] at h
      obtain ⟨l2, _, kv2, lv2, _, _, _, ho2, _⟩ := h
      exact ho2
    | none =>
      rw [hi] at hd
      simp only [Prod.mk.injEq, Ty.mk.injEq] at hd
      obtain ⟨⟨rfl, rfl, rfl, rfl, rfl, rfl⟩, rfl⟩ := hd
      exact ho
theorem hd_kids {T : Int → Option Ty} {said : Bool} {t : Ty} {k : Int} {nm : Str} {v : Int} {kids : List Ty} {ls : List Str} {rv : Int} {s0 : Bool} (hd : hdT T said t = (.mk k nm v kids ls rv, s0)) : kids.length + 1 ≤ (fsT T said t).size := by
  rw [fsT_hd T said t hd]
  simp only [Ty.size, sizeL_map]
  have := wkL_len T s0 kids
  omega
theorem hd_ex (T : Int → Option Ty) (said : Bool) (t : Ty) : ∃ k nm v kids ls rv s0, hdT T said t = (.mk k nm v kids ls rv, s0) := by
  obtain ⟨⟨k, nm, v, kids, ls, rv⟩, s0⟩ := hdT T said t
  exact ⟨_, _, _, _, _, _, _, rfl⟩
theorem own_len0 {w : World} {B : Nat} {e : TypeId} {size n : Nat} {v : Value} {xs : List Value} (h : w.ownsRow B e size v n xs) : ∃ A c, v = .slice A n c := by
  rcases h.2 with ⟨rfl, rfl⟩ | ⟨g, cap, cur, rfl, _⟩ <;> exact ⟨_, _, rfl⟩
theorem set6 (cur : Array Value) (b : Nat) (x0 x1 x2 x3 x4 x5 : Value) (h : b + 5 < cur.size) (j : Nat) :
    ((((((cur.setIfInBounds b x0).setIfInBounds (b + 1) x1).setIfInBounds (b + 2) x2).setIfInBounds (b + 3) x3).setIfInBounds (b + 4) x4).setIfInBounds (b + 5) x5)[j]? = if b ≤ j ∧ j < b + 6 then [x0, x1, x2, x3, x4, x5][j - b]? else cur[j]? := by
  by_cases hj : b ≤ j ∧ j < b + 6
  · rw [if_pos hj]
    obtain ⟨i, rfl⟩ : ∃ i, j = b + i := ⟨j - b, by omega⟩
    rw [Nat.add_sub_cancel_left]
    have hi : i < 6 := by omega
    match i, hi with
    | 0, _ => simp [Array.getElem?_setIfInBounds]; omega
    | 1, _ => simp [Array.getElem?_setIfInBounds]; omega
    | 2, _ => simp [Array.getElem?_setIfInBounds]; omega
    | 3, _ => simp [Array.getElem?_setIfInBounds]; omega
    | 4, _ => simp [Array.getElem?_setIfInBounds]; omega
    | 5, _ => simp [Array.getElem?_setIfInBounds]; omega
  · rw [if_neg hj, Array.getElem?_setIfInBounds_ne (by omega), Array.getElem?_setIfInBounds_ne (by omega), Array.getElem?_setIfInBounds_ne (by omega), Array.getElem?_setIfInBounds_ne (by omega), Array.getElem?_setIfInBounds_ne (by omega), Array.getElem?_setIfInBounds_ne (by omega)]
theorem wkL_mem (T : Int → Option Ty) (said : Bool) {t : Ty} : ∀ {ts : List Ty}, t ∈ ts → (fsT T said t).size ≤ wkL T said ts
  | _ :: _, .head _ => by simp only [wkL, List.map_cons, List.sum_cons]; omega
  | _ :: r, .tail _ h => by have := wkL_mem T said h; simp only [wkL, List.map_cons, List.sum_cons] at *; omega
theorem wkL_take (T : Int → Option Ty) (said : Bool) (ts : List Ty) (k : Nat) : wkL T said (ts.take k) ≤ wkL T said ts := by
  have h := wkL_app T said (ts.take k) (ts.drop k)
  rw [List.take_append_drop] at h
  omega
theorem list6 {α : Type} {l : List α} (h : l.length = 6) : ∃ a b c d e f, l = [a, b, c, d, e, f] := by
  match l, h with
  | [a, b, c, d, e, f], _ => exact ⟨a, b, c, d, e, f, rfl⟩
theorem Lies.at_i {w : World} {g : Nat} {t : TypeId} {cs : Array Value} (h : Lies w g t cs) {i : Nat} (hi : i < cs.size) : w.cell? ⟨g, i, none⟩ = some cs[i] := by
  rw [h.cell, Array.getElem?_eq_getElem hi]
set_option maxRecDepth 100000 in
set_option maxHeartbeats 16000000 in
theorem whole_any (w0 w : World) (p : Nat) (vt vr : Value) (m : Nat) (T : Int → Option Ty) (R : Int → Option (List Str × Int)) (hs : SubV w0 (.agg #[vt, vr]) m T R) (hm : m ≤ 1000000) (hB0 : Below w0.heap.size w0 w) (hp0 : w0.heap.size ≤ p) (hap : Lies w p 63 #[vt, vr, .map none, .slice none 0 0])
    (t : Ty) (l : List Value) (ht : TRV w0 t l) (hrf : rowsFree R T t) (hN : (apT T t).size ≤ 1000000) :
    Calls Tryz.prog 25 #[.pointer (some ⟨p, 0, none⟩), .agg l.toArray] w fun e w' => ∃ l', e = .returned (.agg l'.toArray) ∧ TFV w' (apT T t) l' ∧ (∀ w'', Kept (fun b => b < w.heap.size + 2) w' w'' → TFV w'' (apT T t) l') ∧ Tree1 (w.heap.size + 2) l' w' ∧ Chg p (.slice none 0 0) w w' := by
  have hpw := hap.lt
  obtain ⟨W1, hW1⟩ : ∃ W1, W1 = (w.alloc (.cells l.toArray 44)).alloc (.cells zeroT 44) := ⟨_, rfl⟩
  have hb1 : Below w.heap.size w W1 := by rw [hW1]; exact ((Below.refl _ w).alloc (Nat.le_refl _) _).alloc (by simp) _
  have hs1 : W1.heap.size = w.heap.size + 2 := by rw [hW1]; simp
  have hq1 : Lies W1 (w.heap.size + 1) 44 zeroT := by rw [hW1]; exact Lies.new' _ _ _ (by simp)
  obtain ⟨k, nm, v, kids, ls, rv, s0, hd⟩ := hd_ex T false t
  have hkids := hd_kids hd
  have hfs : fsT T false t = apT T t := rfl
  rw [hfs] at hkids
  have haps1 : ApS W1 p (w.heap.size + 2) vt vr (.slice none 0 0) 0 [] := ⟨hap.later hb1, World.ownsRow_nil _ _ _ _⟩
  have hbec := become_any w0 W1 p (w.heap.size + 2) vt vr (.slice none 0 0) 0 [] m T R hs hm (hB0.trans (hb1.mono hB0.size)) (by omega) (by omega) haps1 (by omega) t l ht false (.inr hrf) k nm v kids ls rv s0 hd (by omega)
  have hok : oks k v rv := by obtain ⟨vt', vr', gt, gr, _, _, _, htm, _⟩ := hs; exact hd_oks htm ht hd
  have hfit := ht.fit
  have hsc := hfit.1
  have hoc := hfit.2
  have HBEC := Lib.hid hbec
  have HW1 := Lib.hid hW1
  have HB1 := Lib.hid hb1
  have HS1 := Lib.hid hs1
  have HQ1 := Lib.hid hq1
  have HD := Lib.hid hd
  have HKI := Lib.hid hkids
  have HSUB := Lib.hid hs
  have HB0 := Lib.hid hB0
  have HN := Lib.hid hN
  have HRF := Lib.hid hrf
  have HAP := Lib.hid hap
  clear hbec hW1 hb1 hs1 hq1 hd hkids hs hB0 hN hfit haps1 hrf hap
  unfold zeroT at HW1
  obtain ⟨AX, hAX⟩ : ∃ AX, AX = l.toArray := ⟨_, rfl⟩
  have HAX := Lib.hid hAX
  rw [← hAX] at hsc hoc HBEC HW1 ⊢
  clear hAX
  go_enter Tryz.func25, Tryz.ntmps25
  go_wp2_with (first | (refine wpList_load_row rfl 44 (.tmp 3) rfl _ rfl 44 AX (0, 0) _ ((Lies.new w 44 AX).alloc _) Tryz.underlying44 rfl (by rw [size_T, hsc]) ?_))
  rw [← HW1.out]
  refine HBEC.out.mono ?_
  intro e w2 hbe
  obtain ⟨lc, rfl, hlen, hone, hs12, hkeep12, hstart⟩ := WI.start (B := w.heap.size + 2) (R := R) (by omega) (by omega) (by have := HS1.out; omega) hpw HB1.out (.inr HRF.out) HD.out (by have := HKI.out; have := HN.out; omega) hok hbe
  clear hbe
  have hsl : lc.toArray.size = 6 := by simpa using hlen
  have hol : lc.toArray.all (·.oneCell') = true := by simpa using hone
  obtain ⟨AL, hAL⟩ : ∃ AL, AL = lc.toArray := ⟨_, rfl⟩
  have HAL := Lib.hid hAL
  rw [← hAL] at hsl hol ⊢
  have lz2 := Lies.new w2 44 #[.int .i64 0, .string ⟨#[]⟩, .int .i64 0, .slice none 0 0, .slice none 0 0, .int .i64 0]
  have hs1 := HS1.out
  obtain ⟨w3, hw3⟩ : ∃ w3, w3 = w2.alloc (.cells AL 44) := ⟨_, rfl⟩
  have hb23 : Below w2.heap.size w2 w3 := by rw [hw3]; exact below_new _ _
  have hr3 : Lies w3 w2.heap.size 44 AL := by rw [hw3]; exact Lies.new _ _ _
  have hq3 : Lies w3 (w.heap.size + 1) 44 zeroT := (hb23.block _ (by omega)).trans ((hkeep12 _ (by omega) (by omega)).trans HQ1.out)
  have hs3 : w3.heap.size = w2.heap.size + 1 := by rw [hw3]; simp
  obtain ⟨td0, ks0, hWI⟩ := hstart w3 (fun b => b = w2.heap.size) hb23 (fun b hb => by omega)
  have HWI := Lib.hid hWI
  have HW3 := Lib.hid hw3
  have HR3 := Lib.hid hr3
  have HQ3 := Lib.hid hq3
  have HS3 := Lib.hid hs3
  have HLEN := Lib.hid hlen
  have HONE := Lib.hid hone
  clear hstart hWI hw3 hr3 hq3 hs3 hb23 hkeep12 hAL hlen hone
  go_wp2_with (first | (refine wpList_store_rowTo rfl 44 (.tmp 5) (.tmp 11) rfl rfl w2.heap.size AL rfl rfl 44 _ lz2 (by rw [size_T, hsl]) (by rw [hsl]; rfl) hol ?_; rw [World.setRow_alloc_new, ← HW3.out]))
  clear lz2
  go_loopg [17] (fsT T false t).size (fun g _ wr => ∃ td ks, WI T R w0 w p (w.heap.size + 2) vt vr (fsT T false t) lc (fun b => b = w2.heap.size) g wr td ks ∧ wr.heap[w2.heap.size]? = w3.heap[w2.heap.size]? ∧ wr.heap[w.heap.size + 1]? = w3.heap[w.heap.size + 1]? ∧ w3.heap.size ≤ wr.heap.size ∧ g ≤ 1000000)
  case atStart => exact ⟨td0, ks0, HWI.out, rfl, rfl, Nat.le_refl _, HN.out⟩
  case round =>
    obtain ⟨td, ks, hW, hr2, hr1, hsz, hgk⟩ := hrel
    have hp3 := hW.aps.at_.cell 3
    have hpl := hW.aps.at_.lt
    rcases List.eq_nil_or_concat ks with rfl | ⟨ks', k0, rfl⟩
    · obtain ⟨At, ct, rfl⟩ := own_len0 hW.aps.row
      simp only [List.length_nil] at hp3
      have hWX := Lib.hid hW
      have lt5 : Lies wr w2.heap.size 44 AL := hr2.trans HR3.out
      have lt4 : Lies wr (w.heap.size + 1) 44 zeroT := hr1.trans HQ3.out
      unfold zeroT at lt4
      clear hW
      go_wp2_with (first | (refine wpList_load_row rfl 44 (.tmp 5) rfl _ rfl 44 AL (0, 0) _ lt5 Tryz.underlying44 rfl (by rw [size_T, hsl]) ?_) | (refine wpList_store_rowTo rfl 44 (.tmp 4) (.tmp 62) rfl rfl (w.heap.size + 1) AL rfl rfl 44 _ lt4 (by rw [size_T, hsl]) (by rw [hsl]; rfl) hol ?_))
      refine bodyPost_ret (results_cell_row rfl _ _ (w.heap.size + 1) 44 _ (0, 0) _ rfl (Sb.setRow_at lt4 AL) Tryz.underlying44 rfl (by rw [size_T, hsl])) rfl ?_
      have hwi := hWX.out
      have hk1 : Kept (fun b => b < w.heap.size + 2) wr (wr.setRow (w.heap.size + 1) AL) := ⟨by rw [size_setRow]; exact Nat.le_refl _, fun b _ hn => Sb.setRow_other _ _ _ b (by omega)⟩
      have hfr : ∀ w'', Kept (fun b => b < w.heap.size + 2) (wr.setRow (w.heap.size + 1) AL) w'' → TFV w'' (apT T t) lc := fun w'' hk2 => hwi.prom _ ⟨Nat.le_trans hk1.1 hk2.1, fun b hb hn => (hk2.2 b (Nat.lt_of_lt_of_le hb hk1.1) (fun e => hn (.inl e))).trans (hk1.2 b hb (fun e => hn (.inl e)))⟩ (fun k hk => by cases hk)
      refine ⟨lc, by rw [HAL.out], hfr _ ⟨Nat.le_refl _, fun _ _ _ => rfl⟩, hfr, hwi.tree.tree.kept hk1, ?_⟩
      · have hc := hwi.chg
        exact ⟨hc.os, hc.tape, hc.output, by rw [size_setRow]; exact hc.size, fun b h1 h2 h3 => (Sb.setRow_other _ _ _ b (by omega)).trans (hc.block b h1 h2 h3)⟩
    · rw [List.concat_eq_append] at hW
      obtain ⟨b, cap, rfl, hcap, hBb, hblt, c0, c1, c2, hrow⟩ := hW.form
      have hk0 := hW.ok k0 (List.mem_append_right _ (List.mem_singleton.2 rfl))
      obtain ⟨A, c, hsrc, hnc, hA⟩ := hk0.src.form
      have hwk := wks_len T (ks' ++ [k0]) fun k hk => (hW.ok k hk).pos
      have hgN : ks'.length + 1 ≤ 1000000 := by have h1 := hW.work; have h2 : (ks' ++ [k0]).length = ks'.length + 1 := by simp
                                                omega
      obtain ⟨K, hK⟩ : ∃ K, K = ks'.length := ⟨_, rfl⟩
      have HK := Lib.hid hK
      obtain ⟨n, hn⟩ : ∃ n, n = k0.ts.length := ⟨_, rfl⟩
      have HNN := Lib.hid hn
      rw [hsrc] at c0
      rw [← hn] at c0 c1 hnc hA
      rw [← hK] at hp3 c0 c1 c2 hrow hcap hgN
      have HW := Lib.hid hW
      have HSRC := Lib.hid hsrc
      have HROW := Lib.hid hrow
      have HK0 := Lib.hid hk0
      clear hK hn hW hsrc hrow hk0 hwk
      have hK1 : ((K : Int) + 1) - 1 = (K : Int) := by omega
      have hK2 : (0 : Int) ≤ (K : Int) := by omega
      have hK3 : (K : Int) < (K : Int) + 1 := by omega
      have hK6 : IntKind.i64.wrap (K : Int) = (K : Int) := IntWalk.i64_in _ (by omega)
      have hS : (wr.cell? ⟨p, 3, none⟩ = some (.slice (some ⟨b, 0, none⟩) (K + 1) cap) ∧ wr.cell? ⟨b, K * 3, none⟩ = some (.slice A n c) ∧ wr.cell? ⟨b, K * 3 + 1, none⟩ = some (.slice (some ⟨k0.G, 0, none⟩) n n) ∧ wr.cell? ⟨b, K * 3 + 2, none⟩ = some (.bool k0.said)) ∧ Below wr.heap.size wr wr := ⟨⟨hp3, c0, c1, c2⟩, Below.refl _ _⟩
      have hk : ∀ V V' : World, ((V.cell? ⟨p, 3, none⟩ = some (.slice (some ⟨b, 0, none⟩) (K + 1) cap) ∧ V.cell? ⟨b, K * 3, none⟩ = some (.slice A n c) ∧ V.cell? ⟨b, K * 3 + 1, none⟩ = some (.slice (some ⟨k0.G, 0, none⟩) n n) ∧ V.cell? ⟨b, K * 3 + 2, none⟩ = some (.bool k0.said)) ∧ Below wr.heap.size wr V) → Below wr.heap.size V V' →
          (V'.cell? ⟨p, 3, none⟩ = some (.slice (some ⟨b, 0, none⟩) (K + 1) cap) ∧ V'.cell? ⟨b, K * 3, none⟩ = some (.slice A n c) ∧ V'.cell? ⟨b, K * 3 + 1, none⟩ = some (.slice (some ⟨k0.G, 0, none⟩) n n) ∧ V'.cell? ⟨b, K * 3 + 2, none⟩ = some (.bool k0.said)) ∧ Below wr.heap.size wr V' := fun V V' h hb => by
        obtain ⟨⟨h0, h1, h2, h3⟩, h4⟩ := h
        have e : ∀ j, V'.cell? ⟨b, j, none⟩ = V.cell? ⟨b, j, none⟩ := fun j => hb.cell (p := ⟨b, j, none⟩) hblt
        exact ⟨⟨(hb.cell (p := ⟨p, 3, none⟩) hpl).trans h0, (e _).trans h1, (e _).trans h2, (e _).trans h3⟩, h4.trans hb⟩
      have HKK := Lib.hid hk
      clear hk
      go_wp2_with fail
      go_region_held3 (fun V => (V.cell? ⟨p, 3, none⟩ = some (.slice (some ⟨b, 0, none⟩) (K + 1) cap) ∧ V.cell? ⟨b, K * 3, none⟩ = some (.slice A n c) ∧ V.cell? ⟨b, K * 3 + 1, none⟩ = some (.slice (some ⟨k0.G, 0, none⟩) n n) ∧ V.cell? ⟨b, K * 3 + 2, none⟩ = some (.bool k0.said)) ∧ Below wr.heap.size wr V)
        (first | with_reducible exact HKK.out _ _ hS (Below.refl _ _).drew | exact HKK.out _ _ hS (((Below.refl _ _).alloc (Nat.le_refl _) _).drew)) (fail)
      obtain ⟨V6, hV6⟩ : ∃ V6, V6 = (wr.alloc (.cells #[.slice A n c, .slice (some ⟨k0.G, 0, none⟩) n n, .bool k0.said] 80)).drew := ⟨_, rfl⟩
      have hb6 : Below wr.heap.size wr V6 := by rw [hV6]; exact (below_new _ _).drew
      have l6 : Lies V6 wr.heap.size 80 #[.slice A n c, .slice (some ⟨k0.G, 0, none⟩) n n, .bool k0.said] := by rw [hV6]; exact Lies.new wr _ _
      have hs6 : V6.heap.size = wr.heap.size + 1 := by rw [hV6]; simp
      rw [← hV6]
      have p6 := (hb6.cell (p := ⟨p, 3, none⟩) hpl).trans hp3
      have hc1 : (K : Int) ≤ (cap : Int) := by omega
      have hc2 : K ≤ cap := by omega
      have HS6 := Lib.hid hs6
      have HB6 := Lib.hid hb6
      have HL6 := Lib.hid l6
      clear hV6 hS hb6 hs6 l6
      go_wp2_with fail
      go_still_tail 14, (by kernel_rfl)
      change wpList _ _ _ _ _ V6.drew
      have hb7 : Below wr.heap.size wr V6.drew := HB6.out.drew
      have l7 : Lies V6.drew wr.heap.size 80 #[.slice A n c, .slice (some ⟨k0.G, 0, none⟩) n n, .bool k0.said] := HL6.out
      have hs7 : V6.drew.heap.size = wr.heap.size + 1 := HS6.out
      have q7 : Lies V6.drew p 63 #[vt, vr, .map none, .slice (some ⟨b, 0, none⟩) (K + 1) cap] := by rw [HK.out]; exact HW.out.aps.at_.later hb7
      generalize V6.drew = V7 at *
      have q7c := q7.cell 3
      have q7f := q7.free 3
      have q7l := q7.lt
      obtain ⟨V8, hV8⟩ : ∃ V8, V8 = V7.setCell ⟨p, 3, none⟩ (.slice (some ⟨b, 0, none⟩) K cap) := ⟨_, rfl⟩
      have hs8 : V8.heap.size = wr.heap.size + 1 := by rw [hV8, World.size_setCell]; exact hs7
      have hbl8 : ∀ i, i < wr.heap.size → i ≠ p → V8.heap[i]? = wr.heap[i]? := fun i h1 h2 => by rw [hV8]; exact (Below.heap_setCell _ ⟨p, 3, none⟩ _ i h2).trans (hb7.block i h1)
      have l8 : Lies V8 wr.heap.size 80 #[.slice A n c, .slice (some ⟨k0.G, 0, none⟩) n n, .bool k0.said] := by rw [hV8]; exact l7.far (p := ⟨p, 3, none⟩) (by show wr.heap.size ≠ p; omega) _
      have q8 : Lies V8 p 63 #[vt, vr, .map none, .slice (some ⟨b, 0, none⟩) K cap] := by rw [hV8]; exact q7.set 3 _
      have hWI' := HW.out
      have hrow' := HROW.out
      rw [HK.out] at hrow' q8
      have hIS := WI.pop hWI' (by omega) (by omega) hrow' q8 (by rw [hV8]; exact hb7.os) (by rw [hV8]; exact hb7.tape) (by rw [hV8]; exact hb7.output) (by omega) hbl8 (fun i => i = w2.heap.size ∨ i = wr.heap.size) (fun i hi => by
        rcases hi with rfl | rfl
        · exact .inl rfl
        · exact .inr ⟨Nat.le_refl _, by omega⟩)
      have e0 := l8.cell 0
      have e1 := l8.cell 1
      have e2 := l8.cell 2
      rw [hV8] at e0 e1 e2
      have HIS := Lib.hid hIS
      have HL8 := Lib.hid l8
      have HV8 := Lib.hid hV8
      have HBL8 := Lib.hid hbl8
      have HS8 := Lib.hid hs8
      have hn1 : n ≤ 1000000 := by have := HK0.out.few; rw [← HNN.out] at this; exact this
      clear hIS l8 hV8 hbl8 hs8 hWI' hrow' q8 hb7 l7 q7 hs7
      go_wp2_with fail
      rw [← HV8.out]
      have hw23 := HS3.out
      have hws2 : w.heap.size + 2 ≤ w2.heap.size := by have := HS1.out; omega
      obtain ⟨wo, rfl⟩ : ∃ wo, wo = wr := ⟨_, rfl⟩
      go_loopw [47] (fun i W => ∃ (q : Nat) (td' : Value) (ks2 : List Tk), q ≤ n ∧ i = .int .i64 q ∧ IS T R w0 w p (w.heap.size + 2) vt vr (fsT T false t) lc (fun i => i = w2.heap.size ∨ i = wo.heap.size) k0 (wks T ks') W td' ks2 q ∧
        W.heap[w2.heap.size]? = w3.heap[w2.heap.size]? ∧ W.heap[w.heap.size + 1]? = w3.heap[w.heap.size + 1]? ∧ W.heap[wo.heap.size]? = V8.heap[wo.heap.size]? ∧ V8.heap.size ≤ W.heap.size) (fun i _ => n - (intOf i).toNat)
      case atStart => exact ⟨0, _, ks', Nat.zero_le _, rfl, HIS.out, (HBL8.out _ (by omega) (by omega)).trans hr2, (HBL8.out _ (by omega) (by omega)).trans hr1, rfl, Nat.le_refl _⟩
      case round =>
        obtain ⟨W, rfl⟩ : ∃ W, W = wr := ⟨_, rfl⟩
        obtain ⟨q, td', ks2, hq, rfl, hI, hx2, hx1, hx6, hsW⟩ := hrel
        by_cases hlt : q < n
        · have hql : q < k0.ts.length := by rw [← HNN.out]; exact hlt
          obtain ⟨u, hu⟩ : ∃ u, k0.ts[q]? = some u := ⟨_, List.getElem?_eq_getElem hql⟩
          obtain ⟨g, o, rfl⟩ := hA (by omega)
          have hchg := hI.chg
          have hBw0 : Below w0.heap.size w0 W := ⟨hchg.os.trans HB0.out.os, hchg.tape.trans HB0.out.tape, hchg.output.trans HB0.out.output, Nat.le_trans HB0.out.size hchg.size, fun i hi => (hchg.block i (by have := HB0.out.size; omega) (by omega) (fun e => by cases e)).trans (HB0.out.block i hi)⟩
          have htr := HK0.out.kids q u hu
          rw [HSRC.out] at htr
          obtain ⟨lu, _, hru, htv⟩ := htr.open
          obtain ⟨k', nm', v', kids', ls', rv', s0', hd2⟩ := hd_ex T k0.said u
          have hkd := hd_kids hd2
          have hsu : (fsT T k0.said u).size ≤ wk T k0 := wkL_mem T k0.said (List.mem_of_getElem? hu)
          have hwkg := HW.out.work
          have e4 : wks T (ks' ++ [k0]) = wks T ks' + wk T k0 := by rw [wks_app]; simp [wks]
          rw [e4] at hwkg
          have htk : wkL T k0.said (k0.ts.take q) ≤ wk T k0 := wkL_take T k0.said k0.ts q
          have hlk := wks_len T ks2 fun k hk => (hI.ok k (List.mem_cons_of_mem _ hk)).pos
          have hIw := hI.work
          have hok2 : oks k' v' rv' := by obtain ⟨vt', vr', gt, gr, _, _, _, htm, _⟩ := HSUB.out; exact hd_oks htm htv hd2
          have hGl : ∃ cur, Lies W k0.G 44 cur ∧ cur.size = k0.ts.length * 6 := (hI.ok k0 (List.mem_cons_self ..)).lies
          have hGB : w.heap.size + 2 ≤ k0.G := (hI.ok k0 (List.mem_cons_self ..)).old
          have hfx1 := hI.fx wo.heap.size (.inr rfl)
          have hwoW : wo.heap.size < W.heap.size := hfx1.1
          have hfx2 := hI.fx w2.heap.size (.inl rfl)
          have hGne : k0.G ≠ wo.heap.size := fun e => hfx1.2 (.inr (.inr ⟨k0, List.mem_cons_self .., e⟩))
          have hGne2 : k0.G ≠ w2.heap.size := fun e => hfx2.2 (.inr (.inr ⟨k0, List.mem_cons_self .., e⟩))
          have hGlt : k0.G < W.heap.size := by obtain ⟨cur, h1, _⟩ := hGl; exact h1.lt
          have htd1 : td'.ownBlock ≠ some wo.heap.size := fun e => hfx1.2 (.inr (.inl e))
          have htd2 : td'.ownBlock ≠ some w2.heap.size := fun e => hfx2.2 (.inr (.inl e))
          have htdq : ∀ b, td'.ownBlock = some b → w.heap.size + 2 ≤ b ∧ b < W.heap.size := own_block hI.aps.row
          have htv0 := htv
          obtain ⟨ku, nmu, vu, kidsu, lsu, rvu⟩ := u
          obtain ⟨kvu, lvu, rfl, hkvu, hlvu, _, _⟩ := htv
          obtain ⟨Au, cu, rfl, _, _⟩ := hkvu.form
          obtain ⟨Av, nv, cv, rfl⟩ : ∃ A n c, lvu = .slice A n c := by rcases hlvu.1 with ⟨rfl, _⟩ | ⟨_, _, rfl, _⟩ <;> exact ⟨_, _, _, rfl⟩
          have hgl := reads_block hru (by simp [tyC])
          have hru' : ReadsAt W (kidAt (.slice (some ⟨g, o, none⟩) k0.ts.length c) q) (tyC ku nmu vu (.slice Au kidsu.length cu) (.slice Av nv cv) rvu) := hru.keep (hBw0.block _ hgl)
          obtain ⟨y0, y1, y2, y3, y4, y5⟩ := reads6 (b := g) (o := o + q * 6) hru'
          have l6W : Lies W wo.heap.size 80 #[.slice (some ⟨g, o, none⟩) n c, .slice (some ⟨k0.G, 0, none⟩) n n, .bool k0.said] := hx6.trans HL8.out
          unfold tyC at htv0
          obtain ⟨W9, hW9⟩ : ∃ W9, W9 = W.alloc (.cells #[.int .i64 ku, .string (ba nmu), .int .i64 vu, .slice Au kidsu.length cu, .slice Av nv cv, .int .i64 rvu] 44) := ⟨_, rfl⟩
          have hb9 : Below W.heap.size W W9.drew := by rw [hW9]; exact (below_new _ _).drew
          have hs9 : W9.drew.heap.size = W.heap.size + 1 := by rw [hW9]; simp
          have l69 : Lies W9.drew wo.heap.size 80 #[.slice (some ⟨g, o, none⟩) n c, .slice (some ⟨k0.G, 0, none⟩) n n, .bool k0.said] := l6W.later hb9
          have lt9 : Lies W9.drew W.heap.size 44 #[.int .i64 ku, .string (ba nmu), .int .i64 vu, .slice Au kidsu.length cu, .slice Av nv cv, .int .i64 rvu] := by rw [hW9]; exact Lies.new W _ _
          have hbec := become_any w0 W9.drew p (w.heap.size + 2) vt vr td' ks2.length (ks2.flatMap tkC) m T R HSUB.out hm (hBw0.trans (hb9.mono hBw0.size)) (by omega) (by omega) (hI.aps.below hb9) (by omega) _ _ htv0 k0.said ((hI.ok k0 (List.mem_cons_self ..)).rows.imp id fun h => h _ (List.mem_of_getElem? hu)) k' nm' v' kids' ls' rv' s0' hd2 (by omega)
          have hstep := fun e W2 hbe => hI.step (by omega) (by omega) (by omega) (W1 := W9.drew) hb9 hu hd2 (by omega) hok2 (e := e) (W2 := W2) hbe
          have HBE := Lib.hid hbec
          have HST := Lib.hid hstep
          have HW9 := Lib.hid hW9
          have HB9 := Lib.hid hb9
          have HS9 := Lib.hid hs9
          have HGL := Lib.hid hGl
          have HTQ := Lib.hid htdq
          have HX := Lib.hid (And.intro hx2 (And.intro hx1 hx6))
          have HL69 := Lib.hid l69
          have HLT9 := Lib.hid lt9
          have hS : W9.drew.cell? ⟨wo.heap.size, 0, none⟩ = some (.slice (some ⟨g, o, none⟩) n c) ∧ W9.drew.cell? ⟨wo.heap.size, 1, none⟩ = some (.slice (some ⟨k0.G, 0, none⟩) n n) ∧ W9.drew.cell? ⟨wo.heap.size, 2, none⟩ = some (.bool k0.said) ∧ W9.drew.cell? ⟨W.heap.size, 0, none⟩ = some (.int .i64 ku) ∧ W9.drew.cell? ⟨W.heap.size, 1, none⟩ = some (.string (ba nmu)) ∧ W9.drew.cell? ⟨W.heap.size, 2, none⟩ = some (.int .i64 vu) ∧ W9.drew.cell? ⟨W.heap.size, 3, none⟩ = some (.slice Au kidsu.length cu) ∧ W9.drew.cell? ⟨W.heap.size, 4, none⟩ = some (.slice Av nv cv) ∧ W9.drew.cell? ⟨W.heap.size, 5, none⟩ = some (.int .i64 rvu) := ⟨l69.cell 0, l69.cell 1, l69.cell 2, lt9.cell 0, lt9.cell 1, lt9.cell 2, lt9.cell 3, lt9.cell 4, lt9.cell 5⟩
          have hk : ∀ V V' : World, (V.cell? ⟨wo.heap.size, 0, none⟩ = some (.slice (some ⟨g, o, none⟩) n c) ∧ V.cell? ⟨wo.heap.size, 1, none⟩ = some (.slice (some ⟨k0.G, 0, none⟩) n n) ∧ V.cell? ⟨wo.heap.size, 2, none⟩ = some (.bool k0.said) ∧ V.cell? ⟨W.heap.size, 0, none⟩ = some (.int .i64 ku) ∧ V.cell? ⟨W.heap.size, 1, none⟩ = some (.string (ba nmu)) ∧ V.cell? ⟨W.heap.size, 2, none⟩ = some (.int .i64 vu) ∧ V.cell? ⟨W.heap.size, 3, none⟩ = some (.slice Au kidsu.length cu) ∧ V.cell? ⟨W.heap.size, 4, none⟩ = some (.slice Av nv cv) ∧ V.cell? ⟨W.heap.size, 5, none⟩ = some (.int .i64 rvu)) → V'.heap[wo.heap.size]? = V.heap[wo.heap.size]? → V'.heap[W.heap.size]? = V.heap[W.heap.size]? → (V'.cell? ⟨wo.heap.size, 0, none⟩ = some (.slice (some ⟨g, o, none⟩) n c) ∧ V'.cell? ⟨wo.heap.size, 1, none⟩ = some (.slice (some ⟨k0.G, 0, none⟩) n n) ∧ V'.cell? ⟨wo.heap.size, 2, none⟩ = some (.bool k0.said) ∧ V'.cell? ⟨W.heap.size, 0, none⟩ = some (.int .i64 ku) ∧ V'.cell? ⟨W.heap.size, 1, none⟩ = some (.string (ba nmu)) ∧ V'.cell? ⟨W.heap.size, 2, none⟩ = some (.int .i64 vu) ∧ V'.cell? ⟨W.heap.size, 3, none⟩ = some (.slice Au kidsu.length cu) ∧ V'.cell? ⟨W.heap.size, 4, none⟩ = some (.slice Av nv cv) ∧ V'.cell? ⟨W.heap.size, 5, none⟩ = some (.int .i64 rvu)) := fun V V' h hb1 hb2 => by
            obtain ⟨h0, h1, h2, h3, h4, h5, h6, h7, h8⟩ := h
            have e1 : ∀ j, V'.cell? ⟨wo.heap.size, j, none⟩ = V.cell? ⟨wo.heap.size, j, none⟩ := fun j => World.cell?_of_block (w := V) (a := ⟨wo.heap.size, j, none⟩) hb1
            have e2 : ∀ j, V'.cell? ⟨W.heap.size, j, none⟩ = V.cell? ⟨W.heap.size, j, none⟩ := fun j => World.cell?_of_block (w := V) (a := ⟨W.heap.size, j, none⟩) hb2
            exact ⟨(e1 0).trans h0, (e1 1).trans h1, (e1 2).trans h2, (e2 0).trans h3, (e2 1).trans h4, (e2 2).trans h5, (e2 3).trans h6, (e2 4).trans h7, (e2 5).trans h8⟩
          have HKK2 := Lib.hid hk
          have hqc : q < c := by omega
          have hqn : (q : Int) < (n : Int) := by omega
          have hq0 : (0 : Int) ≤ (q : Int) := by omega
          have hq9 : IntKind.i64.wrap (q : Int) = (q : Int) := IntWalk.i64_in _ (by omega)
          have HI := Lib.hid hI
          clear hk hbec hstep hW9 hb9 hs9 hGl htdq hx2 hx1 hx6 l69 lt9 l6W hru hru' htr htv0 hlvu hkvu hd2 hkd hsu hwkg e4 htk hlk hIw hok2 hfx1 hfx2 hchg hI hgl
          go_wp2_with fail
          rw [← HW9.out]
          go_region_held3 (fun VV => VV.cell? ⟨wo.heap.size, 0, none⟩ = some (.slice (some ⟨g, o, none⟩) n c) ∧ VV.cell? ⟨wo.heap.size, 1, none⟩ = some (.slice (some ⟨k0.G, 0, none⟩) n n) ∧ VV.cell? ⟨wo.heap.size, 2, none⟩ = some (.bool k0.said) ∧ VV.cell? ⟨W.heap.size, 0, none⟩ = some (.int .i64 ku) ∧ VV.cell? ⟨W.heap.size, 1, none⟩ = some (.string (ba nmu)) ∧ VV.cell? ⟨W.heap.size, 2, none⟩ = some (.int .i64 vu) ∧ VV.cell? ⟨W.heap.size, 3, none⟩ = some (.slice Au kidsu.length cu) ∧ VV.cell? ⟨W.heap.size, 4, none⟩ = some (.slice Av nv cv) ∧ VV.cell? ⟨W.heap.size, 5, none⟩ = some (.int .i64 rvu))
            (first | with_reducible exact hS | with_reducible exact HKK2.out _ _ hS h9a h9b | with_reducible exact HKK2.out _ _ hS h9c h9d)
            (first | (go_at_call 44; refine HBE.out.mono ?_; intro e w9 hbe; obtain ⟨lcu, rfl, hlu, hkp, hcu, hsz9, hos9, hbl9, hfin⟩ := HST.out e w9 hbe; clear hbe; obtain ⟨B1, m1, d1, B2, m2, d2, rfl⟩ := hlu; unfold tyC at hfin ⊢; obtain ⟨cur9, hl9, hsc9⟩ := hcu; have g0 := Lies.at_i hl9 (i := q * 6) (by omega); have z0 := hl9.free (q * 6); have g1 := Lies.at_i hl9 (i := q * 6 + 1) (by omega); have z1 := hl9.free (q * 6 + 1); have g2 := Lies.at_i hl9 (i := q * 6 + 2) (by omega); have z2 := hl9.free (q * 6 + 2); have g3 := Lies.at_i hl9 (i := q * 6 + 3) (by omega); have z3 := hl9.free (q * 6 + 3); have g4 := Lies.at_i hl9 (i := q * 6 + 4) (by omega); have z4 := hl9.free (q * 6 + 4); have g5 := Lies.at_i hl9 (i := q * 6 + 5) (by omega); have z5 := hl9.free (q * 6 + 5); have hltG := hl9.lt; have h9a : w9.heap[wo.heap.size]? = W9.drew.heap[wo.heap.size]? := (hbl9 _ (by have := HS9.out; omega) (by omega) htd1); have h9b : w9.heap[W.heap.size]? = W9.drew.heap[W.heap.size]? := (hbl9 _ (by have := HS9.out; omega) (by omega) (fun e => by have := (HTQ.out _ e).2; omega)); have hoth : ∀ i, i ≠ k0.G → (((((((w9.setCell ⟨k0.G, q * 6, none⟩ (.int .i64 k')).setCell ⟨k0.G, q * 6 + 1, none⟩ (.string (ba nm'))).setCell ⟨k0.G, q * 6 + 2, none⟩ (.int .i64 v')).setCell ⟨k0.G, q * 6 + 3, none⟩ (.slice B1 m1 d1)).setCell ⟨k0.G, q * 6 + 4, none⟩ (.slice B2 m2 d2)).setCell ⟨k0.G, q * 6 + 5, none⟩ (.int .i64 rv'))).heap[i]? = w9.heap[i]? := (fun i h1 => ((Below.heap_setCell _ ⟨k0.G, q * 6 + 5, none⟩ _ i h1).trans ((Below.heap_setCell _ ⟨k0.G, q * 6 + 4, none⟩ _ i h1).trans ((Below.heap_setCell _ ⟨k0.G, q * 6 + 3, none⟩ _ i h1).trans ((Below.heap_setCell _ ⟨k0.G, q * 6 + 2, none⟩ _ i h1).trans ((Below.heap_setCell _ ⟨k0.G, q * 6 + 1, none⟩ _ i h1).trans (Below.heap_setCell _ ⟨k0.G, q * 6, none⟩ _ i h1))))))); have h9c : (((((((w9.setCell ⟨k0.G, q * 6, none⟩ (.int .i64 k')).setCell ⟨k0.G, q * 6 + 1, none⟩ (.string (ba nm'))).setCell ⟨k0.G, q * 6 + 2, none⟩ (.int .i64 v')).setCell ⟨k0.G, q * 6 + 3, none⟩ (.slice B1 m1 d1)).setCell ⟨k0.G, q * 6 + 4, none⟩ (.slice B2 m2 d2)).setCell ⟨k0.G, q * 6 + 5, none⟩ (.int .i64 rv'))).heap[wo.heap.size]? = W9.drew.heap[wo.heap.size]? := (hoth _ (fun e => hGne e.symm)).trans h9a; have h9d : (((((((w9.setCell ⟨k0.G, q * 6, none⟩ (.int .i64 k')).setCell ⟨k0.G, q * 6 + 1, none⟩ (.string (ba nm'))).setCell ⟨k0.G, q * 6 + 2, none⟩ (.int .i64 v')).setCell ⟨k0.G, q * 6 + 3, none⟩ (.slice B1 m1 d1)).setCell ⟨k0.G, q * 6 + 4, none⟩ (.slice B2 m2 d2)).setCell ⟨k0.G, q * 6 + 5, none⟩ (.int .i64 rv'))).heap[W.heap.size]? = W9.drew.heap[W.heap.size]? := (hoth _ (by omega)).trans h9b; have HFIN := Lib.hid hfin; have HKP := Lib.hid hkp; have HL9 := Lib.hid hl9; have HBL9 := Lib.hid hbl9; clear hfin hkp hl9 hbl9))
          obtain ⟨W3, hW3⟩ : ∃ W3, W3 = ((((((w9.setCell ⟨k0.G, q * 6, none⟩ (.int .i64 k')).setCell ⟨k0.G, q * 6 + 1, none⟩ (.string (ba nm'))).setCell ⟨k0.G, q * 6 + 2, none⟩ (.int .i64 v')).setCell ⟨k0.G, q * 6 + 3, none⟩ (.slice B1 m1 d1)).setCell ⟨k0.G, q * 6 + 4, none⟩ (.slice B2 m2 d2)).setCell ⟨k0.G, q * 6 + 5, none⟩ (.int .i64 rv')) := ⟨_, rfl⟩
          have hl3 : Lies W3 k0.G 44 (((((((cur9.setIfInBounds (q * 6) (.int .i64 k')).setIfInBounds (q * 6 + 1) (.string (ba nm'))).setIfInBounds (q * 6 + 2) (.int .i64 v')).setIfInBounds (q * 6 + 3) (.slice B1 m1 d1)).setIfInBounds (q * 6 + 4) (.slice B2 m2 d2)).setIfInBounds (q * 6 + 5) (.int .i64 rv'))) := by rw [hW3]; have hl9 := HL9.out; exact ((((((hl9.set (q * 6) (.int .i64 k')).set (q * 6 + 1) (.string (ba nm'))).set (q * 6 + 2) (.int .i64 v')).set (q * 6 + 3) (.slice B1 m1 d1)).set (q * 6 + 4) (.slice B2 m2 d2)).set (q * 6 + 5) (.int .i64 rv'))
          have hs3' : W3.heap.size = w9.heap.size := by rw [hW3]; simp [World.size_setCell]
          have ho3 : ∀ i, i ≠ k0.G → W3.heap[i]? = w9.heap[i]? := by rw [hW3]; exact hoth
          have hset := set6 cur9 (q * 6) (.int .i64 k') (.string (ba nm')) (.int .i64 v') (.slice B1 m1 d1) (.slice B2 m2 d2) (.int .i64 rv') (by omega)
          have hcell3 : ∀ j, W3.cell? ⟨k0.G, j, none⟩ = if q * 6 ≤ j ∧ j < q * 6 + 6 then [.int .i64 k', .string (ba nm'), .int .i64 v', .slice B1 m1 d1, .slice B2 m2 d2, .int .i64 rv'][j - q * 6]? else cur9[j]? := fun j => by rw [hl3.cell, hset]
          obtain ⟨td3, ks3, hI3, hkp3⟩ := HFIN.out W3 hs3' (by rw [hW3]; rfl) (by rw [hW3]; rfl) (by rw [hW3]; rfl) ho3 ⟨_, hl3, by simpa using hsc9⟩ (fun j hj => by rw [hcell3, if_neg (by omega), HL9.out.cell]) (fun j x hx => by
            have hj6 := (List.getElem?_eq_some_iff.1 hx).1
            simp only [List.length_cons, List.length_nil] at hj6
            rw [hcell3, if_pos (by omega), Nat.add_sub_cancel_left]
            exact hx)
          have hblk : ∀ i, i < W.heap.size → i ≠ k0.G → i ≠ p → td'.ownBlock ≠ some i → W3.heap[i]? = W.heap[i]? := fun i h1 h2 h3 h4 => (ho3 i h2).trans ((HBL9.out i (by have := HS9.out; omega) h3 h4).trans (HB9.out.block i h1))
          have hwoW2 : w2.heap.size < W.heap.size := by have := HS8.out; omega
          have hWq : w.heap.size + 1 < W.heap.size := by omega
          rw [← hW3]
          clear hW3 hl3 hoth hset hcell3 h9a h9b h9c h9d hS
          go_wp2
          go_roundw
          case rel =>
            refine ⟨q + 1, td3, ks3, by omega, by simp, hI3, ?_, ?_, ?_, ?_⟩
            · exact (hblk _ hwoW2 (fun e => hGne2 e.symm) (by omega) htd2).trans HX.out.1
            · exact (hblk _ hWq (by omega) (by omega) (fun e => by have := (HTQ.out _ e).1; omega)).trans HX.out.2.1
            · exact (hblk _ hwoW (fun e => hGne e.symm) (by omega) htd1).trans HX.out.2.2
            · have := hkp3.1; omega
          case measure => (simp [intOf] <;> omega)
        · obtain rfl : q = n := by omega
          rw [HNN.out] at hI
          obtain ⟨hW', hlt'⟩ := hI.done (by omega) (F := fun i => i = w2.heap.size) (fun i hi => .inl hi)
          have hS8 := HS8.out
          have hwk := HW.out.work
          have e4 : wks T (ks' ++ [k0]) = wks T ks' + wk T k0 := by rw [wks_app]; simp [wks]
          rw [e4] at hwk
          clear hI
          go_wp2
          go_roundg (wks T ks2)
          case rel => exact ⟨td', ks2, hW', hx2, hx1, by omega, by omega⟩
          case measure => omega
end Go.Proofs.YtpbhndmfmnfeoaaGreat
