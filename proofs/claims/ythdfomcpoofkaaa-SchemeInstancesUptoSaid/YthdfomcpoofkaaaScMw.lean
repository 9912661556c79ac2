/- Package scheme: becomes tells whether a type can become another one. -/
import Derived.Test.YthdfomcpoofkaaaMg18
import Derived.Deep.LoopGhost
import Derived.IntWalk
import Derived.Outline
namespace Go.Proofs.Ythdfomcpoofkaaa
open Go.RowKit

theorem MtS.form {W : World} {p bm B : Nat} {s1 s2 : Value} {l : List Value} {bk br : Nat} {v1 v2 td : Value} {ks : List Pr} {k0 : Pr} {L : List Nat} (h : MtS W p bm B s1 s2 l bk br v1 v2 td (ks ++ [k0]).length ((ks ++ [k0]).flatMap prC) L) :
    ∃ b cap, td = .slice (some ⟨b, 0, none⟩) (ks.length + 1) cap ∧ ks.length + 1 ≤ cap ∧ B ≤ b ∧ b < W.heap.size ∧ W.cell? ⟨b, ks.length * 2, none⟩ = some k0.fv ∧ W.cell? ⟨b, ks.length * 2 + 1, none⟩ = some k0.tv ∧
      W.ownsRow B 129 2 (.slice (some ⟨b, 0, none⟩) ks.length cap) ks.length (ks.flatMap prC) := by
  have hr := h.row
  have hl : (ks ++ [k0]).length = ks.length + 1 := by simp
  have hf : (ks ++ [k0]).flatMap prC = ks.flatMap prC ++ prC k0 := by rw [List.flatMap_append]; simp
  rw [hl, hf] at hr
  rcases hr.2 with ⟨_, h0⟩ | ⟨b, cap, cur, rfl, hb, hh, hc, hm, hs, htk⟩
  · omega
  · have hcell : ∀ j q, (ks.flatMap prC ++ prC k0)[j]? = some q → W.cell? ⟨b, j, none⟩ = some q := fun j q hq => by
      have := hr.cells (g := b) rfl j q hq
      rwa [show (⟨b, 0, none⟩ : Addr).add j = ⟨b, j, none⟩ by unfold Addr.add; split <;> simp_all] at this
    have hat : ∀ j q, (prC k0)[j]? = some q → W.cell? ⟨b, ks.length * 2 + j, none⟩ = some q := fun j q hq => hcell _ q (by rw [← prC_len ks, List.getElem?_append_right (by omega), Nat.add_sub_cancel_left]; exact hq)
    refine ⟨b, cap, rfl, hc, hb, lt_of_block hh, hat 0 _ rfl, hat 1 _ rfl, prC_len ks, .inr ⟨b, cap, cur, rfl, hb, hh, by omega, hm, hs, ?_⟩⟩
    have h1 : cur.toList.take (ks.length * 2) = (cur.toList.take ((ks.length + 1) * 2)).take (ks.length * 2) := by rw [List.take_take]; congr 1; omega
    rw [h1, htk, ← prC_len ks]
    exact List.take_left
theorem MT.pop {w0 : World} {p bm bk br B : Nat} (hc : MC w0 p bm bk br B) {s1 s2 : Value} {l : List Value} {K : List Int} {m : Nat} {T : Int → Option Ty} {L : List Nat} {ks : List Pr} {b cap N : Nat} {tc : List Value} {v1 v2 : Value} {wr : World}
    (hm : MtS wr p bm B s1 s2 l bk br v1 v2 (.slice (some ⟨b, 0, none⟩) (ks.length + 1) cap) N tc L) (h4 : SubV (blank (fun x => x = p ∨ x = bm ∨ Value.ownBlock (.slice (some ⟨b, 0, none⟩) (ks.length + 1) cap) = some x) wr) (.agg #[v1, v2]) m T R0)
    (h5 : ∃ q, MapI wr 0 bk q (inG K)) (h6 : MapI wr 0 br 0 (inG [])) (h7 : Below w0.heap.size w0 wr) (h8 : B ≤ wr.heap.size) (h9 : ∀ x ∈ L, x < w0.heap.size) (hr : wr.ownsRow B 129 2 (.slice (some ⟨b, 0, none⟩) ks.length cap) ks.length (ks.flatMap prC))
    {V : World} (hp : Lies V p 97 (matC s1 s2 l bk br v1 v2 (.slice (some ⟨b, 0, none⟩) ks.length cap) bm)) (hos : V.os = wr.os) (htp : V.tape = wr.tape) (hou : V.output = wr.output) (hsz : wr.heap.size ≤ V.heap.size) (hbl : ∀ i, i < wr.heap.size → i ≠ p → V.heap[i]? = wr.heap[i]?) :
    MT w0 p bm bk br B s1 s2 l K m T L ks V := by
  obtain ⟨⟨p1, p2⟩, ⟨m1, m2⟩, ⟨k1, k2⟩, ⟨r1, r2⟩, n1, n2, n3, n4, n5⟩ := hc
  obtain ⟨q, h5⟩ := h5
  refine ⟨⟨v1, v2, _, ⟨hp, own_same hr fun i hi hlt => hbl i hlt (by omega), hm.met.keep (hbl bm hm.met.lt (fun e => n1 e.symm)) fun x hx => hbl _ (hm.met.2 x hx).lt fun e => ?_⟩, h4.keepL fun g hg => ?_⟩, ⟨q, h5.keep (hbl bk (by omega) (fun e => n2 e.symm))⟩, h6.keep (hbl br (by omega) (fun e => n3 e.symm)), ⟨hos.trans h7.os, htp.trans h7.tape, hou.trans h7.output, Nat.le_trans h7.size hsz, fun i hi => (hbl i (by have := h7.size; omega) (by omega)).trans (h7.block i hi)⟩, by omega, h9⟩
  · obtain ⟨y, hy, rfl⟩ := List.mem_map.1 hx
    have := h9 y hy
    have e : y = p := e
    omega
  · obtain ⟨hx, hlt⟩ := blank_live hg
    exact (blank_at (fun h => hx h)).trans ((hbl g hlt (fun e => hx (.inl e))).trans (blank_at hx).symm)
theorem BI.start (w0 : World) (t u : Ty) (K : List Int) (D : List Nat) (E : List (Nat × Nat × Nat)) (lt : List Value) (P0 : Nat) (hl : ∀ n ∈ K, occ n t ≤ 1) : BI w0 t u K D E lt 0 T0 [] [] [] P0 0 [t] [u] t.size :=
  ⟨rfl, fun i k g hk => by simp at hk, by simp [pmL], fun n hn => by have := hl n hn; simp only [sd, T0, occS, occL, List.map_nil, List.sum_nil]; simp; omega, by simp [wkS, Ty.sizeL], by simp [wkS, Ty.sizeL], List.nodup_nil, fun k hk => (by cases hk), fun x hx => (by cases hx), fun x hx => (by cases hx)⟩
theorem TF.openF {w : World} {a : Addr} {t : Ty} (h : TF w a t) : ∃ l, ReadsAt w a l ∧ TFV w t l := by
  cases h with
  | mk _ k nm v kids ls rv kv lv h0 hat hr hk hl hi hks => exact ⟨_, hr, kv, lv, rfl, hk, hl, hi, hks⟩
theorem TRV.shp {w : World} {t : Ty} {l : List Value} (h : TRV w t l) : Shp l := by
  obtain ⟨k, nm, v, kids, ls, rv⟩ := t
  obtain ⟨A, n, c, B, m, d, rfl⟩ := h.shape
  exact ⟨_, _, _, _, _, _, _, _, _, _, rfl⟩
theorem ReadsAt.laterB {w w' : World} {a : Addr} {l : List Value} (h : ReadsAt w a l) (h0 : 0 < l.length) (hb : Below w.heap.size w w') : ReadsAt w' a l := h.keep (hb.block _ (reads_block h h0))
theorem nodup_child {E : List (Nat × Nat × Nat)} (h : (E.map (·.2.2)).Nodup) {a b a' b' x : Nat} (h1 : (a, b, x) ∈ E) (h2 : (a', b', x) ∈ E) : a = a' ∧ b = b' := by
  induction E with
  | nil => cases h1
  | cons e r ih =>
    rw [List.map_cons, List.nodup_cons] at h
    rcases List.mem_cons.1 h1 with e1 | h1 <;> rcases List.mem_cons.1 h2 with e2 | h2
    · have e3 := e2.trans e1.symm; injection e3 with e3 e4; injection e4 with e4; exact ⟨e3.symm, e4.symm⟩
    · exact absurd (List.mem_map.2 ⟨_, h2, by rw [← e1]⟩) h.1
    · exact absurd (List.mem_map.2 ⟨_, h1, by rw [← e2]⟩) h.1
    · exact ih h.2 h1 h2
theorem BI.few {w0 : World} {t u : Ty} {K : List Int} {D : List Nat} {E : List (Nat × Nat × Nat)} {lt : List Value} {m : Nat} {T : Int → Option Ty} {L : List Nat} {ks : List Pr} {gs : List Gp} {P q mw : Nat} {fr tr : List Ty} (h : BI w0 t u K D E lt m T L ks gs P q fr tr mw) : ks.length ≤ t.size := by
  have h1 : ∀ gs : List Gp, (∀ g ∈ gs, 0 < g.1.length) → gs.length ≤ wkS gs := by
    intro gs
    induction gs with
    | nil => intro _; exact Nat.le_refl _
    | cons g r ih =>
      intro hp
      have a := ih fun g hg => hp g (List.mem_cons_of_mem _ hg)
      have b := hp g (List.mem_cons_self ..)
      have c := sizeL_lenG g.1
      simp only [wkS, List.map_cons, List.sum_cons, List.length_cons] at a ⊢
      omega
  have h2 := h1 gs fun g hg => by
    obtain ⟨i, hi⟩ := List.getElem?_of_mem hg
    have hlt := (List.getElem?_eq_some_iff.1 hi).1
    have := h.len
    exact (h.ok i _ g (List.getElem?_eq_getElem (by omega)) hi).pos
  have := h.wk
  have := h.len
  omega
theorem partRel_keep {K : List Int} {m : Nat} {T : Int → Option Ty} {L : List Nat} {ks : List Pr} {t u : Ty} {fv tv : Value} {m' : Nat} {T' : Int → Option Ty} {L' : List Nat} {ks' : List Pr} (h : PartRel K m T L ks t u fv tv m' T' L' ks') {b : Nat} (h1 : b ∈ L) (h2 : b ∉ ks.map blk) (h3 : ∀ n x, fv = .slice (some ⟨x, 0, none⟩) n n → x ∉ L) : b ∈ L' ∧ b ∉ ks'.map blk := by
  obtain ⟨k, nm, v, kids, ls, rv⟩ := t
  obtain ⟨k', nm', v', kids', ls', rv'⟩ := u
  rcases h with ⟨_, _, _, rfl, rfl⟩ | ⟨_, _, _, ⟨_, rfl, rfl⟩ | ⟨_, _, x, hx, rfl, rfl⟩⟩
  · exact ⟨h1, h2⟩
  · exact ⟨h1, h2⟩
  · refine ⟨List.mem_append_left _ h1, fun hm => ?_⟩
    rw [List.map_append, List.mem_append] at hm
    rcases hm with hm | hm
    · exact h2 hm
    · simp only [List.map_cons, List.map_nil, List.mem_singleton] at hm
      have e : blk ⟨fv, tv⟩ = x := by subst hx; rfl
      rw [e] at hm
      exact h3 _ x hx (hm ▸ h1)
set_option maxRecDepth 100000 in
set_option maxHeartbeats 40000000 in
theorem becomes_any {w0 : World} {p bm bk br B : Nat} (hc : MC w0 p bm bk br B) {s1 s2 : Value} {l : List Value} {K : List Int} {w : World} {t u : Ty} (ht : TFV w0 t l) {N0 : Nat} (htree : Tree1 N0 l w0) {lu : List Value} (hu : TRV w0 u lu) (h : MT w0 p bm bk br B s1 s2 l K 0 T0 [] [] w)
    (hts : t.size ≤ 900) (hus : u.size ≤ 1000) (hsrt : srtT t) (hocc : ∀ n ∈ K, occ n t ≤ 1) :
    Calls Try.prog 51 #[.pointer (some ⟨p, 0, none⟩), .agg lu.toArray] w fun e w' => e = .returned (.bool (pm K t u)) ∧ Below w0.heap.size w0 w' := by
  obtain ⟨D, E, hE1, hE2, hE3, hE4, hE5⟩ := htree
  have hl6 : l.length = 6 := ht.trv.len
  have hBI := BI.start w0 t u K D E l w0.heap.size hocc
  have hpart := fun V (hb : Below w.heap.size w V) => part_any hc hl6 (h.later hb) (by simp) (by omega) t u l lu ht hu (by omega) hus (fun k nm v kids ls rv e => by subst e; exact hsrt.1) (fun g hg hm => by cases hm) (fun k nm v kids ls rv e h7 hv => rfl)
  have hpl : p < w.heap.size := by
    obtain ⟨⟨v1, v2, td, ⟨a1, _, _⟩, _⟩, _⟩ := h
    exact a1.lt
  have hcells : ∀ V, Below w.heap.size w V → ∀ j q, l[j]? = some q → V.cell? ⟨p, 2 + j, none⟩ = some q := fun V hb j q hq => by
    obtain ⟨⟨v1, v2, td, ⟨a1, _, _⟩, _⟩, _⟩ := h.later hb
    rw [a1.cell]
    unfold matC
    have hj := (List.getElem?_eq_some_iff.1 hq).1
    rw [List.getElem?_toArray, Nat.add_comm 2 j, List.getElem?_cons_succ, List.getElem?_cons_succ, List.getElem?_append_left hj]
    exact hq
  have hu' := hu
  obtain ⟨k1, nm1, vv1, A1, n1, c1, B1, m1, d1, rv1, rfl⟩ := ht.trv.shp
  obtain ⟨k2, nm2, vv2, A2, n2, c2, B2, m2, d2, rv2, rfl⟩ := hu.shp
  unfold tyC at hpart hcells ⊢
  obtain ⟨W, hW⟩ : ∃ W, W = w.alloc (.cells #[.int .i64 k2, .string (ba nm2), .int .i64 vv2, .slice A2 n2 c2, .slice B2 m2 d2, .int .i64 rv2] 28) := ⟨_, rfl⟩
  have hb : Below w.heap.size w W := by rw [hW]; exact below_new w _
  have k0 : Lies W w.heap.size 28 #[.int .i64 k2, .string (ba nm2), .int .i64 vv2, .slice A2 n2 c2, .slice B2 m2 d2, .int .i64 rv2] := by rw [hW]; exact Lies.new _ _ _
  have hd : Below W.heap.size W W.drew := (Below.refl _ _).drew
  have hSS : ∀ V, Below W.heap.size W V → (V.cell? ⟨w.heap.size, 0, none⟩ = some (.int .i64 k2) ∧ V.cell? ⟨w.heap.size, 1, none⟩ = some (.string (ba nm2)) ∧ V.cell? ⟨w.heap.size, 2, none⟩ = some (.int .i64 vv2) ∧ V.cell? ⟨w.heap.size, 3, none⟩ = some (.slice A2 n2 c2) ∧ V.cell? ⟨w.heap.size, 4, none⟩ = some (.slice B2 m2 d2) ∧ V.cell? ⟨w.heap.size, 5, none⟩ = some (.int .i64 rv2)) ∧
      V.cell? ⟨p, 2, none⟩ = some (.int .i64 k1) ∧ V.cell? ⟨p, 3, none⟩ = some (.string (ba nm1)) ∧ V.cell? ⟨p, 4, none⟩ = some (.int .i64 vv1) ∧ V.cell? ⟨p, 5, none⟩ = some (.slice A1 n1 c1) ∧ V.cell? ⟨p, 6, none⟩ = some (.slice B1 m1 d1) ∧ V.cell? ⟨p, 7, none⟩ = some (.int .i64 rv1) := fun V hV => by
    have hc := hcells V (hb.trans (hV.mono hb.size))
    have kk := k0.later hV
    exact ⟨⟨kk.cell 0, kk.cell 1, kk.cell 2, kk.cell 3, kk.cell 4, kk.cell 5⟩, hc 0 _ rfl, hc 1 _ rfl, hc 2 _ rfl, hc 3 _ rfl, hc 4 _ rfl, hc 5 _ rfl⟩
  have HW := Lib.hid hW
  have HB := Lib.hid hb
  have HSS := Lib.hid hSS
  have HPART := Lib.hid hpart
  have HC := Lib.hid hc
  have HBI := Lib.hid hBI
  have HT := Lib.hid ht
  have HU := Lib.hid hu'
  have HSRT := Lib.hid hsrt
  have HE := Lib.hid (And.intro hE1 (And.intro hE2 (And.intro hE3 (And.intro hE4 hE5))))
  have HTS := Lib.hid hts
  have HUS := Lib.hid hus
  clear hW hb hSS hpart hc hBI ht hu hu' hsrt hE1 hE2 hE3 hE4 hE5 hts hus hcells k0 h hl6 hocc
  go_enter Try.func51, Try.ntmps51
  go_wp2_with fail
  rw [← HW.out]
  obtain ⟨⟨y0, y1, y2, y3, y4, y5⟩, z0, z1, z2, z3, z4, z5⟩ := HSS.out _ hd
  obtain ⟨⟨y0', y1', y2', y3', y4', y5'⟩, z0', z1', z2', z3', z4', z5'⟩ := HSS.out _ (Below.refl W.heap.size W)
  go_still_tail 7, (by kernel_rfl)
  change wpList _ _ _ _ _ W.drew
  go_wp2_with fail
  refine (HPART.out W.drew (HB.out.trans (hd.mono HB.out.size))).mono ?_
  rintro e w5 ⟨b5, rfl, hb5, hbel5, hmt5⟩
  obtain ⟨g5, hg5, hst⟩ : ∃ g5, g5 ≤ 900 ∧ ((b5 = false ∧ pm K t u = false) ∨ (b5 = true ∧ ∃ m T L ks gs, MT w0 p bm bk br B s1 s2 (tyC k1 nm1 vv1 (.slice A1 n1 c1) (.slice B1 m1 d1) rv1) K m T L ks w5 ∧ BI w0 t u K D E (tyC k1 nm1 vv1 (.slice A1 n1 c1) (.slice B1 m1 d1) rv1) m T L ks gs w0.heap.size 0 [] [] g5)) := by
    cases b5 with
    | false => exact ⟨0, by omega, .inl ⟨rfl, HBI.out.fails hb5.symm⟩⟩
    | true =>
      obtain ⟨m', T', L', ks', hm', hr'⟩ := hmt5 rfl
      obtain ⟨gs', hb'⟩ := HBI.out.step hb5.symm HT.out HU.out HSRT.out HUS.out hr' (fun x hx => ⟨(fun h => by cases h), HE.out.2.2.2.1 x hx, .inl hx⟩)
      have hnl : w0.heap.size ∉ L' := fun hm => by have := hm'.met _ hm; omega
      obtain ⟨h1, h2⟩ := hb'.top hnl
      refine ⟨wkS gs', ?_, .inr ⟨rfl, m', T', L', ks', gs', hm', h1⟩⟩
      have := HTS.out
      omega
  have HST := Lib.hid hst
  have HBEL := Lib.hid hbel5
  clear hb5 hmt5 hst hbel5 y0 y1 y2 y3 y4 y5 z0 z1 z2 z3 z4 z5 y0' y1' y2' y3' y4' y5' z0' z1' z2' z3' z4' z5'
  go_wp2_with fail
  go_loopg [5] (g5 + 1) (fun g c wr => g ≤ 901 ∧ Below w0.heap.size w0 wr ∧ ((c = .bool false ∧ pm K t u = false) ∨ (c = .bool true ∧ 0 < g ∧ ∃ m T L ks gs, MT w0 p bm bk br B s1 s2 (tyC k1 nm1 vv1 (.slice A1 n1 c1) (.slice B1 m1 d1) rv1) K m T L ks wr ∧ BI w0 t u K D E (tyC k1 nm1 vv1 (.slice A1 n1 c1) (.slice B1 m1 d1) rv1) m T L ks gs w0.heap.size 0 [] [] (g - 1))))
  case atStart =>
    refine ⟨by omega, HBEL.out, ?_⟩
    rcases HST.out with ⟨h1, h2⟩ | ⟨h1, h2⟩
    · exact .inl ⟨by rw [h1], h2⟩
    · exact .inr ⟨by rw [h1], Nat.succ_pos _, h2⟩
  case round =>
    obtain ⟨hg9, hbel, hcase⟩ := hrel
    rcases hcase with ⟨rfl, hf⟩ | ⟨rfl, hgp, m, T, L, ks, gs, hmt, hbi⟩
    · have HF := Lib.hid hf
      have HBL := Lib.hid hbel
      clear hf hbel
      go_wp2_with fail
      go_ret
      exact ⟨ret_bool (by simp [HF.out]), HBL.out⟩
    · obtain ⟨⟨v1, v2, td, hms, h4⟩, h5, h6, h7, h8, h9⟩ := hmt
      have hms12 := hms.at_.cell 12
      rcases List.eq_nil_or_concat ks with rfl | ⟨ks', k0, rfl⟩
      · obtain ⟨At, ct, rfl⟩ := own_len0 hms.row
        have hgs : gs = [] := List.eq_nil_of_length_eq_zero (by rw [← hbi.len]; rfl)
        subst hgs
        have hfin : pm K t u = true := hbi.iff.2 ⟨fun g hg => (by cases hg), by simp [pmL]⟩
        have e12 : wr.cell? ⟨p, 12, none⟩ = some (.slice At 0 ct) := hms12
        have HF := Lib.hid hfin
        have HBL := Lib.hid hbel
        clear hfin hbel hms h4 h5 h6 h7 h8 h9 hbi hms12
        go_wp2_with fail
        go_ret
        exact ⟨ret_bool (by simp [HF.out]), HBL.out⟩
      · rw [List.concat_eq_append] at hms hbi
        obtain ⟨gs', g0, rfl⟩ : ∃ a b, gs = a ++ [b] := by
          rcases List.eq_nil_or_concat gs with rfl | ⟨a, b, rfl⟩
          · have := hbi.len; simp at this
          · exact ⟨a, b, List.concat_eq_append ..⟩
        obtain ⟨b, cap, rfl, hcap, hBb, hblt, c0, c1', hrow⟩ := hms.form
        obtain ⟨hpop, hok, hbL, hbk⟩ := hbi.pop
        obtain ⟨g2, o2, d, htv, hnd, htk⟩ := hok.to_
        have hfv := hok.from_
        have hlen := hok.len
        obtain ⟨bk0, hbk0⟩ : ∃ x, x = blk k0 := ⟨_, rfl⟩
        rw [hfv] at c0
        rw [htv, ← hlen] at c1'
        rw [← hbk0] at c0 hpop hbL hbk
        obtain ⟨n, hn⟩ : ∃ n, n = g0.1.length := ⟨_, rfl⟩
        obtain ⟨Kn, hKn⟩ : ∃ n, n = ks'.length := ⟨_, rfl⟩
        have hfew := hbi.few
        have hK9 : Kn + 1 ≤ 1000 := by have := HTS.out; rw [List.length_append] at hfew; simp only [List.length_cons, List.length_nil] at hfew; omega
        have hn9 : n ≤ 1000 := by
          have h1 := hbi.wk
          rw [wkS_app] at h1
          have h2 := sizeL_lenG g0.1
          have := HTS.out
          simp only [wkS, List.map_cons, List.map_nil, List.sum_cons, List.sum_nil] at h1
          omega
        have hmsp : Lies wr p 97 (matC s1 s2 (tyC k1 nm1 vv1 (.slice A1 n1 c1) (.slice B1 m1 d1) rv1) bk br v1 v2 (.slice (some ⟨b, 0, none⟩) (ks'.length + 1) cap) bm) := hms.at_
        rw [← hKn] at hcap c0 c1' hms12 hmsp
        rw [← hn] at c0 c1' hfv
        rw [← hlen, ← hn] at hnd
        have e12 : wr.cell? ⟨p, 12, none⟩ = some (.slice (some ⟨b, 0, none⟩) (Kn + 1) cap) := hmsp.cell 12
        have hpw := hmsp.lt
        have HMS := Lib.hid hms
        have HMSP := Lib.hid hmsp
        have H4 := Lib.hid h4
        have H5 := Lib.hid (And.intro h5 (And.intro h6 (And.intro h7 (And.intro h8 h9))))
        have HROW := Lib.hid hrow
        have HPOP := Lib.hid hpop
        have HOK := Lib.hid hok
        have HBK := Lib.hid (And.intro hbL hbk)
        have HBK0 := Lib.hid hbk0
        have HN := Lib.hid hn
        have HKN := Lib.hid hKn
        have HTK := Lib.hid htk
        have HMW := Lib.hid hbi.wq
        have HBL := Lib.hid hbel
        clear hms hmsp h4 h5 h6 h7 h8 h9 hrow hpop hok hbL hbk hbk0 hn hKn htk hbi hbel hms12 hfv htv hlen hfew
        have hK1 : ((Kn : Int) + 1) - 1 = (Kn : Int) := by omega
        have hK2 : (0 : Int) ≤ (Kn : Int) := by omega
        have hK3 : (Kn : Int) < (Kn : Int) + 1 := by omega
        have hK6 : IntKind.i64.wrap (Kn : Int) = (Kn : Int) := IntWalk.i64_in _ (by omega)
        have hSS : ∀ V, Below wr.heap.size wr V → V.cell? ⟨p, 12, none⟩ = some (.slice (some ⟨b, 0, none⟩) (Kn + 1) cap) ∧ V.cell? ⟨b, Kn * 2, none⟩ = some (.slice (some ⟨bk0, 0, none⟩) n n) ∧ V.cell? ⟨b, Kn * 2 + 1, none⟩ = some (.slice (some ⟨g2, o2, none⟩) n d) := fun V hV => ⟨(hV.cell (p := ⟨p, 12, none⟩) hpw).trans e12, (hV.cell (p := ⟨b, Kn * 2, none⟩) hblt).trans c0, (hV.cell (p := ⟨b, Kn * 2 + 1, none⟩) hblt).trans c1'⟩
        have HS3 := Lib.hid hSS
        have hd0 : Below wr.heap.size wr wr.drew := (Below.refl _ _).drew
        have hd1 : Below wr.heap.size wr (wr.alloc (.cells #[.slice (some ⟨bk0, 0, none⟩) n n, .slice (some ⟨g2, o2, none⟩) n d] 129)).drew := (below_new wr _).drew
        clear hSS
        go_wp2_with fail
        go_region_held3 (fun V => V.cell? ⟨p, 12, none⟩ = some (.slice (some ⟨b, 0, none⟩) (Kn + 1) cap) ∧ V.cell? ⟨b, Kn * 2, none⟩ = some (.slice (some ⟨bk0, 0, none⟩) n n) ∧ V.cell? ⟨b, Kn * 2 + 1, none⟩ = some (.slice (some ⟨g2, o2, none⟩) n d))
          (first | with_reducible exact HS3.out _ hd0 | exact HS3.out _ hd1 | exact HS3.out _ (below_new _ _).drew) (fail)
        obtain ⟨V6, hV6⟩ : ∃ V6, V6 = (wr.alloc (.cells #[.slice (some ⟨bk0, 0, none⟩) n n, .slice (some ⟨g2, o2, none⟩) n d] 129)).drew := ⟨_, rfl⟩
        have hb6 : Below wr.heap.size wr V6 := by rw [hV6]; exact (below_new _ _).drew
        have l6 : Lies V6 wr.heap.size 129 #[.slice (some ⟨bk0, 0, none⟩) n n, .slice (some ⟨g2, o2, none⟩) n d] := by rw [hV6]; exact Lies.new wr _ _
        have hs6 : V6.heap.size = wr.heap.size + 1 := by rw [hV6]; simp
        rw [← hV6]
        have p6 := (hb6.cell (p := ⟨p, 12, none⟩) hpw).trans e12
        have hc1 : (Kn : Int) ≤ (cap : Int) := by omega
        have hc2 : Kn ≤ cap := by omega
        have HS6 := Lib.hid hs6
        have HB6 := Lib.hid hb6
        have HL6 := Lib.hid l6
        clear hV6 hb6 hs6 l6 e12 c0 c1' hd0 hd1 HS3
        go_wp2_with fail
        go_still_tail 14, (by kernel_rfl)
        change wpList _ _ _ _ _ V6.drew
        have hb7 : Below wr.heap.size wr V6.drew := HB6.out.drew
        have l7 : Lies V6.drew wr.heap.size 129 #[.slice (some ⟨bk0, 0, none⟩) n n, .slice (some ⟨g2, o2, none⟩) n d] := HL6.out
        have hs7 : V6.drew.heap.size = wr.heap.size + 1 := HS6.out
        have q7 : Lies V6.drew p 97 (matC s1 s2 (tyC k1 nm1 vv1 (.slice A1 n1 c1) (.slice B1 m1 d1) rv1) bk br v1 v2 (.slice (some ⟨b, 0, none⟩) (Kn + 1) cap) bm) := HMSP.out.later hb7
        generalize V6.drew = V7 at *
        have q7c : V7.cell? ⟨p, 12, none⟩ = some (.slice (some ⟨b, 0, none⟩) (Kn + 1) cap) := q7.cell 12
        have q7f := q7.free 12
        have q7l := q7.lt
        obtain ⟨V8, hV8⟩ : ∃ V8, V8 = V7.setCell ⟨p, 12, none⟩ (.slice (some ⟨b, 0, none⟩) Kn cap) := ⟨_, rfl⟩
        have hs8 : V8.heap.size = wr.heap.size + 1 := by rw [hV8, World.size_setCell]; exact hs7
        have hbl8 : ∀ i, i < wr.heap.size → i ≠ p → V8.heap[i]? = wr.heap[i]? := fun i h1 h2 => by rw [hV8]; exact (Below.heap_setCell _ ⟨p, 12, none⟩ _ i h2).trans (hb7.block i h1)
        have l8 : Lies V8 wr.heap.size 129 #[.slice (some ⟨bk0, 0, none⟩) n n, .slice (some ⟨g2, o2, none⟩) n d] := by rw [hV8]; exact l7.far (p := ⟨p, 12, none⟩) (by show wr.heap.size ≠ p; omega) _
        have q8 : Lies V8 p 97 (matC s1 s2 (tyC k1 nm1 vv1 (.slice A1 n1 c1) (.slice B1 m1 d1) rv1) bk br v1 v2 (.slice (some ⟨b, 0, none⟩) Kn cap) bm) := by rw [hV8]; exact q7.set 12 _
        obtain ⟨h5, h6, h7, h8, h9⟩ := H5.out
        rw [HKN.out] at q8
        have hmt8 := MT.pop HC.out HMS.out H4.out h5 h6 h7 h8 h9 HROW.out q8 (by rw [hV8]; exact hb7.os) (by rw [hV8]; exact hb7.tape) (by rw [hV8]; exact hb7.output) (by omega) hbl8
        have e0 := l8.cell 0
        have e1 := l8.cell 1
        rw [hV8] at e0 e1
        have HV8 := Lib.hid hV8
        have HM8 := Lib.hid hmt8
        clear hV8 hbl8 hs8 l8 q8 h5 h6 h7 h8 h9 hmt8 hb7 l7 q7 hs7
        go_wp2_with fail
        rw [← HV8.out]
        have hMT7 : ∀ {m T L ks V}, MT w0 p bm bk br B s1 s2 (tyC k1 nm1 vv1 (.slice A1 n1 c1) (.slice B1 m1 d1) rv1) K m T L ks V → Below w0.heap.size w0 V := fun h => h.bel
        have hok' := HOK.out
        have htk' := HTK.out
        have hE := HE.out
        have hbk' := HBK.out
        have hcl6 : (tyC k1 nm1 vv1 (.slice A1 n1 c1) (.slice B1 m1 d1) rv1).length = 6 := rfl
        have hdrop : ∀ q, q < n → ∃ f g, g0.1[q]? = some f ∧ g0.2[q]? = some g ∧ g0.1.drop q = f :: g0.1.drop (q + 1) ∧ g0.2.drop q = g :: g0.2.drop (q + 1) := fun q hq => by
          have h1 : q < g0.1.length := by rw [← HN.out]; exact hq
          have h2 : q < g0.2.length := by rw [← hok'.len]; exact h1
          exact ⟨_, _, List.getElem?_eq_getElem h1, List.getElem?_eq_getElem h2, List.drop_eq_getElem_cons h1, List.drop_eq_getElem_cons h2⟩
        have heq := equalF_any p bk0 g2 o2 n n d
          (fun q V => ∃ m T L ks gs, MT w0 p bm bk br B s1 s2 (tyC k1 nm1 vv1 (.slice A1 n1 c1) (.slice B1 m1 d1) rv1) K m T L ks V ∧ BI w0 t u K D E (tyC k1 nm1 vv1 (.slice A1 n1 c1) (.slice B1 m1 d1) rv1) m T L ks gs bk0 q (g0.1.drop q) (g0.2.drop q) (wkS (gs' ++ [g0])) ∧ bk0 ∈ L ∧ bk0 ∉ ks.map blk)
          (fun _ V => pm K t u = false ∧ Below w0.heap.size w0 V) V8 (by omega) (Nat.le_refl _) hnd ⟨m, T, L, ks', gs', HM8.out, by simpa using HPOP.out, hbk'.1, hbk'.2⟩
          (fun q hq V hJ => by
            obtain ⟨m, T, L, ks, gs, hmt, hbi, hL, hkb⟩ := hJ
            obtain ⟨f, g, hf, hg, hdf, hdg⟩ := hdrop q hq
            rw [hdf, hdg] at hbi
            have htf := hok'.fk q f hf
            have htg := htk' q g hg
            rw [← HBK0.out] at htf
            obtain ⟨lf, hrf, hvf⟩ := htf.openF
            obtain ⟨lg, _, hrg, hvg⟩ := htg.open
            have hl1 := hvf.trv.len
            have hl2 := hvg.len
            have hfm : f ∈ g0.1 := List.mem_of_getElem? hf
            have hgm : g ∈ g0.2 := List.mem_of_getElem? hg
            have hgs := hok'.sm g hgm
            have hfs := srtL_mem hok'.srt f hfm
            have hwk := hbi.wk
            simp only [Ty.sizeL] at hwk
            have hts := HTS.out
            have hedge : ∀ x, rtOf lf x → (bk0, q, x) ∈ E := fun x hx => by
              obtain ⟨nn, cc, hx⟩ := hx
              refine hE.2.2.2.2 bk0 q x nn cc (hbi.LD _ hL) ?_
              have := hrf 3 _ hx
              exact this
            have hnew : ∀ x, rtOf lf x → x ∉ L := fun x hx hm => by
              have he := hedge x hx
              rcases hbi.vis x hm with hr | ⟨P, j, a1, a2, a3, a4⟩
              · exact (hE.2.2.1 _ he).1 hr
              · obtain ⟨e1, e2⟩ := nodup_child hE.1 a1 he
                have := a4 e1
                omega
            refine ⟨lf, lg, hrf.laterB (by omega) hmt.bel, hrg.laterB (by omega) hmt.bel, hvf.trv.shp, hvg.shp, fun V' hV' => ?_⟩
            refine (part_any HC.out hcl6 (hmt.later hV') (by have := hbi.few; omega) (by omega) f g lf lg hvf hvg (by omega) hgs (fun k nm v kids ls rv e => by subst e; exact hfs.1) hnew (fun k nm v kids ls rv e h7 hv => by subst e; exact hbi.unsaid h7 hv)).mono ?_
            rintro e W' ⟨b, rfl, hb, hbel, hres⟩
            refine ⟨b, rfl, fun hbt => ?_, fun hbf => ⟨hbi.fails (by rw [← hb, hbf]), hbel⟩⟩
            obtain ⟨m', T', L', ks'', hmt', hrel⟩ := hres hbt
            obtain ⟨gs'', hbi'⟩ := hbi.step (by rw [← hb, hbt]) hvf hvg hfs hgs hrel (fun x hx => ⟨hnew x hx, (hE.2.2.1 _ (hedge x hx)).2, .inr ⟨hedge x hx, hL, hkb⟩⟩)
            obtain ⟨hL', hkb'⟩ := partRel_keep hrel hL hkb (fun nn x hx => hnew x ⟨nn, nn, by
              obtain ⟨kk, knm, kvv, kA, kn, kc, kB, km, kd, krv, rfl⟩ := hvf.trv.shp
              exact congrArg some hx⟩)
            exact ⟨m', T', L', ks'', gs'', hmt', hbi', hL', hkb'⟩)
        have HEQ := Lib.hid heq
        clear heq hdrop hMT7 hok' htk' hE hbk' hcl6 e0 e1
        refine HEQ.out.mono ?_
        rintro e w9 ⟨b9, rfl, hb9t, hb9f⟩
        have hn0 : 0 < n := by rw [HN.out]; exact HOK.out.pos
        have hmw := HMW.out
        cases b9 with
        | false =>
          obtain ⟨_, _, hpf, hbw⟩ := hb9f rfl
          clear hb9t hb9f
          have HPF := Lib.hid hpf
          have HBW := Lib.hid hbw
          clear hpf hbw
          go_wp2_with fail
          go_roundg 0
          case rel => exact ⟨by omega, HBW.out, .inl ⟨rfl, HPF.out⟩⟩
          case measure => omega
        | true =>
          obtain ⟨m', T', L', ks'', gs'', hmt', hbi', _, _⟩ := hb9t rfl
          rw [List.drop_eq_nil_of_le (by rw [HN.out]; exact Nat.le_refl _), List.drop_eq_nil_of_le (by rw [HN.out, ← HOK.out.len]; exact Nat.le_refl _)] at hbi'
          obtain ⟨hbt, hlt⟩ := hbi'.top (P' := w0.heap.size) (fun hm => by have := hmt'.met _ hm; omega)
          simp only [Ty.sizeL, Nat.add_zero] at hmw
          have HBT := Lib.hid hbt
          have HMT := Lib.hid hmt'
          obtain ⟨g1, hg1⟩ : ∃ x, x = wkS gs'' := ⟨_, rfl⟩
          have HG1 := Lib.hid hg1
          have hlt1 := Nat.le_trans hlt hmw
          rw [← hg1] at hlt1
          clear hb9t hb9f hbi' hbt hmt' hlt hg1 hmw
          go_wp2_with fail
          go_roundg (g1 + 1)
          case rel => exact ⟨by omega, HMT.out.bel, .inr ⟨rfl, Nat.succ_pos _, m', T', L', ks'', gs'', HMT.out, by rw [Nat.add_sub_cancel, HG1.out]; exact HBT.out⟩⟩
          case measure => omega
end Go.Proofs.Ythdfomcpoofkaaa
