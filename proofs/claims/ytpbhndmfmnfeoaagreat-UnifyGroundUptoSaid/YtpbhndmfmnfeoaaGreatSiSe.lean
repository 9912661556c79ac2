/- types.Same decides: a tree of the call's own, and a type that is read elsewhere. -/
import Derived.Test.YtpbhndmfmnfeoaaGreatSiSc
import Derived.Outline
namespace Go.Proofs.YtpbhndmfmnfeoaaGreat.Sd
open Go.RowKit Si

theorem baL (l : List UInt8) : (ba l).toList = l := by rw [Lib.toList_data]; simp [ba]
set_option maxRecDepth 100000 in
set_option maxHeartbeats 4000000 in
theorem alone_dec (w : World) (b o b' o' : Nat) (k : Int) (nm : Str) (v : Int) (k' : Int) (nm' : Str) (v' : Int) (A A' : Option Addr) (n n' q q' : Nat) (lv lv' : Value) (ls ls' : List Str) (rv rv' : Int) (hr : ReadsAt w ⟨b, o, none⟩ (tyC k nm v (.slice A n q) lv rv)) (hr' : ReadsAt w ⟨b', o', none⟩ (tyC k' nm' v' (.slice A' n' q') lv' rv')) (hl : StrR w lv ls) (hl' : StrR w lv' ls') :
    Calls Tryz.prog 53 #[.pointer (some ⟨b, o, none⟩), .pointer (some ⟨b', o', none⟩)] w fun e w' => e = .returned (.bool (decide (k = k' ∧ nm = nm' ∧ v = v' ∧ n = n' ∧ ls = ls' ∧ rv = rv'))) ∧ Below w.heap.size w w' := by
  obtain ⟨c0, c1, c2, c3, c4, c5⟩ := reads6 hr
  obtain ⟨d0, d1, d2, d3, d4, d5⟩ := reads6 hr'
  by_cases hk : k = k'
  case neg =>
    have hkb : (k == k') = false := by simpa using hk
    have hd : decide (k = k' ∧ nm = nm' ∧ v = v' ∧ n = n' ∧ ls = ls' ∧ rv = rv') = false := decide_eq_false fun h => hk h.1
    rw [hd]
    clear hd
    go_enter Tryz.func53, Tryz.ntmps53
    go_wp2
    go_quiet (fail)
    go_wp2
    go_ret
    exact ⟨rfl, Rw.below_drewN _ _⟩
  subst hk
  by_cases hn : nm = nm'
  case neg =>
    have hkb : ((ba nm).toList == (ba nm').toList) = false := by simpa [baL] using hn
    have hd : decide (k = k ∧ nm = nm' ∧ v = v' ∧ n = n' ∧ ls = ls' ∧ rv = rv') = false := decide_eq_false fun h => hn h.2.1
    rw [hd]
    clear hd
    go_enter Tryz.func53, Tryz.ntmps53
    go_wp2
    go_quiet (fail)
    go_wp2
    go_ret
    exact ⟨rfl, Rw.below_drewN _ _⟩
  subst hn
  by_cases hv : v = v'
  case neg =>
    have hkb : (v == v') = false := by simpa using hv
    have hd : decide (k = k ∧ nm = nm ∧ v = v' ∧ n = n' ∧ ls = ls' ∧ rv = rv') = false := decide_eq_false fun h => hv h.2.2.1
    rw [hd]
    clear hd
    go_enter Tryz.func53, Tryz.ntmps53
    go_wp2
    go_quiet (fail)
    go_wp2
    go_ret
    exact ⟨rfl, Rw.below_drewN _ _⟩
  subst hv
  by_cases hm : n = n'
  case neg =>
    have hmi : ¬ (n : Int) = (n' : Int) := by omega
    have hkb : ((n : Int) == (n' : Int)) = false := by simp only [beq_eq_false_iff_ne, ne_eq]; omega
    have hd : decide (k = k ∧ nm = nm ∧ v = v ∧ n = n' ∧ ls = ls' ∧ rv = rv') = false := decide_eq_false fun h => hm h.2.2.2.1
    rw [hd]
    clear hd
    go_enter Tryz.func53, Tryz.ntmps53
    go_wp2
    go_quiet (fail)
    go_wp2
    go_ret
    exact ⟨rfl, Rw.below_drewN _ _⟩
  subst hm
  have hlb := hl.2
  have hlb' := hl'.2
  have hsr := Rw.sameRow_any lv lv' ls ls' rv rv' w.drew (.of hl) (.of hl') (by omega) (by omega)
  have HSR := Lib.hid hsr
  obtain ⟨A2, n2, q2, rfl⟩ : ∃ A n c, lv = .slice A n c := by rcases hl.1 with ⟨rfl, _⟩ | ⟨_, _, rfl, _⟩ <;> exact ⟨_, _, _, rfl⟩
  obtain ⟨A3, n3, q3, rfl⟩ : ∃ A n c, lv' = .slice A n c := by rcases hl'.1 with ⟨rfl, _⟩ | ⟨_, _, rfl, _⟩ <;> exact ⟨_, _, _, rfl⟩
  clear hsr
  go_enter Tryz.func53, Tryz.ntmps53
  go_wp2
  go_still_tail 53, (by kernel_rfl)
  change wpList _ _ _ _ _ w.drew
  go_wp2_with fail
  refine HSR.out.mono ?_
  rintro e w1 ⟨rfl, hb1⟩
  go_wp2
  go_ret
  exact ⟨ret_bool (by simp [and_comm]), (Below.refl _ w).drew.trans hb1⟩
structure SI (w1 W0 : World) (N : Nat) (la : List Value) (E : List (Nat × Nat × Nat)) (D : List Nat) (ks : List PP) (gs : List (Ty × Ty)) (L : List PP) (V : List Nat) : Prop where
  len : ks.length = gs.length
  ok : ∀ (i : Nat) p t, ks[i]? = some p → gs[i]? = some t → TF W0 p.1 t.1 ∧ TR W0 p.2 t.2 ∧ (∃ l, ReadsAt W0 p.2 l ∧ TWk w1 t.2 l) ∧ AtB W0 p.2 ∧ YOK N w1.heap.size p.2
  nd : (ks.map Prod.fst ++ L.map Prod.fst).Nodup
  xs : ∀ x ∈ ks.map Prod.fst ++ L.map Prod.fst, x = ⟨N, 0, none⟩ ∨ ∃ g i, x = ⟨g, i * 6, none⟩ ∧ g ∈ V
  VD : ∀ g ∈ V, g ∈ D
  at_ : ∀ p ∈ L, AtCells W0 p.1
  vis : ∀ g ∈ V, (rtOf la g ∧ (⟨N, 0, none⟩ : Addr) ∈ L.map Prod.fst) ∨ ∃ P j, (P, j, g) ∈ E ∧ (⟨P, j * 6, none⟩ : Addr) ∈ L.map Prod.fst
theorem SI.off {w1 W0 : World} {N : Nat} {la : List Value} {D : List Nat} {E : List (Nat × Nat × Nat)} {ks : List PP} {gs : List (Ty × Ty)} {L : List PP} {V : List Nat} (hf : SF W0 N w1.heap.size la D E) (h : SI w1 W0 N la E D ks gs L V) {x : Addr} (hx : x ∈ ks.map Prod.fst ++ L.map Prod.fst) {y : Addr} (hy : YOK N w1.heap.size y) : x.block ≠ y.block ∧ x.block ≤ N := by
  have hMN := hf.MN
  rcases h.xs x hx with rfl | ⟨g, i, rfl, hg⟩
  · rcases hy with e | e
    · exact ⟨by show N ≠ y.block; omega, Nat.le_refl _⟩
    · exact ⟨by show N ≠ y.block; omega, Nat.le_refl _⟩
  · have := hf.D_ g (h.VD g hg)
    rcases hy with e | e
    · exact ⟨by show g ≠ y.block; omega, by show g ≤ N; omega⟩
    · exact ⟨by show g ≠ y.block; omega, by show g ≤ N; omega⟩
theorem SI.pop {w1 W0 : World} (hw : Below w1.heap.size w1 W0) {N : Nat} {la : List Value} {D : List Nat} {E : List (Nat × Nat × Nat)} {ks : List PP} {p0 : PP} {gs : List (Ty × Ty)} {k : Int} {nm : Str} {v : Int} {kids : List Ty} {ls : List Str} {rv : Int} {k' : Int} {nm' : Str} {v' : Int} {kids' : List Ty} {ls' : List Str} {rv' : Int} {L : List PP} {V : List Nat} (hf : SF W0 N w1.heap.size la D E)
    (h : SI w1 W0 N la E D (ks ++ [p0]) (gs ++ [(.mk k nm v kids ls rv, .mk k' nm' v' kids' ls' rv')]) L V) : ∃ kv lv kv' lv', p0.1.spot = none ∧ p0.2.spot = none ∧ AtCells W0 p0.1 ∧ AtB W0 p0.2 ∧ ReadsAt W0 p0.1 (tyC k nm v kv lv rv) ∧ ReadsAt W0 p0.2 (tyC k' nm' v' kv' lv' rv') ∧ SlF W0 kv kids.length ∧ SlR kv' kids'.length ∧ StrR W0 lv ls ∧ StrR W0 lv' ls' ∧
      plook p0.1 L = none ∧ YOK N w1.heap.size p0.2 ∧ (kids.length = kids'.length → ∃ V', SI w1 W0 N la E D (ks ++ news kv kv' kids.length) (gs ++ kids.zip kids') (L ++ [p0]) V') := by
  have hl : ks.length = gs.length := by have := h.len; simpa using this
  obtain ⟨hF, hR, ⟨l2, hr2, hW⟩, hB, hY⟩ := h.ok ks.length p0 (.mk k nm v kids ls rv, .mk k' nm' v' kids' ls' rv') (by simp) (by rw [hl]; simp)
  have hA := hF.at_
  cases hF with
  | mk _ _ _ _ _ _ _ kv lv x0 _ hr hk hls hi hks =>
  cases hR with
  | mk _ _ _ _ _ _ _ kv' lv' y0 hr' hk' hls' hi' hks' =>
  obtain ⟨kv2, lv2, rfl, hks2⟩ := hW
  have e2 : kv2 = kv' := by
    have h1 := hr2 3 _ rfl
    have h2 := hr' 3 _ rfl
    rw [h1] at h2
    injection h2
  subst e2
  have hnot : p0.1 ∉ L.map Prod.fst := fun hm => by
    have := h.nd
    rw [List.nodup_append] at this
    exact this.2.2 p0.1 (by simp) p0.1 hm rfl
  have hpl : plook p0.1 L = none := by
    clear h
    induction L with
    | nil => rfl
    | cons e r ih =>
      rw [List.map_cons, List.mem_cons] at hnot
      unfold plook
      rw [if_neg fun e => hnot (.inl e)]
      exact ih fun hm => hnot (.inr hm)
  have hmemx : p0.1 ∈ (ks ++ [p0]).map Prod.fst ++ L.map Prod.fst := by simp
  -- what was there stays
  have hperm : ∀ new : List PP, ((ks ++ new).map Prod.fst ++ (L ++ [p0]).map Prod.fst).Perm (new.map Prod.fst ++ ((ks ++ [p0]).map Prod.fst ++ L.map Prod.fst)) := fun new => by
    rw [List.perm_iff_count]
    intro a
    simp only [List.map_append, List.count_append, List.map_cons, List.map_nil]
    omega
  have hlow : ∀ g, g ∈ L.map Prod.fst → g ∈ (L ++ [p0]).map Prod.fst := fun g hg => by rw [List.map_append]; exact List.mem_append_left _ hg
  have hvis0 : ∀ g ∈ V, (rtOf la g ∧ (⟨N, 0, none⟩ : Addr) ∈ (L ++ [p0]).map Prod.fst) ∨ ∃ P j, (P, j, g) ∈ E ∧ (⟨P, j * 6, none⟩ : Addr) ∈ (L ++ [p0]).map Prod.fst := fun g hg => by
    rcases h.vis g hg with ⟨h1, h2⟩ | ⟨P, j, h1, h2⟩
    · exact .inl ⟨h1, hlow _ h2⟩
    · exact .inr ⟨P, j, h1, hlow _ h2⟩
  have hat0 : ∀ p ∈ L ++ [p0], AtCells W0 p.1 := fun p hp => by
    rcases List.mem_append.1 hp with hp | hp
    · exact h.at_ p hp
    · rw [List.mem_singleton.1 hp]; exact hA
  refine ⟨kv, lv, kv2, lv', x0, y0, hA, hB, hr, hr', hk, hk', hls, hls', hpl, hY, fun hlen => ?_⟩
  rcases hk with ⟨rfl, hk0⟩ | ⟨q, rfl, hq0, hqa⟩
  · have hn0 : kids = [] := List.eq_nil_of_length_eq_zero hk0
    subst hn0
    have hn1 : kids' = [] := List.eq_nil_of_length_eq_zero (by rw [← hlen]; rfl)
    subst hn1
    refine ⟨V, ?_⟩
    have hp := hperm []
    simp only [List.map_nil, List.nil_append] at hp
    refine ⟨by simp [news, hl], fun i p t hi ht => ?_, ?_, fun x hx => h.xs x ?_, h.VD, hat0, hvis0⟩
    · simp only [news, List.length_nil, List.range_zero, List.map_nil, List.append_nil] at hi ht
      simp only [List.zip_nil_left, List.append_nil] at ht
      exact h.ok i p t (by rw [List.getElem?_append_left (List.getElem?_eq_some_iff.1 hi).1]; exact hi) (by rw [List.getElem?_append_left (List.getElem?_eq_some_iff.1 ht).1]; exact ht)
    · simp only [news, List.length_nil, List.range_zero, List.map_nil]
      exact hp.nodup_iff.2 h.nd
    · simp only [news, List.length_nil, List.range_zero, List.map_nil] at hx
      exact hp.mem_iff.1 hx
  · -- the list below is a new one
    have hqE : (p0.1 = ⟨N, 0, none⟩ ∧ rtOf la q) ∨ ∃ g i, p0.1 = ⟨g, i * 6, none⟩ ∧ g ∈ V ∧ (g, i, q) ∈ E := by
      have hc := hr 3 _ rfl
      rcases h.xs p0.1 hmemx with e | ⟨g, i, e, hg⟩
      · rw [e] at hc
        exact .inl ⟨e, hf.root q _ _ hc⟩
      · rw [e] at hc
        exact .inr ⟨g, i, e, hg, hf.ed g i q _ _ (h.VD g hg) hc⟩
    have hqD : q ∈ D := by
      rcases hqE with ⟨_, h1⟩ | ⟨g, i, _, _, h1⟩
      · exact hf.rt q h1
      · exact (hf.E_ _ h1).2
    have hqV : q ∉ V := fun hm => by
      rcases h.vis q hm with ⟨h1, h2⟩ | ⟨P, j, h1, h2⟩
      · rcases hqE with ⟨e, _⟩ | ⟨g, i, _, _, h3⟩
        · exact hnot (e ▸ h2)
        · exact (hf.E_ _ h3).1 h1
      · rcases hqE with ⟨_, h3⟩ | ⟨g, i, e, _, h3⟩
        · exact (hf.E_ _ h1).1 h3
        · obtain ⟨rfl, rfl⟩ := child_one hf.nd h1 h3
          exact hnot (e ▸ h2)
    have hqN := hf.D_ q hqD
    obtain ⟨n, hn⟩ : ∃ n, n = kids.length := ⟨_, rfl⟩
    rw [← hn] at hr hq0 hlen
    have hkid : ∀ i, kidAt (.slice (some ⟨q, 0, none⟩) n n) i = ⟨q, i * 6, none⟩ := fun i => by simp [kidAt]
    rw [← hn]
    refine ⟨q :: V, ?_⟩
    refine ⟨by rw [List.length_append, news_len, List.length_append, hl, List.length_zip, ← hn, ← hlen, Nat.min_self], fun i p t hi ht => ?_, ?_, fun x hx => ?_, fun g hg => ?_, hat0, fun g hg => ?_⟩
    · by_cases hlt : i < ks.length
      · rw [List.getElem?_append_left hlt] at hi
        rw [List.getElem?_append_left (by omega)] at ht
        exact h.ok i p t (by rw [List.getElem?_append_left hlt]; exact hi) (by rw [List.getElem?_append_left (by omega)]; exact ht)
      · have hi2 := (List.getElem?_eq_some_iff.1 hi).1
        rw [List.length_append, news_len] at hi2
        rw [List.getElem?_append_right (by omega), news_get (by omega)] at hi
        rw [List.getElem?_append_right (by omega), ← hl] at ht
        injection hi with hi
        subst hi
        obtain ⟨ht1, ht2⟩ := List.getElem?_zip_eq_some.1 ht
        obtain ⟨l5, h5, h6, h7, h8⟩ := TWk.open (hks2 _ t.2 ht2)
        exact ⟨hks _ t.1 ht1, hks' _ t.2 ht2, ⟨l5, h6.keep (hw.block _ h5.2.2), h8⟩, (AtB.of h5 h6 h7).keep hw, .inr h5.2.2⟩
    · rw [(hperm _).nodup_iff, List.nodup_append]
      refine ⟨?_, h.nd, fun a ha b hb e => ?_⟩
      · unfold news
        rw [List.map_map]
        show List.Pairwise _ _
        rw [List.pairwise_map]
        exact List.nodup_range.imp fun {a b} hab e => by
          simp only [Function.comp, hkid] at e
          injection e with _ e
          omega
      · subst e
        obtain ⟨p, hp, rfl⟩ := List.mem_map.1 ha
        obtain ⟨i, _, rfl⟩ := List.mem_map.1 hp
        simp only [hkid] at hb
        rcases h.xs _ hb with e | ⟨g, j, e, hg⟩
        · injection e with e; omega
        · injection e with e; exact hqV (e ▸ hg)
    · rw [(hperm _).mem_iff, List.mem_append] at hx
      rcases hx with hx | hx
      · obtain ⟨p, hp, rfl⟩ := List.mem_map.1 hx
        obtain ⟨i, _, rfl⟩ := List.mem_map.1 hp
        exact .inr ⟨q, i, hkid i, List.mem_cons_self ..⟩
      · rcases h.xs x hx with e | ⟨g, j, e, hg⟩
        · exact .inl e
        · exact .inr ⟨g, j, e, List.mem_cons_of_mem _ hg⟩
    · rcases List.mem_cons.1 hg with rfl | hg
      · exact hqD
      · exact h.VD g hg
    · rcases List.mem_cons.1 hg with rfl | hg
      · rcases hqE with ⟨e, h1⟩ | ⟨g, i, e, _, h1⟩
        · exact .inl ⟨h1, by rw [← e]; simp⟩
        · exact .inr ⟨g, i, h1, by rw [← e]; simp⟩
      · exact hvis0 g hg
set_option maxRecDepth 100000 in
set_option maxHeartbeats 16000000 in
theorem same_dec (w1 w : World) (hbel : Below w1.heap.size w1 w) (t u : Ty) (la lb : List Value) (N0 : Nat) (hN : w1.heap.size ≤ N0) (ha : TFV w t la) (htr : Tree1 N0 la w) (hr : TRV w1 u lb) (hwv : TWV w1 u lb) (hsz : t.size ≤ 1000) :
    Calls Tryz.prog 36 #[.agg la.toArray, .agg lb.toArray] w fun e w' => ∃ b, e = .returned (.bool b) ∧ (b = true ↔ t = u) ∧ Below w.heap.size w w' := by
  obtain ⟨D, E, hE1, hE2, hE3, hE4, hE5⟩ := htr
  obtain ⟨W1, hW1⟩ : ∃ W1, W1 = (w.alloc (.cells la.toArray 44)).alloc (.cells lb.toArray 44) := ⟨_, rfl⟩
  have hb1 : Below w.heap.size w W1 := by rw [hW1]; exact ((Below.refl _ w).alloc (Nat.le_refl _) _).alloc (by simp) _
  have hs1 : W1.heap.size = w.heap.size + 2 := by rw [hW1]; simp
  have la1 : Lies W1 w.heap.size 44 la.toArray := by rw [hW1]; exact (Lies.new w _ _).alloc _
  have lb1 : Lies W1 (w.heap.size + 1) 44 lb.toArray := by rw [hW1]; exact Lies.new' _ _ _ (by simp)
  have hw1W : Below w1.heap.size w1 W1 := hbel.trans (hb1.mono hbel.size)
  have hla6 : la.length = 6 := ha.trv.len
  have hlb6 : lb.length = 6 := hr.len
  have hM : w1.heap.size ≤ w.heap.size := hbel.size
  have hSF : SF W1 w.heap.size w1.heap.size la D E := by
    refine ⟨hE1, fun g hg => ⟨Nat.le_trans hN (hE2 g hg).1, (hE2 g hg).2⟩, hE3, hE4, fun g j q n c hg hc => ?_, fun q n c hc => ⟨n, c, ?_⟩, hM⟩
    · rw [World.cell?_of_block (w := w) (a := ⟨g, j * 6 + 3, none⟩) (hb1.block _ (hE2 g hg).2)] at hc
      exact hE5 g j q n c hg hc
    · rw [la1.cell] at hc
      simpa using hc
  have hB0 : AtB W1 ⟨w.heap.size + 1, 0, none⟩ := ⟨lb1.lt, _, _, _, lb1, by simp [hlb6], lb1.free 0⟩
  have hSI : SI w1 W1 w.heap.size la E D [(⟨w.heap.size, 0, none⟩, ⟨w.heap.size + 1, 0, none⟩)] [(t, u)] [] [] := by
    refine ⟨rfl, fun i p z hi hu => ?_, by simp, fun x hx => ?_, fun g hg => (by cases hg), fun p hp => (by cases hp), fun g hg => (by cases hg)⟩
    · match i, hi, hu with
      | 0, hi, hu =>
        simp only [List.getElem?_cons_zero, Option.some.injEq] at hi hu
        subst hi hu
        exact ⟨(TFV.root (ha.later hb1) rfl ⟨_, _, la1⟩ (reads_lies la1)), ((hr.later hbel).later hb1).at_ rfl (reads_lies lb1), ⟨lb, reads_lies lb1, .of hwv⟩, hB0, .inl rfl⟩
      | i + 1, hi, hu => simp at hi
    · simp only [List.map_cons, List.map_nil, List.append_nil, List.mem_singleton] at hx
      exact .inl hx
  obtain ⟨i0, hi, hy0, hy1, hy2⟩ := info_parts info_pair
  have hmm := @run_makeMap Tryz.prog
  obtain ⟨a0, a1, a2, a3, a4, a5, rfl⟩ : ∃ a b c d e f, la = [a, b, c, d, e, f] := by
    match la, hla6 with
    | [a, b, c, d, e, f], _ => exact ⟨a, b, c, d, e, f, rfl⟩
  obtain ⟨b0, bb1, b2, b3, b4, b5, rfl⟩ : ∃ a b c d e f, lb = [a, b, c, d, e, f] := by
    match lb, hlb6 with
    | [a, b, c, d, e, f], _ => exact ⟨a, b, c, d, e, f, rfl⟩
  have HW := Lib.hid hW1
  have HS1 := Lib.hid hs1
  have HB1 := Lib.hid hb1
  have HSF := Lib.hid hSF
  have HSI := Lib.hid hSI
  have HW1W := Lib.hid hw1W
  clear hW1 hs1 hb1 la1 lb1 hSF hSI hE1 hE2 hE3 hE4 hE5 ha hr hwv hB0 hw1W hbel
  go_enter Tryz.func36, Tryz.ntmps36
  go_wp2_with fail
  rw [← HW.out]
  obtain ⟨m2, hm2⟩ : ∃ m2, m2 = W1.alloc (.map #[] 0) := ⟨_, rfl⟩
  rw [← hm2]
  obtain ⟨m3, hm3⟩ : ∃ m3, m3 = m2.alloc (.cells #[.pointer (some ⟨w.heap.size, 0, none⟩), .pointer (some ⟨w.heap.size + 1, 0, none⟩)] 96) := ⟨_, rfl⟩
  rw [← hm3]
  have z1 := HS1.out
  have z2 : m2.heap.size = w.heap.size + 3 := by rw [hm2, World.size_alloc, z1]
  have z3 : m3.heap.size = w.heap.size + 4 := by rw [hm3, World.size_alloc, z2]
  have b2 : Below W1.heap.size W1 m2 := by rw [hm2]; exact below_new _ _
  have b3 : Below m2.heap.size m2 m3 := by rw [hm3]; exact below_new _ _
  have b13 : Below W1.heap.size W1 m3 := b2.trans (b3.mono (by omega))
  have pm3 : PMap m3 (w.heap.size + 2) [] := by
    have h := PMap.made W1
    rw [← hm2, z1] at h
    exact h.keep (b3.block _ (by omega))
  have l3 : Lies m3 (w.heap.size + 3) 96 #[.pointer (some ⟨w.heap.size, 0, none⟩), .pointer (some ⟨w.heap.size + 1, 0, none⟩)] := by rw [hm3]; exact Lies.new' _ _ _ z2
  have ow3 : m3.ownsRow (w.heap.size + 3) 96 2 (.slice (some ⟨w.heap.size + 3, 0, none⟩) 1 1) 1 [.pointer (some ⟨w.heap.size, 0, none⟩), .pointer (some ⟨w.heap.size + 1, 0, none⟩)] := ⟨rfl, .inr ⟨_, 1, _, rfl, Nat.le_refl _, l3, Nat.le_refl _, by unfold maxLen; omega, rfl, rfl⟩⟩
  have B13 := Lib.hid b13
  have PM3 := Lib.hid pm3
  have OW3 := Lib.hid ow3
  have Z3 := Lib.hid z3
  clear hm2 hm3 z1 z2 b2 b3 b13 pm3 l3 ow3 z3
  generalize hNN : w.heap.size = N at *
  go_loopg [6] (1001) (fun gh td wr => ∃ (ks : List PP) (gs : List (Ty × Ty)) (L : List PP) (V : List Nat) (g c n0 : Nat), ks.length = n0 ∧ td = .slice (some ⟨g, 0, none⟩) n0 c ∧ wr.ownsRow (N + 3) 96 2 td n0 (prs2 ks) ∧ PMap wr (N + 2) L ∧ SI w1 W1 N [a0, a1, a2, a3, a4, a5] E D ks gs L V ∧ Below W1.heap.size W1 wr ∧ N + 4 ≤ wr.heap.size ∧ Ty.sizeL (gs.map Prod.fst) + 1 ≤ gh ∧ gh ≤ 1001 ∧ (t = u ↔ ∀ g ∈ gs, g.1 = g.2))
  case atStart => exact ⟨[(⟨N, 0, none⟩, ⟨N + 1, 0, none⟩)], [(t, u)], [], [], N + 3, 1, 1, rfl, by first | rfl | simp, OW3.out, PM3.out, HSI.out, B13.out, by have := Z3.out; omega, by simp only [List.map_cons, List.map_nil, Ty.sizeL]; omega, Nat.le_refl _, by simp⟩
  case round =>
    obtain ⟨ks, gs, L, V, g, c, n0, hn0, rfl, hown, hpm, hsi, hbw, hsz4, hgh, hgm, heq⟩ := hrel
    have hS1 := HS1.out
    obtain ⟨wo, rfl⟩ : ∃ wo, wo = wr := ⟨_, rfl⟩
    rcases List.eq_nil_or_concat ks with rfl | ⟨ks', p0, rfl⟩
    · obtain rfl : n0 = 0 := by simpa using hn0.symm
      have hgs0 : gs = [] := List.eq_nil_of_length_eq_zero (by rw [← hsi.len]; rfl)
      have htu : t = u := heq.2 (by rw [hgs0]; intro g hg; cases hg)
      have HTU := Lib.hid htu
      clear heq hgs0 htu
      go_wp2
      go_ret
      exact ⟨true, rfl, ⟨fun _ => HTU.out, fun _ => rfl⟩, by rw [hNN]; exact HB1.out.trans (hbw.mono (by have := HB1.out.size; omega))⟩
    · rw [List.concat_eq_append] at hown hsi hn0
      obtain ⟨m, rfl⟩ : ∃ m, n0 = m + 1 := ⟨ks'.length, by simpa using hn0.symm⟩
      have hm : m = ks'.length := by simpa using hn0.symm
      clear hn0
      obtain ⟨gs', t0, rfl⟩ : ∃ a b, gs = a ++ [b] := by
        rcases List.eq_nil_or_concat gs with rfl | ⟨a, b, rfl⟩
        · have := hsi.len; simp at this
        · exact ⟨a, b, List.concat_eq_append ..⟩
      obtain ⟨⟨k, nm, v, kids, ls, rv⟩, ⟨k', nm', v', kids', ls', rv'⟩⟩ := t0
      have hnd := hsi.nd
      have hofx : ∀ y, YOK N w1.heap.size y → p0.1.block ≠ y.block ∧ p0.1.block ≤ N := fun y hy => hsi.off HSF.out (x := p0.1) (by simp) hy
      have hofL : ∀ p ∈ L, ∀ y, YOK N w1.heap.size y → p.1.block ≠ y.block ∧ p.1.block ≤ N := fun p hp y hy => hsi.off HSF.out (List.mem_append_right _ (List.mem_map.2 ⟨p, hp, rfl⟩)) hy
      have hatL := hsi.at_
      obtain ⟨kv, lv, kv', lv', x0, y0, hA, hB, hrx, hry, hk, hk', hl1, hl2, hpl, hY, hnew⟩ := SI.pop HW1W.out HSF.out hsi
      have hlen : (ks' ++ [p0]).length = m + 1 := by simp [hm]
      have hm9 : m ≤ 1001 := by
        have h1 := hsi.len
        have h2 := sizeL_lenS ((gs' ++ [(Ty.mk k nm v kids ls rv, Ty.mk k' nm' v' kids' ls' rv')]).map Prod.fst)
        rw [List.length_map] at h2
        rw [hlen] at h1
        omega
      have hkl : kids.length ≤ 1001 := by
        have h2 := sizeL_lenS kids
        rw [List.map_append, sizeL_appS] at hgh
        simp only [List.map_cons, List.map_nil, Ty.sizeL, Ty.size] at hgh
        omega
      have hp := prs2_get (ks' ++ [p0]) m p0 (by simp [hm])
      have hHere := own_here hown
      have hpt : (prs2 (ks' ++ [p0])).take (m * 2) = prs2 ks' := by rw [prs2_app, hm, ← prs2_len]; exact List.take_left
      obtain ⟨⟨xb, xo, xs⟩, ⟨yb, yo, ys⟩⟩ := p0
      obtain rfl : xs = none := x0
      obtain rfl : ys = none := y0
      have p0c : wo.cell? ⟨g, m * 2, none⟩ = some (.pointer (some ⟨xb, xo, none⟩)) := hHere.2.2.2 _ _ hp.1
      have p1c : wo.cell? ⟨g, m * 2 + 1, none⟩ = some (.pointer (some ⟨yb, yo, none⟩)) := hHere.2.2.2 _ _ hp.2
      have hmc : m < c := by omega
      have hgw : g < wo.heap.size := hHere.2.2.1
      have hbn := below_new wo (.cells #[.pointer (some ⟨xb, xo, none⟩), .pointer (some ⟨yb, yo, none⟩)] 96)
      have hB0 : Below W1.heap.size W1 (wo.alloc (.cells #[.pointer (some ⟨xb, xo, none⟩), .pointer (some ⟨yb, yo, none⟩)] 96)) := hbw.trans (hbn.mono hbw.size)
      have hj := join_b _ (N + 2) L ⟨xb, xo, none⟩ ⟨yb, yo, none⟩ (hofx _ hY).1 (hpm.keep (hbn.block _ hpm.lt)) (hA.keep (hB0.block _ hA.lt)) (hB.keep hB0) (fun p hp => (hatL p hp).keep (hB0.block _ (hatL p hp).lt)) hpl (fun p hp => (hofL p hp _ hY).1)
      have how := own_pop (own_later hown hbn)
      rw [hpt] at how
      have hxb : xb < W1.heap.size := hA.lt
      have hyb : yb < W1.heap.size := hB.1
      obtain ⟨A, q, rfl, hq, hqa⟩ := hk.slr.form
      obtain ⟨A', q', rfl, hq', hqa'⟩ := hk'.form
      have lp := Lies.new wo 96 #[.pointer (some ⟨xb, xo, none⟩), .pointer (some ⟨yb, yo, none⟩)]
      have x3 := hrx 3 _ rfl
      have y3 := hry 3 _ rfl
      have HJ := Lib.hid hj
      have HOW := Lib.hid how
      have HLP := Lib.hid lp
      have HB0 := Lib.hid hB0
      have HR := Lib.hid (And.intro hrx (And.intro hry (And.intro hl1 hl2)))
      have HNEW := Lib.hid hnew
      have HM := Lib.hid hm
      have HX := Lib.hid (And.intro x3 y3)
      have HQA := Lib.hid (And.intro hqa hqa')
      have HPS := Lib.hid hbn.size
      have HGH := Lib.hid hgh
      have HEQ := Lib.hid heq
      clear heq hm hj how lp hB0 hbn hpm hA hB hrx hry hl1 hl2 hnew hHere hp hofx hofL hatL hnd hsi hown hbw x3 y3 hpl hY hpt hqa hqa' hk hk' hlen hgh
      go_wp2_with fail
      refine HJ.out.mono ?_
      rintro e Wj ⟨rfl, hpm1, hbt⟩
      have hBj : Below W1.heap.size W1 Wj := HB0.out.trans (hbt.below (by omega) HB0.out.size)
      have lpj : Lies Wj wo.heap.size 96 #[.pointer (some ⟨xb, xo, none⟩), .pointer (some ⟨yb, yo, none⟩)] := (hbt.block _ HLP.out.lt (by omega)).trans HLP.out
      have hoj := own_same HOW.out (w' := Wj) (fun g hg hlt => hbt.block g hlt (by omega))
      have hszj : wo.heap.size + 1 ≤ Wj.heap.size := by have := hbt.size; simp at this; omega
      have hsa := alone_dec Wj xb xo yb yo k nm v k' nm' v' A A' kids.length kids'.length q q' lv lv' ls ls' rv rv' (HR.out.1.keep (hBj.block _ hxb)) (HR.out.2.1.keep (hBj.block _ hyb)) (HR.out.2.2.1.keep hBj.block) (HR.out.2.2.2.keep hBj.block)
      have q0 := lpj.cell 0
      have q1 := lpj.cell 1
      have HSA := Lib.hid hsa
      have HOJ := Lib.hid hoj
      have HPM1 := Lib.hid hpm1
      clear hsa hoj hpm1 HJ HOW HLP
      go_wp2_with fail
      refine HSA.out.mono ?_
      rintro e W2 ⟨rfl, hb2⟩
      by_cases hhd : k = k' ∧ nm = nm' ∧ v = v' ∧ kids.length = kids'.length ∧ ls = ls' ∧ rv = rv'
      case neg =>
        have htu : ¬ t = u := fun e => hhd (by
          have h1 := HEQ.out.1 e (Ty.mk k nm v kids ls rv, Ty.mk k' nm' v' kids' ls' rv') (by simp)
          injection h1 with e1 e2 e3 e4 e5 e6
          exact ⟨e1, e2, e3, by rw [e4], e5, e6⟩)
        have HTU := Lib.hid htu
        rw [decide_eq_false hhd]
        have HBW2 := Lib.hid (hBj.trans (hb2.mono hBj.size))
        clear htu hhd hb2
        go_wp2
        go_ret
        exact ⟨false, rfl, ⟨fun h => (by cases h), fun h => absurd h HTU.out⟩, by rw [hNN]; exact HB1.out.trans (HBW2.out.mono (by have := HB1.out.size; omega))⟩
      rw [decide_eq_true hhd]
      obtain ⟨e1, e2, e3, hkl2, e5, e6⟩ := hhd
      have HKL := Lib.hid hkl2
      have hEQ2 : t = u ↔ ∀ g ∈ gs' ++ kids.zip kids', g.1 = g.2 := by
        rw [HEQ.out]
        constructor
        · intro h g hg
          rcases List.mem_append.1 hg with hg | hg
          · exact h g (List.mem_append_left _ hg)
          · have h1 := h (Ty.mk k nm v kids ls rv, Ty.mk k' nm' v' kids' ls' rv') (by simp)
            injection h1 with _ _ _ e4 _ _
            subst e4
            obtain ⟨i, hi⟩ := List.getElem?_of_mem hg
            obtain ⟨h2, h3⟩ := List.getElem?_zip_eq_some.1 hi
            rw [h2] at h3
            injection h3
        · intro h g hg
          rcases List.mem_append.1 hg with hg | hg
          · exact h g (List.mem_append_left _ hg)
          · rw [List.mem_singleton.1 hg]
            have e4 : kids = kids' := List.ext_getElem? fun i => by
              by_cases hi : i < kids.length
              · have a1 := List.getElem?_eq_getElem hi
                have a2 := List.getElem?_eq_getElem (l := kids') (i := i) (by omega)
                rw [a1, a2]
                have a3 := h (kids[i], kids'[i]) (List.mem_append_right _ (List.mem_of_getElem? (List.getElem?_zip_eq_some.2 ⟨a1, a2⟩)))
                exact congrArg some a3
              · rw [List.getElem?_eq_none (by omega), List.getElem?_eq_none (by omega)]
            simp only [Ty.mk.injEq]
            exact ⟨e1, e2, e3, e4, e5, e6⟩
      have HEQ2 := Lib.hid hEQ2
      obtain ⟨V', hnew⟩ := HNEW.out hkl2
      have HNEW := Lib.hid hnew
      clear hEQ2 hnew hkl2 e1 e2 e3 e5 e6
      have hB2 : Below W1.heap.size W1 W2 := hBj.trans (hb2.mono hBj.size)
      have lp2 := lpj.later hb2
      have r0 := lp2.cell 0
      have r1 := lp2.cell 1
      have ho2 := own_later HOJ.out hb2
      have hpm2 := HPM1.out.keep (hb2.block _ HPM1.out.lt)
      have hX := HX.out
      have x3 : W2.cell? ⟨xb, xo + 3, none⟩ = some (.slice A kids.length q) := (World.cell?_of_block (w := W1) (a := ⟨xb, xo + 3, none⟩) (hB2.block _ hxb)).trans hX.1
      have hsz2 : wo.heap.size + 1 ≤ W2.heap.size := by have := hb2.size; omega
      have hgP : g ≠ wo.heap.size := by omega
      have HLP2 := Lib.hid lp2
      have HO2 := Lib.hid ho2
      have HPM2 := Lib.hid hpm2
      clear ho2 hpm2 HSA HOJ HPM1 lpj q0 q1 lp2 hX
      go_wp2
      go_loopw [6, 42] (fun td i Wr => ∃ j g c, j ≤ kids.length ∧ td = .slice (some ⟨g, 0, none⟩) (m + j) c ∧ i = .int .i64 j ∧ Wr.ownsRow (N + 3) 96 2 td (m + j) (prs2 (ks' ++ (news (.slice A kids.length q) (.slice A' kids'.length q') kids.length).take j)) ∧ PMap Wr (N + 2) (L ++ [(⟨xb, xo, none⟩, ⟨yb, yo, none⟩)]) ∧ Below W1.heap.size W1 Wr ∧ wo.heap.size + 1 ≤ Wr.heap.size ∧ g ≠ wo.heap.size ∧ Lies Wr wo.heap.size 96 #[.pointer (some ⟨xb, xo, none⟩), .pointer (some ⟨yb, yo, none⟩)]) (fun _ i _ => kids.length - (intOf i).toNat)
      case atStart => exact ⟨0, g, c, Nat.zero_le _, by first | rfl | simp, rfl, by simpa using HO2.out, HPM2.out, hB2, hsz2, hgP, HLP2.out⟩
      case round =>
        obtain ⟨j, g, c, hj, rfl, rfl, hown, hpm, hbw, hsz5, hgn, hlp⟩ := hrel
        have s0 := hlp.cell 0
        have s1 := hlp.cell 1
        have hX := HX.out
        have y3 : wr.cell? ⟨xb, xo + 3, none⟩ = some (.slice A kids.length q) := (World.cell?_of_block (w := W1) (a := ⟨xb, xo + 3, none⟩) (hbw.block _ hxb)).trans hX.1
        have y4 : wr.cell? ⟨yb, yo + 3, none⟩ = some (.slice A' kids'.length q') := (World.cell?_of_block (w := W1) (a := ⟨yb, yo + 3, none⟩) (hbw.block _ hyb)).trans hX.2
        clear hX
        by_cases hlt : j < kids.length
        · obtain ⟨g5, o5, rfl⟩ := HQA.out.1 (by omega)
          obtain ⟨g6, o6, rfl⟩ := HQA.out.2 (by have := HKL.out; omega)
          have hjq : j < q := by omega
          have hkl' : kids'.length = kids.length := HKL.out.symm
          have hjl' : j < kids'.length := by omega
          have hjli' : (j : Int) < (kids'.length : Int) := by omega
          have hjq' : j < q' := by omega
          clear hkl'
          have hji : (j : Int) < (kids.length : Int) := by omega
          have hx5 : (news (.slice (some ⟨g5, o5, none⟩) kids.length q) (.slice (some ⟨g6, o6, none⟩) kids'.length q') kids.length)[j]? = some (⟨g5, o5 + j * 6, none⟩, ⟨g6, o6 + j * 6, none⟩) := news_get hlt
          have HOW := Lib.hid hown
          have HPM := Lib.hid hpm
          have HLPr := Lib.hid hlp
          clear hown hpm hlp
          have hS : wr.cell? ⟨wo.heap.size, 0, none⟩ = some (.pointer (some ⟨xb, xo, none⟩)) ∧ wr.cell? ⟨wo.heap.size, 1, none⟩ = some (.pointer (some ⟨yb, yo, none⟩)) ∧ wr.cell? ⟨xb, xo + 3, none⟩ = some (.slice (some ⟨g5, o5, none⟩) kids.length q) ∧ wr.cell? ⟨yb, yo + 3, none⟩ = some (.slice (some ⟨g6, o6, none⟩) kids'.length q') := ⟨s0, s1, y3, y4⟩
          have hbn := below_new wr (.cells #[.pointer (some ⟨g5, o5 + j * 6, none⟩), .pointer (some ⟨g6, o6 + j * 6, none⟩)] 96)
          have hbs : W1.heap.size ≤ wr.heap.size := hbw.size
          have hS2 := keep4 (w' := (wr.alloc (.cells #[.pointer (some ⟨g5, o5 + j * 6, none⟩), .pointer (some ⟨g6, o6 + j * 6, none⟩)] 96)).drew) hS (fun p hp => hbn.cell (p := p) (by rcases hp with rfl | rfl | rfl | rfl <;> (show _ < _; simp; omega)))
          have hone : ∀ u ∈ [Value.pointer (some (⟨g5, o5 + j * 6, none⟩ : Addr)), Value.pointer (some (⟨g6, o6 + j * 6, none⟩ : Addr))], u.oneCell' = true := by simp [Value.oneCell']
          have hHere := own_here HOW.out
          have hg5N : N + 3 ≤ g ∧ g < wr.heap.size := ⟨hHere.2.1, hHere.2.2.1⟩
          have HS := Lib.hid hS
          have HS2 := Lib.hid hS2
          have HBN := Lib.hid hbn
          have HX5 := Lib.hid hx5
          have HBW := Lib.hid hbw
          clear hS hS2 hHere hbn hx5 hbw
          go_wp2
          go_region_held3 (fun w' => w'.cell? ⟨wo.heap.size, 0, none⟩ = some (.pointer (some ⟨xb, xo, none⟩)) ∧ w'.cell? ⟨wo.heap.size, 1, none⟩ = some (.pointer (some ⟨yb, yo, none⟩)) ∧ w'.cell? ⟨xb, xo + 3, none⟩ = some (.slice (some ⟨g5, o5, none⟩) kids.length q) ∧ w'.cell? ⟨yb, yo + 3, none⟩ = some (.slice (some ⟨g6, o6, none⟩) kids'.length q'))
            (first | exact HS.out | exact HS2.out | exact keep4 HS2.out (fun p hp => hgr9.cell_far p (by rcases hp with rfl | rfl | rfl | rfl <;> (show _ < (wr.alloc _).heap.size; simp; omega)) (fun e => by injection e with e; rcases hp with rfl | rfl | rfl | rfl <;> (simp at e; omega))))
            (first | (refine step_append_lies _ rfl (.tmp 45) (.tmp 61) 97 rfl (N + 3) 96 i0 (.agg #[.pointer none, .pointer none]) 2 16 Tryz.underlying97 hi hy0 hy1 hy2 rfl (by decide) _ (m + j) _ rfl (own_later HOW.out HBN.out.drew) ⟨wr.heap.size, 0, none⟩ 1 1 [.pointer (some ⟨g5, o5 + j * 6, none⟩), .pointer (some ⟨g6, o6 + j * 6, none⟩)] rfl rfl (World.news_of_block (Lies.new wr 96 #[.pointer (some ⟨g5, o5 + j * 6, none⟩), .pointer (some ⟨g6, o6 + j * 6, none⟩)])) hone (by decide) (by unfold maxLen; omega) (by omega) (by show N + 3 ≤ (wr.alloc _).heap.size; rw [World.size_alloc]; omega) _ rfl ?_; intro g9 c9 W9 hown9 hgr8 hat8 hlt9; have hgr9 : World.grownBy (wr.alloc (.cells #[.pointer (some ⟨g5, o5 + j * 6, none⟩), .pointer (some ⟨g6, o6 + j * 6, none⟩)] 96)) W9 (some g) := ⟨hgr8.os, hgr8.tape, hgr8.output, hgr8.size, hgr8.block⟩; have hat9 : some g = some g9 ∨ g9 = (wr.alloc (.cells #[.pointer (some ⟨g5, o5 + j * 6, none⟩), .pointer (some ⟨g6, o6 + j * 6, none⟩)] 96)).heap.size := hat8; clear hgr8 hat8))
          have hx5 := HX5.out
          have htk : (news (.slice (some ⟨g5, o5, none⟩) kids.length q) (.slice (some ⟨g6, o6, none⟩) kids'.length q') kids.length).take (j + 1) = (news (.slice (some ⟨g5, o5, none⟩) kids.length q) (.slice (some ⟨g6, o6, none⟩) kids'.length q') kids.length).take j ++ [(⟨g5, o5 + j * 6, none⟩, ⟨g6, o6 + j * 6, none⟩)] := take_step _ _ _ hx5
          have hblk : ∀ b, b < wr.heap.size → b ≠ g → W9.heap[b]? = wr.heap[b]? := fun b hb hbg =>
            (hgr9.block b (by show b < (wr.alloc _).heap.size; rw [World.size_alloc]; omega) (fun e => hbg (by injection e))).trans (Below.heap_alloc wr _ b hb)
          have hown10 : W9.ownsRow (N + 3) 96 2 (.slice (some ⟨g9, 0, none⟩) (m + (j + 1)) c9) (m + (j + 1)) (prs2 (ks' ++ (news (.slice (some ⟨g5, o5, none⟩) kids.length q) (.slice (some ⟨g6, o6, none⟩) kids'.length q') kids.length).take (j + 1))) := by
            rw [htk, ← List.append_assoc, prs2_app]; exact hown9
          have hsz9 : wo.heap.size + 1 ≤ W9.heap.size := by
            have h1 : (wr.alloc (.cells #[.pointer (some ⟨g5, o5 + j * 6, none⟩), .pointer (some ⟨g6, o6 + j * 6, none⟩)] 96)).heap.size ≤ W9.heap.size := hgr9.size
            rw [World.size_alloc] at h1
            omega
          have hg9 : g9 ≠ wo.heap.size := by
            rcases hat9 with h1 | h1
            · injection h1 with h1; rw [← h1]; exact hgn
            · rw [World.size_alloc] at h1; omega
          have hB9 : Below W1.heap.size W1 W9 := HBW.out.trans ⟨hgr9.os, hgr9.tape, hgr9.output, by have h1 : (wr.alloc (.cells #[.pointer (some ⟨g5, o5 + j * 6, none⟩), .pointer (some ⟨g6, o6 + j * 6, none⟩)] 96)).heap.size ≤ W9.heap.size := hgr9.size; rw [World.size_alloc] at h1; omega, fun b hb => hblk b (by have := HBW.out.size; omega) (by omega)⟩
          have hpm9 := HPM.out.keep (hblk _ HPM.out.lt (by omega))
          have hlp9 : Lies W9 wo.heap.size 96 #[.pointer (some ⟨xb, xo, none⟩), .pointer (some ⟨yb, yo, none⟩)] := (hblk _ HLPr.out.lt (fun e => hgn e.symm)).trans HLPr.out
          have HOA := Lib.hid hown10
          have HPA := Lib.hid hpm9
          have HLA9 := Lib.hid hlp9
          clear hown9 hown10 hpm9 hlp9 hgr9 hat9 hlt9 hblk htk hx5
          go_wp2_with fail
          go_roundw
          case rel => exact ⟨j + 1, g9, c9, by omega, rfl, by simp, HOA.out, HPA.out, hB9, hsz9, hg9, HLA9.out⟩
          case measure => (simp [intOf] <;> omega)
        · obtain rfl : j = kids.length := by omega
          have hgh := HGH.out
          have hm := HM.out
          rw [List.map_append, sizeL_appS] at hgh
          simp only [List.map_cons, List.map_nil, Ty.sizeL, Ty.size] at hgh
          have hzip : (kids.zip kids').map Prod.fst = kids := List.map_fst_zip (by have := HKL.out; omega)
          have htl : (news (.slice A kids.length q) (.slice A' kids'.length q') kids.length).take kids.length = news (.slice A kids.length q) (.slice A' kids'.length q') kids.length := List.take_of_length_le (by rw [news_len]; exact Nat.le_refl _)
          rw [htl] at hown
          have hlw : (ks' ++ news (.slice A kids.length q) (.slice A' kids'.length q') kids.length).length = m + kids.length := by rw [List.length_append, news_len, hm]
          have HO := Lib.hid hown
          have HPMf := Lib.hid hpm
          have HBWf := Lib.hid hbw
          clear hown hpm hbw htl
          go_wp2
          go_roundg (Ty.sizeL (gs'.map Prod.fst) + Ty.sizeL kids + 1)
          case measure => omega
          case rel => exact ⟨ks' ++ news (.slice A kids.length q) (.slice A' kids'.length q') kids.length, gs' ++ kids.zip kids', _, V', g, c, m + kids.length, hlw, rfl, HO.out, HPMf.out, HNEW.out, HBWf.out, by omega, by rw [List.map_append, sizeL_appS, hzip]; exact Nat.le_refl _, by omega, HEQ2.out⟩
end Go.Proofs.YtpbhndmfmnfeoaaGreat.Sd
