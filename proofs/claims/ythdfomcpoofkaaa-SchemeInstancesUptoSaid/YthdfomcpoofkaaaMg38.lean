/- Package scheme: the matcher's state, where rows may be bound. -/
import Derived.Test.YthdfomcpoofkaaaMg14
import Derived.Test.YthdfomcpoofkaaaSiBu
import Derived.Test.YthdfomcpoofkaaaMg37
import Derived.Outline
namespace Go.Proofs.Ythdfomcpoofkaaa.Si
open Go.RowKit

/-- What stands between two parts. -/
structure MT (w0 : World) (p bm bk br B : Nat) (s1 s2 : Value) (l : List Value) (K R : List Int) (m : Nat) (T : Int → Option Ty) (Q : Int → Option (List Str × Int)) (L : List Nat) (ks : List Pr) (W : World) : Prop where
  ex : ∃ v1 v2 td, MtS W p bm B s1 s2 l bk br v1 v2 td ks.length (ks.flatMap prC) L ∧ SubV (blank (fun b => b = p ∨ b = bm ∨ td.ownBlock = some b) W) (.agg #[v1, v2]) m T Q
  kin : ∃ q, MapI W 0 bk q (inG K)
  row : ∃ q, MapI W 0 br q (inG R)
  bel : Below w0.heap.size w0 W
  room : B ≤ W.heap.size
  met : ∀ x ∈ L, x < w0.heap.size
theorem MT.later {w0 : World} {p bm bk br B : Nat} {s1 s2 : Value} {l : List Value} {K R : List Int} {m : Nat} {T : Int → Option Ty} {Q : Int → Option (List Str × Int)} {L : List Nat} {ks : List Pr} {W W' : World} (h : MT w0 p bm bk br B s1 s2 l K R m T Q L ks W) (hb : Below W.heap.size W W') : MT w0 p bm bk br B s1 s2 l K R m T Q L ks W' := by
  obtain ⟨⟨v1, v2, td, ⟨h1, h2, h3⟩, h4⟩, ⟨q, h5⟩, ⟨qr, h6⟩, h7, h8, h9⟩ := h
  have hlt : ∀ g, live (blank (fun b => b = p ∨ b = bm ∨ td.ownBlock = some b) W) g → (blank (fun b => b = p ∨ b = bm ∨ td.ownBlock = some b) W').heap[g]? = (blank (fun b => b = p ∨ b = bm ∨ td.ownBlock = some b) W).heap[g]? := blank_blank (Y := fun _ => False) (Kept.of_below hb) (fun _ _ h => h.elim)
  exact ⟨⟨v1, v2, td, ⟨h1.later hb, own_later h2 hb, h3.later hb⟩, h4.keepL hlt⟩, ⟨q, h5.later hb⟩, ⟨qr, h6.later hb⟩, h7.trans (hb.mono h7.size), Nat.le_trans h8 hb.size, h9⟩
theorem later_u {w0 : World} {p bm bk br B : Nat} (hc : MC w0 p bm bk br B) {s1 s2 : Value} {l : List Value} (hl6 : l.length = 6) {K R : List Int} {m : Nat} {T : Int → Option Ty} {Q : Int → Option (List Str × Int)} {L : List Nat} {ks : List Pr} {w : World} (h : MT w0 p bm bk br B s1 s2 l K R m T Q L ks w) (hks : ks.length ≤ 1000000)
    (fv tv : Value) (n mm : Nat) (hf : SlF w0 fv n) (hn : n ≤ 1000000) (ht : SlR tv mm) (hmm : mm ≤ 1000000) (hnew : ∀ g, fv = .slice (some ⟨g, 0, none⟩) n n → g ∉ L) (W : World) (hb : Below w.heap.size w W) :
    Calls Try.prog 78 #[.pointer (some ⟨p, 0, none⟩), fv, tv] W fun e W' => e = .returned (.tuple #[]) ∧ (∃ L' ks', LatRel L ks fv tv n mm L' ks' ∧ MT w0 p bm bk br B s1 s2 l K R m T Q L' ks' W') ∧ W.heap.size ≤ W'.heap.size ∧ ∀ i, w.heap.size ≤ i → i < W.heap.size → W'.heap[i]? = W.heap[i]? := by
  by_cases h0 : n = 0 ∨ mm = 0
  · refine (later_none W p fv tv n mm hf.slr ht h0).mono ?_
    rintro e W' ⟨rfl, rfl⟩
    exact ⟨rfl, ⟨L, ks, .inl ⟨h0, rfl, rfl⟩, h.later hb⟩, Nat.le_refl _, fun _ _ _ => rfl⟩
  · obtain ⟨⟨v1, v2, td, hm0, h40⟩, ⟨q, h50⟩, ⟨qr, h60⟩, h70, h80, h9⟩ := h
    have hpo0 : ∀ x, td.ownBlock = some x → B ≤ x ∧ x < w.heap.size := own_block hm0.row
    have hm : MtS W p bm B s1 s2 l bk br v1 v2 td ks.length (ks.flatMap prC) L := ⟨hm0.at_.later hb, own_later hm0.row hb, hm0.met.later hb⟩
    have h4 : SubV (blank (fun b => b = p ∨ b = bm ∨ td.ownBlock = some b) W) (.agg #[v1, v2]) m T Q := h40.keepL (blank_blank (Y := fun _ => False) (Kept.of_below hb) (fun _ _ h => h.elim))
    have h5 := h50.later hb
    have h6 := h60.later hb
    have h7 := h70.trans (hb.mono h70.size)
    have h8 := Nat.le_trans h80 hb.size
    obtain ⟨⟨p1, p2⟩, ⟨m1, m2⟩, ⟨k1, k2⟩, ⟨r1, r2⟩, n1, n2, n3, n4, n5⟩ := hc
    rcases hf with ⟨_, hz⟩ | ⟨g, rfl, hg0, hga⟩
    · omega
    · have hglt := hga.lt
      have hglt : g < w0.heap.size := hglt
      have hpo : ∀ x, td.ownBlock = some x → B ≤ x ∧ x < W.heap.size := own_block hm.row
      refine (later_any W p bm B s1 s2 l hl6 bk br v1 v2 td ks.length _ L p2 m2 n1 h8 hm hks (fun x hx => ?_) g n (hga.keep (h7.block _ hglt)) ⟨by omega, fun e => by have := hpo g e; omega⟩ (hnew g rfl) (by omega) hn tv mm ht (by omega) hmm).mono ?_
      · have hx := h9 x hx
        exact ⟨by omega, by omega, fun e => by have := hpo x e; omega⟩
      · rintro e W' ⟨td', rfl, hm', htd, hch⟩
        have hs := hch.size
        have hke : ∀ i, i < W.heap.size → i ≠ p → i ≠ bm → td.ownBlock ≠ some i → W'.heap[i]? = W.heap[i]? := hch.block
        have hlow : ∀ i, i < B → i ≠ p → i ≠ bm → W'.heap[i]? = W.heap[i]? := fun i h1 h2 h3 => hke i (by omega) h2 h3 (fun e => by have := hpo i e; omega)
        refine ⟨rfl, ⟨L ++ [g], ks ++ [⟨.slice (some ⟨g, 0, none⟩) n n, tv⟩], .inr ⟨by omega, by omega, g, rfl, rfl, rfl⟩, ⟨v1, v2, td', ?_, ?_⟩, ⟨q, h5.keep (hlow bk k2 (fun e => n2 e.symm) (fun e => n4 e.symm))⟩, ⟨qr, h6.keep (hlow br r2 (fun e => n3 e.symm) (fun e => n5 e.symm))⟩, ?_, by omega, fun x hx => ?_⟩, hs, fun i h1 h2 => hke i h2 (by omega) (by omega) (fun e => by have := hpo0 i e; omega)⟩
        · have e1 : (ks ++ [(⟨.slice (some ⟨g, 0, none⟩) n n, tv⟩ : Pr)]).flatMap prC = ks.flatMap prC ++ [.slice (some ⟨g, 0, none⟩) n n, tv] := by rw [List.flatMap_append]; simp [prC]
          rw [e1, List.length_append]
          exact hm'
        · refine h4.keepL fun g' hg' => ?_
          obtain ⟨hx, hlt⟩ := blank_live hg'
          refine (blank_at (fun hx' => ?_)).trans ((hke g' hlt (fun e => hx (.inl e)) (fun e => hx (.inr (.inl e))) (fun e => hx (.inr (.inr e)))).trans (blank_at hx).symm)
          rcases hx' with e | e | e
          · exact hx (.inl e)
          · exact hx (.inr (.inl e))
          · rcases htd with h | ⟨b, h, hb⟩
            · exact hx (.inr (.inr (h ▸ e)))
            · rw [h] at e; injection e with e; omega
        · exact ⟨hch.os.trans h7.os, hch.tape.trans h7.tape, hch.output.trans h7.output, Nat.le_trans h7.size hs, fun i hi => (hlow i (by omega) (by omega) (by omega)).trans (h7.block i hi)⟩
        · rcases List.mem_append.1 hx with hx | hx
          · exact h9 x hx
          · rw [List.mem_singleton.1 hx]; exact hglt
end Go.Proofs.Ythdfomcpoofkaaa.Si

/- Package scheme: bound and row, between two parts of which the one becomes the other one. -/
namespace Go.Proofs.Ythdfomcpoofkaaa.Si
open Go.RowKit

/-- The matcher says something more. -/
theorem MT.turn {w0 : World} {p bm bk br B : Nat} (hc : MC w0 p bm bk br B) {s1 s2 : Value} {l : List Value} {K R : List Int} {m' : Nat} {T' : Int → Option Ty} {Q' : Int → Option (List Str × Int)} {L : List Nat} {ks : List Pr} {w w' : World} {v1 v2 td x1 x2 : Value}
    (hms : MtS w p bm B s1 s2 l bk br v1 v2 td ks.length (ks.flatMap prC) L) (hk : ∃ q, MapI w 0 bk q (inG K)) (hr : ∃ q, MapI w 0 br q (inG R)) (hb : Below w0.heap.size w0 w) (hB : B ≤ w.heap.size) (h9 : ∀ x ∈ L, x < w0.heap.size)
    (hl : Lies w' p 97 (matC s1 s2 l bk br x1 x2 td bm)) (hsv : ∀ wf, Kept (fun b => (b = p ∨ b = bm ∨ td.ownBlock = some b) ∧ b < w.heap.size) w' wf → SubV wf (.agg #[x1, x2]) m' T' Q') (hch : Chg2 p p (.slice none 0 0) w w') : MT w0 p bm bk br B s1 s2 l K R m' T' Q' L ks w' := by
  obtain ⟨⟨p1, p2⟩, ⟨m1, m2⟩, ⟨k1, k2⟩, ⟨r1, r2⟩, n1, n2, n3, n4, n5⟩ := hc
  obtain ⟨a1, a2, a3⟩ := hms
  obtain ⟨q5, a5⟩ := hk
  obtain ⟨q6, a6⟩ := hr
  have hke : ∀ i, i < w.heap.size → i ≠ p → w'.heap[i]? = w.heap[i]? := fun i h1 h2 => hch.block i h1 h2 h2 (fun e => by cases e)
  have hpo : ∀ x, td.ownBlock = some x → B ≤ x ∧ x < w.heap.size := own_block a2
  have hbw : Below w0.heap.size w0 w' := ⟨hch.os.trans hb.os, hch.tape.trans hb.tape, hch.output.trans hb.output, Nat.le_trans hb.size hch.size, fun i hi => (hke i (by have := hb.size; omega) (by omega)).trans (hb.block i hi)⟩
  refine ⟨⟨x1, x2, td, ⟨hl, own_same a2 fun i hi hlt => hke i hlt (by omega), a3.keep (hke bm a3.lt (fun e => n1 e.symm)) fun x hx => hke _ (a3.2 x hx).lt fun e => ?_⟩, hsv _ ⟨?_, fun b hb hn => blank_at fun hx => hn ⟨hx, ?_⟩⟩⟩, ⟨q5, a5.keep (hke bk (by omega) (fun e => n2 e.symm))⟩, ⟨q6, a6.keep (hke br (by omega) (fun e => n3 e.symm))⟩, hbw, by have := hch.size; omega, h9⟩
  · obtain ⟨y, hy, rfl⟩ := List.mem_map.1 hx
    have := h9 y hy
    have e : y = p := e
    omega
  · rw [blank_size]
    exact Nat.le_refl _
  · rcases hx with rfl | rfl | h
    · omega
    · omega
    · exact (hpo b h).2
theorem MT.subv {w0 : World} {p bm bk br B : Nat} {s1 s2 : Value} {l : List Value} {K R : List Int} {m : Nat} {T : Int → Option Ty} {Q : Int → Option (List Str × Int)} {L : List Nat} {ks : List Pr} {w : World} (h : MT w0 p bm bk br B s1 s2 l K R m T Q L ks w) : ∃ v1 v2 td, MtS w p bm B s1 s2 l bk br v1 v2 td ks.length (ks.flatMap prC) L ∧ SubV (blank (fun b => b = p ∨ b = bm ∨ td.ownBlock = some b) w) (.agg #[v1, v2]) m T Q ∧ SubV w (.agg #[v1, v2]) m T Q := by
  obtain ⟨⟨v1, v2, td, hms, h4⟩, _⟩ := h
  exact ⟨v1, v2, td, hms, h4, h4.keepL (blank_to (Y := fun _ => False) (Kept.of_below (Below.refl _ _)) (fun _ _ h => h.elim))⟩
theorem row_ins {w0 : World} {p bm bk br B : Nat} (hc : MC w0 p bm bk br B) {s1 s2 : Value} {l : List Value} (hl6 : l.length = 6) {s : Ins} (hfit : Fit s) {m : Nat} {T : Int → Option Ty} {Q : Int → Option (List Str × Int)} {L : List Nat} {ks : List Pr} {w : World} (h : MT w0 p bm bk br B s1 s2 l s.K s.R m T Q L ks w) (hg : Good s T Q) (hm : m ≤ 1000)
    (lv lv2 : Value) (ls ms : List Str) (rv ru : Int) (hlv : StrR w0 lv ls) (hlv2 : StrR w0 lv2 ms) (hrv : i64ok rv) (hru : i64ok ru) (hsrt : Rw.sortS ls = ls) (hin : (ms, ru) = rwI s (ls, rv)) :
    Calls Try.prog 79 #[.pointer (some ⟨p, 0, none⟩), .agg #[lv, .int .i64 rv], .agg #[lv2, .int .i64 ru]] w fun e w' => e = .returned (.bool true) ∧ ∃ m' Q', m' ≤ m + 1 ∧ Good s T Q' ∧ MT w0 p bm bk br B s1 s2 l s.K s.R m' T Q' L ks w' := by
  have hmt := h
  obtain ⟨v1, v2, td, hms, h4, hsub⟩ := h.subv
  obtain ⟨_, hk, hr, hb, hB, h9⟩ := h
  obtain ⟨qr, hr0⟩ := hr
  have e := hin
  unfold rwI at e
  by_cases hK : rv ∈ s.R
  · rw [if_pos hK] at e
    injection e with e1 e2
    have h0 : rv ≠ 0 := fun e => hfit.nz (e ▸ hK)
    cases hq : Q rv with
    | some x =>
      obtain ⟨_, hx⟩ := hg.r rv x hq
      subst hx
      refine (mrow_said w p s1 s2 l hl6 bk br v1 v2 td bm hms.at_ m T Q hsub (by omega) s.R qr hr0 lv lv2 ls ms rv ru (hlv.keep hb.block) (hlv2.keep hb.block) hrv hsrt h0 (s.r rv).1 (by rw [hq, e2]) e1).mono ?_
      rintro e w' ⟨rfl, hbw⟩
      exact ⟨rfl, m, Q, by omega, hg, hmt.later hbw⟩
    | none =>
      have hp0 := hc.p0.1
      refine (mrow_new (fun b => b = p ∨ b = bm ∨ td.ownBlock = some b) w p (.inl rfl) s1 s2 l hl6 bk br v1 v2 td bm hms.at_ m T Q h4 hm s.R qr hr0 lv lv2 ls ms rv ru (hlv.keep hb.block) (fun Y hY => hlv2.keep fun g hg' => (hY g (by have := hb.size; omega) (by omega)).trans (hb.block g hg')) hrv hsrt h0 hK hq hru (s.r rv).1 (hfit.srt rv hK) e1).mono ?_
      rintro e w' ⟨x1, x2, rfl, hl', hsv, hch⟩
      refine ⟨rfl, m + 1, _, Nat.le_refl _, ⟨hg.t, fun n u hn => ?_⟩, MT.turn hc hms hk ⟨qr, hr0⟩ hb hB h9 hl' hsv hch⟩
      unfold setF at hn
      by_cases e3 : n = rv
      · rw [if_pos e3] at hn
        injection hn with hn
        subst e3
        exact ⟨hK, by rw [← hn, e2]⟩
      · rw [if_neg e3] at hn
        exact hg.r n u hn
  · rw [if_neg hK] at e
    injection e with e1 e2
    have hq : Q rv = none := by
      cases hq : Q rv with
      | none => rfl
      | some x => exact absurd (hg.r rv x hq).1 hK
    refine (mrow_free w p s1 s2 l hl6 bk br v1 v2 td bm hms.at_ m T Q hsub (by omega) s.R qr hr0 lv lv2 ls ms rv ru (hlv.keep hb.block) (hlv2.keep hb.block) hrv hsrt hK hq).mono ?_
    rintro e w' ⟨rfl, hbw⟩
    exact ⟨by rw [decide_eq_true ⟨e2.symm, e1.symm⟩], m, Q, by omega, hg, hmt.later hbw⟩
theorem bound_ins {w0 : World} {p bm bk br B : Nat} (hc : MC w0 p bm bk br B) {s1 s2 : Value} {l : List Value} (hl6 : l.length = 6) {s : Ins} {m : Nat} {T : Int → Option Ty} {Q : Int → Option (List Str × Int)} {L : List Nat} {ks : List Pr} {w : World} (h : MT w0 p bm bk br B s1 s2 l s.K s.R m T Q L ks w) (hg : Good s T Q) (hm : m ≤ 1000)
    (n : Int) (hn : i64ok n) (hK : n ∈ s.K) (u : Ty) (lu : List Value) (hu : TRV w0 u lu) (huw : TWV w0 u lu) (hus : u.size ≤ 1000) (hin : u = s.t n) :
    Calls Try.prog 77 #[.pointer (some ⟨p, 0, none⟩), .int .i64 n, .agg lu.toArray] w fun e w' => e = .returned (.bool true) ∧ ∃ m' T', m' ≤ m + 1 ∧ Good s T' Q ∧ MT w0 p bm bk br B s1 s2 l s.K s.R m' T' Q L ks w' := by
  have hmt := h
  obtain ⟨v1, v2, td, hms, h4, hsub⟩ := h.subv
  obtain ⟨_, hk, hr, hb, hB, h9⟩ := h
  cases hT : T n with
  | some x =>
    obtain ⟨_, hx⟩ := hg.t n x hT
    rw [hx, ← hin] at hT
    refine (bound_said w p s1 s2 l hl6 bk br v1 v2 td bm hms.at_ m T Q hsub (by omega) n hn u hT lu (hu.later hb) (huw.later hb) hus).mono ?_
    rintro e w' ⟨rfl, hbw⟩
    exact ⟨rfl, m, T, by omega, hg, hmt.later hbw⟩
  | none =>
    refine (bound_new (fun b => b = p ∨ b = bm ∨ td.ownBlock = some b) w p (.inl rfl) s1 s2 l hl6 bk br v1 v2 td bm hms.at_ m T Q h4 hm n hn hT (by rw [hT]; intro u hu; cases hu) u lu (hu.later hb) hus).mono ?_
    rintro e w' ⟨x1, x2, rfl, hl', hsv, hch⟩
    refine ⟨rfl, m + 1, _, Nat.le_refl _, ⟨fun k y hy => ?_, hg.r⟩, MT.turn hc hms hk hr hb hB h9 hl' hsv hch⟩
    unfold setF at hy
    by_cases e3 : k = n
    · rw [if_pos e3] at hy
      injection hy with hy
      subst e3
      exact ⟨hK, by rw [← hy, hin]⟩
    · rw [if_neg e3] at hy
      exact hg.t k y hy
end Go.Proofs.Ythdfomcpoofkaaa.Si
