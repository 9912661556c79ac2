/- slices.EqualFunc with the matcher's part. -/
import Derived.Test.YtclaabnjokkbjaaScMp
import Derived.Outline
namespace Go.Proofs.Ytclaabnjokkbjaa
open Go.RowKit

def Shp (l : List Value) : Prop := ∃ k nm v A n c B m d rv, l = tyC k nm v (.slice A n c) (.slice B m d) rv
set_option maxRecDepth 100000 in
set_option maxHeartbeats 8000000 in
theorem equalF_any (p g g2 o2 n c d : Nat) (J Fl : Nat → World → Prop) (w : World) (hn : n ≤ 1000000) (hnc : n ≤ c) (hnd : n ≤ d) (h0 : J 0 w)
    (hrd : ∀ q, q < n → ∀ V, J q V → ∃ lf lu, ReadsAt V ⟨g, q * 6, none⟩ lf ∧ ReadsAt V ⟨g2, o2 + q * 6, none⟩ lu ∧ Shp lf ∧ Shp lu ∧
      ∀ V', Below V.heap.size V V' → Calls Try.prog 64 #[.pointer (some ⟨p, 0, none⟩), .agg lf.toArray, .agg lu.toArray] V' fun e W' => ∃ b, e = .returned (.bool b) ∧ (b = true → J (q + 1) W') ∧ (b = false → Fl q W')) :
    Calls Try.prog 65 #[.slice (some ⟨g, 0, none⟩) n c, .slice (some ⟨g2, o2, none⟩) n d, .func (.func 64) #[.pointer (some ⟨p, 0, none⟩)] #[]] w
      fun e W' => ∃ b, e = .returned (.bool b) ∧ (b = true → J n W') ∧ (b = false → ∃ q, q < n ∧ Fl q W') := by
  have HRD := Lib.hid hrd
  have H0 := Lib.hid h0
  clear hrd h0
  go_enter Try.func65, Try.ntmps65
  go_wp2_with fail
  go_loopw [17] (fun i wr => ∃ q : Nat, q ≤ n ∧ i = .int .i64 q ∧ J q wr) (fun i _ => n - (intOf i).toNat)
  case atStart => exact ⟨0, Nat.zero_le _, rfl, H0.out⟩
  case round =>
    obtain ⟨q, hq, rfl, hJ⟩ := hrel
    obtain ⟨wo, rfl⟩ : ∃ wo, wo = wr := ⟨_, rfl⟩
    by_cases hlt : q < n
    · obtain ⟨lf, lu, hr1, hr2, hl1, hl2, hcall⟩ := HRD.out q hlt wo hJ
      obtain ⟨k1, nm1, v1, A1, n1, c1, B1, m1, d1, rv1, rfl⟩ := hl1
      obtain ⟨k2, nm2, v2, A2, n2, c2, B2, m2, d2, rv2, rfl⟩ := hl2
      unfold tyC at hr1 hr2 hcall
      have x0 := hr1 0 _ rfl
      have x1 := hr1 1 _ rfl
      have x2 := hr1 2 _ rfl
      have x3 := hr1 3 _ rfl
      have x4 := hr1 4 _ rfl
      have x5 := hr1 5 _ rfl
      have y0 := hr2 0 _ rfl
      have y1 := hr2 1 _ rfl
      have y2 := hr2 2 _ rfl
      have y3 := hr2 3 _ rfl
      have y4 := hr2 4 _ rfl
      have y5 := hr2 5 _ rfl
      simp only [Nat.add_zero] at x0 y0
      have hg1 := reads_block hr1 (by simp)
      have hg2 := reads_block hr2 (by simp)
      have hlti : (q : Int) < (n : Int) := by omega
      have hqc : q < c := by omega
      have hqd : q < d := by omega
      have HJ := Lib.hid hJ
      have HCALL := Lib.hid hcall
      clear hJ hcall hr1 hr2
      go_wp2_with fail
      refine (HCALL.out _ (((Below.refl _ wo).alloc (Nat.le_refl _) _).alloc (by simp) _)).mono ?_
      rintro e w5 ⟨b, rfl, ht, hf⟩
      clear x0 x1 x2 x3 x4 x5 y0 y1 y2 y3 y4 y5
      cases b with
      | false =>
        have HF := Lib.hid (hf rfl)
        clear ht hf
        go_wp2_with fail
        go_ret
        exact ⟨false, rfl, fun h => (by cases h), fun _ => ⟨q, hlt, HF.out⟩⟩
      | true =>
        have HT := Lib.hid (ht rfl)
        clear ht hf
        go_wp2_with fail
        go_roundw
        case rel => exact ⟨q + 1, by omega, by simp, HT.out⟩
        case measure => (simp [intOf] <;> omega)
    · obtain rfl : q = n := by omega
      have HJ := Lib.hid hJ
      clear hJ
      go_wp2_with fail
      go_ret
      exact ⟨true, rfl, fun _ => HJ.out, fun h => by cases h⟩
end Go.Proofs.Ytclaabnjokkbjaa

/- Package scheme: what stands between two parts of a type that is matched, as logic. -/
namespace Go.Proofs.Ytclaabnjokkbjaa
open Go.RowKit

mutual
/-- Can a type become another one, each bound variable standing in it once at most? -/
def pm (K : List Int) : Ty → Ty → Bool
  | .mk k nm v kids ls rv, .mk k' nm' v' kids' ls' rv' => hdM K (.mk k nm v kids ls rv) (.mk k' nm' v' kids' ls' rv') && (decide (k = 7 ∧ v ∈ K) || pmL K kids kids')
def pmL (K : List Int) : List Ty → List Ty → Bool
  | [], [] => true
  | t :: r, u :: s => pm K t u && pmL K r s
  | _, _ => false
end
mutual
def occ (n : Int) : Ty → Nat
  | .mk k _ v kids _ _ => (if k = 7 ∧ v = n then 1 else 0) + occL n kids
def occL (n : Int) : List Ty → Nat
  | [] => 0
  | t :: r => occ n t + occL n r
end
mutual
/-- All labels are in order. -/
def srtT : Ty → Prop
  | .mk _ _ _ kids ls _ => Rw.sortS ls = ls ∧ srtL kids
def srtL : List Ty → Prop
  | [] => True
  | t :: r => srtT t ∧ srtL r
end
theorem srtL_mem : ∀ {l : List Ty}, srtL l → ∀ t ∈ l, srtT t
  | _ :: _, h, _, .head _ => h.1
  | _ :: _, h, _, .tail _ hm => srtL_mem h.2 _ hm
abbrev Gp := List Ty × List Ty
def blk (k : Pr) : Nat := match k.fv with | .slice (some a) _ _ => a.block | _ => 0
/-- Two lists of types that are to do, as they lie. -/
structure PrOK (w0 : World) (k : Pr) (fs ts : List Ty) : Prop where
  from_ : k.fv = .slice (some ⟨blk k, 0, none⟩) fs.length fs.length
  pos : 0 < fs.length
  fk : ∀ (i : Nat) t, fs[i]? = some t → TF w0 ⟨blk k, i * 6, none⟩ t
  len : fs.length = ts.length
  to_ : ∃ g2 o2 d, k.tv = .slice (some ⟨g2, o2, none⟩) ts.length d ∧ ts.length ≤ d ∧ ∀ (i : Nat) t, ts[i]? = some t → TR w0 ⟨g2, o2 + i * 6, none⟩ t
  srt : srtL fs
  sm : ∀ t ∈ ts, t.size ≤ 1000
def occS (n : Int) (gs : List Gp) : Nat := (gs.map fun g => occL n g.1).sum
def wkS (gs : List Gp) : Nat := (gs.map fun g => Ty.sizeL g.1).sum
def sd (T : Int → Option Ty) (n : Int) : Nat := if T n = none then 0 else 1
structure BI (w0 : World) (t u : Ty) (K : List Int) (D : List Nat) (E : List (Nat × Nat × Nat)) (lt : List Value) (m : Nat) (T : Int → Option Ty) (L : List Nat) (ks : List Pr) (gs : List Gp) (P0 q : Nat) (fr tr : List Ty) (mw : Nat) : Prop where
  len : ks.length = gs.length
  ok : ∀ (i : Nat) k g, ks[i]? = some k → gs[i]? = some g → PrOK w0 k g.1 g.2
  iff : pm K t u = true ↔ (∀ g ∈ gs, pmL K g.1 g.2 = true) ∧ pmL K fr tr = true
  lin : ∀ n ∈ K, sd T n + occS n gs + occL n fr ≤ 1
  wk : m + wkS gs + Ty.sizeL fr ≤ t.size
  wq : wkS gs + Ty.sizeL fr + q ≤ mw
  nd : (ks.map blk).Nodup
  bL : ∀ k ∈ ks, blk k ∈ L
  LD : ∀ x ∈ L, x ∈ D
  vis : ∀ x ∈ L, rtOf lt x ∨ ∃ P j, (P, j, x) ∈ E ∧ P ∈ L ∧ P ∉ ks.map blk ∧ (P = P0 → j < q)
theorem occS_app (n : Int) (a b : List Gp) : occS n (a ++ b) = occS n a + occS n b := by simp [occS]
theorem wkS_app (a b : List Gp) : wkS (a ++ b) = wkS a + wkS b := by simp [wkS]
/-- The last two lists are taken. -/
theorem BI.pop {w0 : World} {t u : Ty} {K : List Int} {D : List Nat} {E : List (Nat × Nat × Nat)} {lt : List Value} {m : Nat} {T : Int → Option Ty} {L : List Nat} {ks : List Pr} {gs : List Gp} {k0 : Pr} {g0 : Gp} {P q mw : Nat} (h : BI w0 t u K D E lt m T L (ks ++ [k0]) (gs ++ [g0]) P q [] [] mw) :
    BI w0 t u K D E lt m T L ks gs (blk k0) 0 g0.1 g0.2 (wkS (gs ++ [g0])) ∧ PrOK w0 k0 g0.1 g0.2 ∧ blk k0 ∈ L ∧ blk k0 ∉ ks.map blk := by
  have hl : ks.length = gs.length := by have := h.len; simpa using this
  have hnd := h.nd
  rw [List.map_append, List.nodup_append] at hnd
  have hni : blk k0 ∉ ks.map blk := fun hm => hnd.2.2 _ hm (blk k0) (by simp) rfl
  refine ⟨⟨hl, fun i k g hk hg => h.ok i k g ?_ ?_, ?_, fun n hn => ?_, ?_, ?_, hnd.1, fun k hk => h.bL k (List.mem_append_left _ hk), h.LD, fun x hx => ?_⟩, h.ok ks.length k0 g0 (by simp) (by rw [hl]; simp), h.bL k0 (by simp), hni⟩
  · rw [List.getElem?_append_left (List.getElem?_eq_some_iff.1 hk).1]; exact hk
  · rw [List.getElem?_append_left (List.getElem?_eq_some_iff.1 hg).1]; exact hg
  · rw [h.iff]
    constructor
    · rintro ⟨h1, _⟩
      exact ⟨fun g hg => h1 g (List.mem_append_left _ hg), h1 g0 (by simp)⟩
    · rintro ⟨h1, h2⟩
      refine ⟨fun g hg => ?_, by simp [pmL]⟩
      rcases List.mem_append.1 hg with hg | hg
      · exact h1 g hg
      · rw [List.mem_singleton.1 hg]; exact h2
  · have := h.lin n hn
    rw [occS_app] at this
    simp only [occS, occL, List.map_cons, List.map_nil, List.sum_cons, List.sum_nil] at this ⊢
    omega
  · have := h.wk
    rw [wkS_app] at this
    simp only [wkS, Ty.sizeL, List.map_cons, List.map_nil, List.sum_cons, List.sum_nil] at this ⊢
    omega
  · rw [wkS_app]
    simp only [wkS, List.map_cons, List.map_nil, List.sum_cons, List.sum_nil]
    omega
  · rcases h.vis x hx with hr | ⟨P', j, h1, h2, h3, _⟩
    · exact .inl hr
    · rw [List.map_append, List.mem_append] at h3
      exact .inr ⟨P', j, h1, h2, fun hm => h3 (.inl hm), fun e => absurd (.inr (by simp [e])) h3⟩
/-- All of them are done. -/
theorem BI.top {w0 : World} {t u : Ty} {K : List Int} {D : List Nat} {E : List (Nat × Nat × Nat)} {lt : List Value} {m : Nat} {T : Int → Option Ty} {L : List Nat} {ks : List Pr} {gs : List Gp} {P q mw P' : Nat} (h : BI w0 t u K D E lt m T L ks gs P q [] [] mw) (hP : P' ∉ L) : BI w0 t u K D E lt m T L ks gs P' 0 [] [] (wkS gs) ∧ wkS gs + q ≤ mw := by
  have hw := h.wq
  refine ⟨⟨h.len, h.ok, h.iff, h.lin, h.wk, by simp [Ty.sizeL], h.nd, h.bL, h.LD, fun x hx => ?_⟩, by simp only [Ty.sizeL] at hw; omega⟩
  rcases h.vis x hx with hr | ⟨P2, j, h1, h2, h3, _⟩
  · exact .inl hr
  · exact .inr ⟨P2, j, h1, h2, h3, fun e => absurd (e ▸ h2) hP⟩
theorem pm_false {K : List Int} {f g : Ty} (h : hdM K f g = false) : pm K f g = false := by
  obtain ⟨k, nm, v, kids, ls, rv⟩ := f
  obtain ⟨k', nm', v', kids', ls', rv'⟩ := g
  simp [pm, h]
theorem BI.fails {w0 : World} {t u : Ty} {K : List Int} {D : List Nat} {E : List (Nat × Nat × Nat)} {lt : List Value} {m : Nat} {T : Int → Option Ty} {L : List Nat} {ks : List Pr} {gs : List Gp} {P q mw : Nat} {f g : Ty} {fr tr : List Ty} (h : BI w0 t u K D E lt m T L ks gs P q (f :: fr) (g :: tr) mw) (hf : hdM K f g = false) : pm K t u = false := by
  rw [Bool.eq_false_iff]
  intro ht
  have := (h.iff.1 ht).2
  simp [pmL, pm_false hf] at this
/-- Of a bound variable that comes next nothing was said. -/
theorem BI.unsaid {w0 : World} {t u : Ty} {K : List Int} {D : List Nat} {E : List (Nat × Nat × Nat)} {lt : List Value} {m : Nat} {T : Int → Option Ty} {L : List Nat} {ks : List Pr} {gs : List Gp} {P q mw : Nat} {k : Int} {nm : Str} {v : Int} {kids : List Ty} {ls : List Str} {rv : Int} {fr tr : List Ty} (h : BI w0 t u K D E lt m T L ks gs P q (.mk k nm v kids ls rv :: fr) tr mw) (h7 : k = 7) (hv : v ∈ K) : T v = none := by
  have := h.lin v hv
  simp only [occL, occ, h7, true_and, if_true] at this
  unfold sd at this
  split at this
  · assumption
  · omega
theorem BI.step {w0 : World} {t u : Ty} {K : List Int} {D : List Nat} {E : List (Nat × Nat × Nat)} {lt : List Value} {m : Nat} {T : Int → Option Ty} {L : List Nat} {ks : List Pr} {gs : List Gp} {P0 q mw : Nat} {f g : Ty} {fr tr : List Ty} (h : BI w0 t u K D E lt m T L ks gs P0 q (f :: fr) (g :: tr) mw) (hh : hdM K f g = true)
    {lf lu : List Value} (hf : TFV w0 f lf) (hu : TRV w0 g lu) (hs : srtT f) (hg : g.size ≤ 1000) {m' : Nat} {T' : Int → Option Ty} {L' : List Nat} {ks' : List Pr} (hr : PartRel K m T L ks f g (cell3 lf) (cell3 lu) m' T' L' ks')
    (hx : ∀ x, rtOf lf x → x ∉ L ∧ x ∈ D ∧ (rtOf lt x ∨ ((P0, q, x) ∈ E ∧ P0 ∈ L ∧ P0 ∉ ks.map blk))) : ∃ gs', BI w0 t u K D E lt m' T' L' ks' gs' P0 (q + 1) fr tr mw := by
  obtain ⟨k, nm, v, kids, ls, rv⟩ := f
  obtain ⟨k', nm', v', kids', ls', rv'⟩ := g
  have hwk := h.wk
  have hwq := h.wq
  simp only [Ty.sizeL, Ty.size] at hwk hwq
  have hpl : pmL K (.mk k nm v kids ls rv :: fr) (.mk k' nm' v' kids' ls' rv' :: tr) = ((decide (k = 7 ∧ v ∈ K) || pmL K kids kids') && pmL K fr tr) := by simp [pmL, pm, hh]
  have hiff := h.iff
  rw [hpl] at hiff
  have hvis : ∀ x ∈ L, rtOf lt x ∨ ∃ P j, (P, j, x) ∈ E ∧ P ∈ L ∧ P ∉ ks.map blk ∧ (P = P0 → j < q + 1) := fun x hx => by
    rcases h.vis x hx with hr | ⟨P2, j, h1, h2, h3, h4⟩
    · exact .inl hr
    · exact .inr ⟨P2, j, h1, h2, h3, fun e => by have := h4 e; omega⟩
  rcases hr with ⟨hb, rfl, rfl, rfl, rfl⟩ | ⟨hb, rfl, rfl, hr⟩
  · refine ⟨gs, h.len, h.ok, ?_, fun n hn => ?_, by omega, by omega, h.nd, h.bL, h.LD, hvis⟩
    · rw [hiff]
      simp [hb]
    · have h1 := h.lin n hn
      simp only [occL, occ] at h1
      by_cases e : v = n
      · subst e
        simp only [hb.1, true_and, if_true] at h1
        have h2 : sd (setF T v (.mk k' nm' v' kids' ls' rv')) v ≤ 1 := by unfold sd; split <;> omega
        omega
      · have h3 : setF T v (.mk k' nm' v' kids' ls' rv') n = T n := if_neg (fun h => e h.symm)
        have h2 : sd (setF T v (.mk k' nm' v' kids' ls' rv')) n = sd T n := by unfold sd; rw [h3]
        omega
  · have hlen : kids.length = kids'.length := by
      rw [hdM_neg hb] at hh
      have := of_decide_eq_true hh
      exact this.2.2.2.1
    rcases hr with ⟨h0, rfl, rfl⟩ | ⟨h0, h1, x, hfv, rfl, rfl⟩
    · have e1 : kids = [] := List.eq_nil_of_length_eq_zero (by omega)
      have e2 : kids' = [] := List.eq_nil_of_length_eq_zero (by omega)
      subst e1 e2
      refine ⟨gs, h.len, h.ok, ?_, fun n hn => ?_, by omega, by omega, h.nd, h.bL, h.LD, hvis⟩
      · rw [hiff]
        simp [pmL]
      · have h1 := h.lin n hn
        simp only [occL, occ] at h1
        omega
    · obtain ⟨kv, lv, rfl, hkv, hlv, hok, hks⟩ := hf
      obtain ⟨kv2, lv2, rfl, hkv2, hlv2, hok2, hks2⟩ := hu
      have hfv : kv = .slice (some ⟨x, 0, none⟩) kids.length kids.length := hfv
      obtain ⟨A2, d, rfl, hd, ha⟩ := hkv2.form
      obtain ⟨g2, o2, rfl⟩ := ha h1
      obtain ⟨hxL, hxD, hxE⟩ := hx x ⟨_, _, by rw [hfv]; rfl⟩
      subst hfv
      refine ⟨gs ++ [(kids, kids')], by simp [h.len], fun i k2 g hk hg => ?_, ?_, fun n hn => ?_, ?_, ?_, ?_, fun k2 hk2 => ?_, fun y hy => ?_, fun y hy => ?_⟩
      · by_cases hi : i < ks.length
        · rw [List.getElem?_append_left hi] at hk
          rw [List.getElem?_append_left (by have := h.len; omega)] at hg
          exact h.ok i k2 g hk hg
        · have hi2 := (List.getElem?_eq_some_iff.1 hk).1
          simp only [List.length_append, List.length_cons, List.length_nil] at hi2
          obtain rfl : i = ks.length := by omega
          rw [List.getElem?_append_right (Nat.le_refl _)] at hk
          rw [h.len, List.getElem?_append_right (Nat.le_refl _)] at hg
          simp only [Nat.sub_self, List.getElem?_cons_zero, Option.some.injEq] at hk hg
          subst hk hg
          refine ⟨rfl, h0, fun i t ht => ?_, hlen, ⟨g2, o2, d, rfl, hd, fun i t ht => hks2 i t ht⟩, hs.2, fun t ht => ?_⟩
          · have := hks i t ht
            simp only [kidAt, Nat.zero_add] at this
            exact this
          · have ht : t ∈ kids' := ht
            have := size_kid ht
            simp only [Ty.size] at hg
            omega
      · rw [hiff]
        have hbf : decide (k = 7 ∧ v ∈ K) = false := decide_eq_false hb
        rw [hbf, Bool.false_or, Bool.and_eq_true]
        constructor
        · rintro ⟨a, b, c⟩
          refine ⟨fun g hg => ?_, c⟩
          rcases List.mem_append.1 hg with hg | hg
          · exact a g hg
          · rw [List.mem_singleton.1 hg]; exact b
        · rintro ⟨a, c⟩
          exact ⟨fun g hg => a g (List.mem_append_left _ hg), a (kids, kids') (by simp), c⟩
      · have h1 := h.lin n hn
        rw [occS_app]
        simp only [occL, occ] at h1
        simp only [occS, List.map_cons, List.map_nil, List.sum_cons, List.sum_nil] at h1 ⊢
        omega
      · rw [wkS_app]
        simp only [wkS, List.map_cons, List.map_nil, List.sum_cons, List.sum_nil] at hwk ⊢
        omega
      · rw [wkS_app]
        simp only [wkS, List.map_cons, List.map_nil, List.sum_cons, List.sum_nil] at hwq ⊢
        omega
      · rw [List.map_append, List.nodup_append]
        refine ⟨h.nd, by simp, fun a ha b hb2 => ?_⟩
        obtain ⟨k2, hk2, rfl⟩ := List.mem_map.1 ha
        simp only [List.map_cons, List.map_nil, List.mem_singleton] at hb2
        intro e
        have h3 := h.bL k2 hk2
        rw [e, hb2] at h3
        exact hxL h3
      · rcases List.mem_append.1 hk2 with hk2 | hk2
        · exact List.mem_append_left _ (h.bL k2 hk2)
        · rw [List.mem_singleton.1 hk2]; exact List.mem_append_right _ (List.mem_singleton.2 rfl)
      · rcases List.mem_append.1 hy with hy | hy
        · exact h.LD y hy
        · rw [List.mem_singleton.1 hy]; exact hxD
      · have hnew : ∀ P, P ∈ L → P ∉ ks.map blk → P ∉ (ks ++ [(⟨.slice (some ⟨x, 0, none⟩) kids.length kids.length, .slice (some ⟨g2, o2, none⟩) kids'.length d⟩ : Pr)]).map blk := fun P h1 h2 h3 => by
          rw [List.map_append, List.mem_append] at h3
          rcases h3 with h3 | h3
          · exact h2 h3
          · simp only [List.map_cons, List.map_nil, List.mem_singleton] at h3
            have h3 : P = x := h3
            exact hxL (h3 ▸ h1)
        rcases List.mem_append.1 hy with hy | hy
        · rcases hvis y hy with hr | ⟨P2, j, a1, a2, a3, a4⟩
          · exact .inl hr
          · exact .inr ⟨P2, j, a1, List.mem_append_left _ a2, hnew P2 a2 a3, a4⟩
        · rw [List.mem_singleton.1 hy]
          rcases hxE with hr | ⟨a1, a2, a3⟩
          · exact .inl hr
          · exact .inr ⟨P0, q, a1, List.mem_append_left _ a2, hnew P0 a2 a3, fun _ => Nat.lt_succ_self q⟩
end Go.Proofs.Ytclaabnjokkbjaa
