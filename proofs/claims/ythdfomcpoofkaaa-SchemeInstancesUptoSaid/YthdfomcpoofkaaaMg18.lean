/- slices.EqualFunc with the matcher's part. -/
import Derived.Test.YthdfomcpoofkaaaScMp
import Derived.Test.YthdfomcpoofkaaaMg05
import Derived.Test.YthdfomcpoofkaaaMg06
import Derived.Test.YthdfomcpoofkaaaSbl
import Derived.Outline
namespace Go.Proofs.Ythdfomcpoofkaaa
open Go.RowKit

def Shp (l : List Value) : Prop := ∃ k nm v A n c B m d rv, l = tyC k nm v (.slice A n c) (.slice B m d) rv
set_option maxRecDepth 100000 in
set_option maxHeartbeats 8000000 in
theorem equalF_any (p g g2 o2 n c d : Nat) (J Fl : Nat → World → Prop) (w : World) (hn : n ≤ 1000000) (hnc : n ≤ c) (hnd : n ≤ d) (h0 : J 0 w)
    (hrd : ∀ q, q < n → ∀ V, J q V → ∃ lf lu, ReadsAt V ⟨g, q * 6, none⟩ lf ∧ ReadsAt V ⟨g2, o2 + q * 6, none⟩ lu ∧ Shp lf ∧ Shp lu ∧
      ∀ V', Below V.heap.size V V' → Calls Try.prog 64 #[.pointer (some ⟨p, 0, none⟩), .agg lf.toArray, .agg lu.toArray] V' fun e W' => ∃ b, e = .returned (.bool b) ∧ (b = true → J (q + 1) W') ∧ (b = false → Fl q W')) :
    Calls Try.prog 65 #[.slice (some ⟨g, 0, none⟩) n c, .slice (some ⟨g2, o2, none⟩) n d, .func (.func 64) #[.pointer (some ⟨p, 0, none⟩)] #[]] w
      fun e W' => ∃ b, e = .returned (.bool b) ∧ (b = true → J n W') ∧ (b = false → ∃ q, q < n ∧ Fl q W') := by
  have HRD := Lib.hid hrd
  have H0 := Lib.hid h0
  clear hrd h0
  go_enter Try.func65, Try.ntmps65
  go_wp2_with fail
  go_loopw [17] (fun i wr => ∃ q : Nat, q ≤ n ∧ i = .int .i64 q ∧ J q wr) (fun i _ => n - (intOf i).toNat)
  case atStart => exact ⟨0, Nat.zero_le _, rfl, H0.out⟩
  case round =>
    obtain ⟨q, hq, rfl, hJ⟩ := hrel
    obtain ⟨wo, rfl⟩ : ∃ wo, wo = wr := ⟨_, rfl⟩
    by_cases hlt : q < n
    · obtain ⟨lf, lu, hr1, hr2, hl1, hl2, hcall⟩ := HRD.out q hlt wo hJ
      obtain ⟨k1, nm1, v1, A1, n1, c1, B1, m1, d1, rv1, rfl⟩ := hl1
      obtain ⟨k2, nm2, v2, A2, n2, c2, B2, m2, d2, rv2, rfl⟩ := hl2
      unfold tyC at hr1 hr2 hcall
      have x0 := hr1 0 _ rfl
      have x1 := hr1 1 _ rfl
      have x2 := hr1 2 _ rfl
      have x3 := hr1 3 _ rfl
      have x4 := hr1 4 _ rfl
      have x5 := hr1 5 _ rfl
      have y0 := hr2 0 _ rfl
      have y1 := hr2 1 _ rfl
      have y2 := hr2 2 _ rfl
      have y3 := hr2 3 _ rfl
      have y4 := hr2 4 _ rfl
      have y5 := hr2 5 _ rfl
      simp only [Nat.add_zero] at x0 y0
      have hg1 := reads_block hr1 (by simp)
      have hg2 := reads_block hr2 (by simp)
      have hlti : (q : Int) < (n : Int) := by omega
      have hqc : q < c := by omega
      have hqd : q < d := by omega
      have HJ := Lib.hid hJ
      have HCALL := Lib.hid hcall
      clear hJ hcall hr1 hr2
      go_wp2_with fail
      refine (HCALL.out _ (((Below.refl _ wo).alloc (Nat.le_refl _) _).alloc (by simp) _)).mono ?_
      rintro e w5 ⟨b, rfl, ht, hf⟩
      clear x0 x1 x2 x3 x4 x5 y0 y1 y2 y3 y4 y5
      cases b with
      | false =>
        have HF := Lib.hid (hf rfl)
        clear ht hf
        go_wp2_with fail
        go_ret
        exact ⟨false, rfl, fun h => (by cases h), fun _ => ⟨q, hlt, HF.out⟩⟩
      | true =>
        have HT := Lib.hid (ht rfl)
        clear ht hf
        go_wp2_with fail
        go_roundw
        case rel => exact ⟨q + 1, by omega, by simp, HT.out⟩
        case measure => (simp [intOf] <;> omega)
    · obtain rfl : q = n := by omega
      have HJ := Lib.hid hJ
      clear hJ
      go_wp2_with fail
      go_ret
      exact ⟨true, rfl, fun _ => HJ.out, fun h => by cases h⟩
end Go.Proofs.Ythdfomcpoofkaaa

/- Package scheme: what stands between two parts of a type that is matched, as logic. -/
namespace Go.Proofs.Ythdfomcpoofkaaa
open Go.RowKit

mutual
/-- Can a type become another one, each bound variable standing in it once at most? -/
def pm (K : List Int) : Ty → Ty → Bool
  | .mk k nm v kids ls rv, .mk k' nm' v' kids' ls' rv' => hdM K (.mk k nm v kids ls rv) (.mk k' nm' v' kids' ls' rv') && (decide (k = 7 ∧ v ∈ K) || pmL K kids kids')
def pmL (K : List Int) : List Ty → List Ty → Bool
  | [], [] => true
  | t :: r, u :: s => pm K t u && pmL K r s
  | _, _ => false
end
mutual
def occ (n : Int) : Ty → Nat
  | .mk k _ v kids _ _ => (if k = 7 ∧ v = n then 1 else 0) + occL n kids
def occL (n : Int) : List Ty → Nat
  | [] => 0
  | t :: r => occ n t + occL n r
end
mutual
/-- All labels are in order. -/
def srtT : Ty → Prop
  | .mk _ _ _ kids ls _ => Rw.sortS ls = ls ∧ srtL kids
def srtL : List Ty → Prop
  | [] => True
  | t :: r => srtT t ∧ srtL r
end
theorem srtL_mem : ∀ {l : List Ty}, srtL l → ∀ t ∈ l, srtT t
  | _ :: _, h, _, .head _ => h.1
  | _ :: _, h, _, .tail _ hm => srtL_mem h.2 _ hm
abbrev Gp := List Ty × List Ty
def blk (k : Pr) : Nat := match k.fv with | .slice (some a) _ _ => a.block | _ => 0
/-- Two lists of types that are to do, as they lie. -/
structure PrOK (w0 : World) (k : Pr) (fs ts : List Ty) : Prop where
  from_ : k.fv = .slice (some ⟨blk k, 0, none⟩) fs.length fs.length
  pos : 0 < fs.length
  fk : ∀ (i : Nat) t, fs[i]? = some t → TF w0 ⟨blk k, i * 6, none⟩ t
  len : fs.length = ts.length
  to_ : ∃ g2 o2 d, k.tv = .slice (some ⟨g2, o2, none⟩) ts.length d ∧ ts.length ≤ d ∧ ∀ (i : Nat) t, ts[i]? = some t → TR w0 ⟨g2, o2 + i * 6, none⟩ t
  srt : srtL fs
  sm : ∀ t ∈ ts, t.size ≤ 1000
def occS (n : Int) (gs : List Gp) : Nat := (gs.map fun g => occL n g.1).sum
def wkS (gs : List Gp) : Nat := (gs.map fun g => Ty.sizeL g.1).sum
def sd (T : Int → Option Ty) (n : Int) : Nat := if T n = none then 0 else 1
structure BI (w0 : World) (t u : Ty) (K : List Int) (D : List Nat) (E : List (Nat × Nat × Nat)) (lt : List Value) (m : Nat) (T : Int → Option Ty) (L : List Nat) (ks : List Pr) (gs : List Gp) (P0 q : Nat) (fr tr : List Ty) (mw : Nat) : Prop where
  len : ks.length = gs.length
  ok : ∀ (i : Nat) k g, ks[i]? = some k → gs[i]? = some g → PrOK w0 k g.1 g.2
  iff : pm K t u = true ↔ (∀ g ∈ gs, pmL K g.1 g.2 = true) ∧ pmL K fr tr = true
  lin : ∀ n ∈ K, sd T n + occS n gs + occL n fr ≤ 1
  wk : m + wkS gs + Ty.sizeL fr ≤ t.size
  wq : wkS gs + Ty.sizeL fr + q ≤ mw
  nd : (ks.map blk).Nodup
  bL : ∀ k ∈ ks, blk k ∈ L
  LD : ∀ x ∈ L, x ∈ D
  vis : ∀ x ∈ L, rtOf lt x ∨ ∃ P j, (P, j, x) ∈ E ∧ P ∈ L ∧ P ∉ ks.map blk ∧ (P = P0 → j < q)
theorem occS_app (n : Int) (a b : List Gp) : occS n (a ++ b) = occS n a + occS n b := by simp [occS]
theorem wkS_app (a b : List Gp) : wkS (a ++ b) = wkS a + wkS b := by simp [wkS]
/-- The last two lists are taken. -/
theorem BI.pop {w0 : World} {t u : Ty} {K : List Int} {D : List Nat} {E : List (Nat × Nat × Nat)} {lt : List Value} {m : Nat} {T : Int → Option Ty} {L : List Nat} {ks : List Pr} {gs : List Gp} {k0 : Pr} {g0 : Gp} {P q mw : Nat} (h : BI w0 t u K D E lt m T L (ks ++ [k0]) (gs ++ [g0]) P q [] [] mw) :
    BI w0 t u K D E lt m T L ks gs (blk k0) 0 g0.1 g0.2 (wkS (gs ++ [g0])) ∧ PrOK w0 k0 g0.1 g0.2 ∧ blk k0 ∈ L ∧ blk k0 ∉ ks.map blk := by
  have hl : ks.length = gs.length := by have := h.len; simpa using this
  have hnd := h.nd
  rw [List.map_append, List.nodup_append] at hnd
  have hni : blk k0 ∉ ks.map blk := fun hm => hnd.2.2 _ hm (blk k0) (by simp) rfl
  refine ⟨⟨hl, fun i k g hk hg => h.ok i k g ?_ ?_, ?_, fun n hn => ?_, ?_, ?_, hnd.1, fun k hk => h.bL k (List.mem_append_left _ hk), h.LD, fun x hx => ?_⟩, h.ok ks.length k0 g0 (by simp) (by rw [hl]; simp), h.bL k0 (by simp), hni⟩
  · rw [List.getElem?_append_left (List.getElem?_eq_some_iff.1 hk).1]; exact hk
  · rw [List.getElem?_append_left (List.getElem?_eq_some_iff.1 hg).1]; exact hg
  · rw [h.iff]
    constructor
    · rintro ⟨h1, _⟩
      exact ⟨fun g hg => h1 g (List.mem_append_left _ hg), h1 g0 (by simp)⟩
    · rintro ⟨h1, h2⟩
      refine ⟨fun g hg => ?_, by simp [pmL]⟩
      rcases List.mem_append.1 hg with hg | hg
      · exact h1 g hg
      · rw [List.mem_singleton.1 hg]; exact h2
  · have := h.lin n hn
    rw [occS_app] at this
    simp only [occS, occL, List.map_cons, List.map_nil, List.sum_cons, List.sum_nil] at this ⊢
    omega
  · have := h.wk
    rw [wkS_app] at this
    simp only [wkS, Ty.sizeL, List.map_cons, List.map_nil, List.sum_cons, List.sum_nil] at this ⊢
    omega
  · rw [wkS_app]
    simp only [wkS, List.map_cons, List.map_nil, List.sum_cons, List.sum_nil]
    omega
  · rcases h.vis x hx with hr | ⟨P', j, h1, h2, h3, _⟩
    · exact .inl hr
    · rw [List.map_append, List.mem_append] at h3
      exact .inr ⟨P', j, h1, h2, fun hm => h3 (.inl hm), fun e => absurd (.inr (by simp [e])) h3⟩
/-- All of them are done. -/
theorem BI.top {w0 : World} {t u : Ty} {K : List Int} {D : List Nat} {E : List (Nat × Nat × Nat)} {lt : List Value} {m : Nat} {T : Int → Option Ty} {L : List Nat} {ks : List Pr} {gs : List Gp} {P q mw P' : Nat} (h : BI w0 t u K D E lt m T L ks gs P q [] [] mw) (hP : P' ∉ L) : BI w0 t u K D E lt m T L ks gs P' 0 [] [] (wkS gs) ∧ wkS gs + q ≤ mw := by
  have hw := h.wq
  refine ⟨⟨h.len, h.ok, h.iff, h.lin, h.wk, by simp [Ty.sizeL], h.nd, h.bL, h.LD, fun x hx => ?_⟩, by simp only [Ty.sizeL] at hw; omega⟩
  rcases h.vis x hx with hr | ⟨P2, j, h1, h2, h3, _⟩
  · exact .inl hr
  · exact .inr ⟨P2, j, h1, h2, h3, fun e => absurd (e ▸ h2) hP⟩
theorem pm_false {K : List Int} {f g : Ty} (h : hdM K f g = false) : pm K f g = false := by
  obtain ⟨k, nm, v, kids, ls, rv⟩ := f
  obtain ⟨k', nm', v', kids', ls', rv'⟩ := g
  simp [pm, h]
theorem BI.fails {w0 : World} {t u : Ty} {K : List Int} {D : List Nat} {E : List (Nat × Nat × Nat)} {lt : List Value} {m : Nat} {T : Int → Option Ty} {L : List Nat} {ks : List Pr} {gs : List Gp} {P q mw : Nat} {f g : Ty} {fr tr : List Ty} (h : BI w0 t u K D E lt m T L ks gs P q (f :: fr) (g :: tr) mw) (hf : hdM K f g = false) : pm K t u = false := by
  rw [Bool.eq_false_iff]
  intro ht
  have := (h.iff.1 ht).2
  simp [pmL, pm_false hf] at this
/-- Of a bound variable that comes next nothing was said. -/
theorem BI.unsaid {w0 : World} {t u : Ty} {K : List Int} {D : List Nat} {E : List (Nat × Nat × Nat)} {lt : List Value} {m : Nat} {T : Int → Option Ty} {L : List Nat} {ks : List Pr} {gs : List Gp} {P q mw : Nat} {k : Int} {nm : Str} {v : Int} {kids : List Ty} {ls : List Str} {rv : Int} {fr tr : List Ty} (h : BI w0 t u K D E lt m T L ks gs P q (.mk k nm v kids ls rv :: fr) tr mw) (h7 : k = 7) (hv : v ∈ K) : T v = none := by
  have := h.lin v hv
  simp only [occL, occ, h7, true_and, if_true] at this
  unfold sd at this
  split at this
  · assumption
  · omega
theorem BI.step {w0 : World} {t u : Ty} {K : List Int} {D : List Nat} {E : List (Nat × Nat × Nat)} {lt : List Value} {m : Nat} {T : Int → Option Ty} {L : List Nat} {ks : List Pr} {gs : List Gp} {P0 q mw : Nat} {f g : Ty} {fr tr : List Ty} (h : BI w0 t u K D E lt m T L ks gs P0 q (f :: fr) (g :: tr) mw) (hh : hdM K f g = true)
    {lf lu : List Value} (hf : TFV w0 f lf) (hu : TRV w0 g lu) (hs : srtT f) (hg : g.size ≤ 1000) {m' : Nat} {T' : Int → Option Ty} {L' : List Nat} {ks' : List Pr} (hr : PartRel K m T L ks f g (cell3 lf) (cell3 lu) m' T' L' ks')
    (hx : ∀ x, rtOf lf x → x ∉ L ∧ x ∈ D ∧ (rtOf lt x ∨ ((P0, q, x) ∈ E ∧ P0 ∈ L ∧ P0 ∉ ks.map blk))) : ∃ gs', BI w0 t u K D E lt m' T' L' ks' gs' P0 (q + 1) fr tr mw := by
  obtain ⟨k, nm, v, kids, ls, rv⟩ := f
  obtain ⟨k', nm', v', kids', ls', rv'⟩ := g
  have hwk := h.wk
  have hwq := h.wq
  simp only [Ty.sizeL, Ty.size] at hwk hwq
  have hpl : pmL K (.mk k nm v kids ls rv :: fr) (.mk k' nm' v' kids' ls' rv' :: tr) = ((decide (k = 7 ∧ v ∈ K) || pmL K kids kids') && pmL K fr tr) := by simp [pmL, pm, hh]
  have hiff := h.iff
  rw [hpl] at hiff
  have hvis : ∀ x ∈ L, rtOf lt x ∨ ∃ P j, (P, j, x) ∈ E ∧ P ∈ L ∧ P ∉ ks.map blk ∧ (P = P0 → j < q + 1) := fun x hx => by
    rcases h.vis x hx with hr | ⟨P2, j, h1, h2, h3, h4⟩
    · exact .inl hr
    · exact .inr ⟨P2, j, h1, h2, h3, fun e => by have := h4 e; omega⟩
  rcases hr with ⟨hb, rfl, rfl, rfl, rfl⟩ | ⟨hb, rfl, rfl, hr⟩
  · refine ⟨gs, h.len, h.ok, ?_, fun n hn => ?_, by omega, by omega, h.nd, h.bL, h.LD, hvis⟩
    · rw [hiff]
      simp [hb]
    · have h1 := h.lin n hn
      simp only [occL, occ] at h1
      by_cases e : v = n
      · subst e
        simp only [hb.1, true_and, if_true] at h1
        have h2 : sd (setF T v (.mk k' nm' v' kids' ls' rv')) v ≤ 1 := by unfold sd; split <;> omega
        omega
      · have h3 : setF T v (.mk k' nm' v' kids' ls' rv') n = T n := if_neg (fun h => e h.symm)
        have h2 : sd (setF T v (.mk k' nm' v' kids' ls' rv')) n = sd T n := by unfold sd; rw [h3]
        omega
  · have hlen : kids.length = kids'.length := by
      rw [hdM_neg hb] at hh
      have := of_decide_eq_true hh
      exact this.2.2.2.1
    rcases hr with ⟨h0, rfl, rfl⟩ | ⟨h0, h1, x, hfv, rfl, rfl⟩
    · have e1 : kids = [] := List.eq_nil_of_length_eq_zero (by omega)
      have e2 : kids' = [] := List.eq_nil_of_length_eq_zero (by omega)
      subst e1 e2
      refine ⟨gs, h.len, h.ok, ?_, fun n hn => ?_, by omega, by omega, h.nd, h.bL, h.LD, hvis⟩
      · rw [hiff]
        simp [pmL]
      · have h1 := h.lin n hn
        simp only [occL, occ] at h1
        omega
    · obtain ⟨kv, lv, rfl, hkv, hlv, hok, hks⟩ := hf
      obtain ⟨kv2, lv2, rfl, hkv2, hlv2, hok2, hks2⟩ := hu
      have hfv : kv = .slice (some ⟨x, 0, none⟩) kids.length kids.length := hfv
      obtain ⟨A2, d, rfl, hd, ha⟩ := hkv2.form
      obtain ⟨g2, o2, rfl⟩ := ha h1
      obtain ⟨hxL, hxD, hxE⟩ := hx x ⟨_, _, by rw [hfv]; rfl⟩
      subst hfv
      refine ⟨gs ++ [(kids, kids')], by simp [h.len], fun i k2 g hk hg => ?_, ?_, fun n hn => ?_, ?_, ?_, ?_, fun k2 hk2 => ?_, fun y hy => ?_, fun y hy => ?_⟩
      · by_cases hi : i < ks.length
        · rw [List.getElem?_append_left hi] at hk
          rw [List.getElem?_append_left (by have := h.len; omega)] at hg
          exact h.ok i k2 g hk hg
        · have hi2 := (List.getElem?_eq_some_iff.1 hk).1
          simp only [List.length_append, List.length_cons, List.length_nil] at hi2
          obtain rfl : i = ks.length := by omega
          rw [List.getElem?_append_right (Nat.le_refl _)] at hk
          rw [h.len, List.getElem?_append_right (Nat.le_refl _)] at hg
          simp only [Nat.sub_self, List.getElem?_cons_zero, Option.some.injEq] at hk hg
          subst hk hg
          refine ⟨rfl, h0, fun i t ht => ?_, hlen, ⟨g2, o2, d, rfl, hd, fun i t ht => hks2 i t ht⟩, hs.2, fun t ht => ?_⟩
          · have := hks i t ht
            simp only [kidAt, Nat.zero_add] at this
            exact this
          · have ht : t ∈ kids' := ht
            have := size_kid ht
            simp only [Ty.size] at hg
            omega
      · rw [hiff]
        have hbf : decide (k = 7 ∧ v ∈ K) = false := decide_eq_false hb
        rw [hbf, Bool.false_or, Bool.and_eq_true]
        constructor
        · rintro ⟨a, b, c⟩
          refine ⟨fun g hg => ?_, c⟩
          rcases List.mem_append.1 hg with hg | hg
          · exact a g hg
          · rw [List.mem_singleton.1 hg]; exact b
        · rintro ⟨a, c⟩
          exact ⟨fun g hg => a g (List.mem_append_left _ hg), a (kids, kids') (by simp), c⟩
      · have h1 := h.lin n hn
        rw [occS_app]
        simp only [occL, occ] at h1
        simp only [occS, List.map_cons, List.map_nil, List.sum_cons, List.sum_nil] at h1 ⊢
        omega
      · rw [wkS_app]
        simp only [wkS, List.map_cons, List.map_nil, List.sum_cons, List.sum_nil] at hwk ⊢
        omega
      · rw [wkS_app]
        simp only [wkS, List.map_cons, List.map_nil, List.sum_cons, List.sum_nil] at hwq ⊢
        omega
      · rw [List.map_append, List.nodup_append]
        refine ⟨h.nd, by simp, fun a ha b hb2 => ?_⟩
        obtain ⟨k2, hk2, rfl⟩ := List.mem_map.1 ha
        simp only [List.map_cons, List.map_nil, List.mem_singleton] at hb2
        intro e
        have h3 := h.bL k2 hk2
        rw [e, hb2] at h3
        exact hxL h3
      · rcases List.mem_append.1 hk2 with hk2 | hk2
        · exact List.mem_append_left _ (h.bL k2 hk2)
        · rw [List.mem_singleton.1 hk2]; exact List.mem_append_right _ (List.mem_singleton.2 rfl)
      · rcases List.mem_append.1 hy with hy | hy
        · exact h.LD y hy
        · rw [List.mem_singleton.1 hy]; exact hxD
      · have hnew : ∀ P, P ∈ L → P ∉ ks.map blk → P ∉ (ks ++ [(⟨.slice (some ⟨x, 0, none⟩) kids.length kids.length, .slice (some ⟨g2, o2, none⟩) kids'.length d⟩ : Pr)]).map blk := fun P h1 h2 h3 => by
          rw [List.map_append, List.mem_append] at h3
          rcases h3 with h3 | h3
          · exact h2 h3
          · simp only [List.map_cons, List.map_nil, List.mem_singleton] at h3
            have h3 : P = x := h3
            exact hxL (h3 ▸ h1)
        rcases List.mem_append.1 hy with hy | hy
        · rcases hvis y hy with hr | ⟨P2, j, a1, a2, a3, a4⟩
          · exact .inl hr
          · exact .inr ⟨P2, j, a1, List.mem_append_left _ a2, hnew P2 a2 a3, a4⟩
        · rw [List.mem_singleton.1 hy]
          rcases hxE with hr | ⟨a1, a2, a3⟩
          · exact .inl hr
          · exact .inr ⟨P0, q, a1, List.mem_append_left _ a2, hnew P0 a2 a3, fun _ => Nat.lt_succ_self q⟩
end Go.Proofs.Ythdfomcpoofkaaa

/- Labels in order: what one list has more than another; what becomes of a type, where something stands in the stead of bound variables. -/
namespace Go.Proofs.Ythdfomcpoofkaaa.Si
open Go.RowKit

def leS (x y : Str) : Bool := decide (x ≤ y)
theorem leS_trans (a b c : Str) (h : leS a b = true) (k : leS b c = true) : leS a c = true := decide_eq_true (List.le_trans (of_decide_eq_true h) (of_decide_eq_true k))
theorem leS_total (a b : Str) : (leS a b || leS b a) = true := by
  rw [Bool.or_eq_true]
  exact (List.le_total a b).imp decide_eq_true decide_eq_true
theorem leS_anti (a b : Str) (h : leS a b = true) (k : leS b a = true) : a = b := List.le_antisymm (of_decide_eq_true h) (of_decide_eq_true k)
abbrev srt (l : List Str) : Prop := l.Pairwise fun a b => leS a b = true
theorem srt_sort (l : List Str) : srt (Rw.sortS l) := List.pairwise_mergeSort leS_trans leS_total l
theorem sort_perm (l : List Str) : (Rw.sortS l).Perm l := List.mergeSort_perm _ _
theorem srt_of {l : List Str} (h : Rw.sortS l = l) : srt l := h ▸ srt_sort l
theorem srt_eq : ∀ {a b : List Str}, a.Perm b → srt a → srt b → a = b
  | [], b, h, _, _ => (List.Perm.nil_eq h)
  | x :: a, [], h, _, _ => by have := h.length_eq; simp at this
  | x :: a, y :: b, h, ha, hb => by
    rw [srt, List.pairwise_cons] at ha hb
    have hxy : leS x y = true := by
      rcases List.mem_cons.1 (h.mem_iff.2 (List.mem_cons_self ..)) with e | hm
      · rw [e]; have := leS_total x x; rwa [Bool.or_self] at this
      · exact ha.1 y hm
    have hyx : leS y x = true := by
      rcases List.mem_cons.1 (h.mem_iff.1 (List.mem_cons_self ..)) with e | hm
      · rw [e]; have := leS_total y y; rwa [Bool.or_self] at this
      · exact hb.1 x hm
    have e := leS_anti x y hxy hyx
    subst e
    rw [srt_eq ((List.perm_cons x).1 h) ha.2 hb.2]
theorem sort_id {l : List Str} (h : srt l) : Rw.sortS l = l := srt_eq (sort_perm l) (srt_sort l) h
/-- What a list has more than another one, both in order. -/
def moreS : List Str → List Str → List Str
  | [], _ => []
  | a :: r, [] => a :: moreS r []
  | a :: r, b :: o => if a = b then moreS r o else a :: moreS r (b :: o)
theorem moreS_nil : ∀ r : List Str, moreS r [] = r
  | [] => rfl
  | a :: r => by rw [moreS, moreS_nil r]
theorem more_of : ∀ (M ls X : List Str), srt M → srt ls → srt X → M.Perm (ls ++ X) → moreS M ls = X
  | M, [], X, hM, _, hX, h => by rw [moreS_nil]; exact srt_eq h hM hX
  | [], b :: o, X, _, _, _, h => by have := h.length_eq; simp at this
  | a :: r, b :: o, X, hM, hl, hX, h => by
    have hM' := List.pairwise_cons.1 hM
    have hl' := List.pairwise_cons.1 hl
    by_cases e : a = b
    · subst e
      rw [moreS, if_pos rfl]
      exact more_of r o X hM'.2 hl'.2 hX ((List.perm_cons a).1 h)
    · rw [moreS, if_neg e]
      have hab : leS a b = true := by
        rcases List.mem_cons.1 (h.mem_iff.2 (List.mem_append_left X (List.mem_cons_self ..))) with e' | hm
        · exact absurd e'.symm e
        · exact hM'.1 b hm
      have hmin : ∀ x ∈ X, leS a x = true := fun x hx => by
        rcases List.mem_cons.1 (h.mem_iff.2 (List.mem_append_right (b :: o) hx)) with e' | hm
        · rw [e']; have := leS_total a a; rwa [Bool.or_self] at this
        · exact hM'.1 x hm
      have haX : a ∈ X := by
        rcases List.mem_append.1 (h.mem_iff.1 (List.mem_cons_self ..)) with hm | hm
        · rcases List.mem_cons.1 hm with e' | hm
          · exact absurd e' e
          · exact absurd (leS_anti a b hab (hl'.1 a hm)) e
        · exact hm
      match X, hX, hmin, haX, h with
      | [], _, _, haX, _ => cases haX
      | c :: X', hX, hmin, haX, h =>
        have hX' := List.pairwise_cons.1 hX
        have hac : a = c := by
          rcases List.mem_cons.1 haX with e' | hm
          · exact e'
          · exact leS_anti a c (hmin c (List.mem_cons_self ..)) (hX'.1 a hm)
        subst hac
        have h2 : r.Perm (b :: o ++ X') := (List.perm_cons a).1 (h.trans List.perm_middle)
        rw [more_of r (b :: o) X' hM'.2 hl hX'.2 h2]
theorem more_sort {ls X : List Str} (hl : srt ls) (hX : srt X) : moreS (Rw.sortS (ls ++ X)) ls = X := more_of _ _ _ (srt_sort _) hl hX (sort_perm _)

/-- What stands in the stead of bound variables. -/
structure Ins where
  K : List Int
  R : List Int
  t : Int → Ty
  r : Int → List Str × Int
/-- What becomes of a row. -/
def rwI (s : Ins) (r : List Str × Int) : List Str × Int := if r.2 ∈ s.R then (Rw.sortS (r.1 ++ (s.r r.2).1), (s.r r.2).2) else r
mutual
/-- What becomes of a type. -/
def ins (s : Ins) : Ty → Ty
  | .mk k nm v kids ls rv => if k = 7 ∧ v ∈ s.K then s.t v else .mk k nm v (insL s kids) (rwI s (ls, rv)).1 (rwI s (ls, rv)).2
def insL (s : Ins) : List Ty → List Ty
  | [] => []
  | t :: r => ins s t :: insL s r
end
theorem insL_map (s : Ins) : ∀ l, insL s l = l.map (ins s)
  | [] => rfl
  | t :: r => by rw [insL, List.map_cons, insL_map s r]
/-- What was said is what stands there. -/
structure Good (s : Ins) (T : Int → Option Ty) (Q : Int → Option (List Str × Int)) : Prop where
  t : ∀ n u, T n = some u → n ∈ s.K ∧ u = s.t n
  r : ∀ n u, Q n = some u → n ∈ s.R ∧ u = s.r n
/-- The rows that are put in are in order, and not too large; none is put in in the stead of none. -/
structure Fit (s : Ins) : Prop where
  nz : (0 : Int) ∉ s.R
  srt : ∀ n ∈ s.R, Rw.sortS (s.r n).1 = (s.r n).1
  ok : ∀ n ∈ s.K, i64ok n
  okr : ∀ n ∈ s.R, i64ok n
end Go.Proofs.Ythdfomcpoofkaaa.Si

/- ApplyRow where something is said of the row's variable. -/
namespace Go.Proofs.Ythdfomcpoofkaaa
open Go.RowKit

set_option maxRecDepth 100000 in
set_option maxHeartbeats 4000000 in
/-- A row of whose variable something is said: its labels and those, sorted. -/
theorem applyRow_said (w : World) (sv : Value) (m : Nat) (T : Int → Option Ty) (R : Int → Option (List Str × Int)) (hs : SubV w sv m T R) (hm : m ≤ 1000000) (lv : Value) (ls : List Str) (rv : Int) (hlv : StrR w lv ls) (hrv : i64ok rv) (ls2 : List Str) (rv2 : Int) (hno : insR R rv = some (ls2, rv2)) (hlen : ls.length + ls2.length ≤ 2000000) :
    Calls Try.prog 73 #[sv, .agg #[lv, .int .i64 rv]] w fun e w' => ∃ v', e = .returned (.agg #[v', .int .i64 rv2]) ∧ OwnL w' w.heap.size v' (Rw.sortS (ls ++ ls2)) ∧ Below w.heap.size w w' := by
  have hs0 := hs
  have hlv0 := hlv
  obtain ⟨vt, vr, gt, gr, rfl, hst, hsr, _, _⟩ := hs
  obtain ⟨A1, n1, c1, rfl⟩ := hst.one
  obtain ⟨A2, n2, c2, rfl⟩ := hsr.one
  obtain ⟨A4, n4, c4, rfl⟩ : ∃ A n c, lv = .slice A n c := by rcases hlv.1 with ⟨rfl, _⟩ | ⟨_, _, rfl, _⟩ <;> exact ⟨_, _, _, rfl⟩
  obtain ⟨W, hW⟩ : ∃ W, W = ((w.alloc (.cells #[.slice A1 n1 c1, .slice A2 n2 c2] 38)).alloc (.cells #[.slice A4 n4 c4, .int .i64 rv] 26)).alloc (.cells #[.slice none 0 0, .int .i64 0] 26) := ⟨_, rfl⟩
  have hb : Below w.heap.size w W := by rw [hW]; exact (((Below.refl _ w).alloc (Nat.le_refl _) _).alloc (by simp) _).alloc (by simp; omega) _
  have k1 : Lies W (w.heap.size + 1) 26 #[.slice A4 n4 c4, .int .i64 rv] := by rw [hW]; exact (Lies.new' _ _ _ (by simp)).alloc _
  have k2 : Lies W (w.heap.size + 2) 26 zeroR := by rw [hW]; exact Lies.new' _ _ _ (by simp)
  have hins := insR_any W _ m T R (hs0.later hb) hm _ ls rv (hlv0.keep hb.block) hrv
  rw [hno] at hins
  have HW := Lib.hid hW
  have HB := Lib.hid hb
  have HI := Lib.hid hins
  have HK1 := Lib.hid k1
  have HK2 := Lib.hid k2
  have HLV := Lib.hid hlv0
  clear hins hW hb k1 k2 hst hsr hs0 hlv hlv0 hno
  go_enter Try.func73, Try.ntmps73
  go_wp2_with fail
  rw [← HW.out]
  refine HI.out.mono ?_
  rintro e w1 ⟨⟨l, rfl, hl⟩, hb1⟩
  obtain ⟨lv2, rfl, h2, hok2⟩ := hl
  have h20 := h2
  obtain ⟨A6, n6, c6, rfl⟩ : ∃ A n c, lv2 = .slice A n c := by rcases h2.1 with ⟨rfl, _⟩ | ⟨_, _, rfl, _⟩ <;> exact ⟨_, _, _, rfl⟩
  have hb2 : Below w.heap.size w w1 := HB.out.trans (hb1.mono HB.out.size)
  have j1 := HK1.out.later hb1
  have j2 := HK2.out.later hb1
  obtain ⟨X, hX⟩ : ∃ X, X = w1.alloc (.cells #[.slice A6 n6 c6, .int .i64 rv2] 26) := ⟨_, rfl⟩
  have hbz : Below w1.heap.size w1 X := by rw [hX]; exact below_new _ _
  have lX : Lies X w1.heap.size 26 #[.slice A6 n6 c6, .int .i64 rv2] := by rw [hX]; exact Lies.new _ _ _
  have i1 := j1.later hbz
  have i2 := j2.later hbz
  have c0 := i1.cell 0
  have x0 := lX.cell 0
  have hwX : Below w.heap.size w X := hb2.trans (hbz.mono hb2.size)
  obtain ⟨Y, hY⟩ : ∃ Y, Y = X.alloc (.cells #[.slice A4 n4 c4, .slice A6 n6 c6] 24) := ⟨_, rfl⟩
  have hbY : Below X.heap.size X Y := by rw [hY]; exact below_new _ _
  have hXs : X.heap.size = w1.heap.size + 1 := by rw [hX]; simp
  have lY : Lies Y (w1.heap.size + 1) 24 #[.slice A4 n4 c4, .slice A6 n6 c6] := by rw [hY, ← hXs]; exact Lies.new _ _ _
  have hwY : Below w.heap.size w Y := hwX.trans (hbY.mono hwX.size)
  have hs1 := (HLV.out.keep hwY.block).1
  have hs2 := ((h20.keep hbz.block).keep hbY.block).1
  have hcc := concatS_any [(.slice A4 n4 c4, ls.map encS), (.slice A6 n6 c6, ls2.map encS)] (w1.heap.size + 1) 2 Y lY (Nat.le_refl 2) (fun p hp => by
    rcases List.mem_cons.1 hp with rfl | hp
    · exact hs1
    · rw [List.mem_singleton.1 hp]; exact hs2) (fun p hp => by
    rcases List.mem_cons.1 hp with rfl | hp
    · exact encS_one ls
    · rw [List.mem_singleton.1 hp]; exact encS_one ls2) (by simp; omega) (by simp)
  have HX := Lib.hid hX
  have HY := Lib.hid hY
  have HCC := Lib.hid hcc
  have HI2 := Lib.hid i2
  have HLX := Lib.hid lX
  have HBX := Lib.hid (hbz.trans (hbY.mono hbz.size))
  have HXY := Lib.hid hbY
  have HWY := Lib.hid hwY
  have HXS := Lib.hid hXs
  have hltw := HK2.out.lt
  unfold zeroR at HI2
  clear hb2 hbz i1 i2 j1 j2 h2 h20 lX hwX hbY lY hwY hs1 hs2 hcc hXs
  rw [hX] at c0 x0
  clear hX hY
  go_wp2_with fail
  clear c0 x0
  rw [← HX.out, ← HY.out]
  refine HCC.out.mono ?_
  rintro e w2 ⟨v3, rfl, ho3, hb3⟩
  have ho3' : OwnL w2 Y.heap.size v3 (ls ++ ls2) := by
    unfold OwnL
    simpa using ho3
  obtain ⟨A7, n7, c7, rfl⟩ := own_slice ho3'
  have hbX2 := HXY.out.trans (hb3.mono HXY.out.size)
  have y1 := (HLX.out.later hbX2).cell 1
  have hso := Rw.sorted_any (.slice A7 n7 c7) (ls ++ ls2) rv2 w2 (Rw.Strs.of (ho3'.str (by rw [List.length_append]; omega))) (by rw [List.length_append]; omega)
  unfold Rw.rowV at hso
  have HSO := Lib.hid hso
  have HW2 := Lib.hid (HWY.out.trans (hb3.mono HWY.out.size))
  have HI3 := Lib.hid (HI2.out.later hbX2)
  clear ho3 ho3' hbX2 hso hb3
  go_wp2_with fail
  refine HSO.out.mono ?_
  rintro e w3 ⟨v4, rfl, ho4, hb4⟩
  have hlen4 : (Rw.sortS (ls ++ ls2)).length = ls.length + ls2.length := by rw [Rw.sortS_len, List.length_append]
  have hcp := copiedRow_any v4 (Rw.sortS (ls ++ ls2)) rv2 w3 ⟨own_row_src ho4.own, by omega⟩
  obtain ⟨A8, n8, c8, rfl⟩ := ho4.slice
  have HCP := Lib.hid hcp
  have HW3 := Lib.hid (HW2.out.trans (hb4.mono HW2.out.size))
  have HI4 := Lib.hid (HI3.out.later hb4)
  have hw23 := hb4.size
  clear hcp ho4 hb4 hlen4
  go_wp2_with fail
  refine HCP.out.mono ?_
  rintro e w4 ⟨v5, rfl, ho5, hb5⟩
  have n3 := HI4.out.later hb5
  have d0 := n3.cell 0
  have d1 := n3.cell 1
  have e0 := n3.free 0
  have e1 := n3.free 1
  have l3 := n3.lt
  have l4 := HI4.out.lt
  have HO5 := Lib.hid ho5
  obtain ⟨A5, n5, c5, rfl⟩ := own_slice ho5
  clear ho5
  go_wp2_with fail
  refine bodyPost_ret (v := .agg #[.slice A5 n5 c5, .int .i64 rv2]) (results_cell_row rfl _ _ (w.heap.size + 2) 26 _ (0, 0) _ rfl ((n3.set 0 (.slice A5 n5 c5)).set 1 (.int .i64 rv2)) Try.underlying26 rfl size_R) rfl ?_
  have hs3 := HW3.out.size
  have hB4 : Below w.heap.size w w4 := HW3.out.trans (hb5.mono hs3)
  refine ⟨_, rfl, ?_, (hB4.setCell (p := ⟨w.heap.size + 2, 0, none⟩) (by simp) _).setCell (p := ⟨w.heap.size + 2, 1, none⟩) (by simp) _⟩
  refine own_mono (own_same HO5.out fun g hg hlt => ?_) (by omega)
  have hne : g ≠ w.heap.size + 2 := by omega
  exact (Below.heap_setCell _ ⟨w.heap.size + 2, 1, none⟩ _ g hne).trans (Below.heap_setCell _ ⟨w.heap.size + 2, 0, none⟩ _ g hne)
end Go.Proofs.Ythdfomcpoofkaaa

/- become and ApplyRow, where something may be said of rows, too. -/
namespace Go.Proofs.Ythdfomcpoofkaaa
open Go.RowKit

/-- What becomes of a row. -/
def apR (R : Int → Option (List Str × Int)) (r : List Str × Int) : List Str × Int := match insR R r.2 with | some u => (Rw.sortS (r.1 ++ u.1), u.2) | none => r
/-- What becomes of it is no row too long. -/
def fitR (R : Int → Option (List Str × Int)) (r : List Str × Int) : Prop := (apR R r).1.length ≤ 2000000
theorem applyRow_all (w : World) (sv : Value) (m : Nat) (T : Int → Option Ty) (R : Int → Option (List Str × Int)) (hs : SubV w sv m T R) (hm : m ≤ 1000000) (lv : Value) (ls : List Str) (rv : Int) (hlv : StrR w lv ls) (hrv : i64ok rv) (hfit : fitR R (ls, rv)) :
    Calls Try.prog 73 #[sv, .agg #[lv, .int .i64 rv]] w fun e w' => ∃ v', e = .returned (.agg #[v', .int .i64 (apR R (ls, rv)).2]) ∧ OwnL w' w.heap.size v' (apR R (ls, rv)).1 ∧ Below w.heap.size w w' := by
  unfold fitR at hfit
  unfold apR at hfit ⊢
  cases h : insR R rv with
  | none => exact applyRow_any w sv m T R hs hm lv ls rv hlv hrv h
  | some u =>
    obtain ⟨ls2, rv2⟩ := u
    simp only [h] at hfit ⊢
    rw [Rw.sortS_len, List.length_append] at hfit
    exact applyRow_said w sv m T R hs hm lv ls rv hlv hrv ls2 rv2 h hfit
set_option maxRecDepth 100000 in
set_option maxHeartbeats 16000000 in
theorem become_none (w0 w : World) (p B : Nat) (vt vr td : Value) (n : Nat) (tc : List Value) (m : Nat) (T : Int → Option Ty) (R : Int → Option (List Str × Int)) (hs : SubV w0 (.agg #[vt, vr]) m T R) (hm : m ≤ 1000000) (hB0 : Below w0.heap.size w0 w) (hpB : p < B) (hBw : B ≤ w.heap.size) (haps : ApS w p B vt vr td n tc) (hn : n ≤ 1000000)
    (l : List Value) (k : Int) (nm : Str) (v : Int) (kids : List Ty) (ls : List Str) (rv : Int) (ht : TRV w0 (.mk k nm v kids ls rv) l) (hI : insT T k v = none) (ls' : List Str) (rv' : Int) (hr' : (ls', rv') = apR R (ls, rv)) (hapl : fitR R (ls, rv)) (hkl : kids.length ≤ 1000000) :
    Calls Try.prog 61 #[.pointer (some ⟨p, 0, none⟩), .agg l.toArray, .bool false] w (BecEnd w0 w p B vt vr td n tc k nm v kids ls' rv' false) := by
  have hfit : ls'.length ≤ 2000000 := by unfold fitR at hapl; rw [← hr'] at hapl; exact hapl
  have ht0 := ht
  obtain ⟨kvO, lvO, rfl, hkvO, hlvO, hokO, hksO⟩ := ht
  obtain ⟨AO, cO, rfl, _, _⟩ := hkvO.form
  obtain ⟨AP, nP, cP, rfl⟩ : ∃ A n c, lvO = .slice A n c := by rcases hlvO.1 with ⟨rfl, _⟩ | ⟨_, _, rfl, _⟩ <;> exact ⟨_, _, _, rfl⟩
  have hsv := hs
  obtain ⟨vt', vr', gt, gr, hv, hst, hsr, htm, hrm⟩ := hs
  injection hv with hv
  obtain ⟨rfl, rfl⟩ : vt = vt' ∧ vr = vr' := by simpa using hv
  obtain ⟨A1, n1, c1, rfl⟩ := hst.one
  obtain ⟨A2, n2, c2, rfl⟩ := hsr.one
  clear hv
  unfold tyC at ht0 ⊢
  have HB0 := Lib.hid hB0
  have HAPS := Lib.hid haps
  have HKL := Lib.hid hkl
  have hap := haps.at_
  have hplt := hap.lt
  have c0 := hap.cell 0
  have c1' := hap.cell 1
  have HBwB := Lib.hid hBw
  obtain ⟨W, hW⟩ : ∃ W, W = ((w.alloc (.cells #[.int .i64 k, .string (ba nm), .int .i64 v, .slice AO kids.length cO, .slice AP nP cP, .int .i64 rv] 28)).alloc (.cells zeroT 28)).alloc (.cells #[.slice A1 n1 c1, .slice A2 n2 c2] 38) := ⟨_, rfl⟩
  have hbW : Below w.heap.size w W := by rw [hW]; exact (((Below.refl _ w).alloc (Nat.le_refl _) _).alloc (by simp) _).alloc (by simp; omega) _
  have k4 : Lies W w.heap.size 28 #[.int .i64 k, .string (ba nm), .int .i64 v, .slice AO kids.length cO, .slice AP nP cP, .int .i64 rv] := by rw [hW]; exact ((Lies.new' _ _ _ (by simp)).alloc _).alloc _
  have k6 : Lies W (w.heap.size + 1) 28 zeroT := by rw [hW]; exact (Lies.new' _ _ _ (by simp)).alloc _
  have k7 : Lies W (w.heap.size + 2) 38 #[.slice A1 n1 c1, .slice A2 n2 c2] := by rw [hW]; exact Lies.new' _ _ _ (by simp)
  have HW := Lib.hid hW
  have HBW := Lib.hid hbW
  have HK4 := Lib.hid k4
  have HK6 := Lib.hid k6
  have HK7 := Lib.hid k7
  clear hW hbW k4 k6 k7 hap
  unfold zeroT at HW
  have hT0W : SaidV W 6 (.slice A1 n1 c1) m gt := hst.keep (HB0.out.trans (HBW.out.mono HB0.out.size)).block
  have hcall := insTb_any w0 w0 W (.slice A1 n1 c1) (.slice A2 n2 c2) m T gt hT0W ⟨_, _, _, rfl⟩ htm hm k nm v kids ls rv _ ht0
  have HCALL := Lib.hid hcall
  have HSV := Lib.hid hsv
  have HKV := Lib.hid hkvO
  have HLV := Lib.hid hlvO
  have HOK := Lib.hid hokO
  have HKSO := Lib.hid hksO
  clear hT0W hcall hst hsr htm hrm hsv haps hB0 hBw hkl hkvO hlvO hokO hksO ht0
  go_enter Try.func61, Try.ntmps61
  go_wp2_with fail
  rw [← HW.out]
  refine HCALL.out.mono ?_
  rintro e w2 ⟨hins, hb2⟩
  rw [hI] at hins
  obtain rfl := hins
  have HSL := HKV
  have HLS := HLV
  have HOKS := HOK
  have HKIDS := HKSO
  obtain ⟨V, hVW⟩ : ∃ V, V = w2.alloc (.cells zeroT 28) := ⟨_, rfl⟩
  have hb2V : Below W.heap.size W V := by rw [hVW]; exact hb2.trans ((below_new _ _).mono hb2.size)
  have bT := HK4.out.later hb2V
  have bZ := HK6.out.later hb2V
  have bS := HK7.out.later hb2V
  have hbV : Below w.heap.size w V := HBW.out.trans (hb2V.mono HBW.out.size)
  have HVW := Lib.hid hVW
  unfold zeroT at HVW ⊢
  clear hVW hb2V
  have HV := Lib.hid (hbV : Below w.heap.size w V)
  have z0 := bT.cell 4
  have z1 := bT.cell 5
  have y0 := bS.cell 0
  have y1 := bS.cell 1
  rw [HVW.out] at z0 z1 y0 y1
  have hBV0 : Below w0.heap.size w0 V := HB0.out.trans (hbV.mono HB0.out.size)
  have hrow := applyRow_all V (.agg #[.slice A1 n1 c1, .slice A2 n2 c2]) m T R (HSV.out.later hBV0) hm (.slice AP nP cP) ls rv (HLS.out.keep hBV0.block) HOKS.out.2.2 hapl
  rw [← hr'] at hrow
  dsimp only at hrow
  have HROW := Lib.hid hrow
  have HBT := Lib.hid bT
  have HBZ := Lib.hid bZ
  have HBS := Lib.hid bS
  have lV := hbV.size
  have ltT := bT.lt
  have ltZ := bZ.lt
  clear hrow bT bZ bS hbV
  go_wp2_with fail
  rw [← HVW.out]
  refine HROW.out.mono ?_
  rintro e w5 ⟨lv', rfl, hol, hb5⟩
  have cT := HBT.out.later hb5
  have a4 := cT.cell 4
  have a5 := cT.cell 5
  have g4 := cT.free 4
  have g5 := cT.free 5
  have lt5 := cT.lt
  have HOL := Lib.hid hol
  obtain ⟨A7, n7, c7, rfl⟩ := own_slice hol
  obtain ⟨w6, hw6⟩ : ∃ w6, w6 = (w5.setCell ⟨w.heap.size, 4, none⟩ (.slice A7 n7 c7)).setCell ⟨w.heap.size, 5, none⟩ (.int .i64 rv') := ⟨_, rfl⟩
  have hb56 : Below w.heap.size w5 w6 := by rw [hw6]; exact ((Below.refl _ _).setCell (p := ⟨w.heap.size, 4, none⟩) (Nat.le_refl _) _).setCell (p := ⟨w.heap.size, 5, none⟩) (Nat.le_refl _) _
  have hob56 : ∀ i, i ≠ w.heap.size → w6.heap[i]? = w5.heap[i]? := fun i hi => by rw [hw6]; exact (Below.heap_setCell _ ⟨w.heap.size, 5, none⟩ _ i hi).trans (Below.heap_setCell _ ⟨w.heap.size, 4, none⟩ _ i hi)
  have hs56 : w6.heap.size = w5.heap.size := by rw [hw6]; simp [World.size_setCell]
  have dT : Lies w6 w.heap.size 28 #[.int .i64 k, .string (ba nm), .int .i64 v, .slice AO kids.length cO, .slice A7 n7 c7, .int .i64 rv'] := by rw [hw6]; exact (cT.set 4 _).set 5 _
  have dZ : Lies w6 (w.heap.size + 1) 28 zeroT := (hob56 _ (by omega)).trans (HBZ.out.later hb5)
  have hBw5 : Below w.heap.size w w5 := HV.out.trans (hb5.mono HV.out.size)
  have hBw6 : Below w.heap.size w w6 := hBw5.trans hb56
  have aps6 : ApS w6 p B (.slice A1 n1 c1) (.slice A2 n2 c2) td n tc := HAPS.out.below hBw6
  have x3 := dT.cell 3
  rw [hw6] at x3
  have HW6 := Lib.hid hw6
  have HOB := Lib.hid hob56
  have HBW6 := Lib.hid hBw6
  have HDT := Lib.hid dT
  have HDZ := Lib.hid dZ
  have HAPS6 := Lib.hid aps6
  have HS56 := Lib.hid hs56
  have HB5 := Lib.hid hb5
  have hl6 : OwnL w6 V.heap.size (.slice A7 n7 c7) ls' := own_same HOL.out fun i hi _ => HOB.out i (by omega)
  have HL6 := Lib.hid hl6
  have hV5 := hb5.size
  clear hol cT hw6 hb56 hob56 hs56 dT dZ hBw5 hBw6 aps6 hb5 hl6
  rcases Nat.eq_zero_or_pos kids.length with hk0 | hk0
  · have hkn : kids = [] := List.length_eq_zero_iff.1 hk0
    have hca := args_none w6 p (.slice AO kids.length cO) (by rw [hk0]; have := HSL.out; rw [hk0] at this; exact this) false
    have HCA := Lib.hid hca
    have HK0 := Lib.hid hk0
    have HKN := Lib.hid hkn
    clear hca hk0 hkn
    go_wp2_with fail
    rw [← HW6.out]
    refine HCA.out.mono ?_
    rintro e w7 ⟨rfl, rfl⟩
    have q3 := HDT.out.free 3
    have q3c := HDT.out.cell 3
    have q3l := HDT.out.lt
    have eT : Lies (w7.setCell ⟨w.heap.size, 3, none⟩ (.slice none 0 0)) w.heap.size 28 #[.int .i64 k, .string (ba nm), .int .i64 v, .slice none 0 0, .slice A7 n7 c7, .int .i64 rv'] := HDT.out.set 3 (.slice none 0 0)
    have u0 := eT.cell 0
    have u1 := eT.cell 1
    have u2 := eT.cell 2
    have u3 := eT.cell 3
    have u4 := eT.cell 4
    have u5 := eT.cell 5
    have eZ := HDZ.out.far (p := ⟨w.heap.size, 3, none⟩) (by show w.heap.size + 1 ≠ w.heap.size; omega) (.slice none 0 0)
    have HET := Lib.hid eT
    clear eT
    have hc1 : (#[Value.int .i64 k, .string (ba nm), .int .i64 v, .slice none 0 0, .slice A7 n7 c7, .int .i64 rv'] : Array Value).all (·.oneCell') = true := by kernel_rfl
    go_wp2_with (first | (refine wpList_store_rowTo rfl 28 (.tmp 6) (.tmp 36) rfl rfl (w.heap.size + 1) #[.int .i64 k, .string (ba nm), .int .i64 v, .slice none 0 0, .slice A7 n7 c7, .int .i64 rv'] rfl rfl 28 _ eZ (by rw [size_T]; rfl) rfl hc1 ?_))
    have fT := Sb.setRow_at eZ #[.int .i64 k, .string (ba nm), .int .i64 v, .slice none 0 0, .slice A7 n7 c7, .int .i64 rv']
    refine bodyPost_ret (results_cell_row rfl _ _ (w.heap.size + 1) 28 _ (0, 0) _ rfl fT Try.underlying28 rfl (by rw [size_T]; rfl)) rfl ?_
    have hoth : ∀ i, i ≠ w.heap.size → i ≠ w.heap.size + 1 → ((w7.setCell ⟨w.heap.size, 3, none⟩ (.slice none 0 0)).setRow (w.heap.size + 1) #[.int .i64 k, .string (ba nm), .int .i64 v, .slice none 0 0, .slice A7 n7 c7, .int .i64 rv']).heap[i]? = w7.heap[i]? := fun i h1 h2 => (Sb.setRow_other _ _ _ i h2).trans (Below.heap_setCell _ ⟨w.heap.size, 3, none⟩ _ i h1)
    have hbF : Below w.heap.size w ((w7.setCell ⟨w.heap.size, 3, none⟩ (.slice none 0 0)).setRow (w.heap.size + 1) #[.int .i64 k, .string (ba nm), .int .i64 v, .slice none 0 0, .slice A7 n7 c7, .int .i64 rv']) := Sb.below_setRow (HBW6.out.setCell (p := ⟨w.heap.size, 3, none⟩) (Nat.le_refl _) _) (by omega) _
    have hown := own_same HL6.out fun i hi _ => hoth i (by omega) (by omega)
    refine ⟨.slice none 0 0, .slice A7 n7 c7, td, n, tc, rfl, OwnL.str hown hfit, fun b hb => ?_, HAPS.out.below hbF, .inl rfl, .of_below hbF, .inl ⟨HKN.out, rfl, rfl, rfl⟩⟩
    obtain ⟨h1, h2⟩ := own_block hown b hb
    exact ⟨by omega, h2, fun e => by have := (own_block HAPS.out.row b e).2; omega⟩
  · have hca := args_any w6 p B (.slice A1 n1 c1) (.slice A2 n2 c2) td n tc hpB (by have := HBW6.out.size; have := HBwB.out; omega) HAPS6.out hn (.slice AO kids.length cO) kids.length HSL.out hk0 HKL.out false
    have HCA := Lib.hid hca
    have HK0 := Lib.hid hk0
    clear hca hk0
    go_wp2_with fail
    rw [← HW6.out]
    refine HCA.out.mono ?_
    rintro e w7 ⟨G, td', cur, rfl, hG, hlG, hcur, haps, htG, htd, hchg⟩
    have htdw : ∀ i, w.heap.size ≤ i → td.ownBlock ≠ some i := fun i hi e => by have := (own_block HAPS.out.row i e).2; omega
    have h67 : ∀ i, w.heap.size ≤ i → i < w6.heap.size → w7.heap[i]? = w6.heap[i]? := fun i h1 h2 => hchg.block i h2 (by omega) (htdw i h1)
    have hw6s := HBW6.out.size
    have hw67 := hchg.size
    have hl6s := HDT.out.lt
    have hz6s := HDZ.out.lt
    have eT0 : Lies w7 w.heap.size 28 #[.int .i64 k, .string (ba nm), .int .i64 v, .slice AO kids.length cO, .slice A7 n7 c7, .int .i64 rv'] := (h67 _ (Nat.le_refl _) hl6s).trans HDT.out
    have eZ0 : Lies w7 (w.heap.size + 1) 28 zeroT := (h67 _ (by omega) hz6s).trans HDZ.out
    have q3 := eT0.free 3
    have q3l := eT0.lt
    have q3c := eT0.cell 3
    have eT : Lies (w7.setCell ⟨w.heap.size, 3, none⟩ (.slice (some ⟨G, 0, none⟩) kids.length kids.length)) w.heap.size 28 #[.int .i64 k, .string (ba nm), .int .i64 v, .slice (some ⟨G, 0, none⟩) kids.length kids.length, .slice A7 n7 c7, .int .i64 rv'] := eT0.set 3 (.slice (some ⟨G, 0, none⟩) kids.length kids.length)
    have u0 := eT.cell 0
    have u1 := eT.cell 1
    have u2 := eT.cell 2
    have u3 := eT.cell 3
    have u4 := eT.cell 4
    have u5 := eT.cell 5
    have eZ := eZ0.far (p := ⟨w.heap.size, 3, none⟩) (by show w.heap.size + 1 ≠ w.heap.size; omega) (.slice (some ⟨G, 0, none⟩) kids.length kids.length)
    have HCH := Lib.hid hchg
    have HLG := Lib.hid hlG
    have HAP := Lib.hid haps
    have HTD := Lib.hid htd
    have HTG := Lib.hid htG
    have HCUR := Lib.hid hcur
    have H67 := Lib.hid h67
    clear eT eT0 eZ0 hchg hlG haps htd htG hcur h67
    have hc1 : (#[Value.int .i64 k, .string (ba nm), .int .i64 v, .slice (some ⟨G, 0, none⟩) kids.length kids.length, .slice A7 n7 c7, .int .i64 rv'] : Array Value).all (·.oneCell') = true := by kernel_rfl
    go_wp2_with (first | (refine wpList_store_rowTo rfl 28 (.tmp 6) (.tmp 36) rfl rfl (w.heap.size + 1) #[.int .i64 k, .string (ba nm), .int .i64 v, .slice (some ⟨G, 0, none⟩) kids.length kids.length, .slice A7 n7 c7, .int .i64 rv'] rfl rfl 28 _ eZ (by rw [size_T]; rfl) rfl hc1 ?_))
    have fT := Sb.setRow_at eZ #[.int .i64 k, .string (ba nm), .int .i64 v, .slice (some ⟨G, 0, none⟩) kids.length kids.length, .slice A7 n7 c7, .int .i64 rv']
    refine bodyPost_ret (results_cell_row rfl _ _ (w.heap.size + 1) 28 _ (0, 0) _ rfl fT Try.underlying28 rfl (by rw [size_T]; rfl)) rfl ?_
    obtain ⟨wF, hwF⟩ : ∃ wF, wF = ((w7.setCell ⟨w.heap.size, 3, none⟩ (.slice (some ⟨G, 0, none⟩) kids.length kids.length)).setRow (w.heap.size + 1) #[.int .i64 k, .string (ba nm), .int .i64 v, .slice (some ⟨G, 0, none⟩) kids.length kids.length, .slice A7 n7 c7, .int .i64 rv']) := ⟨_, rfl⟩
    have hoth : ∀ i, i ≠ w.heap.size → i ≠ w.heap.size + 1 → wF.heap[i]? = w7.heap[i]? := fun i h1 h2 => by rw [hwF]; exact (Sb.setRow_other _ _ _ i h2).trans (Below.heap_setCell _ ⟨w.heap.size, 3, none⟩ _ i h1)
    have hsF : wF.heap.size = w7.heap.size := by rw [hwF, size_setRow, World.size_setCell]
    have hbF : Below w.heap.size w7 wF := by rw [hwF]; exact Sb.below_setRow ((Below.refl w.heap.size w7).setCell (p := ⟨w.heap.size, 3, none⟩) (Nat.le_refl _) _) (Nat.le_succ _) _
    rw [← hwF]
    have hw6c : w.heap.size + 2 ≤ w6.heap.size := by have := HDZ.out.lt; omega
    have hGs := HLG.out.lt
    have htdb : ∀ b, td'.ownBlock = some b → b < w.heap.size ∨ w6.heap.size ≤ b := fun b hb => by
      rcases HTD.out with h | ⟨b', h, h2⟩
      · rw [h] at hb; exact .inl (own_block HAPS.out.row b hb).2
      · rw [h] at hb; injection hb with hb; omega
    have hown : OwnL wF V.heap.size (.slice A7 n7 c7) ls' := own_same HL6.out fun i hi h2 => (hoth i (by omega) (by omega)).trans (H67.out i (by omega) h2)
    have hlb : ∀ b, Value.ownBlock (.slice A7 n7 c7) = some b → V.heap.size ≤ b ∧ b < w6.heap.size := own_block HL6.out
    refine ⟨.slice (some ⟨G, 0, none⟩) kids.length kids.length, .slice A7 n7 c7, td', n + 1, _, rfl, OwnL.str hown hfit, fun b hb => ?_, ⟨(hoth p (by omega) (by omega)).trans HAP.out.at_, own_sameB HAP.out.row fun i hi => (hoth i (by rcases htdb i hi with h | h <;> omega) (by rcases htdb i hi with h | h <;> omega))⟩, ?_, ?_, .inr ⟨HK0.out, G, cur, .slice AO kids.length cO, rfl, by omega, (hoth G (by omega) (by omega)).trans HLG.out, HCUR.out, HTG.out, fun b hb => ?_, rfl, rfl, HSL.out, HKIDS.out⟩⟩
    · have h1 := hlb b hb
      exact ⟨by omega, by omega, fun e => by rcases htdb b e with h | h <;> omega⟩
    · rcases HTD.out with h | ⟨b', h, h2⟩
      · exact .inl h
      · exact .inr ⟨b', h, by omega⟩
    · refine ⟨hbF.os.trans (HCH.out.os.trans HBW6.out.os), hbF.tape.trans (HCH.out.tape.trans HBW6.out.tape), hbF.output.trans (HCH.out.output.trans HBW6.out.output), by omega, fun i h1 h2 h3 => (hbF.block i h1).trans ((HCH.out.block i (by omega) h2 h3).trans (HBW6.out.block i h1))⟩
    · have h1 := hlb b hb
      omega
end Go.Proofs.Ythdfomcpoofkaaa
