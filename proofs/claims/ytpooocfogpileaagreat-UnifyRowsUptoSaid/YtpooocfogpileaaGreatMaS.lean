/- When two rows can be unified, told by how many of each label there are. -/
import Derived.Test.YtpooocfogpileaaGreatUnR
import Derived.Test.YtpooocfogpileaaGreatMaL
import Derived.Outline
import Derived.BigQuiet
namespace Go.Proofs.YtpooocfogpileaaGreat
open Go.RowKit

def moreG (c : Str → Int) : List Str → List Str
  | [] => []
  | x :: r => if 0 < c x then moreG (setC c x (c x - 1)) r else x :: moreG c r
theorem foldl_moreG : ∀ (la : List Str) (c : Str → Int) (out : List Str), (la.foldl mStep (c, out)).2 = out ++ moreG c la
  | [], c, out => by simp [moreG]
  | x :: r, c, out => by
    simp only [List.foldl_cons, mStep, moreG]
    split
    · exact foldl_moreG r _ out
    · rw [foldl_moreG r c (out ++ [x])]; simp
theorem moreL_eq (la lb : List Str) : moreL la lb = moreG (cntC lb) la := by
  unfold moreL mAll
  rw [foldl_moreG]
  simp
theorem moreG_nil : ∀ (la : List Str) (c : Str → Int), (∀ s, 0 ≤ c s) → (moreG c la = [] ↔ ∀ s, (la.count s : Int) ≤ c s)
  | [], c, hc => by simp [moreG]; exact hc
  | x :: r, c, hc => by
    unfold moreG
    by_cases hx : 0 < c x
    · rw [if_pos hx, moreG_nil r _ (fun s => by unfold setC; split; omega; exact hc s)]
      constructor
      · intro h s
        have h1 := h s
        unfold setC at h1
        by_cases hs : s = x
        · subst hs; rw [if_pos rfl] at h1; rw [List.count_cons_self]; omega
        · rw [if_neg hs] at h1; rw [List.count_cons_of_ne (fun e => hs e.symm)]; exact h1
      · intro h s
        have h1 := h s
        unfold setC
        by_cases hs : s = x
        · subst hs; rw [if_pos rfl]; rw [List.count_cons_self] at h1; omega
        · rw [if_neg hs]; rw [List.count_cons_of_ne (fun e => hs e.symm)] at h1; exact h1
    · rw [if_neg hx]
      constructor
      · intro h; cases h
      · intro h
        have h1 := h x
        rw [List.count_cons_self] at h1
        omega
/-- Has lb all that la has? -/
def fitsIn (la lb : List Str) : Prop := ∀ s, la.count s ≤ lb.count s
theorem moreL_nil (la lb : List Str) : moreL la lb = [] ↔ fitsIn la lb := by
  rw [moreL_eq, moreG_nil la _ (fun s => (cntC_le lb s).1)]
  unfold cntC fitsIn
  constructor
  · intro h s; have := h s; omega
  · intro h s; have := h s; omega
def lStep (st : List Str × Bool) (s : Str) : List Str × Bool := (st.1.erase s, st.2 && decide (s ∈ st.1))
def lAll (X : List Str) (l : List Str) : List Str × Bool := l.foldl lStep (X, true)
theorem lAll_step (X l : List Str) (k : Nat) (x : Str) (h : l[k]? = some x) : lAll X (l.take (k + 1)) = lStep (lAll X (l.take k)) x := by
  unfold lAll
  rw [take_step l k x h, List.foldl_append]
  rfl
theorem foldl_lStep : ∀ (l X : List Str) (ok : Bool), (l.foldl lStep (X, ok)).2 = true ↔ ok = true ∧ fitsIn l X
  | [], X, ok => by simp [fitsIn]
  | x :: r, X, ok => by
    simp only [List.foldl_cons, lStep]
    rw [foldl_lStep r]
    simp only [Bool.and_eq_true, decide_eq_true_eq]
    unfold fitsIn
    constructor
    · rintro ⟨⟨h1, h2⟩, h3⟩
      refine ⟨h1, fun s => ?_⟩
      have h4 := h3 s
      have h5 : 0 < X.count x := List.count_pos_iff.2 h2
      by_cases hs : s = x
      · subst hs; rw [List.count_cons_self]; rw [List.count_erase_self] at h4; omega
      · rw [List.count_cons_of_ne (fun e => hs e.symm)]; rw [List.count_erase_of_ne hs] at h4; exact h4
    · rintro ⟨h1, h3⟩
      have h5 : x ∈ X := by
        have h4 := h3 x
        rw [List.count_cons_self] at h4
        exact List.count_pos_iff.1 (by omega)
      refine ⟨⟨h1, h5⟩, fun s => ?_⟩
      have h4 := h3 s
      by_cases hs : s = x
      · subst hs; rw [List.count_cons_self] at h4; rw [List.count_erase_self]; omega
      · rw [List.count_cons_of_ne (fun e => hs e.symm)] at h4; rw [List.count_erase_of_ne hs]; exact h4
theorem lAll_ok (X l : List Str) : (lAll X l).2 = true ↔ fitsIn l X := by
  unfold lAll
  rw [foldl_lStep]
  simp
/-- The error's number. -/
def errOf (o : Option (RowF × Int)) : Int := match o with | none => 5 | some _ => 0
/-- wi: has b all labels of a; ov: has a all of b. -/
theorem err_want (la lb : List Str) (va vb nx : Int) (wi ov : Bool) (hwi : wi = true ↔ fitsIn la lb) (hov : ov = true ↔ fitsIn lb la) (ha : 0 ≤ va) (hb : 0 ≤ vb) :
    (errOf (rowsRes la lb va vb nx) == 0) = if va = vb then wi && ov else (wi || decide (0 < vb)) && (ov || decide (0 < va)) := by
  rw [← moreL_nil] at hwi hov
  unfold rowsRes
  by_cases h1 : moreL la lb = [] <;> by_cases h2 : moreL lb la = []
  · have e1 := hwi.2 h1
    have e2 := hov.2 h2
    subst e1 e2
    rw [if_pos ⟨h1, h2⟩]
    simp [errOf]
  · have e1 := hwi.2 h1
    have e2 : ov = false := by cases ov; rfl; exact absurd (hov.1 rfl) h2
    subst e1 e2
    rw [if_neg (fun e => h2 e.2)]
    by_cases hv : va = vb
    · rw [if_pos (.inr (.inr hv)), if_pos hv]; simp [errOf]
    · by_cases h0 : va = 0
      · rw [if_pos (.inr (.inl ⟨h2, h0⟩)), if_neg hv]; simp [errOf, h0]
      · rw [if_neg (fun e => by rcases e with e | e | e; exact e.1 h1; exact h0 e.2; exact hv e), if_neg h2, if_pos h1, if_neg hv]
        simp [errOf]; omega
  · have e1 : wi = false := by cases wi; rfl; exact absurd (hwi.1 rfl) h1
    have e2 := hov.2 h2
    subst e1 e2
    rw [if_neg (fun e => h1 e.1)]
    by_cases hv : va = vb
    · rw [if_pos (.inr (.inr hv)), if_pos hv]; simp [errOf]
    · by_cases h0 : vb = 0
      · rw [if_pos (.inl ⟨h1, h0⟩), if_neg hv]; simp [errOf, h0]
      · rw [if_neg (fun e => by rcases e with e | e | e; exact h0 e.2; exact e.1 h2; exact hv e), if_pos h2, if_neg hv]
        simp [errOf]; omega
  · have e1 : wi = false := by cases wi; rfl; exact absurd (hwi.1 rfl) h1
    have e2 : ov = false := by cases ov; rfl; exact absurd (hov.1 rfl) h2
    subst e1 e2
    rw [if_neg (fun e => h1 e.1)]
    by_cases hv : va = vb
    · rw [if_pos (.inr (.inr hv)), if_pos hv]; simp [errOf]
    · by_cases h0 : vb = 0
      · rw [if_pos (.inl ⟨h1, h0⟩), if_neg hv]; simp [errOf, h0]
      · by_cases h3 : va = 0
        · rw [if_pos (.inr (.inl ⟨h2, h3⟩)), if_neg hv]; simp [errOf, h3]
        · rw [if_neg (fun e => by rcases e with e | e | e; exact h0 e.2; exact h3 e.2; exact hv e), if_neg h2, if_neg h1, if_neg hv]
          simp [errOf]; omega
/-- Labels that are read are kept where a block is written that holds no string. -/
theorem StrR.off {w w' : World} {v : Value} {ls : List Str} {z : Nat} {t : TypeId} {A : Option Addr} {n c : Nat} {i : Int} (h : StrR w v ls) (hz : Lies w z t #[.slice A n c, .int .i64 i]) (hk : ∀ g, g ≠ z → g < w.heap.size → w'.heap[g]? = w.heap[g]?) : StrR w' v ls := by
  refine ⟨?_, h.2⟩
  rcases h.1 with h | ⟨ad, c, h1, h2, h3⟩
  · exact .inl h
  · refine .inr ⟨ad, c, h1, h2, fun j q hq => ?_⟩
    have h4 := h3 j q hq
    have hlt := World.block_lt_of_cell? w _ h4
    refine (World.cell?_of_block (w := w) (hk _ (fun e => ?_) hlt)).trans h4
    rw [List.getElem?_map] at hq
    obtain ⟨s, _, rfl⟩ := Option.map_eq_some_iff.1 hq
    obtain ⟨p, hp⟩ : ∃ p, p = ad.add j := ⟨_, rfl⟩
    rw [← hp] at h4 e
    obtain ⟨g, o, sp⟩ := p
    have hsp := World.cell?_spot (a := ⟨g, o, sp⟩) h4
    subst hsp
    have e2 : g = z := e
    subst e2
    rw [hz.cell o] at h4
    match o, h4 with
    | 0, h4 => simp [encS] at h4
    | 1, h4 => simp [encS] at h4
    | o + 2, h4 => simp at h4
end Go.Proofs.YtpooocfogpileaaGreat

/- The reference's RightRow: true only where no variable is below nought. -/
namespace Go.Proofs.YtpooocfogpileaaGreat
open Go.RowKit

set_option maxRecDepth 100000 in
set_option maxHeartbeats 4000000 in
theorem rrow_any (v : Value) (L : List Str) (rv : Int) (w : World) (hv : StrR w v L) :
    Calls Tryz.prog 6 #[.agg #[v, .int .i64 rv]] w fun e w' => ∃ b, e = .returned (.bool b) ∧ (b = true → 0 ≤ rv) ∧ Below w.heap.size w w' := by
  have hb := hv.2
  obtain ⟨A, c, rfl, hc, hm⟩ := hv.form
  have hb1 := below_new w (.cells #[.slice A L.length c, .int .i64 rv] 24)
  have HV := Lib.hid (fun (j : Nat) s (h : L[j]? = some s) => hm j s h)
  clear hv hm
  obtain ⟨N, hN⟩ : ∃ N, N = L.length := ⟨_, rfl⟩
  have HN := Lib.hid hN
  rw [← hN] at hb hc hb1 ⊢
  clear hN
  obtain ⟨W, hW⟩ : ∃ W, W = w.alloc (.cells #[.slice A N c, .int .i64 rv] 24) := ⟨_, rfl⟩
  rw [← hW] at hb1
  have k0 : Lies W w.heap.size 24 #[.slice A N c, .int .i64 rv] := by rw [hW]; exact Lies.new _ _ _
  have HK := Lib.hid k0
  have HB := Lib.hid hb1
  have HW := Lib.hid hW
  clear hW hb1 k0
  go_enter Tryz.func6, Tryz.ntmps6
  go_wp2
  rw [← HW.out]
  go_loopw [3] (fun i wr => ∃ k : Nat, k ≤ N ∧ i = .int .i64 k ∧ Below W.heap.size W wr) (fun i _ => N - (intOf i).toNat)
  case atStart => exact ⟨0, Nat.zero_le _, rfl, Below.refl _ _⟩
  case round =>
    obtain ⟨k, hk, rfl, hB⟩ := hrel
    have hl := HK.out.later hB
    have c0 := hl.cell 0
    have c1 := hl.cell 1
    have hBw := HB.out.trans (hB.mono HB.out.size)
    by_cases hlt : k < N
    · obtain ⟨x, hx⟩ : ∃ x, L[k]? = some x := ⟨_, List.getElem?_eq_getElem (by have := HN.out; omega)⟩
      obtain ⟨y, hy⟩ : ∃ y, L[k - 1]? = some y := ⟨_, List.getElem?_eq_getElem (by have := HN.out; omega)⟩
      obtain ⟨g, o, rfl, h6⟩ := HV.out k x hx
      obtain ⟨g', o', he, h9⟩ := HV.out (k - 1) y hy
      simp only [Option.some.injEq, Addr.mk.injEq, and_true] at he
      obtain ⟨rfl, rfl⟩ := he
      have z6 := (hBw.cell (p := ⟨g, o + k, none⟩) (World.block_lt_of_cell? w _ h6)).trans h6
      have z9 := (hBw.cell (p := ⟨g, o + (k - 1), none⟩) (World.block_lt_of_cell? w _ h9)).trans h9
      have HS := Lib.hid (show wr.cell? ⟨w.heap.size, 0, none⟩ = some (.slice (some ⟨g, o, none⟩) N c) ∧ wr.cell? ⟨g, o + k, none⟩ = some (.string (ba x)) ∧ wr.cell? ⟨g, o + (k - 1), none⟩ = some (.string (ba y)) from ⟨c0, z6, z9⟩)
      have HBr := Lib.hid hB
      have HBw := Lib.hid hBw
      have hlti : (k : Int) < (N : Int) := by omega
      have hkc : k < c := by omega
      have hne : ¬ (k : Int) < 0 := by omega
      clear h6 h9 hx hy hB hBw hl c1 HS
      obtain ⟨b1, hb1⟩ : ∃ b, (ba x).toList.isEmpty = b := ⟨_, rfl⟩
      obtain ⟨b2, hb2⟩ : ∃ b, Op.bytesLess (ba x).toList (ba y).toList = b := ⟨_, rfl⟩
      have HDR := Lib.hid (show ∀ q, Below W.heap.size W (wr.drewN q) from fun q => ⟨HBr.out.os, HBr.out.tape, HBr.out.output, HBr.out.size, HBr.out.block⟩)
      have HDw := Lib.hid (show ∀ q, Below w.heap.size w (wr.drewN q) from fun q => ⟨HBw.out.os, HBw.out.tape, HBw.out.output, HBw.out.size, HBw.out.block⟩)
      cases b1
      · by_cases hk0 : k = 0
        · subst hk0
          simp only [Nat.add_zero] at z6
          go_wp2_with fail
          go_quiet (fail)
          go_wp2
          go_roundw
          case rel => exact ⟨0 + 1, by omega, by simp, HDR.out _⟩
          case measure => simp [intOf]; omega
        · have hk0i : 0 < (k : Int) := by omega
          have hk0p : 0 < k := by omega
          have hk0d : decide (0 < k) = true := by simp [hk0p]
          have hk1 : IntKind.i64.wrap ((k : Int) - 1) = (k : Int) - 1 := IntWalk.i64_in _ (by omega)
          have hk2 : ((k : Int) - 1).toNat = k - 1 := by omega
          have hk3 : ¬ ((k : Int) - 1 < 0) := by omega
          have hk4 : (k : Int) - 1 < (N : Int) := by omega
          have hk5 : k - 1 < N := by omega
          cases b2
          · go_wp2_with fail
            go_quiet (fail)
            go_wp2
            go_roundw
            case rel => exact ⟨k + 1, by omega, by simp, HDR.out _⟩
            case measure => simp [intOf]; omega
          · go_wp2_with fail
            go_quiet (fail)
            go_wp2
            go_ret
            exact ⟨_, rfl, by simp, HDw.out _⟩
      · go_wp2_with fail
        go_quiet (fail)
        go_wp2
        go_ret
        exact ⟨_, rfl, by simp, HDw.out _⟩
    · obtain rfl : k = N := by omega
      have HBw := Lib.hid hBw
      clear hBw
      go_wp2
      go_ret
      exact ⟨_, rfl, by simp, HBw.out⟩
end Go.Proofs.YtpooocfogpileaaGreat
