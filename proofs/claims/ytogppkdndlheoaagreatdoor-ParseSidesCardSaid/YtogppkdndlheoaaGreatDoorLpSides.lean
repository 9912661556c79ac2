/- The walk of the law ParseSides. -/
import Derived.Test.YtogppkdndlheoaaGreatDoorVal
import Derived.Outline
namespace Go.Proofs.YtogppkdndlheoaaGreatDoor
open Go.RowKit Pz

/-- A slice of ints that reads as a list. -/
def Is (w : World) (v : Value) (l : List Int) : Prop :=
  ∃ A c, v = .slice A l.length c ∧ l.length ≤ c ∧ (0 < l.length → ∃ a : Addr, A = some a ∧ ∀ j (h : j < l.length), w.cell? (a.add j) = some (.int .i64 l[j]))

def stepS (r : Int × Int × Bool) (x : Nat × Nat) : Int × Int × Bool := if x.1 = 2 then (r.1, r.2.1 * (x.2 : Int) % 1000003, r.2.2) else (combS r.1 r.2.1 r.2.2, (x.2 : Int), x.1 == 1)
theorem fin_fold : ∀ (ps : List (Nat × Nat)) (s p : Int) (m : Bool), finS s p m ps = combS (ps.foldl stepS (s, p, m)).1 (ps.foldl stepS (s, p, m)).2.1 (ps.foldl stepS (s, p, m)).2.2
  | [], _, _, _ => rfl
  | x :: ps, s, p, m => by
    rw [List.foldl_cons]
    unfold finS stepS
    by_cases h : x.1 = 2
    · rw [if_pos h, if_pos h]; exact fin_fold ps _ _ _
    · rw [if_neg h, if_neg h]; exact fin_fold ps _ _ _
theorem sidesB_len : ∀ (ps : List (Nat × Nat)), (sidesB ps).length ≤ 6 * ps.length
  | [] => Nat.le_refl _
  | x :: ps => by
    have h := sidesB_len ps
    have := dgF_len 5 x.2
    have h1 : (sgB x.1).length = 1 := by unfold sgB; split <;> rfl
    rw [sidesB_cons, List.length_append, List.length_append, List.length_cons]
    omega
theorem sw_len : ∀ {ps : List (Nat × Nat)} {r : List Lx.Tk}, Sw ps r → r.length = 2 * ps.length
  | [], r, h => by rw [show r = [] from h]; rfl
  | x :: ps, r, h => by
    obtain ⟨p, q, r0, rfl, h0⟩ := h
    have := sw_len h0
    simp only [List.length_cons]
    omega
theorem va_deep {t : Tm} {x : Int} (h : Va t x) : t.deep ≤ t.size := by
  induction h with
  | int p n hn => simp [Tm.deep, deepL, deepA, Tm.size, sizeL, sizeA]
  | op g p a b x y hg ha hb iha ihb =>
    simp only [Tm.deep, deepL, deepA, Tm.size, sizeL, sizeA]
    omega
theorem sides_parse (v0 : Nat) (ps : List (Nat × Nat)) (hv : v0 < 65536) (hp : ∀ x ∈ ps, x.1 ≤ 2 ∧ x.2 < 65536) (hl : ps.length ≤ 29) : ∃ u, parseR (dgF 5 v0 ++ sidesB ps) = (⟨[], [], u⟩, 0, 0) ∧ Va u (finS 0 v0 false ps) := by
  have hp2 : ∀ x ∈ ps, x.1 ≤ 2 ∧ x.2 < 100000 := fun x hx => ⟨(hp x hx).1, by have := (hp x hx).2; omega⟩
  obtain ⟨q, ws, h1, h2⟩ := lex_line v0 ps (by omega) hp2
  have hb := sidesB_len ps
  have hd := dgF_len 5 v0
  have hlen : (dgF 5 v0 ++ sidesB ps).length ≤ 300 := by rw [List.length_append]; omega
  have hlex := lexR_ok (by omega) h1
  obtain ⟨u, e, hu⟩ := sides_program (dgF 5 v0 ++ sidesB ps).length ps ws hp2 h2 (dgF 5 v0) v0 q (by omega)
  refine ⟨u, ?_, hu⟩
  have hs := size_program (dgF 5 v0 ++ sidesB ps).length (⟨1, dgF 5 v0, v0, q⟩ :: ws) (by rw [e])
  rw [e] at hs
  dsimp only at hs
  rw [List.length_cons, sw_len h2] at hs
  have := va_deep hu
  rw [parseR_ok hlex]
  exact parseW_ok e rfl (by show ¬ 200 < u.deep; omega)

def SdRel (N : Nat) (w0 : World) (s su pr mi i : Value) (wr : World) : Prop :=
  ∃ j : Nat, j ≤ N ∧ i = .int .i64 (j : Nat) ∧ Below w0.heap.size w0 wr ∧ ((j = 0 ∧ s = .string ⟨#[]⟩ ∧ su = .int .i64 0 ∧ pr = .int .i64 0 ∧ mi = .bool false) ∨
    (∃ v0 ps S P M, j = List.length ps + 1 ∧ v0 < 65536 ∧ (∀ x ∈ ps, x.1 ≤ 2 ∧ x.2 < 65536) ∧ s = .string (ba (dgF 5 v0 ++ sidesB ps)) ∧ su = .int .i64 S ∧ pr = .int .i64 P ∧ mi = .bool M ∧
      ps.foldl stepS (0, (v0 : Int), false) = (S, P, M) ∧ 0 ≤ S ∧ S < 1000003 ∧ 0 ≤ P ∧ P < 1000003))
theorem sd_first {N : Nat} {w0 wr : World} {v : Nat} (h : 1 ≤ N) (hv : v < 65536) (hb : Below w0.heap.size w0 wr) : SdRel N w0 (.string (ba (dgF 5 v))) (.int .i64 0) (.int .i64 (v : Int)) (.bool false) (.int .i64 1) wr :=
  ⟨1, h, rfl, hb, .inr ⟨v, [], 0, v, false, rfl, hv, (fun x hx => by cases hx), by unfold sidesB; rw [List.flatMap_nil, List.append_nil], rfl, rfl, rfl, rfl, by omega, by omega, by omega, by omega⟩⟩
theorem sd_next {N : Nat} {w0 wr : World} {v0 g v : Nat} {ps : List (Nat × Nat)} {S P : Int} {M : Bool} {s su pr mi i : Value} (hN : ps.length + 2 ≤ N) (hv0 : v0 < 65536) (hp : ∀ x ∈ ps, x.1 ≤ 2 ∧ x.2 < 65536) (hg : g ≤ 2) (hv : v < 65536)
    (hf : ps.foldl stepS (0, (v0 : Int), false) = (S, P, M)) (hS : 0 ≤ S ∧ S < 1000003) (hs : s = .string (ba (dgF 5 v0 ++ sidesB (ps ++ [(g, v)])))) (hi : i = .int .i64 ((ps.length + 2 : Nat) : Int)) (hb : Below w0.heap.size w0 wr)
    (h : ((g = 2 ∧ su = .int .i64 S ∧ pr = .int .i64 (P * (v : Int) % 1000003) ∧ mi = .bool M) ∨ (g ≠ 2 ∧ su = .int .i64 (combS S P M) ∧ pr = .int .i64 (v : Int) ∧ mi = .bool (g == 1)))) : SdRel N w0 s su pr mi i wr := by
  have hf2 : (ps ++ [(g, v)]).foldl stepS (0, (v0 : Int), false) = stepS (S, P, M) (g, v) := by rw [List.foldl_append, hf]; rfl
  have hp2 : ∀ x ∈ ps ++ [(g, v)], x.1 ≤ 2 ∧ x.2 < 65536 := fun x hx => by
    rw [List.mem_append, List.mem_singleton] at hx
    rcases hx with hx | rfl
    · exact hp x hx
    · exact ⟨hg, hv⟩
  refine ⟨ps.length + 2, hN, hi, hb, .inr ?_⟩
  rcases h with ⟨h2, e1, e2, e3⟩ | ⟨h2, e1, e2, e3⟩
  · refine ⟨v0, ps ++ [(g, v)], S, P * (v : Int) % 1000003, M, by rw [List.length_append, List.length_singleton], hv0, hp2, hs, e1, e2, e3, ?_, hS.1, hS.2, Int.emod_nonneg _ (by decide), Int.emod_lt_of_pos _ (by decide)⟩
    rw [hf2]
    exact if_pos h2
  · refine ⟨v0, ps ++ [(g, v)], combS S P M, v, g == 1, by rw [List.length_append, List.length_singleton], hv0, hp2, hs, e1, e2, e3, ?_, (combS_range S P M).1, (combS_range S P M).2, by omega, by omega⟩
    rw [hf2]
    exact if_neg h2
theorem ba_side (v0 g v : Nat) (ps : List (Nat × Nat)) : ba (dgF 5 v0 ++ sidesB ps) ++ ba (sgB g) ++ ba (dgF 5 v) = ba (dgF 5 v0 ++ sidesB (ps ++ [(g, v)])) := by
  rw [ba_app2, ba_app2, sidesB_snoc]
  simp only [List.append_assoc]
def sideC : Array Value := #[.string ⟨#[43]⟩, .string ⟨#[45]⟩, .string ⟨#[42]⟩]
theorem sideC_at : ∀ g, g ≤ 2 → sideC.toList[g]? = some (.string (ba (sgB g)))
  | 0, _ => rfl
  | 1, _ => rfl
  | 2, _ => rfl

set_option maxRecDepth 100000 in
set_option maxHeartbeats 4000000 in
theorem parseSides_any (v : Value) (l : List Int) (u : Value) (m : List Int) (w : World) (hl : Is w v l) (hm : Is w u m) (hG : Good w) (hll : l.length ≤ 140737488351232) (hml : m.length ≤ 140737488351232) :
    Calls Tryz.prog 6 #[v, u] w (Yes w) := by
  obtain ⟨A, c, rfl, hlc, hcl⟩ := hl
  obtain ⟨A2, c2, rfl, hmc, hcm⟩ := hm
  obtain ⟨N, hN, hNl, hN30⟩ : ∃ N : Nat, min (l.length : Int) 30 = (N : Int) ∧ N ≤ l.length ∧ N ≤ 30 := ⟨min l.length 30, by omega, by omega, by omega⟩
  have HCL := Lib.hid hcl
  have HCM := Lib.hid hcm
  clear hcl hcm
  by_cases hN0 : N = 0
  · subst hN0
    go_enter Tryz.func6, Tryz.ntmps6
    go_wp2_with fail
    refine (shown_any _ hG).mono ?_
    rintro e w1 ⟨rfl, hB1⟩
    go_wp2_with fail
    go_ret
    exact ⟨rfl, hB1⟩
  · have hNi : ((N : Int) == 0) = false := by simp; omega
    have hNi2 : ¬ (N : Int) = 0 := by omega
    obtain ⟨a, rfl, hcell⟩ := HCL.out (by omega)
    have HC := Lib.hid hcell
    clear hcell HCL
    go_enter Tryz.func6, Tryz.ntmps6
    go_wp2_with fail
    refine (shown_any _ hG).mono ?_
    rintro e w1 ⟨rfl, hB1⟩
    have hG1 := hG.later hB1
    have hs1 := hB1.size
    have hb2 := below_new w1 (.cells sideC 9)
    have hB2 := hB1.trans (hb2.mono hs1)
    have lN := Lies.new w1 9 sideC
    have hcellN : ∀ g, g ≤ 2 → (w1.alloc (.cells sideC 9)).cell? ⟨w1.heap.size, g, none⟩ = some (.string (ba (sgB g))) := fun g hg => by
      rw [lN.cell, ← sideC_at g hg]
      simp
    unfold sideC at hb2 hB2 hcellN
    clear lN
    go_wp2_with fail
    go_loopw [8, 9, 10, 11, 12] (fun s su pr mi i wr => SdRel N (w1.alloc (.cells #[.string ⟨#[43]⟩, .string ⟨#[45]⟩, .string ⟨#[42]⟩] 9)) s su pr mi i wr) (fun _ _ _ _ i _ => N - (intOf i).toNat)
    case atStart => exact ⟨0, Nat.zero_le _, rfl, Below.refl _ _, .inl ⟨rfl, rfl, rfl, rfl, rfl⟩⟩
    case round =>
      obtain ⟨j, hj, rfl, hnx, hst⟩ := hrel
      have hsz := hnx.size
      have hall := hB2.trans (hnx.mono hB2.size)
      by_cases hlt : j < N
      · have hjl : j < l.length := by omega
        have hc1 := hall.cell (p := a.add j) (World.block_lt_of_cell? _ _ (HC.out j hjl))
        rw [HC.out j hjl] at hc1
        obtain ⟨v, hv, hvb⟩ := and_mask l[j] 65535 (by decide)
        have hvb2 : bits .and .i64 l[j] 65535 = (v : Int) := hvb
        clear hvb
        have hd := dgF_len 5 v
        have hds := ba_size (dgF 5 v)
        generalize l[j] = y at hc1 hvb2
        rcases hst with ⟨rfl, rfl, rfl, rfl, rfl⟩ | ⟨v0, ps, S, P, M, rfl, hv0, hps, rfl, rfl, rfl, rfl, hf, hS0, hS1, hP0, hP1⟩
        · rw [Addr.add_zero'] at hc1
          go_wp2_with fail
          refine (digits_any 5 v (by omega) (by decide) (by decide) _).mono ?_
          rintro e w3 ⟨rfl, hb3⟩
          go_wp2_with fail
          go_roundw
          case rel => exact sd_first (v := v) (by omega) (by omega) (hnx.trans (hb3.mono hsz))
          case measure => simp [intOf] <;> omega
        · rw [Addr.add_succ'] at hc1
          have hl1 := sidesB_len ps
          have hl2 := dgF_len 5 v0
          have hl3 := ba_size (dgF 5 v0 ++ sidesB ps)
          rw [List.length_append] at hl3
          have hl4 : (ba (dgF 5 v0 ++ sidesB ps)).size ≤ 190 := by omega
          have hct : combS S P true = (S - P) % 1000003 := by show (S - P + 1000003) % 1000003 = _; omega
          have hcf : combS S P false = (S + P) % 1000003 := rfl
          have m0 : (S + P).tmod 1000003 = (S + P) % 1000003 := Int.tmod_eq_emod_of_nonneg (by omega)
          have m1 : (S - P + 1000003).tmod 1000003 = (S - P + 1000003) % 1000003 := Int.tmod_eq_emod_of_nonneg (by omega)
          have hpv : 0 ≤ P * (v : Int) ∧ P * (v : Int) ≤ 1000003 * 65535 := ⟨Int.mul_nonneg hP0 (by omega), Int.mul_le_mul (by omega) (by omega) (by omega) (by decide)⟩
          have hw : IntKind.i64.wrap (P * (v : Int)) = P * (v : Int) := by
            generalize P * (v : Int) = z at hpv
            unfold IntKind.wrap
            simp [IntKind.bits, IntKind.signed]
            omega
          have m2 : (P * (v : Int)).tmod 1000003 = P * (v : Int) % 1000003 := Int.tmod_eq_emod_of_nonneg hpv.1
          by_cases hin : ps.length < m.length
          · obtain ⟨a2, rfl, hcm2⟩ := HCM.out (by omega)
            have hc2 := hall.cell (p := a2.add ps.length) (World.block_lt_of_cell? _ _ (hcm2 ps.length hin))
            rw [hcm2 ps.length hin] at hc2
            obtain ⟨g1, hg1, hgb⟩ := and_mask m[ps.length] 65535 (by decide)
            have hgb2 : (bits .and .i64 m[ps.length] 65535).tmod 3 = ((g1 % 3 : Nat) : Int) := by
              rw [show (65535 : Int) = ((65535 : Nat) : Int) from rfl, hgb]; rfl
            have hg3 : g1 % 3 < 3 := Nat.mod_lt _ (by decide)
            clear hgb hcm2
            generalize m[ps.length] = y2 at hc2 hgb2
            have hgs : g1 % 3 = 0 ∨ g1 % 3 = 1 ∨ g1 % 3 = 2 := by omega
            rcases hgs with hg0 | hg0 | hg0
            · rw [hg0] at hgb2
              cases M
              · have hgc := hnx.cell (p := ⟨w1.heap.size, 0, none⟩) (World.block_lt_of_cell? _ _ (hcellN 0 (by decide)))
                rw [hcellN 0 (by decide)] at hgc
                have hbst := ba_side v0 0 v ps
                have hg4 : (ba (sgB 0)).size = 1 := rfl
                have hg5 : (sgB 0).length = 1 := rfl
                have HBST := Lib.hid hbst
                clear hbst
                go_wp2_with fail
                refine (digits_any 5 v (by omega) (by decide) (by decide) _).mono ?_
                rintro e w3 ⟨rfl, hb3⟩
                have h7 : (ba (dgF 5 v0 ++ sidesB ps) ++ ba (sgB 0)).size ≤ 200 := by rw [ByteArray.size_append, ba_size (sgB 0)]; show (ba (dgF 5 v0 ++ sidesB ps)).size + 1 ≤ 200; omega
                go_wp2_with fail
                go_roundw
                case rel => exact sd_next (g := 0) (v := v) (ps := ps) (S := S) (P := P) (M := false) (by omega) hv0 hps (by decide) (by omega) hf ⟨hS0, hS1⟩ (by rw [← HBST.out]) (by go_num) (hnx.trans (hb3.mono hsz)) (.inr ⟨by decide, by rw [hcf], rfl, rfl⟩)
                case measure => simp [intOf] <;> omega
              · have hgc := hnx.cell (p := ⟨w1.heap.size, 0, none⟩) (World.block_lt_of_cell? _ _ (hcellN 0 (by decide)))
                rw [hcellN 0 (by decide)] at hgc
                have hbst := ba_side v0 0 v ps
                have hg4 : (ba (sgB 0)).size = 1 := rfl
                have hg5 : (sgB 0).length = 1 := rfl
                have HBST := Lib.hid hbst
                clear hbst
                go_wp2_with fail
                refine (digits_any 5 v (by omega) (by decide) (by decide) _).mono ?_
                rintro e w3 ⟨rfl, hb3⟩
                have h7 : (ba (dgF 5 v0 ++ sidesB ps) ++ ba (sgB 0)).size ≤ 200 := by rw [ByteArray.size_append, ba_size (sgB 0)]; show (ba (dgF 5 v0 ++ sidesB ps)).size + 1 ≤ 200; omega
                go_wp2_with fail
                go_roundw
                case rel => exact sd_next (g := 0) (v := v) (ps := ps) (S := S) (P := P) (M := true) (by omega) hv0 hps (by decide) (by omega) hf ⟨hS0, hS1⟩ (by rw [← HBST.out]) (by go_num) (hnx.trans (hb3.mono hsz)) (.inr ⟨by decide, by rw [hct], rfl, rfl⟩)
                case measure => simp [intOf] <;> omega
            · rw [hg0] at hgb2
              cases M
              · have hgc := hnx.cell (p := ⟨w1.heap.size, 1, none⟩) (World.block_lt_of_cell? _ _ (hcellN 1 (by decide)))
                rw [hcellN 1 (by decide)] at hgc
                have hbst := ba_side v0 1 v ps
                have hg4 : (ba (sgB 1)).size = 1 := rfl
                have hg5 : (sgB 1).length = 1 := rfl
                have HBST := Lib.hid hbst
                clear hbst
                go_wp2_with fail
                refine (digits_any 5 v (by omega) (by decide) (by decide) _).mono ?_
                rintro e w3 ⟨rfl, hb3⟩
                have h7 : (ba (dgF 5 v0 ++ sidesB ps) ++ ba (sgB 1)).size ≤ 200 := by rw [ByteArray.size_append, ba_size (sgB 1)]; show (ba (dgF 5 v0 ++ sidesB ps)).size + 1 ≤ 200; omega
                go_wp2_with fail
                go_roundw
                case rel => exact sd_next (g := 1) (v := v) (ps := ps) (S := S) (P := P) (M := false) (by omega) hv0 hps (by decide) (by omega) hf ⟨hS0, hS1⟩ (by rw [← HBST.out]) (by go_num) (hnx.trans (hb3.mono hsz)) (.inr ⟨by decide, by rw [hcf], rfl, rfl⟩)
                case measure => simp [intOf] <;> omega
              · have hgc := hnx.cell (p := ⟨w1.heap.size, 1, none⟩) (World.block_lt_of_cell? _ _ (hcellN 1 (by decide)))
                rw [hcellN 1 (by decide)] at hgc
                have hbst := ba_side v0 1 v ps
                have hg4 : (ba (sgB 1)).size = 1 := rfl
                have hg5 : (sgB 1).length = 1 := rfl
                have HBST := Lib.hid hbst
                clear hbst
                go_wp2_with fail
                refine (digits_any 5 v (by omega) (by decide) (by decide) _).mono ?_
                rintro e w3 ⟨rfl, hb3⟩
                have h7 : (ba (dgF 5 v0 ++ sidesB ps) ++ ba (sgB 1)).size ≤ 200 := by rw [ByteArray.size_append, ba_size (sgB 1)]; show (ba (dgF 5 v0 ++ sidesB ps)).size + 1 ≤ 200; omega
                go_wp2_with fail
                go_roundw
                case rel => exact sd_next (g := 1) (v := v) (ps := ps) (S := S) (P := P) (M := true) (by omega) hv0 hps (by decide) (by omega) hf ⟨hS0, hS1⟩ (by rw [← HBST.out]) (by go_num) (hnx.trans (hb3.mono hsz)) (.inr ⟨by decide, by rw [hct], rfl, rfl⟩)
                case measure => simp [intOf] <;> omega
            · rw [hg0] at hgb2
              have hgc := hnx.cell (p := ⟨w1.heap.size, 2, none⟩) (World.block_lt_of_cell? _ _ (hcellN 2 (by decide)))
              rw [hcellN 2 (by decide)] at hgc
              have hbst := ba_side v0 2 v ps
              have hg4 : (ba (sgB 2)).size = 1 := rfl
              have hg5 : (sgB 2).length = 1 := rfl
              have HBST := Lib.hid hbst
              clear hbst
              go_wp2_with fail
              refine (digits_any 5 v (by omega) (by decide) (by decide) _).mono ?_
              rintro e w3 ⟨rfl, hb3⟩
              have h7 : (ba (dgF 5 v0 ++ sidesB ps) ++ ba (sgB 2)).size ≤ 200 := by rw [ByteArray.size_append, ba_size (sgB 2)]; show (ba (dgF 5 v0 ++ sidesB ps)).size + 1 ≤ 200; omega
              go_wp2_with fail
              go_roundw
              case rel => exact sd_next (g := 2) (v := v) (ps := ps) (S := S) (P := P) (M := M) (by omega) hv0 hps (by decide) (by omega) hf ⟨hS0, hS1⟩ (by rw [← HBST.out]) (by go_num) (hnx.trans (hb3.mono hsz)) (.inl ⟨rfl, rfl, rfl, rfl⟩)
              case measure => simp [intOf] <;> omega
          · cases M
            · have hgc := hnx.cell (p := ⟨w1.heap.size, 0, none⟩) (World.block_lt_of_cell? _ _ (hcellN 0 (by decide)))
              rw [hcellN 0 (by decide)] at hgc
              have hbst := ba_side v0 0 v ps
              have hg4 : (ba (sgB 0)).size = 1 := rfl
              have hg5 : (sgB 0).length = 1 := rfl
              have HBST := Lib.hid hbst
              clear hbst
              go_wp2_with fail
              refine (digits_any 5 v (by omega) (by decide) (by decide) _).mono ?_
              rintro e w3 ⟨rfl, hb3⟩
              have h7 : (ba (dgF 5 v0 ++ sidesB ps) ++ ba (sgB 0)).size ≤ 200 := by rw [ByteArray.size_append, ba_size (sgB 0)]; show (ba (dgF 5 v0 ++ sidesB ps)).size + 1 ≤ 200; omega
              go_wp2_with fail
              go_roundw
              case rel => exact sd_next (g := 0) (v := v) (ps := ps) (S := S) (P := P) (M := false) (by omega) hv0 hps (by decide) (by omega) hf ⟨hS0, hS1⟩ (by rw [← HBST.out]) (by go_num) (hnx.trans (hb3.mono hsz)) (.inr ⟨by decide, by rw [hcf], rfl, rfl⟩)
              case measure => simp [intOf] <;> omega
            · have hgc := hnx.cell (p := ⟨w1.heap.size, 0, none⟩) (World.block_lt_of_cell? _ _ (hcellN 0 (by decide)))
              rw [hcellN 0 (by decide)] at hgc
              have hbst := ba_side v0 0 v ps
              have hg4 : (ba (sgB 0)).size = 1 := rfl
              have hg5 : (sgB 0).length = 1 := rfl
              have HBST := Lib.hid hbst
              clear hbst
              go_wp2_with fail
              refine (digits_any 5 v (by omega) (by decide) (by decide) _).mono ?_
              rintro e w3 ⟨rfl, hb3⟩
              have h7 : (ba (dgF 5 v0 ++ sidesB ps) ++ ba (sgB 0)).size ≤ 200 := by rw [ByteArray.size_append, ba_size (sgB 0)]; show (ba (dgF 5 v0 ++ sidesB ps)).size + 1 ≤ 200; omega
              go_wp2_with fail
              go_roundw
              case rel => exact sd_next (g := 0) (v := v) (ps := ps) (S := S) (P := P) (M := true) (by omega) hv0 hps (by decide) (by omega) hf ⟨hS0, hS1⟩ (by rw [← HBST.out]) (by go_num) (hnx.trans (hb3.mono hsz)) (.inr ⟨by decide, by rw [hct], rfl, rfl⟩)
              case measure => simp [intOf] <;> omega
      · obtain rfl : j = N := by omega
        rcases hst with ⟨rfl, _⟩ | ⟨v0, ps, S, P, M, hjp, hv0, hps, rfl, rfl, rfl, rfl, hf, hS0, hS1, hP0, hP1⟩
        · exact absurd rfl hN0
        · obtain ⟨u, hp, hva⟩ := sides_parse v0 ps hv0 hps (by omega)
          rw [fin_fold, hf] at hva
          dsimp only at hva
          have hct : combS S P true = (S - P) % 1000003 := by show (S - P + 1000003) % 1000003 = _; omega
          have hcf : combS S P false = (S + P) % 1000003 := rfl
          have m0 : (S + P).tmod 1000003 = (S + P) % 1000003 := Int.tmod_eq_emod_of_nonneg (by omega)
          have m1 : (S - P + 1000003).tmod 1000003 = (S - P + 1000003) % 1000003 := Int.tmod_eq_emod_of_nonneg (by omega)
          have hcv := conv_sb
          have hl1 := sidesB_len ps
          have hl2 := dgF_len 5 v0
          obtain ⟨T, hTe⟩ : ∃ T, T = dgF 5 v0 ++ sidesB ps := ⟨_, rfl⟩
          have hlen : T.length ≤ 300 := by rw [hTe, List.length_append]; omega
          rw [← hTe] at hp ⊢
          have hls := ba_size T
          have hl4 : (ba T).size ≤ 300 := by omega
          have hbs := Bs.bytes wr T T.length hls.symm
          have hBb := Lib.bytesWorld_below wr 5 (ba T)
          have hG3 := (hG.later hall).later hBb
          have hB3 := hall.trans (hBb.mono hall.size)
          clear hTe hl1 hl2 hf hps hv0 hjp
          cases M
          · rw [hcf] at hva
            go_wp2_with fail
            refine (parse_any _ T _ hbs hG3 (by omega)).mono ?_
            rintro e w4 ⟨l4, rfl, hit, hB4⟩
            have hB04 := hB3.trans (hB4.mono hB3.size)
            have hs4 := hB04.size
            clear hbs hBb hB3 hB4 hG3 hcv hls hl4 hlen
            obtain ⟨hon, hsz4, hzz⟩ := pg_store hit
            have HON := Lib.hid hon
            have HSZ := Lib.hid hsz4
            have HZZ := Lib.hid hzz
            have lz := Lies.new w4 41 zP
            have lp := Lies.new w4 41 l4.toArray
            have hb5 := below_new w4 (.cells l4.toArray 41)
            have hB05 := hB04.trans (hb5.mono hs4)
            unfold zP at lz HZZ
            clear hon hsz4 hzz
            rw [hp] at hit ⊢
            obtain ⟨ev, dv, b, hl4, hT⟩ := open_body hit
            have hmid : (w4.alloc (.cells l4.toArray 41)).rangeAt w4.heap.size 2 b := by
              have h := lp
              rw [hl4] at h ⊢
              exact Lies.rangeMid (l := [ev, dv]) (r := b) h
            have hTl := hT.len
            have HTL := Lib.hid hTl
            have hval := value_any hva b _ _ (hT.later hb5)
            have HV := Lib.hid hval
            clear hit hT hTl hval hl4 hp
            go_wp2_with (first | (refine wpList_store_rowTo rfl 41 (.tmp 15) (.tmp 105) rfl rfl _ l4.toArray rfl rfl 41 _ lz HSZ.out HZZ.out HON.out ?_; rw [set_new rfl]) | (refine wpList_load_midG (by rfl) 39 (.tmp 114) rfl w4.heap.size 2 rfl b _ hmid Tryz.underlying39 rfl (by rw [sz39, HTL.out]) ?_))
            refine HV.out.mono ?_
            rintro e w7 ⟨rfl, hb7⟩
            go_wp2
            go_ret
            exact ⟨rfl, hB05.trans (hb7.mono hB05.size)⟩
          · rw [hct] at hva
            go_wp2_with fail
            refine (parse_any _ T _ hbs hG3 (by omega)).mono ?_
            rintro e w4 ⟨l4, rfl, hit, hB4⟩
            have hB04 := hB3.trans (hB4.mono hB3.size)
            have hs4 := hB04.size
            clear hbs hBb hB3 hB4 hG3 hcv hls hl4 hlen
            obtain ⟨hon, hsz4, hzz⟩ := pg_store hit
            have HON := Lib.hid hon
            have HSZ := Lib.hid hsz4
            have HZZ := Lib.hid hzz
            have lz := Lies.new w4 41 zP
            have lp := Lies.new w4 41 l4.toArray
            have hb5 := below_new w4 (.cells l4.toArray 41)
            have hB05 := hB04.trans (hb5.mono hs4)
            unfold zP at lz HZZ
            clear hon hsz4 hzz
            rw [hp] at hit ⊢
            obtain ⟨ev, dv, b, hl4, hT⟩ := open_body hit
            have hmid : (w4.alloc (.cells l4.toArray 41)).rangeAt w4.heap.size 2 b := by
              have h := lp
              rw [hl4] at h ⊢
              exact Lies.rangeMid (l := [ev, dv]) (r := b) h
            have hTl := hT.len
            have HTL := Lib.hid hTl
            have hval := value_any hva b _ _ (hT.later hb5)
            have HV := Lib.hid hval
            clear hit hT hTl hval hl4 hp
            go_wp2_with (first | (refine wpList_store_rowTo rfl 41 (.tmp 15) (.tmp 105) rfl rfl _ l4.toArray rfl rfl 41 _ lz HSZ.out HZZ.out HON.out ?_; rw [set_new rfl]) | (refine wpList_load_midG (by rfl) 39 (.tmp 114) rfl w4.heap.size 2 rfl b _ hmid Tryz.underlying39 rfl (by rw [sz39, HTL.out]) ?_))
            refine HV.out.mono ?_
            rintro e w7 ⟨rfl, hb7⟩
            go_wp2
            go_ret
            exact ⟨rfl, hB05.trans (hb7.mono hB05.size)⟩
end Go.Proofs.YtogppkdndlheoaaGreatDoor
