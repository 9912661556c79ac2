/- The walk of the law ParseArms: the texts. -/
import Derived.Test.YtboejbnkkhcccaaGreatDoorLaA
import Derived.Deep.DeepCutAuto
namespace Go.Proofs.YtboejbnkkhcccaaGreatDoor
open Go.RowKit Pz

/-- A slice of ints that reads as a list. -/
def Is (w : World) (v : Value) (l : List Int) : Prop :=
  ∃ A c, v = .slice A l.length c ∧ l.length ≤ c ∧ (0 < l.length → ∃ a : Addr, A = some a ∧ ∀ j (h : j < l.length), w.cell? (a.add j) = some (.int .i64 l[j]))
theorem Is.later {w w' : World} {v : Value} {l : List Int} (h : Is w v l) (hb : Below w.heap.size w w') : Is w' v l := by
  obtain ⟨A, c, h1, h2, h3⟩ := h
  refine ⟨A, c, h1, h2, fun h0 => ?_⟩
  obtain ⟨a, h4, h5⟩ := h3 h0
  exact ⟨a, h4, fun j hj => (hb.cell (World.block_lt_of_cell? w _ (h5 j hj))).trans (h5 j hj)⟩
def vOf (l : List Int) (i : Nat) : Nat := if i < l.length then (bits .and .i64 (l.getD i 0) 65535).toNat % 6 else 0
theorem vOf_le (l : List Int) (i : Nat) : vOf l i ≤ 6 := by
  unfold vOf
  split
  · have := Nat.mod_lt (bits .and .i64 (l.getD i 0) 65535).toNat (show 0 < 6 by decide); omega
  · omega
theorem vOf_tmod (l : List Int) (i : Nat) (h : i < l.length) : (bits .and .i64 l[i] 65535).tmod 6 = ((vOf l i : Nat) : Int) := by
  obtain ⟨n, hn, hb⟩ := and_mask l[i] 65535 (by decide)
  have hg : l.getD i 0 = l[i] := by simp [List.getD, List.getElem?_eq_getElem h]
  unfold vOf
  rw [if_pos h, hg, show (65535 : Int) = ((65535 : Nat) : Int) from rfl, hb]
  rfl
theorem vOf_none (l : List Int) (i : Nat) (h : ¬ i < l.length) : vOf l i = 0 := by unfold vOf; rw [if_neg h]
theorem ba_rule {a b c : List UInt8} (h : a ++ b = c) : ba a ++ ba b = ba c := by rw [ba_app2, h]

theorem szArm : (Tryz.prog.info? 62).map (·.size) = some 23 := by kernel_rfl
def zAl : Array Value := #[.string ⟨#[]⟩, .slice none 0 0, .int .i64 0, .int .i64 0, .string ⟨#[]⟩, .string ⟨#[]⟩, .int .i64 0, .slice none 0 0, .slice none 0 0, .int .i64 0, .string ⟨#[]⟩, .int .i64 0, .slice none 0 0, .slice none 0 0, .int .i64 0, .slice none 0 0, .int .i64 0, .int .i64 0, .string ⟨#[]⟩, .int .i64 0, .slice none 0 0, .slice none 0 0, .int .i64 0]
theorem leaf_cells {w : World} {P : Nat → Prop} {k p n : Nat} {nm pm : Str} {kids : List Tm} {arms : List Arm} {b : List Value} (h : HT w P (.mk k p nm pm n kids arms) b) : ∃ kv av, b = tmC k p nm pm n kv av := by
  cases h
  exact ⟨_, _, rfl⟩
theorem arms_keep {W w9 : World} {a0 a1 a2 a3 a4 a5 : Addr} {v0 v1 v2 v3 v4 v5 : Value} (d0 : W.cell? a0 = some v0) (d1 : W.cell? a1 = some v1) (d2 : W.cell? a2 = some v2) (d3 : W.cell? a3 = some v3) (d4 : W.cell? a4 = some v4) (d5 : W.cell? a5 = some v5) (hb : Below W.heap.size W w9) :
    w9.cell? a0 = some v0 ∧ w9.cell? a1 = some v1 ∧ w9.cell? a2 = some v2 ∧ w9.cell? a3 = some v3 ∧ w9.cell? a4 = some v4 ∧ w9.cell? a5 = some v5 ∧ Below W.heap.size W w9 :=
  ⟨(hb.cell (World.block_lt_of_cell? W _ d0)).trans d0, (hb.cell (World.block_lt_of_cell? W _ d1)).trans d1, (hb.cell (World.block_lt_of_cell? W _ d2)).trans d2, (hb.cell (World.block_lt_of_cell? W _ d3)).trans d3, (hb.cell (World.block_lt_of_cell? W _ d4)).trans d4, (hb.cell (World.block_lt_of_cell? W _ d5)).trans d5, hb⟩
/-- An arm's row of cells, kept whole. -/
theorem arm_row {w : World} {P : Nat → Prop} {t : Tm} {ga o p n m c : Nat} {A : Option Addr} {nm : ByteArray} {bc : List Value} {kv av : Value} (hT : HT w P t bc) (hr : w.rangeAt ga o (.string nm :: .slice A m c :: bc)) (hb : bc = tmC 2 p [] [] n kv av) :
    ∃ cs : List Value, cs.length = 23 ∧ cs.toArray.all (·.oneCell') = true ∧ cs[0]? = some (.string nm) ∧ cs[1]? = some (.slice A m c) ∧ cs[6]? = some (.int .i64 (n : Int)) ∧ w.rangeAt ga o cs := by
  refine ⟨_, ?_, ?_, rfl, rfl, by rw [hb]; rfl, hr⟩
  · rw [List.length_cons, List.length_cons, hT.len]
  · have := hT.one
    rw [Array.all_eq_true_iff_forall_mem] at this ⊢
    intro u hu
    simp only [List.mem_toArray, List.mem_cons] at hu this
    rcases hu with rfl | rfl | hu
    · rfl
    · rfl
    · exact this u hu
/-- Where the loop that writes both texts stands. -/
def ArRel (l : List Int) (n : Nat) (w1 : World) (s t i : Value) (wr : World) : Prop :=
  ∃ j : Nat, j ≤ n ∧ i = .int .i64 (j : Nat) ∧ s = .string (ba (matchB ++ arms0 (vOf l) j)) ∧ t = .string (ba (handB ++ clsB 0 j)) ∧ Below w1.heap.size w1 wr
def VsRel (X : List UInt8) (v : Nat) (w2 : World) (s k : Value) (wr : World) : Prop :=
  ∃ q : Nat, q ≤ v ∧ k = .int .i64 (q : Nat) ∧ s = .string (ba (X ++ vsB 0 q)) ∧ Below w2.heap.size w2 wr

set_option maxRecDepth 100000 in
set_option maxHeartbeats 4000000 in
theorem parseArms_any (n0 : Int) (v : Value) (l : List Int) (w : World) (hl : Is w v l) (hG : Good w) (hll : l.length ≤ 140737488351232) :
    Calls Tryz.prog 6 #[.int .i64 n0, v] w (Yes w) := by
  obtain ⟨n1, hn1, hb1⟩ := and_mask n0 65535 (by decide)
  have htn : (bits .and .i64 n0 65535).tmod 61 = ((n1 % 61 : Nat) : Int) := by
    rw [show (65535 : Int) = ((65535 : Nat) : Int) from rfl, hb1]; rfl
  have hm : n1 % 61 ≤ 60 := by have := Nat.mod_lt n1 (show 0 < 61 by decide); omega
  generalize n1 % 61 = n at htn hm
  clear hb1 hn1
  have hl0 := hl
  obtain ⟨A, c, rfl, hlc, hcell⟩ := hl
  clear hcell
  have hle0 : (0:Int) ≤ (l.length : Int) := by omega
  go_enter Tryz.func6, Tryz.ntmps6
  go_wp2_with fail
  refine (shown_any _ hG).mono ?_
  rintro e w1 ⟨rfl, hB1⟩
  have hG1 := hG.later hB1
  have hs1 := hB1.size
  have hl1 := hl0.later hB1
  clear hl0
  go_wp2_with fail
  go_loopw [6, 7, 8] (fun s t i wr => ArRel l n w1 s t i wr) (fun _ _ i _ => n - (intOf i).toNat)
  case atStart => exact ⟨0, Nat.zero_le _, rfl, rfl, rfl, Below.refl _ _⟩
  case round =>
    rename_i wr
    obtain ⟨j, hj, rfl, rfl, rfl, hnx⟩ := hrel
    have hsz := hnx.size
    have hlX := arms0_len (vOf l) (vOf_le l) j
    have hlC := clsB_len j 0
    obtain ⟨X0, hX0⟩ : ∃ X, X = matchB ++ arms0 (vOf l) j := ⟨_, rfl⟩
    obtain ⟨T0, hT0⟩ : ∃ X, X = handB ++ clsB 0 j := ⟨_, rfl⟩
    have hX0l : X0.length ≤ 4000 := by rw [hX0, List.length_append]; show 9 + _ ≤ _; omega
    have hT0l : T0.length ≤ 4000 := by rw [hT0, List.length_append]; show 26 + _ ≤ _; omega
    rw [← hX0, ← hT0]
    have HX0 := Lib.hid hX0
    have HT0 := Lib.hid hT0
    have hlr := hl1.later hnx
    clear hX0 hT0 hlX hlC
    by_cases hlt : j < n
    · have hvj := vOf_le l j
      have hdl := dgF_len 5 j
      have hdg := digits_any 5 j (by omega) (by decide) (by decide)
      -- the second text
      have t1 : ba T0 ++ ⟨#[32, 59, 32, 111, 112]⟩ = ba (T0 ++ [32, 59, 32, 111, 112]) := ba_app2 _ _
      have t2 : ba (T0 ++ [32, 59, 32, 111, 112]) ++ ba (dgF 5 j) = ba (T0 ++ [32, 59, 32, 111, 112] ++ dgF 5 j) := ba_app2 _ _
      have t3 : ba (T0 ++ [32, 59, 32, 111, 112] ++ dgF 5 j) ++ ⟨#[32, 97, 32, 107, 32, 45, 62, 32]⟩ = ba (T0 ++ [32, 59, 32, 111, 112] ++ dgF 5 j ++ [32, 97, 32, 107, 32, 45, 62, 32]) := ba_app2 _ _
      have t4 : T0 ++ [32, 59, 32, 111, 112] ++ dgF 5 j ++ [32, 97, 32, 107, 32, 45, 62, 32] ++ dgF 5 j = handB ++ clsB 0 (j + 1) := by
        rw [HT0.out, ← clsB_snoc, Nat.zero_add]; unfold clB nmO; simp
      obtain ⟨T1, hT1⟩ : ∃ X, X = T0 ++ [32, 59, 32, 111, 112] := ⟨_, rfl⟩
      have hT1l : T1.length ≤ 4010 := by rw [hT1, List.length_append]; show _ + 5 ≤ _; omega
      rw [← hT1] at t1 t2 t3 t4
      obtain ⟨T2, hT2⟩ : ∃ X, X = T1 ++ dgF 5 j := ⟨_, rfl⟩
      have hT2l : T2.length ≤ 4020 := by rw [hT2, List.length_append]; omega
      rw [← hT2] at t2 t3 t4
      obtain ⟨T3, hT3⟩ : ∃ X, X = T2 ++ [32, 97, 32, 107, 32, 45, 62, 32] := ⟨_, rfl⟩
      have hT3l : T3.length ≤ 4030 := by rw [hT3, List.length_append]; show _ + 8 ≤ _; omega
      rw [← hT3] at t3 t4
      have t5 : ba T3 ++ ba (dgF 5 j) = ba (handB ++ clsB 0 (j + 1)) := ba_rule t4
      have sT0 := ba_size T0
      have sT1 := ba_size T1
      have sT2 := ba_size T2
      have sT3 := ba_size T3
      have sX0 := ba_size X0
      have sD := ba_size (dgF 5 j)
      have zT0 : (ba T0).size ≤ 4000 := by omega
      have zT1 : (ba T1).size ≤ 4010 := by omega
      have zT2 : (ba T2).size ≤ 4020 := by omega
      have zT3 : (ba T3).size ≤ 4030 := by omega
      have zX0 : (ba X0).size ≤ 4000 := by omega
      have zD : (ba (dgF 5 j)).size ≤ 5 := by omega
      clear hT1 hT2 hT3 sT0 sT1 sT2 sT3 sX0 sD t4 hT1l hT2l hT3l hT0l hdl
      -- the first text, up to an arm's name
      obtain ⟨Y, hY, hYl, hYs⟩ : ∃ Y, Y = (if j = 0 then X0 else X0 ++ [32, 59]) ++ [32, 67] ++ dgF 5 j ∧ Y.length ≤ 4020 ∧ matchB ++ arms0 (vOf l) (j + 1) = Y ++ vsB 0 (vOf l j) ++ [32, 45, 62, 32] ++ dgF 5 j := by
        refine ⟨_, rfl, ?_, ?_⟩
        · have := dgF_len 5 j
          split <;> simp only [List.length_append, List.length_cons, List.length_nil] <;> omega
        · split
          · rename_i h0
            subst h0
            rw [HX0.out, ← arms0_one]
            unfold armB nmC
            simp
          · rename_i h0
            rw [HX0.out, ← arms0_snoc (vOf l) j (by omega)]
            unfold armB nmC
            simp
      obtain ⟨_, _, hlA, _, hlrA⟩ := hlr
      injection hlA with hA1 _ hA2
      subst hA1 hA2
      by_cases hz : j = 0
      · have hj0 : (j : Int) ≤ 0 := by omega
        rw [if_pos hz] at hY
        obtain ⟨Y1, hY1⟩ : ∃ Y1, Y1 = X0 := ⟨_, rfl⟩
        rw [← hY1] at hY ⊢
        have zY1 : (ba Y1).size ≤ 4005 := by rw [hY1]; omega
        have r1 : ba Y1 ++ ⟨#[32, 67]⟩ = ba (Y1 ++ [32, 67]) := ba_app2 _ _
        have zY2 : (ba (Y1 ++ [32, 67])).size ≤ 4010 := by rw [← r1, ByteArray.size_append]; show _ + 2 ≤ _; omega
        obtain ⟨Y2, hY2⟩ : ∃ Y2, Y2 = Y1 ++ [32, 67] := ⟨_, rfl⟩
        rw [← hY2] at hY r1 zY2
        have r2 : ba Y2 ++ ba (dgF 5 j) = ba Y := by rw [hY]; exact ba_app2 _ _
        have sY := ba_size Y
        have zY : (ba Y).size ≤ 4020 := by omega
        clear hY1 hY2 hY sY hz
        by_cases hjl : j < l.length
        · obtain ⟨a, rfl, hcl⟩ := hlrA (by omega)
          have hc0 := hcl j hjl
          have hvt := vOf_tmod l j hjl
          have HYS := Lib.hid hYs
          clear hYs hcl
          obtain ⟨y, hy⟩ : ∃ y, y = l[j] := ⟨_, rfl⟩
          rw [← hy] at hc0 hvt
          clear hy
          obtain ⟨v, hv⟩ : ∃ v, v = vOf l j := ⟨_, rfl⟩
          rw [← hv] at hvj hvt HYS
          clear hv
          go_wp2_with fail
          refine (hdg _).mono ?_
          rintro e w2 ⟨rfl, hb2⟩
          have hn2 := hnx.trans (hb2.mono hsz)
          have hsz2 := hn2.size
          have hc2 := (hb2.cell (p := a.add j) (World.block_lt_of_cell? _ _ hc0)).trans hc0
          clear hc0
          go_wp2_with fail
          go_loopw [6, 9] (fun s k wr2 => VsRel Y v w2 s k wr2) (fun _ k _ => v - (intOf k).toNat)
          case atStart => exact ⟨0, Nat.zero_le _, rfl, by unfold vsB; simp, Below.refl _ _⟩
          case round =>
            rename_i wr2
            obtain ⟨q, hq, rfl, rfl, hnx2⟩ := hrel
            have hs3 := hnx2.size
            have hc3 := (hnx2.cell (p := a.add j) (World.block_lt_of_cell? _ _ hc2)).trans hc2
            have hvl := vsB_len q 0
            obtain ⟨Z0, hZ0⟩ : ∃ Z, Z = Y ++ vsB 0 q := ⟨_, rfl⟩
            have hZ0l : Z0.length ≤ 4070 := by rw [hZ0, List.length_append]; omega
            rw [← hZ0]
            have HZ0 := Lib.hid hZ0
            have sZ0 := ba_size Z0
            have zZ0 : (ba Z0).size ≤ 4070 := by omega
            clear hZ0 hvl
            by_cases hqv : q < v
            · have q1 : ba Z0 ++ ⟨#[32, 118]⟩ = ba (Z0 ++ [32, 118]) := ba_app2 _ _
              have zZ1 : (ba (Z0 ++ [32, 118])).size ≤ 4080 := by rw [← q1, ByteArray.size_append]; show _ + 2 ≤ _; omega
              obtain ⟨Z1, hZ1⟩ : ∃ Z, Z = Z0 ++ [32, 118] := ⟨_, rfl⟩
              rw [← hZ1] at q1 zZ1
              have q2 : ba Z1 ++ ba (dgF 5 q) = ba (Y ++ vsB 0 (q + 1)) := ba_rule (by rw [hZ1, HZ0.out, ← vsB_snoc, Nat.zero_add]; unfold nmV; simp)
              have hdq := digits_any 5 q (by omega) (by decide) (by decide)
              have zq := dgF_len 5 q
              have zq2 := ba_size (dgF 5 q)
              have zq3 : (ba (dgF 5 q)).size ≤ 5 := by omega
              clear hZ1 zq zq2
              go_wp2_with fail
              refine (hdq _).mono ?_
              rintro e w5 ⟨rfl, hb5⟩
              go_wp2_with fail
              go_roundw
              case rel => exact ⟨q + 1, by omega, by go_num, rfl, hnx2.trans (hb5.mono hs3)⟩
              case measure => simp [intOf] <;> omega
            · obtain rfl : q = v := by omega
              have hn3 := hn2.trans (hnx2.mono hsz2)
              have r3 : ba Z0 ++ ⟨#[32, 45, 62, 32]⟩ = ba (Z0 ++ [32, 45, 62, 32]) := ba_app2 _ _
              have zZ4 : (ba (Z0 ++ [32, 45, 62, 32])).size ≤ 4090 := by rw [← r3, ByteArray.size_append]; show _ + 4 ≤ _; omega
              obtain ⟨Z4, hZ4⟩ : ∃ Z4, Z4 = Z0 ++ [32, 45, 62, 32] := ⟨_, rfl⟩
              rw [← hZ4] at r3 zZ4
              have r4 : ba Z4 ++ ba (dgF 5 j) = ba (matchB ++ arms0 (vOf l) (j + 1)) := ba_rule (by rw [HYS.out, hZ4, HZ0.out])
              clear hZ4
              go_wp2_with fail
              refine (hdg _).mono ?_
              rintro e w6 ⟨rfl, hb6⟩
              have hn6 := hn3.trans (hb6.mono hn3.size)
              go_wp2_with fail
              refine (hdg _).mono ?_
              rintro e w7 ⟨rfl, hb7⟩
              have hn7 := hn6.trans (hb7.mono hn6.size)
              go_wp2_with fail
              refine (hdg _).mono ?_
              rintro e w8 ⟨rfl, hb8⟩
              have hn8 := hn7.trans (hb8.mono hn7.size)
              go_wp2_with fail
              go_roundw
              case rel => exact ⟨j + 1, by omega, by go_num, rfl, rfl, hn8⟩
              case measure => simp [intOf] <;> omega
        · rw [vOf_none l j hjl] at hYs
          have hYs2 : matchB ++ arms0 (vOf l) (j + 1) = Y ++ [32, 45, 62, 32] ++ dgF 5 j := by rw [hYs]; unfold vsB; simp
          have HYS := Lib.hid hYs2
          clear hYs hYs2 hlrA
          go_wp2_with fail
          refine (hdg _).mono ?_
          rintro e w2 ⟨rfl, hb2⟩
          have hn2 := hnx.trans (hb2.mono hsz)
          have r3 : ba Y ++ ⟨#[32, 45, 62, 32]⟩ = ba (Y ++ [32, 45, 62, 32]) := ba_app2 _ _
          have zZ4 : (ba (Y ++ [32, 45, 62, 32])).size ≤ 4090 := by rw [← r3, ByteArray.size_append]; show _ + 4 ≤ _; omega
          obtain ⟨Z4, hZ4⟩ : ∃ Z4, Z4 = Y ++ [32, 45, 62, 32] := ⟨_, rfl⟩
          rw [← hZ4] at r3 zZ4
          have r4 : ba Z4 ++ ba (dgF 5 j) = ba (matchB ++ arms0 (vOf l) (j + 1)) := ba_rule (by rw [HYS.out, hZ4])
          clear hZ4
          go_wp2_with fail
          refine (hdg _).mono ?_
          rintro e w6 ⟨rfl, hb6⟩
          have hn6 := hn2.trans (hb6.mono hn2.size)
          go_wp2_with fail
          refine (hdg _).mono ?_
          rintro e w7 ⟨rfl, hb7⟩
          have hn7 := hn6.trans (hb7.mono hn6.size)
          go_wp2_with fail
          refine (hdg _).mono ?_
          rintro e w8 ⟨rfl, hb8⟩
          have hn8 := hn7.trans (hb8.mono hn7.size)
          go_wp2_with fail
          go_roundw
          case rel => exact ⟨j + 1, by omega, by go_num, rfl, rfl, hn8⟩
          case measure => simp [intOf] <;> omega
      · have hj0 : (0 : Int) < (j : Int) := by omega
        rw [if_neg hz] at hY
        have r0 : ba X0 ++ ⟨#[32, 59]⟩ = ba (X0 ++ [32, 59]) := ba_app2 _ _
        have zY1 : (ba (X0 ++ [32, 59])).size ≤ 4005 := by rw [← r0, ByteArray.size_append]; show _ + 2 ≤ _; omega
        obtain ⟨Y1, hY1⟩ : ∃ Y1, Y1 = X0 ++ [32, 59] := ⟨_, rfl⟩
        rw [← hY1] at hY r0 zY1
        have r1 : ba Y1 ++ ⟨#[32, 67]⟩ = ba (Y1 ++ [32, 67]) := ba_app2 _ _
        have zY2 : (ba (Y1 ++ [32, 67])).size ≤ 4010 := by rw [← r1, ByteArray.size_append]; show _ + 2 ≤ _; omega
        obtain ⟨Y2, hY2⟩ : ∃ Y2, Y2 = Y1 ++ [32, 67] := ⟨_, rfl⟩
        rw [← hY2] at hY r1 zY2
        have r2 : ba Y2 ++ ba (dgF 5 j) = ba Y := by rw [hY]; exact ba_app2 _ _
        have sY := ba_size Y
        have zY : (ba Y).size ≤ 4020 := by omega
        clear hY1 hY2 hY sY hz
        by_cases hjl : j < l.length
        · obtain ⟨a, rfl, hcl⟩ := hlrA (by omega)
          have hc0 := hcl j hjl
          have hvt := vOf_tmod l j hjl
          have HYS := Lib.hid hYs
          clear hYs hcl
          obtain ⟨y, hy⟩ : ∃ y, y = l[j] := ⟨_, rfl⟩
          rw [← hy] at hc0 hvt
          clear hy
          obtain ⟨v, hv⟩ : ∃ v, v = vOf l j := ⟨_, rfl⟩
          rw [← hv] at hvj hvt HYS
          clear hv
          go_wp2_with fail
          refine (hdg _).mono ?_
          rintro e w2 ⟨rfl, hb2⟩
          have hn2 := hnx.trans (hb2.mono hsz)
          have hsz2 := hn2.size
          have hc2 := (hb2.cell (p := a.add j) (World.block_lt_of_cell? _ _ hc0)).trans hc0
          clear hc0
          go_wp2_with fail
          go_loopw [6, 9] (fun s k wr2 => VsRel Y v w2 s k wr2) (fun _ k _ => v - (intOf k).toNat)
          case atStart => exact ⟨0, Nat.zero_le _, rfl, by unfold vsB; simp, Below.refl _ _⟩
          case round =>
            rename_i wr2
            obtain ⟨q, hq, rfl, rfl, hnx2⟩ := hrel
            have hs3 := hnx2.size
            have hc3 := (hnx2.cell (p := a.add j) (World.block_lt_of_cell? _ _ hc2)).trans hc2
            have hvl := vsB_len q 0
            obtain ⟨Z0, hZ0⟩ : ∃ Z, Z = Y ++ vsB 0 q := ⟨_, rfl⟩
            have hZ0l : Z0.length ≤ 4070 := by rw [hZ0, List.length_append]; omega
            rw [← hZ0]
            have HZ0 := Lib.hid hZ0
            have sZ0 := ba_size Z0
            have zZ0 : (ba Z0).size ≤ 4070 := by omega
            clear hZ0 hvl
            by_cases hqv : q < v
            · have q1 : ba Z0 ++ ⟨#[32, 118]⟩ = ba (Z0 ++ [32, 118]) := ba_app2 _ _
              have zZ1 : (ba (Z0 ++ [32, 118])).size ≤ 4080 := by rw [← q1, ByteArray.size_append]; show _ + 2 ≤ _; omega
              obtain ⟨Z1, hZ1⟩ : ∃ Z, Z = Z0 ++ [32, 118] := ⟨_, rfl⟩
              rw [← hZ1] at q1 zZ1
              have q2 : ba Z1 ++ ba (dgF 5 q) = ba (Y ++ vsB 0 (q + 1)) := ba_rule (by rw [hZ1, HZ0.out, ← vsB_snoc, Nat.zero_add]; unfold nmV; simp)
              have hdq := digits_any 5 q (by omega) (by decide) (by decide)
              have zq := dgF_len 5 q
              have zq2 := ba_size (dgF 5 q)
              have zq3 : (ba (dgF 5 q)).size ≤ 5 := by omega
              clear hZ1 zq zq2
              go_wp2_with fail
              refine (hdq _).mono ?_
              rintro e w5 ⟨rfl, hb5⟩
              go_wp2_with fail
              go_roundw
              case rel => exact ⟨q + 1, by omega, by go_num, rfl, hnx2.trans (hb5.mono hs3)⟩
              case measure => simp [intOf] <;> omega
            · obtain rfl : q = v := by omega
              have hn3 := hn2.trans (hnx2.mono hsz2)
              have r3 : ba Z0 ++ ⟨#[32, 45, 62, 32]⟩ = ba (Z0 ++ [32, 45, 62, 32]) := ba_app2 _ _
              have zZ4 : (ba (Z0 ++ [32, 45, 62, 32])).size ≤ 4090 := by rw [← r3, ByteArray.size_append]; show _ + 4 ≤ _; omega
              obtain ⟨Z4, hZ4⟩ : ∃ Z4, Z4 = Z0 ++ [32, 45, 62, 32] := ⟨_, rfl⟩
              rw [← hZ4] at r3 zZ4
              have r4 : ba Z4 ++ ba (dgF 5 j) = ba (matchB ++ arms0 (vOf l) (j + 1)) := ba_rule (by rw [HYS.out, hZ4, HZ0.out])
              clear hZ4
              go_wp2_with fail
              refine (hdg _).mono ?_
              rintro e w6 ⟨rfl, hb6⟩
              have hn6 := hn3.trans (hb6.mono hn3.size)
              go_wp2_with fail
              refine (hdg _).mono ?_
              rintro e w7 ⟨rfl, hb7⟩
              have hn7 := hn6.trans (hb7.mono hn6.size)
              go_wp2_with fail
              refine (hdg _).mono ?_
              rintro e w8 ⟨rfl, hb8⟩
              have hn8 := hn7.trans (hb8.mono hn7.size)
              go_wp2_with fail
              go_roundw
              case rel => exact ⟨j + 1, by omega, by go_num, rfl, rfl, hn8⟩
              case measure => simp [intOf] <;> omega
        · rw [vOf_none l j hjl] at hYs
          have hYs2 : matchB ++ arms0 (vOf l) (j + 1) = Y ++ [32, 45, 62, 32] ++ dgF 5 j := by rw [hYs]; unfold vsB; simp
          have HYS := Lib.hid hYs2
          clear hYs hYs2 hlrA
          go_wp2_with fail
          refine (hdg _).mono ?_
          rintro e w2 ⟨rfl, hb2⟩
          have hn2 := hnx.trans (hb2.mono hsz)
          have r3 : ba Y ++ ⟨#[32, 45, 62, 32]⟩ = ba (Y ++ [32, 45, 62, 32]) := ba_app2 _ _
          have zZ4 : (ba (Y ++ [32, 45, 62, 32])).size ≤ 4090 := by rw [← r3, ByteArray.size_append]; show _ + 4 ≤ _; omega
          obtain ⟨Z4, hZ4⟩ : ∃ Z4, Z4 = Y ++ [32, 45, 62, 32] := ⟨_, rfl⟩
          rw [← hZ4] at r3 zZ4
          have r4 : ba Z4 ++ ba (dgF 5 j) = ba (matchB ++ arms0 (vOf l) (j + 1)) := ba_rule (by rw [HYS.out, hZ4])
          clear hZ4
          go_wp2_with fail
          refine (hdg _).mono ?_
          rintro e w6 ⟨rfl, hb6⟩
          have hn6 := hn2.trans (hb6.mono hn2.size)
          go_wp2_with fail
          refine (hdg _).mono ?_
          rintro e w7 ⟨rfl, hb7⟩
          have hn7 := hn6.trans (hb7.mono hn6.size)
          go_wp2_with fail
          refine (hdg _).mono ?_
          rintro e w8 ⟨rfl, hb8⟩
          have hn8 := hn7.trans (hb8.mono hn7.size)
          go_wp2_with fail
          go_roundw
          case rel => exact ⟨j + 1, by omega, by go_num, rfl, rfl, hn8⟩
          case measure => simp [intOf] <;> omega
    · obtain rfl : j = n := by omega
      obtain ⟨a1, x1, rs, hp1, hr1⟩ := arms_parse (vOf l) (vOf_le l) j hm
      obtain ⟨a2, x2, qs, hp2, hr2⟩ := cls_parse j hm
      rw [← HX0.out] at hp1
      rw [← HT0.out] at hp2
      have HP1 := Lib.hid hp1
      have HP2 := Lib.hid hp2
      have HR1 := Lib.hid hr1
      have HR2 := Lib.hid hr2
      clear hp1 hp2 hr1 hr2 HX0 HT0
      have hA : ba X0 ++ ⟨#[32, 125]⟩ = ba (X0 ++ endB) := ba_app2 _ _
      have hB : ba T0 ++ ⟨#[32, 125]⟩ = ba (T0 ++ endB) := ba_app2 _ _
      have hAl : (X0 ++ endB).length ≤ 4100 := by rw [List.length_append]; show _ + 2 ≤ _; omega
      have hBl : (T0 ++ endB).length ≤ 4100 := by rw [List.length_append]; show _ + 2 ≤ _; omega
      obtain ⟨X5, hX5⟩ : ∃ X, X = X0 ++ endB := ⟨_, rfl⟩
      obtain ⟨T5, hT5⟩ : ∃ X, X = T0 ++ endB := ⟨_, rfl⟩
      rw [← hX5] at hA hAl HP1
      rw [← hT5] at hB hBl HP2
      have sX0 := ba_size X0
      have sT0 := ba_size T0
      have zX0 : (ba X0).size ≤ 4000 := by omega
      have zT0 : (ba T0).size ≤ 4000 := by omega
      clear hX5 hT5 sX0 sT0
      have hGr := hG1.later hnx
      have hBr := hB1.trans (hnx.mono hs1)
      have hcv := conv_sb
      have hbs := Bs.bytes wr X5 X5.length (ba_size _).symm
      have hBb := Lib.bytesWorld_below wr 5 (ba X5)
      have hG3 := hGr.later hBb
      have hB3 := hBr.trans (hBb.mono hBr.size)
      go_wp2_with fail
      refine (parse_any _ X5 _ hbs hG3 (by omega)).mono ?_
      rintro e w3 ⟨l1, rfl, hit1, hB4⟩
      have hB03 := hB3.trans (hB4.mono hB3.size)
      have hs3 := hB03.size
      obtain ⟨hon1, hsz1, hzz1⟩ := pg_store hit1
      have HON1 := Lib.hid hon1
      have HSZ1 := Lib.hid hsz1
      have HZZ1 := Lib.hid hzz1
      have lz1 := Lies.new w3 41 zP
      have lp1 := Lies.new w3 41 l1.toArray
      have hb5 := below_new w3 (.cells l1.toArray 41)
      have hB05 := hB03.trans (hb5.mono hs3)
      have hG5 := (hG3.later hB4).later hb5
      have hl5 := ((hlr.later hBb).later hB4).later hb5
      unfold zP at lz1 HZZ1
      clear hon1 hsz1 hzz1 hcv hbs hBb hB3 hB4 hG3 hA hAl zX0 hlr hl1
      have hcv := fun (W : World) => conv_sb (ba T5) W
      rw [HP1.out] at hit1 ⊢
      dsimp only at hit1 ⊢
      obtain ⟨ev1, dv1, b1, hl1, hT1⟩ := open_body hit1
      have HL1 := Lib.hid hl1
      clear hl1
      have hT1' := hT1.later hb5
      clear hit1 hT1
      have hbs := Bs.bytes (w3.alloc (.cells l1.toArray 41)) T5 T5.length (ba_size _).symm
      have hBb := Lib.bytesWorld_below (w3.alloc (.cells l1.toArray 41)) 5 (ba T5)
      have hG6 := hG5.later hBb
      have hB06 := hB05.trans (hBb.mono hB05.size)
      rw [show (w3.alloc (.cells l1.toArray 41)).heap.size = w3.heap.size + 1 by simp] at hbs
      go_wp2_with (first | (refine wpList_store_rowTo rfl 41 (.tmp 10) (.tmp 76) rfl rfl _ l1.toArray rfl rfl 41 _ lz1 HSZ1.out HZZ1.out HON1.out ?_; rw [set_new rfl]))
      refine (parse_any _ T5 _ hbs hG6 (by omega)).mono ?_
      rintro e w4 ⟨l2, rfl, hit2, hB7⟩
      have hB07 := hB06.trans (hB7.mono hB06.size)
      have hs4 := hB07.size
      have lp3 := ((lp1.later hBb).later hB7)
      obtain ⟨hon2, hsz2', hzz2⟩ := pg_store hit2
      have HON2 := Lib.hid hon2
      have HSZ2 := Lib.hid hsz2'
      have HZZ2 := Lib.hid hzz2
      have lz2 := Lies.new w4 41 zP
      have lp2 := Lies.new w4 41 l2.toArray
      have hb8 := below_new w4 (.cells l2.toArray 41)
      have hB08 := hB07.trans (hb8.mono hs4)
      have lp4 := lp3.later hb8
      have hT14 := ((hT1'.later hBb).later hB7).later hb8
      have hl8 := ((hl5.later hBb).later hB7).later hb8
      rw [HP2.out] at hit2 ⊢
      dsimp only at hit2 ⊢
      obtain ⟨ev2, dv2, b2, hl2, hT2⟩ := open_body hit2
      have HL2 := Lib.hid hl2
      clear hl2
      have hT24 := hT2.later hb8
      have g34 : w3.heap.size < w4.heap.size := lp3.lt
      unfold zP at lz2 HZZ2
      clear hon2 hsz2' hzz2 hcv hbs hBb hB06 hB7 hG6 hG5 hB lz1 lp1 lp3 hit2 hT2 hT1' hBl zT0 hl5 hGr hG1 hG hb5 hB03 hB05
      obtain ⟨W, hW⟩ : ∃ W, W = w4.alloc (.cells l2.toArray 41) := ⟨_, rfl⟩
      obtain ⟨kv1, A1, ca1, hb1', hca1, har1⟩ := open_arms hT14
      obtain ⟨kv2, A2, ca2, hb2', hca2, har2⟩ := open_arms hT24
      rw [← hW] at hT14 hT24 lp4 lp2 hl8 hB08 har1 har2
      have hrl := HR1.out.len
      obtain ⟨vs0, t0, qr, hq0, _, hcr⟩ := HR2.out
      have hql : qs.length = j + 1 := by rw [hq0, List.length_cons, hcr.len]
      rw [hrl] at hb1' hca1 har1
      rw [hql] at hb2' hca2 har2
      obtain ⟨ga2, rfl, har2'⟩ := har2 (by omega)
      have d8 : W.cell? ⟨w3.heap.size, 8, none⟩ = some (.slice A1 j ca1) := by
        rw [lp4.cell, HL1.out, hb1']
        rfl
      have e8 : W.cell? ⟨w4.heap.size, 8, none⟩ = some (.slice (some ⟨ga2, 0, none⟩) (j + 1) ca2) := by
        rw [lp2.cell, HL2.out, hb2']
        rfl
      have ret0 : W.cell? ⟨ga2, 0, none⟩ = some (.string ⟨#[114, 101, 116, 117, 114, 110]⟩) := by
        obtain ⟨B, c, bc, hr, _⟩ := har2' 0 (tReturn, vs0, t0) (by rw [hq0]; rfl)
        have := hr 0 _ rfl
        rw [show (⟨#[114, 101, 116, 117, 114, 110]⟩ : ByteArray) = ba tReturn from rfl]
        simpa using this
      have hsW : w4.heap.size + 1 = W.heap.size := by rw [hW]; simp
      have d8' := d8
      have e8' := e8
      have ret0' := ret0
      rw [hW] at d8' e8' ret0'
      have HW := Lib.hid hW
      have HQ0 := Lib.hid hq0
      clear hW hrl hql hb1' hb2' hq0
      go_upto_region 20 with (refine wpList_store_rowTo rfl 41 (.tmp 13) (.tmp 84) rfl rfl _ l2.toArray rfl rfl 41 _ lz2 HSZ2.out HZZ2.out HON2.out ?_; rw [set_new rfl])
      go_wp2_with fail
      rw [← HW.out]
      clear d8' e8' ret0' lz2 lp4 lp2 hT14 hT24 hb8
      have HLR := Lib.hid hl8
      clear hl8
      by_cases hj0 : j = 0
      · subst hj0
        go_loopw [16] (fun i wr => i = .int .i64 0 ∧ Below W.heap.size W wr) (fun _ _ => 0)
        case atStart => exact ⟨rfl, Below.refl _ _⟩
        case round =>
          obtain ⟨rfl, hb⟩ := hrel
          go_wp2_with fail
          go_ret
          exact ⟨rfl, hB08.trans (hb.mono hB08.size)⟩
      obtain ⟨ga1, rfl, har1'⟩ := har1 (by omega)
      have HA1 := Lib.hid har1'
      have HA2 := Lib.hid har2'
      clear har1 har1' har2'
      go_loopw [16] (fun i wq => ∃ q : Nat, q ≤ j ∧ i = .int .i64 (q : Nat) ∧ Below W.heap.size W wq) (fun i _ => j - (intOf i).toNat)
      case atStart => exact ⟨0, Nat.zero_le _, rfl, Below.refl _ _⟩
      case round =>
        rename World => wq
        obtain ⟨q, hq, rfl, hbq⟩ := hrel
        by_cases hqj : q < j
        · obtain ⟨vsA, pA, hiA, hvA⟩ := HR1.out.at q hqj
          obtain ⟨BA, cA, bcA, hrA, hTA⟩ := HA1.out q _ hiA
          obtain ⟨vsB, pB, hiB, hvB⟩ := hcr.at q hqj
          obtain ⟨BB, cB, bcB, hrB, hTB⟩ := HA2.out (q + 1) _ (by rw [HQ0.out]; exact hiB)
          dsimp only at hrA hTA hrB hTB hvA hvB
          rw [Nat.zero_add] at hrA hTA hvA hrB hTB
          rw [hvA] at hrA
          rw [hvB] at hrB
          obtain ⟨kvA, avA, hbA⟩ := leaf_cells hTA
          obtain ⟨kvB, avB, hbB⟩ := leaf_cells hTB
          obtain ⟨csA, hA23, hA1, hAe0, hAe1, hAe6, hrA'⟩ := arm_row hTA hrA hbA
          obtain ⟨csB, hB23, hB1', hBe0, hBe1, hBe6, hrB'⟩ := arm_row hTB hrB hbB
          clear hrA hTA hrB hTB hbA hbB hiA hiB hvA hvB
          have hszq := hbq.size
          have hlq := HLR.out.later hbq
          obtain ⟨v, hv⟩ : ∃ v, v = vOf l q := ⟨_, rfl⟩
          rw [← hv] at hAe1
          have hqA : wq.rangeAt ga1 (q * 23) csA := fun i u hu => (hbq.cell (World.block_lt_of_cell? _ _ (hrA' i u hu))).trans (hrA' i u hu)
          have hqB : wq.rangeAt ga2 ((q + 1) * 23) csB := fun i u hu => (hbq.cell (World.block_lt_of_cell? _ _ (hrB' i u hu))).trans (hrB' i u hu)
          have hbA := below_new wq (.cells csA.toArray 62)
          have hqB2 : (wq.alloc (.cells csA.toArray 62)).rangeAt ga2 ((q + 1) * 23) csB := fun i u hu => (hbA.cell (World.block_lt_of_cell? _ _ (hqB i u hu))).trans (hqB i u hu)
          have D8 := (hbq.cell (p := ⟨w3.heap.size, 8, none⟩) (World.block_lt_of_cell? _ _ d8)).trans d8
          have E8 := (hbq.cell (p := ⟨w4.heap.size, 8, none⟩) (World.block_lt_of_cell? _ _ e8)).trans e8
          have E8b := (hbA.cell (p := ⟨w4.heap.size, 8, none⟩) (World.block_lt_of_cell? _ _ E8)).trans E8
          have lzA := Lies.new wq 62 zAl
          have lA := Lies.new wq 62 csA.toArray
          have lzB := Lies.new' (wq.alloc (.cells csA.toArray 62)) 62 zAl (N := wq.heap.size + 1) (by simp)
          have lB := Lies.new' (wq.alloc (.cells csA.toArray 62)) 62 csB.toArray (N := wq.heap.size + 1) (by simp)
          have hbB := hbA.trans ((below_new (wq.alloc (.cells csA.toArray 62)) (.cells csB.toArray 62)).mono (by simp))
          have lA2 := lA.alloc (.cells csB.toArray 62)
          have hlq2 := hlq.later hbB
          have hsA : (Tryz.prog.info? 62).map (·.size) = some csA.toArray.size := by rw [szArm]; simp [hA23]
          have hsB : (Tryz.prog.info? 62).map (·.size) = some csB.toArray.size := by rw [szArm]; simp [hB23]
          have hzA : zAl.size = csA.toArray.size := by simp [hA23, zAl]
          have hzB : zAl.size = csB.toArray.size := by simp [hB23, zAl]
          have HSA := Lib.hid hsA
          have HSB := Lib.hid hsB
          have HZA := Lib.hid hzA
          have HZB := Lib.hid hzB
          have HOA := Lib.hid hA1
          have HOB := Lib.hid hB1'
          have HLA := Lib.hid hA23
          have HLB := Lib.hid hB23
          have HHV := Lib.hid hv
          unfold zAl at lzA lzB HZA HZB
          clear hsA hsB hzA hzB hA1 hB1' hA23 hB23 hv hqB hrA' hrB' hlq
          go_upto_region 27 with (first
            | ((with_reducible show wpList _ _ _ (⟨_, Op.load _ (.tmp 128), _, _, _, _⟩ :: _) _ _); refine wpList_load_mid rfl 62 (.tmp 128) rfl ga1 (q * 23) rfl csA _ hqA Tryz.underlying62 rfl (by rw [szArm, HLA.out]) ?_)
            | ((with_reducible show wpList _ _ _ (⟨_, Op.store _ (.tmp 17) _, _, _, _, _⟩ :: _) _ _); refine wpList_store_rowTo rfl 62 (.tmp 17) (.tmp 129) rfl rfl _ csA.toArray rfl rfl 62 _ lzA HSA.out HZA.out HOA.out ?_; rw [set_new rfl])
            | ((with_reducible show wpList _ _ _ (⟨_, Op.load _ (.tmp 135), _, _, _, _⟩ :: _) _ _); refine wpList_load_mid rfl 62 (.tmp 135) rfl ga2 ((q + 1) * 23) rfl csB _ hqB2 Tryz.underlying62 rfl (by rw [szArm, HLB.out]) ?_)
            | ((with_reducible show wpList _ _ _ (⟨_, Op.store _ (.tmp 18) _, _, _, _, _⟩ :: _) _ _); refine wpList_store_rowTo rfl 62 (.tmp 18) (.tmp 136) rfl rfl _ csB.toArray rfl rfl 62 _ lzB HSB.out HZB.out HOB.out ?_; rw [set_new (by simp)]))
          obtain ⟨W2, hW2⟩ : ∃ W2, W2 = (wq.alloc (.cells csA.toArray 62)).alloc (.cells csB.toArray 62) := ⟨_, rfl⟩
          rw [← hW2]
          rw [← hW2] at lA2 lB hlq2 hbB
          have d0 : W2.cell? ⟨wq.heap.size, 0, none⟩ = some (.string (ba (nmC q))) := by rw [lA2.cell, ← hAe0]; simp
          have d1 : W2.cell? ⟨wq.heap.size, 1, none⟩ = some (.slice BA v cA) := by rw [lA2.cell, ← hAe1]; simp
          have d6 : W2.cell? ⟨wq.heap.size, 6, none⟩ = some (.int .i64 (q : Int)) := by rw [lA2.cell, ← hAe6]; simp
          have f0 : W2.cell? ⟨wq.heap.size + 1, 0, none⟩ = some (.string (ba (nmO q))) := by rw [lB.cell, ← hBe0]; simp
          have f1 : W2.cell? ⟨wq.heap.size + 1, 1, none⟩ = some (.slice BB 2 cB) := by rw [lB.cell, ← hBe1]; simp
          have f6 : W2.cell? ⟨wq.heap.size + 1, 6, none⟩ = some (.int .i64 (q : Int)) := by rw [lB.cell, ← hBe6]; simp
          have hBW2 := hbq.trans (hbB.mono hszq)
          clear hW2 lzA lzB lA lA2 lB hqA hqB2 hbA hbB D8 E8 E8b hAe0 hAe1 hAe6 hBe0 hBe1 hBe6
          have nC : (⟨#[67]⟩ : ByteArray) ++ ba (dgF 5 q) = ba (nmC q) := ba_app2 [67] _
          have nO : (⟨#[111, 112]⟩ : ByteArray) ++ ba (dgF 5 q) = ba (nmO q) := ba_app2 [111, 112] _
          have hd5 : (dgF 5 q).length ≤ 5 := dgF_len 5 q
          have hds := ba_size (dgF 5 q)
          have hng1 : ¬ 9223372036854775807 < 1 + (dgF 5 q).length := by omega
          have hng2 : ¬ 9223372036854775807 < 2 + (dgF 5 q).length := by omega
          have hdg := digits_any 5 q (by omega) (by decide) (by decide)
          have hkeep := fun (w9 : World) (hb : Below W2.heap.size W2 w9) => arms_keep d0 d1 d6 f0 f1 f6 hb
          by_cases hql : q < l.length
          · obtain ⟨_, _, hlA, _, hlrA⟩ := hlq2
            injection hlA with hA1 _ hA2
            subst hA1 hA2
            obtain ⟨a, rfl, hcl⟩ := hlrA (by omega)
            have hc0 := hcl q hql
            have hvt := vOf_tmod l q hql
            rw [← HHV.out] at hvt
            obtain ⟨y, hy⟩ : ∃ y, y = l[q] := ⟨_, rfl⟩
            rw [← hy] at hc0 hvt
            clear hy hcl
            go_upto_region 30 with (fail)
            go_region_held3 (fun w' => w'.cell? ⟨wq.heap.size, 0, none⟩ = some (.string (ba (nmC q))) ∧ w'.cell? ⟨wq.heap.size, 1, none⟩ = some (.slice BA v cA) ∧ w'.cell? ⟨wq.heap.size, 6, none⟩ = some (.int .i64 (q : Int)) ∧
              w'.cell? ⟨wq.heap.size + 1, 0, none⟩ = some (.string (ba (nmO q))) ∧ w'.cell? ⟨wq.heap.size + 1, 1, none⟩ = some (.slice BB 2 cB) ∧ w'.cell? ⟨wq.heap.size + 1, 6, none⟩ = some (.int .i64 (q : Int)) ∧ Below W2.heap.size W2 w')
              (first | exact hkeep _ (Below.refl _ _).drew | exact hkeep _ (((Below.refl _ _).drew.trans hb9).trans (hb10.mono hb9.size)) | exact hkeep _ ((Below.refl _ _).drew.trans hb9))
              (first | (go_at_call 17; refine (hdg _).mono ?_; first | (have _hz := hb9; rintro e w10 ⟨rfl, hb10⟩) | (rintro e w9 ⟨rfl, hb9⟩)))
            have hB9 : Below W2.heap.size W2 w9 := (Below.refl W2.heap.size W2).drew.trans hb9
            have hBw : Below W2.heap.size W2 w10 := hB9.trans (hb10.mono hB9.size)
            have hBz := hBW2.trans (hBw.mono hBW2.size)
            go_wp2_with fail
            go_roundw
            case rel => exact ⟨q + 1, by omega, by go_num, hBz⟩
            case measure => simp [intOf] <;> omega
          · have hv0 : v = 0 := by rw [HHV.out]; exact vOf_none l q hql
            subst hv0
            go_upto_region 30 with (fail)
            go_region_held3 (fun w' => w'.cell? ⟨wq.heap.size, 0, none⟩ = some (.string (ba (nmC q))) ∧ w'.cell? ⟨wq.heap.size, 1, none⟩ = some (.slice BA 0 cA) ∧ w'.cell? ⟨wq.heap.size, 6, none⟩ = some (.int .i64 (q : Int)) ∧
              w'.cell? ⟨wq.heap.size + 1, 0, none⟩ = some (.string (ba (nmO q))) ∧ w'.cell? ⟨wq.heap.size + 1, 1, none⟩ = some (.slice BB 2 cB) ∧ w'.cell? ⟨wq.heap.size + 1, 6, none⟩ = some (.int .i64 (q : Int)) ∧ Below W2.heap.size W2 w')
              (first | exact hkeep _ (Below.refl _ _).drew | exact hkeep _ (((Below.refl _ _).drew.trans hb9).trans (hb10.mono hb9.size)) | exact hkeep _ ((Below.refl _ _).drew.trans hb9))
              (first | (go_at_call 17; refine (hdg _).mono ?_; first | (have _hz := hb9; rintro e w10 ⟨rfl, hb10⟩) | (rintro e w9 ⟨rfl, hb9⟩)))
            have hB9 : Below W2.heap.size W2 w9 := (Below.refl W2.heap.size W2).drew.trans hb9
            have hBw : Below W2.heap.size W2 w10 := hB9.trans (hb10.mono hB9.size)
            have hBz := hBW2.trans (hBw.mono hBW2.size)
            go_wp2_with fail
            go_roundw
            case rel => exact ⟨q + 1, by omega, by go_num, hBz⟩
            case measure => simp [intOf] <;> omega
        · obtain rfl : q = j := by omega
          go_wp2_with fail
          go_ret
          exact ⟨rfl, hB08.trans (hbq.mono hB08.size)⟩
end Go.Proofs.YtboejbnkkhcccaaGreatDoor
