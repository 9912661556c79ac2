/- The walk of the law ParseNests. -/
import Derived.Test.YtogppkdndlheoaaGreatDoorSha
import Derived.Test.YtogppkdndlheoaaGreatDoorGoNest
import Derived.Test.YtogppkdndlheoaaGreatDoorLpCut
import Derived.Test.YtogppkdndlheoaaGreatDoorDigs
import Derived.Outline
namespace Go.Proofs.YtogppkdndlheoaaGreatDoor
open Go.RowKit Pz

def nestS (k n : Nat) : List UInt8 := nestB (beg k) (List.replicate (if k = 5 then n else 0) 41) n
theorem nestS_five (n : Nat) : beg 5 ++ nestS 5 n ++ [41] = nestS 5 (n + 1) := by
  unfold nestS
  rw [if_pos rfl, if_pos rfl, List.append_assoc, nestB_snoc, ← List.replicate_succ']
  rfl
theorem nestS_succ {k : Nat} (hk : k ≠ 5) (n : Nat) : beg k ++ nestS k n = nestS k (n + 1) := by
  unfold nestS
  rw [if_neg hk, if_neg hk]
  rfl
theorem beg_len : ∀ k, k < 7 → (beg k).length ≤ 20 := by decide
theorem nestS_len {k n : Nat} (hk : k < 7) (hn : n ≤ 220) : (nestS k n).length ≤ 5000 := by
  unfold nestS
  rw [nestB_len, List.length_replicate]
  have := beg_len k hk
  have h2 : n * (beg k).length ≤ 220 * 20 := Nat.mul_le_mul hn this
  split <;> omega

theorem nest_parse {k n : Nat} (hk : k < 7) (hn : n ≤ 220) :
    (n ≤ 199 → ∃ p, parseR (nestS k n) = (p, 0, 0) ∧ p.body.deep = n + 1 ∧ p.body.size ≤ 90000000) ∧ (199 < n → ∃ a, parseR (nestS k n) = (⟨[], [], .zero⟩, a, 6)) := by
  obtain ⟨ws, tl, h1, h2, h3, h4⟩ := lex_nest k hk (if k = 5 then n else 0) n 0
  have hl := nestS_len hk hn
  have hlex : lexR (nestS k n) = (ws, 0, 0) := lexR_ok (by omega) h1
  have hc : ws.length ≤ (nestS k n).length := h1.count
  obtain ⟨p1, p2⟩ := nest_program (nestS k n).length k n hk h2 h3 h4
  have hs := size_program (nestS k n).length ws
  rw [parseR_ok hlex]
  generalize nestS k n = B at *
  obtain ⟨R, hR⟩ : ∃ R, Pz.program B.length ⟨ws, 0, 0, 0⟩ = R := ⟨_, rfl⟩
  obtain ⟨p, s⟩ := R
  rw [hR] at p1 p2 hs
  dsimp only at p1 p2 hs
  constructor
  · intro h
    obtain ⟨e1, e2⟩ := p1 h
    exact ⟨p, parseW_ok hR e1 (by omega), e2, by have := hs e1; omega⟩
  · intro h
    rcases p2 h with e1 | ⟨e1, e2⟩
    · exact ⟨s.at_, by rw [parseW_err hR (by omega), e1]⟩
    · exact ⟨0, parseW_deep hR e1 e2⟩

def begC : Array Value := #[.string ⟨#[102, 117, 110, 32, 120, 32, 45, 62, 32]⟩, .string ⟨#[108, 101, 116, 32, 120, 32, 61, 32, 49, 32, 105, 110, 32]⟩, .string ⟨#[105, 102, 32, 116, 114, 117, 101, 32, 116, 104, 101, 110, 32, 48, 32, 101, 108, 115, 101, 32]⟩,
  .string ⟨#[33, 32]⟩, .string ⟨#[112, 114, 105, 110, 116, 32]⟩, .string ⟨#[67, 40]⟩, .string ⟨#[103, 101, 116, 33, 32]⟩]
theorem begC_at : ∀ k, k < 7 → begC.toList[k]? = some (.string (ba (beg k)))
  | 0, _ => rfl
  | 1, _ => rfl
  | 2, _ => rfl
  | 3, _ => rfl
  | 4, _ => rfl
  | 5, _ => rfl
  | 6, _ => rfl
theorem wpList_load_midG {P : Program} {ops : Array Oper} {rest : List Oper} {op : Oper} {a : Act} {w : World} {Q : Exit → Act → World → Prop} (hw : Region.wanted op (yielded ops a.tmps) = true) (ty : TypeId) (x : Operand) (ho : op.op = .load ty x)
    (b o : Nat) (hx : a.eval x = .pointer (some ⟨b, o, none⟩)) (cs : List Value) (d : TypeDesc) (hc : w.rangeAt b o cs)
    (hu : P.underlying ty = some d) (hd : d.isRow = true) (hi : (P.info? ty).map (·.size) = some cs.length)
    (h : wpList P ops Q rest (a.put op.dst (.agg cs.toArray)) w) : wpList P ops Q (op :: rest) a w :=
  wpList_step fun K hK => by rw [if_pos hw]; exact wp_load_mid ty x ho b o hx cs d hc hu hd hi (hK _ _ h)
theorem open_body {w : World} {P : Nat → Prop} {p : Prog} {l : List Value} (h : PgIt w P p l) : ∃ ev dv b, l = [ev, dv] ++ b ∧ HT w P p.body b := by
  obtain ⟨ev, dv, b, xs, ys, rfl, _, _, _, _, _, _, hT⟩ := h
  exact ⟨ev, dv, b, rfl, hT⟩
theorem HT.kind0 {w : World} {P : Nat → Prop} {b : List Value} (h : HT w P Tm.zero b) : b[0]? = some (.int .i64 0) := by
  unfold Tm.zero at h
  cases h
  rfl
theorem nestS_zero (k : Nat) : nestS k 0 = [49] := by unfold nestS; split <;> rfl

set_option maxRecDepth 100000 in
set_option maxHeartbeats 4000000 in
theorem parseNests_any (n0 k0 : Int) (w : World) (hG : Good w) :
    Calls Tryz.prog 9 #[.int .i64 n0, .int .i64 k0] w (Yes w) := by
  obtain ⟨n1, hn1, hb1⟩ := and_mask n0 65535 (by decide)
  obtain ⟨k1, hk1, hb2⟩ := and_mask k0 65535 (by decide)
  have htn : (bits .and .i64 n0 65535).tmod 221 = ((n1 % 221 : Nat) : Int) := by
    rw [show (65535 : Int) = ((65535 : Nat) : Int) from rfl, hb1]; rfl
  have htk : (bits .and .i64 k0 65535).tmod 7 = ((k1 % 7 : Nat) : Int) := by
    rw [show (65535 : Int) = ((65535 : Nat) : Int) from rfl, hb2]; rfl
  have hn : n1 % 221 ≤ 220 := by have := Nat.mod_lt n1 (show 0 < 221 by decide); omega
  have hk : k1 % 7 < 7 := Nat.mod_lt _ (by decide)
  generalize n1 % 221 = n at htn hn
  generalize k1 % 7 = k at htk hk
  clear hb1 hb2 hn1 hk1
  go_enter Tryz.func9, Tryz.ntmps9
  go_wp2_with fail
  refine (shown_any _ hG).mono ?_
  rintro e w1 ⟨rfl, hB1⟩
  have hG1 := hG.later hB1
  have hs1 := hB1.size
  go_wp2_with fail
  have lb := Lies.new w1 9 begC
  have hcell : (w1.alloc (.cells begC 9)).cell? ⟨w1.heap.size, k, none⟩ = some (.string (ba (beg k))) := by
    rw [lb.cell, ← begC_at k hk]
    simp
  have hB2 := below_new w1 (.cells begC 9)
  have hG2 := hG1.later hB2
  unfold begC at hcell hB2 hG2
  have hbl := beg_len k hk
  have hbs := ba_size (beg k)
  have hbl2 : (ba (beg k)).size ≤ 20 := by omega
  clear lb
  go_loop [8, 9] (fun s i => ∃ j : Nat, j ≤ n ∧ s = .string (ba (nestS k j)) ∧ i = .int .i64 j) (fun _ i => n - (intOf i).toNat)
  case atStart => exact ⟨0, Nat.zero_le _, by rw [nestS_zero]; rfl, rfl⟩
  case round =>
    obtain ⟨j, hj, rfl, rfl⟩ := hrel
    have hl := nestS_len hk (n := j) (by omega)
    have hls := ba_size (nestS k j)
    have hl2 : (ba (nestS k j)).size ≤ 5000 := by omega
    by_cases hlt : j < n
    · by_cases h5 : k = 5
      · have hst := nestS_five j
        subst h5
        have HST := Lib.hid hst
        have h6 : (ba (beg 5) ++ ba (nestS 5 j)).size ≤ 6000 := by rw [ByteArray.size_append]; omega
        clear hst
        go_wp2
        go_round
        case rel => exact ⟨j + 1, by omega, by rw [ba_app2, ← HST.out, show (⟨#[41]⟩ : ByteArray) = ba [41] from rfl, ba_app2], by go_num⟩
        case measure => simp [intOf]; omega
      · have hst := nestS_succ h5 j
        have hki : ((k : Int) == 5) = false := by simp; omega
        have HST := Lib.hid hst
        clear hst
        go_wp2
        go_round
        case rel => exact ⟨j + 1, by omega, by rw [ba_app2, HST.out], by go_num⟩
        case measure => simp [intOf]; omega
    · obtain rfl : j = n := by omega
      have hcv := conv_sb
      have hnp := nest_parse hk hn
      have HNP := Lib.hid hnp
      clear hnp
      have hbs := Bs.bytes (w1.alloc (.cells begC 9)) (nestS k j) (nestS k j).length hls.symm
      have hBb := Lib.bytesWorld_below (w1.alloc (.cells begC 9)) 5 (ba (nestS k j))
      rw [show (w1.alloc (.cells begC 9)).heap.size = w1.heap.size + 1 by simp] at hbs hBb
      unfold begC at hbs hBb
      have hG3 := hG2.later (hBb.mono (by simp))
      have hB3 := (hB1.trans (hB2.mono hs1)).trans (hBb.mono (by omega))
      go_wp2_with fail
      refine (parse_any _ (nestS k j) _ hbs hG3 (by omega)).mono ?_
      rintro e w4 ⟨l4, rfl, hit, hB4⟩
      have hB04 := hB3.trans (hB4.mono hB3.size)
      have hs4 := hB04.size
      clear hbs hBb hB2 hB3 hB4 hG2 hG3 hcell hcv hl hls hl2
      obtain ⟨hon, hsz, hzz⟩ := pg_store hit
      have HON := Lib.hid hon
      have HSZ := Lib.hid hsz
      have HZZ := Lib.hid hzz
      have lz := Lies.new w4 41 zP
      have lp := Lies.new w4 41 l4.toArray
      have hb5 := below_new w4 (.cells l4.toArray 41)
      have hB05 := hB04.trans (hb5.mono hs4)
      unfold zP at lz HZZ
      clear hon hsz hzz
      by_cases hn9 : j ≤ 199
      · obtain ⟨p, hp, hd, hsp⟩ := HNP.out.1 hn9
        rw [hp] at hit ⊢
        obtain ⟨ev, dv, b, hl4, hT⟩ := open_body hit
        have hmid : (w4.alloc (.cells l4.toArray 41)).rangeAt w4.heap.size 2 b := by
          have h := lp
          rw [hl4] at h ⊢
          exact Lies.rangeMid (l := [ev, dv]) (r := b) h
        have hTl := hT.len
        have HTL := Lib.hid hTl
        have hT5 := hT.later hb5
        have hdep := depth_any b p.body _ _ hT5 hsp
        rw [hd, show min (j + 1) 1000 = j + 1 by omega] at hdep
        have HDEP := Lib.hid hdep
        clear hit hT hTl hT5 hdep hp hd hsp hl4
        go_wp2_with (first | (refine wpList_store_rowTo rfl 41 (.tmp 10) (.tmp 40) rfl rfl _ l4.toArray rfl rfl 41 _ lz HSZ.out HZZ.out HON.out ?_; rw [set_new rfl]) | (refine wpList_load_midG (by rfl) 39 (.tmp 62) rfl w4.heap.size 2 rfl b _ hmid Tryz.underlying39 rfl (by rw [sz39, HTL.out]) ?_))
        refine HDEP.out.mono ?_
        rintro e w7 ⟨rfl, hb7⟩
        go_wp2
        go_ret
        exact ⟨rfl, hB05.trans (hb7.mono hB05.size)⟩
      · obtain ⟨a, ha⟩ := HNP.out.2 (by omega)
        rw [ha] at hit ⊢
        obtain ⟨ev, dv, b, hl4, hT⟩ := open_body hit
        have hk0 : (w4.alloc (.cells l4.toArray 41)).cell? ⟨w4.heap.size, 2, none⟩ = some (.int .i64 0) := by
          rw [lp.cell, hl4]
          have := hT.kind0
          simpa using this
        clear hit hT ha hl4
        go_wp2_with (first | (refine wpList_store_rowTo rfl 41 (.tmp 10) (.tmp 40) rfl rfl _ l4.toArray rfl rfl 41 _ lz HSZ.out HZZ.out HON.out ?_; rw [set_new rfl]))
        go_ret
        exact ⟨rfl, hB05⟩
end Go.Proofs.YtogppkdndlheoaaGreatDoor
