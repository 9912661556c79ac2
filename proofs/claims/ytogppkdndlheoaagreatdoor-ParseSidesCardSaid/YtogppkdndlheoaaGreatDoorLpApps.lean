/- The walk of the law ParseApps. -/
import Derived.Test.YtogppkdndlheoaaGreatDoorLpNest
import Derived.Deep.RegionHeld3
import Derived.Outline
namespace Go.Proofs.YtogppkdndlheoaaGreatDoor
open Go.RowKit Pz

theorem appsB_len : ∀ (m a : Nat), (appsB a m).length ≤ 7 * m
  | 0, _ => by show 0 ≤ 0; omega
  | m + 1, a => by
    have h := appsB_len m (a + 1)
    have := dgF_len 5 a
    rw [appsB_cons, List.length_cons, List.length_append]
    unfold xn
    rw [List.length_cons]
    omega
theorem apps_parse (m : Nat) (hm : m ≤ 149) : ∃ p, parseR (appsB 0 (m + 1)) = (p, 0, 0) ∧ Ch m p.body := by
  obtain ⟨ws, h1, h2, h3, h4⟩ := lex_apps (m + 1) 0 0 (by omega)
  have hl := appsB_len (m + 1) 0
  have hlex : lexR (appsB 0 (m + 1)) = (ws, 0, 0) := lexR_ok (by omega) h1
  match ws, h3 with
  | x :: r, h3 =>
    have hp := h4 x r rfl
    obtain ⟨t, e, ht⟩ := apps_program (appsB 0 (m + 1)).length 0 x r h2 hp
    have hr : r.length = m := by rw [List.length_cons] at h3; omega
    rw [hr] at ht
    exact ⟨⟨[], [], t⟩, by rw [parseR_ok hlex]; exact parseW_ok e rfl (by show ¬ 200 < t.deep; rw [ht.deep]; omega), ht⟩
theorem ba_step (m : Nat) : ba (appsB 0 m) ++ ⟨#[32, 120]⟩ ++ ba (dgF 5 m) = ba (appsB 0 (m + 1)) := by
  rw [show (⟨#[32, 120]⟩ : ByteArray) = ba [32, 120] from rfl, ba_app2, ba_app2, ← appsB_snoc, Nat.zero_add, List.append_assoc]
  rfl
theorem ba_xn (m : Nat) : (⟨#[120]⟩ : ByteArray) ++ ba (dgF 5 m) = ba (xn m) := ba_app2 [120] _

/-- What the loop reads of a term that applies. -/
theorem open_app {w : World} {P : Nat → Prop} {j : Nat} {t : Tm} {b : List Value} (h : HT w P t b) (hc : Ch (j + 1) t) : ∃ f k0 gk ck av, Ch j f ∧ HT w P f k0 ∧ b = tmC 6 1 [] [] 0 (.slice (some ⟨gk, 0, none⟩) 2 ck) av ∧ 2 ≤ ck ∧
    w.rangeAt gk 0 k0 ∧ w.cell? ⟨gk, 21, none⟩ = some (.int .i64 1) ∧ w.cell? ⟨gk, 23, none⟩ = some (.string (ba (xn (j + 1)))) := by
  obtain ⟨f, p, rfl, hf⟩ := hc
  cases h with
  | mk _ _ _ _ _ _ _ kv av kc vv bc hk hkl hks hvl hbl ha hav has =>
  have hkl' : kc.length = 2 := hkl
  obtain ⟨k0, k1, rfl⟩ : ∃ k0 k1, kc = [k0, k1] := by
    match kc, hkl' with
    | [k0, k1], _ => exact ⟨k0, k1, rfl⟩
  have t0 := hks 0 _ k0 rfl rfl
  have t1 := hks 1 _ k1 rfl rfl
  have hl0 := t0.len
  rcases own_cells hk.2 with ⟨_, h0⟩ | ⟨gk, ck, rfl, hck, _, _, hcK⟩
  · cases h0
  refine ⟨f, k0, gk, ck, av, hf, t0, rfl, hck, ?_, ?_, ?_⟩
  · intro i u hu
    have hi : i < k0.length := (List.getElem?_eq_some_iff.1 hu).1
    have := hcK i u (by
      simp only [List.flatten_cons]
      rw [List.getElem?_append_left hi]
      exact hu)
    simpa using this
  · cases t1
    refine hcK 21 _ ?_
    simp only [List.flatten_cons]
    rw [List.getElem?_append_right (by omega), hl0]
    rfl
  · cases t1
    refine hcK 23 _ ?_
    simp only [List.flatten_cons]
    rw [List.getElem?_append_right (by omega), hl0]
    rfl
theorem open_last {w : World} {P : Nat → Prop} {t : Tm} {b : List Value} (h : HT w P t b) (hc : Ch 0 t) : ∃ kv av, b = tmC 1 1 (xn 0) [] 0 kv av := by
  rw [show t = _ from hc] at h
  cases h
  exact ⟨_, _, rfl⟩
theorem app_keep {wr w9 : World} {a0 a1 a5 a21 a23 : Addr} {v0 v1 v5 v21 v23 : Value} (d0 : wr.cell? a0 = some v0) (d1 : wr.cell? a1 = some v1) (d5 : wr.cell? a5 = some v5) (d21 : wr.cell? a21 = some v21) (d23 : wr.cell? a23 = some v23) (hb : Below wr.heap.size wr w9) :
    w9.cell? a0 = some v0 ∧ w9.cell? a1 = some v1 ∧ w9.cell? a5 = some v5 ∧ w9.cell? a21 = some v21 ∧ w9.cell? a23 = some v23 ∧ Below wr.heap.size wr w9 :=
  ⟨(hb.cell (World.block_lt_of_cell? wr _ d0)).trans d0, (hb.cell (World.block_lt_of_cell? wr _ d1)).trans d1, (hb.cell (World.block_lt_of_cell? wr _ d5)).trans d5, (hb.cell (World.block_lt_of_cell? wr _ d21)).trans d21, (hb.cell (World.block_lt_of_cell? wr _ d23)).trans d23, hb⟩
/-- Where the loop over the kids stands. -/
def ChRel (w4 : World) (P : Nat → Prop) (m : Nat) (i : Value) (wr : World) : Prop :=
  ∃ j t b, j ≤ m ∧ i = .int .i64 (j : Nat) ∧ Ch j t ∧ HT w4 P t b ∧ Lies wr (w4.heap.size + 1) 39 b.toArray ∧ Below w4.heap.size w4 wr

set_option maxRecDepth 100000 in
set_option maxHeartbeats 4000000 in
theorem parseApps_any (n0 : Int) (w : World) (hG : Good w) : Calls Tryz.prog 8 #[.int .i64 n0] w (Yes w) := by
  obtain ⟨n1, hn1, hb1⟩ := and_mask n0 65535 (by decide)
  have htn : (bits .and .i64 n0 65535).tmod 150 = ((n1 % 150 : Nat) : Int) := by
    rw [show (65535 : Int) = ((65535 : Nat) : Int) from rfl, hb1]; rfl
  have hm : n1 % 150 ≤ 149 := by have := Nat.mod_lt n1 (show 0 < 150 by decide); omega
  generalize n1 % 150 = m at htn hm
  clear hb1 hn1
  have hap := apps_parse m hm
  have HAP := Lib.hid hap
  clear hap
  go_enter Tryz.func8, Tryz.ntmps8
  go_wp2_with fail
  refine (shown_any _ hG).mono ?_
  rintro e w1 ⟨rfl, hB1⟩
  have hG1 := hG.later hB1
  have hs1 := hB1.size
  go_wp2_with fail
  go_loopw [4, 5] (fun s i wr => ∃ j : Nat, j ≤ m + 1 ∧ s = .string (ba (appsB 0 j)) ∧ i = .int .i64 j ∧ Below w1.heap.size w1 wr) (fun _ i _ => m + 1 - (intOf i).toNat)
  case atStart => exact ⟨0, Nat.zero_le _, rfl, rfl, Below.refl _ _⟩
  case round =>
    obtain ⟨j, hj, rfl, rfl, hnx⟩ := hrel
    have hsz := hnx.size
    have hl := appsB_len j 0
    have hls := ba_size (appsB 0 j)
    have hl2 : (ba (appsB 0 j)).size ≤ 1050 := by omega
    by_cases hlt : j < m + 1
    · have hd := dgF_len 5 j
      have hds := ba_size (dgF 5 j)
      have hst := ba_step j
      have HST := Lib.hid hst
      have hlti : (j : Int) < 1 + (m : Int) := by omega
      clear hst
      go_wp2_with fail
      refine (digits_any 5 j (by omega) (by decide) (by decide) _).mono ?_
      rintro e w2 ⟨rfl, hb2⟩
      have h6 : (ba (appsB 0 j) ++ ⟨#[32, 120]⟩ : ByteArray).size ≤ 1100 := by rw [ByteArray.size_append]; show (ba (appsB 0 j)).size + 2 ≤ 1100; omega
      go_wp2
      go_roundw
      case rel => exact ⟨j + 1, by omega, by rw [HST.out], by go_num, hnx.trans (hb2.mono hsz)⟩
      case measure => simp [intOf]; omega
    · obtain rfl : j = m + 1 := by omega
      have hcv := conv_sb
      have hlti : ¬ ((m + 1 : Nat) : Int) < 1 + (m : Int) := by omega
      obtain ⟨p, hp, hch⟩ := HAP.out
      have hbs := Bs.bytes wr (appsB 0 (m + 1)) (appsB 0 (m + 1)).length hls.symm
      have hBb := Lib.bytesWorld_below wr 5 (ba (appsB 0 (m + 1)))
      have hG3 := (hG1.later hnx).later hBb
      have hB3 := (hB1.trans (hnx.mono hs1)).trans (hBb.mono (by omega))
      go_wp2_with fail
      refine (parse_any _ (appsB 0 (m + 1)) _ hbs hG3 (by omega)).mono ?_
      rintro e w4 ⟨l4, rfl, hit, hB4⟩
      have hB04 := hB3.trans (hB4.mono hB3.size)
      have hs4 := hB04.size
      clear hbs hBb hB3 hB4 hG3 hcv hl hls hl2 hnx hlti hj hlt
      obtain ⟨PB, hPB⟩ : ∃ PB : Nat → Prop, PB = fun g => (Lib.bytesWorld wr 5 (ba (appsB 0 (m + 1)))).heap.size ≤ g := ⟨_, rfl⟩
      rw [← hPB] at hit
      clear hPB
      obtain ⟨hon, hsz4, hzz⟩ := pg_store hit
      have HON := Lib.hid hon
      have HSZ := Lib.hid hsz4
      have HZZ := Lib.hid hzz
      have lz := Lies.new w4 41 zP
      have lp := Lies.new w4 41 l4.toArray
      have hb5 := below_new w4 (.cells l4.toArray 41)
      unfold zP at lz HZZ
      clear hon hsz4 hzz
      rw [hp] at hit ⊢
      obtain ⟨ev, dv, b, hl4, hT⟩ := open_body hit
      have hmid : (w4.alloc (.cells l4.toArray 41)).rangeAt w4.heap.size 2 b := by
        have h := lp
        rw [hl4] at h ⊢
        exact Lies.rangeMid (l := [ev, dv]) (r := b) h
      have hTl := hT.len
      have hTo := hT.one
      have HTL := Lib.hid hTl
      have HTO := Lib.hid hTo
      have lzT := Lies.new' (w4.alloc (.cells l4.toArray 41)) 39 zC (N := w4.heap.size + 1) (by simp)
      have lT := Lies.new' (w4.alloc (.cells l4.toArray 41)) 39 b.toArray (N := w4.heap.size + 1) (by simp)
      have hb6 := hb5.trans ((below_new (w4.alloc (.cells l4.toArray 41)) (.cells b.toArray 39)).mono (by simp))
      unfold zC at lzT
      clear hit hTl hTo hl4 hp
      go_wp2_with (first | (refine wpList_store_rowTo rfl 41 (.tmp 6) (.tmp 30) rfl rfl _ l4.toArray rfl rfl 41 _ lz HSZ.out HZZ.out HON.out ?_; rw [set_new rfl]) | (refine wpList_load_mid rfl 39 (.tmp 33) rfl w4.heap.size 2 rfl b _ hmid Tryz.underlying39 rfl (by rw [sz39, HTL.out]) ?_) | (refine wpList_store_rowTo rfl 39 (.tmp 9) (.tmp 34) rfl rfl _ b.toArray rfl rfl 39 _ lzT (by rw [sz39]; simp [HTL.out]) (by simp [HTL.out]) HTO.out ?_; rw [set_new (by simp)]))
      go_loopw [10] (fun i wr => ChRel w4 PB m i wr) (fun i _ => (intOf i).toNat)
      case atStart => exact ⟨m, _, b, Nat.le_refl _, by go_num, hch, hT, lT, hb6⟩
      case round =>
        obtain ⟨j, t, b2, hj, rfl, hc, hT2, hl2, hB42⟩ := hrel
        have hsz := hB42.size
        match j, hj, hc with
        | 0, hj, hc =>
          obtain ⟨kv, av, rfl⟩ := open_last hT2 hc
          have c0 : wr.cell? ⟨w4.heap.size + 1, 0, none⟩ = some (.int .i64 1) := by rw [hl2.cell]; rfl
          have c2 : wr.cell? ⟨w4.heap.size + 1, 2, none⟩ = some (.string ⟨#[120, 48]⟩) := by rw [hl2.cell]; rfl
          go_wp2_with fail
          go_ret
          exact ⟨rfl, hB04.trans (hB42.mono hs4)⟩
        | j + 1, hj, hc =>
          obtain ⟨f, k0, gk, ck, av, hf, hT0, rfl, hck, hr0, c21, c23⟩ := open_app hT2 hc
          have d0 : wr.cell? ⟨w4.heap.size + 1, 0, none⟩ = some (.int .i64 6) := by rw [hl2.cell]; rfl
          have d1 : wr.cell? ⟨w4.heap.size + 1, 1, none⟩ = some (.int .i64 1) := by rw [hl2.cell]; rfl
          have d5 : wr.cell? ⟨w4.heap.size + 1, 5, none⟩ = some (.slice (some ⟨gk, 0, none⟩) 2 ck) := by rw [hl2.cell]; rfl
          have d21 := (hB42.cell (p := ⟨gk, 21, none⟩) (World.block_lt_of_cell? w4 _ c21)).trans c21
          have d23 := (hB42.cell (p := ⟨gk, 23, none⟩) (World.block_lt_of_cell? w4 _ c23)).trans c23
          have hx := ba_xn (j + 1)
          have hd5 : (dgF 5 (j + 1)).length ≤ 5 := dgF_len 5 (j + 1)
          have hds := ba_size (dgF 5 (j + 1))
          have hng : ¬ 9223372036854775807 < 1 + (dgF 5 (j + 1)).length := by omega
          have hdg := digits_any 5 (j + 1) (by omega) (by decide) (by decide)
          go_wp2_with fail
          go_region_held3 (fun w' => w'.cell? ⟨w4.heap.size + 1, 0, none⟩ = some (.int .i64 6) ∧ w'.cell? ⟨w4.heap.size + 1, 1, none⟩ = some (.int .i64 1) ∧ w'.cell? ⟨w4.heap.size + 1, 5, none⟩ = some (.slice (some ⟨gk, 0, none⟩) 2 ck) ∧
            w'.cell? ⟨gk, 21, none⟩ = some (.int .i64 1) ∧ w'.cell? ⟨gk, 23, none⟩ = some (.string (ba (xn (j + 1)))) ∧ Below wr.heap.size wr w')
            (first | exact ⟨d0, d1, d5, d21, d23, (Below.refl _ _).drew⟩ | exact app_keep d0 d1 d5 d21 d23 ((Below.refl _ _).drew.trans hb9))
            (first | (go_at_call 20; refine (hdg _).mono ?_; rintro e w9 ⟨rfl, hb9⟩))
          have hBw := (Below.refl wr.heap.size wr).drew.trans hb9
          have hB49 := hB42.trans (hBw.mono hsz)
          have e5 := (hBw.cell (p := ⟨w4.heap.size + 1, 5, none⟩) (World.block_lt_of_cell? wr _ d5)).trans d5
          have hr9 : w9.rangeAt gk 0 k0 := fun i v hv => (hB49.cell (World.block_lt_of_cell? w4 _ (hr0 i v hv))).trans (hr0 i v hv)
          have l9 := hl2.later hBw
          have hkl := hT0.len
          have hko := hT0.one
          have HKL := Lib.hid hkl
          have HKO := Lib.hid hko
          clear d0 d1 d5 d21 d23 hb9 hkl hko c21 c23
          go_wp2_with (first | (refine wpList_load_mid rfl 39 (.tmp 80) rfl gk 0 rfl k0 _ hr9 Tryz.underlying39 rfl (by rw [sz39, HKL.out]) ?_) | (refine wpList_store_rowTo rfl 39 (.tmp 9) (.tmp 81) rfl rfl _ k0.toArray rfl rfl 39 _ l9 (by rw [sz39]; simp [HKL.out]) (by simp [HKL.out, tmC]) HKO.out ?_))
          go_roundw
          case rel => exact ⟨j, f, k0, by omega, by go_num, hf, hT0, Lies.setRow l9 _, below_setRow hB49 (by omega) _⟩
          case measure => simp [intOf] <;> omega
end Go.Proofs.YtogppkdndlheoaaGreatDoor
