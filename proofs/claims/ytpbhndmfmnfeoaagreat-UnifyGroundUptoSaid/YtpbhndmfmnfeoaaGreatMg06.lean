/- How many pieces what becomes of a type has. -/
import Derived.Test.YtpbhndmfmnfeoaaGreatMg05
import Derived.Outline
import Derived.Laws.MakeOwn
namespace Go.Proofs.YtpbhndmfmnfeoaaGreat
open Go.RowKit

theorem pcsTL_app (T : Int → Option Ty) : ∀ a b, pcsTL T (a ++ b) = pcsTL T a + pcsTL T b
  | [], b => by simp [pcsTL]
  | t :: a, b => by simp only [List.cons_append, pcsTL, pcsTL_app T a b]; omega
theorem pcsTL_step (T : Int → Option Ty) {l : List Ty} {k : Nat} {t : Ty} (h : l[k]? = some t) : pcsTL T (l.take (k + 1)) = pcsTL T (l.take k) + pcsT T t := by
  rw [take_step l k t h, pcsTL_app]
  simp [pcsTL]
theorem pcsTL_take (T : Int → Option Ty) (l : List Ty) (k : Nat) : pcsTL T (l.take k) ≤ pcsTL T l := by
  have h := pcsTL_app T (l.take k) (l.drop k)
  rw [List.take_append_drop] at h
  omega
theorem Ty.size_pos : ∀ t : Ty, 1 ≤ t.size
  | .mk .. => by simp only [Ty.size]; omega
theorem pcsT_pos (T : Int → Option Ty) (t : Ty) : 1 ≤ pcsT T t := by
  obtain ⟨k, nm, v, kids, ls, rv⟩ := t
  simp only [pcsT]
  split
  · exact Ty.size_pos _
  · omega
theorem pcsTL_len (T : Int → Option Ty) : ∀ l, l.length ≤ pcsTL T l
  | [] => Nat.le_refl _
  | t :: l => by have := pcsTL_len T l; have := pcsT_pos T t; simp only [pcsTL, List.length_cons]; omega
theorem size_kid {t : Ty} : ∀ {l : List Ty}, t ∈ l → t.size ≤ Ty.sizeL l
  | _ :: _, .head _ => by simp only [Ty.sizeL]; omega
  | _ :: l, .tail _ h => by have := size_kid h; simp only [Ty.sizeL]; omega
theorem SlR.form {v : Value} {n : Nat} (h : SlR v n) : ∃ A c, v = .slice A n c ∧ n ≤ c ∧ (0 < n → ∃ g o, A = some ⟨g, o, none⟩) := by
  rcases h with ⟨rfl, rfl⟩ | ⟨⟨g, o, sp⟩, c, rfl, h1, h2⟩
  · exact ⟨_, _, rfl, Nat.le_refl _, fun h => by omega⟩
  · refine ⟨_, c, rfl, h1, fun h => ?_⟩
    have := h2 h
    exact ⟨g, o, by cases this; rfl⟩
/-- The contract of pieces at one substitution. -/
def PcAt (T : Int → Option Ty) (R : Int → Option (List Str × Int)) (t : Ty) : Prop :=
  ∀ (w : World) (sv : Value) (m : Nat) (l : List Value) (most : Nat), SubV w sv m T R → m ≤ 1000000 → TRV w t l → pcsT T t ≤ most → most ≤ 1000000 →
    Calls Tryz.prog 24 #[sv, .agg l.toArray, .int .i64 most] w fun e w' => e = .returned (.int .i64 (pcsT T t : Int)) ∧ Below w.heap.size w w'
set_option maxRecDepth 100000 in
set_option maxHeartbeats 8000000 in
theorem pieces_in (T : Int → Option Ty) (R : Int → Option (List Str × Int)) (hvar : ∀ v u, T v = some u → PcAt T0 R0 u) : ∀ (N : Nat) (t : Ty), t.size ≤ N → PcAt T R t
  | 0, t, h => by obtain ⟨k, nm, v, kids, ls, rv⟩ := t; simp only [Ty.size] at h; omega
  | N + 1, t, h => by
    have ih := pieces_in T R hvar N
    obtain ⟨k, nm, v, kids, ls, rv⟩ := t
    intro w sv m l most hs hm ht hp hmost
    obtain ⟨r, hr⟩ : ∃ r, r = pcsT T (.mk k nm v kids ls rv) := ⟨_, rfl⟩
    rw [← hr] at hp ⊢
    have HR := Lib.hid hr
    clear hr
    have hs0 := hs
    have ht0 := ht
    obtain ⟨vt, vr, gt, gr, rfl, hst, hsr, _, _⟩ := hs
    obtain ⟨A1, n1, c1, rfl⟩ := hst.one
    obtain ⟨A2, n2, c2, rfl⟩ := hsr.one
    obtain ⟨kv, lv, rfl, hkv, hlv, hok, hks⟩ := ht
    obtain ⟨A3, c3, rfl, hc3, ha3⟩ := hkv.form
    obtain ⟨A4, n4, c4, rfl⟩ : ∃ A n c, lv = .slice A n c := by rcases hlv.1 with ⟨rfl, _⟩ | ⟨_, _, rfl, _⟩ <;> exact ⟨_, _, _, rfl⟩
    unfold tyC at ht0 ⊢
    obtain ⟨W, hW⟩ : ∃ W, W = (w.alloc (.cells #[.slice A1 n1 c1, .slice A2 n2 c2] 34)).alloc (.cells #[.int .i64 k, .string (ba nm), .int .i64 v, .slice A3 kids.length c3, .slice A4 n4 c4, .int .i64 rv] 44) := ⟨_, rfl⟩
    have hb : Below w.heap.size w W := by rw [hW]; exact ((Below.refl _ w).alloc (Nat.le_refl _) _).alloc (by simp) _
    have k0 : Lies W w.heap.size 34 #[.slice A1 n1 c1, .slice A2 n2 c2] := by rw [hW]; exact (Lies.new' _ _ _ (by simp)).alloc _
    have k1 : Lies W (w.heap.size + 1) 44 #[.int .i64 k, .string (ba nm), .int .i64 v, .slice A3 kids.length c3, .slice A4 n4 c4, .int .i64 rv] := by rw [hW]; exact Lies.new' _ _ _ (by simp)
    have hins := insT_any W _ m T R (hs0.later hb) hm k nm v kids ls rv _ (ht0.later hb)
    have HW := Lib.hid hW
    have HB := Lib.hid hb
    have HI := Lib.hid hins
    have HK0 := Lib.hid k0
    have HK1 := Lib.hid k1
    have HS := Lib.hid hs0
    have HT := Lib.hid ht0
    have HKS := Lib.hid hks
    have HA3 := Lib.hid ha3
    have HP := Lib.hid hp
    have HH := Lib.hid h
    have IH := Lib.hid ih
    have HV := Lib.hid hvar
    clear hins hW hb k0 k1 hst hsr hs0 hlv ht0 hks ha3 hp h ih hvar hkv
    go_enter Tryz.func24, Tryz.ntmps24
    go_wp2_with fail
    rw [← HW.out]
    refine HI.out.mono ?_
    rintro e w1 ⟨hins, hb1⟩
    have hb2 : Below w.heap.size w w1 := HB.out.trans (hb1.mono HB.out.size)
    cases hT : insT T k v with
    | some u =>
      rw [hT] at hins
      obtain ⟨l2, rfl, htu⟩ := hins
      have hpu : pcsT T (.mk k nm v kids ls rv) = u.size := by simp only [pcsT, hT]
      have hTv : ∃ v', T v' = some u := by
        unfold insT at hT
        split at hT
        · exact ⟨v, hT⟩
        · cases hT
      obtain ⟨v', hTv⟩ := hTv
      have hpc := HV.out v' u hTv
      have hru : r = u.size := HR.out.trans hpu
      have hlu : u.size ≤ most := by rw [← hru]; exact HP.out
      have hpT0 := pcsT0 u
      obtain ⟨k', nm', v2, kids', ls', rv'⟩ := u
      have htu0 := htu
      obtain ⟨kv', lv', rfl, hkv', hlv', _, _⟩ := htu
      obtain ⟨A5, c5, rfl, _, _⟩ := hkv'.form
      obtain ⟨A6, n6, c6, rfl⟩ : ∃ A n c, lv' = .slice A n c := by rcases hlv'.1 with ⟨rfl, _⟩ | ⟨_, _, rfl, _⟩ <;> exact ⟨_, _, _, rfl⟩
      unfold tyC at htu0 ⊢
      have hbz := below_new w1 (.cells #[.int .i64 k', .string (ba nm'), .int .i64 v2, .slice A5 kids'.length c5, .slice A6 n6 c6, .int .i64 rv'] 44)
      have lz := Lies.new w1 44 #[.int .i64 k', .string (ba nm'), .int .i64 v2, .slice A5 kids'.length c5, .slice A6 n6 c6, .int .i64 rv']
      obtain ⟨W2, hW2⟩ : ∃ W2, W2 = w1.alloc (.cells #[.int .i64 k', .string (ba nm'), .int .i64 v2, .slice A5 kids'.length c5, .slice A6 n6 c6, .int .i64 rv'] 44) := ⟨_, rfl⟩
      rw [← hW2] at hbz lz
      have HW2 := Lib.hid hW2
      have HTU := Lib.hid htu0
      have HBZ := Lib.hid hbz
      have HLZ := Lib.hid lz
      have HPC := Lib.hid hpc
      have HB2 := Lib.hid hb2
      have hpcs := hpc W2 noneV 0 _ most (SubV.none W2 0) (by omega) (htu0.later hbz) (by omega) hmost
      have z0 := lz.cell 0
      have z1 := lz.cell 1
      have z2 := lz.cell 2
      have z3 := lz.cell 3
      have z4 := lz.cell 4
      have z5 := lz.cell 5
      have hlz := lz.lt
      have HT5 := Lib.hid hT
      clear hW2 htu0 hbz lz hb2 hpu hT hTv hkv' hlv' hpcs
      unfold noneV at HPC
      go_wp2_with fail
      rw [← HW2.out]
      have hS : (W2.cell? ⟨w1.heap.size, 0, none⟩ = some (.int .i64 k') ∧ W2.cell? ⟨w1.heap.size, 1, none⟩ = some (.string (ba nm')) ∧ W2.cell? ⟨w1.heap.size, 2, none⟩ = some (.int .i64 v2) ∧ W2.cell? ⟨w1.heap.size, 3, none⟩ = some (.slice A5 kids'.length c5) ∧ W2.cell? ⟨w1.heap.size, 4, none⟩ = some (.slice A6 n6 c6) ∧ W2.cell? ⟨w1.heap.size, 5, none⟩ = some (.int .i64 rv')) ∧ Below W2.heap.size W2 W2 := ⟨⟨z0, z1, z2, z3, z4, z5⟩, Below.refl _ _⟩
      have hk : ∀ V V' : World, (V.cell? ⟨w1.heap.size, 0, none⟩ = some (.int .i64 k') ∧ V.cell? ⟨w1.heap.size, 1, none⟩ = some (.string (ba nm')) ∧ V.cell? ⟨w1.heap.size, 2, none⟩ = some (.int .i64 v2) ∧ V.cell? ⟨w1.heap.size, 3, none⟩ = some (.slice A5 kids'.length c5) ∧ V.cell? ⟨w1.heap.size, 4, none⟩ = some (.slice A6 n6 c6) ∧ V.cell? ⟨w1.heap.size, 5, none⟩ = some (.int .i64 rv')) ∧ Below W2.heap.size W2 V → Below W2.heap.size V V' →
          (V'.cell? ⟨w1.heap.size, 0, none⟩ = some (.int .i64 k') ∧ V'.cell? ⟨w1.heap.size, 1, none⟩ = some (.string (ba nm')) ∧ V'.cell? ⟨w1.heap.size, 2, none⟩ = some (.int .i64 v2) ∧ V'.cell? ⟨w1.heap.size, 3, none⟩ = some (.slice A5 kids'.length c5) ∧ V'.cell? ⟨w1.heap.size, 4, none⟩ = some (.slice A6 n6 c6) ∧ V'.cell? ⟨w1.heap.size, 5, none⟩ = some (.int .i64 rv')) ∧ Below W2.heap.size W2 V' := fun V V' h hb => by
        obtain ⟨⟨h0, h1, h2, h3, h4, h5⟩, h6⟩ := h
        have e : ∀ j, V'.cell? ⟨w1.heap.size, j, none⟩ = V.cell? ⟨w1.heap.size, j, none⟩ := fun j => hb.cell (p := ⟨w1.heap.size, j, none⟩) hlz
        exact ⟨⟨(e 0).trans h0, (e 1).trans h1, (e 2).trans h2, (e 3).trans h3, (e 4).trans h4, (e 5).trans h5⟩, h6.trans hb⟩
      have HK := Lib.hid hk
      have HSub := fun V : World => Lib.hid (SubV.none V 0)
      clear hk z0 z1 z2 z3 z4 z5
      go_region_held3 (fun V => (V.cell? ⟨w1.heap.size, 0, none⟩ = some (.int .i64 k') ∧ V.cell? ⟨w1.heap.size, 1, none⟩ = some (.string (ba nm')) ∧ V.cell? ⟨w1.heap.size, 2, none⟩ = some (.int .i64 v2) ∧ V.cell? ⟨w1.heap.size, 3, none⟩ = some (.slice A5 kids'.length c5) ∧ V.cell? ⟨w1.heap.size, 4, none⟩ = some (.slice A6 n6 c6) ∧ V.cell? ⟨w1.heap.size, 5, none⟩ = some (.int .i64 rv')) ∧ Below W2.heap.size W2 V)
        (first | exact HK.out _ _ hS (Below.refl _ _).drew | exact HK.out _ _ hS hb8 | exact HK.out _ _ hS hb7)
        (first | (go_at_call 8; refine (none_any _).mono ?_; rintro e w7 ⟨rfl, hb7a⟩; have hb7 : Below W2.heap.size W2 w7 := (Below.refl _ _).drew.trans hb7a; unfold noneV) | (go_at_call 24; refine (HPC.out w7 (.agg #[.slice none 0 0, .slice none 0 0]) 0 _ most (HSub w7).out (by omega) ((HTU.out.later HBZ.out).later hb7) (by omega) hmost).mono ?_; rintro e w8 ⟨rfl, hb8a⟩; have hb8 : Below W2.heap.size W2 w8 := hb7.trans (hb8a.mono hb7.size)))
      go_wp2
      go_ret
      have q1 := HB2.out.size
      have q2 := HBZ.out.size
      exact ⟨by rw [hru]; rfl, (HB2.out.trans (HBZ.out.mono q1)).trans (hb8.mono (by omega))⟩
    | none =>
      rw [hT] at hins
      obtain rfl := hins
      have hpn : pcsT T (.mk k nm v kids ls rv) = 1 + pcsTL T kids := by simp only [pcsT, hT]
      have hrn : r = 1 + pcsTL T kids := HR.out.trans hpn
      obtain ⟨n, hn⟩ : ∃ n, n = kids.length := ⟨_, rfl⟩
      have HN := Lib.hid hn
      have hnb : n ≤ 1000000 := by have := pcsTL_len T kids; have := HP.out; omega
      have hbz := below_new w1 (.cells zeroT 44)
      have hB3 : Below w.heap.size w (w1.alloc (.cells zeroT 44)) := hb2.trans (hbz.mono hb2.size)
      have hW3 : Below W.heap.size W (w1.alloc (.cells zeroT 44)) := hb1.trans (hbz.mono hb1.size)
      have j1 := HK1.out.later hW3
      have c3' := j1.cell 3
      have HRN := Lib.hid hrn
      have HB3 := Lib.hid hB3
      have HW3 := Lib.hid hW3
      have hrle := HP.out
      rw [← hn] at c3' hc3
      unfold zeroT at c3' HB3 HW3 ⊢
      have hlw := HK1.out.lt
      have hlw0 := HK0.out.lt
      clear hT hpn hn hrn hB3 hW3 j1 hbz hb2
      go_wp2_with fail
      go_loopw [9, 26] (fun cnt i wr => ∃ q C : Nat, q ≤ n ∧ i = .int .i64 q ∧ C = 1 + pcsTL T (kids.take q) ∧ cnt = .int .i64 (C : Int) ∧ Below w.heap.size w wr ∧ Below W.heap.size W wr) (fun _ i _ => n - (intOf i).toNat)
      case atStart => exact ⟨0, 1, Nat.zero_le _, rfl, rfl, rfl, HB3.out, HW3.out⟩
      case round =>
        obtain ⟨q, C, hq, rfl, hC, rfl, hBw, hBW⟩ := hrel
        by_cases hlt : q < n
        · obtain ⟨t, ht⟩ : ∃ t, kids[q]? = some t := ⟨_, List.getElem?_eq_getElem (by have := HN.out; omega)⟩
          obtain ⟨g, o, rfl⟩ := HA3.out (by have := HN.out; omega)
          have htr := HKS.out q t ht
          obtain ⟨l, _, hr, htv⟩ := htr.open
          have hgl := reads_block hr (by rw [htv.len]; decide)
          have hstep := pcsTL_step T ht
          have htake := pcsTL_take T kids (q + 1)
          have hCr : C + pcsT T t ≤ r := by have := HRN.out; omega
          have htm : t ∈ kids := List.mem_of_getElem? ht
          have hsz : t.size ≤ N := by have := size_kid htm; have := HH.out; simp only [Ty.size] at this; omega
          have hc1 : 1 + pcsTL T (kids.take (q + 1)) = C + pcsT T t := by omega
          have hpc := IH.out t hsz
          obtain ⟨k', nm', v2, kids', ls', rv'⟩ := t
          have htv0 := htv
          obtain ⟨kv', lv', rfl, hkv', hlv', _, _⟩ := htv
          obtain ⟨A5, c5, rfl, _, _⟩ := hkv'.form
          obtain ⟨A6, n6, c6, rfl⟩ : ∃ A n c, lv' = .slice A n c := by rcases hlv'.1 with ⟨rfl, _⟩ | ⟨_, _, rfl, _⟩ <;> exact ⟨_, _, _, rfl⟩
          have hr' : ReadsAt wr (kidAt (.slice (some ⟨g, o, none⟩) kids.length c3) q) (tyC k' nm' v2 (.slice A5 kids'.length c5) (.slice A6 n6 c6) rv') := hr.keep (hBw.block _ hgl)
          obtain ⟨y0, y1, y2, y3, y4, y5⟩ := reads6 (b := g) (o := o + q * 6) hr'
          have x0 := (HK0.out.later hBW).cell 0
          have x1 := (HK0.out.later hBW).cell 1
          unfold tyC at htv0
          have hbz := below_new wr (.cells #[.int .i64 k', .string (ba nm'), .int .i64 v2, .slice A5 kids'.length c5, .slice A6 n6 c6, .int .i64 rv'] 44)
          have hBw3 := hBw.trans (hbz.mono hBw.size)
          have hBW3 := hBW.trans (hbz.mono hBW.size)
          have hcall := hpc _ (.agg #[.slice A1 n1 c1, .slice A2 n2 c2]) m _ (most - C) (HS.out.later hBw3) hm (htv0.later hBw3) (by omega) (by omega)
          have hms : ((most - C : Nat) : Int) = (most : Int) - (C : Int) := by omega
          rw [hms] at hcall
          obtain ⟨p, hp⟩ : ∃ p, p = pcsT T (.mk k' nm' v2 kids' ls' rv') := ⟨_, rfl⟩
          rw [← hp] at hcall hCr hc1
          have HCALL := Lib.hid hcall
          have HC1 := Lib.hid hc1
          have HBw3 := Lib.hid hBw3
          have HBW3 := Lib.hid hBW3
          have hCm : ¬ ((most : Int) < (C : Int)) := by omega
          have hqc : q < c3 := by omega
          have hx0 := (HK0.out.later hBW3).cell 0
          have hx1 := (HK0.out.later hBW3).cell 1
          clear hcall hc1 hBw3 hBW3 hms hp hr hr' htv0 hstep htake ht htr hpc hsz htm hkv' hlv' hC hgl
          go_wp2_with fail
          refine HCALL.out.mono ?_
          rintro e w5 ⟨rfl, hb5⟩
          go_wp2_with fail
          go_roundw
          case rel =>
            refine ⟨q + 1, C + p, by omega, by simp, HC1.out.symm, by simp, HBw3.out.trans (hb5.mono HBw3.out.size), HBW3.out.trans (hb5.mono HBW3.out.size)⟩
          case measure => (simp [intOf] <;> omega)
        · obtain rfl : q = n := by omega
          have hCr : C = r := by rw [hC, HRN.out, List.take_of_length_le (by have := HN.out; omega)]
          clear hC
          subst hCr
          go_wp2
          go_ret
          exact ⟨rfl, hBw⟩
theorem pieces0_any (t : Ty) : PcAt T0 R0 t := pieces_in T0 R0 (fun v u h => by cases h) t.size t (Nat.le_refl _)
/-- pieces: what becomes of a type has so many pieces. -/
theorem pieces_any (T : Int → Option Ty) (R : Int → Option (List Str × Int)) (t : Ty) : PcAt T R t := pieces_in T R (fun _ u _ => pieces0_any u) t.size t (Nat.le_refl _)
end Go.Proofs.YtpbhndmfmnfeoaaGreat

/- args: a list of what becomes of some types, which are still to do. -/
namespace Go.Proofs.YtpbhndmfmnfeoaaGreat
open Go.RowKit

set_option maxRecDepth 100000 in
theorem look_nil (w : World) (a : Addr) (n : Int) (s : Bool) : (Instr.lookup 60 (.map none) (.agg #[.pointer (some a), .int .i64 n, .bool s]) true).run Tryz.prog w = .ok (.tuple #[.slice none 0 0, .bool false]) w := by
  kernel_rfl
theorem eq_nil (w : World) : (binOp BinOp.neq 60 (.map none) (.map none)).run Tryz.prog w = .ok (.bool false) w := by
  kernel_rfl
theorem info_task : (Tryz.prog.info? 80).map (fun i => (i.zero, i.size, i.bytes)) = some (some (.agg #[.slice none 0 0, .slice none 0 0, .bool false]), 3, 56) := by kernel_rfl
theorem info_type : (Tryz.prog.info? 44).map (fun i => (i.zero, i.size, i.bytes)) = some (some (.agg zeroT), 6, 88) := by kernel_rfl
theorem made_size (z : Array Value) (n : Nat) : (madeCells z n).size = n := size_madeCells _ _
theorem run_mkT (w : World) (n : Nat) (hn : n ≤ 1000000) : (Instr.makeSlice 42 (.int .i64 (n : Int)) (.int .i64 (n : Int))).run Tryz.prog w = .ok (.slice (some ⟨w.heap.size, 0, none⟩) n n) (w.alloc (.cells (madeCells zeroT (n * 6)) 44)) := by
  obtain ⟨i0, hi, hz0, hz1, hz2⟩ := info_parts info_type
  have h := run_makeSlice w 42 44 i0 _ Tryz.underlying42 hi hz0 .i64 .i64 n n (by omega) (by omega) (by rw [hz1]; simp; omega) (by rw [hz2]; omega) (by omega)
  rw [hz1] at h
  simpa [Value.cells] using h
/-- The applier, which keeps nothing, and what it has still to do. -/
structure ApS (w : World) (p B : Nat) (vt vr td : Value) (k : Nat) (tc : List Value) : Prop where
  at_ : Lies w p 63 #[vt, vr, .map none, td]
  row : w.ownsRow B 80 3 td k tc
/-- What a turn of the applier leaves alone. -/
structure Chg (p : Nat) (td : Value) (w w' : World) : Prop where
  os : w'.os = w.os
  tape : w'.tape = w.tape
  output : w'.output = w.output
  size : w.heap.size ≤ w'.heap.size
  block : ∀ i, i < w.heap.size → i ≠ p → td.ownBlock ≠ some i → w'.heap[i]? = w.heap[i]?
theorem Chg.of_below {p : Nat} {td : Value} {w w' : World} (h : Below w.heap.size w w') : Chg p td w w' := ⟨h.os, h.tape, h.output, h.size, fun i hi _ _ => h.block i hi⟩
theorem Chg.trans {p : Nat} {td td' : Value} {a b c : World} (h : Chg p td a b) (k : Chg p td' b c) (ht : td'.ownBlock = td.ownBlock ∨ ∃ g, td'.ownBlock = some g ∧ a.heap.size ≤ g) : Chg p td a c :=
  ⟨k.os.trans h.os, k.tape.trans h.tape, k.output.trans h.output, Nat.le_trans h.size k.size, fun i hi hp hn => (k.block i (Nat.lt_of_lt_of_le hi h.size) hp (by
    rcases ht with e | ⟨g, e, hg⟩
    · rw [e]; exact hn
    · rw [e]; intro e2; injection e2 with e2; omega)).trans (h.block i hi hp hn)⟩
/-- What args leaves, if there is something to do. -/
def ArgsEnd (w : World) (p B : Nat) (vt vr td : Value) (k : Nat) (tc : List Value) (kv : Value) (n : Nat) (said : Bool) (e : Ending) (w' : World) : Prop :=
  ∃ G td' cur, e = .returned (.slice (some ⟨G, 0, none⟩) n n) ∧ w.heap.size ≤ G ∧ Lies w' G 44 cur ∧ cur.size = n * 6 ∧
    ApS w' p B vt vr td' (k + 1) (tc ++ [kv, .slice (some ⟨G, 0, none⟩) n n, .bool said]) ∧ td'.ownBlock ≠ some G ∧ (td'.ownBlock = td.ownBlock ∨ ∃ b, td'.ownBlock = some b ∧ w.heap.size ≤ b) ∧ Chg p td w w'
set_option maxRecDepth 100000 in
set_option maxHeartbeats 4000000 in
theorem args_any (w : World) (p B : Nat) (vt vr td : Value) (k : Nat) (tc : List Value) (hp : p < B) (hB : B ≤ w.heap.size) (h : ApS w p B vt vr td k tc) (hk : k ≤ 1000000) (kv : Value) (n : Nat) (hkv : SlR kv n) (h0 : 0 < n) (hn : n ≤ 1000000) (said : Bool) :
    Calls Tryz.prog 60 #[.pointer (some ⟨p, 0, none⟩), kv, .bool said] w (ArgsEnd w p B vt vr td k tc kv n said) := by
  obtain ⟨A, c, rfl, hc, ha⟩ := hkv.form
  obtain ⟨g, o, rfl⟩ := ha h0
  obtain ⟨hl, hrow⟩ := h
  obtain ⟨i0, hi, hz0, hz1, hz2⟩ := info_parts info_task
  have hmk := fun W => run_mkT W n hn
  obtain ⟨M, hM⟩ : ∃ M, M = madeCells zeroT (n * 6) := ⟨_, rfl⟩
  rw [← hM] at hmk
  have hMs : M.size = n * 6 := by rw [hM]; exact made_size _ _
  have hln := fun W => look_nil W ⟨g, o, none⟩ (n : Int) said
  have heq := eq_nil
  have hlp := hl.lt
  have hb1 := below_new w (.cells #[.pointer (some ⟨g, o, none⟩), .int .i64 (n : Int), .bool said] 131)
  have l1 := hl.later hb1
  have n1 := Lies.new w 131 #[.pointer (some ⟨g, o, none⟩), .int .i64 (n : Int), .bool said]
  obtain ⟨W, hW⟩ : ∃ W, W = w.alloc (.cells #[.pointer (some ⟨g, o, none⟩), .int .i64 (n : Int), .bool said] 131) := ⟨_, rfl⟩
  rw [← hW] at hb1 l1 n1
  have a2 := l1.cell 2
  have b0 := n1.cell 0
  have b1 := n1.cell 1
  have b2 := n1.cell 2
  have HW := Lib.hid hW
  have HB1 := Lib.hid hb1
  have HL1 := Lib.hid l1
  have HR := Lib.hid hrow
  have HMS := Lib.hid hMs
  clear hM hMs hl hb1 l1 hrow hkv ha hW n1
  have h0' : ((n : Int) == 0) = false := by simp; omega
  have hin : (0 : Int) < (n : Int) := by omega
  go_enter Tryz.func60, Tryz.ntmps60
  go_wp2_with fail
  rw [← HW.out]
  have hS : W.cell? ⟨p, 2, none⟩ = some (.map none) ∧ W.cell? ⟨w.heap.size, 0, none⟩ = some (.pointer (some ⟨g, o, none⟩)) ∧ W.cell? ⟨w.heap.size, 1, none⟩ = some (.int .i64 (n : Int)) ∧ W.cell? ⟨w.heap.size, 2, none⟩ = some (.bool said) := ⟨a2, b0, b1, b2⟩
  go_region_held3 (fun V => V.cell? ⟨p, 2, none⟩ = some (.map none) ∧ V.cell? ⟨w.heap.size, 0, none⟩ = some (.pointer (some ⟨g, o, none⟩)) ∧ V.cell? ⟨w.heap.size, 1, none⟩ = some (.int .i64 (n : Int)) ∧ V.cell? ⟨w.heap.size, 2, none⟩ = some (.bool said)) (exact hS) (fail)
  have l2 := HL1.out.later (below_new W (.cells M 44)).drew
  have p2 := l2.cell 2
  have p3 := l2.cell 3
  have hW1 := HL1.out.lt
  obtain ⟨At, kt, ct, rfl⟩ := own_slice HR.out
  have hX : Below w.heap.size w ((W.alloc (.cells M 44)).alloc (.cells #[.slice (some ⟨g, o, none⟩) n c, .slice (some ⟨W.heap.size, 0, none⟩) n n, .bool said] 80)).drew := ((HB1.out.alloc HB1.out.size _).alloc (by have := HB1.out.size; simp; omega) _).drew
  have lX : Lies ((W.alloc (.cells M 44)).alloc (.cells #[.slice (some ⟨g, o, none⟩) n c, .slice (some ⟨W.heap.size, 0, none⟩) n n, .bool said] 80)).drew p 63 #[vt, vr, .map none, .slice At kt ct] := (HL1.out.alloc _).alloc _
  have mX : Lies ((W.alloc (.cells M 44)).alloc (.cells #[.slice (some ⟨g, o, none⟩) n c, .slice (some ⟨W.heap.size, 0, none⟩) n n, .bool said] 80)).drew W.heap.size 44 M := (Lies.new W _ M).alloc _
  have hrX := own_later HR.out hX
  have hnw := new_cells (W.alloc (.cells M 44)) 80 [.slice (some ⟨g, o, none⟩) n c, .slice (some ⟨W.heap.size, 0, none⟩) n n, .bool said] (N := W.heap.size + 1) (by simp)
  have hone : ∀ u ∈ [Value.slice (some ⟨g, o, none⟩) n c, .slice (some ⟨W.heap.size, 0, none⟩) n n, .bool said], u.oneCell' = true := by simp [Value.oneCell']
  have hpo : ∀ q, Value.ownBlock (.slice At kt ct) = some q → B ≤ q ∧ q < w.heap.size := own_block HR.out
  have HX := Lib.hid hX
  have HLX := Lib.hid lX
  have HMX := Lib.hid mX
  have HRX := Lib.hid hrX
  have HNW := Lib.hid hnw
  have HONE := Lib.hid hone
  have HPO := Lib.hid hpo
  clear hX lX mX hrX hnw hone hpo
  go_wp2_with (at_builtin; go_loud (refine wpList_append_own_at _ rfl (.tmp 49) (.tmp 54) 61 rfl B 80 i0 _ 3 56 Tryz.underlying61 hi hz0 hz1 hz2 rfl (by decide) _ k tc rfl HRX.out ⟨W.heap.size + 1, 0, none⟩ 1 1 [.slice (some ⟨g, o, none⟩) n c, .slice (some ⟨W.heap.size, 0, none⟩) n n, .bool said] rfl rfl HNW.out HONE.out (by unfold maxLen; omega) (by omega) (by have := HX.out.size; omega) ?_); intro v' w5 hown hgr hnil hat; have l5 := HLX.out.grown hgr (by intro e; have := (HPO.out p e.symm).1; omega); have p5 := l5.cell 3; have f5 := l5.free 3; have lt5 := l5.lt; have HOWN := Lib.hid hown; obtain ⟨A6, k6, c6, rfl⟩ := own_slice hown; have HAT := Lib.hid hat; clear hown hnil hat)
  go_ret
  have hWs := HB1.out.size
  have hXs : ((W.alloc (.cells M 44)).alloc (.cells #[.slice (some ⟨g, o, none⟩) n c, .slice (some ⟨W.heap.size, 0, none⟩) n n, .bool said] 80)).drew.heap.size = W.heap.size + 2 := by simp
  refine ⟨W.heap.size, .slice A6 k6 c6, M, rfl, by omega, ?_, HMS.out, ⟨l5.set 3 _, ?_⟩, ?_, ?_, ?_⟩
  · exact (HMX.out.grown hgr (by intro e; have := (HPO.out _ e.symm).2; omega)).far (p := ⟨p, 3, none⟩) (by show W.heap.size ≠ p; omega) _
  · exact own_same HOWN.out fun i hi _ => Below.heap_setCell _ ⟨p, 3, none⟩ _ i (by show i ≠ p; omega)
  · intro e
    rcases HAT.out with h | h
    · rw [h] at e
      have := (HPO.out _ e).2
      omega
    · rw [h, hXs] at e
      injection e with e
      omega
  · rcases HAT.out with h | h
    · exact .inl h
    · exact .inr ⟨_, h, by rw [hXs]; omega⟩
  · refine ⟨hgr.os.trans HX.out.os, hgr.tape.trans HX.out.tape, hgr.output.trans HX.out.output, ?_, fun i h1 h2 h3 => ?_⟩
    · have := hgr.size
      have := HX.out.size
      rw [World.size_setCell]
      omega
    · exact (Below.heap_setCell _ ⟨p, 3, none⟩ _ i h2).trans ((hgr.block i (by rw [hXs]; omega) (fun e => h3 e.symm)).trans (HX.out.block i h1))
theorem args_none (w : World) (p : Nat) (kv : Value) (hkv : SlR kv 0) (said : Bool) :
    Calls Tryz.prog 60 #[.pointer (some ⟨p, 0, none⟩), kv, .bool said] w fun e w' => e = .returned (.slice none 0 0) ∧ w' = w := by
  obtain ⟨A, c, rfl, _, _⟩ := hkv.form
  go_enter Tryz.func60, Tryz.ntmps60
  go_wp2
  go_ret
  exact ⟨rfl, rfl⟩
end Go.Proofs.YtpbhndmfmnfeoaaGreat
