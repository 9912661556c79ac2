/- The contract of shown: what must be in any case. -/
import Derived.Test.YtnkfkaahjplnmaaGreatDoorPgc
import Derived.Lib.SmallJoins
import Derived.Lib.SlBytesConst
import Derived.Outline
namespace Go.Proofs.YtnkfkaahjplnmaaGreatDoor
open Go.RowKit Pz

def src1 : List UInt8 := [101, 102, 102, 101, 99, 116, 32, 69, 32, 123, 32, 103, 101, 116, 32, 58, 32, 117, 110, 105, 116, 32, 45, 62, 32, 105, 110, 116, 32, 125, 32, 102, 32, 120, 32, 43, 32, 49]
def src2 : List UInt8 := [102, 32, 120, 32, 43]
def tm1 : Tm := .mk 10 31 [43] [] 0 [.mk 6 31 [] [] 0 [.mk 1 31 [102] [] 0 [] [], .mk 1 33 [120] [] 0 [] []] [], .mk 2 37 [] [] 1 [] []] []
def pr1 : Prog := ⟨[([69], [⟨[103, 101, 116], (3, []), (1, [])⟩])], [], tm1⟩
set_option maxRecDepth 100000 in
theorem parse_src1 : parseR src1 = (pr1, 0, 0) := by kernel_rfl
set_option maxRecDepth 100000 in
theorem parse_src2 : parseR src2 = (⟨[], [], .zero⟩, 5, 3) := by kernel_rfl
theorem deep_tm1 : tm1.deep = 3 := by kernel_rfl
theorem size_tm1 : tm1.size = 5 := by kernel_rfl

theorem Bs.lit (w : World) (l : List UInt8) (cs : Array Value) (fr : Nat × Nat) {N n : Nat} (hN : w.heap.size = N) (hn : n = l.length) (hcs : cs = (l.map fun b => Value.int .u8 (b.toNat : Int)).toArray) : Bs (w.alloc (.cells cs 5 fr)) (.slice (some ⟨N, 0, none⟩) n n) l := by
  subst hn
  refine ⟨_, _, rfl, Nat.le_refl _, fun _ => ⟨_, rfl, fun j hj => ?_⟩⟩
  have h := Joins.cell_alloc_mark_at w cs 5 fr N j hN.symm
  have e : (⟨N, 0, none⟩ : Addr).add j = ⟨N, j, none⟩ := by unfold Addr.add; split <;> simp_all
  rw [e, h, hcs]
  simp [hj]
theorem wpList_load_rowG {P : Program} {ops : Array Oper} {rest : List Oper} {o : Oper} {a : Act} {w : World} {Q : Exit → Act → World → Prop} (hw : Region.wanted o (yielded ops a.tmps) = true) (ty : TypeId) (x : Operand) (ho : o.op = .load ty x)
    (g : Nat) (hx : a.eval x = .pointer (some ⟨g, 0, none⟩)) (t : TypeId) (cs : Array Value) (fr : Nat × Nat) (d : TypeDesc) (hg : w.heap[g]? = some (.cells cs t fr))
    (hu : P.underlying ty = some d) (hd : (match d with | .struct _ | .array _ _ => true | _ => false) = true) (hi : (P.info? ty).map (·.size) = some cs.size)
    (h : wpList P ops Q rest (a.put o.dst (.agg cs)) w) : wpList P ops Q (o :: rest) a w :=
  wpList_step fun K hK => by rw [if_pos hw]; exact wp_load_row ty x ho g hx t cs fr d hg hu hd hi (hK _ _ h)

/-- What shown reads of the first program. -/
theorem open_pr1 {w : World} {P : Nat → Prop} {l : List Value} (h : PgIt w P pr1 l) : ∃ ge ce go co gk ck dv av, l = pgC (.slice (some ⟨ge, 0, none⟩) 1 ce) dv (tmC 10 31 [43] [] 0 (.slice (some ⟨gk, 0, none⟩) 2 ck) av) ∧ 1 ≤ ce ∧ 1 ≤ co ∧ 2 ≤ ck ∧
    w.cell? ⟨ge, 1, none⟩ = some (.slice (some ⟨go, 0, none⟩) 1 co) ∧ w.cell? ⟨go, 7, none⟩ = some (.int .i64 1) ∧ w.cell? ⟨gk, 0, none⟩ = some (.int .i64 6) ∧ w.cell? ⟨gk, 25, none⟩ = some (.int .i64 1) ∧
    HT w P tm1 (tmC 10 31 [43] [] 0 (.slice (some ⟨gk, 0, none⟩) 2 ck) av) := by
  obtain ⟨ev, dv, b, xs, ys, rfl, hx1, hx2, hx3, _, _, _, hT⟩ := h
  have hx1' : xs.length = 1 := hx1
  obtain ⟨m, rfl⟩ : ∃ m, xs = [m] := by
    match xs, hx1' with
    | [m], _ => exact ⟨m, rfl⟩
  obtain ⟨v, ss, rfl, hs1, hs2, hs3⟩ := hx3 0 _ m rfl rfl
  have hs1' : ss.length = 1 := hs1
  obtain ⟨q, rfl⟩ : ∃ q, ss = [q] := by
    match ss, hs1' with
    | [q], _ => exact ⟨q, rfl⟩
  have hq : q = sgC [103, 101, 116] (3, []) (1, []) := hs3 0 _ q rfl rfl
  subst hq
  rcases own_cells hx2 with ⟨_, h0⟩ | ⟨ge, ce, rfl, hce, _, _, hcE⟩
  · cases h0
  rcases own_cells hs2 with ⟨_, h0⟩ | ⟨go, co, rfl, hco, _, _, hcO⟩
  · cases h0
  have hT0 : HT w P tm1 b := hT
  have hT : HT w P tm1 b := hT
  unfold tm1 at hT
  cases hT with
  | mk _ _ _ _ _ _ _ kv av kc vv bc hk hkl hks hvl hbl ha hav has =>
  have hkl' : kc.length = 2 := hkl
  obtain ⟨k0, k1, rfl⟩ : ∃ k0 k1, kc = [k0, k1] := by
    match kc, hkl' with
    | [k0, k1], _ => exact ⟨k0, k1, rfl⟩
  have t0 := hks 0 _ k0 rfl rfl
  have t1 := hks 1 _ k1 rfl rfl
  rcases own_cells hk.2 with ⟨_, h0⟩ | ⟨gk, ck, rfl, hck, _, _, hcK⟩
  · cases h0
  refine ⟨ge, ce, go, co, gk, ck, dv, av, rfl, hce, hco, hck, hcE 1 _ rfl, hcO 7 _ rfl, ?_, ?_, hT0⟩
  · cases t0
    exact hcK 0 _ rfl
  · cases t0
    cases t1
    exact hcK 25 _ rfl

set_option maxRecDepth 100000 in
set_option maxHeartbeats 4000000 in
theorem shown_any (w : World) (hG : Good w) :
    Calls Tryz.prog 5 #[] w fun e w' => e = .returned (.bool true) ∧ Below w.heap.size w w' := by
  have hcv := fun (W : World) (C : Array Value) (n c : Nat) => Lib.run_convert_bytes_const (P := Tryz.prog) W 22 5 C n c Tryz.underlying22 Tryz.underlying5
  go_enter Tryz.func5, Tryz.ntmps5
  go_wp2_with fail
  refine (parse_any _ src1 _ (Bs.lit w src1 _ _ rfl rfl (by rfl)) (hG.later ((Below.refl _ _).alloc (Nat.le_refl _) _)) (by decide)).mono ?_
  rintro e w1 ⟨l1, rfl, hit, hb1⟩
  rw [parse_src1] at hit ⊢
  have hB1 : Below w.heap.size w w1 := ((Below.refl _ _).alloc (Nat.le_refl _) _).trans (hb1.mono (by simp))
  have hlen1 := pgOK.len hit
  have hone1 := all_oneCell_toArray (pgOK.one hit)
  obtain ⟨ge, ce, go, co, gk, ck, dv, av, hl1, hce, hco, hck, e1, o7, k0, k25, hT⟩ := open_pr1 hit
  have HON1 := Lib.hid hone1
  have HL1 := Lib.hid hl1
  have hs1 : (Tryz.prog.info? 41).map (·.size) = some l1.toArray.size := by rw [szPg]; simp [hlen1]
  have HS1 := Lib.hid hs1
  have hz1 : zP.size = l1.toArray.size := by simp [hlen1, zP]
  have HZ1 := Lib.hid hz1
  have lz1 := Lies.new w1 41 zP
  have hcv2 := fun (C : Array Value) (n c : Nat) => Joins.run_convert_bytes_const_at (P := Tryz.prog) (w1.alloc (.cells l1.toArray 41)) 22 5 C n c (w1.heap.size + 1) (by simp) Tryz.underlying22 Tryz.underlying5
  unfold zP at lz1 HZ1
  clear hit hlen1 hone1 hs1 hz1 hb1 hl1 hcv
  have hsz1 : w.heap.size ≤ w1.heap.size := hB1.size
  have hb2 := below_new w1 (.cells l1.toArray 41)
  have lp2 := Lies.new w1 41 l1.toArray
  have hG1 := hG.later hB1
  go_wp2_with (first | (refine wpList_store_rowTo rfl 41 (.tmp 1) (.tmp 12) rfl rfl _ l1.toArray rfl rfl 41 _ lz1 HS1.out HZ1.out HON1.out ?_; rw [set_new rfl]))
  have hb3 : Below (w1.alloc (.cells l1.toArray 41)).heap.size (w1.alloc (.cells l1.toArray 41)) ((w1.alloc (.cells l1.toArray 41)).alloc (.cells (src2.map fun b => Value.int .u8 (b.toNat : Int)).toArray 5 (5, 6))) := below_new _ _
  refine (parse_any _ src2 _ (Bs.lit _ src2 _ _ (by simp) rfl (by rfl)) ((hG1.later hb2).later hb3) (by decide)).mono ?_
  rintro e w3 ⟨l3, rfl, hit3, hb4⟩
  rw [parse_src2] at hit3 ⊢
  have hB13 : Below w1.heap.size w1 w3 := (hb2.trans (hb3.mono hb2.size)).trans (hb4.mono (by simp; omega))
  have hB3 : Below w.heap.size w w3 := hB1.trans (hB13.mono hsz1)
  have hsz3 : w1.heap.size + 2 ≤ w3.heap.size := by have := hb4.size; simp at this; omega
  have lp3 := (lp2.alloc (.cells (src2.map fun b => Value.int .u8 (b.toNat : Int)).toArray 5 (5, 6))).later hb4
  have hlen3 := pgOK.len hit3
  have hone3 := all_oneCell_toArray (pgOK.one hit3)
  have hs3 : (Tryz.prog.info? 41).map (·.size) = some l3.toArray.size := by rw [szPg]; simp [hlen3]
  have hz3 : zP.size = l3.toArray.size := by simp [hlen3, zP]
  have HON3 := Lib.hid hone3
  have HS3 := Lib.hid hs3
  have HZ3 := Lib.hid hz3
  have lz3 := Lies.new w3 41 zP
  unfold zP at lz3 HZ3
  have hb5 := below_new w3 (.cells l3.toArray 41)
  have lp4 := lp3.alloc (.cells l3.toArray 41)
  obtain ⟨b, hb⟩ : ∃ b, b = tmC 10 31 [43] [] 0 (.slice (some ⟨gk, 0, none⟩) 2 ck) av := ⟨_, rfl⟩
  rw [← hb] at hT HL1
  have lpB := lp4
  rw [HL1.out] at lpB
  have hmid := Lies.rangeMid (l := [.slice (some ⟨ge, 0, none⟩) 1 ce, dv]) (r := b) lpB
  have pe0 := lpB.cell 0
  have hTlen := hT.len
  have hTone := hT.one
  have HTL := Lib.hid hTlen
  have HTO := Lib.hid hTone
  have lzT := Lies.new' (w3.alloc (.cells l3.toArray 41)) 39 zC (N := w3.heap.size + 1) (by simp)
  have lT := Lies.new' (w3.alloc (.cells l3.toArray 41)) 39 b.toArray (N := w3.heap.size + 1) (by simp)
  unfold zC at lzT
  have hb6 := below_new (w3.alloc (.cells l3.toArray 41)) (.cells b.toArray 39)
  have hB16 : Below w1.heap.size w1 ((w3.alloc (.cells l3.toArray 41)).alloc (.cells b.toArray 39)) := (hB13.trans (hb5.mono (by omega))).trans (hb6.mono (by simp; omega))
  have hT6 := hT.later hB16
  have pe : ((w3.alloc (.cells l3.toArray 41)).alloc (.cells b.toArray 39)).cell? ⟨w1.heap.size, 0, none⟩ = some (.slice (some ⟨ge, 0, none⟩) 1 ce) := (lpB.later hb6).cell 0
  have f1 := (hB16.cell (p := ⟨ge, 1, none⟩) (World.block_lt_of_cell? w1 _ e1)).trans e1
  have f2 := (hB16.cell (p := ⟨go, 7, none⟩) (World.block_lt_of_cell? w1 _ o7)).trans o7
  have f3 := (hB16.cell (p := ⟨gk, 0, none⟩) (World.block_lt_of_cell? w1 _ k0)).trans k0
  have f4 := (hB16.cell (p := ⟨gk, 25, none⟩) (World.block_lt_of_cell? w1 _ k25)).trans k25
  have q0 : ((w3.alloc (.cells l3.toArray 41)).alloc (.cells b.toArray 39)).cell? ⟨w3.heap.size + 1, 0, none⟩ = some (.int .i64 10) := by rw [lT.cell, hb]; rfl
  have q1 : ((w3.alloc (.cells l3.toArray 41)).alloc (.cells b.toArray 39)).cell? ⟨w3.heap.size + 1, 1, none⟩ = some (.int .i64 31) := by rw [lT.cell, hb]; rfl
  have q2 : ((w3.alloc (.cells l3.toArray 41)).alloc (.cells b.toArray 39)).cell? ⟨w3.heap.size + 1, 2, none⟩ = some (.string ⟨#[43]⟩) := by rw [lT.cell, hb]; rfl
  have q5 : ((w3.alloc (.cells l3.toArray 41)).alloc (.cells b.toArray 39)).cell? ⟨w3.heap.size + 1, 5, none⟩ = some (.slice (some ⟨gk, 0, none⟩) 2 ck) := by rw [lT.cell, hb]; rfl
  have HBB := Lib.hid hb
  have hdep := depth_any b tm1 _ _ hT6 (by rw [size_tm1]; decide)
  rw [deep_tm1] at hdep
  have HDEP := Lib.hid hdep
  clear hit3 hlen3 hone3 hs3 hz3 hT hTlen hTone hdep hb4 e1 o7 k0 k25 pe0 hcv2 hb
  go_wp2_with (first | (refine wpList_store_rowTo rfl 41 (.tmp 4) (.tmp 19) rfl rfl _ l3.toArray rfl rfl 41 _ lz3 HS3.out HZ3.out HON3.out ?_; rw [set_new rfl]) | (refine wpList_load_mid rfl 39 (.tmp 22) rfl w1.heap.size 2 rfl b _ hmid Tryz.underlying39 rfl (by rw [sz39, HTL.out]) ?_) | (refine wpList_store_rowTo rfl 39 (.tmp 7) (.tmp 23) rfl rfl _ b.toArray rfl rfl 39 _ lzT (by rw [sz39]; simp [HTL.out]) (by simp [HTL.out]) HTO.out ?_; rw [set_new (by simp)]) | (refine wpList_load_rowG (by rfl) 39 (.tmp 7) rfl _ rfl 39 _ (0, 0) _ lT Tryz.underlying39 rfl (by rw [sz39]; simp [HTL.out]) ?_))
  refine HDEP.out.mono ?_
  rintro e w7 ⟨rfl, hb7⟩
  go_wp2
  go_ret
  exact ⟨rfl, (hB1.trans (hB16.mono hsz1)).trans (hb7.mono (by simp; omega))⟩
end Go.Proofs.YtnkfkaahjplnmaaGreatDoor
