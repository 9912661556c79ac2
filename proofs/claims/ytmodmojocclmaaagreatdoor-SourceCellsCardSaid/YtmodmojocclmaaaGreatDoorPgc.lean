/- The contract of Parse. -/
import Derived.Test.YtmodmojocclmaaaGreatDoorPga
import Derived.Test.YtmodmojocclmaaaGreatDoorMc
import Derived.Test.YtmodmojocclmaaaGreatDoorMg03
import Derived.Test.YtmodmojocclmaaaGreatDoorMg04
import Derived.Outline
namespace Go.Proofs.YtmodmojocclmaaaGreatDoor
open Go.RowKit Pz

def parseW (sz : Nat) (ws : List Lx.Tk) : Prog × Nat × Nat :=
 if (Pz.program sz ⟨ws, 0, 0, 0⟩).2.er ≠ 0 then (⟨[], [], .zero⟩, (Pz.program sz ⟨ws, 0, 0, 0⟩).2.at_, (Pz.program sz ⟨ws, 0, 0, 0⟩).2.er)
 else if 200 < (Pz.program sz ⟨ws, 0, 0, 0⟩).1.body.deep then (⟨[], [], .zero⟩, 0, 6)
 else ((Pz.program sz ⟨ws, 0, 0, 0⟩).1, 0, 0)
def parseR (B : List UInt8) : Prog × Nat × Nat :=
 if (lexR B).2.2 ≠ 0 then (⟨[], [], .zero⟩, (lexR B).2.1, (lexR B).2.2) else parseW B.length (lexR B).1
def ParseEnd (B : List UInt8) (w : World) (e : Ending) (w' : World) : Prop :=
 ∃ l, e = .returned (.tuple #[.agg (List.toArray l), .int .i64 ((parseR B).2.1 : Int), .int .i64 ((parseR B).2.2 : Int)]) ∧ PgIt w' (fun g => w.heap.size ≤ g) (parseR B).1 l ∧ Below w.heap.size w w'
theorem parseR_err {B : List UInt8} {p e : Nat} (h : lexR B = ([], p, e)) (he : e ≠ 0) : parseR B = (⟨[], [], .zero⟩, p, e) := by unfold parseR; rw [h]; exact if_pos he
theorem parseR_ok {B : List UInt8} {ws : List Lx.Tk} (h : lexR B = (ws, 0, 0)) : parseR B = parseW B.length ws := by unfold parseR; rw [h]; exact if_neg (by simp)
theorem parseW_err {sz : Nat} {ws : List Lx.Tk} {p : Prog} {s : St} (h : Pz.program sz ⟨ws, 0, 0, 0⟩ = (p, s)) (he : s.er ≠ 0) : parseW sz ws = (⟨[], [], .zero⟩, s.at_, s.er) := by unfold parseW; rw [h]; exact if_pos he
theorem parseW_deep {sz : Nat} {ws : List Lx.Tk} {p : Prog} {s : St} (h : Pz.program sz ⟨ws, 0, 0, 0⟩ = (p, s)) (he : s.er = 0) (hd : 200 < p.body.deep) : parseW sz ws = (⟨[], [], .zero⟩, 0, 6) := by unfold parseW; rw [h, if_neg (by simp [he]), if_pos hd]
theorem parseW_ok {sz : Nat} {ws : List Lx.Tk} {p : Prog} {s : St} (h : Pz.program sz ⟨ws, 0, 0, 0⟩ = (p, s)) (he : s.er = 0) (hd : ¬ 200 < p.body.deep) : parseW sz ws = (p, 0, 0) := by unfold parseW; rw [h, if_neg (by simp [he]), if_neg hd]

theorem results_three {P : Program} {fn : Func} {p q r : Tmp} {ty : TypeId} (h : fn.results = #[.cell p ty, .tmp q, .tmp r]) (tmps : Array Value) (w : World) (g : Nat) (t : TypeId) (cs : Array Value) (fr : Nat × Nat) (d : TypeDesc)
  (hp : tmps.getD p undef = .pointer (some ⟨g, 0, none⟩)) (hg : w.heap[g]? = some (.cells cs t fr)) (hu : P.underlying ty = some d) (hd : (match d with | .struct _ | .array _ _ => true | _ => false) = true) (hi : (P.info? ty).map (·.size) = some cs.size)
  {a b : Value} (hq : tmps.getD q undef = a) (hr : tmps.getD r undef = b) : (results fn tmps).run P w = .ok (.tuple #[.agg cs, a, b]) w := by
 have hp' : tmps[p]?.getD undef = .pointer (some ⟨g, 0, none⟩) := by simpa using hp
 have hq' : tmps[q]?.getD undef = a := by simpa using hq
 have hr' : tmps[r]?.getD undef = b := by simpa using hr
 simp [results, h, hp', hq', hr', asAddr, run_loadVar_row w g t ty cs fr d hg hu hd hi]
theorem pg_zero (w : World) (P : Nat → Prop) : PgIt w P ⟨[], [], .zero⟩ zP.toList :=
 ⟨.slice none 0 0, .slice none 0 0, zC.toList, [], [], rfl, rfl, OwnP.nil _ _ _ _, by simp, rfl, OwnP.nil _ _ _ _, by simp, HT.leaf w P 0 0 [] [] 0⟩
theorem zP_ones : zP.all (·.oneCell') = true := by kernel_rfl
theorem Lies.rangeMid {w : World} {g : Nat} {t : TypeId} {l r : List Value} (h : Lies w g t (l ++ r).toArray) : w.rangeAt g l.length r := by
 intro j v hv
 rw [h.cell]
 simp [List.getElem?_append_right, hv]

set_option maxRecDepth 100000 in
set_option maxHeartbeats 8000000 in
theorem parse_any (v : Value) (B : List UInt8) (w : World) (hb : Bs w v B) (hG : Good w) (hl : B.length ≤ 1000000) :
  Calls Tryz.prog 19 #[v] w (ParseEnd B w) := by
 have l0 := Lies.new w 47 zP
 have hb0 := below_new w (.cells zP 47)
 have hlex := lex_any v B _ (hb.later hb0) (hG.later hb0) (by omega)
 have HLEX := Lib.hid hlex
 obtain ⟨A, c, rfl, hc, _⟩ := hb
 unfold zP at l0 HLEX
 clear hlex
 go_enter Tryz.func19, Tryz.ntmps19
 rcases lexR_cases B (by omega) with ⟨ws, hr, hw⟩ | ⟨ws, p, hr, hw⟩
 ·have hcnt := hw.count
  go_wp2_with fail
  refine HLEX.out.mono ?_
  rintro e w1 ⟨v1, rfl, hown1, hb1⟩
  rw [hr] at hown1 ⊢
  have l1 := l0.later hb1
  have hb01 := hb0.trans (hb1.mono hb0.size)
  have hsz1 : w.heap.size + 1 ≤ w1.heap.size := by have := hb1.size; simp at this; exact this
  have hv1 : ∃ A k c, v1 = .slice A k c := by rcases (OwnP.of hown1).2 with ⟨h, _⟩ | ⟨g, cap, cur, h, _⟩ <;> exact ⟨_, _, _, h⟩
  obtain ⟨A1, k1, c1, rfl⟩ := hv1
  have hwsz : ws.length ≤ 1000000 := by omega
  have l2 := l1.alloc (.cells #[.slice A1 k1 c1, .int .i64 (B.length : Int), .int .i64 0, .int .i64 0, .int .i64 0] 94)
  have hpb := Lies.new w1 94 #[.slice A1 k1 c1, .int .i64 (B.length : Int), .int .i64 0, .int .i64 0, .int .i64 0]
  have hpa : PA (w1.alloc (.cells #[.slice A1 k1 c1, .int .i64 (B.length : Int), .int .i64 0, .int .i64 0, .int .i64 0] 94)) w1.heap.size B.length ⟨ws, 0, 0, 0⟩ := by
   refine ⟨_, hpb, ?_⟩
   rcases (OwnP.of hown1).2 with ⟨h1, h2⟩ | ⟨g, cap, cur, h1, hP, hh, hle, hm, hsz, htk⟩
   ·have h2' : ws.length = 0 := h2
    exact ⟨none, 0, by rw [h1, show (⟨ws, 0, 0, 0⟩ : St).ws.length = 0 from h2'], by show ws.length ≤ 0; omega, by omega, fun h => by have : 0 < ws.length := h; omega⟩
   ·refine ⟨_, cap, h1, hle, by unfold maxLen at hm; omega, fun _ => ⟨g, 0, rfl, lt_of_block hh, fun i x hx => ?_⟩⟩
    have hl0 : Lies (w1.alloc (.cells #[.slice A1 k1 c1, .int .i64 (B.length : Int), .int .i64 0, .int .i64 0, .int .i64 0] 94)) g 130 cur := (Below.heap_alloc _ _ _ (lt_of_block hh)).trans hh
    have hc : ∀ j u, (wordsC ws)[j]? = some u → (w1.alloc (.cells #[.slice A1 k1 c1, .int .i64 (B.length : Int), .int .i64 0, .int .i64 0, .int .i64 0] 94)).cell? ⟨g, j, none⟩ = some u := by
     intro j u hj
     rw [hl0.cell, ← Array.getElem?_toList]
     rw [← htk] at hj
     rw [List.getElem?_take] at hj
     split at hj
     ·exact hj
     ·cases hj
    obtain ⟨a1, a2, a3, a4⟩ := words_at ws i x hx
    have e : ∀ j, (0 : Nat) + j = j := Nat.zero_add
    rw [e]
    exact ⟨hc _ _ a1, hc _ _ a2, hc _ _ a3, hc _ _ a4⟩
  have hprog := program_any w1.heap.size B.length 1000000 (by omega) _ ⟨ws, 0, 0, 0⟩ hpa hwsz
  have HPR := Lib.hid hprog
  obtain ⟨RP, RS, hRS⟩ : ∃ RP RS, Pz.program B.length ⟨ws, 0, 0, 0⟩ = (RP, RS) := ⟨_, _, rfl⟩
  rw [hRS] at HPR
  have hPW := parseR_ok hr
  have hsizeP := size_program B.length ws
  rw [hRS] at hsizeP
  have HSP := Lib.hid hsizeP
  clear hprog hpa hsizeP hpb
  go_wp2_with fail
  refine HPR.out.mono ?_
  rintro e w3 ⟨l, rfl, hit, hg3⟩
  have hp3 := hg3.pa.alloc (.cells l.toArray 47)
  obtain ⟨v3, pv3, _, hpl3⟩ := hp3.open
  have c4 := pv3.c4
  have c3 := pv3.c3
  clear pv3
  have l3 := hg3.kp.lies l2 (by omega)
  have hsz3 : w1.heap.size + 1 ≤ w3.heap.size := by have := hg3.kp.size; simp at this; exact this
  have hlen := pgOK.len hit
  have hone := all_oneCell_toArray (pgOK.one hit)
  have hsP : (Tryz.prog.info? 47).map (·.size) = some l.toArray.size := by rw [szPg]; simp [hlen]
  have HL := Lib.hid hlen
  have HON := Lib.hid hone
  have HZ := Lib.hid hsP
  have lz := Lies.new w3 47 zP
  have hbw3 : Below w.heap.size w w3 := by
   have h1 := hb01.trans ((below_new w1 (.cells #[.slice A1 k1 c1, .int .i64 (B.length : Int), .int .i64 0, .int .i64 0, .int .i64 0] 94)).mono (by omega))
   exact ⟨hg3.kp.os.trans h1.os, hg3.kp.tape.trans h1.tape, hg3.kp.output.trans h1.output, by have := hg3.kp.size; have := h1.size; omega, fun g hg => (hg3.kp.block g (by have := h1.size; omega) (fun e => by injection e with e; omega)).trans (h1.block g hg)⟩
  unfold zP at lz
  have l4 := l3.alloc (.cells l.toArray 47)
  have hb4 := hbw3.trans ((below_new w3 (.cells l.toArray 47)).mono (by omega))
  have l5 := Lies.new w3 47 l.toArray
  have hit4 := pgOK.same hit (fun g _ hlt => (below_new w3 (.cells l.toArray 47)).block g hlt)
  clear hlen hone hsP
  by_cases he : RS.er = 0
  ·have hei : ((RS.er : Nat) : Int) = 0 := by omega
   rw [hei] at c4
   obtain ⟨ev, dv, b, xs, ys, hlb, _, _, _, _, _, _, hTb⟩ := hit4
   have hmid : (w3.alloc (.cells l.toArray 47)).rangeAt w3.heap.size 2 b := by
    have h1 := l5
    rw [hlb] at h1
    exact Lies.rangeMid (l := [ev, dv]) (r := b) (by rw [hlb]; exact h1)
   have hdep := depth_any b RP.body _ _ hTb (by have := HSP.out he; omega)
   have HDEP := Lib.hid hdep
   have hbl := hTb.len
   have HBL := Lib.hid hbl
   have HLB := Lib.hid hlb
   have hit5 := hit
   clear hdep hbl hlb hTb
   by_cases hd : 200 < RP.body.deep
   ·have hdi : (200 : Int) < ((min RP.body.deep 1000 : Nat) : Int) := by omega
    go_wp2_with (first | (refine wpList_store_rowTo rfl 47 (.tmp 9) (.tmp 26) rfl rfl _ l.toArray rfl rfl 47 _ lz HZ.out (by simp [HL.out]) HON.out ?_; rw [set_new rfl]) | (refine wpList_load_mid rfl 33 (.tmp 35) rfl w3.heap.size 2 rfl b _ hmid Tryz.underlying33 rfl (by rw [sz39, HBL.out]) ?_))
    refine HDEP.out.mono ?_
    rintro e w5 ⟨rfl, hb5⟩
    have l6 := l4.later hb5
    go_wp2_with (first | (refine wpList_store_rowTo rfl 47 (.tmp 2) (.tmp 39) rfl rfl _ zP rfl rfl 47 _ l6 szPg rfl zP_ones ?_))
    refine bodyPost_ret (results_three rfl _ _ w.heap.size 47 zP (0, 0) _ rfl (Lies.setRow l6 _) Tryz.underlying47 rfl szPg rfl rfl) rfl ?_
    unfold ParseEnd
    rw [hPW, parseW_deep hRS he hd]
    exact ⟨zP.toList, rfl, pg_zero _ _, below_setRow (hb4.trans (hb5.mono hb4.size)) (Nat.le_refl _) _⟩
   ·have hdi : ¬ (200 : Int) < ((min RP.body.deep 1000 : Nat) : Int) := by omega
    go_wp2_with (first | (refine wpList_store_rowTo rfl 47 (.tmp 9) (.tmp 26) rfl rfl _ l.toArray rfl rfl 47 _ lz HZ.out (by simp [HL.out]) HON.out ?_; rw [set_new rfl]) | (refine wpList_load_mid rfl 33 (.tmp 35) rfl w3.heap.size 2 rfl b _ hmid Tryz.underlying33 rfl (by rw [sz39, HBL.out]) ?_))
    refine HDEP.out.mono ?_
    rintro e w5 ⟨rfl, hb5⟩
    have l6 := l4.later hb5
    have l7 := l5.later hb5
    have hlz : zP.size = l.toArray.size := by simp [HL.out, zP]
    have HLZ := Lib.hid hlz
    clear hlz
    unfold zP at HLZ
    go_wp2_with (first | (refine wpList_load_row rfl 47 (.tmp 9) rfl _ rfl 47 _ (0, 0) _ l7 Tryz.underlying47 rfl HZ.out ?_) | (refine wpList_store_rowTo rfl 47 (.tmp 2) (.tmp 40) rfl rfl _ l.toArray rfl rfl 47 _ l6 HZ.out HLZ.out HON.out ?_))
    refine bodyPost_ret (results_three rfl _ _ w.heap.size 47 l.toArray (0, 0) _ rfl (Lies.setRow l6 _) Tryz.underlying47 rfl HZ.out rfl rfl) rfl ?_
    unfold ParseEnd
    rw [hPW, parseW_ok hRS he hd]
    refine ⟨l, rfl, ?_, below_setRow (hb4.trans (hb5.mono hb4.size)) (Nat.le_refl _) _⟩
    have h1 := pgOK.same hit (fun g _ hlt => (below_new w3 (.cells l.toArray 47)).block g hlt)
    have h2 := pgOK.mono (Q := fun g => w1.heap.size ≤ g ∧ g < (w3.alloc (.cells l.toArray 47)).heap.size) h1 (fun g hg hlt => ⟨by have hg' : (w1.alloc _).heap.size ≤ g := hg; simp at hg'; omega, hlt⟩)
    have h3 := pgOK.same h2 (fun g hg _ => hb5.block g hg.2)
    exact pgOK.mono (pgOK.same h3 (fun g hg _ => heap_setRow _ _ _ _ (by omega))) (fun g hg _ => by have := hg.1; show w.heap.size ≤ g; omega)
  ·have hei : ¬ ((RS.er : Nat) : Int) = 0 := by omega
   have heb : (((RS.er : Nat) : Int) == 0) = false := by simp; omega
   go_wp2_with (first | (refine wpList_store_rowTo rfl 47 (.tmp 9) (.tmp 26) rfl rfl _ l.toArray rfl rfl 47 _ lz HZ.out (by simp [HL.out]) HON.out ?_; rw [set_new rfl]))
   refine TillLast.start (S := fun w' => Lies w' w1.heap.size 94 #[v3, .int .i64 (B.length : Int), .int .i64 (RS.wi : Int), .int .i64 (RS.at_ : Int), .int .i64 (RS.er : Int)]) (z := 7) (by kernel_rfl) ?_
   have hS : Lies (w3.alloc (.cells l.toArray 47)).drew w1.heap.size 94 #[v3, .int .i64 (B.length : Int), .int .i64 (RS.wi : Int), .int .i64 (RS.at_ : Int), .int .i64 (RS.er : Int)] := hpl3
   have l4d : Lies (w3.alloc (.cells l.toArray 47)).drew w.heap.size 47 #[.slice none 0 0, .slice none 0 0, .int .i64 0, .int .i64 0, .string ⟨#[]⟩, .string ⟨#[]⟩, .int .i64 0, .slice none 0 0, .slice none 0 0, .int .i64 0, .string ⟨#[]⟩, .int .i64 0, .slice none 0 0, .slice none 0 0, .int .i64 0, .slice none 0 0, .int .i64 0, .int .i64 0, .string ⟨#[]⟩, .int .i64 0, .slice none 0 0, .slice none 0 0, .int .i64 0] := l4
   have hb4d : Below w.heap.size w (w3.alloc (.cells l.toArray 47)).drew := hb4.trans ⟨rfl, rfl, rfl, Nat.le_refl _, fun _ _ => rfl⟩
   generalize (w3.alloc (.cells l.toArray 47)).drew = wd at hS l4d hb4d ⊢
   refine TillLast.take (i := 0) (oi := _) (v := .agg #[.slice none 0 0, .slice none 0 0, .int .i64 0, .int .i64 0, .string ⟨#[]⟩, .string ⟨#[]⟩, .int .i64 0, .slice none 0 0, .slice none 0 0, .int .i64 0, .string ⟨#[]⟩, .int .i64 0, .slice none 0 0, .slice none 0 0, .int .i64 0, .slice none 0 0, .int .i64 0, .int .i64 0, .string ⟨#[]⟩, .int .i64 0, .slice none 0 0, .slice none 0 0, .int .i64 0]) rfl (by kernel_rfl) (by kernel_rfl) (by kernel_rfl) (by kernel_rfl) (by decide) (by kernel_rfl) (fun _ _ _ h => h) (Or.inl ⟨by rfl, ?_⟩) hS ?_
   ·intro w' hS'
    go_simp
   try simp only [Act.put, List.setIfInBounds_toArray]
   refine TillLast.take (i := 1) (oi := _) (v := .pointer (some ⟨w1.heap.size, 3, none⟩)) rfl (by kernel_rfl) (by kernel_rfl) (by kernel_rfl) (by kernel_rfl) (by decide) (by kernel_rfl) (fun _ _ _ h => h) (Or.inl ⟨by rfl, ?_⟩) hS ?_
   ·intro w' hS'
    go_simp
   try simp only [Act.put]
   refine TillLast.take (i := 2) (oi := _) (v := .int .i64 (RS.at_ : Int)) rfl (by kernel_rfl) (by kernel_rfl) (by kernel_rfl) (by kernel_rfl) (by decide) (by kernel_rfl) (fun _ _ _ h => h) (Or.inl ⟨by rfl, ?_⟩) hS ?_
   ·intro w' hS'
    have c1 : w'.cell? ⟨w1.heap.size, 3, none⟩ = some (.int .i64 (RS.at_ : Int)) := hS'.cell 3
    go_simp
   try simp only [Act.put]
   refine TillLast.take (i := 3) (oi := _) (v := .pointer (some ⟨w1.heap.size, 4, none⟩)) rfl (by kernel_rfl) (by kernel_rfl) (by kernel_rfl) (by kernel_rfl) (by decide) (by kernel_rfl) (fun _ _ _ h => h) (Or.inl ⟨by rfl, ?_⟩) hS ?_
   ·intro w' hS'
    go_simp
   try simp only [Act.put]
   refine TillLast.take (i := 4) (oi := _) (v := .int .i64 (RS.er : Int)) rfl (by kernel_rfl) (by kernel_rfl) (by kernel_rfl) (by kernel_rfl) (by decide) (by kernel_rfl) (fun _ _ _ h => h) (Or.inl ⟨by rfl, ?_⟩) hS ?_
   ·intro w' hS'
    have c1 : w'.cell? ⟨w1.heap.size, 4, none⟩ = some (.int .i64 (RS.er : Int)) := hS'.cell 4
    go_simp
   try simp only [Act.put]
   refine TillLast.ready (rs := [5]) (by kernel_rfl) (by simp) ?_
   refine NextAll.cons (o := _) rfl (fun K hK => ?_) NextAll.nil
   rw [if_pos (by rfl)]
   refine wp_store_row 47 (.tmp 2) (.tmp 30) rfl w.heap.size zP rfl rfl 47 _ l4d szPg rfl zP_ones ?_
   have hS2 := hS.farRow (g' := w.heap.size) zP (by omega)
   have l6 := Lies.setRow l4d zP
   refine hK.out _ _ (fun _ => hS2) ?_
   clear hK K
   try simp only [Act.put]
   refine TillLast.ready (rs := [6]) (by kernel_rfl) (by simp) ?_
   refine NextAll.cons (o := _) rfl (fun K hK => ?_) NextAll.nil
   go_simp
   refine hK.out _ _ (fun _ => hS2) ?_
   clear hK K
   try simp only [Act.put, List.setIfInBounds_toArray, List.set_cons_zero, List.set_cons_succ]
   refine TillLast.ready (rs := [7]) (by kernel_rfl) (by simp) ?_
   refine NextAll.cons (o := _) rfl (fun K hK => ?_) NextAll.nil
   go_simp
   refine hK.out _ _ (fun _ => hS2) ?_
   clear hK K
   try simp only [Act.put, List.setIfInBounds_toArray, List.set_cons_zero, List.set_cons_succ]
   refine TillLast.done (by kernel_rfl) ?_ _
   go_wp2_with fail
   refine bodyPost_ret (results_three rfl _ _ w.heap.size 47 zP (0, 0) _ rfl l6 Tryz.underlying47 rfl szPg rfl rfl) rfl ?_
   unfold ParseEnd
   rw [hPW, parseW_err hRS he]
   exact ⟨zP.toList, rfl, pg_zero _ _, below_setRow hb4d (Nat.le_refl _) _⟩
 ·go_wp2_with fail
  refine HLEX.out.mono ?_
  rintro e w1 ⟨v1, rfl, hown1, hb1⟩
  rw [hr] at hown1 ⊢
  have l1 := l0.later hb1
  go_wp2_with (first | (refine wpList_store_rowTo rfl 47 (.tmp 2) (.tmp 18) rfl rfl _ zP rfl rfl 47 _ l1 szPg rfl zP_ones ?_))
  refine bodyPost_ret (results_three rfl _ _ w.heap.size 47 zP (0, 0) _ rfl (Lies.setRow l1 _) Tryz.underlying47 rfl szPg rfl rfl) rfl ?_
  refine ⟨zP.toList, ?_, ?_, ?_⟩
  ·rw [parseR_err hr (by decide)]
   rfl
  ·rw [parseR_err hr (by decide)]
   exact pg_zero _ _
  ·exact below_setRow (hb0.trans (hb1.mono hb0.size)) (Nat.le_refl _) _
end Go.Proofs.YtmodmojocclmaaaGreatDoor
