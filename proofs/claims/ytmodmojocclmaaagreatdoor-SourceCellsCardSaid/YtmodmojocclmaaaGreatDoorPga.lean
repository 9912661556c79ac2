/- The contract of what reads a program. -/
import Derived.Test.YtmodmojocclmaaaGreatDoorUc
import Derived.Test.YtmodmojocclmaaaGreatDoorMg33
import Derived.Outline
namespace Go.Proofs.YtmodmojocclmaaaGreatDoor
open Go.RowKit Pz

section
variable {α : Type} {It : World → (Nat → Prop) → α → List Value → Prop} {e : TypeId} {sz : Nat}
def Ac2 (It : World → (Nat → Prop) → α → List Value → Prop) (e : TypeId) (sz : Nat) (w : World) (lo : Nat) (zs : List α) (v u : Value) : Prop :=
 (∀ k, v.ownBlock = some k → u.ownBlock ≠ some k) ∧ ∃ xs : List (List Value), xs.length = zs.length ∧ w.ownsRow lo e sz v zs.length xs.flatten ∧ ∀ (i : Nat) a l, zs[i]? = some a → xs[i]? = some l → It w (fun k => lo ≤ k ∧ some k ≠ v.ownBlock ∧ some k ≠ u.ownBlock) a l
theorem Ac2.nil (w : World) (lo : Nat) (u : Value) : Ac2 It e sz w lo [] (.slice none 0 0) u := ⟨fun k h => by simp [Value.ownBlock] at h, [], rfl, World.ownsRow_nil _ _ _ _, by simp⟩
theorem Ac2.acc (ok : ItOK sz It) {w : World} {lo : Nat} {zs : List α} {v u : Value} (h : Ac2 It e sz w lo zs v u) : Acc It e sz w lo zs v := by
 obtain ⟨_, xs, h1, h2, h3⟩ := h
 exact ⟨xs, h1, h2, fun i a l ha hl => ok.mono (h3 i a l ha hl) (fun k hk _ => ⟨hk.1, hk.2.1⟩)⟩
theorem Ac2.keep (ok : ItOK sz It) {w w' : World} {lo : Nat} {zs : List α} {v u : Value} (h : Ac2 It e sz w lo zs v u) (hs : ∀ g, lo ≤ g → g < w.heap.size → w'.heap[g]? = w.heap[g]?) : Ac2 It e sz w' lo zs v u := by
 obtain ⟨h0, xs, h1, h2, h3⟩ := h
 exact ⟨h0, xs, h1, OwnP.same (P := fun g => lo ≤ g) h2 (fun g hg hlt => hs g hg hlt), fun i a l ha hl => ok.same (h3 i a l ha hl) (fun g hg hlt => hs g hg.1 hlt)⟩
theorem Ac2.kp (ok : ItOK sz It) {w w' : World} {lo pb : Nat} {zs : List α} {v u : Value} (h : Ac2 It e sz w lo zs v u) (hk : Kp pb w w') (hp : pb < lo) : Ac2 It e sz w' lo zs v u :=
 h.keep ok (fun g hg hlt => hk.block g hlt (fun e => by injection e; omega))
theorem Ac2.later (ok : ItOK sz It) {w w' : World} {lo : Nat} {zs : List α} {v u : Value} (h : Ac2 It e sz w lo zs v u) (hb : Below w.heap.size w w') : Ac2 It e sz w' lo zs v u :=
 h.keep ok (fun g _ hlt => hb.block g hlt)
theorem Ac2.other (ok : ItOK sz It) {w w' : World} {lo : Nat} {zs : List α} {v u u' : Value} (h : Ac2 It e sz w lo zs v u) (hg : w.grownBy w' u.ownBlock) (hat : u'.ownBlock = u.ownBlock ∨ u'.ownBlock = some w.heap.size) : Ac2 It e sz w' lo zs v u' := by
 obtain ⟨h0, xs, h1, h2, h3⟩ := h
 have hb := own_block h2
 refine ⟨fun k hk => ?_, xs, h1, ?_, fun i a l ha hl => ?_⟩
 ·rcases hat with hat | hat
  ·rw [hat]; exact h0 k hk
  ·rw [hat]; intro he; injection he with he; have := (hb k hk).2; omega
 ·refine ⟨h2.1, ?_⟩
  rcases h2.2 with hn | ⟨g, cap, cur, hv, hlo, hh, hr⟩
  ·exact .inl hn
  ·have hne : some g ≠ u.ownBlock := fun he => h0 g (by rw [hv]; rfl) he.symm
   exact .inr ⟨g, cap, cur, hv, hlo, (hg.block g (lt_of_block hh) hne).trans hh, hr⟩
 ·have hit := ok.mono (Q := fun k => (lo ≤ k ∧ some k ≠ v.ownBlock ∧ some k ≠ u.ownBlock) ∧ k < w.heap.size) (h3 i a l ha hl) (fun g h hl => ⟨h, hl⟩)
  refine ok.mono (ok.same hit (fun g hg' hlt => hg.block g hlt hg'.1.2.2)) (fun g hg' _ => ⟨hg'.1.1, hg'.1.2.1, ?_⟩)
  rcases hat with hat | hat
  ·rw [hat]; exact hg'.1.2.2
  ·rw [hat]; intro he; injection he with he; have := hg'.2; omega
theorem Ac2.snoc (ok : ItOK sz It) {w w' : World} {lo B : Nat} {zs : List α} {v v' u : Value} {a : α} {l : List Value} {xs : List (List Value)} (h0 : ∀ k, v.ownBlock = some k → u.ownBlock ≠ some k) (h1 : xs.length = zs.length)
  (h3 : ∀ (i : Nat) a l, zs[i]? = some a → xs[i]? = some l → It w (fun k => lo ≤ k ∧ some k ≠ v.ownBlock ∧ some k ≠ u.ownBlock) a l)
  (hi : It w (fun k => B ≤ k) a l) (hB : lo ≤ B) (hvB : ∀ k, v.ownBlock = some k → k < B) (huB : ∀ k, u.ownBlock = some k → k < B) (huw : ∀ k, u.ownBlock = some k → k < w.heap.size)
  (hown : w'.ownsRow lo e sz v' (zs.length + 1) (xs.flatten ++ l)) (hg : w.grownBy w' v.ownBlock) (hat : v'.ownBlock = v.ownBlock ∨ v'.ownBlock = some w.heap.size) : Ac2 It e sz w' lo (zs ++ [a]) v' u := by
 have hvk : ∀ k, lo ≤ k → some k ≠ v.ownBlock → some k ≠ u.ownBlock → k < w.heap.size → lo ≤ k ∧ some k ≠ v'.ownBlock ∧ some k ≠ u.ownBlock := by
  intro k h1 h2 h2' h3
  refine ⟨h1, ?_, h2'⟩
  rcases hat with hat | hat
  ·rw [hat]; exact h2
  ·rw [hat]; intro he; injection he; omega
 refine ⟨fun k hk he => ?_, xs ++ [l], by simp [h1], by simpa using hown, fun i b c hb hc => ?_⟩
 ·rcases hat with hat | hat
  ·rw [hat] at hk; exact h0 k hk he
  ·rw [hat] at hk; injection hk with hk; have := huw k he; omega
 by_cases hlt : i < zs.length
 ·rw [List.getElem?_append_left hlt] at hb
  rw [List.getElem?_append_left (by omega)] at hc
  have hit2 := ok.mono (Q := fun k => (lo ≤ k ∧ some k ≠ v.ownBlock ∧ some k ≠ u.ownBlock) ∧ k < w.heap.size) (h3 i b c hb hc) (fun g h hl => ⟨h, hl⟩)
  exact ok.mono (ok.same hit2 (fun g hg' hlt => hg.block g hlt hg'.1.2.1)) (fun g hg' _ => hvk g hg'.1.1 hg'.1.2.1 hg'.1.2.2 hg'.2)
 ·have hi' : i = zs.length := by
   have := (List.getElem?_eq_some_iff.1 hb).1
   simp at this; omega
  subst hi'
  rw [List.getElem?_append_right (Nat.le_refl _)] at hb
  rw [List.getElem?_append_right (by omega), h1] at hc
  simp at hb hc
  subst hb hc
  have hv : ∀ k, B ≤ k → some k ≠ v.ownBlock := fun k hk he => by have := hvB k he.symm; omega
  have hu : ∀ k, B ≤ k → some k ≠ u.ownBlock := fun k hk he => by have := huB k he.symm; omega
  have hit2 := ok.mono (Q := fun k => B ≤ k ∧ k < w.heap.size) hi (fun g h hl => ⟨h, hl⟩)
  exact ok.mono (ok.same hit2 (fun g hg' hlt => hg.block g hlt (hv g hg'.1))) (fun g hg' _ => hvk g (by have := hg'.1; omega) (hv g hg'.1) (hu g hg'.1) hg'.2)
end

def zP : Array Value := #[.slice none 0 0, .slice none 0 0, .int .i64 0, .int .i64 0, .string ⟨#[]⟩, .string ⟨#[]⟩, .int .i64 0, .slice none 0 0, .slice none 0 0, .int .i64 0, .string ⟨#[]⟩, .int .i64 0, .slice none 0 0, .slice none 0 0, .int .i64 0, .slice none 0 0, .int .i64 0, .int .i64 0, .string ⟨#[]⟩, .int .i64 0, .slice none 0 0, .slice none 0 0, .int .i64 0]
def pgC (ev dv : Value) (b : List Value) : List Value := [ev, dv] ++ b
theorem pgC_len {ev dv : Value} {b : List Value} (h : b.length = 21) : (pgC ev dv b).length = 23 := by simp [pgC, h]
theorem pg_cells (ev dv : Value) (l : List Value) (hl : l.length = 21) : (pgC ev dv zC.toList).take 2 ++ l ++ (pgC ev dv zC.toList).drop (2 + l.length) = pgC ev dv l := by
 unfold pgC
 rw [hl]
 rw [show ([ev, dv] ++ zC.toList).drop (2 + 21) = [] from rfl]
 simp
theorem pg_ones (ev dv : Value) (l : List Value) (he : ev.oneCell' = true) (hd : dv.oneCell' = true) (hl : ∀ u ∈ l, u.oneCell' = true) : (pgC ev dv l).toArray.all (·.oneCell') = true := by
 unfold pgC
 simp only [Array.all_eq_true_iff_forall_mem]
 intro u hu
 simp only [List.cons_append, List.nil_append, List.mem_toArray, List.mem_cons] at hu
 rcases hu with rfl | rfl | hu
 ·exact he
 ·exact hd
 ·exact hl u hu
theorem szPg : (Tryz.prog.info? 47).map (·.size) = some 23 := by kernel_rfl
theorem info_effect : (Tryz.prog.info? 137).map (fun i => (i.zero, i.size, i.bytes)) = some (some (.agg #[.string ⟨#[]⟩, .slice none 0 0]), 2, 40) := by kernel_rfl
theorem info_data : (Tryz.prog.info? 142).map (fun i => (i.zero, i.size, i.bytes)) = some (some (.agg #[.string ⟨#[]⟩, .slice none 0 0]), 2, 40) := by kernel_rfl

theorem decls_no {sz : Nat} {s : St} (h : isT [tEffect, tData] s = false) (n : Nat) (es : List (Str × List Sig)) (ds : List (Str × List Con)) : decls sz n es ds s = ((es, ds), s) := by
 cases n with
 | zero => rfl
 | succ n => unfold decls; rw [h]; rfl
theorem decls_e {sz : Nat} {s : St} (h : isT [tEffect, tData] s = true) (h1 : isT [tEffect] s = true) (n : Nat) (es : List (Str × List Sig)) (ds : List (Str × List Con)) :
  decls sz (n + 1) es ds s = decls sz n (es ++ [(effect sz (take s)).1]) ds (effect sz (take s)).2 := by rw [decls, if_pos h, if_pos h1]
theorem decls_d {sz : Nat} {s : St} (h : isT [tEffect, tData] s = true) (h1 : isT [tEffect] s = false) (n : Nat) (es : List (Str × List Sig)) (ds : List (Str × List Con)) :
  decls sz (n + 1) es ds s = decls sz n es (ds ++ [(data sz (must1 sz tData s)).1]) (data sz (must1 sz tData s)).2 := by rw [decls, if_pos h, if_neg (by rw [h1]; decide)]

abbrev EfIt := DIt SigIt 192 13
abbrev DaIt := DIt ConIt 195 2
theorem efOK : ItOK 2 EfIt := dit_ok sigOK
theorem daOK : ItOK 2 DaIt := dit_ok conOK
structure PgRel (pb sz n N : Nat) (w : World) (res : (List (Str × List Sig) × List (Str × List Con)) × St) (g : Nat) (wr : World) (es : List (Str × List Sig)) (ds : List (Str × List Con)) (ev dv : Value) (s : St) : Prop where
 goes : Goes pb sz w s wr
 box : Lies wr (N + 1) 47 (pgC ev dv zC.toList).toArray
 out : Lies wr N 47 zP
 ae : Ac2 EfIt 137 2 wr (N + 2) es ev dv
 ad : Ac2 DaIt 142 2 wr (N + 2) ds dv ev
 lg : s.ws.length ≤ g
 ln : es.length + ds.length + s.ws.length ≤ n
 res : res = decls sz g es ds s
def PgAny (pb sz n N : Nat) (w : World) (res : (List (Str × List Sig) × List (Str × List Con)) × St) (g : Nat) (wr : World) : Prop := ∃ es ds ev dv s, PgRel pb sz n N w res g wr es ds ev dv s
def PgIt (w : World) (P : Nat → Prop) (p : Prog) (l : List Value) : Prop :=
 ∃ ev dv b xs ys, l = pgC ev dv b ∧ List.length xs = p.effs.length ∧ OwnP w P 137 2 ev p.effs.length (List.flatten xs) ∧ (∀ (i : Nat) a m, p.effs[i]? = some a → xs[i]? = some m → EfIt w P a m) ∧
  List.length ys = p.dats.length ∧ OwnP w P 142 2 dv p.dats.length (List.flatten ys) ∧ (∀ (i : Nat) a m, p.dats[i]? = some a → ys[i]? = some m → DaIt w P a m) ∧ HT w P p.body b
theorem pgOK : ItOK 23 PgIt where
 same := fun ⟨ev, dv, b, xs, ys, h1, h2, h3, h4, h5, h6, h7, h8⟩ hs => ⟨ev, dv, b, xs, ys, h1, h2, h3.same hs, fun i a m ha hm => efOK.same (h4 i a m ha hm) hs, h5, h6.same hs, fun i a m ha hm => daOK.same (h7 i a m ha hm) hs, h8.same hs⟩
 mono := fun ⟨ev, dv, b, xs, ys, h1, h2, h3, h4, h5, h6, h7, h8⟩ hs => ⟨ev, dv, b, xs, ys, h1, h2, h3.mono hs, fun i a m ha hm => efOK.mono (h4 i a m ha hm) hs, h5, h6.mono hs, fun i a m ha hm => daOK.mono (h7 i a m ha hm) hs, h8.mono hs⟩
 len := fun ⟨ev, dv, b, xs, ys, h1, h2, h3, h4, h5, h6, h7, h8⟩ => by rw [h1]; exact pgC_len h8.len
 one := fun ⟨ev, dv, b, xs, ys, h1, h2, h3, h4, h5, h6, h7, h8⟩ => by
  have := pg_ones ev dv b h3.one h6.one h8.ones
  rw [Array.all_eq_true_iff_forall_mem] at this
  intro u hu
  rw [h1] at hu
  exact this u (by simpa using hu)

theorem pg_of {w : World} {lo lo' : Nat} {es : List (Str × List Sig)} {ds : List (Str × List Con)} {b : Tm} {ev dv : Value} {l : List Value} (he : Acc EfIt 137 2 w lo es ev) (hd : Acc DaIt 142 2 w lo ds dv) (hb : HT w (fun g => lo ≤ g) b l) (hl : lo' ≤ lo) :
  PgIt w (fun g => lo' ≤ g) ⟨es, ds, b⟩ (pgC ev dv l) := by
 obtain ⟨xs, h1, h2, h3⟩ := he
 obtain ⟨ys, g1, g2, g3⟩ := hd
 refine ⟨ev, dv, l, xs, ys, rfl, h1, (OwnP.of h2).mono (fun g (hg : lo ≤ g) _ => by show lo' ≤ g; omega), fun i a m ha hm => efOK.mono (h3 i a m ha hm) (fun g hg _ => by have := hg.1; show lo' ≤ g; omega), g1, (OwnP.of g2).mono (fun g (hg : lo ≤ g) _ => by show lo' ≤ g; omega), fun i a m ha hm => daOK.mono (g3 i a m ha hm) (fun g hg _ => by have := hg.1; show lo' ≤ g; omega), hb.mono (fun g (hg : lo ≤ g) _ => by show lo' ≤ g; omega)⟩
theorem isT_data {s : St} (h : isT [tEffect, tData] s = true) (h' : isT [tEffect] s = false) : isT [tData] s = true := by
 revert h h'
 unfold isT
 split
 ·simp
 ·simp only [List.contains_cons, List.contains_nil, Bool.or_false, Bool.and_eq_true, Bool.or_eq_true, Bool.and_eq_false_iff]
  intro h h'
  refine ⟨h.1, ?_⟩
  rcases h.2 with h2 | h2
  ·rcases h' with h' | h'
   ·exfalso
    rcases h.1 with e | e <;> simp [e] at h'
   ·rw [h'] at h2; cases h2
  ·exact h2

set_option maxRecDepth 100000 in
set_option maxHeartbeats 8000000 in
theorem program_any (pb sz n : Nat) (hnb : n ≤ 1900000) (w : World) (s : St) (hp : PA w pb sz s) (hn : s.ws.length ≤ n) :
  Calls Tryz.prog 26 #[.pointer (some ⟨pb, 0, none⟩)] w (ItEnd PgIt pb sz w (Pz.program sz s)) := by
 have hplt := hp.lt
 have l0 := (Lies.new w 47 zP).alloc (.cells zP 47)
 have b0 := Lies.new' (w.alloc (.cells zP 47)) 47 zP (N := w.heap.size + 1) (by simp)
 have hp0 := (hp.alloc (.cells zP 47)).alloc (.cells zP 47)
 have hk0 := ((Kp.refl pb w).alloc (.cells zP 47)).alloc (.cells zP 47)
 have hst : PgRel pb sz n w.heap.size w (decls sz s.ws.length [] [] s) s.ws.length ((w.alloc (.cells zP 47)).alloc (.cells zP 47)) [] [] (.slice none 0 0) (.slice none 0 0) s :=
  ⟨⟨hp0, hk0⟩, b0, l0, Ac2.nil _ _ _, Ac2.nil _ _ _, Nat.le_refl _, by simp; omega, rfl⟩
 obtain ⟨PR, hPR⟩ : ∃ PR, PR = Pz.program sz s := ⟨_, rfl⟩
 rw [← hPR]
 unfold Pz.program at hPR
 dsimp only at hPR
 obtain ⟨RD, hRD⟩ : ∃ RD, RD = decls sz s.ws.length [] [] s := ⟨_, rfl⟩
 rw [← hRD] at hst hPR
 have HPR := Lib.hid hPR
 clear hPR
 unfold zP at hst
 clear l0 b0 hp0 hk0 hRD
 go_enter Tryz.func26, Tryz.ntmps26
 go_wp2_with fail
 go_loopg [8] s.ws.length (fun g _ wr => PgAny pb sz n w.heap.size w RD g wr)
 case atStart => exact ⟨_, _, _, _, _, hst⟩
 case round =>
  obtain ⟨es, ds, ev, dv, s', hR⟩ := hrel
  clear hst
  have hgo := hR.goes
  have HR := Lib.hid hR
  have hszr : w.heap.size + 1 < wr.heap.size := hR.box.lt
  have hb1 := below_new wr (.cells #[.string (ba tEffect), .string (ba tData)] 9)
  have hS1 : Sl (wr.alloc (.cells #[.string (ba tEffect), .string (ba tData)] 9)) (.slice (some ⟨wr.heap.size, 0, none⟩) 2 2) [tEffect, tData] := Sl.new [tEffect, tData] rfl (by simp) 2 2 rfl rfl
  have hI := is_any _ [tEffect, tData] _ pb sz s' (hgo.pa.below hb1) hS1
  have hgo1 := hgo.below hb1
  clear hR
  cases hT : isT [tEffect, tData] s'
  ·rw [hT] at hI
   have HI := Lib.hid hI
   clear hI hS1
   go_wp2_with fail
   refine HI.out.mono ?_
   rintro e w2 ⟨rfl, hb2⟩
   have hgo2 := hgo1.below hb2
   have hRD : RD = ((es, ds), s') := by rw [HR.out.res, decls_no hT]
   have hln := HR.out.ln
   have hxe := exprs_ok pb sz (s'.ws.length + 1) (by omega) w2 s' hgo2.pa (by omega)
   have HXE := Lib.hid hxe
   have hKr2 : Kp pb wr w2 := ((Kp.refl pb wr).below hb1 (Nat.le_refl _)).below hb2 hb1.size
   have box2 := hKr2.lies HR.out.box (by omega)
   have out2 := hKr2.lies HR.out.out (by omega)
   clear hxe
   go_wp2_with fail
   refine HXE.out.mono ?_
   rintro e w3 ⟨l, rfl, ht, hg3⟩
   have hG3 := hgo2.trans hg3
   have hKr3 := hKr2.trans hg3.kp
   have hlen := ht.len
   have HL := Lib.hid hlen
   have box3 := hg3.kp.lies box2 (by omega)
   have out3 := hg3.kp.lies out2 (by omega)
   have hae := (HR.out.ae.kp efOK hKr3 (by omega)).acc efOK
   have had := (HR.out.ad.kp daOK hKr3 (by omega)).acc daOK
   have hev1 : ev.oneCell' = true := by obtain ⟨xs, _, h2, _⟩ := hae; exact (OwnP.of h2).one
   have hdv1 : dv.oneCell' = true := by obtain ⟨xs, _, h2, _⟩ := had; exact (OwnP.of h2).one
   have box4 := Lies.setCells l 2 box3 (by simp [pgC, zC, hlen])
   rw [pg_cells ev dv l hlen] at box4
   have out4 := out3.farCells (g' := w.heap.size + 1) 2 l (by omega)
   have thr : w3.there (w.heap.size + 1) 2 l.toArray.size := by show w3.there (w.heap.size + 1) 2 l.length; rw [hlen]; exact box3.there 2 21 (by show 2 + 21 ≤ (pgC ev dv zC.toList).length; simp [pgC, zC])
   have hones := pg_ones ev dv l hev1 hdv1 ht.ones
   have hsP : (Tryz.prog.info? 47).map (·.size) = some (pgC ev dv l).toArray.size := by rw [szPg]; simp [pgC_len hlen]
   have hs39 : (Tryz.prog.info? 33).map (·.size) = some l.toArray.size := by rw [sz39]; simp [hlen]
   have hzP : zP.size = (pgC ev dv l).toArray.size := by simp [pgC_len hlen, zP]
   have hp4 := hg3.pa.setCells (g := w.heap.size + 1) (by omega) 2 l
   have hk4 := hG3.kp.setCells (g := w.heap.size + 1) (by omega) 2 l
   have hht := HT.setCells ht (g := w.heap.size + 1) (fun g (hg' : w2.heap.size ≤ g) => by have := hKr2.size; omega) 2 l
   have hae4 := hae.keep efOK (w' := w3.setCells (w.heap.size + 1) 2 l) (fun g hg _ => heap_setCells _ _ _ _ _ (by omega))
   have had4 := had.keep daOK (w' := w3.setCells (w.heap.size + 1) 2 l) (fun g hg _ => heap_setCells _ _ _ _ _ (by omega))
   have hsz24 : w.heap.size + 2 ≤ w2.heap.size := by have := hKr2.size; omega
   have HTHR := Lib.hid thr
   have HON := Lib.hid hones
   have HSP := Lib.hid hsP
   have H39 := Lib.hid hs39
   have HZP := Lib.hid hzP
   have ht1 := ht.one
   have HPR2 := HPR.out
   rw [hRD] at HPR2
   dsimp only at HPR2
   have HPR3 := Lib.hid HPR2
   clear thr hones hsP hs39 hzP hlen HPR2
   obtain ⟨v4, pv4, hTw4, _⟩ := hp4.open
   have c0 := pv4.c0
   clear pv4
   obtain ⟨X, hX⟩ : ∃ X, X = (expr sz (s'.ws.length + 1) s').2 := ⟨_, rfl⟩
   have HX := Lib.hid hX
   rw [← hX] at hTw4 hp4 hg3
   have hLX : v4 = v4 ∧ True := ⟨rfl, trivial⟩
   clear hX
   by_cases hX0 : X.ws = []
   ·obtain ⟨A4, c4, rfl⟩ := hTw4.nil hX0
    go_wp2_with (first | (refine wpList_store_mid rfl 33 (.tmp 33) (.tmp 32) rfl (w.heap.size + 1) 2 l.toArray rfl rfl HTHR.out H39.out ht1 ?_; rw [List.toList_toArray]) | (refine wpList_load_row rfl 47 (.tmp 3) rfl _ rfl 47 _ (0, 0) _ box4 Tryz.underlying47 rfl HSP.out ?_) | (refine wpList_store_rowTo rfl 47 (.tmp 2) (.tmp 43) rfl rfl _ _ rfl rfl 47 _ out4 HSP.out HZP.out HON.out ?_))
    refine bodyPost_ret (v := .agg (pgC ev dv l).toArray) (results_cell_row rfl _ _ w.heap.size 47 _ (0, 0) _ rfl (out4.setRow _) Tryz.underlying47 rfl HSP.out) rfl ?_
    rw [HPR3.out, if_neg (by rw [← HX.out, hX0]; simp)]
    refine ⟨_, rfl, pg_of (hae4.keep efOK (fun g hg _ => heap_setRow _ _ _ _ (by omega))) (had4.keep daOK (fun g hg _ => heap_setRow _ _ _ _ (by omega))) (HT.mono (HT.setRow hht (fun g (hg' : w2.heap.size ≤ g) => by omega) _) (fun g (hg' : w2.heap.size ≤ g) _ => by show w.heap.size + 2 ≤ g; omega)) (by omega), ?_, ?_⟩
    ·rw [← HX.out]; exact hp4.setRow hplt _
    ·exact hk4.setRow (Nat.le_refl _) _
   ·obtain ⟨x, r, hw⟩ : ∃ x r, X.ws = x :: r := by
     cases hq : X.ws with
     | nil => exact absurd hq hX0
     | cons x r => exact ⟨x, r, rfl⟩
    rw [hw] at hTw4
    obtain ⟨g4, o4, c4, rfl, _⟩ := hTw4.cons
    have hlp : (0 : Int) < (r.length : Int) + 1 := by omega
    have hfa := fail_any 3 _ pb sz X hp4
    have HFA := Lib.hid hfa
    clear hfa
    go_wp2_with (first | (refine wpList_store_mid rfl 33 (.tmp 33) (.tmp 32) rfl (w.heap.size + 1) 2 l.toArray rfl rfl HTHR.out H39.out ht1 ?_; rw [List.toList_toArray]))
    refine HFA.out.mono ?_
    rintro e w5 ⟨rfl, hg5⟩
    have box5 := hg5.kp.lies box4 (by omega)
    have out5 := hg5.kp.lies out4 (by omega)
    have hae5 := hae4.kp efOK hg5.kp (by omega)
    have had5 := had4.kp daOK hg5.kp (by omega)
    have hht5 := hht.kp hg5.kp (fun g (hg' : w2.heap.size ≤ g) => by omega)
    go_wp2_with (first | (refine wpList_load_row rfl 47 (.tmp 3) rfl _ rfl 47 _ (0, 0) _ box5 Tryz.underlying47 rfl HSP.out ?_) | (refine wpList_store_rowTo rfl 47 (.tmp 2) (.tmp 43) rfl rfl _ _ rfl rfl 47 _ out5 HSP.out HZP.out HON.out ?_))
    refine bodyPost_ret (v := .agg (pgC ev dv l).toArray) (results_cell_row rfl _ _ w.heap.size 47 _ (0, 0) _ rfl (out5.setRow _) Tryz.underlying47 rfl HSP.out) rfl ?_
    rw [HPR3.out, if_pos (by rw [← HX.out, hw]; simp)]
    refine ⟨_, rfl, pg_of (hae5.keep efOK (fun g hg _ => heap_setRow _ _ _ _ (by omega))) (had5.keep daOK (fun g hg _ => heap_setRow _ _ _ _ (by omega))) (HT.mono (HT.setRow hht5 (fun g (hg' : w2.heap.size ≤ g) => by omega) _) (fun g (hg' : w2.heap.size ≤ g) _ => by show w.heap.size + 2 ≤ g; omega)) (by omega), ?_, ?_⟩
    ·rw [← HX.out]; exact hg5.pa.setRow hplt _
    ·exact (hk4.trans hg5.kp).setRow (Nat.le_refl _) _
  ·rw [hT] at hI
   have HI := Lib.hid hI
   clear hI hS1
   go_wp2_with fail
   refine HI.out.mono ?_
   rintro e w2 ⟨rfl, hb2⟩
   have hgo2 := hgo1.below hb2
   go_wp2_with fail
   have hb3 := below_new w2 (.cells #[.string (ba tEffect)] 9)
   have hS3 : Sl (w2.alloc (.cells #[.string (ba tEffect)] 9)) (.slice (some ⟨w2.heap.size, 0, none⟩) 1 1) [tEffect] := Sl.new [tEffect] rfl (by simp) 1 1 rfl rfl
   have hgo3 := hgo2.below hb3
   have HT' := Lib.hid hT
   have hpos := isT_pos hT
   have htk := take_lt hpos
   have hlnR := HR.out.ln
   cases hE : isT [tEffect] s'
   ·have hti := takeIf_no _ [tEffect] _ pb sz s' hgo3.pa hS3 hE
    have HTI := Lib.hid hti
    have HE := Lib.hid hE
    have hml := must1_lt (sz := sz) (isT_data hT hE)
    clear hti hS3 hT hE
    refine HTI.out.mono ?_
    rintro e w4 ⟨rfl, hb4⟩
    have hb5 := below_new w4 (.cells #[.string (ba tData)] 9)
    have hS5' : Sl (w4.alloc (.cells #[.string (ba tData)] 9)) (.slice (some ⟨w4.heap.size, 0, none⟩) 1 1) [tData] := Sl.new [tData] rfl (by simp) 1 1 rfl rfl
    have hm := must_any _ [tData] _ pb sz s' ((hgo3.pa.below hb4).below hb5) hS5' (Off.new (hgo3.pa.below hb4).lt)
    have HM := Lib.hid hm
    clear hm hS5'
    go_wp2_with fail
    refine HM.out.mono ?_
    rintro e w6 ⟨rfl, hg6⟩
    have hg6 : Goes pb sz (w4.alloc (.cells #[.string (ba tData)] 9)) (must1 sz tData s') w6 := hg6
    go_wp2_with fail
    have hKr4 : Kp pb wr w6 := (((((Kp.refl pb wr).below hb1 (Nat.le_refl _)).below hb2 hb1.size).below hb3 (Nat.le_trans hb1.size hb2.size)).below hb4 (Nat.le_trans (Nat.le_trans hb1.size hb2.size) hb3.size)).below hb5 (Nat.le_trans (Nat.le_trans (Nat.le_trans hb1.size hb2.size) hb3.size) hb4.size) |>.trans hg6.kp
    have hszX := hKr4.size
    have boxX := hKr4.lies HR.out.box (by omega)
    have outX := hKr4.lies HR.out.out (by omega)
    have hPX : PA w6 pb sz (must1 sz tData s') := hg6.pa
    refine TillLast.start (S := fun w' => Lies w' (w.heap.size + 1) 47 (pgC ev dv zC.toList).toArray) (z := 7) (by kernel_rfl) ?_
    have hS : Lies (w6).drew (w.heap.size + 1) 47 (pgC ev dv zC.toList).toArray := boxX
    have hpd : PA (w6).drew pb sz (must1 sz tData s') := hPX
    have hkd : Kp pb wr (w6).drew := hKr4.drew
    have hod : Lies (w6).drew w.heap.size 47 zP := outX
    have hszd : wr.heap.size ≤ (w6).drew.heap.size := hszX
    clear hKr4 boxX outX hPX hszX
    generalize (w6).drew = wd at hS hpd hkd hod hszd ⊢
    refine TillLast.take (i := 0) (oi := _) (v := .pointer (some ⟨w.heap.size + 1, 1, none⟩)) rfl (by kernel_rfl) (by kernel_rfl) (by kernel_rfl) (by kernel_rfl) (by decide) (by kernel_rfl) (fun _ _ _ h => h) (Or.inl ⟨by rfl, ?_⟩) hS ?_
    ·intro w' hS'
     go_simp
    try simp only [Act.put, List.setIfInBounds_toArray]
    refine TillLast.take (i := 1) (oi := _) (v := dv) rfl (by kernel_rfl) (by kernel_rfl) (by kernel_rfl) (by kernel_rfl) (by decide) (by kernel_rfl) (fun _ _ _ h => h) (Or.inl ⟨by rfl, ?_⟩) hS ?_
    ·intro w' hS'
     have c1 : w'.cell? ⟨w.heap.size + 1, 1, none⟩ = some dv := hS'.cell 1
     go_simp
    try simp only [Act.put]
    refine TillLast.take (i := 2) (oi := _) (v := .pointer (some ⟨pb, 0, none⟩)) rfl (by kernel_rfl) (by kernel_rfl) (by kernel_rfl) (by kernel_rfl) (by decide) (by kernel_rfl) (fun _ _ _ h => h) (Or.inl ⟨by rfl, ?_⟩) hS ?_
    ·intro w' hS'
     go_simp
    try simp only [Act.put]
    refine TillLast.ready (rs := [3]) (by kernel_rfl) (by simp) ?_
    refine NextAll.cons (o := _) rfl (fun K hK => ?_) NextAll.nil
    go_simp
    refine (data_any pb sz n (by omega) wd (must1 sz tData s') hpd (by omega)).mono ?_
    rintro e w5 ⟨l, rfl, hit, hg5⟩
    try dsimp only
    have hlen := daOK.len hit
    have hones := daOK.one hit
    have HL := Lib.hid hlen
    have HON := Lib.hid hones
    have hS5 := hg5.kp.lies hS (by omega)
    refine hK.out _ _ (fun _ => hS5) ?_
    clear hK K hlen hones
    have hk5 := hkd.trans hg5.kp
    have ho5 := hg5.kp.lies hod (by omega)
    have hsz5 := hg5.kp.size
    try simp only [Act.put, List.setIfInBounds_toArray, List.set_cons_zero, List.set_cons_succ]
    refine TillLast.ready (rs := [4]) (by kernel_rfl) (by simp) ?_
    refine NextAll.cons (o := _) rfl (fun K hK => ?_) NextAll.nil
    obtain ⟨i0, hi, hz0, hz1, hz2⟩ := info_parts info_data
    rw [if_pos (by rfl)]
    refine wp_buildSlice 45 142 1 _ rfl l.toArray i0 (.agg #[.string ⟨#[]⟩, .slice none 0 0]) Tryz.underlying45 hi hz0 (by rw [hz1]; decide) (by rw [hz1]; decide) (by rw [hz1, Array.toList_map]; exact fill_row (sz := 2) (by decide) l HL.out _ (by simp)) ?_
    have hb6 := below_new w5 (.cells l.toArray 142)
    have hS6 := hS5.later hb6
    refine hK.out _ _ (fun _ => hS6) ?_
    clear hK K
    have hk6 := hk5.below hb6 hk5.size
    have hp6 := hg5.pa.below hb6
    have ho6 := ho5.later hb6
    have hsz6 := hb6.size
    have hit6 := daOK.same hit (w' := w5.alloc (.cells l.toArray 142)) (fun g _ hlt => hb6.block g hlt)
    obtain ⟨hd0, xs, hx1, hx2, hx3⟩ := HR.out.ad.kp daOK hk6 (by omega)
    have hvB := fun q (hq : (dv).ownBlock = some q) => (own_block HR.out.ad.2.choose_spec.2.1 q hq).2
    have huB := fun q (hq : (ev).ownBlock = some q) => (own_block HR.out.ae.2.choose_spec.2.1 q hq).2
    have hvL := fun q (hq : (dv).ownBlock = some q) => (own_block HR.out.ad.2.choose_spec.2.1 q hq).1
    have hln := HR.out.ln
    have hlg := HR.out.lg
    try simp only [Act.put, List.setIfInBounds_toArray]
    refine TillLast.ready (rs := [5]) (by kernel_rfl) (by simp) ?_
    refine NextAll.cons (o := _) rfl (fun K hK => ?_) NextAll.nil
    rw [if_pos (by rfl)]
    refine wp_append_at (.tmp 25) (.tmp 28) 45 rfl (w.heap.size + 2) 142 i0 (.agg #[.string ⟨#[]⟩, .slice none 0 0]) 2 40 Tryz.underlying45 hi hz0 hz1 hz2 rfl (by decide) dv ds.length _ rfl hx2 ⟨w5.heap.size, 0, none⟩ 1 1 l rfl (by rw [HL.out]) (new_cells _ _ _ rfl) HON.out (by unfold maxLen; omega) (by omega) (by omega) rfl ?_
    intro v' w7 hown7 hgr hat
    have hS7 := hS6.grown hgr (fun e => by have := hvL _ e.symm; omega)
    have ho7 := ho6.grown hgr (fun e => by have := hvL _ e.symm; omega)
    refine hK.out _ _ (fun _ => hS7) ?_
    clear hK K
    have hk7 := (hgo.kp.trans hk6).grown hgr (fun k hk => by have := hvL k hk; omega)
    have hp7 := hp6.grown hgr (fun k hk => by have := hvL k hk; omega)
    have hvf : ∃ A k c, v' = .slice A k c := by rcases (OwnP.of hown7).2 with ⟨h, _⟩ | ⟨g, cap, cur, h, _⟩ <;> exact ⟨_, _, _, h⟩
    have hsz7 := hgr.size
    obtain ⟨A5, k5, c5, hvf⟩ := hvf
    subst hvf
    try simp only [Act.put]
    refine TillLast.ready (rs := [6]) (by kernel_rfl) (by simp) ?_
    refine NextAll.cons (o := _) rfl (fun K hK => ?_) NextAll.nil
    go_simp
    refine hK.out _ _ (fun _ => hS7) ?_
    clear hK K
    try simp only [Act.put, List.setIfInBounds_toArray, List.set_cons_zero, List.set_cons_succ]
    refine TillLast.ready (rs := [7]) (by kernel_rfl) (by simp) ?_
    refine NextAll.cons (o := _) rfl (fun K hK => ?_) NextAll.nil
    have hcv : w7.cell? ⟨w.heap.size + 1, 1, none⟩ = some dv := hS7.cell 1
    have hfv := hS7.free 1
    go_simp
    refine hK.out _ _ (fun h => absurd (h.symm.trans (by kernel_rfl : _ = true)) (by decide)) ?_
    clear hK K hcv hfv
    have hB8 : Lies (w7.setCell ⟨w.heap.size + 1, 1, none⟩ (.slice A5 k5 c5)) (w.heap.size + 1) 47 (pgC ev (.slice A5 k5 c5) zC.toList).toArray := hS7.set 1 (.slice A5 k5 c5)
    have ho8 := ho7.far (p := ⟨w.heap.size + 1, 1, none⟩) (by show w.heap.size ≠ w.heap.size + 1; omega) (.slice A5 k5 c5)
    have hp8 := hp7.far (p := ⟨w.heap.size + 1, 1, none⟩) (by show pb < w.heap.size + 1; omega) (.slice A5 k5 c5)
    have hk8 := hk7.setCell (p := ⟨w.heap.size + 1, 1, none⟩) (.inr (by show w.heap.size ≤ w.heap.size + 1; omega)) (.slice A5 k5 c5)
    have hA8 := (Ac2.snoc daOK hd0 hx1 hx3 hit6 (B := wd.heap.size) (by omega) (fun k hk => by have := hvB k hk; omega) (fun k hk => by have := huB k hk; omega) (fun k hk => by have := huB k hk; omega) hown7 hgr hat).keep daOK (w' := w7.setCell ⟨w.heap.size + 1, 1, none⟩ (.slice A5 k5 c5)) (fun g hg _ => Below.heap_setCell _ _ _ _ (by show g ≠ w.heap.size + 1; omega))
    have hD8 := ((HR.out.ae.kp efOK hk6 (by omega)).other efOK hgr hat).keep efOK (w' := w7.setCell ⟨w.heap.size + 1, 1, none⟩ (.slice A5 k5 c5)) (fun g hg _ => Below.heap_setCell _ _ _ _ (by show g ≠ w.heap.size + 1; omega))
    have hnl := (nice_data sz (must1 sz tData s')).1
    try simp only [Act.put, List.setIfInBounds_toArray, List.set_cons_zero, List.set_cons_succ]
    refine TillLast.done (by kernel_rfl) ?_ _
    go_wp2_with fail
    go_roundg (gk - 1)
    case measure => omega
    case rel =>
     refine ⟨_, _, _, _, (data sz (must1 sz tData s')).2, ⟨⟨hp8, hk8⟩, hB8, ho8, hD8, hA8, by omega, by simp; omega, ?_⟩⟩
     have hr := HR.out.res
     obtain ⟨g', rfl⟩ : ∃ g', gk = g' + 1 := ⟨gk - 1, by omega⟩
     rw [decls_d HT'.out HE.out] at hr
     exact hr
   ·have hti := takeIf_yes _ [tEffect] _ pb sz s' hgo3.pa hS3 hE
    have HTI := Lib.hid hti
    have HE := Lib.hid hE
    clear hti hS3 hT hE
    refine HTI.out.mono ?_
    rintro e w4 ⟨rfl, hg4⟩
    go_wp2_with fail
    have hKr4 : Kp pb wr w4 := (((((Kp.refl pb wr).below hb1 (Nat.le_refl _)).below hb2 hb1.size).below hb3 (Nat.le_trans hb1.size hb2.size)).trans hg4.kp)
    have hszX := hKr4.size
    have boxX := hKr4.lies HR.out.box (by omega)
    have outX := hKr4.lies HR.out.out (by omega)
    have hPX : PA w4 pb sz (take s') := hg4.pa
    refine TillLast.start (S := fun w' => Lies w' (w.heap.size + 1) 47 (pgC ev dv zC.toList).toArray) (z := 7) (by kernel_rfl) ?_
    have hS : Lies (w4).drew (w.heap.size + 1) 47 (pgC ev dv zC.toList).toArray := boxX
    have hpd : PA (w4).drew pb sz (take s') := hPX
    have hkd : Kp pb wr (w4).drew := hKr4.drew
    have hod : Lies (w4).drew w.heap.size 47 zP := outX
    have hszd : wr.heap.size ≤ (w4).drew.heap.size := hszX
    clear hKr4 boxX outX hPX hszX
    generalize (w4).drew = wd at hS hpd hkd hod hszd ⊢
    refine TillLast.take (i := 0) (oi := _) (v := .pointer (some ⟨w.heap.size + 1, 0, none⟩)) rfl (by kernel_rfl) (by kernel_rfl) (by kernel_rfl) (by kernel_rfl) (by decide) (by kernel_rfl) (fun _ _ _ h => h) (Or.inl ⟨by rfl, ?_⟩) hS ?_
    ·intro w' hS'
     go_simp
    try simp only [Act.put, List.setIfInBounds_toArray]
    refine TillLast.take (i := 1) (oi := _) (v := ev) rfl (by kernel_rfl) (by kernel_rfl) (by kernel_rfl) (by kernel_rfl) (by decide) (by kernel_rfl) (fun _ _ _ h => h) (Or.inl ⟨by rfl, ?_⟩) hS ?_
    ·intro w' hS'
     have c1 : w'.cell? ⟨w.heap.size + 1, 0, none⟩ = some ev := hS'.cell 0
     go_simp
    try simp only [Act.put]
    refine TillLast.take (i := 2) (oi := _) (v := .pointer (some ⟨pb, 0, none⟩)) rfl (by kernel_rfl) (by kernel_rfl) (by kernel_rfl) (by kernel_rfl) (by decide) (by kernel_rfl) (fun _ _ _ h => h) (Or.inl ⟨by rfl, ?_⟩) hS ?_
    ·intro w' hS'
     go_simp
    try simp only [Act.put]
    refine TillLast.ready (rs := [3]) (by kernel_rfl) (by simp) ?_
    refine NextAll.cons (o := _) rfl (fun K hK => ?_) NextAll.nil
    go_simp
    refine (effect_any pb sz n (by omega) wd (take s') hpd (by omega)).mono ?_
    rintro e w5 ⟨l, rfl, hit, hg5⟩
    try dsimp only
    have hlen := efOK.len hit
    have hones := efOK.one hit
    have HL := Lib.hid hlen
    have HON := Lib.hid hones
    have hS5 := hg5.kp.lies hS (by omega)
    refine hK.out _ _ (fun _ => hS5) ?_
    clear hK K hlen hones
    have hk5 := hkd.trans hg5.kp
    have ho5 := hg5.kp.lies hod (by omega)
    have hsz5 := hg5.kp.size
    try simp only [Act.put, List.setIfInBounds_toArray, List.set_cons_zero, List.set_cons_succ]
    refine TillLast.ready (rs := [4]) (by kernel_rfl) (by simp) ?_
    refine NextAll.cons (o := _) rfl (fun K hK => ?_) NextAll.nil
    obtain ⟨i0, hi, hz0, hz1, hz2⟩ := info_parts info_effect
    rw [if_pos (by rfl)]
    refine wp_buildSlice 44 137 1 _ rfl l.toArray i0 (.agg #[.string ⟨#[]⟩, .slice none 0 0]) Tryz.underlying44 hi hz0 (by rw [hz1]; decide) (by rw [hz1]; decide) (by rw [hz1, Array.toList_map]; exact fill_row (sz := 2) (by decide) l HL.out _ (by simp)) ?_
    have hb6 := below_new w5 (.cells l.toArray 137)
    have hS6 := hS5.later hb6
    refine hK.out _ _ (fun _ => hS6) ?_
    clear hK K
    have hk6 := hk5.below hb6 hk5.size
    have hp6 := hg5.pa.below hb6
    have ho6 := ho5.later hb6
    have hsz6 := hb6.size
    have hit6 := efOK.same hit (w' := w5.alloc (.cells l.toArray 137)) (fun g _ hlt => hb6.block g hlt)
    obtain ⟨hd0, xs, hx1, hx2, hx3⟩ := HR.out.ae.kp efOK hk6 (by omega)
    have hvB := fun q (hq : (ev).ownBlock = some q) => (own_block HR.out.ae.2.choose_spec.2.1 q hq).2
    have huB := fun q (hq : (dv).ownBlock = some q) => (own_block HR.out.ad.2.choose_spec.2.1 q hq).2
    have hvL := fun q (hq : (ev).ownBlock = some q) => (own_block HR.out.ae.2.choose_spec.2.1 q hq).1
    have hln := HR.out.ln
    have hlg := HR.out.lg
    try simp only [Act.put, List.setIfInBounds_toArray]
    refine TillLast.ready (rs := [5]) (by kernel_rfl) (by simp) ?_
    refine NextAll.cons (o := _) rfl (fun K hK => ?_) NextAll.nil
    rw [if_pos (by rfl)]
    refine wp_append_at (.tmp 15) (.tmp 18) 44 rfl (w.heap.size + 2) 137 i0 (.agg #[.string ⟨#[]⟩, .slice none 0 0]) 2 40 Tryz.underlying44 hi hz0 hz1 hz2 rfl (by decide) ev es.length _ rfl hx2 ⟨w5.heap.size, 0, none⟩ 1 1 l rfl (by rw [HL.out]) (new_cells _ _ _ rfl) HON.out (by unfold maxLen; omega) (by omega) (by omega) rfl ?_
    intro v' w7 hown7 hgr hat
    have hS7 := hS6.grown hgr (fun e => by have := hvL _ e.symm; omega)
    have ho7 := ho6.grown hgr (fun e => by have := hvL _ e.symm; omega)
    refine hK.out _ _ (fun _ => hS7) ?_
    clear hK K
    have hk7 := (hgo.kp.trans hk6).grown hgr (fun k hk => by have := hvL k hk; omega)
    have hp7 := hp6.grown hgr (fun k hk => by have := hvL k hk; omega)
    have hvf : ∃ A k c, v' = .slice A k c := by rcases (OwnP.of hown7).2 with ⟨h, _⟩ | ⟨g, cap, cur, h, _⟩ <;> exact ⟨_, _, _, h⟩
    have hsz7 := hgr.size
    obtain ⟨A5, k5, c5, hvf⟩ := hvf
    subst hvf
    try simp only [Act.put]
    refine TillLast.ready (rs := [6]) (by kernel_rfl) (by simp) ?_
    refine NextAll.cons (o := _) rfl (fun K hK => ?_) NextAll.nil
    go_simp
    refine hK.out _ _ (fun _ => hS7) ?_
    clear hK K
    try simp only [Act.put, List.setIfInBounds_toArray, List.set_cons_zero, List.set_cons_succ]
    refine TillLast.ready (rs := [7]) (by kernel_rfl) (by simp) ?_
    refine NextAll.cons (o := _) rfl (fun K hK => ?_) NextAll.nil
    have hcv : w7.cell? ⟨w.heap.size + 1, 0, none⟩ = some ev := hS7.cell 0
    have hfv := hS7.free 0
    go_simp
    refine hK.out _ _ (fun h => absurd (h.symm.trans (by kernel_rfl : _ = true)) (by decide)) ?_
    clear hK K hcv hfv
    have hB8 : Lies (w7.setCell ⟨w.heap.size + 1, 0, none⟩ (.slice A5 k5 c5)) (w.heap.size + 1) 47 (pgC (.slice A5 k5 c5) dv zC.toList).toArray := hS7.set 0 (.slice A5 k5 c5)
    have ho8 := ho7.far (p := ⟨w.heap.size + 1, 0, none⟩) (by show w.heap.size ≠ w.heap.size + 1; omega) (.slice A5 k5 c5)
    have hp8 := hp7.far (p := ⟨w.heap.size + 1, 0, none⟩) (by show pb < w.heap.size + 1; omega) (.slice A5 k5 c5)
    have hk8 := hk7.setCell (p := ⟨w.heap.size + 1, 0, none⟩) (.inr (by show w.heap.size ≤ w.heap.size + 1; omega)) (.slice A5 k5 c5)
    have hA8 := (Ac2.snoc efOK hd0 hx1 hx3 hit6 (B := wd.heap.size) (by omega) (fun k hk => by have := hvB k hk; omega) (fun k hk => by have := huB k hk; omega) (fun k hk => by have := huB k hk; omega) hown7 hgr hat).keep efOK (w' := w7.setCell ⟨w.heap.size + 1, 0, none⟩ (.slice A5 k5 c5)) (fun g hg _ => Below.heap_setCell _ _ _ _ (by show g ≠ w.heap.size + 1; omega))
    have hD8 := ((HR.out.ad.kp daOK hk6 (by omega)).other daOK hgr hat).keep daOK (w' := w7.setCell ⟨w.heap.size + 1, 0, none⟩ (.slice A5 k5 c5)) (fun g hg _ => Below.heap_setCell _ _ _ _ (by show g ≠ w.heap.size + 1; omega))
    have hnl := (nice_effect sz (take s')).1
    try simp only [Act.put, List.setIfInBounds_toArray, List.set_cons_zero, List.set_cons_succ]
    refine TillLast.done (by kernel_rfl) ?_ _
    go_wp2_with fail
    go_roundg (gk - 1)
    case measure => omega
    case rel =>
     refine ⟨_, _, _, _, (effect sz (take s')).2, ⟨⟨hp8, hk8⟩, hB8, ho8, hA8, hD8, by omega, by simp; omega, ?_⟩⟩
     have hr := HR.out.res
     obtain ⟨g', rfl⟩ : ∃ g', gk = g' + 1 := ⟨gk - 1, by omega⟩
     rw [decls_e HT'.out HE.out] at hr
     exact hr
end Go.Proofs.YtmodmojocclmaaaGreatDoor
