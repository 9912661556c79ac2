/- Programs that Parse answers, as terms of the machine. -/
import Derived.Test.YtmodmojocclmaaaGreatDoorMg20
import Derived.Test.YtmodmojocclmaaaGreatDoorPgc
import Derived.Test.YtmodmojocclmaaaGreatDoorMg04
namespace Go.Proofs.YtmodmojocclmaaaGreatDoor.K
open Go Go.RowKit
namespace So

mutual
def cT : Pz.Tm → Tm
 | .mk k _ nm pm n kids arms => .mk (k : Int) nm pm (n : Int) (cTL kids) (cTA arms)
def cTL : List Pz.Tm → List Tm
 | [] => []
 | t :: r => cT t :: cTL r
def cTA : List (Pz.Str × List Pz.Str × Pz.Tm) → List Arm
 | [] => []
 | a :: r => (a.1, a.2.1, cT a.2.2) :: cTA r
end
mutual
def wide : Pz.Tm → Bool
 | .mk _ _ _ _ _ kids arms => (decide (kids.length ≤ 2000000) && decide (arms.length ≤ 2000000)) && (wideL kids && wideA arms)
def wideL : List Pz.Tm → Bool
 | [] => true
 | t :: r => wide t && wideL r
def wideA : List (Pz.Str × List Pz.Str × Pz.Tm) → Bool
 | [] => true
 | a :: r => decide (a.2.1.length ≤ 2000000) && (wide a.2.2 && wideA r)
end
theorem cTL_len : ∀ l : List Pz.Tm, (cTL l).length = l.length
 | [] => rfl
 | _ :: r => congrArg (· + 1) (cTL_len r)
theorem cTA_len : ∀ l : List (Pz.Str × List Pz.Str × Pz.Tm), (cTA l).length = l.length
 | [] => rfl
 | _ :: r => congrArg (· + 1) (cTA_len r)
theorem cTL_get : ∀ (l : List Pz.Tm) (i : Nat) (t : Tm), (cTL l)[i]? = some t → wideL l = true → ∃ u, l[i]? = some u ∧ t = cT u ∧ wide u = true
 | [], _, _, h, _ => by cases h
 | a :: r, 0, t, h, hw => by
  unfold wideL at hw
  rw [Bool.and_eq_true] at hw
  exact ⟨a, rfl, (Option.some.inj h).symm, hw.1⟩
 | a :: r, i + 1, t, h, hw => by
  unfold wideL at hw
  rw [Bool.and_eq_true] at hw
  exact cTL_get r i t h hw.2
theorem cTA_get : ∀ (l : List (Pz.Str × List Pz.Str × Pz.Tm)) (i : Nat) (t : Arm), (cTA l)[i]? = some t → wideA l = true → ∃ a, l[i]? = some a ∧ t = (a.1, a.2.1, cT a.2.2) ∧ wide a.2.2 = true ∧ a.2.1.length ≤ 2000000
 | [], _, _, h, _ => by cases h
 | a :: r, 0, t, h, hw => by
  unfold wideA at hw
  rw [Bool.and_eq_true, Bool.and_eq_true, decide_eq_true_eq] at hw
  exact ⟨a, rfl, (Option.some.inj h).symm, hw.2.1, hw.1⟩
 | a :: r, i + 1, t, h, hw => by
  unfold wideA at hw
  rw [Bool.and_eq_true, Bool.and_eq_true] at hw
  exact cTA_get r i t h hw.2.2
theorem flat_at {α : Type} {sz : Nat} : ∀ (l : List (List α)) (i j : Nat) (c : List α) (u : α), (∀ x ∈ l, x.length = sz) → l[i]? = some c → c[j]? = some u → l.flatten[i * sz + j]? = some u
 | [], _, _, _, _, _, h, _ => by cases h
 | a :: r, 0, j, c, u, hl, h, hj => by
  obtain rfl : a = c := Option.some.inj h
  rw [List.flatten_cons, Nat.zero_mul, Nat.zero_add, List.getElem?_append_left (List.getElem?_eq_some_iff.1 hj).1]
  exact hj
 | a :: r, i + 1, j, c, u, hl, h, hj => by
  have ha := hl a (List.mem_cons_self ..)
  rw [List.flatten_cons, List.getElem?_append_right (by rw [ha, Nat.succ_mul]; omega), show (i + 1) * sz + j - a.length = i * sz + j by rw [ha, Nat.succ_mul]; omega]
  exact flat_at r i j c u (fun x hx => hl x (List.mem_cons_of_mem _ hx)) h hj
theorem ownp_sl {w : World} {P : Nat → Prop} {e : TypeId} {sz n : Nat} {v : Value} {xs : List Value} (h : OwnP w P e sz v n xs) (hn : n ≤ 2000000) : Sl v n ∧ ∀ j u, xs[j]? = some u → w.cell? ⟨blk v, off v + j, none⟩ = some u := by
 obtain ⟨hl, h⟩ := h
 rcases h with ⟨rfl, rfl⟩ | ⟨g, cap, cur, rfl, hP, hh, hle, hm, hsz, htk⟩
 ·refine ⟨⟨none, 0, rfl, Nat.le_refl _, hn, fun h => absurd h (by omega)⟩, fun j u hj => ?_⟩
  have := (List.getElem?_eq_some_iff.1 hj).1
  omega
 ·refine ⟨⟨_, cap, rfl, hle, hn, fun _ => ⟨g, 0, rfl⟩⟩, fun j u hj => ?_⟩
  have hL : Lies w g e cur := hh
  show w.cell? ⟨g, 0 + j, none⟩ = _
  rw [Nat.zero_add, hL.cell, ← Array.getElem?_toList]
  rw [← htk, List.getElem?_take] at hj
  split at hj
  ·exact hj
  ·cases hj
theorem ht_tm {w : World} {P : Nat → Prop} {t : Pz.Tm} {cs : List Value} (h : HT w P t cs) : wide t = true → ∀ b o, (∀ (i : Nat) u, cs[i]? = some u → w.cell? ⟨b, o + i, none⟩ = some u) → TmA (memOf w) b o (cT t) := by
 induction h with
 | mk k pos nm pm n kids arms kv av kc vv bc hk hkl hks hvl hbl ha hav has ih1 ih2 =>
  intro hw b o hr
  unfold wide at hw
  rw [Bool.and_eq_true, Bool.and_eq_true, Bool.and_eq_true, decide_eq_true_eq, decide_eq_true_eq] at hw
  obtain ⟨⟨hw1, hw2⟩, hw3, hw4⟩ := hw
  have hk' := hk.2
  rw [hkl] at hk'
  obtain ⟨s1, c1⟩ := ownp_sl hk' hw1
  have hzl : (List.zipWith (fun (a : Pz.Str × List Pz.Str × Pz.Tm) (x : Value × List Value) => Value.string (Go.Proofs.YtmodmojocclmaaaGreatDoor.ba a.1) :: x.1 :: x.2) arms (vv.zip bc)).length = arms.length := by
   rw [List.length_zipWith, List.length_zip, hvl, hbl]; omega
  have ha' := ha.2
  rw [hzl] at ha'
  obtain ⟨s2, c2⟩ := ownp_sl ha' hw2
  have row : ∀ (i : Nat) (a : Pz.Str × List Pz.Str × Pz.Tm), arms[i]? = some a → ∃ v c, vv[i]? = some v ∧ bc[i]? = some c ∧ ∀ (j : Nat) u, (Value.string (Go.Proofs.YtmodmojocclmaaaGreatDoor.ba a.1) :: v :: c)[j]? = some u → w.cell? ⟨blk av, off av + (i * 23 + j), none⟩ = some u := by
   intro i a hi
   have hil := (List.getElem?_eq_some_iff.1 hi).1
   obtain ⟨v, e1⟩ : ∃ v, vv[i]? = some v := ⟨_, List.getElem?_eq_getElem (by omega)⟩
   obtain ⟨c, e2⟩ : ∃ c, bc[i]? = some c := ⟨_, List.getElem?_eq_getElem (by omega)⟩
   have e3 : (vv.zip bc)[i]? = some (v, c) := List.getElem?_zip_eq_some.2 ⟨e1, e2⟩
   refine ⟨v, c, e1, e2, fun j u hj => c2 _ _ (flat_at _ i j _ u ha.1 ?_ hj)⟩
   rw [List.getElem?_zipWith, hi, e3]
  show TmA (memOf w) b o (.mk (k : Int) nm pm (n : Int) (cTL kids) (cTA arms))
  refine .mk b o (k : Int) nm pm (n : Int) (cTL kids) (cTA arms) (.int .i64 (pos : Int)) kv av [.int .i64 0, .string ⟨#[]⟩, .int .i64 0, .slice none 0 0, .slice none 0 0, .int .i64 0, .slice none 0 0, .int .i64 0, .int .i64 0, .string ⟨#[]⟩, .int .i64 0, .slice none 0 0, .slice none 0 0, .int .i64 0] (fun i => vv.getD i .nilIface)
   (fun i u hu => HC.of (hr i u hu)) rfl (by intro u hu; simp at hu; rcases hu with rfl | rfl | rfl | rfl | rfl | rfl | rfl | rfl | rfl | rfl | rfl | rfl | rfl | rfl | rfl <;> rfl)
   (by rw [cTL_len]; exact s1) (by rw [cTA_len]; exact s2) (fun i t ht => ?_) (fun i x hx => ?_) (fun i x hx => ?_)
  ·obtain ⟨u, hu, rfl, hwu⟩ := cTL_get kids i t ht hw3
   have hil := (List.getElem?_eq_some_iff.1 hu).1
   have e1 : kc[i]? = some kc[i] := List.getElem?_eq_getElem (by omega)
   refine ih1 i u _ hu e1 hwu _ _ fun j v hj => ?_
   rw [Nat.add_assoc]
   exact c1 _ _ (flat_at kc i j _ v hk.1 e1 hj)
  ·obtain ⟨a, ha1, rfl, hwu, hal⟩ := cTA_get arms i x hx hw4
   obtain ⟨v, c, e1, e2, hc⟩ := row i a ha1
   have hv := hav i a v ha1 e1
   have hd : vv.getD i .nilIface = v := by rw [List.getD_eq_getElem?_getD, e1]; rfl
   rw [hd]
   obtain ⟨s3, c3⟩ := ownp_sl hv hal
   refine ⟨HC.of (hc 0 _ rfl), HC.of (hc 1 _ rfl), s3, fun j s hs => HC.of (c3 j _ ?_)⟩
   rw [List.getElem?_map, show a.2.1[j]? = some s from hs]
   rfl
  ·obtain ⟨a, ha1, rfl, hwu, hal⟩ := cTA_get arms i x hx hw4
   obtain ⟨v, c, e1, e2, hc⟩ := row i a ha1
   refine ih2 i a c ha1 e2 hwu _ _ fun j u hj => ?_
   have := hc (j + 2) u (by simpa using hj)
   rw [← this]
   congr 2
   omega
theorem pg_tm {w : World} {P : Nat → Prop} {p : Pz.Prog} {l : List Value} (h : PgIt w P p l) (hw : wide p.body = true) {W : World} (hb : Below w.heap.size w W) : TmA (memOf (W.alloc (.cells l.toArray 47))) W.heap.size 2 (cT p.body) := by
 obtain ⟨ev, dv, b, xs, ys, rfl, _, _, _, _, _, _, hT⟩ := h
 refine ht_tm ((hT.later hb).later ((Below.refl _ _).alloc (Nat.le_refl _) _)) hw _ _ fun i u hi => ?_
 have hL := Lies.new W 47 (pgC ev dv b).toArray
 rw [hL.cell]
 unfold pgC
 simpa [Nat.add_comm] using hi

def rs1 : List UInt8 := [104, 97, 110, 100, 108, 101, 32, 69, 32, 40, 103, 101, 116, 33, 40, 41, 41, 32, 123, 32, 114, 101, 116, 117, 114, 110, 32, 120, 32, 45, 62, 32, 120, 59, 32, 103, 101, 116, 32, 97, 32, 107, 32, 45, 62, 32, 107, 32, 49, 32, 43, 32, 107, 32, 50, 32, 125]
def rs2 : List UInt8 := [108, 101, 116, 32, 95, 32, 61, 32, 112, 114, 105, 110, 116, 32, 55, 32, 105, 110, 32, 49, 32, 47, 32, 48]
def rs3 : List UInt8 := [114, 101, 97, 100, 32, 40, 41]
def rs4 : List UInt8 := [103, 101, 116, 33, 40, 41]
def rp1 : Pz.Prog := (parseR rs1).1
def rp2 : Pz.Prog := (parseR rs2).1
def rp3 : Pz.Prog := (parseR rs3).1
def rp4 : Pz.Prog := (parseR rs4).1
set_option maxRecDepth 100000
theorem wide1 : wide rp1.body = true := by kernel_rfl
theorem wide2 : wide rp2.body = true := by kernel_rfl
theorem wide3 : wide rp3.body = true := by kernel_rfl
theorem wide4 : wide rp4.body = true := by kernel_rfl
theorem ok1 : okRun 100 (start (cT rp1.body) []) = true := by kernel_rfl
theorem ok2 : okRun 100 (start (cT rp2.body) []) = true := by kernel_rfl
theorem ok3 : okRun 100 (start (cT rp3.body) []) = true := by kernel_rfl
theorem ok4 : okRun 100 (start (cT rp4.body) []) = true := by kernel_rfl
theorem fin1 : (run 100 (start (cT rp1.body) [])).out = 1 ∧ (run 100 (start (cT rp1.body) [])).at_ = none ∧ (run 100 (start (cT rp1.body) [])).val = .lit 1 3 ∧ (run 100 (start (cT rp1.body) [])).konts = 1 := ⟨by kernel_rfl, by kernel_rfl, by kernel_rfl, by kernel_rfl⟩
theorem fin2 : (run 100 (start (cT rp2.body) [])).out = 2 ∧ (run 100 (start (cT rp2.body) [])).trace = [7] := ⟨by kernel_rfl, by kernel_rfl⟩
theorem fin3 : (run 100 (start (cT rp3.body) [])).out = 3 ∧ (run 100 (start (cT rp3.body) [])).steps = 1 := ⟨by kernel_rfl, by kernel_rfl⟩
theorem fin4 : (run 100 (start (cT rp4.body) [])).out = 4 := by kernel_rfl
end So
end Go.Proofs.YtmodmojocclmaaaGreatDoor.K

/- The terms that the laws of package source make, as they lie in memory. -/
namespace Go.Proofs.YtmodmojocclmaaaGreatDoor.K
open Go Go.RowKit
namespace So

def memX (X : Nat) (w : World) : Mem := fun b => if b = X then none else w.heap[b]?
theorem memX_le {X : Nat} {w W : World} (h : Below w.heap.size w W) : MLe (memX X w) (memX X W) := fun b o hb => by
 unfold memX at hb ⊢
 by_cases hx : b = X
 ·rw [if_pos hx] at hb; cases hb
 ·rw [if_neg hx] at hb ⊢
  exact (h.block b (Array.getElem?_eq_some_iff.1 hb).1).trans hb
theorem memX_of (X : Nat) (w : World) : MLe (memX X w) (memOf w) := fun b o hb => by
 unfold memX at hb
 by_cases hx : b = X
 ·rw [if_pos hx] at hb; cases hb
 ·rw [if_neg hx] at hb; exact hb
theorem memX_set (X : Nat) (w : World) (C : Array Value) : memX X (w.setRow X C) = memX X w := by
 funext b
 unfold memX
 by_cases hx : b = X
 ·rw [if_pos hx, if_pos hx]
 ·rw [if_neg hx, if_neg hx]; exact heap_setRow' _ _ _ b hx
theorem hcX {X : Nat} {w : World} {b o : Nat} {v : Value} (hx : b ≠ X) (h : w.cell? ⟨b, o, none⟩ = some v) : HC (memX X w) ⟨b, o, none⟩ v := by
 have hb : b < w.heap.size := World.block_lt_of_cell? w _ h
 refine ⟨w.heap[b], ?_, fun w' h' => ?_⟩
 ·unfold memX
  rw [if_neg hx]
  exact Array.getElem?_eq_getElem hb
 ·rw [← h]
  exact World.cell?_of_block (h'.trans (Array.getElem?_eq_getElem hb).symm)
def KidsA (H : Mem) (kv : Value) (kids : List Tm) : Prop := Sl kv kids.length ∧ ∀ (i : Nat) x, kids[i]? = some x → TmA H (blk kv) (off kv + i * 21) x
def TA (X : Nat) (w : World) (t : Tm) (l : List Value) : Prop := ∃ av kv rv rest, l = tmL t.k av t.nm t.pm t.n kv rv rest ∧ rest.length = 14 ∧ (∀ u ∈ av :: rest, u.oneCell' = true) ∧ KidsA (memX X w) kv t.kids ∧ ArmsA (memX X w) t.arms rv
def TaEnd (X : Nat) (w : World) (t : Tm) (e : Ending) (w' : World) : Prop := ∃ l, e = .returned (.agg l.toArray) ∧ TA X w' t l ∧ Below w.heap.size w w'
theorem KidsA.le {H H' : Mem} (k : MLe H H') {kv : Value} {kids : List Tm} (h : KidsA H kv kids) : KidsA H' kv kids := ⟨h.1, fun i x hx => (h.2 i x hx).le k⟩
theorem Sl.one {v : Value} {n : Nat} (h : Sl v n) : v.oneCell' = true := by
 obtain ⟨A, c, rfl, _⟩ := h
 rfl
theorem KidsA.none (H : Mem) : KidsA H (.slice none 0 0) [] := ⟨⟨_, 0, rfl, Nat.le_refl _, Nat.zero_le _, fun h => absurd h (by simp)⟩, fun i x hx => by cases hx⟩
theorem ArmsA.none (H : Mem) : ArmsA H [] (.slice none 0 0) := ⟨⟨_, 0, rfl, Nat.le_refl _, Nat.zero_le _, fun h => absurd h (by simp)⟩, fun i x hx => by cases hx⟩
section
variable {X : Nat} {w W : World} {t : Tm} {l : List Value}
theorem TA.len (h : TA X w t l) : l.length = 21 := by
 obtain ⟨av, kv, rv, rest, rfl, hr, _⟩ := h
 simp [tmL, hr]
theorem TA.one (h : TA X w t l) : l.toArray.all (·.oneCell') = true := by
 obtain ⟨av, kv, rv, rest, rfl, hr, ho, hk, ha⟩ := h
 rw [← Array.all_toList, List.all_eq_true]
 intro u hu
 unfold tmL at hu
 simp only [List.mem_append, List.mem_cons, List.not_mem_nil, or_false] at hu
 rcases hu with (rfl | rfl | rfl | rfl | rfl | rfl | rfl) | hu
 ·rfl
 ·exact ho _ (List.mem_cons_self ..)
 ·rfl
 ·rfl
 ·rfl
 ·exact hk.1.one
 ·exact ha.1.one
 ·exact ho _ (List.mem_cons_of_mem _ hu)
theorem TA.later (h : TA X w t l) (hb : Below w.heap.size w W) : TA X W t l := by
 obtain ⟨av, kv, rv, rest, h1, h2, h3, h4, h5⟩ := h
 exact ⟨av, kv, rv, rest, h1, h2, h3, h4.le (memX_le hb), h5.le (memX_le hb)⟩
theorem TA.set (h : TA X w t l) (C : Array Value) : TA X (w.setRow X C) t l := by
 unfold TA
 rw [memX_set]
 exact h
theorem TA.place (h : TA X w t l) {b o : Nat} (hx : b ≠ X) (hr : ∀ (i : Nat) u, l[i]? = some u → w.cell? ⟨b, o + i, none⟩ = some u) : TmA (memX X w) b o t := by
 obtain ⟨av, kv, rv, rest, rfl, h2, h3, h4, h5⟩ := h
 obtain ⟨k, nm, pm, n, kids, arms⟩ := t
 have hx : ∀ i : Nat, ∃ vv, ∀ x, arms[i]? = some x → HC (memX X w) ⟨blk rv, off rv + i * 23, none⟩ (.string (ba x.1)) ∧ HC (memX X w) ⟨blk rv, off rv + i * 23 + 1, none⟩ vv ∧ StrsH (memX X w) vv x.2.1 ∧ TmA (memX X w) (blk rv) (off rv + i * 23 + 2) x.2.2 := fun i => by
  cases hi : arms[i]? with
  | none => exact ⟨.nilIface, fun x hx => by cases hx⟩
  | some a =>
   obtain ⟨vv, e⟩ := h5.2 i a hi
   exact ⟨vv, fun x hx => by cases hx; exact e⟩
 exact .mk b o k nm pm n kids arms av kv rv rest (fun i => Classical.choose (hx i)) (fun i u hu => hcX (by assumption) (hr i u hu)) h2 h3 h4.1 h5.1 h4.2
  (fun i x hi => ⟨(Classical.choose_spec (hx i) x hi).1, (Classical.choose_spec (hx i) x hi).2.1, (Classical.choose_spec (hx i) x hi).2.2.1⟩) (fun i x hi => (Classical.choose_spec (hx i) x hi).2.2.2)
end
theorem number_ta (X : Nat) (w : World) (n : Int) : Calls Tryz.prog 14 #[.int .i64 n] w (TaEnd X w (numT n)) := (number_term w n).mono fun e w' h => by
 obtain ⟨av, rest, rfl, h1, h2, h3⟩ := h
 exact ⟨_, rfl, ⟨av, _, _, rest, rfl, h1, h2, KidsA.none _, ArmsA.none _⟩, h3⟩
theorem variable_ta (X : Nat) (w : World) (nm : Str) : Calls Tryz.prog 13 #[.string (ba nm)] w (TaEnd X w (varT nm)) := (variable_term w nm).mono fun e w' h => by
 obtain ⟨av, rest, rfl, h1, h2, h3⟩ := h
 exact ⟨_, rfl, ⟨av, _, _, rest, rfl, h1, h2, KidsA.none _, ArmsA.none _⟩, h3⟩
theorem op_ta (X : Nat) (w : World) (nm : Str) {A : Option Addr} {m c : Nat} {kids : List Tm} (hk : KidsA (memX X w) (.slice A m c) kids) : Calls Tryz.prog 11 #[.string (ba nm), .slice A m c] w (TaEnd X w (opT nm kids)) := (op_term w nm A m c).mono fun e w' h => by
 obtain ⟨av, rest, rfl, h1, h2, h3⟩ := h
 exact ⟨_, rfl, ⟨av, _, _, rest, rfl, h1, h2, hk.le (memX_le h3), ArmsA.none _⟩, h3⟩
theorem kids_new {X : Nat} {w W : World} {ts : List Tm} {ls : List (List Value)} (hlen : ls.length = ts.length) (hm : ts.length ≤ 2000000) (h : ∀ (i : Nat) t l, ts[i]? = some t → ls[i]? = some l → TA X w t l) {g : Nat} (hX : g ≠ X) {T : TypeId} (hL : Lies W g T ls.flatten.toArray) (hb : Below w.heap.size w W) {n : Nat} (hn : n = ts.length) :
  KidsA (memX X W) (.slice (some ⟨g, 0, none⟩) n n) ts := by
 subst hn
 refine ⟨⟨_, _, rfl, Nat.le_refl _, hm, fun _ => ⟨g, 0, rfl⟩⟩, fun i x hx => ?_⟩
 have hi := (List.getElem?_eq_some_iff.1 hx).1
 have hl : ls[i]? = some ls[i] := List.getElem?_eq_getElem (by omega)
 have hall : ∀ y ∈ ls, y.length = 21 := fun y hy => by
  obtain ⟨j, hj⟩ := List.getElem?_of_mem hy
  have hj2 := (List.getElem?_eq_some_iff.1 hj).1
  exact (h j _ y (List.getElem?_eq_getElem (by omega)) hj).len
 refine ((h i x _ hx hl).later hb).place hX fun j u hu => ?_
 show W.cell? ⟨g, 0 + i * 21 + j, none⟩ = some u
 rw [Nat.zero_add, hL.cell]
 have := flat_at ls i j _ u hall hl hu
 simpa using this
theorem fill_two (la lb : List Value) (ha : la.length = 21) (hb : lb.length = 21) (cells : Array Value) (hc : cells.size = 42) : Instr.fill (fun i => some (i * 21, 21)) cells [(0, Value.agg la.toArray), (1, Value.agg lb.toArray)] = some [la, lb].flatten.toArray :=
 fill_terms [la, lb] (fun l hl => by simp at hl; rcases hl with rfl | rfl <;> assumption) cells (by simpa using hc)
theorem fill_one' (la : List Value) (ha : la.length = 21) (cells : Array Value) (hc : cells.size = 21) : Instr.fill (fun i => some (i * 21, 21)) cells [(0, Value.agg la.toArray)] = some [la].flatten.toArray :=
 fill_terms [la] (fun l hl => by simp at hl; subst hl; assumption) cells (by simpa using hc)
theorem wpList_buildTo {P : Program} {ops : Array Oper} {rest : List Oper} {o : Oper} {a : Act} {w : World} {Q : Exit → Act → World → Prop} (hg : o.guard = none) (t : TypeId) (parts : Array (Nat × Operand)) (ho : o.op = .build t parts) (cells : Array Value)
  (hf : P.built t (parts.map fun (i, x) => (i, a.eval x)).toList = some cells) (h : wpList P ops Q rest (a.put o.dst (.agg cells)) w) : wpList P ops Q (o :: rest) a w :=
 wpList_build hg t parts ho (by rw [hf]; rfl) (by rw [hf]; exact h)
theorem ones_zr : ∀ u ∈ Value.int .i64 0 :: [.int .i64 0, .string ⟨#[]⟩, .int .i64 0, .slice none 0 0, .slice none 0 0, .int .i64 0, .slice none 0 0, .int .i64 0, .int .i64 0, .string ⟨#[]⟩, .int .i64 0, .slice none 0 0, .slice none 0 0, .int .i64 0], u.oneCell' = true := by
 intro u hu
 simp at hu
 rcases hu with rfl | rfl | rfl | rfl | rfl | rfl | rfl | rfl | rfl | rfl | rfl | rfl | rfl | rfl | rfl <;> rfl
set_option maxRecDepth 100000 in
set_option maxHeartbeats 4000000 in
theorem let_ta (X : Nat) (w : World) (hX : X < w.heap.size) (nm : Str) {ta tb : Tm} {la lb : List Value} (ha : TA X w ta la) (hb : TA X w tb lb) :
  Calls Tryz.prog 10 #[.string (ba nm), .agg la.toArray, .agg lb.toArray] w (TaEnd X w (letT nm ta tb)) := by
 obtain ⟨ie, hie, hiz, his⟩ := info39
 have hla := ha.len
 have hlb := hb.len
 obtain ⟨C, hC⟩ : ∃ C : List Value, C = [la, lb].flatten := ⟨_, rfl⟩
 obtain ⟨gb, hgb⟩ : ∃ g, g = (((w.alloc (.cells la.toArray 33)).alloc (.cells lb.toArray 33)).alloc (.cells zC 33)).heap.size := ⟨_, rfl⟩
 have hgn : gb = w.heap.size + 1 + 1 + 1 := by rw [hgb]; simp
 obtain ⟨RC, hRC⟩ : ∃ C : List Value, C = (tmL 7 (.int .i64 0) nm [] 0 (.slice (some ⟨gb, 0, none⟩) 2 2) (.slice none 0 0) [.int .i64 0, .string ⟨#[]⟩, .int .i64 0, .slice none 0 0, .slice none 0 0, .int .i64 0, .slice none 0 0, .int .i64 0, .int .i64 0, .string ⟨#[]⟩, .int .i64 0, .slice none 0 0, .slice none 0 0, .int .i64 0]) := ⟨_, rfl⟩
 have hbu : Tryz.prog.built 33 [(0, .int .i64 7), (2, .string (ba nm)), (5, .slice (some ⟨(((w.alloc (.cells la.toArray 33)).alloc (.cells lb.toArray 33)).alloc (.cells zC 33)).heap.size, 0, none⟩) 2 2)] = some RC.toArray := by rw [hRC, ← hgb]; kernel_rfl
 have hrs : (Tryz.prog.info? 33).map (·.size) = some RC.toArray.size := by rw [szTerm, hRC]; rfl
 have hro : RC.toArray.all (·.oneCell') = true := by rw [hRC]; simp [tmL, Value.oneCell']
 have hrz : zC.size = RC.toArray.size := by rw [hRC]; rfl
 have B1 : Below w.heap.size w (w.alloc (.cells la.toArray 33)) := (Below.refl _ _).alloc (Nat.le_refl _) _
 have B2 : Below w.heap.size w ((w.alloc (.cells la.toArray 33)).alloc (.cells lb.toArray 33)) := B1.alloc (by simp) _
 have B3 : Below w.heap.size w (((w.alloc (.cells la.toArray 33)).alloc (.cells lb.toArray 33)).alloc (.cells zC 33)) := B2.alloc (by simp; omega) _
 have B4 : Below w.heap.size w (((((w.alloc (.cells la.toArray 33)).alloc (.cells lb.toArray 33)).alloc (.cells zC 33)).alloc (.cells C.toArray 33)).setRow (w.heap.size + 1 + 1) RC.toArray) := below_setRow' (B3.alloc (by simp; omega) _) (by omega) _
 have l1 := ((Lies.new w 33 la.toArray).alloc (.cells lb.toArray 33)).alloc (.cells zC 33)
 have l2 := (Lies.new' (w.alloc (.cells la.toArray 33)) 33 lb.toArray (N := w.heap.size + 1) (by simp)).alloc (.cells zC 33)
 have l3 := (Lies.new' ((w.alloc (.cells la.toArray 33)).alloc (.cells lb.toArray 33)) 33 zC (N := w.heap.size + 1 + 1) (by simp)).alloc (.cells C.toArray 33)
 have l5 := lies_setRow' l3 RC.toArray
 have l4 : Lies (((((w.alloc (.cells la.toArray 33)).alloc (.cells lb.toArray 33)).alloc (.cells zC 33)).alloc (.cells C.toArray 33)).setRow (w.heap.size + 1 + 1) RC.toArray) gb 33 C.toArray := (heap_setRow' _ _ _ gb (by omega)).trans (Lies.new' (((w.alloc (.cells la.toArray 33)).alloc (.cells lb.toArray 33)).alloc (.cells zC 33)) 33 C.toArray (N := gb) (by rw [hgn]; simp))
 have hsa : (Tryz.prog.info? 33).map (·.size) = some la.toArray.size := by rw [szTerm]; simp [hla]
 have hsb : (Tryz.prog.info? 33).map (·.size) = some lb.toArray.size := by rw [szTerm]; simp [hlb]
 have hf : Instr.fill (fun i => some (i * 21, 21)) ((Array.range (2 * 21)).map ((Value.agg zC).cells[· % (Value.agg zC).cells.size]!)) [(0, Value.agg la.toArray), (1, Value.agg lb.toArray)] = some C.toArray := by rw [hC]; exact fill_two la lb hla hlb _ (by simp)
 have HA := Lib.hid ha
 have HB := Lib.hid hb
 have HC := Lib.hid hC
 have L1 := Lib.hid l1
 have L2 := Lib.hid l2
 have L3 := Lib.hid l3
 have L4 := Lib.hid l4
 have L5 := Lib.hid l5
 have HB4 := Lib.hid B4
 have HSA := Lib.hid hsa
 have HSB := Lib.hid hsb
 have HF := Lib.hid hf
 have HX := Lib.hid hX
 have HBU := Lib.hid hbu
 have HGN := Lib.hid hgn
 have HRC := Lib.hid hRC
 have HRS := Lib.hid hrs
 have HRO := Lib.hid hro
 have HRZ := Lib.hid hrz
 clear ha hb hla hlb hC B1 B2 B3 B4 l1 l2 l3 l4 l5 hsa hsb hf hX hbu hRC hrs hro hrz hgb hgn
 unfold zC at L1 L2 L3 L4 L5 HB4 HRZ HBU
 go_enter Tryz.func10, Tryz.ntmps10
 go_wp2_with (first
  | (refine wpList_load_row rfl 33 (.tmp 4) rfl w.heap.size rfl 33 la.toArray (0, 0) _ ?_ Tryz.underlying33 rfl HSA.out ?_; exact L1.out)
  | (refine wpList_load_row rfl 33 (.tmp 5) rfl (w.heap.size + 1) rfl 33 lb.toArray (0, 0) _ ?_ Tryz.underlying33 rfl HSB.out ?_; exact L2.out)
  | (refine wpList_buildSlice rfl 24 33 2 _ rfl C.toArray ie (.agg zC) Tryz.underlying24 hie hiz (by rw [his]; decide) (by rw [his]; decide) (by rw [his, Array.toList_map]; exact HF.out) ?_)
  | (refine wpList_store_rowTo rfl 33 (.tmp 6) (.tmp 11) rfl rfl (w.heap.size + 1 + 1) RC.toArray rfl rfl 33 _ ?_ HRS.out HRZ.out HRO.out ?_; exact L3.out)
  | (refine wpList_buildTo rfl 33 _ rfl RC.toArray (by rw [Array.toList_map]; exact HBU.out) ?_))
 refine bodyPost_ret (v := .agg RC.toArray) (results_cell_row rfl _ _ (w.heap.size + 1 + 1) 33 _ (0, 0) _ rfl L5.out Tryz.underlying33 rfl HRS.out) rfl ?_
 have hX := HX.out
 have hgn := HGN.out
 refine ⟨RC, rfl, ⟨.int .i64 0, _, _, _, HRC.out, rfl, ones_zr, ?_, ArmsA.none _⟩, HB4.out⟩
 refine kids_new (w := w) (ts := [ta, tb]) (ls := [la, lb]) rfl (by show 2 ≤ 2000000; omega) (fun i t l h1 h2 => ?_) (by omega) (T := 33) ?_ HB4.out rfl
 ·match i with
  | 0 => cases h1; cases h2; exact HA.out
  | 1 => cases h1; cases h2; exact HB.out
  | i + 2 => cases h1
 ·rw [← HC.out]
  exact L4.out
end So
end Go.Proofs.YtmodmojocclmaaaGreatDoor.K

/- SourceCells, in plain words: what the law makes of its numbers. -/
namespace Go.Proofs.YtmodmojocclmaaaGreatDoor.K
open Go Go.RowKit
namespace So

def ixK (p : Int) : Nat := (bits .and .i64 p 65535).toNat % 3
theorem ixK_lt (p : Int) : ixK p < 3 := Nat.mod_lt _ (by decide)
theorem ixK_tmod (p : Int) : (bits .and .i64 p 65535).tmod 3 = ((ixK p : Nat) : Int) := by
 obtain ⟨n, _, hb⟩ := and_mask p 65535 (by decide)
 unfold ixK
 rw [show (65535 : Int) = ((65535 : Nat) : Int) from rfl, hb]
 rfl
def prC (l : List Int) : List (Nat × Int) := l.map fun p => (ixK p, p)
theorem prC_lt (l : List Int) : ∀ x ∈ prC l, x.1 < 3 := fun x hx => by
 unfold prC at hx
 rw [List.mem_map] at hx
 obtain ⟨p, _, rfl⟩ := hx
 exact ixK_lt p
theorem prC_snd : ∀ l : List Int, ((prC l).map fun x => x.2) = l
 | [] => rfl
 | p :: r => congrArg (p :: ·) (prC_snd r)
theorem prC_len (l : List Int) : (prC l).length = l.length := by unfold prC; simp
theorem prC_snoc (l : List Int) (p : Int) : prC (l ++ [p]) = prC l ++ [(ixK p, p)] := by unfold prC; simp
theorem setAll_snoc : ∀ (L : List (Nat × Int)) (cs : List Int) (x : Nat × Int), setAll cs (L ++ [x]) = (setAll cs L).set x.1 x.2
 | [], _, _ => rfl
 | y :: r, cs, x => setAll_snoc r (cs.set y.1 y.2) x
theorem setAll_len : ∀ (L : List (Nat × Int)) (cs : List Int), (setAll cs L).length = cs.length
 | [], _ => rfl
 | y :: r, cs => (setAll_len r (cs.set y.1 y.2)).trans (List.length_set ..)
def tailT : List Nat → Tm
 | [] => unT
 | k :: r => letT [95] (showT (nmK k)) (tailT r)
def headT : List (Nat × Int) → Tm → Tm
 | [], t => t
 | x :: r, t => letT (nmK x.1) (refT x.2) (headT r t)
theorem puts_drop {L : List (Nat × Int)} {q : Nat} {x : Nat × Int} (h : L[q]? = some x) : putsT (L.drop q) = letT [95] (setT (nmK x.1) x.2) (letT [95] (showT (nmK x.1)) (putsT (L.drop (q + 1)))) := by
 have hq := (List.getElem?_eq_some_iff.1 h).1
 rw [List.drop_eq_getElem_cons hq, (List.getElem?_eq_some_iff.1 h).2]
 rfl
theorem law_cells (a b c : Int) (l : List Int) (hl : l.length ≤ 20) : ∃ f, Res (start (cellsT a b c (prC l)) []) 4500 f ∧ f.out = 1 ∧ f.at_ = none ∧ f.val = .lit 3 0 ∧ f.trace = l ++ setAll [a, b, c] (prC l) := by
 obtain ⟨f, h1, h2, h3, h4, h5⟩ := cells_run a b c (prC l) 4500 (prC_lt l) (by rw [prC_len]; exact hl) (by omega)
 exact ⟨f, h1, h2, h3, h4, by rw [h5, prC_snd]⟩
end So
end Go.Proofs.YtmodmojocclmaaaGreatDoor.K
