/- How many pieces a type has; types of a kind; what is deeper than a number. -/
import Derived.Test.YtpbhndmfmnfeoaaGreatMg21
import Derived.Test.YtpbhndmfmnfeoaaGreatMg24
import Derived.Test.YtpbhndmfmnfeoaaGreatMg18
import Derived.Test.YtpbhndmfmnfeoaaGreatMg00
import Derived.Test.YtpbhndmfmnfeoaaGreatMg15
import Derived.Outline
import Derived.Laws.Tables
import Derived.Maps.AppendAt
import Derived.Maps.Own
import Derived.StringKeys
import Derived.OwnWalk
import Derived.OrdersHeld
import Derived.Deep.RegionHeld
import Derived.RegionTactic
namespace Go.Proofs.YtpbhndmfmnfeoaaGreat.Ug
open Go.RowKit Si

theorem sizeL_take (l : List Ty) (k : Nat) : Ty.sizeL (l.take k) ≤ Ty.sizeL l := by
  have h := sizeL_appS (l.take k) (l.drop k)
  rw [List.take_append_drop] at h
  omega
set_option maxRecDepth 100000 in
set_option maxHeartbeats 8000000 in
theorem pieces_in : ∀ (N : Nat) (t : Ty) (w : World) (l : List Value) (most : Nat), t.size ≤ N → t.size ≤ most → most ≤ 1000000 → TRV w t l →
    Calls Tryz.prog 57 #[.agg l.toArray, .int .i64 (most : Int)] w fun e w' => e = .returned (.int .i64 (t.size : Int)) ∧ Below w.heap.size w w'
  | 0, t, _, _, _, h, _, _, _ => by obtain ⟨k, nm, v, kids, ls, rv⟩ := t; simp only [Ty.size] at h; omega
  | N + 1, t, w, l1, most, hsz, hms, hmm, ht => by
    have ih := pieces_in N
    obtain ⟨k, nm, v, kids, ls, rv⟩ := t
    obtain ⟨r, hr⟩ : ∃ r, r = (Ty.mk k nm v kids ls rv).size := ⟨_, rfl⟩
    rw [← hr] at hsz hms ⊢
    have HR := Lib.hid hr
    obtain ⟨kv, lv, rfl, hkv, hlv, hok, hks⟩ := ht
    obtain ⟨A3, c3, rfl, hc3, ha3⟩ := hkv.form
    obtain ⟨A4, m4, c4, rfl⟩ : ∃ A n c, lv = .slice A n c := by rcases hlv.1 with ⟨rfl, _⟩ | ⟨_, _, rfl, _⟩ <;> exact ⟨_, _, _, rfl⟩
    have hrs : r = 1 + Ty.sizeL kids := by rw [hr]; simp only [Ty.size]
    have hkl : kids.length ≤ 1000000 := by have := sizeL_lenS kids; omega
    have hkz : ∀ t ∈ kids, t.size ≤ N := fun t ht => by have := size_kid ht; omega
    obtain ⟨n, hn⟩ : ∃ n, n = kids.length := ⟨_, rfl⟩
    rw [← hn] at hc3 ha3 hkl hks ⊢
    unfold tyC
    obtain ⟨W, hW⟩ : ∃ W, W = w.alloc (.cells #[.int .i64 k, .string (ba nm), .int .i64 v, .slice A3 n c3, .slice A4 m4 c4, .int .i64 rv] 44) := ⟨_, rfl⟩
    have hb : Below w.heap.size w W := by rw [hW]; exact below_new w _
    have k0 : Lies W w.heap.size 44 #[.int .i64 k, .string (ba nm), .int .i64 v, .slice A3 n c3, .slice A4 m4 c4, .int .i64 rv] := by rw [hW]; exact Lies.new _ _ _
    have x3 := k0.cell 3
    have HW := Lib.hid hW
    have HB := Lib.hid hb
    have HKS := Lib.hid hks
    have HA3 := Lib.hid ha3
    have HN := Lib.hid hn
    have HKZ := Lib.hid hkz
    have IH := Lib.hid ih
    have HRS := Lib.hid hrs
    have HH := Lib.hid (And.intro hsz hms)
    clear hW hb hks ha3 hn hkz ih hkv hlv hok hsz k0 hr hrs
    go_enter Tryz.func57, Tryz.ntmps57
    go_wp2_with fail
    rw [← HW.out]
    go_wp2_with fail
    go_loopw [5, 11] (fun cnt i wr => ∃ q C : Nat, q ≤ n ∧ i = .int .i64 q ∧ C = 1 + Ty.sizeL (kids.take q) ∧ cnt = .int .i64 (C : Int) ∧ Below w.heap.size w wr) (fun _ i _ => n - (intOf i).toNat)
    case atStart => exact ⟨0, 1, Nat.zero_le _, rfl, rfl, rfl, HB.out⟩
    case round =>
      obtain ⟨q, C, hq, rfl, hC, rfl, hBw⟩ := hrel
      by_cases hlt : q < n
      · obtain ⟨t, ht⟩ : ∃ t, kids[q]? = some t := ⟨_, List.getElem?_eq_getElem (by have := HN.out; omega)⟩
        obtain ⟨g, o, rfl⟩ := HA3.out (by omega)
        obtain ⟨l, _, hr, htv⟩ := (HKS.out q t ht).open
        have hgl := reads_block hr (by rw [htv.len]; decide)
        have htm : t ∈ kids := List.mem_of_getElem? ht
        have hstep := sizeL_stepG kids q t ht
        have htake := sizeL_take kids (q + 1)
        have hCr : C + t.size ≤ r := by have := HRS.out; omega
        have hc1 : 1 + Ty.sizeL (kids.take (q + 1)) = C + t.size := by omega
        have hrm := HH.out.2
        have hcl := fun w7 (hb : Below w.heap.size w w7) => IH.out t w7 l (most - C) (HKZ.out t htm) (by omega) (by omega) (htv.later hb)
        obtain ⟨p, hp⟩ : ∃ p, p = t.size := ⟨_, rfl⟩
        rw [← hp] at hcl hCr hc1
        obtain ⟨k', nm', v2, kids', ls', rv'⟩ := t
        obtain ⟨kv', lv', rfl, hkv', hlv', _, _⟩ := htv
        obtain ⟨A5, c5, rfl, _, _⟩ := hkv'.form
        obtain ⟨A6, n6, c6, rfl⟩ : ∃ A n c, lv' = .slice A n c := by rcases hlv'.1 with ⟨rfl, _⟩ | ⟨_, _, rfl, _⟩ <;> exact ⟨_, _, _, rfl⟩
        have hr' : ReadsAt wr (kidAt (.slice (some ⟨g, o, none⟩) n c3) q) (tyC k' nm' v2 (.slice A5 kids'.length c5) (.slice A6 n6 c6) rv') := hr.keep (hBw.block _ hgl)
        obtain ⟨y0, y1, y2, y33, y4, y5⟩ := reads6 (b := g) (o := o + q * 6) hr'
        have hbz := below_new wr (.cells #[.int .i64 k', .string (ba nm'), .int .i64 v2, .slice A5 kids'.length c5, .slice A6 n6 c6, .int .i64 rv'] 44)
        have hBw3 := hBw.trans (hbz.mono hBw.size)
        have hcall := hcl _ hBw3
        have hms2 : ((most - C : Nat) : Int) = (most : Int) - (C : Int) := by omega
        rw [hms2] at hcall
        unfold tyC at hcall
        have HCALL := Lib.hid hcall
        have HC1 := Lib.hid hc1
        have HBw3 := Lib.hid hBw3
        have hqc : q < c3 := by omega
        have hlti : (q : Int) < (n : Int) := by omega
        have hCm : ¬ ((most : Int) < (C : Int)) := by omega
        have hw1 : IntKind.i64.wrap ((C : Int) + (p : Int)) = (C : Int) + (p : Int) := IntWalk.i64_in _ (by omega)
        have hw2 : IntKind.i64.wrap ((most : Int) - (C : Int)) = (most : Int) - (C : Int) := IntWalk.i64_in _ (by omega)
        clear hcl hcall hr hr' hBw hbz hgl htm ht hkv' hlv' hstep htake hc1 hC hp hms2 hBw3
        go_wp2_with fail
        refine HCALL.out.mono ?_
        rintro e w5 ⟨rfl, hb5⟩
        have hb5w := HBw3.out.trans (hb5.mono HBw3.out.size)
        clear hb5
        go_wp2_with fail
        go_roundw
        case rel => exact ⟨q + 1, C + p, by omega, by simp, HC1.out.symm, by simp, hb5w⟩
        case measure => (simp [intOf] <;> omega)
      · obtain rfl : q = n := by omega
        have hCr : C = r := by rw [hC, HRS.out, List.take_of_length_le (by have := HN.out; omega)]
        clear hC
        subst hCr
        go_wp2
        go_ret
        exact ⟨rfl, hBw⟩
theorem pieces_any (t : Ty) (w : World) (l : List Value) (most : Nat) (h1 : t.size ≤ most) (h2 : most ≤ 1000000) (h : TRV w t l) :
    Calls Tryz.prog 57 #[.agg l.toArray, .int .i64 (most : Int)] w fun e w' => e = .returned (.int .i64 (t.size : Int)) ∧ Below w.heap.size w w' := pieces_in t.size t w l most (Nat.le_refl _) h1 h2 h
set_option maxRecDepth 100000 in
set_option maxHeartbeats 8000000 in
/-- beyond: a type of no more pieces than so many is not deeper than that. -/
theorem beyond_any (t : Ty) (w : World) (l : List Value) (most : Nat) (h1 : t.size ≤ most) (h2 : most ≤ 1000000) (h : TRV w t l) :
    Calls Tryz.prog 39 #[.agg l.toArray, .int .i64 (most : Int)] w fun e w' => e = .returned (.bool false) ∧ Below w.heap.size w w' := by
  obtain ⟨k1, nm1, v1, A1, n1, c1, B1, m1, d1, rv1, rfl⟩ : ∃ k1 nm1 v1 A1 n1 c1 B1 m1 d1 rv1, l = [.int .i64 k1, .string (ba nm1), .int .i64 v1, .slice A1 n1 c1, .slice B1 m1 d1, .int .i64 rv1] := by
    obtain ⟨k, nm, v, kids, ls, rv⟩ := t
    obtain ⟨kv, lv, rfl, hkv, hlv, _, _⟩ := h
    obtain ⟨A5, c5, rfl, _, _⟩ := hkv.form
    obtain ⟨A6, n6, c6, rfl⟩ : ∃ A n c, lv = .slice A n c := by rcases hlv.1 with ⟨rfl, _⟩ | ⟨_, _, rfl, _⟩ <;> exact ⟨_, _, _, rfl⟩
    exact ⟨_, _, _, _, _, _, _, _, _, _, rfl⟩
  obtain ⟨W, hW⟩ : ∃ W, W = w.alloc (.cells #[.int .i64 k1, .string (ba nm1), .int .i64 v1, .slice A1 n1 c1, .slice B1 m1 d1, .int .i64 rv1] 44) := ⟨_, rfl⟩
  have hb : Below w.heap.size w W := by rw [hW]; exact below_new w _
  have ka : Lies W w.heap.size 44 #[.int .i64 k1, .string (ba nm1), .int .i64 v1, .slice A1 n1 c1, .slice B1 m1 d1, .int .i64 rv1] := by rw [hW]; exact Lies.new _ _ _
  have hpc := pieces_any t W _ most h1 h2 (h.later hb)
  have a0 := ka.cell 0
  have a1 := ka.cell 1
  have a2 := ka.cell 2
  have a3 := ka.cell 3
  have a4 := ka.cell 4
  have a5 := ka.cell 5
  have HW := Lib.hid hW
  have HB := Lib.hid hb
  have HPC := Lib.hid hpc
  have hle : ((t.size : Nat) : Int) ≤ (most : Int) := by omega
  clear hW hb ka hpc h h1
  go_enter Tryz.func39, Tryz.ntmps39
  go_wp2_with fail
  rw [← HW.out]
  go_wp2_with fail
  refine HPC.out.mono ?_
  rintro e w5 ⟨rfl, hb5⟩
  have hb5w := HB.out.trans (hb5.mono HB.out.size)
  clear hb5
  go_wp2
  go_ret
  exact ⟨rfl, hb5w⟩
set_option maxRecDepth 100000 in
set_option maxHeartbeats 8000000 in
/-- both: whether two types are of a kind, with so many below each. -/
theorem both_any (w : World) (k1 k2 : Int) (nm1 nm2 : Str) (v1 v2 : Int) (A1 A2 : Option Addr) (n1 n2 c1 c2 : Nat) (B1 B2 : Option Addr) (m1 m2 d1 d2 : Nat) (rv1 rv2 : Int) (kd ar : Int) :
    Calls Tryz.prog 38 #[.agg #[.int .i64 k1, .string (ba nm1), .int .i64 v1, .slice A1 n1 c1, .slice B1 m1 d1, .int .i64 rv1], .agg #[.int .i64 k2, .string (ba nm2), .int .i64 v2, .slice A2 n2 c2, .slice B2 m2 d2, .int .i64 rv2], .int .i64 kd, .int .i64 ar] w
      fun e w' => e = .returned (.bool (decide (k1 = kd ∧ k2 = kd ∧ (n1 : Int) = ar ∧ (n2 : Int) = ar))) ∧ Below w.heap.size w w' := by
  obtain ⟨W, hW⟩ : ∃ W, W = (w.alloc (.cells #[.int .i64 k1, .string (ba nm1), .int .i64 v1, .slice A1 n1 c1, .slice B1 m1 d1, .int .i64 rv1] 44)).alloc (.cells #[.int .i64 k2, .string (ba nm2), .int .i64 v2, .slice A2 n2 c2, .slice B2 m2 d2, .int .i64 rv2] 44) := ⟨_, rfl⟩
  have hb : Below w.heap.size w W := by rw [hW]; exact ((Below.refl _ w).alloc (Nat.le_refl _) _).alloc (by simp) _
  have ka : Lies W w.heap.size 44 #[.int .i64 k1, .string (ba nm1), .int .i64 v1, .slice A1 n1 c1, .slice B1 m1 d1, .int .i64 rv1] := by rw [hW]; exact (Lies.new _ _ _).alloc _
  have kb : Lies W (w.heap.size + 1) 44 #[.int .i64 k2, .string (ba nm2), .int .i64 v2, .slice A2 n2 c2, .slice B2 m2 d2, .int .i64 rv2] := by rw [hW]; exact Lies.new' _ _ _ (by simp)
  have a0 := ka.cell 0
  have a3 := ka.cell 3
  have b0 := kb.cell 0
  have b3 := kb.cell 3
  have HW := Lib.hid hW
  have HB := Lib.hid hb
  have e3 : decide (k1 = kd ∧ k2 = kd ∧ (n1 : Int) = ar ∧ (n2 : Int) = ar) = ((k1 == kd) && ((k2 == kd) && (((n1 : Int) == ar) && ((n2 : Int) == ar)))) := by
    rw [Bool.eq_iff_iff]; simp
  rw [e3]
  clear e3 hW hb ka kb
  cases q1 : (k1 == kd) <;> cases q2 : (k2 == kd) <;> cases q3 : ((n1 : Int) == ar) <;> cases q4 : ((n2 : Int) == ar)
  all_goals
    go_enter Tryz.func38, Tryz.ntmps38
    go_wp2_with fail
    rw [← HW.out]
    go_wp2
    go_ret
    exact ⟨rfl, HB.out⟩
end Go.Proofs.YtpbhndmfmnfeoaaGreat.Ug

/- A store of a list into a cell. -/
namespace Go.Proofs.YtpbhndmfmnfeoaaGreat
open Go.RowKit

set_option maxRecDepth 100000 in
theorem wp_store_strs {o : Oper} {a : Act} {w : World} {K : Act → World → Prop} {Q : Exit → Act → World → Prop} (x y : Operand) (ho : o.op = .store 22 x y)
    (g : Nat) (A : Option Addr) (n c : Nat) (hx : a.eval x = .pointer (some ⟨g, 0, none⟩)) (hy : a.eval y = .slice A n c) (t : TypeId) (old : Value) (hg : Lies w g t #[old])
    (h : K (a.put o.dst undef) (w.setCell ⟨g, 0, none⟩ (.slice A n c))) : o.wp Tryz.prog a w K Q := by
  have c0 := hg.cell 0
  have f0 := hg.free 0
  have l0 := hg.lt
  unfold Oper.wp execOp
  simp only [ho, hx, hy]
  go_simp
  exact h
theorem wp_append_at {P : Program} {o : Oper} {a : Act} {w : World} {K : Act → World → Prop} {Q : Exit → Act → World → Prop} (s x : Operand) (t : TypeId)
    (ho : o.op = .call { callee := .builtin .append, args := #[s, x], argTypes := #[t, t] })
    (base : Nat) (e : TypeId) (i : TypeInfo) (z : Value) (size bytes : Nat) (ht : P.underlying t = some (.slice e)) (hi : P.info? e = some i) (hz : i.zero = some z)
    (hsize : i.size = size) (hby : i.bytes = bytes) (hzs : z.cells.size = size) (hsz : 0 < size)
    (v : Value) (n : Nat) (xs : List Value) (hs : a.eval s = v) (hown : w.ownsRow base e size v n xs)
    (ad : Addr) (m c : Nat) (news : List Value) (hx : a.eval x = .slice (some ad) m c) (hl : news.length = m * size) (hnews : ∀ (j : Nat) u, news[j]? = some u → w.cell? (ad.add j) = some u) (h1 : ∀ u ∈ news, u.oneCell' = true)
    (h63 : n + m ≤ maxLen) (hbytes : (n + m) * bytes ≤ 140737488355328) (hbase : base ≤ w.heap.size) (_hty : o.type = t)
    (h : ∀ v' w', w'.ownsRow base e size v' (n + m) (xs ++ news) → w.grownBy w' v.ownBlock → (v'.ownBlock = v.ownBlock ∨ v'.ownBlock = some w.heap.size) → K (a.put o.dst v') w') : o.wp P a w K Q := by
  obtain ⟨v', w', hr, h2, h3, h4, h5⟩ := run_append_own_at (P := P) w base t o.type e i z size bytes ht hi hz hsize hby hzs hsz v n xs hown ad m c news hl hnews h1 h63 hbytes hbase
  unfold Oper.wp execOp
  simp only [ho, resolve, invoke, builtin, Sem.run_bind, Sem.run_pure, Result.andThen_ok, List.map_toArray, List.map_cons, List.map_nil, hs, hx, hr]
  exact h v' w' h2 h3 h5
end Go.Proofs.YtpbhndmfmnfeoaaGreat

/- Maps whose keys are strings, whose elements are ints: how many of a string there are. -/
namespace Go.Proofs.YtpbhndmfmnfeoaaGreat
open Go Go.RowKit Go.MapKept Go.ChangeMaps

/-- What a datum says of strings: 0 where it says nothing. -/
def SaysC (D : DataW Value) (c : Str → Int) : Prop := ∀ s : Str, D.atKey (.string s) (.lit (.int .i64 0)) = .lit (.int .i64 (c s))
/-- The map in block b says c of strings; it has at most m of them. -/
def MapC (w : World) (b m : Nat) (c : Str → Int) : Prop := ∃ D, w.ownsMap Tryz.prog 9 (plainElem (H := Value) Tryz.prog 3) b m D ∧ SaysC D c
def setC (c : Str → Int) (s : Str) (v : Int) : Str → Int := fun k => if k = s then v else c k
theorem keyedC : Maps.Keyed Tryz.prog 9 := Maps.string_keyed Tryz.underlying9
theorem keyC {s : Str} (h : s.length ≤ maxLen) : keyOf Tryz.prog 9 (.string (ba s)) = some (.string s) := by
  rw [Go.WideMaps.keyOf_string_mk Tryz.underlying9 (by rw [ba_size]; exact h), ba_list]
theorem MapC.made (w : World) : MapC (w.alloc (.map #[] 0)) w.heap.size 0 (fun _ => 0) := ⟨_, World.ownsMap_made w Tryz.prog 9 _, fun _ => rfl⟩
theorem MapC.lt {w : World} {b m : Nat} {c : Str → Int} (h : MapC w b m c) : b < w.heap.size := by
  obtain ⟨D, h1, _⟩ := h
  exact h1.lt
theorem MapC.mono {w : World} {b m m' : Nat} {c : Str → Int} (h : MapC w b m c) (hm : m ≤ m') : MapC w b m' c := by
  obtain ⟨D, h1, h2⟩ := h
  exact ⟨D, h1.mono hm, h2⟩
theorem MapC.keep {w w' : World} {b m : Nat} {c : Str → Int} (h : MapC w b m c) (hk : w'.heap[b]? = w.heap[b]?) : MapC w' b m c := by
  obtain ⟨D, ⟨es, clock, hb, h1⟩, h2⟩ := h
  exact ⟨D, ⟨es, clock, hk.trans hb, h1⟩, h2⟩
theorem MapC.later {w w' : World} {b m : Nat} {c : Str → Int} (h : MapC w b m c) (hb : Below w.heap.size w w') : MapC w' b m c := h.keep (hb.block b h.lt)
set_option maxRecDepth 100000 in
/-- 'm[s]'. -/
theorem MapC.look {w : World} {b m : Nat} {c : Str → Int} (h : MapC w b m c) {s : Str} (hs : s.length ≤ maxLen) :
    (Instr.lookup 87 (.map (some b)) (.string (ba s)) false).run Tryz.prog w = .ok (.int .i64 (c s)) w := by
  obtain ⟨D, h1, h2⟩ := h
  obtain ⟨a, hrun, hat, _⟩ := h1.lookup_int keyedC Tryz.underlying87 Tryz.underlying3 (by kernel_rfl) (keyC hs)
  rw [h2 s] at hat
  injection hat with hat
  injection hat with _ hat
  rw [hrun, hat]
set_option maxRecDepth 100000 in
/-- 'm[s] = v'. -/
theorem wpList_cput {w : World} {ops : Array Oper} {rest : List Oper} {o : Oper} {a : Act} {Q : Exit → Act → World → Prop}
    (hg : o.guard = none) (m x v : Operand) (hop : o.op = Op.mapUpdate 87 m x v) {b k : Nat} {c : Str → Int} (h : MapC w b k c) (hk : k < maxLen)
    (hm : a.eval m = .map (some b)) {s : Str} (hs : s.length ≤ maxLen) (hx : a.eval x = .string (ba s)) (u : Int) (hv : a.eval v = .int .i64 u) (hu : i64ok u)
    (hK : ∀ w', MapC w' b (k + 1) (setC c s u) → w.grownBy w' (some b) → w'.heap.size = w.heap.size → wpList Tryz.prog ops Q rest (a.put o.dst undef) w') : wpList Tryz.prog ops Q (o :: rest) a w := by
  obtain ⟨D, ⟨es, clock, hb, F, hsz, rfl⟩, h2⟩ := h
  have hM : Maps.IsMap (DataW.map ((es.toList.map (WideElems.rg Tryz.prog 9 (plainElem (H := Value) Tryz.prog 3))).foldr DataW.insert [])) := ⟨_, rfl⟩
  obtain ⟨es', clock', hrun, F', hput, _⟩ := Maps.fit_store (R' := plainElem (H := Value) Tryz.prog 3) keyedC Tryz.underlying87 hb F (Nat.lt_of_le_of_lt hsz hk) (fun _ _ _ _ hz => hz) (keyC hs) (plainElem_int Tryz.underlying3 hu)
  obtain ⟨w', hrun', hown, hgr⟩ := World.ownsMap.update (w := w) (n := k) ⟨es, clock, hb, F, hsz, rfl⟩ keyedC Tryz.underlying87 hk (keyC hs) (plainElem_int Tryz.underlying3 hu)
  have hsize : w'.heap.size = w.heap.size := by
    rw [hrun] at hrun'
    injection hrun' with _ hw
    rw [← hw]
    simp [setBlock]
  have h3 : MapC w' b (k + 1) (setC c s u) := ⟨_, hown, fun j => by
    unfold setC
    by_cases hj : j = s
    · subst hj
      rw [Maps.atKey_put_same hM (show WideAt.IsKeyLit (.string j) from trivial), if_pos rfl]
    · rw [Maps.atKey_put_other (by intro e; injection e with e; exact hj e), if_neg hj]
      exact h2 j⟩
  refine wpList_plain hg fun K' hK' => ?_
  unfold Oper.wp
  simp [execOp, hop, hm, hx, hv, hrun', Result.andThen]
  exact hK' _ _ (hK w' h3 hgr hsize)
end Go.Proofs.YtpbhndmfmnfeoaaGreat

/- What a list of labels has more than another one. -/
namespace Go.Proofs.YtpbhndmfmnfeoaaGreat
open Go.RowKit

/-- A label is taken away from the counts, or else put down. -/
def mStep (st : (Str → Int) × List Str) (x : Str) : (Str → Int) × List Str := if 0 < st.1 x then (setC st.1 x (st.1 x - 1), st.2) else (st.1, st.2 ++ [x])
def cntC (L : List Str) : Str → Int := fun s => (L.count s : Int)
def mAll (lb la : List Str) : (Str → Int) × List Str := la.foldl mStep (cntC lb, [])
/-- What la has more than lb. -/
def moreL (la lb : List Str) : List Str := (mAll lb la).2
theorem cntC_nil : cntC [] = fun _ => 0 := by funext s; simp [cntC]
theorem cntC_step (L : List Str) (k : Nat) (x : Str) (h : L[k]? = some x) : cntC (L.take (k + 1)) = setC (cntC (L.take k)) x (cntC (L.take k) x + 1) := by
  rw [take_step L k x h]
  funext s
  unfold cntC setC
  rw [List.count_append]
  by_cases hs : s = x
  · subst hs; simp
  · rw [if_neg hs]
    have : List.count s [x] = 0 := List.count_eq_zero.2 (by simpa using hs)
    show ((List.count s (L.take k) + List.count s [x] : Nat) : Int) = (List.count s (L.take k) : Int)
    omega
theorem cntC_le (L : List Str) (s : Str) : 0 ≤ cntC L s ∧ cntC L s ≤ L.length := by
  unfold cntC
  have := List.count_le_length (a := s) (l := L)
  omega
theorem mAll_step (lb la : List Str) (k : Nat) (x : Str) (h : la[k]? = some x) : mAll lb (la.take (k + 1)) = mStep (mAll lb (la.take k)) x := by
  unfold mAll
  rw [take_step la k x h, List.foldl_append]
  rfl
theorem mStep_ok (N : Int) (st : (Str → Int) × List Str) (x : Str) (h : ∀ s, 0 ≤ st.1 s ∧ st.1 s ≤ N) : ∀ s, 0 ≤ (mStep st x).1 s ∧ (mStep st x).1 s ≤ N := by
  intro s
  unfold mStep
  split
  · simp only [setC]
    have := h x
    have := h s
    split <;> omega
  · exact h s
theorem mStep_len (st : (Str → Int) × List Str) (x : Str) : (mStep st x).2.length ≤ st.2.length + 1 := by
  unfold mStep
  split <;> simp
theorem foldl_ok (N : Int) : ∀ (la : List Str) (st : (Str → Int) × List Str), (∀ s, 0 ≤ st.1 s ∧ st.1 s ≤ N) → ∀ s, 0 ≤ (la.foldl mStep st).1 s ∧ (la.foldl mStep st).1 s ≤ N
  | [], _, h => h
  | x :: r, st, h => foldl_ok N r _ (mStep_ok N st x h)
theorem foldl_len : ∀ (la : List Str) (st : (Str → Int) × List Str), (la.foldl mStep st).2.length ≤ st.2.length + la.length
  | [], _ => by simp
  | x :: r, st => by
    have h1 := foldl_len r (mStep st x)
    have h2 := mStep_len st x
    simp only [List.foldl_cons, List.length_cons]
    omega
theorem mAll_ok (lb la : List Str) (s : Str) : 0 ≤ (mAll lb la).1 s ∧ (mAll lb la).1 s ≤ lb.length := foldl_ok lb.length la _ (cntC_le lb) s
theorem mAll_len (lb la : List Str) : (mAll lb la).2.length ≤ la.length := by
  have := foldl_len la (cntC lb, [])
  simpa [mAll] using this
theorem moreL_len (la lb : List Str) : (moreL la lb).length ≤ la.length := mAll_len lb la
theorem info_strU : (Tryz.prog.info? 9).map (fun i => (i.zero, i.size, i.bytes)) = some (some (.string ⟨#[]⟩), 1, 16) := by kernel_rfl

set_option maxRecDepth 100000 in
set_option maxHeartbeats 4000000 in
theorem more_any (w : World) (va vb : Value) (la lb : List Str) (ha : StrR w va la) (hb : StrR w vb lb) (hsa : ∀ s ∈ la, s.length ≤ maxLen) (hsb : ∀ s ∈ lb, s.length ≤ maxLen) :
    Calls Tryz.prog 29 #[va, vb] w fun e w' => ∃ v', e = .returned v' ∧ OwnL w' w.heap.size v' (moreL la lb) ∧ Below w.heap.size w w' := by
  have hla := ha.2
  have hlb := hb.2
  obtain ⟨A, cA, rfl, hcA, hmA⟩ := ha.form
  obtain ⟨B, cB, rfl, hcB, hmB⟩ := hb.form
  have HVA := Lib.hid (fun (j : Nat) s (h : la[j]? = some s) => hmA j s h)
  have HVB := Lib.hid (fun (j : Nat) s (h : lb[j]? = some s) => hmB j s h)
  obtain ⟨NA, hNA⟩ : ∃ N, N = la.length := ⟨_, rfl⟩
  obtain ⟨NB, hNB⟩ : ∃ N, N = lb.length := ⟨_, rfl⟩
  have HNA := Lib.hid hNA
  have HNB := Lib.hid hNB
  have HSA := Lib.hid (fun (k : Nat) x (h : la[k]? = some x) => hsa x (List.mem_of_getElem? h))
  have HSB := Lib.hid (fun (k : Nat) x (h : lb[k]? = some x) => hsb x (List.mem_of_getElem? h))
  rw [← hNA] at hla hcA ⊢
  rw [← hNB] at hlb hcB ⊢
  clear hNA hNB ha hb hmA hmB hsa hsb
  obtain ⟨i0, hi, hz0, hz1, hz2⟩ := info_parts info_strU
  have hmm := @run_makeMap Tryz.prog
  go_enter Tryz.func29, Tryz.ntmps29
  go_wp2_with fail
  go_loopw [14] (fun i wr => ∃ k : Nat, k ≤ NB ∧ i = .int .i64 k ∧ MapC wr w.heap.size k (cntC (lb.take k)) ∧ Below w.heap.size w wr) (fun i _ => NB - (intOf i).toNat)
  case atStart => exact ⟨0, Nat.zero_le _, rfl, by rw [List.take_zero, cntC_nil]; exact MapC.made w, below_new w _⟩
  case round =>
    obtain ⟨k, hk, rfl, hM, hB⟩ := hrel
    have HB := Lib.hid hB
    by_cases hlt : k < NB
    · obtain ⟨x, hx⟩ : ∃ x, lb[k]? = some x := ⟨_, List.getElem?_eq_getElem (by have := HNB.out; omega)⟩
      obtain ⟨g, o, rfl, h6⟩ := HVB.out k x hx
      have z6 := (hB.cell (p := ⟨g, o + k, none⟩) (World.block_lt_of_cell? w _ h6)).trans h6
      have hs := HSB.out k x hx
      have hlk := hM.look hs
      have hcl := cntC_le (lb.take k) x
      have hst := cntC_step lb k x hx
      obtain ⟨n, hn⟩ : ∃ n, n = cntC (lb.take k) x := ⟨_, rfl⟩
      rw [← hn] at hlk hcl hst
      have HST := Lib.hid hst
      have hkl : (lb.take k).length ≤ k := by rw [List.length_take]; omega
      have hwr : IntKind.i64.wrap (n + 1) = n + 1 := IntWalk.i64_in _ (by omega)
      have hlti : (k : Int) < (NB : Int) := by omega
      have hkc : k < cB := by omega
      have hok : i64ok (n + 1) := i64ok_of (by omega) (by omega)
      have HOK := Lib.hid hok
      have HM := Lib.hid hM
      clear h6 hx hB hM hst hn hkl hok
      go_wp2_with (first | (at_mapUpdate; refine wpList_cput rfl (.tmp 18) (.tmp 19) (.tmp 21) rfl HM.out (by unfold maxLen; omega) rfl hs rfl (n + 1) rfl HOK.out ?_))
      intro w1 hM1 hg1 hz1
      rw [← HST.out] at hM1
      have HM1 := Lib.hid hM1
      have HB1 := Lib.hid (HB.out.grown hg1 HB.out.size (fun j hj => by cases hj; exact Nat.le_refl _))
      clear hM1 hg1 hz1 hlk
      go_wp2_with fail
      go_roundw
      case rel => exact ⟨k + 1, by omega, by simp, HM1.out, HB1.out⟩
      case measure => simp [intOf]; omega
    · obtain rfl : k = NB := by omega
      have hM2 : MapC wr w.heap.size k (mAll lb (la.take 0)).1 := by
        rw [HNB.out, List.take_length] at hM
        rw [← HNB.out] at hM
        exact hM
      have HM2 := Lib.hid hM2
      obtain ⟨wo, rfl⟩ : ∃ wo, wo = wr := ⟨_, rfl⟩
      clear hM hB hM2
      go_wp2_with fail
      go_loopw [25, 8] (fun i ov wr => ∃ (q : Nat) (A9 : Option Addr) (n9 c9 : Nat), q ≤ NA ∧ i = .int .i64 q ∧ ov = .slice A9 n9 c9 ∧ MapC wr w.heap.size (k + q) (mAll lb (la.take q)).1 ∧ OwnL wr (w.heap.size + 1) (.slice A9 n9 c9) (mAll lb (la.take q)).2 ∧ Below w.heap.size w wr) (fun i _ _ => NA - (intOf i).toNat)
      case atStart => exact ⟨0, none, 0, 0, Nat.zero_le _, rfl, rfl, HM2.out, World.ownsRow_nil _ _ _ _, HB.out⟩
      case round =>
        obtain ⟨q, A9, n9, c9, hq, rfl, rfl, hM, hO, hB⟩ := hrel
        have HB2 := Lib.hid hB
        have HM := Lib.hid hM
        have HO := Lib.hid hO
        by_cases hlt : q < NA
        · obtain ⟨x, hx⟩ : ∃ x, la[q]? = some x := ⟨_, List.getElem?_eq_getElem (by have := HNA.out; omega)⟩
          obtain ⟨g, o, rfl, h6⟩ := HVA.out q x hx
          have z6 := (hB.cell (p := ⟨g, o + q, none⟩) (World.block_lt_of_cell? w _ h6)).trans h6
          have hs := HSA.out q x hx
          have hlk := hM.look hs
          have hst := mAll_step lb la q x hx
          have hok := mAll_ok lb (la.take q) x
          have hln := mAll_len lb (la.take q)
          rw [← HNB.out] at hok
          have hln2 : (la.take q).length ≤ q := by rw [List.length_take]; omega
          obtain ⟨st, hste⟩ : ∃ st, st = mAll lb (la.take q) := ⟨_, rfl⟩
          rw [← hste] at hlk hst hok hln HM HO
          obtain ⟨n, hn⟩ : ∃ n, n = st.1 x := ⟨_, rfl⟩
          rw [← hn] at hlk hok
          have HST := Lib.hid hst
          have HN := Lib.hid hn
          have HLN := Lib.hid (show st.2.length ≤ 2000000 by omega)
          have hlti : (q : Int) < (NA : Int) := by omega
          have hqc : q < cA := by omega
          have hwr : IntKind.i64.wrap (n - 1) = n - 1 := IntWalk.i64_in _ (by omega)
          have HOK := Lib.hid (show i64ok (n - 1) from i64ok_of (by omega) (by omega))
          clear h6 hx hB hM hO hst hste hn hln hln2
          by_cases hpos : 0 < n
          · have hposd : decide (0 < n) = true := by simp [hpos]
            go_wp2_with (first | (at_mapUpdate; refine wpList_cput rfl (.tmp 33) (.tmp 34) (.tmp 36) rfl HM.out (by unfold maxLen; omega) rfl hs rfl (n - 1) rfl HOK.out ?_))
            intro w1 hM1 hg1 hz1
            have hst2 : mAll lb (la.take (q + 1)) = (setC st.1 x (n - 1), st.2) := by rw [HST.out]; unfold mStep; rw [← HN.out, if_pos hpos]
            have HS2 := Lib.hid hst2
            have HM1 := Lib.hid hM1
            have HB1 := Lib.hid (HB2.out.grown hg1 HB2.out.size (fun j hj => by cases hj; exact Nat.le_refl _))
            have HO1 := Lib.hid (own_same HO.out (w' := w1) (fun g hg hlt => hg1.block g hlt (fun e => by injection e with e; omega)))
            clear hM1 hg1 hz1 hst2 hlk
            go_wp2_with fail
            go_roundw
            case rel => exact ⟨q + 1, _, _, _, by omega, by simp, rfl, by rw [HS2.out]; exact HM1.out, by rw [HS2.out]; exact HO1.out, HB1.out⟩
            case measure => simp [intOf]; omega
          · have hposd : decide (0 < n) = false := by simp [hpos]
            have hbn := below_new wr (.cells #[.string (ba x)] 9)
            have hone : ∀ u ∈ [Value.string (ba x)], u.oneCell' = true := by simp [Value.oneCell']
            have HBN := Lib.hid hbn
            have hbsz := HB2.out.size
            have hmlt := HM.out.lt
            clear hbn
            go_wp2_with (first | (at_builtin; go_loud (refine wpList_append_own_at _ rfl (.tmp 37) (.tmp 39) 22 rfl (w.heap.size + 1) 9 i0 (.string ⟨#[]⟩) 1 16 Tryz.underlying22 hi hz0 hz1 hz2 rfl (by decide) _ st.2.length (st.2.map encS) rfl (own_later HO.out HBN.out) ⟨wr.heap.size, 0, none⟩ 1 1 [.string (ba x)] rfl rfl (new_cells wr _ _ rfl) hone (by have := HLN.out; unfold maxLen; omega) (by have := HLN.out; omega) (by simp; omega) ?_)))
            intro v' w1 hown hgr hnil hat
            obtain ⟨A8, n8, c8, rfl⟩ := own_slice hown
            have hst2 : mAll lb (la.take (q + 1)) = (st.1, st.2 ++ [x]) := by rw [HST.out]; unfold mStep; rw [← HN.out, if_neg (by omega)]
            have HS2 := Lib.hid hst2
            have hrow : ∀ k, Value.ownBlock (.slice A9 n9 c9) = some k → w.heap.size + 1 ≤ k := fun k hk => (own_block HO.out k hk).1
            have HM1 := Lib.hid ((HM.out.later HBN.out).keep (w' := w1) (hgr.block _ (by simp; omega) (fun e => by have := hrow _ e.symm; omega)))
            have HB1 := Lib.hid (Below.grown (HB2.out.trans (HBN.out.mono hbsz)) hgr (by simp; omega) (fun j hj => by have := hrow j hj; omega))
            have HO1 := Lib.hid hown
            clear hown hgr hnil hat hst2 hrow hlk
            go_wp2_with fail
            go_roundw
            case rel => exact ⟨q + 1, _, _, _, by omega, by simp, rfl, by rw [HS2.out]; exact HM1.out.mono (by omega), by rw [HS2.out]; unfold OwnL; rw [List.length_append, List.map_append]; exact HO1.out, HB1.out⟩
            case measure => simp [intOf]; omega
        · obtain rfl : q = NA := by omega
          rw [HNA.out, List.take_length] at hO
          clear hM HM HO
          have HO := Lib.hid hO
          clear hO
          go_wp2_with fail
          go_ret
          exact ⟨_, rfl, own_mono HO.out (by omega), HB2.out⟩
end Go.Proofs.YtpbhndmfmnfeoaaGreat

/- A region that draws its order, whose last operation writes a cell that it loads: what holds of the world is asked behind every operation but that last one. -/
namespace Go.Proofs.YtpbhndmfmnfeoaaGreat
open Go

section
variable {P : Program} {ops : Array Oper} {Q : Exit → Act → World → Prop} {md : Region.Mode} {S : World → Prop} {z : Nat}

/-- Whatever order is picked from here on; S holds behind every operation as long as number z has not come up. -/
def TillLast (P : Program) (md : Region.Mode) (ops : Array Oper) (Q : Exit → Act → World → Prop) (S : World → Prop) (z : Nat) : Nat → Array Bool → Act → World → Prop
  | 0, listed, a, w => Region.ready md ops listed = [] ∧ Q .normal a w
  | fuel + 1, listed, a, w =>
    (Region.ready md ops listed = [] → Q .normal a w) ∧
    ∀ i ∈ Region.ready md ops listed, wpOp P ops Q i (fun a' w' => ((listed.setIfInBounds i true).getD z true = false → S w') ∧ TillLast P md ops Q S z fuel (listed.setIfInBounds i true) a' w') a w

theorem TillLast.any : ∀ (fuel : Nat) (listed : Array Bool) (a : Act) (w : World), TillLast P md ops Q S z fuel listed a w → wpAny P md ops Q fuel listed a w
  | 0, _, _, _, h => h
  | fuel + 1, _, _, _, h => ⟨h.1, fun i hi => wpOp_mono (fun a' w' h' => TillLast.any fuel _ a' w' h'.2) (h.2 i hi)⟩

/-- Is operation z bound to wait for operation i? -/
def waitsB (md : Region.Mode) (ops : Array Oper) (z i : Nat) : Bool :=
  match ops[z]? with
  | some o => o.after.any fun e => Region.binds md e && e.on == i
  | none => false
theorem waits_not_ready {listed : Array Bool} {i : Nat} (h : waitsB md ops z i = true) (hu : listed.getD i false = false) : z ∉ Region.ready md ops listed := by
  intro hz
  obtain ⟨_, o, ho, hall⟩ := mem_ready.1 hz
  unfold waitsB at h
  rw [ho] at h
  simp only [Array.any_eq_true, Bool.and_eq_true, beq_iff_eq] at h
  obtain ⟨k, hk, hb, he⟩ := h
  have h1 := hall _ (Array.getElem_mem hk) hb
  rw [he, hu] at h1
  cases h1
theorem ready_unlisted {listed : Array Bool} {i : Nat} (h : i ∈ Region.ready md ops listed) : listed.getD i false = false := by
  have h0 := (mem_ready.1 h).1
  rcases Nat.lt_or_ge i listed.size with hl | hl
  · simpa [hl] using h0
  · simp [Array.getElem?_eq_none hl]

/-- What yields its value wherever S holds may be taken first, if the last operation waits for it. -/
theorem TillLast.first {i : Nat} {oi : Oper} {v : Value} (hi : ops[i]? = some oi) (hsel : ∀ (j : Nat) (o : Oper) cs b, ops[j]? = some o → o.op ≠ .select cs b)
    (hQ : ∀ c a w, Q (.panic c) (a.put oi.dst v) w → Q (.panic c) a w) (hw : waitsB md ops z i = true) (hzi : z ≠ i) :
    ∀ (fuel : Nat) (listed : Array Bool) (a : Act) (w : World),
      (∀ j oj, ops[j]? = some oj → j ≠ i → listed.getD j true = false → (∀ e ∈ oj.after, Region.binds md e = true → e.on ≠ i) → oi.apart ops oj = true) →
      i ∈ Region.ready md ops listed → listed.getD z true = false → YieldsIf P ops S oi v a → S w →
      TillLast P md ops Q S z fuel (listed.setIfInBounds i true) (a.put oi.dst v) w → TillLast P md ops Q S z (fuel + 1) listed a w := by
  intro fuel
  induction fuel with
  | zero =>
    intro listed a w _ hr _ hy hS H
    refine ⟨fun h => absurd hr (by rw [h]; simp), fun j hj => ?_⟩
    by_cases hji : j = i
    · subst hji
      exact hy.wpOp hi hS ⟨fun _ => hS, H⟩
    · exact absurd (ready_mono hj hji) (by rw [H.1]; simp)
  | succ fuel ih =>
    intro listed a w hfree hr hz hy hS H
    refine ⟨fun h => absurd hr (by rw [h]; simp), fun j hj => ?_⟩
    by_cases hji : j = i
    · subst hji
      exact hy.wpOp hi hS ⟨fun _ => hS, H⟩
    have hun := ready_unlisted hr
    have hjz : j ≠ z := fun e => waits_not_ready hw hun (e ▸ hj)
    obtain ⟨hjun, oj, hoj, hall⟩ := mem_ready.1 hj
    have hno : ∀ e ∈ oj.after, Region.binds md e = true → e.on ≠ i := by
      intro e he hb heq
      have h1 := hall e he hb
      rw [heq, hun] at h1
      cases h1
    have hstep := wpOp_putIf hoj (hfree j oj hoj hji hjun hno) (fun cs b => hsel i oi cs b hi) (fun cs b => hsel j oj cs b hoj) hQ hy (H.2 j (ready_mono hj hji))
    have hz' : (listed.setIfInBounds j true).getD z true = false := by rw [getD_set_ne true hjz]; exact hz
    have hz2 : ((listed.setIfInBounds i true).setIfInBounds j true).getD z true = false := by rw [getD_set_ne true hjz, getD_set_ne true (Ne.symm hzi)]; exact hz
    refine wpOp_mono (fun a' w' h3 => ⟨fun _ => h3.2.1 hz2, ih (listed.setIfInBounds j true) a' w' ?_ (ready_mono hr (Ne.symm hji)) hz' h3.1 (h3.2.1 hz2) ?_⟩) hstep
    · intro k ok hk hki hku hkn
      refine hfree k ok hk hki ?_ hkn
      by_cases hjk : j = k
      · rw [← hjk]; exact hjun
      · rwa [getD_set_ne true hjk] at hku
    · rw [Array.setIfInBounds_comm _ _ hji]
      exact h3.2.2
theorem TillLast.take {i : Nat} {oi : Oper} {v : Value} {fuel : Nat} {listed : Array Bool} {a : Act} {w : World} (hi : ops[i]? = some oi)
    (hs : Region.noSelect ops = true) (hf : Region.free md ops listed i = true) (hr : (Region.ready md ops listed).contains i = true) (hw : waitsB md ops z i = true) (hzi : z ≠ i) (hz : listed.getD z true = false)
    (hQ : ∀ c a w, Q (.panic c) (a.put oi.dst v) w → Q (.panic c) a w) (hy : YieldsIf P ops S oi v a) (hS : S w)
    (h : TillLast P md ops Q S z fuel (listed.setIfInBounds i true) (a.put oi.dst v) w) : TillLast P md ops Q S z (fuel + 1) listed a w :=
  TillLast.first hi (Region.noSelect_spec hs) hQ hw hzi fuel listed a w (Region.free_spec hi hf) (by simpa using hr) hz hy hS h
/-- The operations that may come up, one after the other. -/
def NextAll (P : Program) (md : Region.Mode) (ops : Array Oper) (Q : Exit → Act → World → Prop) (S : World → Prop) (z fuel : Nat) (listed : Array Bool) (a : Act) (w : World) (rs : List Nat) : Prop :=
  ∀ i ∈ rs, wpOp P ops Q i (fun a' w' => ((listed.setIfInBounds i true).getD z true = false → S w') ∧ TillLast P md ops Q S z fuel (listed.setIfInBounds i true) a' w') a w
theorem TillLast.ready {rs : List Nat} {fuel : Nat} {listed : Array Bool} {a : Act} {w : World} (hr : Region.ready md ops listed = rs) (hne : rs ≠ []) (h : NextAll P md ops Q S z fuel listed a w rs) : TillLast P md ops Q S z (fuel + 1) listed a w :=
  ⟨fun h0 => absurd (hr ▸ h0) hne, fun i hi => h i (hr ▸ hi)⟩
theorem NextAll.nil {fuel : Nat} {listed : Array Bool} {a : Act} {w : World} : NextAll P md ops Q S z fuel listed a w [] := fun _ h => by cases h
theorem NextAll.cons {fuel : Nat} {listed : Array Bool} {a : Act} {w : World} {i : Nat} {o : Oper} {rs : List Nat} (ho : ops[i]? = some o)
    (h : ∀ K' : Act → World → Prop, Shut (∀ a w, ((listed.setIfInBounds i true).getD z true = false → S w) → TillLast P md ops Q S z fuel (listed.setIfInBounds i true) a w → K' a w) → if Region.wanted o (yielded ops a.tmps) = true then Oper.wp P o a w K' Q else K' (a.put o.dst undef) w)
    (hs : NextAll P md ops Q S z fuel listed a w rs) : NextAll P md ops Q S z fuel listed a w (i :: rs) := by
  intro j hj
  rcases List.mem_cons.1 hj with rfl | hj
  · exact wpOp_step ho (fun K' hK => h K' (fun a w hS hT => hK a w ⟨hS, hT⟩))
  · exact hs j hj
theorem TillLast.done {listed : Array Bool} {a : Act} {w : World} (hr : Region.ready md ops listed = []) (h : Q .normal a w) : ∀ fuel, TillLast P md ops Q S z fuel listed a w
  | 0 => ⟨hr, h⟩
  | _ + 1 => ⟨fun _ => h, fun i hi => by rw [hr] at hi; cases hi⟩
theorem TillLast.start {id : Nat} {a : Act} {w : World} (hm : P.follows .mixedOrders = true) (h : TillLast P .any ops Q S z ops.size (Array.replicate ops.size false) a w.drew) : (Code.region id ops true).wp P Q a w :=
  wp_region_any hm (h.any _ _ _ _)
end
end Go.Proofs.YtpbhndmfmnfeoaaGreat
