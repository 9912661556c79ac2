/- Plain words of what lex does: the words of a list of bytes; no program stands here. -/
import Derived.Test.YtmodmojocclmaaaGreatDoorProg
import Derived.Lib.Strings
import Derived.WalkKit
import Derived.WalkSpells
import Derived.WalkLawsBesides
import Derived.Lib.Hide
import Derived.Maps.Own
import Derived.Maps.OwnOps
import Derived.LaidEql
namespace Go.Proofs.YtmodmojocclmaaaGreatDoor
namespace Lx

def inB : List UInt8 → UInt8 → Bool
 | a :: b :: r, c => (decide (a.toNat ≤ c.toNat) && decide (c.toNat ≤ b.toNat)) || inB r c
 | _, _ => false

def spanN (p : UInt8 → Bool) : List UInt8 → Nat
 | [] => 0
 | c :: r => if p c then spanN p r + 1 else 0

def kwB (l : List UInt8) : Bool := l == [102, 117, 110] || l == [108, 101, 116] || l == [105, 110] || l == [114, 101, 99] || l == [105, 102] || l == [116, 104, 101, 110] || l == [101, 108, 115, 101] || l == [109, 97, 116, 99, 104] || l == [104, 97, 110, 100, 108, 101] || l == [114, 101, 116, 117, 114, 110] || l == [101, 102, 102, 101, 99, 116] || l == [100, 97, 116, 97] || l == [112, 114, 105, 110, 116] || l == [114, 101, 97, 100] || l == [114, 101, 102] || l == [116, 114, 117, 101] || l == [102, 97, 108, 115, 101] || l == [105, 110, 116] || l == [98, 111, 111, 108] || l == [117, 110, 105, 116]

def preB (d s : List UInt8) : Bool := d.isPrefixOf s

structure Tk where
 k : Nat
 t : List UInt8
 n : Nat
 pos : Nat

def digs : List UInt8 := [48, 57]
def lets : List UInt8 := [65, 90, 97, 122, 95, 95]
def inss : List UInt8 := [65, 90, 97, 122, 95, 95, 48, 57]
def valN (l : List UInt8) : Nat := l.foldl (fun a c => a * 10 + (c.toNat - 48)) 0
def capB : List UInt8 → Bool
 | c :: _ => decide (65 ≤ c.toNat) && decide (c.toNat ≤ 90)
 | [] => false
def numF (l : List UInt8) (n : Nat) : Option (Tk × Nat) :=
 if valN (l.take n) < 9223372036854775808 then some (⟨1, l.take n, valN (l.take n), 0⟩, n) else none
def nameF (l : List UInt8) (n : Nat) : Option (Tk × Nat) :=
 if 60 < n then none
 else if capB l then some (⟨3, l.take n, 0, 0⟩, n)
 else if kwB (l.take n) then some (⟨4, l.take n, 0, 0⟩, n)
 else if preB [33] (l.drop n) then some (⟨6, l.take n, 0, 0⟩, n + 1)
 else some (⟨2, l.take n, 0, 0⟩, n)

def skipN : Bool → List UInt8 → Nat
 | _, [] => 0
 | true, c :: r => if c.toNat = 10 then 1 + skipN false r else 1 + skipN true r
 | false, c :: r => if c.toNat = 32 ∨ c.toNat = 9 ∨ c.toNat = 13 ∨ c.toNat = 10 then 1 + skipN false r else if c.toNat = 35 then 1 + skipN true r else 0
def noLf (c : UInt8) : Bool := !(c.toNat == 10)

end Lx
end Go.Proofs.YtmodmojocclmaaaGreatDoor

/- Contracts of the small functions of package lex. -/
namespace Go.Proofs.YtmodmojocclmaaaGreatDoor
open Go.RowKit

theorem drop_two (s : ByteArray) (k : Nat) (h : k + 1 < s.size) : s.data.toList.drop k = s[k] :: s[k+1] :: s.data.toList.drop (k + 2) := by
 have h1 : k + 1 < s.data.toList.length := by simpa using h
 rw [List.drop_eq_getElem_cons (by omega), List.drop_eq_getElem_cons h1]
 rfl

theorem inB_hit (s : ByteArray) (k : Nat) (c : UInt8) (h : k + 1 < s.size) (h1 : s[k].toNat ≤ c.toNat) (h2 : c.toNat ≤ s[k+1].toNat) : Lx.inB (s.data.toList.drop k) c = true := by
 rw [drop_two s k h]; simp [Lx.inB, h1, h2]
theorem inB_miss (s : ByteArray) (k : Nat) (c : UInt8) (h : k + 1 < s.size) (h1 : ¬ (s[k].toNat ≤ c.toNat ∧ c.toNat ≤ s[k+1].toNat)) : Lx.inB (s.data.toList.drop k) c = Lx.inB (s.data.toList.drop (k + 2)) c := by
 rw [drop_two s k h]
 simp only [Lx.inB]
 have h2 : (decide (s[k].toNat ≤ c.toNat) && decide (c.toNat ≤ s[k+1].toNat)) = false := by
  rw [Bool.eq_false_iff]; intro h; simp at h; exact h1 h
 rw [h2]; rfl
theorem inB_end (l : List UInt8) (c : UInt8) (h : l.length ≤ 1) : Lx.inB l c = false := by
 match l, h with
 | [], _ => rfl
 | [_], _ => rfl
theorem ret_bool {a b : Bool} (h : a = b) : Ending.returned (.bool a) = .returned (.bool b) := by rw [h]
theorem ret_int {k : IntKind} {a b : Int} (h : a = b) : Ending.returned (.int k a) = .returned (.int k b) := by rw [h]

set_option maxHeartbeats 400000 in
theorem within1_any (c : UInt8) (s : ByteArray) (p : Addr) (w : World) (hc : w.cell? p = some (.string s)) (hs : s.size ≤ 1000) :
  Calls Tryz.prog 90 #[.int .u8 (c.toNat : Int), .pointer (some p)] w fun e w' => e = .returned (.bool (Lx.inB s.data.toList c)) ∧ w = w' := by
 go_enter Tryz.func90, Tryz.ntmps90
 go_wp2
 go_loop [4] (fun i => ∃ k : Nat, k ≤ s.size + 1 ∧ i = .int .i64 k ∧ Lx.inB s.data.toList c = Lx.inB (s.data.toList.drop k) c) (fun i => s.size + 1 - (intOf i).toNat)
 case atStart => exact ⟨0, Nat.zero_le _, rfl, by simp⟩
 case round =>
  obtain ⟨k, hk, rfl, hr⟩ := hrel
  have HR := Lib.hid hr
  clear hr
  by_cases hlt : k + 1 < s.size
  ·have h0 : k < s.size := by omega
   go_wp2
   ·go_ret
    exact ⟨ret_bool (by rw [HR.out, inB_hit s k c hlt ‹_› ‹_›]), rfl⟩
   all_goals
    go_round
    case rel => exact ⟨k + 2, by omega, by go_num, by rw [HR.out]; exact inB_miss s k c hlt (by omega)⟩
    case measure => simp [intOf]; omega
  ·go_wp2
   go_ret
   exact ⟨ret_bool (by rw [HR.out, inB_end _ _ (by simp; omega)]), rfl⟩

theorem spanN_le (p : UInt8 → Bool) (l : List UInt8) : Lx.spanN p l ≤ l.length := by
 induction l with
 | nil => simp [Lx.spanN]
 | cons c r ih => simp only [Lx.spanN]; split <;> simp <;> omega
theorem drop_one (s : ByteArray) (k : Nat) (h : k < s.size) : s.data.toList.drop k = s[k] :: s.data.toList.drop (k + 1) := by
 rw [List.drop_eq_getElem_cons (by simpa using h)]
 rfl
theorem spanN_hit (s : ByteArray) (p : UInt8 → Bool) (k : Nat) (h : k < s.size) (h1 : p s[k] = true) : Lx.spanN p (s.data.toList.drop k) = Lx.spanN p (s.data.toList.drop (k + 1)) + 1 := by
 rw [drop_one s k h, Lx.spanN, if_pos h1]
theorem spanN_miss (s : ByteArray) (p : UInt8 → Bool) (k : Nat) (h : k < s.size) (h1 : p s[k] = false) : Lx.spanN p (s.data.toList.drop k) = 0 := by
 rw [drop_one s k h, Lx.spanN, h1]; rfl

set_option maxHeartbeats 400000 in
theorem span_any (s : ByteArray) (d : ByteArray) (p : Addr) (w : World) (hc : w.cell? p = some (.string d)) (hd : d.size ≤ 1000) (hs : s.size ≤ 140737488351232) :
  Calls Tryz.prog 66 #[.string s, .func (.func 90) #[] #[.pointer (some p)]] w fun e w' => e = .returned (.int .i64 (Lx.spanN (Lx.inB d.data.toList) s.data.toList : Nat)) ∧ w = w' := by
 go_enter Tryz.func66, Tryz.ntmps66
 go_wp2
 go_loop [5] (fun i => ∃ k : Nat, k ≤ s.size ∧ i = .int .i64 k ∧ Lx.spanN (Lx.inB d.data.toList) s.data.toList = k + Lx.spanN (Lx.inB d.data.toList) (s.data.toList.drop k)) (fun i => s.size - (intOf i).toNat)
 case atStart => exact ⟨0, Nat.zero_le _, rfl, by simp⟩
 case round =>
  obtain ⟨k, hk, rfl, hr⟩ := hrel
  have HR := Lib.hid hr
  clear hr
  by_cases hlt : k < s.size
  ·by_cases hb : Lx.inB d.data.toList s[k] = true
   ·have HB := Lib.hid hb
    clear hb
    go_wp2_with (go_at_call 90; refine (within1_any _ d p _ hc hd).mono ?_; rintro e w' ⟨rfl, rfl⟩; rw [HB.out])
    go_round
    case rel => exact ⟨k + 1, by omega, by go_num, by rw [HR.out, spanN_hit s _ k hlt HB.out]; omega⟩
    case measure => simp [intOf]; omega
   ·have HB := Lib.hid (Bool.eq_false_iff.2 hb)
    clear hb
    go_wp2_with (go_at_call 90; refine (within1_any _ d p _ hc hd).mono ?_; rintro e w' ⟨rfl, rfl⟩; rw [HB.out])
    go_ret
    exact ⟨ret_int (by rw [HR.out, spanN_miss s _ k hlt HB.out]; simp), rfl⟩
  ·go_wp2
   go_ret
   exact ⟨ret_int (by rw [HR.out, List.drop_of_length_le (by simp; omega)]; simp [Lx.spanN]), rfl⟩
end Go.Proofs.YtmodmojocclmaaaGreatDoor

/- A map of the call's own whose keys are pointers at cells: a set of addresses. -/
namespace Go.Proofs.YtmodmojocclmaaaGreatDoor.K
open Go Go.MapKept Go.ChangeMaps

def PtrSet (w : World) (z : Value) (b : Nat) (L : List Addr) : Prop :=
 ∃ es clock, w.heap[b]? = some (.map es clock) ∧ es.toList.map (fun e => (e.key, e.val)) = L.map (fun a => (Value.pointer (some a), z))
def AtCells (w : World) (a : Addr) : Prop := ∃ c t, w.heap[a.block]? = some (.cells c t (0, 0))

theorem PtrSet.made (w : World) (z : Value) : PtrSet (w.alloc (.map #[] 0)) z w.heap.size [] := ⟨#[], 0, (MapKept.heap_alloc w _).1, rfl⟩
theorem PtrSet.lt {w : World} {z : Value} {b : Nat} {L : List Addr} (h : PtrSet w z b L) : b < w.heap.size := by
 obtain ⟨es, clock, hb, _⟩ := h
 exact (Array.getElem?_eq_some_iff.1 hb).1
theorem PtrSet.keep {w w' : World} {z : Value} {b : Nat} {L : List Addr} (h : PtrSet w z b L) (hk : w'.heap[b]? = w.heap[b]?) : PtrSet w' z b L := by
 obtain ⟨es, clock, hb, he⟩ := h
 exact ⟨es, clock, hk.trans hb, he⟩
theorem AtCells.keep {w w' : World} {a : Addr} (h : AtCells w a) (hk : w'.heap[a.block]? = w.heap[a.block]?) : AtCells w' a := by
 obtain ⟨c, t, h⟩ := h
 exact ⟨c, t, hk.trans h⟩

section
variable {P : Program} {w : World} {kt te mt et : TypeId} {inf : TypeInfo} {z : Value}

theorem run_equal_ptr_same (hk : P.underlying kt = some (.pointer te)) (hte : P.info? te = some inf) (_hsz : inf.size ≠ 0) (a : Addr) : (Op.equal kt (.pointer (some a)) (.pointer (some a))).run P w = .ok true w := by
 have h : ∀ d, (Op.equalIn (d + 1) kt (.pointer (some a)) (.pointer (some a))).run P w = .ok true w := fun d => by
  simp [Op.equalIn, run_underlying hk, typeInfo, sizeOf, run_sameAddr_same, hte]
 exact h 9999
theorem run_equal_ptr_other (hk : P.underlying kt = some (.pointer te)) (hte : P.info? te = some inf) (hsz : inf.size ≠ 0) {a b : Addr} (hne : a ≠ b) (ha : AtCells w a) (hb : AtCells w b) : (Op.equal kt (.pointer (some a)) (.pointer (some b))).run P w = .ok false w := by
 obtain ⟨ca, ta, ha⟩ := ha
 obtain ⟨cb, tb, hb⟩ := hb
 have h : ∀ d, (Op.equalIn (d + 1) kt (.pointer (some a)) (.pointer (some b))).run P w = .ok false w := fun d => by
  simp [Op.equalIn, run_underlying hk, typeInfo, sizeOf, hte, hsz, run_sameAddr_other w hne ha hb]
 exact h 9999
theorem run_findAsking_ptr (hk : P.underlying kt = some (.pointer te)) (hte : P.info? te = some inf) (hsz : inf.size ≠ 0) (a : Addr) (ha : AtCells w a) : ∀ (es : List MapEntry) (L : List Addr) (i : Nat),
  es.map (fun e => (e.key, e.val)) = L.map (fun a => (Value.pointer (some a), z)) → (∀ x ∈ L, AtCells w x) →
  ∃ r, (Instr.findAsking kt (.pointer (some a)) es i).run P w = .ok r w ∧ ((a ∈ L ∧ ∃ j, r = some (j, z)) ∨ (a ∉ L ∧ r = none))
 | [], L, i, h, _ => by
  have hL : L = [] := by simpa using h.symm
  subst hL
  exact ⟨none, by simp [Instr.findAsking], .inr ⟨by simp, rfl⟩⟩
 | e :: es, [], i, h, _ => by simp at h
 | e :: es, x :: L, i, h, hL => by
  simp only [List.map_cons, List.cons.injEq, Prod.mk.injEq] at h
  obtain ⟨⟨h1, h2⟩, h3⟩ := h
  by_cases hx : a = x
  ·subst hx
   refine ⟨some (i, z), ?_, .inl ⟨by simp, _, rfl⟩⟩
   simp [Instr.findAsking, h1, h2, run_equal_ptr_same hk hte hsz, Result.andThen]
  ·obtain ⟨r, hr, hc⟩ := run_findAsking_ptr hk hte hsz a ha es L (i + 1) h3 (fun y hy => hL y (by simp [hy]))
   refine ⟨r, ?_, ?_⟩
   ·simp [Instr.findAsking, h1, run_equal_ptr_other hk hte hsz hx ha (hL x (by simp)), Result.andThen, hr]
   ·rcases hc with ⟨hc, hj⟩ | ⟨hc, hj⟩
    ·exact .inl ⟨by simp [hc], hj⟩
    ·exact .inr ⟨by simp [hc, hx], hj⟩
theorem run_findKey_ptr (hk : P.underlying kt = some (.pointer te)) (hte : P.info? te = some inf) (hsz : inf.size ≠ 0) (a : Addr) (ha : AtCells w a) (es : List MapEntry) (L : List Addr)
  (h : es.map (fun e => (e.key, e.val)) = L.map (fun a => (Value.pointer (some a), z))) (hL : ∀ x ∈ L, AtCells w x) :
  ∃ r, (Instr.findKey kt (.pointer (some a)) es).run P w = .ok r w ∧ ((a ∈ L ∧ ∃ j, r = some (j, z)) ∨ (a ∉ L ∧ r = none)) := by
 cases es with
 | nil =>
  have hL : L = [] := by simpa using h.symm
  subst hL
  exact ⟨none, by simp [Instr.findKey, run_underlying hk, Result.andThen, Instr.findNow], .inr ⟨by simp, rfl⟩⟩
 | cons e es =>
  obtain ⟨r, hr, hc⟩ := run_findAsking_ptr (z := z) hk hte hsz a ha (e :: es) L 0 h hL
  exact ⟨r, by simp [Instr.findKey, run_underlying hk, Result.andThen, Instr.findNow, Instr.sameNow, hr], hc⟩
theorem run_checkKey_ptr (hk : P.underlying kt = some (.pointer te)) (em : Bool) (n : Nat) (v : Value) : (Instr.checkKey em (n + 1) kt v).run P w = .ok () w := by
 unfold Instr.checkKey
 simp only [Sem.run_bind, run_underlying hk, Result.andThen]
 cases v <;> rfl

theorem PtrSet.lookup {b : Nat} {L : List Addr} (h : PtrSet w z b L) (hm : P.underlying mt = some (.map kt et)) (hk : P.underlying kt = some (.pointer te)) (hte : P.info? te = some inf) (hsz : inf.size ≠ 0)
  (hz : (zeroValue et).run P w = .ok z w) (a : Addr) (ha : AtCells w a) (hL : ∀ x ∈ L, AtCells w x) : (Instr.lookup mt (.map (some b)) (.pointer (some a)) true).run P w = .ok (.tuple #[z, .bool (decide (a ∈ L))]) w := by
 obtain ⟨es, clock, hb, he⟩ := h
 obtain ⟨r, hr, hc⟩ := run_findKey_ptr (z := z) hk hte hsz a ha es.toList L he hL
 rcases hc with ⟨hc, j, rfl⟩ | ⟨hc, rfl⟩
 ·simp [Instr.lookup, run_underlying hm, MapKept.run_getObj_map hb, Result.andThen, run_checkKey_ptr hk _ 9999, hr, hc]
 ·simp [Instr.lookup, run_underlying hm, MapKept.run_getObj_map hb, Result.andThen, run_checkKey_ptr hk _ 9999, hr, hc, hz]
theorem PtrSet.update {b : Nat} {L : List Addr} (h : PtrSet w z b L) (hm : P.underlying mt = some (.map kt et)) (hk : P.underlying kt = some (.pointer te)) (hte : P.info? te = some inf) (hsz : inf.size ≠ 0)
  (a : Addr) (ha : AtCells w a) (hL : ∀ x ∈ L, AtCells w x) (hn : a ∉ L) : ∃ w', (Instr.mapUpdate mt (.map (some b)) (.pointer (some a)) z).run P w = .ok () w' ∧ PtrSet w' z b (L ++ [a]) ∧ w.grownBy w' (some b) := by
 obtain ⟨es, clock, hb, he⟩ := h
 obtain ⟨r, hr, hc⟩ := run_findKey_ptr (z := z) hk hte hsz a ha es.toList L he hL
 rcases hc with ⟨hc, j, rfl⟩ | ⟨hc, rfl⟩
 ·exact absurd hc hn
 ·refine ⟨setBlock w b (.map (es.push ⟨.pointer (some a), z, clock⟩) (clock + 1)), ?_, ⟨_, _, heap_setBlock_same hb _, ?_⟩, ⟨rfl, rfl, rfl, by simp [setBlock], fun i _ hi => heap_setBlock_other hb _ (fun e => hi (by rw [e]))⟩⟩
  ·simp [Instr.mapUpdate, run_underlying hm, MapKept.run_getObj_map hb, run_checkKey_ptr hk _ 9999, hr, MapKept.run_setObj_map _ hb, Result.andThen, setBlock]
  ·simp [he]
end
end Go.Proofs.YtmodmojocclmaaaGreatDoor.K

/- Plain words of what parse does with a row of words; no program stands here. -/
namespace Go.Proofs.YtmodmojocclmaaaGreatDoor
namespace Pz
open Lx

abbrev Str := List UInt8

inductive Tm where
 | mk (k pos : Nat) (nm pm : Str) (n : Nat) (kids : List Tm) (arms : List (Str × List Str × Tm))

def Tm.pos : Tm → Nat | .mk _ p _ _ _ _ _ => p
def Tm.kids : Tm → List Tm | .mk _ _ _ _ _ k _ => k
def Tm.arms : Tm → List (Str × List Str × Tm) | .mk _ _ _ _ _ _ a => a
abbrev Arm := Str × List Str × Tm
def Tm.zero : Tm := .mk 0 0 [] [] 0 [] []

structure St where
 ws : List Tk
 wi : Nat
 at_ : Nat
 er : Nat

def whr (sz : Nat) (s : St) : Nat := match s.ws with | [] => sz | t :: _ => t.pos
def isOf (ks : List Nat) (s : St) : Bool := match s.ws with | [] => false | t :: _ => ks.contains t.k
def isT (ts : List Str) (s : St) : Bool := match s.ws with | [] => false | t :: _ => (t.k == 4 || t.k == 5) && ts.contains t.t
def hd (s : St) : Tk := match s.ws with | [] => ⟨0, [], 0, 0⟩ | t :: _ => t
def take (s : St) : St := { s with ws := s.ws.tail }
def fail (sz e : Nat) (s : St) : St := if s.er = 0 then { ws := [], wi := s.wi, at_ := whr sz s, er := e } else s
def must1 (sz : Nat) (t : Str) (s : St) : St := if isT [t] s then take s else fail sz 3 s
def must (sz : Nat) : List Str → St → St
 | [], s => s
 | t :: ts, s => must sz ts (must1 sz t s)
def name (sz : Nat) (ks : List Nat) (s : St) : Str × St := if isOf ks s then ((hd s).t, take s) else ([], fail sz 3 s)

def tFun : Str := [102, 117, 110]
def tLet : Str := [108, 101, 116]
def tRec : Str := [114, 101, 99]
def tIn : Str := [105, 110]
def tIf : Str := [105, 102]
def tThen : Str := [116, 104, 101, 110]
def tElse : Str := [101, 108, 115, 101]
def tMatch : Str := [109, 97, 116, 99, 104]
def tHandle : Str := [104, 97, 110, 100, 108, 101]
def tReturn : Str := [114, 101, 116, 117, 114, 110]
def tEffect : Str := [101, 102, 102, 101, 99, 116]
def tData : Str := [100, 97, 116, 97]
def tPrint : Str := [112, 114, 105, 110, 116]
def tRead : Str := [114, 101, 97, 100]
def tRef : Str := [114, 101, 102]
def tTrue : Str := [116, 114, 117, 101]
def tFalse : Str := [102, 97, 108, 115, 101]
def tInt : Str := [105, 110, 116]
def tBool : Str := [98, 111, 111, 108]
def tUnit : Str := [117, 110, 105, 116]
def tArrow : Str := [45, 62]
def tPut : Str := [58, 61]
def tOpen : Str := [40]
def tShut : Str := [41]
def tLb : Str := [123]
def tRb : Str := [125]
def tComma : Str := [44]
def tSemi : Str := [59]
def tColon : Str := [58]
def tEq : Str := [61]
def tPlus : Str := [43]
def tMinus : Str := [45]
def tStar : Str := [42]
def tSlash : Str := [47]
def tLess : Str := [60]
def tBang : Str := [33]

def more {α : Type} (item : St → α × St) (b : Str) : Nat → St → List α × St
 | 0, s => ([], s)
 | n + 1, s => if isT [b] s then ((item (take s)).1 :: (more item b n (item (take s)).2).1, (more item b n (item (take s)).2).2) else ([], s)
def list {α : Type} (sz : Nat) (item : St → α × St) (o b c : Str) (s : St) : List α × St :=
 let s1 := must1 sz o s
 if isT [c] s1 then ([], must1 sz c s1)
 else
  let x := item s1
  let xs := more item b x.2.ws.length x.2
  (x.1 :: xs.1, must1 sz c xs.2)

section
variable (sz : Nat) (ex : St → Tm × St)

def behind : List Str → St → List Tm × St
 | [], s => ([], s)
 | t :: ts, s => ((ex (must1 sz t s)).1 :: (behind ts (ex (must1 sz t s)).2).1, (behind ts (ex (must1 sz t s)).2).2)
def does (nm : Str) (vs : List Str) (s : St) : Arm × St := ((nm, vs, (ex (must1 sz tArrow s)).1), (ex (must1 sz tArrow s)).2)
def vars : Nat → St → List Str × St
 | 0, s => ([], s)
 | n + 1, s => if isOf [2] s then ((hd s).t :: (vars n (take s)).1, (vars n (take s)).2) else ([], s)
def way (s : St) : Arm × St :=
 let a := name sz [3] s
 let v := vars a.2.ws.length a.2
 does sz ex a.1 v.1 v.2
def ways (s : St) : List Arm × St := list sz (way sz ex) tLb tSemi tRb s
def clause (s : St) : Arm × St :=
 let a := name sz [2] s
 let b := name sz [2] a.2
 let c := name sz [2] b.2
 does sz ex a.1 [b.1, c.1] c.2
def clauses (s : St) : List Arm × St :=
 let s1 := must sz [tLb, tReturn] s
 let v := name sz [2] s1
 let r := does sz ex tReturn [v.1] v.2
 let m := more (clause sz ex) tSemi r.2.ws.length r.2
 (r.1 :: m.1, must1 sz tRb m.2)
def fields (s : St) : List Tm × St := if isT [tOpen] s then list sz ex tOpen tComma tShut s else ([], s)
def bracketed (a : Nat) (s : St) : Tm × St :=
 if isT [tShut] s then (.mk 4 a [] [] 0 [] [], take s) else ((ex s).1, must1 sz tShut (ex s).2)
def atom (s : St) : Option Tm × St :=
 let a := whr sz s
 if isOf [1] s then (some (.mk 2 a [] [] (hd s).n [] []), take s)
 else if isT [tTrue] s then (some (.mk 3 a [] [] 1 [] []), take s)
 else if isT [tFalse] s then (some (.mk 3 a [] [] 0 [] []), take s)
 else if isOf [2] s then (some (.mk 1 a (hd s).t [] 0 [] []), take s)
 else if isOf [3] s then (some (.mk 11 a (hd s).t [] 0 (fields sz ex (take s)).1 []), (fields sz ex (take s)).2)
 else if isT [tRead] s then (some (.mk 10 a tRead [] 0 [] []), must sz [tOpen, tShut] (take s))
 else if isT [tOpen] s then (some (bracketed sz ex a (take s)).1, (bracketed sz ex a (take s)).2)
 else (none, s)
def appMore : Nat → Tm → St → Tm × St
 | 0, f, s => (f, s)
 | n + 1, f, s => match atom sz ex s with
  | (none, s1) => (f, s1)
  | (some a, s1) => appMore n (.mk 6 f.pos [] [] 0 [f, a] []) s1
def app (s : St) : Tm × St := match atom sz ex s with
 | (none, s1) => (.zero, fail sz 3 s1)
 | (some f, s1) => appMore sz ex (s1.ws.length + 1) f s1
def pre (s : St) : Bool := isT [tPrint, tRef, tBang] s || isOf [6] s
def ahead : Nat → St → List Tk × St
 | 0, s => ([], s)
 | n + 1, s => if pre s then (hd s :: (ahead n (take s)).1, (ahead n (take s)).2) else ([], s)
def wrap (x : Tk) (t : Tm) : Tm := .mk (if x.k = 6 then 13 else 10) x.pos x.t [] 0 [t] []
def unary (s : St) : Tm × St :=
 let a := ahead s.ws.length s
 let t := app sz ex a.2
 (a.1.foldr wrap t.1, t.2)
end

section
variable (side : St → Tm × St)
def both (l : Tm) (s : St) : Tm × St := (.mk 10 l.pos (hd s).t [] 0 [l, (side (take s)).1] [], (side (take s)).2)
def once (ss : List Str) (s : St) : Tm × St := if isT ss (side s).2 then both side (side s).1 (side s).2 else side s
def oftenMore (ss : List Str) : Nat → Tm → St → Tm × St
 | 0, l, s => (l, s)
 | n + 1, l, s => if isT ss s then oftenMore ss n (both side l s).1 (both side l s).2 else (l, s)
def often (ss : List Str) (s : St) : Tm × St := oftenMore side ss (side s).2.ws.length (side s).1 (side s).2
end

section
variable (sz : Nat) (ex : St → Tm × St)
def prod (s : St) : Tm × St := often (unary sz ex) [tStar, tSlash] s
def sum (s : St) : Tm × St := often (prod sz ex) [tPlus, tMinus] s
def cmp (s : St) : Tm × St := once (sum sz ex) [tLess, tEq] s
def assign (s : St) : Tm × St := once (cmp sz ex) [tPut] s
def exprHere (s : St) : Tm × St :=
 let a := whr sz s
 if isT [tFun] s then
  let x := name sz [2] (take s)
  let k := behind sz ex [tArrow] x.2
  (.mk 5 a x.1 [] 0 k.1 [], k.2)
 else if isT [tLet] s then
  let x := name sz [2] (take s)
  let k := behind sz ex [tEq, tIn] x.2
  (.mk 7 a x.1 [] 0 k.1 [], k.2)
 else if isT [tRec] s then
  let x := name sz [2] (take s)
  let y := name sz [2] x.2
  let k := behind sz ex [tEq, tIn] y.2
  (.mk 8 a x.1 y.1 0 k.1 [], k.2)
 else if isT [tIf] s then
  let k := behind sz ex [tIf, tThen, tElse] s
  (.mk 9 a [] [] 0 k.1 [], k.2)
 else if isT [tMatch] s then
  let k := behind sz ex [tMatch] s
  let r := ways sz ex k.2
  (.mk 12 a [] [] 0 k.1 r.1, r.2)
 else if isT [tHandle] s then
  let x := name sz [3] (take s)
  let k := ex x.2
  let r := clauses sz ex k.2
  (.mk 14 a x.1 [] 0 [k.1] r.1, r.2)
 else assign sz ex s
def exprStep (s : St) : Tm × St :=
 if 200 < s.wi then (.zero, fail sz 6 s)
 else
  let r := exprHere sz ex { s with wi := s.wi + 1 }
  (r.1, { r.2 with wi := r.2.wi - 1 })
end
def expr (sz : Nat) : Nat → St → Tm × St
 | 0, s => (.zero, s)
 | n + 1, s => exprStep sz (expr sz n) s

abbrev Ty := Nat × Str
structure Sig where
 nm : Str
 arg : Ty
 res : Ty
abbrev Con := Str × List Ty
structure Prog where
 effs : List (Str × List Sig)
 dats : List (Str × List Con)
 body : Tm

def aType (s : St) : Option Ty × St :=
 if isT [tInt] s then (some (1, []), take s)
 else if isT [tBool] s then (some (2, []), take s)
 else if isT [tUnit] s then (some (3, []), take s)
 else if isOf [3] s then (some (4, (hd s).t), take s)
 else (none, s)
def mustType (sz : Nat) (s : St) : Ty × St := match aType s with
 | (some t, s1) => (t, s1)
 | (none, s1) => ((0, []), fail sz 3 s1)
def sig (sz : Nat) (s : St) : Sig × St :=
 let a := name sz [2] s
 let b := mustType sz (must1 sz tColon a.2)
 let c := mustType sz (must1 sz tArrow b.2)
 (⟨a.1, b.1, c.1⟩, c.2)
def conMore : Nat → St → List Ty × St
 | 0, s => ([], s)
 | n + 1, s => match aType s with
  | (none, s1) => ([], s1)
  | (some t, s1) => (t :: (conMore n s1).1, (conMore n s1).2)
def con (sz : Nat) (s : St) : Con × St :=
 let a := name sz [3] s
 let f := conMore (a.2.ws.length + 1) a.2
 ((a.1, f.1), f.2)
def effect (sz : Nat) (s : St) : (Str × List Sig) × St :=
 let a := name sz [3] s
 let l := list sz (sig sz) tLb tSemi tRb a.2
 ((a.1, l.1), l.2)
def data (sz : Nat) (s : St) : (Str × List Con) × St :=
 let a := name sz [3] s
 let l := list sz (con sz) tLb tSemi tRb a.2
 ((a.1, l.1), l.2)
def decls (sz : Nat) : Nat → List (Str × List Sig) → List (Str × List Con) → St → (List (Str × List Sig) × List (Str × List Con)) × St
 | 0, es, ds, s => ((es, ds), s)
 | n + 1, es, ds, s =>
  if isT [tEffect, tData] s then
   if isT [tEffect] s then decls sz n (es ++ [(effect sz (take s)).1]) ds (effect sz (take s)).2
   else decls sz n es (ds ++ [(data sz (must1 sz tData s)).1]) (data sz (must1 sz tData s)).2
  else ((es, ds), s)
def program (sz : Nat) (s : St) : Prog × St :=
 let d := decls sz s.ws.length [] [] s
 let b := expr sz (d.2.ws.length + 1) d.2
 (⟨d.1.1, d.1.2, b.1⟩, if 0 < b.2.ws.length then fail sz 3 b.2 else b.2)

mutual
def Tm.deep : Tm → Nat
 | .mk _ _ _ _ _ kids arms => 1 + max (deepL kids) (deepA arms)
def deepL : List Tm → Nat
 | [] => 0
 | t :: r => max t.deep (deepL r)
def deepA : List (Str × List Str × Tm) → Nat
 | [] => 0
 | a :: r => max a.2.2.deep (deepA r)
end
end Pz
end Go.Proofs.YtmodmojocclmaaaGreatDoor

/- Plain facts on Pz: no step makes words, or turns how deep the parser stands. -/
namespace Go.Proofs.YtmodmojocclmaaaGreatDoor
namespace Pz
open Lx

def Le (s s' : St) : Prop := s'.ws.length ≤ s.ws.length ∧ s'.wi = s.wi
theorem Le.refl (s : St) : Le s s := ⟨Nat.le_refl _, rfl⟩
theorem Le.trans {a b c : St} (h : Le a b) (k : Le b c) : Le a c := ⟨Nat.le_trans k.1 h.1, k.2.trans h.2⟩
theorem le_take (s : St) : Le s (take s) := ⟨by simp [take], rfl⟩
theorem le_fail (sz e : Nat) (s : St) : Le s (fail sz e s) := by
 unfold fail; split
 ·exact ⟨by simp, rfl⟩
 ·exact Le.refl _
theorem le_must1 (sz : Nat) (t : Str) (s : St) : Le s (must1 sz t s) := by
 unfold must1; split
 ·exact le_take _
 ·exact le_fail _ _ _
theorem le_must (sz : Nat) (ts : List Str) : ∀ s, Le s (must sz ts s) := by
 induction ts with
 | nil => exact Le.refl
 | cons t ts ih => intro s; exact (le_must1 sz t s).trans (ih _)
theorem isT_pos {ts : List Str} {s : St} (h : isT ts s = true) : 0 < s.ws.length := by
 unfold isT at h; split at h
 ·cases h
 ·rename_i heq; rw [heq]; simp
theorem isOf_pos {ks : List Nat} {s : St} (h : isOf ks s = true) : 0 < s.ws.length := by
 unfold isOf at h; split at h
 ·cases h
 ·rename_i heq; rw [heq]; simp
theorem take_lt {s : St} (h : 0 < s.ws.length) : (take s).ws.length + 1 = s.ws.length := by
 simp [take]; omega
theorem must1_lt {sz : Nat} {t : Str} {s : St} (h : isT [t] s = true) : (must1 sz t s).ws.length + 1 = s.ws.length := by
 unfold must1; rw [if_pos h]; exact take_lt (isT_pos h)
def Nice {α : Type} (f : St → α × St) : Prop := ∀ s, Le s (f s).2
theorem nice_name (sz : Nat) (ks : List Nat) : Nice (name sz ks) := by
 intro s; unfold name; split
 ·exact le_take _
 ·exact le_fail _ _ _
theorem nice_more {α : Type} {item : St → α × St} (hi : Nice item) (b : Str) : ∀ n, Nice (more item b n) := by
 intro n
 induction n with
 | zero => intro s; exact Le.refl _
 | succ n ih =>
  intro s; unfold more; split
  ·exact ((le_take s).trans (hi _)).trans (ih _)
  ·exact Le.refl _
theorem nice_list {α : Type} {item : St → α × St} (hi : Nice item) (sz : Nat) (o b c : Str) : Nice (list sz item o b c) := by
 intro s; unfold list; dsimp only; split
 ·exact (le_must1 _ _ _).trans (le_must1 _ _ _)
 ·exact (((le_must1 _ _ _).trans (hi _)).trans (nice_more hi b _ _)).trans (le_must1 _ _ _)

section
variable {sz : Nat} {ex : St → Tm × St} (hx : Nice ex)
include hx
theorem nice_behind : ∀ ts, Nice (behind sz ex ts) := by
 intro ts
 induction ts with
 | nil => intro s; exact Le.refl _
 | cons t ts ih => intro s; exact ((le_must1 _ _ _).trans (hx _)).trans (ih _)
theorem nice_does (nm : Str) (vs : List Str) : Nice (does sz ex nm vs) := fun _ => (le_must1 _ _ _).trans (hx _)
omit hx in
theorem nice_vars : ∀ n, Nice (vars n) := by
 intro n
 induction n with
 | zero => intro s; exact Le.refl _
 | succ n ih =>
  intro s; unfold vars; split
  ·exact (le_take s).trans (ih _)
  ·exact Le.refl _
theorem nice_way : Nice (way sz ex) := fun s => ((nice_name sz [3] s).trans (nice_vars _ _)).trans (nice_does hx _ _ _)
theorem nice_ways : Nice (ways sz ex) := nice_list (nice_way hx) _ _ _ _
theorem nice_clause : Nice (clause sz ex) := fun s => (((nice_name sz [2] s).trans (nice_name sz [2] _)).trans (nice_name sz [2] _)).trans (nice_does hx _ _ _)
theorem nice_clauses : Nice (clauses sz ex) := fun s => ((((le_must sz _ s).trans (nice_name sz [2] _)).trans (nice_does hx _ _ _)).trans (nice_more (nice_clause hx) _ _ _)).trans (le_must1 _ _ _)
theorem nice_fields : Nice (fields sz ex) := by
 intro s; unfold fields; split
 ·exact nice_list hx _ _ _ _ _
 ·exact Le.refl _
theorem nice_bracketed (a : Nat) : Nice (bracketed sz ex a) := by
 intro s; unfold bracketed; split
 ·exact le_take _
 ·exact (hx _).trans (le_must1 _ _ _)
theorem nice_atom : Nice (atom sz ex) := by
 intro s; unfold atom; dsimp only
 repeat' split
 all_goals first | exact le_take _ | exact (le_take _).trans (nice_fields hx _) | exact (le_take _).trans (le_must _ _ _) | exact (le_take _).trans (nice_bracketed hx _ _) | exact Le.refl _
omit hx in
theorem atom_none {s : St} {s1 : St} (h : atom sz ex s = (none, s1)) : s1 = s := by
 unfold atom at h; dsimp only at h
 repeat' split at h
 all_goals first | (injection h with h1 h2; cases h1; done) | (injection h with h1 h2; exact h2.symm)
theorem atom_some {s : St} {a : Tm} {s1 : St} (h : atom sz ex s = (some a, s1)) : s1.ws.length + 1 ≤ s.ws.length := by
 unfold atom at h; dsimp only at h
 repeat' split at h
 all_goals (injection h with h1 h2)
 all_goals (try cases h1)
 all_goals subst h2
 all_goals (first | (have hp := isOf_pos ‹isOf _ s = true›; have ht := take_lt hp) | (have hp := isT_pos ‹isT _ s = true›; have ht := take_lt hp))
 all_goals first | omega | (have := (nice_fields (sz := sz) hx (take s)).1; omega) | (have := (le_must sz [tOpen, tShut] (take s)).1; omega) | (have := (nice_bracketed (sz := sz) hx (whr sz s) (take s)).1; omega)
theorem nice_appMore : ∀ n f, Nice (appMore sz ex n f) := by
 intro n
 induction n with
 | zero => intro f s; exact Le.refl _
 | succ n ih =>
  intro f s; unfold appMore
  have ha := nice_atom (sz := sz) hx s
  split
  ·rename_i s1 heq; rw [heq] at ha; exact ha
  ·rename_i a s1 heq; rw [heq] at ha; exact ha.trans (ih _ _)
theorem nice_app : Nice (app sz ex) := by
 intro s; unfold app
 have ha := nice_atom (sz := sz) hx s
 split
 ·rename_i s1 heq; rw [heq] at ha; exact ha.trans (le_fail _ _ _)
 ·rename_i a s1 heq; rw [heq] at ha; exact ha.trans (nice_appMore hx _ _ _)
omit hx in
theorem nice_ahead : ∀ n, Nice (ahead n) := by
 intro n
 induction n with
 | zero => intro s; exact Le.refl _
 | succ n ih =>
  intro s; unfold ahead; split
  ·exact (le_take s).trans (ih _)
  ·exact Le.refl _
theorem nice_unary : Nice (unary sz ex) := fun s => (nice_ahead _ s).trans (nice_app hx _)
omit hx in
theorem nice_both {side : St → Tm × St} (hs : Nice side) (l : Tm) : Nice (both side l) := fun s => (le_take s).trans (hs _)
omit hx in
theorem nice_once {side : St → Tm × St} (hs : Nice side) (ss : List Str) : Nice (once side ss) := by
 intro s; unfold once; split
 ·exact (hs s).trans (nice_both hs _ _)
 ·exact hs s
omit hx in
theorem nice_oftenMore {side : St → Tm × St} (hs : Nice side) (ss : List Str) : ∀ n l, Nice (oftenMore side ss n l) := by
 intro n
 induction n with
 | zero => intro l s; exact Le.refl _
 | succ n ih =>
  intro l s; unfold oftenMore; split
  ·exact (nice_both hs l s).trans (ih _ _)
  ·exact Le.refl _
omit hx in
theorem nice_often {side : St → Tm × St} (hs : Nice side) (ss : List Str) : Nice (often side ss) := fun s => (hs s).trans (nice_oftenMore hs ss _ _ _)
theorem nice_prod : Nice (prod sz ex) := nice_often (nice_unary hx) _
theorem nice_sum : Nice (sum sz ex) := nice_often (nice_prod hx) _
theorem nice_cmp : Nice (cmp sz ex) := nice_once (nice_sum hx) _
theorem nice_assign : Nice (assign sz ex) := nice_once (nice_cmp hx) _
theorem nice_exprHere : Nice (exprHere sz ex) := by
 intro s; unfold exprHere; dsimp only
 repeat' split
 ·exact ((le_take s).trans (nice_name _ _ _)).trans (nice_behind hx _ _)
 ·exact ((le_take s).trans (nice_name _ _ _)).trans (nice_behind hx _ _)
 ·exact (((le_take s).trans (nice_name _ _ _)).trans (nice_name _ _ _)).trans (nice_behind hx _ _)
 ·exact nice_behind hx _ _
 ·exact (nice_behind hx _ _).trans (nice_ways hx _)
 ·exact (((le_take s).trans (nice_name _ _ _)).trans (hx _)).trans (nice_clauses hx _)
 ·exact nice_assign hx _
theorem nice_exprStep : Nice (exprStep sz ex) := by
 intro s; unfold exprStep; dsimp only; split
 ·exact le_fail _ _ _
 ·have h := nice_exprHere (sz := sz) hx { s with wi := s.wi + 1 }
  exact ⟨h.1, by have := h.2; simp only at this ⊢; omega⟩
end
theorem nice_expr (sz : Nat) : ∀ n, Nice (expr sz n) := by
 intro n
 induction n with
 | zero => intro s; exact Le.refl _
 | succ n ih => exact nice_exprStep ih
theorem aType_le (s : St) : Le s (aType s).2 := by
 unfold aType
 repeat' split
 all_goals first | exact le_take _ | exact Le.refl _
theorem nice_mustType (sz : Nat) : Nice (mustType sz) := by
 intro s; unfold mustType
 have ha := aType_le s
 split
 ·rename_i heq; rw [heq] at ha; exact ha
 ·rename_i heq; rw [heq] at ha; exact ha.trans (le_fail _ _ _)
theorem nice_sig (sz : Nat) : Nice (sig sz) := fun s => ((((nice_name sz [2] s).trans (le_must1 _ _ _)).trans (nice_mustType _ _)).trans (le_must1 _ _ _)).trans (nice_mustType _ _)
theorem nice_conMore : ∀ n, Nice (conMore n) := by
 intro n
 induction n with
 | zero => intro s; exact Le.refl _
 | succ n ih =>
  intro s; unfold conMore
  have ha := aType_le s
  split
  ·rename_i heq; rw [heq] at ha; exact ha
  ·rename_i heq; rw [heq] at ha; exact ha.trans (ih _)
theorem nice_con (sz : Nat) : Nice (con sz) := fun s => (nice_name sz [3] s).trans (nice_conMore _ _)
theorem nice_effect (sz : Nat) : Nice (effect sz) := fun s => (nice_name sz [3] s).trans (nice_list (nice_sig sz) _ _ _ _ _)
theorem nice_data (sz : Nat) : Nice (data sz) := fun s => (nice_name sz [3] s).trans (nice_list (nice_con sz) _ _ _ _ _)
end Pz
end Go.Proofs.YtmodmojocclmaaaGreatDoor

/- Plain facts on Pz: how much fuel there is does not matter, if it is enough. -/
namespace Go.Proofs.YtmodmojocclmaaaGreatDoor
namespace Pz
open Lx

theorem isT_none {ts : List Str} {s : St} (h : s.ws.length = 0) : isT ts s = false := by
 cases h1 : isT ts s with
 | false => rfl
 | true => have := isT_pos h1; omega
theorem isOf_none {ts : List Nat} {s : St} (h : s.ws.length = 0) : isOf ts s = false := by
 cases h1 : isOf ts s with
 | false => rfl
 | true => have := isOf_pos h1; omega
theorem pre_none {s : St} (h : s.ws.length = 0) : pre s = false := by unfold pre; rw [isT_none h, isOf_none h]; rfl
theorem pre_pos {s : St} (h : pre s = true) : 0 < s.ws.length := by
 rcases Nat.eq_zero_or_pos s.ws.length with h1 | h1
 ·rw [pre_none h1] at h; cases h
 ·exact h1

theorem more_fuel {α : Type} {item : St → α × St} (hi : Nice item) (b : Str) : ∀ n m s, s.ws.length ≤ n → s.ws.length ≤ m → more item b n s = more item b m s := by
 intro n
 induction n with
 | zero =>
  intro m s h1 h2
  cases m with
  | zero => rfl
  | succ m => unfold more; rw [if_neg (by rw [isT_none (by omega)]; decide)]
 | succ n ih =>
  intro m s h1 h2
  cases m with
  | zero => unfold more; rw [if_neg (by rw [isT_none (by omega)]; decide)]
  | succ m =>
   unfold more
   split
   ·rename_i h
    have h3 := take_lt (isT_pos h)
    have h4 := (hi (take s)).1
    rw [ih m _ (by omega) (by omega)]
   ·rfl
theorem vars_fuel : ∀ n m s, s.ws.length ≤ n → s.ws.length ≤ m → vars n s = vars m s := by
 intro n
 induction n with
 | zero =>
  intro m s h1 h2
  cases m with
  | zero => rfl
  | succ m => unfold vars; rw [if_neg (by rw [isOf_none (by omega)]; decide)]
 | succ n ih =>
  intro m s h1 h2
  cases m with
  | zero => unfold vars; rw [if_neg (by rw [isOf_none (by omega)]; decide)]
  | succ m =>
   unfold vars
   split
   ·rename_i h
    have h3 := take_lt (isOf_pos h)
    rw [ih m _ (by omega) (by omega)]
   ·rfl
theorem ahead_fuel : ∀ n m s, s.ws.length ≤ n → s.ws.length ≤ m → ahead n s = ahead m s := by
 intro n
 induction n with
 | zero =>
  intro m s h1 h2
  cases m with
  | zero => rfl
  | succ m => unfold ahead; rw [if_neg (by rw [pre_none (by omega)]; decide)]
 | succ n ih =>
  intro m s h1 h2
  cases m with
  | zero => unfold ahead; rw [if_neg (by rw [pre_none (by omega)]; decide)]
  | succ m =>
   unfold ahead
   split
   ·rename_i h
    have h3 := take_lt (pre_pos h)
    rw [ih m _ (by omega) (by omega)]
   ·rfl
theorem oftenMore_fuel {side : St → Tm × St} (hs : Nice side) (ss : List Str) : ∀ n m l s, s.ws.length ≤ n → s.ws.length ≤ m → oftenMore side ss n l s = oftenMore side ss m l s := by
 intro n
 induction n with
 | zero =>
  intro m l s h1 h2
  cases m with
  | zero => rfl
  | succ m => unfold oftenMore; rw [if_neg (by rw [isT_none (by omega)]; decide)]
 | succ n ih =>
  intro m l s h1 h2
  cases m with
  | zero => unfold oftenMore; rw [if_neg (by rw [isT_none (by omega)]; decide)]
  | succ m =>
   unfold oftenMore
   split
   ·rename_i h
    have h3 := take_lt (isT_pos h)
    have h4 := (hs (take s)).1
    exact ih m _ _ (by unfold both; dsimp only; omega) (by unfold both; dsimp only; omega)
   ·rfl
section
variable {sz : Nat} {ex : St → Tm × St} (hx : Nice ex)
include hx
theorem appMore_fuel : ∀ n m f s, s.ws.length < n → s.ws.length < m → appMore sz ex n f s = appMore sz ex m f s := by
 intro n
 induction n with
 | zero => intro m f s h1 _; omega
 | succ n ih =>
  intro m f s h1 h2
  cases m with
  | zero => omega
  | succ m =>
   unfold appMore
   split
   ·rfl
   ·rename_i heq
    have h3 := atom_some hx heq
    exact ih m _ _ (by omega) (by omega)
end
def Agr {α : Type} (n : Nat) (f g : St → α × St) : Prop := ∀ s, s.ws.length < n → f s = g s
section
variable {sz n : Nat} {ex ey : St → Tm × St} (hx : Nice ex) (h : Agr n ex ey)
include hx h
omit hx h in
omit hx h in
omit hx h in
omit hx h in
end
end Pz
end Go.Proofs.YtmodmojocclmaaaGreatDoor

/- A map of the call's own whose keys are pointers at cells: a set of addresses. -/
namespace Go.Proofs.YtmodmojocclmaaaGreatDoor
open Go Go.MapKept Go.ChangeMaps

def PtrSet (w : World) (z : Value) (b : Nat) (L : List Addr) : Prop :=
 ∃ es clock, w.heap[b]? = some (.map es clock) ∧ es.toList.map (fun e => (e.key, e.val)) = L.map (fun a => (Value.pointer (some a), z))
def AtCells (w : World) (a : Addr) : Prop := ∃ c t, w.heap[a.block]? = some (.cells c t (0, 0))

theorem PtrSet.made (w : World) (z : Value) : PtrSet (w.alloc (.map #[] 0)) z w.heap.size [] := ⟨#[], 0, (MapKept.heap_alloc w _).1, rfl⟩
theorem PtrSet.lt {w : World} {z : Value} {b : Nat} {L : List Addr} (h : PtrSet w z b L) : b < w.heap.size := by
 obtain ⟨es, clock, hb, _⟩ := h
 exact (Array.getElem?_eq_some_iff.1 hb).1
theorem PtrSet.keep {w w' : World} {z : Value} {b : Nat} {L : List Addr} (h : PtrSet w z b L) (hk : w'.heap[b]? = w.heap[b]?) : PtrSet w' z b L := by
 obtain ⟨es, clock, hb, he⟩ := h
 exact ⟨es, clock, hk.trans hb, he⟩
theorem AtCells.keep {w w' : World} {a : Addr} (h : AtCells w a) (hk : w'.heap[a.block]? = w.heap[a.block]?) : AtCells w' a := by
 obtain ⟨c, t, h⟩ := h
 exact ⟨c, t, hk.trans h⟩

section
variable {P : Program} {w : World} {kt te mt et : TypeId} {inf : TypeInfo} {z : Value}

theorem run_equal_ptr_same (hk : P.underlying kt = some (.pointer te)) (hte : P.info? te = some inf) (_hsz : inf.size ≠ 0) (a : Addr) : (Op.equal kt (.pointer (some a)) (.pointer (some a))).run P w = .ok true w := by
 have h : ∀ d, (Op.equalIn (d + 1) kt (.pointer (some a)) (.pointer (some a))).run P w = .ok true w := fun d => by
  simp [Op.equalIn, run_underlying hk, typeInfo, sizeOf, run_sameAddr_same, hte]
 exact h 9999
theorem run_equal_ptr_other (hk : P.underlying kt = some (.pointer te)) (hte : P.info? te = some inf) (hsz : inf.size ≠ 0) {a b : Addr} (hne : a ≠ b) (ha : AtCells w a) (hb : AtCells w b) : (Op.equal kt (.pointer (some a)) (.pointer (some b))).run P w = .ok false w := by
 obtain ⟨ca, ta, ha⟩ := ha
 obtain ⟨cb, tb, hb⟩ := hb
 have h : ∀ d, (Op.equalIn (d + 1) kt (.pointer (some a)) (.pointer (some b))).run P w = .ok false w := fun d => by
  simp [Op.equalIn, run_underlying hk, typeInfo, sizeOf, hte, hsz, run_sameAddr_other w hne ha hb]
 exact h 9999
theorem run_findAsking_ptr (hk : P.underlying kt = some (.pointer te)) (hte : P.info? te = some inf) (hsz : inf.size ≠ 0) (a : Addr) (ha : AtCells w a) : ∀ (es : List MapEntry) (L : List Addr) (i : Nat),
  es.map (fun e => (e.key, e.val)) = L.map (fun a => (Value.pointer (some a), z)) → (∀ x ∈ L, AtCells w x) →
  ∃ r, (Instr.findAsking kt (.pointer (some a)) es i).run P w = .ok r w ∧ ((a ∈ L ∧ ∃ j, r = some (j, z)) ∨ (a ∉ L ∧ r = none))
 | [], L, i, h, _ => by
  have hL : L = [] := by simpa using h.symm
  subst hL
  exact ⟨none, by simp [Instr.findAsking], .inr ⟨by simp, rfl⟩⟩
 | e :: es, [], i, h, _ => by simp at h
 | e :: es, x :: L, i, h, hL => by
  simp only [List.map_cons, List.cons.injEq, Prod.mk.injEq] at h
  obtain ⟨⟨h1, h2⟩, h3⟩ := h
  by_cases hx : a = x
  ·subst hx
   refine ⟨some (i, z), ?_, .inl ⟨by simp, _, rfl⟩⟩
   simp [Instr.findAsking, h1, h2, run_equal_ptr_same hk hte hsz, Result.andThen]
  ·obtain ⟨r, hr, hc⟩ := run_findAsking_ptr hk hte hsz a ha es L (i + 1) h3 (fun y hy => hL y (by simp [hy]))
   refine ⟨r, ?_, ?_⟩
   ·simp [Instr.findAsking, h1, run_equal_ptr_other hk hte hsz hx ha (hL x (by simp)), Result.andThen, hr]
   ·rcases hc with ⟨hc, hj⟩ | ⟨hc, hj⟩
    ·exact .inl ⟨by simp [hc], hj⟩
    ·exact .inr ⟨by simp [hc, hx], hj⟩
theorem run_findKey_ptr (hk : P.underlying kt = some (.pointer te)) (hte : P.info? te = some inf) (hsz : inf.size ≠ 0) (a : Addr) (ha : AtCells w a) (es : List MapEntry) (L : List Addr)
  (h : es.map (fun e => (e.key, e.val)) = L.map (fun a => (Value.pointer (some a), z))) (hL : ∀ x ∈ L, AtCells w x) :
  ∃ r, (Instr.findKey kt (.pointer (some a)) es).run P w = .ok r w ∧ ((a ∈ L ∧ ∃ j, r = some (j, z)) ∨ (a ∉ L ∧ r = none)) := by
 cases es with
 | nil =>
  have hL : L = [] := by simpa using h.symm
  subst hL
  exact ⟨none, by simp [Instr.findKey, run_underlying hk, Result.andThen, Instr.findNow], .inr ⟨by simp, rfl⟩⟩
 | cons e es =>
  obtain ⟨r, hr, hc⟩ := run_findAsking_ptr (z := z) hk hte hsz a ha (e :: es) L 0 h hL
  exact ⟨r, by simp [Instr.findKey, run_underlying hk, Result.andThen, Instr.findNow, Instr.sameNow, hr], hc⟩
theorem run_checkKey_ptr (hk : P.underlying kt = some (.pointer te)) (em : Bool) (n : Nat) (v : Value) : (Instr.checkKey em (n + 1) kt v).run P w = .ok () w := by
 unfold Instr.checkKey
 simp only [Sem.run_bind, run_underlying hk, Result.andThen]
 cases v <;> rfl

theorem PtrSet.lookup {b : Nat} {L : List Addr} (h : PtrSet w z b L) (hm : P.underlying mt = some (.map kt et)) (hk : P.underlying kt = some (.pointer te)) (hte : P.info? te = some inf) (hsz : inf.size ≠ 0)
  (hz : (zeroValue et).run P w = .ok z w) (a : Addr) (ha : AtCells w a) (hL : ∀ x ∈ L, AtCells w x) : (Instr.lookup mt (.map (some b)) (.pointer (some a)) true).run P w = .ok (.tuple #[z, .bool (decide (a ∈ L))]) w := by
 obtain ⟨es, clock, hb, he⟩ := h
 obtain ⟨r, hr, hc⟩ := run_findKey_ptr (z := z) hk hte hsz a ha es.toList L he hL
 rcases hc with ⟨hc, j, rfl⟩ | ⟨hc, rfl⟩
 ·simp [Instr.lookup, run_underlying hm, MapKept.run_getObj_map hb, Result.andThen, run_checkKey_ptr hk _ 9999, hr, hc]
 ·simp [Instr.lookup, run_underlying hm, MapKept.run_getObj_map hb, Result.andThen, run_checkKey_ptr hk _ 9999, hr, hc, hz]
theorem PtrSet.update {b : Nat} {L : List Addr} (h : PtrSet w z b L) (hm : P.underlying mt = some (.map kt et)) (hk : P.underlying kt = some (.pointer te)) (hte : P.info? te = some inf) (hsz : inf.size ≠ 0)
  (a : Addr) (ha : AtCells w a) (hL : ∀ x ∈ L, AtCells w x) (hn : a ∉ L) : ∃ w', (Instr.mapUpdate mt (.map (some b)) (.pointer (some a)) z).run P w = .ok () w' ∧ PtrSet w' z b (L ++ [a]) ∧ w.grownBy w' (some b) := by
 obtain ⟨es, clock, hb, he⟩ := h
 obtain ⟨r, hr, hc⟩ := run_findKey_ptr (z := z) hk hte hsz a ha es.toList L he hL
 rcases hc with ⟨hc, j, rfl⟩ | ⟨hc, rfl⟩
 ·exact absurd hc hn
 ·refine ⟨setBlock w b (.map (es.push ⟨.pointer (some a), z, clock⟩) (clock + 1)), ?_, ⟨_, _, heap_setBlock_same hb _, ?_⟩, ⟨rfl, rfl, rfl, by simp [setBlock], fun i _ hi => heap_setBlock_other hb _ (fun e => hi (by rw [e]))⟩⟩
  ·simp [Instr.mapUpdate, run_underlying hm, MapKept.run_getObj_map hb, run_checkKey_ptr hk _ 9999, hr, MapKept.run_setObj_map _ hb, Result.andThen, setBlock]
  ·simp [he]
end
theorem wpList_lookup_ptr {P : Program} (w : World) {ops : Array Oper} {rest : List Oper} {o : Oper} {a : Act} {Q : Exit → Act → World → Prop}
  (hg : o.guard = none) (m x : Operand) (t : TypeId) (hop : o.op = Op.lookup t m x true) {kt te et : TypeId} {inf : TypeInfo} {z : Value} {b : Nat} {L : List Addr}
  (hm : a.eval m = .map (some b)) (h : PtrSet w z b L) (hmt : P.underlying t = some (.map kt et)) (hk : P.underlying kt = some (.pointer te)) (hte : P.info? te = some inf) (hsz : inf.size ≠ 0)
  (hz : (zeroValue et).run P w = .ok z w) (d : Addr) (hx : a.eval x = .pointer (some d)) (hd : AtCells w d) (hL : ∀ x ∈ L, AtCells w x)
  (hK : wpList P ops Q rest (a.put o.dst (.tuple #[z, .bool (decide (d ∈ L))])) w) :
  wpList P ops Q (o :: rest) a w := by
 refine wpList_plain hg fun K' hK' => ?_
 have hrun := h.lookup hmt hk hte hsz hz d hd hL
 unfold Oper.wp
 simp [execOp, hop, hm, hx, hrun, Result.andThen]
 exact hK' _ _ hK
theorem wpList_update_ptr {P : Program} (w : World) {ops : Array Oper} {rest : List Oper} {o : Oper} {a : Act} {Q : Exit → Act → World → Prop}
  (hg : o.guard = none) (m x v : Operand) (t : TypeId) (hop : o.op = Op.mapUpdate t m x v) {kt te et : TypeId} {inf : TypeInfo} {z : Value} {b : Nat} {L : List Addr}
  (hm : a.eval m = .map (some b)) (h : PtrSet w z b L) (hmt : P.underlying t = some (.map kt et)) (hk : P.underlying kt = some (.pointer te)) (hte : P.info? te = some inf) (hsz : inf.size ≠ 0)
  (d : Addr) (hx : a.eval x = .pointer (some d)) (hv : a.eval v = z) (hd : AtCells w d) (hL : ∀ x ∈ L, AtCells w x) (hn : d ∉ L)
  (hK : ∀ w', PtrSet w' z b (L ++ [d]) → w.grownBy w' (some b) → wpList P ops Q rest (a.put o.dst undef) w') :
  wpList P ops Q (o :: rest) a w := by
 refine wpList_plain hg fun K' hK' => ?_
 obtain ⟨w', hrun, r1, r2⟩ := h.update hmt hk hte hsz d hd hL hn
 unfold Oper.wp
 simp [execOp, hop, hm, hx, hv, hrun, Result.andThen]
 exact hK' _ _ (hK w' r1 r2)
end Go.Proofs.YtmodmojocclmaaaGreatDoor
