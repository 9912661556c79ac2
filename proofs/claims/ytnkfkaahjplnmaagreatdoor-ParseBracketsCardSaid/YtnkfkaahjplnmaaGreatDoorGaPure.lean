/- Plain words of what lex does: the words of a list of bytes; no program stands here. -/
import Derived.Lib.Strings
namespace Go.Proofs.YtnkfkaahjplnmaaGreatDoor
namespace Lx

/-- Does a byte lie in one of some ranges, each told by its two ends? -/
def inB : List UInt8 → UInt8 → Bool
  | a :: b :: r, c => (decide (a.toNat ≤ c.toNat) && decide (c.toNat ≤ b.toNat)) || inB r c
  | _, _ => false

def spanN (p : UInt8 → Bool) : List UInt8 → Nat
  | [] => 0
  | c :: r => if p c then spanN p r + 1 else 0

/-- Is it a keyword? -/
def kwB (l : List UInt8) : Bool := l == [102, 117, 110] || l == [108, 101, 116] || l == [105, 110] || l == [114, 101, 99] || l == [105, 102] || l == [116, 104, 101, 110] || l == [101, 108, 115, 101] || l == [109, 97, 116, 99, 104] || l == [104, 97, 110, 100, 108, 101] || l == [114, 101, 116, 117, 114, 110] || l == [101, 102, 102, 101, 99, 116] || l == [100, 97, 116, 97] || l == [112, 114, 105, 110, 116] || l == [114, 101, 97, 100] || l == [114, 101, 102] || l == [116, 114, 117, 101] || l == [102, 97, 108, 115, 101] || l == [105, 110, 116] || l == [98, 111, 111, 108] || l == [117, 110, 105, 116]

/-- Does a text begin with another one? -/
def preB (d s : List UInt8) : Bool := d.isPrefixOf s

/-- A word: its kind, its bytes, its value, where it begins. -/
structure Tk where
  k : Nat
  t : List UInt8
  n : Nat
  pos : Nat

def digs : List UInt8 := [48, 57]
def lets : List UInt8 := [65, 90, 97, 122, 95, 95]
def inss : List UInt8 := [65, 90, 97, 122, 95, 95, 48, 57]
def valN (l : List UInt8) : Nat := l.foldl (fun a c => a * 10 + (c.toNat - 48)) 0
def capB : List UInt8 → Bool
  | c :: _ => decide (65 ≤ c.toNat) && decide (c.toNat ≤ 90)
  | [] => false
def numF (l : List UInt8) (n : Nat) : Option (Tk × Nat) :=
  if valN (l.take n) < 9223372036854775808 then some (⟨1, l.take n, valN (l.take n), 0⟩, n) else none
def nameF (l : List UInt8) (n : Nat) : Option (Tk × Nat) :=
  if 60 < n then none
  else if capB l then some (⟨3, l.take n, 0, 0⟩, n)
  else if kwB (l.take n) then some (⟨4, l.take n, 0, 0⟩, n)
  else if preB [33] (l.drop n) then some (⟨6, l.take n, 0, 0⟩, n + 1)
  else some (⟨2, l.take n, 0, 0⟩, n)

/-- How many bytes of blanks and notes stand at the beginning; true: within a note. -/
def skipN : Bool → List UInt8 → Nat
  | _, [] => 0
  | true, c :: r => if c.toNat = 10 then 1 + skipN false r else 1 + skipN true r
  | false, c :: r => if c.toNat = 32 ∨ c.toNat = 9 ∨ c.toNat = 13 ∨ c.toNat = 10 then 1 + skipN false r else if c.toNat = 35 then 1 + skipN true r else 0
def noLf (c : UInt8) : Bool := !(c.toNat == 10)

end Lx
end Go.Proofs.YtnkfkaahjplnmaaGreatDoor

/- Plain words of what parse does with a row of words; no program stands here. -/
namespace Go.Proofs.YtnkfkaahjplnmaaGreatDoor
namespace Pz
open Lx

abbrev Str := List UInt8

/-- A term: kind, where it begins, two names, a number, kids, arms (name, names, body). -/
inductive Tm where
  | mk (k pos : Nat) (nm pm : Str) (n : Nat) (kids : List Tm) (arms : List (Str × List Str × Tm))

def Tm.pos : Tm → Nat | .mk _ p _ _ _ _ _ => p
def Tm.kids : Tm → List Tm | .mk _ _ _ _ _ k _ => k
def Tm.arms : Tm → List (Str × List Str × Tm) | .mk _ _ _ _ _ _ a => a
abbrev Arm := Str × List Str × Tm
def Tm.zero : Tm := .mk 0 0 [] [] 0 [] []

/-- Where the parser is: the words left, how deep it stands, where it failed and how. -/
structure St where
  ws : List Tk
  wi : Nat
  at_ : Nat
  er : Nat

def whr (sz : Nat) (s : St) : Nat := match s.ws with | [] => sz | t :: _ => t.pos
def isOf (ks : List Nat) (s : St) : Bool := match s.ws with | [] => false | t :: _ => ks.contains t.k
def isT (ts : List Str) (s : St) : Bool := match s.ws with | [] => false | t :: _ => (t.k == 4 || t.k == 5) && ts.contains t.t
def hd (s : St) : Tk := match s.ws with | [] => ⟨0, [], 0, 0⟩ | t :: _ => t
def take (s : St) : St := { s with ws := s.ws.tail }
def fail (sz e : Nat) (s : St) : St := if s.er = 0 then { ws := [], wi := s.wi, at_ := whr sz s, er := e } else s
def must1 (sz : Nat) (t : Str) (s : St) : St := if isT [t] s then take s else fail sz 3 s
def must (sz : Nat) : List Str → St → St
  | [], s => s
  | t :: ts, s => must sz ts (must1 sz t s)
def name (sz : Nat) (ks : List Nat) (s : St) : Str × St := if isOf ks s then ((hd s).t, take s) else ([], fail sz 3 s)

def tFun : Str := [102, 117, 110]
def tLet : Str := [108, 101, 116]
def tRec : Str := [114, 101, 99]
def tIn : Str := [105, 110]
def tIf : Str := [105, 102]
def tThen : Str := [116, 104, 101, 110]
def tElse : Str := [101, 108, 115, 101]
def tMatch : Str := [109, 97, 116, 99, 104]
def tHandle : Str := [104, 97, 110, 100, 108, 101]
def tReturn : Str := [114, 101, 116, 117, 114, 110]
def tEffect : Str := [101, 102, 102, 101, 99, 116]
def tData : Str := [100, 97, 116, 97]
def tPrint : Str := [112, 114, 105, 110, 116]
def tRead : Str := [114, 101, 97, 100]
def tRef : Str := [114, 101, 102]
def tTrue : Str := [116, 114, 117, 101]
def tFalse : Str := [102, 97, 108, 115, 101]
def tInt : Str := [105, 110, 116]
def tBool : Str := [98, 111, 111, 108]
def tUnit : Str := [117, 110, 105, 116]
def tArrow : Str := [45, 62]
def tPut : Str := [58, 61]
def tOpen : Str := [40]
def tShut : Str := [41]
def tLb : Str := [123]
def tRb : Str := [125]
def tComma : Str := [44]
def tSemi : Str := [59]
def tColon : Str := [58]
def tEq : Str := [61]
def tPlus : Str := [43]
def tMinus : Str := [45]
def tStar : Str := [42]
def tSlash : Str := [47]
def tLess : Str := [60]
def tBang : Str := [33]

/-- Items, each behind a sign; at most n of them. -/
def more {α : Type} (item : St → α × St) (b : Str) : Nat → St → List α × St
  | 0, s => ([], s)
  | n + 1, s => if isT [b] s then ((item (take s)).1 :: (more item b n (item (take s)).2).1, (more item b n (item (take s)).2).2) else ([], s)
def list {α : Type} (sz : Nat) (item : St → α × St) (o b c : Str) (s : St) : List α × St :=
  let s1 := must1 sz o s
  if isT [c] s1 then ([], must1 sz c s1)
  else
    let x := item s1
    let xs := more item b x.2.ws.length x.2
    (x.1 :: xs.1, must1 sz c xs.2)

section
variable (sz : Nat) (ex : St → Tm × St)

def behind : List Str → St → List Tm × St
  | [], s => ([], s)
  | t :: ts, s => ((ex (must1 sz t s)).1 :: (behind ts (ex (must1 sz t s)).2).1, (behind ts (ex (must1 sz t s)).2).2)
def does (nm : Str) (vs : List Str) (s : St) : Arm × St := ((nm, vs, (ex (must1 sz tArrow s)).1), (ex (must1 sz tArrow s)).2)
def vars : Nat → St → List Str × St
  | 0, s => ([], s)
  | n + 1, s => if isOf [2] s then ((hd s).t :: (vars n (take s)).1, (vars n (take s)).2) else ([], s)
def way (s : St) : Arm × St :=
  let a := name sz [3] s
  let v := vars a.2.ws.length a.2
  does sz ex a.1 v.1 v.2
def ways (s : St) : List Arm × St := list sz (way sz ex) tLb tSemi tRb s
def clause (s : St) : Arm × St :=
  let a := name sz [2] s
  let b := name sz [2] a.2
  let c := name sz [2] b.2
  does sz ex a.1 [b.1, c.1] c.2
def clauses (s : St) : List Arm × St :=
  let s1 := must sz [tLb, tReturn] s
  let v := name sz [2] s1
  let r := does sz ex tReturn [v.1] v.2
  let m := more (clause sz ex) tSemi r.2.ws.length r.2
  (r.1 :: m.1, must1 sz tRb m.2)
def fields (s : St) : List Tm × St := if isT [tOpen] s then list sz ex tOpen tComma tShut s else ([], s)
def bracketed (a : Nat) (s : St) : Tm × St :=
  if isT [tShut] s then (.mk 4 a [] [] 0 [] [], take s) else ((ex s).1, must1 sz tShut (ex s).2)
/-- The atom that begins with the next word, if one does. -/
def atom (s : St) : Option Tm × St :=
  let a := whr sz s
  if isOf [1] s then (some (.mk 2 a [] [] (hd s).n [] []), take s)
  else if isT [tTrue] s then (some (.mk 3 a [] [] 1 [] []), take s)
  else if isT [tFalse] s then (some (.mk 3 a [] [] 0 [] []), take s)
  else if isOf [2] s then (some (.mk 1 a (hd s).t [] 0 [] []), take s)
  else if isOf [3] s then (some (.mk 11 a (hd s).t [] 0 (fields sz ex (take s)).1 []), (fields sz ex (take s)).2)
  else if isT [tRead] s then (some (.mk 10 a tRead [] 0 [] []), must sz [tOpen, tShut] (take s))
  else if isT [tOpen] s then (some (bracketed sz ex a (take s)).1, (bracketed sz ex a (take s)).2)
  else (none, s)
def appMore : Nat → Tm → St → Tm × St
  | 0, f, s => (f, s)
  | n + 1, f, s => match atom sz ex s with
    | (none, s1) => (f, s1)
    | (some a, s1) => appMore n (.mk 6 f.pos [] [] 0 [f, a] []) s1
def app (s : St) : Tm × St := match atom sz ex s with
  | (none, s1) => (.zero, fail sz 3 s1)
  | (some f, s1) => appMore sz ex (s1.ws.length + 1) f s1
def pre (s : St) : Bool := isT [tPrint, tRef, tBang] s || isOf [6] s
def ahead : Nat → St → List Tk × St
  | 0, s => ([], s)
  | n + 1, s => if pre s then (hd s :: (ahead n (take s)).1, (ahead n (take s)).2) else ([], s)
def wrap (x : Tk) (t : Tm) : Tm := .mk (if x.k = 6 then 13 else 10) x.pos x.t [] 0 [t] []
def unary (s : St) : Tm × St :=
  let a := ahead s.ws.length s
  let t := app sz ex a.2
  (a.1.foldr wrap t.1, t.2)
end

section
variable (side : St → Tm × St)
def both (l : Tm) (s : St) : Tm × St := (.mk 10 l.pos (hd s).t [] 0 [l, (side (take s)).1] [], (side (take s)).2)
def once (ss : List Str) (s : St) : Tm × St := if isT ss (side s).2 then both side (side s).1 (side s).2 else side s
def oftenMore (ss : List Str) : Nat → Tm → St → Tm × St
  | 0, l, s => (l, s)
  | n + 1, l, s => if isT ss s then oftenMore ss n (both side l s).1 (both side l s).2 else (l, s)
def often (ss : List Str) (s : St) : Tm × St := oftenMore side ss (side s).2.ws.length (side s).1 (side s).2
end

section
variable (sz : Nat) (ex : St → Tm × St)
def prod (s : St) : Tm × St := often (unary sz ex) [tStar, tSlash] s
def sum (s : St) : Tm × St := often (prod sz ex) [tPlus, tMinus] s
def cmp (s : St) : Tm × St := once (sum sz ex) [tLess, tEq] s
def assign (s : St) : Tm × St := once (cmp sz ex) [tPut] s
def exprHere (s : St) : Tm × St :=
  let a := whr sz s
  if isT [tFun] s then
    let x := name sz [2] (take s)
    let k := behind sz ex [tArrow] x.2
    (.mk 5 a x.1 [] 0 k.1 [], k.2)
  else if isT [tLet] s then
    let x := name sz [2] (take s)
    let k := behind sz ex [tEq, tIn] x.2
    (.mk 7 a x.1 [] 0 k.1 [], k.2)
  else if isT [tRec] s then
    let x := name sz [2] (take s)
    let y := name sz [2] x.2
    let k := behind sz ex [tEq, tIn] y.2
    (.mk 8 a x.1 y.1 0 k.1 [], k.2)
  else if isT [tIf] s then
    let k := behind sz ex [tIf, tThen, tElse] s
    (.mk 9 a [] [] 0 k.1 [], k.2)
  else if isT [tMatch] s then
    let k := behind sz ex [tMatch] s
    let r := ways sz ex k.2
    (.mk 12 a [] [] 0 k.1 r.1, r.2)
  else if isT [tHandle] s then
    let x := name sz [3] (take s)
    let k := ex x.2
    let r := clauses sz ex k.2
    (.mk 14 a x.1 [] 0 [k.1] r.1, r.2)
  else assign sz ex s
/-- An expr within others. -/
def exprStep (s : St) : Tm × St :=
  if 200 < s.wi then (.zero, fail sz 6 s)
  else
    let r := exprHere sz ex { s with wi := s.wi + 1 }
    (r.1, { r.2 with wi := r.2.wi - 1 })
end
/-- An expr of fewer than n words. -/
def expr (sz : Nat) : Nat → St → Tm × St
  | 0, s => (.zero, s)
  | n + 1, s => exprStep sz (expr sz n) s

/-- Types of declarations: kind and name. -/
abbrev Ty := Nat × Str
structure Sig where
  nm : Str
  arg : Ty
  res : Ty
abbrev Con := Str × List Ty
structure Prog where
  effs : List (Str × List Sig)
  dats : List (Str × List Con)
  body : Tm

def aType (s : St) : Option Ty × St :=
  if isT [tInt] s then (some (1, []), take s)
  else if isT [tBool] s then (some (2, []), take s)
  else if isT [tUnit] s then (some (3, []), take s)
  else if isOf [3] s then (some (4, (hd s).t), take s)
  else (none, s)
def mustType (sz : Nat) (s : St) : Ty × St := match aType s with
  | (some t, s1) => (t, s1)
  | (none, s1) => ((0, []), fail sz 3 s1)
def sig (sz : Nat) (s : St) : Sig × St :=
  let a := name sz [2] s
  let b := mustType sz (must1 sz tColon a.2)
  let c := mustType sz (must1 sz tArrow b.2)
  (⟨a.1, b.1, c.1⟩, c.2)
def conMore : Nat → St → List Ty × St
  | 0, s => ([], s)
  | n + 1, s => match aType s with
    | (none, s1) => ([], s1)
    | (some t, s1) => (t :: (conMore n s1).1, (conMore n s1).2)
def con (sz : Nat) (s : St) : Con × St :=
  let a := name sz [3] s
  let f := conMore (a.2.ws.length + 1) a.2
  ((a.1, f.1), f.2)
def effect (sz : Nat) (s : St) : (Str × List Sig) × St :=
  let a := name sz [3] s
  let l := list sz (sig sz) tLb tSemi tRb a.2
  ((a.1, l.1), l.2)
def data (sz : Nat) (s : St) : (Str × List Con) × St :=
  let a := name sz [3] s
  let l := list sz (con sz) tLb tSemi tRb a.2
  ((a.1, l.1), l.2)
def decls (sz : Nat) : Nat → List (Str × List Sig) → List (Str × List Con) → St → (List (Str × List Sig) × List (Str × List Con)) × St
  | 0, es, ds, s => ((es, ds), s)
  | n + 1, es, ds, s =>
    if isT [tEffect, tData] s then
      if isT [tEffect] s then decls sz n (es ++ [(effect sz (take s)).1]) ds (effect sz (take s)).2
      else decls sz n es (ds ++ [(data sz (must1 sz tData s)).1]) (data sz (must1 sz tData s)).2
    else ((es, ds), s)
def program (sz : Nat) (s : St) : Prog × St :=
  let d := decls sz s.ws.length [] [] s
  let b := expr sz (d.2.ws.length + 1) d.2
  (⟨d.1.1, d.1.2, b.1⟩, if 0 < b.2.ws.length then fail sz 3 b.2 else b.2)

mutual
/-- How deep a term is. -/
def Tm.deep : Tm → Nat
  | .mk _ _ _ _ _ kids arms => 1 + max (deepL kids) (deepA arms)
def deepL : List Tm → Nat
  | [] => 0
  | t :: r => max t.deep (deepL r)
def deepA : List (Str × List Str × Tm) → Nat
  | [] => 0
  | a :: r => max a.2.2.deep (deepA r)
end
end Pz
end Go.Proofs.YtnkfkaahjplnmaaGreatDoor

/- Plain facts on Pz: no step makes words, or turns how deep the parser stands. -/
namespace Go.Proofs.YtnkfkaahjplnmaaGreatDoor
namespace Pz
open Lx

def Le (s s' : St) : Prop := s'.ws.length ≤ s.ws.length ∧ s'.wi = s.wi
theorem Le.refl (s : St) : Le s s := ⟨Nat.le_refl _, rfl⟩
theorem Le.trans {a b c : St} (h : Le a b) (k : Le b c) : Le a c := ⟨Nat.le_trans k.1 h.1, k.2.trans h.2⟩
theorem le_take (s : St) : Le s (take s) := ⟨by simp [take], rfl⟩
theorem le_fail (sz e : Nat) (s : St) : Le s (fail sz e s) := by
  unfold fail; split
  · exact ⟨by simp, rfl⟩
  · exact Le.refl _
theorem le_must1 (sz : Nat) (t : Str) (s : St) : Le s (must1 sz t s) := by
  unfold must1; split
  · exact le_take _
  · exact le_fail _ _ _
theorem le_must (sz : Nat) (ts : List Str) : ∀ s, Le s (must sz ts s) := by
  induction ts with
  | nil => exact Le.refl
  | cons t ts ih => intro s; exact (le_must1 sz t s).trans (ih _)
theorem isT_pos {ts : List Str} {s : St} (h : isT ts s = true) : 0 < s.ws.length := by
  unfold isT at h; split at h
  · cases h
  · rename_i heq; rw [heq]; simp
theorem isOf_pos {ks : List Nat} {s : St} (h : isOf ks s = true) : 0 < s.ws.length := by
  unfold isOf at h; split at h
  · cases h
  · rename_i heq; rw [heq]; simp
theorem take_lt {s : St} (h : 0 < s.ws.length) : (take s).ws.length + 1 = s.ws.length := by
  simp [take]; omega
theorem must1_lt {sz : Nat} {t : Str} {s : St} (h : isT [t] s = true) : (must1 sz t s).ws.length + 1 = s.ws.length := by
  unfold must1; rw [if_pos h]; exact take_lt (isT_pos h)
theorem fail_nil {sz e : Nat} {s : St} (h : s.er = 0) : (fail sz e s).ws = [] := by unfold fail; rw [if_pos h]

def Nice {α : Type} (f : St → α × St) : Prop := ∀ s, Le s (f s).2
theorem nice_name (sz : Nat) (ks : List Nat) : Nice (name sz ks) := by
  intro s; unfold name; split
  · exact le_take _
  · exact le_fail _ _ _
theorem nice_more {α : Type} {item : St → α × St} (hi : Nice item) (b : Str) : ∀ n, Nice (more item b n) := by
  intro n
  induction n with
  | zero => intro s; exact Le.refl _
  | succ n ih =>
    intro s; unfold more; split
    · exact ((le_take s).trans (hi _)).trans (ih _)
    · exact Le.refl _
theorem nice_list {α : Type} {item : St → α × St} (hi : Nice item) (sz : Nat) (o b c : Str) : Nice (list sz item o b c) := by
  intro s; unfold list; dsimp only; split
  · exact (le_must1 _ _ _).trans (le_must1 _ _ _)
  · exact (((le_must1 _ _ _).trans (hi _)).trans (nice_more hi b _ _)).trans (le_must1 _ _ _)

section
variable {sz : Nat} {ex : St → Tm × St} (hx : Nice ex)
include hx
theorem nice_behind : ∀ ts, Nice (behind sz ex ts) := by
  intro ts
  induction ts with
  | nil => intro s; exact Le.refl _
  | cons t ts ih => intro s; exact ((le_must1 _ _ _).trans (hx _)).trans (ih _)
theorem nice_does (nm : Str) (vs : List Str) : Nice (does sz ex nm vs) := fun _ => (le_must1 _ _ _).trans (hx _)
omit hx in
theorem nice_vars : ∀ n, Nice (vars n) := by
  intro n
  induction n with
  | zero => intro s; exact Le.refl _
  | succ n ih =>
    intro s; unfold vars; split
    · exact (le_take s).trans (ih _)
    · exact Le.refl _
theorem nice_way : Nice (way sz ex) := fun s => ((nice_name sz [3] s).trans (nice_vars _ _)).trans (nice_does hx _ _ _)
theorem nice_ways : Nice (ways sz ex) := nice_list (nice_way hx) _ _ _ _
theorem nice_clause : Nice (clause sz ex) := fun s => (((nice_name sz [2] s).trans (nice_name sz [2] _)).trans (nice_name sz [2] _)).trans (nice_does hx _ _ _)
theorem nice_clauses : Nice (clauses sz ex) := fun s => ((((le_must sz _ s).trans (nice_name sz [2] _)).trans (nice_does hx _ _ _)).trans (nice_more (nice_clause hx) _ _ _)).trans (le_must1 _ _ _)
theorem nice_fields : Nice (fields sz ex) := by
  intro s; unfold fields; split
  · exact nice_list hx _ _ _ _ _
  · exact Le.refl _
theorem nice_bracketed (a : Nat) : Nice (bracketed sz ex a) := by
  intro s; unfold bracketed; split
  · exact le_take _
  · exact (hx _).trans (le_must1 _ _ _)
theorem nice_atom : Nice (atom sz ex) := by
  intro s; unfold atom; dsimp only
  repeat' split
  all_goals first | exact le_take _ | exact (le_take _).trans (nice_fields hx _) | exact (le_take _).trans (le_must _ _ _) | exact (le_take _).trans (nice_bracketed hx _ _) | exact Le.refl _
omit hx in
theorem atom_none {s : St} {s1 : St} (h : atom sz ex s = (none, s1)) : s1 = s := by
  unfold atom at h; dsimp only at h
  repeat' split at h
  all_goals first | (injection h with h1 h2; cases h1; done) | (injection h with h1 h2; exact h2.symm)
theorem atom_some {s : St} {a : Tm} {s1 : St} (h : atom sz ex s = (some a, s1)) : s1.ws.length + 1 ≤ s.ws.length := by
  unfold atom at h; dsimp only at h
  repeat' split at h
  all_goals (injection h with h1 h2)
  all_goals (try cases h1)
  all_goals subst h2
  all_goals (first | (have hp := isOf_pos ‹isOf _ s = true›; have ht := take_lt hp) | (have hp := isT_pos ‹isT _ s = true›; have ht := take_lt hp))
  all_goals first | omega | (have := (nice_fields (sz := sz) hx (take s)).1; omega) | (have := (le_must sz [tOpen, tShut] (take s)).1; omega) | (have := (nice_bracketed (sz := sz) hx (whr sz s) (take s)).1; omega)
theorem nice_appMore : ∀ n f, Nice (appMore sz ex n f) := by
  intro n
  induction n with
  | zero => intro f s; exact Le.refl _
  | succ n ih =>
    intro f s; unfold appMore
    have ha := nice_atom (sz := sz) hx s
    split
    · rename_i s1 heq; rw [heq] at ha; exact ha
    · rename_i a s1 heq; rw [heq] at ha; exact ha.trans (ih _ _)
theorem nice_app : Nice (app sz ex) := by
  intro s; unfold app
  have ha := nice_atom (sz := sz) hx s
  split
  · rename_i s1 heq; rw [heq] at ha; exact ha.trans (le_fail _ _ _)
  · rename_i a s1 heq; rw [heq] at ha; exact ha.trans (nice_appMore hx _ _ _)
omit hx in
theorem nice_ahead : ∀ n, Nice (ahead n) := by
  intro n
  induction n with
  | zero => intro s; exact Le.refl _
  | succ n ih =>
    intro s; unfold ahead; split
    · exact (le_take s).trans (ih _)
    · exact Le.refl _
theorem nice_unary : Nice (unary sz ex) := fun s => (nice_ahead _ s).trans (nice_app hx _)
omit hx in
theorem nice_both {side : St → Tm × St} (hs : Nice side) (l : Tm) : Nice (both side l) := fun s => (le_take s).trans (hs _)
omit hx in
theorem nice_once {side : St → Tm × St} (hs : Nice side) (ss : List Str) : Nice (once side ss) := by
  intro s; unfold once; split
  · exact (hs s).trans (nice_both hs _ _)
  · exact hs s
omit hx in
theorem nice_oftenMore {side : St → Tm × St} (hs : Nice side) (ss : List Str) : ∀ n l, Nice (oftenMore side ss n l) := by
  intro n
  induction n with
  | zero => intro l s; exact Le.refl _
  | succ n ih =>
    intro l s; unfold oftenMore; split
    · exact (nice_both hs l s).trans (ih _ _)
    · exact Le.refl _
omit hx in
theorem nice_often {side : St → Tm × St} (hs : Nice side) (ss : List Str) : Nice (often side ss) := fun s => (hs s).trans (nice_oftenMore hs ss _ _ _)
theorem nice_prod : Nice (prod sz ex) := nice_often (nice_unary hx) _
theorem nice_sum : Nice (sum sz ex) := nice_often (nice_prod hx) _
theorem nice_cmp : Nice (cmp sz ex) := nice_once (nice_sum hx) _
theorem nice_assign : Nice (assign sz ex) := nice_once (nice_cmp hx) _
theorem nice_exprHere : Nice (exprHere sz ex) := by
  intro s; unfold exprHere; dsimp only
  repeat' split
  · exact ((le_take s).trans (nice_name _ _ _)).trans (nice_behind hx _ _)
  · exact ((le_take s).trans (nice_name _ _ _)).trans (nice_behind hx _ _)
  · exact (((le_take s).trans (nice_name _ _ _)).trans (nice_name _ _ _)).trans (nice_behind hx _ _)
  · exact nice_behind hx _ _
  · exact (nice_behind hx _ _).trans (nice_ways hx _)
  · exact (((le_take s).trans (nice_name _ _ _)).trans (hx _)).trans (nice_clauses hx _)
  · exact nice_assign hx _
theorem nice_exprStep : Nice (exprStep sz ex) := by
  intro s; unfold exprStep; dsimp only; split
  · exact le_fail _ _ _
  · have h := nice_exprHere (sz := sz) hx { s with wi := s.wi + 1 }
    exact ⟨h.1, by have := h.2; simp only at this ⊢; omega⟩
end
theorem nice_expr (sz : Nat) : ∀ n, Nice (expr sz n) := by
  intro n
  induction n with
  | zero => intro s; exact Le.refl _
  | succ n ih => exact nice_exprStep ih
theorem aType_le (s : St) : Le s (aType s).2 := by
  unfold aType
  repeat' split
  all_goals first | exact le_take _ | exact Le.refl _
theorem nice_mustType (sz : Nat) : Nice (mustType sz) := by
  intro s; unfold mustType
  have ha := aType_le s
  split
  · rename_i heq; rw [heq] at ha; exact ha
  · rename_i heq; rw [heq] at ha; exact ha.trans (le_fail _ _ _)
theorem aType_none {s s1 : St} (h : aType s = (none, s1)) : s1 = s := by
  unfold aType at h
  repeat' split at h
  all_goals first | (injection h with h1 h2; cases h1; done) | (injection h with h1 h2; exact h2.symm)
theorem aType_some {s : St} {a : Ty} {s1 : St} (h : aType s = (some a, s1)) : s1.ws.length + 1 = s.ws.length := by
  unfold aType at h
  repeat' split at h
  all_goals (injection h with h1 h2)
  all_goals (try cases h1)
  all_goals subst h2
  all_goals (first | exact take_lt (isOf_pos ‹isOf _ s = true›) | exact take_lt (isT_pos ‹isT _ s = true›))
theorem nice_sig (sz : Nat) : Nice (sig sz) := fun s => ((((nice_name sz [2] s).trans (le_must1 _ _ _)).trans (nice_mustType _ _)).trans (le_must1 _ _ _)).trans (nice_mustType _ _)
theorem nice_conMore : ∀ n, Nice (conMore n) := by
  intro n
  induction n with
  | zero => intro s; exact Le.refl _
  | succ n ih =>
    intro s; unfold conMore
    have ha := aType_le s
    split
    · rename_i heq; rw [heq] at ha; exact ha
    · rename_i heq; rw [heq] at ha; exact ha.trans (ih _)
theorem nice_con (sz : Nat) : Nice (con sz) := fun s => (nice_name sz [3] s).trans (nice_conMore _ _)
theorem nice_effect (sz : Nat) : Nice (effect sz) := fun s => (nice_name sz [3] s).trans (nice_list (nice_sig sz) _ _ _ _ _)
theorem nice_data (sz : Nat) : Nice (data sz) := fun s => (nice_name sz [3] s).trans (nice_list (nice_con sz) _ _ _ _ _)
end Pz
end Go.Proofs.YtnkfkaahjplnmaaGreatDoor

/- Plain facts on Pz: how much fuel there is does not matter, if it is enough. -/
namespace Go.Proofs.YtnkfkaahjplnmaaGreatDoor
namespace Pz
open Lx

theorem isT_none {ts : List Str} {s : St} (h : s.ws.length = 0) : isT ts s = false := by
  cases h1 : isT ts s with
  | false => rfl
  | true => have := isT_pos h1; omega
theorem isOf_none {ts : List Nat} {s : St} (h : s.ws.length = 0) : isOf ts s = false := by
  cases h1 : isOf ts s with
  | false => rfl
  | true => have := isOf_pos h1; omega
theorem pre_none {s : St} (h : s.ws.length = 0) : pre s = false := by unfold pre; rw [isT_none h, isOf_none h]; rfl
theorem pre_pos {s : St} (h : pre s = true) : 0 < s.ws.length := by
  rcases Nat.eq_zero_or_pos s.ws.length with h1 | h1
  · rw [pre_none h1] at h; cases h
  · exact h1

theorem more_fuel {α : Type} {item : St → α × St} (hi : Nice item) (b : Str) : ∀ n m s, s.ws.length ≤ n → s.ws.length ≤ m → more item b n s = more item b m s := by
  intro n
  induction n with
  | zero =>
    intro m s h1 h2
    cases m with
    | zero => rfl
    | succ m => unfold more; rw [if_neg (by rw [isT_none (by omega)]; decide)]
  | succ n ih =>
    intro m s h1 h2
    cases m with
    | zero => unfold more; rw [if_neg (by rw [isT_none (by omega)]; decide)]
    | succ m =>
      unfold more
      split
      · rename_i h
        have h3 := take_lt (isT_pos h)
        have h4 := (hi (take s)).1
        rw [ih m _ (by omega) (by omega)]
      · rfl
theorem vars_fuel : ∀ n m s, s.ws.length ≤ n → s.ws.length ≤ m → vars n s = vars m s := by
  intro n
  induction n with
  | zero =>
    intro m s h1 h2
    cases m with
    | zero => rfl
    | succ m => unfold vars; rw [if_neg (by rw [isOf_none (by omega)]; decide)]
  | succ n ih =>
    intro m s h1 h2
    cases m with
    | zero => unfold vars; rw [if_neg (by rw [isOf_none (by omega)]; decide)]
    | succ m =>
      unfold vars
      split
      · rename_i h
        have h3 := take_lt (isOf_pos h)
        rw [ih m _ (by omega) (by omega)]
      · rfl
theorem ahead_fuel : ∀ n m s, s.ws.length ≤ n → s.ws.length ≤ m → ahead n s = ahead m s := by
  intro n
  induction n with
  | zero =>
    intro m s h1 h2
    cases m with
    | zero => rfl
    | succ m => unfold ahead; rw [if_neg (by rw [pre_none (by omega)]; decide)]
  | succ n ih =>
    intro m s h1 h2
    cases m with
    | zero => unfold ahead; rw [if_neg (by rw [pre_none (by omega)]; decide)]
    | succ m =>
      unfold ahead
      split
      · rename_i h
        have h3 := take_lt (pre_pos h)
        rw [ih m _ (by omega) (by omega)]
      · rfl
theorem oftenMore_fuel {side : St → Tm × St} (hs : Nice side) (ss : List Str) : ∀ n m l s, s.ws.length ≤ n → s.ws.length ≤ m → oftenMore side ss n l s = oftenMore side ss m l s := by
  intro n
  induction n with
  | zero =>
    intro m l s h1 h2
    cases m with
    | zero => rfl
    | succ m => unfold oftenMore; rw [if_neg (by rw [isT_none (by omega)]; decide)]
  | succ n ih =>
    intro m l s h1 h2
    cases m with
    | zero => unfold oftenMore; rw [if_neg (by rw [isT_none (by omega)]; decide)]
    | succ m =>
      unfold oftenMore
      split
      · rename_i h
        have h3 := take_lt (isT_pos h)
        have h4 := (hs (take s)).1
        exact ih m _ _ (by unfold both; dsimp only; omega) (by unfold both; dsimp only; omega)
      · rfl
theorem conMore_fuel : ∀ n m s, s.ws.length < n → s.ws.length < m → conMore n s = conMore m s := by
  intro n
  induction n with
  | zero => intro m s h1 _; omega
  | succ n ih =>
    intro m s h1 h2
    cases m with
    | zero => omega
    | succ m =>
      unfold conMore
      split
      · rfl
      · rename_i heq
        have h3 := aType_some heq
        rw [ih m _ (by omega) (by omega)]
section
variable {sz : Nat} {ex : St → Tm × St} (hx : Nice ex)
include hx
theorem appMore_fuel : ∀ n m f s, s.ws.length < n → s.ws.length < m → appMore sz ex n f s = appMore sz ex m f s := by
  intro n
  induction n with
  | zero => intro m f s h1 _; omega
  | succ n ih =>
    intro m f s h1 h2
    cases m with
    | zero => omega
    | succ m =>
      unfold appMore
      split
      · rfl
      · rename_i heq
        have h3 := atom_some hx heq
        exact ih m _ _ (by omega) (by omega)
end
theorem decls_fuel (sz : Nat) : ∀ n m es ds s, s.ws.length ≤ n → s.ws.length ≤ m → decls sz n es ds s = decls sz m es ds s := by
  intro n
  induction n with
  | zero =>
    intro m es ds s h1 h2
    cases m with
    | zero => rfl
    | succ m => unfold decls; rw [if_neg (by rw [isT_none (by omega)]; decide)]
  | succ n ih =>
    intro m es ds s h1 h2
    cases m with
    | zero => unfold decls; rw [if_neg (by rw [isT_none (by omega)]; decide)]
    | succ m =>
      unfold decls
      split
      · rename_i h
        split
        · rename_i h'
          have h3 := take_lt (isT_pos h')
          have h4 := (nice_effect sz (take s)).1
          exact ih m _ _ _ (by omega) (by omega)
        · rename_i h'
          have hp := isT_pos h
          have h5 : (must1 sz tData s).ws.length + 1 ≤ s.ws.length := by
            unfold must1
            split
            · have := take_lt hp; omega
            · unfold fail
              split
              · simp; omega
              · have hc : isT [tData] s = true := by
                  revert h h'
                  unfold isT
                  split
                  · simp
                  · simp only [List.contains_cons, List.contains_nil, Bool.or_false, Bool.and_eq_true, Bool.or_eq_true]
                    intro h h'
                    refine ⟨h.1, ?_⟩
                    rcases h.2 with h2 | h2
                    · exact absurd ⟨h.1, h2⟩ h'
                    · exact h2
                rename_i hn _
                exact absurd hc hn
          have h4 := (nice_data sz (must1 sz tData s)).1
          exact ih m _ _ _ (by omega) (by omega)
      · rfl

/-- The same wherever fewer than n words are left. -/
def Agr {α : Type} (n : Nat) (f g : St → α × St) : Prop := ∀ s, s.ws.length < n → f s = g s
theorem agr_more {α : Type} {n : Nat} {i j : St → α × St} (hi : Nice i) (h : Agr n i j) (b : Str) : ∀ k, Agr n (more i b k) (more j b k) := by
  intro k
  induction k with
  | zero => intro s _; rfl
  | succ k ih =>
    intro s hs
    unfold more
    have h1 := (le_take s).1
    have h2 := (hi (take s)).1
    rw [← h (take s) (by omega), ← ih (i (take s)).2 (by omega)]
theorem agr_list {α : Type} {n : Nat} {i j : St → α × St} (hi : Nice i) (h : Agr n i j) (sz : Nat) (o b c : Str) : Agr n (list sz i o b c) (list sz j o b c) := by
  intro s hs
  unfold list
  dsimp only
  have h1 := (le_must1 sz o s).1
  have h2 := (hi (must1 sz o s)).1
  rw [← h (must1 sz o s) (by omega), ← agr_more hi h b _ _ (by omega)]
section
variable {sz n : Nat} {ex ey : St → Tm × St} (hx : Nice ex) (h : Agr n ex ey)
include hx h
theorem agr_behind : ∀ ts, Agr n (behind sz ex ts) (behind sz ey ts) := by
  intro ts
  induction ts with
  | nil => intro s _; rfl
  | cons t ts ih =>
    intro s hs
    unfold behind
    have h1 := (le_must1 sz t s).1
    have h2 := (hx (must1 sz t s)).1
    rw [← h _ (by omega), ← ih _ (by omega)]
theorem agr_behind1 (t : Str) (ts : List Str) {s : St} (hs : (must1 sz t s).ws.length < n) : behind sz ex (t :: ts) s = behind sz ey (t :: ts) s := by
  unfold behind
  have h2 := (hx (must1 sz t s)).1
  rw [← h _ hs, ← agr_behind hx h ts _ (by omega)]
theorem agr_does (nm : Str) (vs : List Str) : Agr n (does sz ex nm vs) (does sz ey nm vs) := by
  have _hx := hx
  intro s hs
  unfold does
  have h1 := (le_must1 sz tArrow s).1
  rw [← h _ (by omega)]
theorem agr_way : Agr n (way sz ex) (way sz ey) := by
  intro s hs
  unfold way
  dsimp only
  have h1 := (nice_name sz [3] s).1
  have h2 := (nice_vars (name sz [3] s).2.ws.length (name sz [3] s).2).1
  exact agr_does hx h _ _ _ (by omega)
theorem agr_ways : Agr n (ways sz ex) (ways sz ey) := agr_list (nice_way hx) (agr_way hx h) _ _ _ _
theorem agr_clause : Agr n (clause sz ex) (clause sz ey) := by
  intro s hs
  unfold clause
  dsimp only
  have h1 := (nice_name sz [2] s).1
  have h2 := (nice_name sz [2] (name sz [2] s).2).1
  have h3 := (nice_name sz [2] (name sz [2] (name sz [2] s).2).2).1
  exact agr_does hx h _ _ _ (by omega)
theorem agr_clauses : Agr n (clauses sz ex) (clauses sz ey) := by
  intro s hs
  unfold clauses
  dsimp only
  have h1 := (le_must sz [tLb, tReturn] s).1
  have h2 := (nice_name sz [2] (must sz [tLb, tReturn] s)).1
  have h3 := (nice_does (sz := sz) hx tReturn [(name sz [2] (must sz [tLb, tReturn] s)).1] (name sz [2] (must sz [tLb, tReturn] s)).2).1
  rw [← agr_does hx h _ _ _ (by omega), ← agr_more (nice_clause hx) (agr_clause hx h) _ _ _ (by omega)]
theorem agr_fields : Agr n (fields sz ex) (fields sz ey) := by
  intro s hs
  unfold fields
  rw [agr_list hx h sz _ _ _ s hs]
theorem agr_bracketed (a : Nat) : Agr n (bracketed sz ex a) (bracketed sz ey a) := by
  have _hx := hx
  intro s hs
  unfold bracketed
  rw [h s hs]
theorem agr_atom : Agr (n + 1) (atom sz ex) (atom sz ey) := by
  intro s hs
  unfold atom
  dsimp only
  by_cases h0 : s.ws.length = 0
  · simp only [isOf_none h0, isT_none h0]
    rfl
  · have h1 := take_lt (s := s) (by omega)
    rw [agr_fields hx h (take s) (by omega), agr_bracketed hx h (whr sz s) (take s) (by omega)]
theorem agr_appMore : ∀ k f, Agr (n + 1) (appMore sz ex k f) (appMore sz ey k f) := by
  intro k
  induction k with
  | zero => intro f s _; rfl
  | succ k ih =>
    intro f s hs
    have ha := nice_atom (sz := sz) hx s
    have e := agr_atom (sz := sz) hx h s hs
    unfold appMore
    rw [← e]
    rcases hA : atom sz ex s with ⟨_ | t, s1⟩
    · rfl
    · rw [hA] at ha
      have := ha.1
      dsimp only at this
      exact ih _ s1 (by omega)
theorem agr_app : Agr (n + 1) (app sz ex) (app sz ey) := by
  intro s hs
  have ha := nice_atom (sz := sz) hx s
  have e := agr_atom (sz := sz) hx h s hs
  unfold app
  rw [← e]
  rcases hA : atom sz ex s with ⟨_ | t, s1⟩
  · rfl
  · rw [hA] at ha
    have := ha.1
    dsimp only at this
    exact agr_appMore hx h _ _ s1 (by omega)
theorem agr_unary : Agr (n + 1) (unary sz ex) (unary sz ey) := by
  intro s hs
  unfold unary
  dsimp only
  have h1 := (nice_ahead s.ws.length s).1
  rw [agr_app hx h _ (by omega)]
omit hx h in
theorem agr_both {f g : St → Tm × St} (hf : Agr n f g) (l : Tm) : Agr n (both f l) (both g l) := by
  intro s hs
  have h1 := (le_take s).1
  unfold both
  rw [hf _ (by omega)]
omit hx h in
theorem agr_once {f g : St → Tm × St} (hn : Nice f) (hf : Agr n f g) (ss : List Str) : Agr n (once f ss) (once g ss) := by
  intro s hs
  have h1 := (hn s).1
  unfold once
  rw [← hf s hs, agr_both hf _ _ (by omega)]
omit hx h in
theorem agr_oftenMore {f g : St → Tm × St} (hn : Nice f) (hf : Agr n f g) (ss : List Str) : ∀ k l, Agr n (oftenMore f ss k l) (oftenMore g ss k l) := by
  intro k
  induction k with
  | zero => intro l s _; rfl
  | succ k ih =>
    intro l s hs
    have h1 := (nice_both hn l s).1
    unfold oftenMore
    rw [← agr_both hf l s hs, ih _ _ (by omega)]
omit hx h in
theorem agr_often {f g : St → Tm × St} (hn : Nice f) (hf : Agr n f g) (ss : List Str) : Agr n (often f ss) (often g ss) := by
  intro s hs
  have h1 := (hn s).1
  unfold often
  rw [← hf s hs, agr_oftenMore hn hf ss _ _ _ (by omega)]
theorem agr_assign : Agr (n + 1) (assign sz ex) (assign sz ey) :=
  agr_once (nice_cmp hx) (agr_once (nice_sum hx) (agr_often (nice_prod hx) (agr_often (nice_unary hx) (agr_unary hx h) _) _) _) _
theorem agr_exprHere : Agr (n + 1) (exprHere sz ex) (exprHere sz ey) := by
  intro s hs
  by_cases h0 : s.ws.length = 0
  · unfold exprHere
    dsimp only
    simp only [isT_none h0]
    exact agr_assign hx h s hs
  · have h1 := take_lt (s := s) (by omega)
    have h2 := (nice_name sz [2] (take s)).1
    have h3 := (nice_name sz [2] (name sz [2] (take s)).2).1
    have h4 := (nice_name sz [3] (take s)).1
    have h5 := (hx (name sz [3] (take s)).2).1
    unfold exprHere
    dsimp only
    rw [← agr_assign hx h s hs, ← agr_behind hx h [tArrow] _ (by omega), ← agr_behind hx h [tEq, tIn] (name sz [2] (take s)).2 (by omega),
      ← agr_behind hx h [tEq, tIn] (name sz [2] (name sz [2] (take s)).2).2 (by omega), ← h (name sz [3] (take s)).2 (by omega), ← agr_clauses hx h _ (by omega)]
    by_cases h6 : isT [tIf] s = true
    · have h7 := must1_lt (sz := sz) h6
      rw [← agr_behind1 hx h tIf [tThen, tElse] (s := s) (by omega)]
      by_cases h8 : isT [tMatch] s = true
      · have h9 := must1_lt (sz := sz) h8
        have h10 := (nice_behind (sz := sz) hx [tMatch] s).1
        simp only [h6, if_true]
      · simp only [h6, if_true]
    · by_cases h8 : isT [tMatch] s = true
      · have h9 := must1_lt (sz := sz) h8
        have h11 := (hx (must1 sz tMatch s)).1
        have e := agr_behind1 (sz := sz) hx h tMatch [] (s := s) (by omega)
        rw [← e]
        have h10 : (behind sz ex [tMatch] s).2.ws.length < n := by
          simp only [behind]
          omega
        rw [← agr_ways hx h _ h10]
        simp only [h6]
        rfl
      · simp only [h6, h8]
        rfl
theorem agr_exprStep : Agr (n + 1) (exprStep sz ex) (exprStep sz ey) := by
  intro s hs
  unfold exprStep
  dsimp only
  rw [agr_exprHere hx h { s with wi := s.wi + 1 } hs]
end
theorem agr_expr (sz : Nat) : ∀ n m, Agr (min n m) (expr sz n) (expr sz m)
  | 0, m => fun s hs => by omega
  | n + 1, 0 => fun s hs => by omega
  | n + 1, m + 1 => by
    have := agr_exprStep (sz := sz) (nice_expr sz n) (agr_expr sz n m)
    rw [show min (n + 1) (m + 1) = min n m + 1 by omega]
    exact this
theorem expr_fuel {sz n m : Nat} {s : St} (hn : s.ws.length < n) (hm : s.ws.length < m) : expr sz n s = expr sz m s := agr_expr sz n m s (by omega)
end Pz
end Go.Proofs.YtnkfkaahjplnmaaGreatDoor

/- Plain facts on Pz: what is read of the first words of a program that can be read. -/
namespace Go.Proofs.YtnkfkaahjplnmaaGreatDoor
namespace Pz
open Lx

/-- Nothing is left to read; nothing was wrong, or that there is nothing is, or it is too deep. -/
def Over (sz : Nat) (s : St) : Prop := s.ws = [] ∧ (s.er = 0 ∨ (s.er = 3 ∧ s.at_ = sz) ∨ s.er = 6)
/-- The second one has the first words of the first one. -/
def Sy (s s' : St) : Prop := s.er = 0 ∧ s'.er = 0 ∧ s.wi = s'.wi ∧ ∃ r, s.ws = s'.ws ++ r

structure Cg {α : Type} (sz' : Nat) (f f' : St → α × St) : Prop where
  bad : ∀ s, s.er ≠ 0 → (f s).2.er ≠ 0
  over : ∀ s, Over sz' s → Over sz' (f' s).2
  step : ∀ s s', Sy s s' → (f s).2.er = 0 → Sy (f s).2 (f' s').2 ∨ Over sz' (f' s').2
/-- Such a step that answers nothing. -/
structure Cu (sz' : Nat) (f f' : St → St) : Prop where
  bad : ∀ s, s.er ≠ 0 → (f s).er ≠ 0
  over : ∀ s, Over sz' s → Over sz' (f' s)
  step : ∀ s s', Sy s s' → (f s).er = 0 → Sy (f s) (f' s') ∨ Over sz' (f' s')

theorem Cg.ok {α : Type} {sz' : Nat} {f f' : St → α × St} (h : Cg sz' f f') {s : St} (he : (f s).2.er = 0) : s.er = 0 := by
  by_cases h0 : s.er = 0
  · exact h0
  · exact absurd he (h.bad s h0)
theorem Cu.ok {sz' : Nat} {f f' : St → St} (h : Cu sz' f f') {s : St} (he : (f s).er = 0) : s.er = 0 := by
  by_cases h0 : s.er = 0
  · exact h0
  · exact absurd he (h.bad s h0)
theorem Cu.then {sz' : Nat} {f f' g g' : St → St} (h : Cu sz' f f') (k : Cu sz' g g') : Cu sz' (fun s => g (f s)) (fun s => g' (f' s)) where
  bad := fun s h0 => k.bad _ (h.bad s h0)
  over := fun s h0 => k.over _ (h.over s h0)
  step := fun s s' hs he => by
    rcases h.step s s' hs (k.ok he) with h1 | h1
    · exact k.step _ _ h1 he
    · exact .inr (k.over _ h1)
theorem Cg.snd {α : Type} {sz' : Nat} {f f' : St → α × St} (h : Cg sz' f f') : Cu sz' (fun s => (f s).2) (fun s => (f' s).2) := ⟨h.bad, h.over, h.step⟩
theorem Cu.fst {α : Type} {sz' : Nat} {f f' : St → St} (h : Cu sz' f f') (u u' : St → α) : Cg sz' (fun s => (u s, f s)) (fun s => (u' s, f' s)) := ⟨h.bad, h.over, h.step⟩
/-- A step whose answer hangs on its own state alone. -/
theorem Cg.of {α : Type} {sz' : Nat} {f f' : St → α × St} (h : Cu sz' (fun s => (f s).2) (fun s => (f' s).2)) : Cg sz' f f' := ⟨h.bad, h.over, h.step⟩

theorem Over.isT {sz : Nat} {s : St} (h : Over sz s) (ts : List Str) : isT ts s = false := isT_none (by rw [h.1]; rfl)
theorem Over.isOf {sz : Nat} {s : St} (h : Over sz s) (ks : List Nat) : isOf ks s = false := isOf_none (by rw [h.1]; rfl)
theorem Over.pre {sz : Nat} {s : St} (h : Over sz s) : pre s = false := pre_none (by rw [h.1]; rfl)
theorem Over.take {sz : Nat} {s : St} (h : Over sz s) : Over sz (take s) := ⟨by unfold Pz.take; simp [h.1], h.2⟩
theorem Over.fail {sz e : Nat} {s : St} (h : Over sz s) (he : e = 3 ∨ e = 6) : Over sz (fail sz e s) := by
  unfold Pz.fail
  split
  · refine ⟨rfl, ?_⟩
    rcases he with rfl | rfl
    · exact .inr (.inl ⟨rfl, by unfold whr; rw [h.1]⟩)
    · exact .inr (.inr rfl)
  · exact h
theorem Over.must1 {sz : Nat} {t : Str} {s : St} (h : Over sz s) : Over sz (must1 sz t s) := by
  unfold Pz.must1
  rw [if_neg (by rw [h.isT]; decide)]
  exact h.fail (.inl rfl)
theorem Over.must {sz : Nat} (ts : List Str) : ∀ {s : St}, Over sz s → Over sz (must sz ts s) := by
  induction ts with
  | nil => exact fun h => h
  | cons t ts ih => exact fun h => ih h.must1
theorem Over.wi {sz : Nat} {s : St} (h : Over sz s) (n : Nat) : Over sz { s with wi := n } := h

theorem Sy.over {sz : Nat} {s s' : St} (h : Sy s s') (h0 : s'.ws = []) : Over sz s' := ⟨h0, .inl h.2.1⟩
theorem Sy.isT {s s' : St} (h : Sy s s') (h0 : s'.ws ≠ []) (ts : List Str) : isT ts s' = isT ts s := by
  obtain ⟨_, _, _, r, hr⟩ := h
  unfold Pz.isT
  rcases hw : s'.ws with _ | ⟨t, u⟩
  · exact absurd hw h0
  · rw [hr, hw]; rfl
theorem Sy.isOf {s s' : St} (h : Sy s s') (h0 : s'.ws ≠ []) (ts : List Nat) : isOf ts s' = isOf ts s := by
  obtain ⟨_, _, _, r, hr⟩ := h
  unfold Pz.isOf
  rcases hw : s'.ws with _ | ⟨t, u⟩
  · exact absurd hw h0
  · rw [hr, hw]; rfl
theorem Sy.pre {s s' : St} (h : Sy s s') (h0 : s'.ws ≠ []) : pre s' = pre s := by unfold Pz.pre; rw [h.isT h0, h.isOf h0]
theorem Sy.take {s s' : St} (h : Sy s s') (h0 : s'.ws ≠ []) : Sy (take s) (take s') := by
  obtain ⟨h1, h2, h3, r, hr⟩ := h
  refine ⟨h1, h2, h3, r, ?_⟩
  unfold Pz.take
  rcases hw : s'.ws with _ | ⟨t, u⟩
  · exact absurd hw h0
  · rw [hw] at hr; simp [hr]
theorem Sy.len {s s' : St} (h : Sy s s') : s'.ws.length ≤ s.ws.length := by
  obtain ⟨_, _, _, r, hr⟩ := h
  rw [hr]; simp
theorem fail_bad (sz e : Nat) (s : St) (h : e ≠ 0) : (fail sz e s).er ≠ 0 := by
  unfold fail; split
  · exact h
  · assumption
theorem must1_bad (sz : Nat) (t : Str) (s : St) (h : s.er ≠ 0) : (must1 sz t s).er ≠ 0 := by
  unfold must1; split
  · exact h
  · exact fail_bad _ _ _ (by decide)

section
variable {sz sz' : Nat}
theorem cu_must1 (t : Str) : Cu sz' (must1 sz t) (must1 sz' t) where
  bad := fun s h => must1_bad sz t s h
  over := fun s h => h.must1
  step := fun s s' h he => by
    by_cases h0 : s'.ws = []
    · exact .inr (h.over h0).must1
    · have e := h.isT h0 [t]
      unfold must1 at he ⊢
      rw [e]
      split
      · exact .inl (h.take h0)
      · rename_i hn
        rw [if_neg hn] at he
        exact absurd he (fail_bad _ _ _ (by decide))
theorem cu_must (ts : List Str) : Cu sz' (must sz ts) (must sz' ts) := by
  induction ts with
  | nil => exact ⟨fun _ h => h, fun _ h => h, fun _ _ h _ => .inl h⟩
  | cons t ts ih => exact (cu_must1 t).then ih
theorem cg_name (ks : List Nat) : Cg sz' (name sz ks) (name sz' ks) where
  bad := fun s h => by
    unfold name; split
    · exact h
    · exact fail_bad _ _ _ (by decide)
  over := fun s h => by
    unfold name
    rw [if_neg (by rw [h.isOf]; decide)]
    exact h.fail (.inl rfl)
  step := fun s s' h he => by
    by_cases h0 : s'.ws = []
    · refine .inr ?_
      have h1 := h.over (sz := sz') h0
      unfold name
      rw [if_neg (by rw [h1.isOf]; decide)]
      exact h1.fail (.inl rfl)
    · have e := h.isOf h0 ks
      unfold name at he ⊢
      rw [e]
      split
      · exact .inl (h.take h0)
      · rename_i hn
        rw [if_neg hn] at he
        exact absurd he (fail_bad _ _ _ (by decide))

theorem bad_more {α : Type} {f : St → α × St} (hf : ∀ s, s.er ≠ 0 → (f s).2.er ≠ 0) (b : Str) : ∀ n s, s.er ≠ 0 → (more f b n s).2.er ≠ 0 := by
  intro n
  induction n with
  | zero => exact fun _ h => h
  | succ n ih =>
    intro s h
    unfold more; split
    · exact ih _ (hf _ h)
    · exact h
theorem over_more {α : Type} {f : St → α × St} (b : Str) (n : Nat) {s : St} (h : Over sz' s) : Over sz' (more f b n s).2 := by
  cases n with
  | zero => exact h
  | succ n => unfold more; rw [if_neg (by rw [h.isT]; decide)]; exact h
theorem step_more {α : Type} {f f' : St → α × St} (hf : Cg sz' f f') (b : Str) : ∀ n s s', Sy s s' → (more f b n s).2.er = 0 → Sy (more f b n s).2 (more f' b n s').2 ∨ Over sz' (more f' b n s').2 := by
  intro n
  induction n with
  | zero => exact fun _ _ h _ => .inl h
  | succ n ih =>
    intro s s' h he
    by_cases h0 : s'.ws = []
    · exact .inr (over_more b (n + 1) (h.over h0))
    · have e := h.isT h0 [b]
      unfold more at he ⊢
      rw [e]
      split
      · rename_i hy
        rw [if_pos hy] at he
        dsimp only at he
        have he2 : (f (take s)).2.er = 0 := by
          by_cases h1 : (f (take s)).2.er = 0
          · exact h1
          · exact absurd he (bad_more hf.bad b n _ h1)
        rcases hf.step _ _ (h.take h0) he2 with h2 | h2
        · exact ih _ _ h2 he
        · exact .inr (over_more b n h2)
      · exact .inl h
theorem cg_moreAll {α : Type} {f f' : St → α × St} (hf : Cg sz' f f') (hn : Nice f') (b : Str) : Cg sz' (fun s => more f b s.ws.length s) (fun s => more f' b s.ws.length s) where
  bad := fun s h => bad_more hf.bad b _ s h
  over := fun s h => over_more b _ h
  step := fun s s' h he => by
    have := step_more hf b s.ws.length s s' h he
    rw [more_fuel hn b s.ws.length s'.ws.length s' h.len (Nat.le_refl _)] at this
    exact this
theorem cg_list {α : Type} {f f' : St → α × St} (hf : Cg sz' f f') (hn : Nice f') (o b c : Str) : Cg sz' (list sz f o b c) (list sz' f' o b c) where
  bad := fun s h => by
    unfold list
    dsimp only
    split
    · exact must1_bad _ _ _ (must1_bad _ _ _ h)
    · exact must1_bad _ _ _ (bad_more hf.bad b _ _ (hf.bad _ (must1_bad _ _ _ h)))
  over := fun s h => by
    unfold list
    dsimp only
    have h1 := h.must1 (t := o)
    rw [if_neg (by rw [h1.isT]; decide)]
    exact (over_more b _ (hf.over _ h1)).must1
  step := fun s s' h he => by
    unfold list at he ⊢
    dsimp only at he ⊢
    have hm : (must1 sz o s).er = 0 := by
      by_cases h1 : (must1 sz o s).er = 0
      · exact h1
      · refine absurd he ?_
        split
        · exact must1_bad _ _ _ h1
        · exact must1_bad _ _ _ (bad_more hf.bad b _ _ (hf.bad _ h1))
    have ho : ∀ t : St, Over sz' t → Over sz' (if isT [c] t = true then (([] : List α), must1 sz' c t) else ((f' t).1 :: (more f' b (f' t).2.ws.length (f' t).2).1, must1 sz' c (more f' b (f' t).2.ws.length (f' t).2).2)).2 := by
      intro t ht
      rw [if_neg (by rw [ht.isT]; decide)]
      exact (over_more b _ (hf.over _ ht)).must1
    rcases (cu_must1 (sz := sz) (sz' := sz') o).step s s' h hm with h1 | h1
    · by_cases h0 : (must1 sz' o s').ws = []
      · exact .inr (ho _ (h1.over h0))
      · have e := h1.isT h0 [c]
        rw [e]
        split
        · rename_i hy
          rw [if_pos hy] at he
          exact (cu_must1 c).step _ _ h1 he
        · rename_i hy
          rw [if_neg hy] at he
          have hall := (hf.snd.then (cg_moreAll hf hn b).snd).then (cu_must1 (sz := sz) (sz' := sz') c)
          exact hall.step _ _ h1 he
    · exact .inr (ho _ h1)
end

section
variable {sz sz' : Nat} {ex ex' : St → Tm × St} (hx : Cg sz' ex ex') (hn : Nice ex')
include hx
theorem cg_behind : ∀ ts, Cg sz' (behind sz ex ts) (behind sz' ex' ts) := by
  intro ts
  induction ts with
  | nil => exact ⟨fun _ h => h, fun _ h => h, fun _ _ h _ => .inl h⟩
  | cons t ts ih => exact Cg.of (((cu_must1 t).then hx.snd).then ih.snd)
theorem cg_does (nm nm' : Str) (vs vs' : List Str) : Cg sz' (does sz ex nm vs) (does sz' ex' nm' vs') := Cg.of ((cu_must1 tArrow).then hx.snd)
omit hx in
theorem bad_vars : ∀ n s, s.er ≠ 0 → (vars n s).2.er ≠ 0 := by
  intro n
  induction n with
  | zero => exact fun _ h => h
  | succ n ih =>
    intro s h
    unfold vars; split
    · exact ih _ h
    · exact h
omit hx in
theorem over_vars (n : Nat) {s : St} (h : Over sz' s) : Over sz' (vars n s).2 := by
  cases n with
  | zero => exact h
  | succ n => unfold vars; rw [if_neg (by rw [h.isOf]; decide)]; exact h
omit hx in
theorem step_vars : ∀ n s s', Sy s s' → Sy (vars n s).2 (vars n s').2 ∨ Over sz' (vars n s').2 := by
  intro n
  induction n with
  | zero => exact fun _ _ h => .inl h
  | succ n ih =>
    intro s s' h
    by_cases h0 : s'.ws = []
    · exact .inr (over_vars (n + 1) (h.over h0))
    · have e := h.isOf h0 [2]
      unfold vars
      rw [e]
      split
      · exact ih _ _ (h.take h0)
      · exact .inl h
omit hx in
theorem cg_varsAll : Cg sz' (fun s => vars s.ws.length s) (fun s => vars s.ws.length s) where
  bad := fun s h => bad_vars _ s h
  over := fun s h => over_vars _ h
  step := fun s s' h _ => by
    have := step_vars (sz' := sz') s.ws.length s s' h
    rw [vars_fuel s.ws.length s'.ws.length s' h.len (Nat.le_refl _)] at this
    exact this
theorem cg_way : Cg sz' (way sz ex) (way sz' ex') :=
  Cg.of (((cg_name [3]).snd.then cg_varsAll.snd).then (cg_does hx [] [] [] []).snd)
include hn in
theorem cg_ways : Cg sz' (ways sz ex) (ways sz' ex') := cg_list (cg_way hx) (nice_way hn) _ _ _
theorem cg_clause : Cg sz' (clause sz ex) (clause sz' ex') :=
  Cg.of ((((cg_name [2]).snd.then (cg_name [2]).snd).then (cg_name [2]).snd).then (cg_does hx [] [] [] []).snd)
include hn in
theorem cg_clauses : Cg sz' (clauses sz ex) (clauses sz' ex') :=
  Cg.of (((((cu_must [tLb, tReturn]).then (cg_name [2]).snd).then (cg_does hx [] [] [] []).snd).then (cg_moreAll (cg_clause hx) (nice_clause hn) tSemi).snd).then (cu_must1 tRb))
omit hx in
/-- A step that asks first whether the next word is one of some. -/
theorem Cg.ask {α : Type} {f f' g g' : St → α × St} (q : St → Bool) (hq0 : ∀ s, Over sz' s → q s = false) (hq : ∀ s s', Sy s s' → s'.ws ≠ [] → q s' = q s)
    (hf : ∀ s, q s = true → s.er ≠ 0 → (f s).2.er ≠ 0) (hfs : ∀ s s', Sy s s' → s'.ws ≠ [] → q s = true → (f s).2.er = 0 → Sy (f s).2 (f' s').2 ∨ Over sz' (f' s').2) (hg : Cg sz' g g') :
    Cg sz' (fun s => if q s = true then f s else g s) (fun s => if q s = true then f' s else g' s) where
  bad := fun s h => by
    show (if q s = true then f s else g s).2.er ≠ 0
    split
    · exact hf s ‹_› h
    · exact hg.bad s h
  over := fun s h => by
    show Over sz' (if q s = true then f' s else g' s).2
    rw [if_neg (by rw [hq0 s h]; decide)]
    exact hg.over s h
  step := fun s s' h he => by
    have he : (if q s = true then f s else g s).2.er = 0 := he
    show Sy (if q s = true then f s else g s).2 (if q s' = true then f' s' else g' s').2 ∨ Over sz' (if q s' = true then f' s' else g' s').2
    by_cases h0 : s'.ws = []
    · right
      have h1 := h.over (sz := sz') h0
      rw [if_neg (by rw [hq0 _ h1]; decide)]
      exact hg.over _ h1
    · have e := hq s s' h h0
      rw [e]
      split
      · rename_i hy
        rw [if_pos hy] at he
        exact hfs s s' h h0 hy he
      · rename_i hy
        rw [if_neg hy] at he
        exact hg.step s s' h he
omit hx in
theorem Cg.askTake {α : Type} {f f' g g' : St → α × St} (q : St → Bool) (hq0 : ∀ s, Over sz' s → q s = false) (hq : ∀ s s', Sy s s' → s'.ws ≠ [] → q s' = q s)
    {k k' : St → St} (hk : Cu sz' k k') (hfk : ∀ s, (f s).2 = k (take s)) (hfk' : ∀ s, (f' s).2 = k' (take s)) (hg : Cg sz' g g') :
    Cg sz' (fun s => if q s = true then f s else g s) (fun s => if q s = true then f' s else g' s) := by
  refine Cg.ask q hq0 hq (fun s _ h => by rw [hfk]; exact hk.bad _ h) (fun s s' h h0 _ he => ?_) hg
  rw [hfk] at he ⊢
  rw [hfk']
  exact hk.step _ _ (h.take h0) he
omit hx in
theorem cu_id : Cu sz' (fun s => s) (fun s => s) := ⟨fun _ h => h, fun _ h => h, fun _ _ h _ => .inl h⟩
include hn in
theorem cg_fields : Cg sz' (fields sz ex) (fields sz' ex') := by
  unfold fields
  have hl := cg_list (sz := sz) hx hn tOpen tComma tShut
  exact Cg.ask (fun s => isT [tOpen] s) (fun s h => h.isT _) (fun s s' h h0 => h.isT h0 _) (fun s _ h => hl.bad s h) (fun s s' h _ _ he => hl.step s s' h he) ⟨fun _ h => h, fun _ h => h, fun _ _ h _ => .inl h⟩
theorem cg_bracketed (a a' : Nat) : Cg sz' (bracketed sz ex a) (bracketed sz' ex' a') := by
  unfold bracketed
  exact Cg.askTake (fun s => isT [tShut] s) (fun s h => h.isT _) (fun s s' h h0 => h.isT h0 _) cu_id (fun _ => rfl) (fun _ => rfl) (Cg.of (hx.snd.then (cu_must1 tShut)))
end
end Pz
end Go.Proofs.YtnkfkaahjplnmaaGreatDoor

/- What is read of the first words of a program: terms, programs. -/
namespace Go.Proofs.YtnkfkaahjplnmaaGreatDoor
namespace Pz
open Lx
section
variable {sz sz' : Nat} {ex ex' : St → Tm × St} (hx : Cg sz' ex ex') (hn : Nice ex) (hn' : Nice ex')
include hx

include hn' in
theorem bad_atom : ∀ s, s.er ≠ 0 → (atom sz ex s).2.er ≠ 0 := by
  intro s h
  unfold atom
  dsimp only
  repeat' split
  all_goals first | exact h | exact (cg_fields (sz := sz) (sz' := sz') hx hn').bad _ h | exact (cu_must (sz := sz) (sz' := sz') _).bad _ h | exact (cg_bracketed (sz := sz) (sz' := sz') hx (whr sz s) 0).bad (take s) h
omit hx in
theorem over_atom {s : St} (h : Over sz' s) : atom sz' ex' s = (none, s) := by
  unfold atom
  dsimp only
  rw [h.isOf, h.isOf, h.isOf, h.isT, h.isT, h.isT, h.isT]
  rfl
include hn' in
theorem step_atom {s s' : St} (h : Sy s s') (he : (atom sz ex s).2.er = 0) :
    (Sy (atom sz ex s).2 (atom sz' ex' s').2 ∧ ((atom sz ex s).1.isSome = (atom sz' ex' s').1.isSome)) ∨ Over sz' (atom sz' ex' s').2 := by
  by_cases h0 : s'.ws = []
  · right
    rw [over_atom (h.over h0)]
    exact h.over h0
  · unfold atom at he ⊢
    dsimp only at he ⊢
    rw [h.isOf h0, h.isOf h0, h.isOf h0, h.isT h0, h.isT h0, h.isT h0, h.isT h0]
    have ht := h.take h0
    split
    · exact .inl ⟨ht, rfl⟩
    rename_i hn1; rw [if_neg hn1] at he
    split
    · exact .inl ⟨ht, rfl⟩
    rename_i hn1; rw [if_neg hn1] at he
    split
    · exact .inl ⟨ht, rfl⟩
    rename_i hn1; rw [if_neg hn1] at he
    split
    · exact .inl ⟨ht, rfl⟩
    rename_i hn1; rw [if_neg hn1] at he
    split
    · rename_i hy; rw [if_pos hy] at he
      rcases (cg_fields (sz := sz) hx hn').step _ _ ht he with h1 | h1
      · exact .inl ⟨h1, rfl⟩
      · exact .inr h1
    rename_i hn1; rw [if_neg hn1] at he
    split
    · rename_i hy; rw [if_pos hy] at he
      rcases (cu_must (sz := sz) [tOpen, tShut]).step _ _ ht he with h1 | h1
      · exact .inl ⟨h1, rfl⟩
      · exact .inr h1
    rename_i hn1; rw [if_neg hn1] at he
    split
    · rename_i hy; rw [if_pos hy] at he
      rcases (cg_bracketed (sz := sz) hx (whr sz s) (whr sz' s')).step _ _ ht he with h1 | h1
      · exact .inl ⟨h1, rfl⟩
      · exact .inr h1
    · exact .inl ⟨h, rfl⟩
include hn' in
theorem bad_appMore : ∀ n f s, s.er ≠ 0 → (appMore sz ex n f s).2.er ≠ 0 := by
  intro n
  induction n with
  | zero => exact fun _ _ h => h
  | succ n ih =>
    intro f s h
    have ha := bad_atom (sz := sz) hx hn' s h
    unfold appMore
    rcases hA : atom sz ex s with ⟨_ | t, s1⟩
    · rw [hA] at ha; exact ha
    · rw [hA] at ha; exact ih _ _ ha
omit hx in
theorem over_appMore (n : Nat) (f : Tm) {s : St} (h : Over sz' s) : Over sz' (appMore sz' ex' n f s).2 := by
  cases n with
  | zero => exact h
  | succ n => unfold appMore; rw [over_atom h]; exact h
include hn' in
theorem step_appMore : ∀ n f f' s s', Sy s s' → (appMore sz ex n f s).2.er = 0 → Sy (appMore sz ex n f s).2 (appMore sz' ex' n f' s').2 ∨ Over sz' (appMore sz' ex' n f' s').2 := by
  intro n
  induction n with
  | zero => exact fun _ _ _ _ h _ => .inl h
  | succ n ih =>
    intro f f' s s' h he
    have hb := bad_appMore (sz := sz) hx hn' n
    have hst := step_atom (sz := sz) (sz' := sz') hx hn' h
    unfold appMore at he ⊢
    rcases hA : atom sz ex s with ⟨_ | t, s1⟩
    · rw [hA] at he hst
      rcases hst he with ⟨h1, h2⟩ | h1
      · rcases hB : atom sz' ex' s' with ⟨_ | t', s1'⟩
        · rw [hB] at h1; exact .inl h1
        · rw [hB] at h2; cases h2
      · rcases hB : atom sz' ex' s' with ⟨_ | t', s1'⟩
        · rw [hB] at h1; exact .inr h1
        · rw [hB] at h1; exact .inr (over_appMore n _ h1)
    · rw [hA] at he hst
      have he1 : s1.er = 0 := by
        by_cases h1 : s1.er = 0
        · exact h1
        · exact absurd he (hb _ _ h1)
      rcases hst he1 with ⟨h1, h2⟩ | h1
      · rcases hB : atom sz' ex' s' with ⟨_ | t', s1'⟩
        · rw [hB] at h2; cases h2
        · rw [hB] at h1; exact ih _ _ _ _ h1 he
      · rcases hB : atom sz' ex' s' with ⟨_ | t', s1'⟩
        · rw [hB] at h1; exact .inr h1
        · rw [hB] at h1; exact .inr (over_appMore n _ h1)
include hn' in
theorem cg_app : Cg sz' (app sz ex) (app sz' ex') where
  bad := fun s h => by
    have ha := bad_atom (sz := sz) hx hn' s h
    unfold app
    rcases hA : atom sz ex s with ⟨_ | t, s1⟩
    · rw [hA] at ha; exact fail_bad _ _ _ (by decide)
    · rw [hA] at ha; exact bad_appMore hx hn' _ _ _ ha
  over := fun s h => by
    unfold app
    rw [over_atom h]
    exact h.fail (.inl rfl)
  step := fun s s' h he => by
    have hst := step_atom (sz := sz) (sz' := sz') hx hn' h
    unfold app at he ⊢
    rcases hA : atom sz ex s with ⟨_ | t, s1⟩
    · rw [hA] at he
      exact absurd he (fail_bad _ _ _ (by decide))
    · rw [hA] at he hst
      have he1 : s1.er = 0 := by
        by_cases h1 : s1.er = 0
        · exact h1
        · exact absurd he (bad_appMore hx hn' _ _ _ h1)
      rcases hst he1 with ⟨h1, h2⟩ | h1
      · rcases hB : atom sz' ex' s' with ⟨_ | t', s1'⟩
        · rw [hB] at h2; cases h2
        · rw [hB] at h1
          have h3 := step_appMore (sz := sz) (sz' := sz') hx hn' (s1.ws.length + 1) t t' s1 s1' h1 he
          rw [appMore_fuel hn' (s1.ws.length + 1) (s1'.ws.length + 1) t' s1' (by have := h1.len; dsimp only at this; omega) (by omega)] at h3
          exact h3
      · rcases hB : atom sz' ex' s' with ⟨_ | t', s1'⟩
        · rw [hB] at h1; exact .inr (Over.fail h1 (.inl rfl))
        · rw [hB] at h1; exact .inr (over_appMore _ _ h1)
omit hx in
theorem bad_ahead : ∀ n s, s.er ≠ 0 → (ahead n s).2.er ≠ 0 := by
  intro n
  induction n with
  | zero => exact fun _ h => h
  | succ n ih =>
    intro s h
    unfold ahead; split
    · exact ih _ h
    · exact h
omit hx in
theorem over_ahead (n : Nat) {s : St} (h : Over sz' s) : Over sz' (ahead n s).2 := by
  cases n with
  | zero => exact h
  | succ n => unfold ahead; rw [if_neg (by rw [h.pre]; decide)]; exact h
omit hx in
theorem step_ahead : ∀ n s s', Sy s s' → Sy (ahead n s).2 (ahead n s').2 ∨ Over sz' (ahead n s').2 := by
  intro n
  induction n with
  | zero => exact fun _ _ h => .inl h
  | succ n ih =>
    intro s s' h
    by_cases h0 : s'.ws = []
    · exact .inr (over_ahead (n + 1) (h.over h0))
    · have e := h.pre h0
      unfold ahead
      rw [e]
      split
      · exact ih _ _ (h.take h0)
      · exact .inl h
omit hx in
theorem cg_aheadAll : Cg sz' (fun s => ahead s.ws.length s) (fun s => ahead s.ws.length s) where
  bad := fun s h => bad_ahead _ s h
  over := fun s h => over_ahead _ h
  step := fun s s' h _ => by
    have := step_ahead (sz' := sz') s.ws.length s s' h
    rw [ahead_fuel s.ws.length s'.ws.length s' h.len (Nat.le_refl _)] at this
    exact this
include hn' in
theorem cg_unary : Cg sz' (unary sz ex) (unary sz' ex') := Cg.of (cg_aheadAll.snd.then (cg_app hx hn').snd)
omit hx in
theorem cu_take_of {f f' : St → Tm × St} (h : Cg sz' f f') {s s' : St} (hs : Sy s s') (h0 : s'.ws ≠ []) (he : (f (take s)).2.er = 0) : Sy (f (take s)).2 (f' (take s')).2 ∨ Over sz' (f' (take s')).2 := h.step _ _ (hs.take h0) he
omit hx in
theorem cg_once {f f' : St → Tm × St} (hf : Cg sz' f f') (ss : List Str) : Cg sz' (once f ss) (once f' ss) where
  bad := fun s h => by
    have h1 := hf.bad s h
    unfold once; split
    · exact hf.bad _ h1
    · exact h1
  over := fun s h => by
    have h1 := hf.over s h
    unfold once
    rw [if_neg (by rw [h1.isT]; decide)]
    exact h1
  step := fun s s' h he => by
    have he1 : (f s).2.er = 0 := by
      by_cases h1 : (f s).2.er = 0
      · exact h1
      · refine absurd he ?_
        unfold once; split
        · exact hf.bad _ h1
        · exact h1
    rcases hf.step s s' h he1 with h1 | h1
    · by_cases h0 : (f' s').2.ws = []
      · right
        have h2 := h1.over (sz := sz') h0
        unfold once
        rw [if_neg (by rw [h2.isT]; decide)]
        exact h2
      · have e := h1.isT h0 ss
        unfold once at he ⊢
        rw [e]
        split
        · rename_i hy; rw [if_pos hy] at he
          exact cu_take_of hf h1 h0 he
        · exact .inl h1
    · right
      unfold once
      rw [if_neg (by rw [h1.isT]; decide)]
      exact h1
omit hx in
theorem bad_oftenMore {f : St → Tm × St} (hf : ∀ s, s.er ≠ 0 → (f s).2.er ≠ 0) (ss : List Str) : ∀ n l s, s.er ≠ 0 → (oftenMore f ss n l s).2.er ≠ 0 := by
  intro n
  induction n with
  | zero => exact fun _ _ h => h
  | succ n ih =>
    intro l s h
    unfold oftenMore; split
    · exact ih _ _ (hf _ h)
    · exact h
omit hx in
theorem over_oftenMore {f : St → Tm × St} (ss : List Str) (n : Nat) (l : Tm) {s : St} (h : Over sz' s) : Over sz' (oftenMore f ss n l s).2 := by
  cases n with
  | zero => exact h
  | succ n => unfold oftenMore; rw [if_neg (by rw [h.isT]; decide)]; exact h
omit hx in
theorem step_oftenMore {f f' : St → Tm × St} (hf : Cg sz' f f') (ss : List Str) : ∀ n l l' s s', Sy s s' → (oftenMore f ss n l s).2.er = 0 → Sy (oftenMore f ss n l s).2 (oftenMore f' ss n l' s').2 ∨ Over sz' (oftenMore f' ss n l' s').2 := by
  intro n
  induction n with
  | zero => exact fun _ _ _ _ h _ => .inl h
  | succ n ih =>
    intro l l' s s' h he
    by_cases h0 : s'.ws = []
    · exact .inr (over_oftenMore ss (n + 1) _ (h.over h0))
    · have e := h.isT h0 ss
      unfold oftenMore at he ⊢
      rw [e]
      split
      · rename_i hy; rw [if_pos hy] at he
        have he1 : (both f l s).2.er = 0 := by
          by_cases h1 : (both f l s).2.er = 0
          · exact h1
          · exact absurd he (bad_oftenMore hf.bad ss _ _ _ h1)
        rcases cu_take_of hf h h0 he1 with h1 | h1
        · exact ih _ _ _ _ h1 he
        · exact .inr (over_oftenMore ss n _ h1)
      · exact .inl h
omit hx in
theorem cg_often {f f' : St → Tm × St} (hf : Cg sz' f f') (hn : Nice f') (ss : List Str) : Cg sz' (often f ss) (often f' ss) where
  bad := fun s h => bad_oftenMore hf.bad ss _ _ _ (hf.bad s h)
  over := fun s h => over_oftenMore ss _ _ (hf.over s h)
  step := fun s s' h he => by
    unfold often at he ⊢
    have he1 : (f s).2.er = 0 := by
      by_cases h1 : (f s).2.er = 0
      · exact h1
      · exact absurd he (bad_oftenMore hf.bad ss _ _ _ h1)
    rcases hf.step s s' h he1 with h1 | h1
    · have h2 := step_oftenMore hf ss _ (f s).1 (f' s').1 _ _ h1 he
      rw [oftenMore_fuel hn ss (f s).2.ws.length (f' s').2.ws.length _ _ h1.len (Nat.le_refl _)] at h2
      exact h2
    · exact .inr (over_oftenMore ss _ _ h1)
include hn' in
theorem cg_assign : Cg sz' (assign sz ex) (assign sz' ex') :=
  cg_once (cg_once (cg_often (cg_often (cg_unary hx hn') (nice_unary hn') _) (nice_prod hn') _) _) _
include hn' in
theorem cg_exprHere : Cg sz' (exprHere sz ex) (exprHere sz' ex') := by
  have hb := fun ts => cg_behind (sz := sz) hx ts
  have c1 : Cu sz' (fun s => (behind sz ex [tArrow] (name sz [2] s).2).2) (fun s => (behind sz' ex' [tArrow] (name sz' [2] s).2).2) := (cg_name [2]).snd.then (hb [tArrow]).snd
  have c2 : Cu sz' (fun s => (behind sz ex [tEq, tIn] (name sz [2] s).2).2) (fun s => (behind sz' ex' [tEq, tIn] (name sz' [2] s).2).2) := (cg_name [2]).snd.then (hb [tEq, tIn]).snd
  have c3 : Cu sz' (fun s => (behind sz ex [tEq, tIn] (name sz [2] (name sz [2] s).2).2).2) (fun s => (behind sz' ex' [tEq, tIn] (name sz' [2] (name sz' [2] s).2).2).2) := ((cg_name [2]).snd.then (cg_name [2]).snd).then (hb [tEq, tIn]).snd
  have c4 : Cu sz' (fun s => (ways sz ex (behind sz ex [tMatch] s).2).2) (fun s => (ways sz' ex' (behind sz' ex' [tMatch] s).2).2) := (hb [tMatch]).snd.then (cg_ways hx hn').snd
  have c5 : Cu sz' (fun s => (clauses sz ex (ex (name sz [3] s).2).2).2) (fun s => (clauses sz' ex' (ex' (name sz' [3] s).2).2).2) := ((cg_name [3]).snd.then hx.snd).then (cg_clauses hx hn').snd
  have hq0 : ∀ ts s, Over sz' s → isT ts s = false := fun ts s h => h.isT ts
  have hq : ∀ ts s s', Sy s s' → s'.ws ≠ [] → isT ts s' = isT ts s := fun ts s s' h h0 => h.isT h0 ts
  unfold exprHere
  dsimp only
  refine Cg.askTake (fun s => isT [tFun] s) (hq0 _) (hq _) c1 (fun _ => rfl) (fun _ => rfl) ?_
  refine Cg.askTake (fun s => isT [tLet] s) (hq0 _) (hq _) c2 (fun _ => rfl) (fun _ => rfl) ?_
  refine Cg.askTake (fun s => isT [tRec] s) (hq0 _) (hq _) c3 (fun _ => rfl) (fun _ => rfl) ?_
  refine Cg.ask (fun s => isT [tIf] s) (hq0 _) (hq _) (fun s _ h => (hb [tIf, tThen, tElse]).bad s h) (fun s s' h _ _ he => (hb [tIf, tThen, tElse]).step s s' h he) ?_
  refine Cg.ask (fun s => isT [tMatch] s) (hq0 _) (hq _) (fun s _ h => c4.bad s h) (fun s s' h _ _ he => c4.step s s' h he) ?_
  exact Cg.askTake (fun s => isT [tHandle] s) (hq0 _) (hq _) c5 (fun _ => rfl) (fun _ => rfl) (cg_assign hx hn')
include hn' in
theorem cg_exprStep : Cg sz' (exprStep sz ex) (exprStep sz' ex') where
  bad := fun s h => by
    unfold exprStep; dsimp only; split
    · exact fail_bad _ _ _ (by decide)
    · exact (cg_exprHere (sz := sz) hx hn').bad { s with wi := s.wi + 1 } h
  over := fun s h => by
    unfold exprStep; dsimp only; split
    · exact h.fail (.inr rfl)
    · exact (cg_exprHere (sz := sz) hx hn').over { s with wi := s.wi + 1 } h
  step := fun s s' h he => by
    have hwi : s.wi = s'.wi := h.2.2.1
    unfold exprStep at he ⊢
    dsimp only at he ⊢
    split
    · rename_i hy
      rw [if_pos (by omega)] at he
      exact absurd he (fail_bad _ _ _ (by decide))
    · rename_i hy
      rw [if_neg (by omega)] at he ⊢
      have hs : Sy { s with wi := s.wi + 1 } { s' with wi := s'.wi + 1 } := ⟨h.1, h.2.1, by show s.wi + 1 = s'.wi + 1; omega, h.2.2.2⟩
      rcases (cg_exprHere (sz := sz) hx hn').step _ _ hs he with h1 | h1
      · exact .inl ⟨h1.1, h1.2.1, by show _ - 1 = _ - 1; rw [h1.2.2.1], h1.2.2.2⟩
      · exact .inr h1
end
theorem cg_expr (sz sz' : Nat) : ∀ n, Cg sz' (expr sz n) (expr sz' n)
  | 0 => ⟨fun _ h => h, fun _ h => h, fun _ _ h _ => .inl h⟩
  | n + 1 => cg_exprStep (cg_expr sz sz' n) (nice_expr sz' n)

section
variable {sz sz' : Nat}
theorem bad_aType : ∀ s, s.er ≠ 0 → (aType s).2.er ≠ 0 := by
  intro s h
  unfold aType
  repeat' split
  all_goals exact h
theorem over_aType {s : St} (h : Over sz' s) : aType s = (none, s) := by
  unfold aType
  rw [h.isT, h.isT, h.isT, h.isOf]
  rfl
theorem step_aType {s s' : St} (h : Sy s s') : (Sy (aType s).2 (aType s').2 ∧ (aType s).1.isSome = (aType s').1.isSome) ∨ Over sz' (aType s').2 := by
  by_cases h0 : s'.ws = []
  · right
    rw [over_aType (h.over (sz := sz') h0)]
    exact h.over h0
  · have ht := h.take h0
    unfold aType
    rw [h.isT h0, h.isT h0, h.isT h0, h.isOf h0]
    repeat' split
    all_goals first | exact .inl ⟨ht, rfl⟩ | exact .inl ⟨h, rfl⟩
theorem cg_mustType : Cg sz' (mustType sz) (mustType sz') where
  bad := fun s h => by
    have ha := bad_aType s h
    unfold mustType
    rcases hA : aType s with ⟨_ | t, s1⟩
    · exact fail_bad _ _ _ (by decide)
    · rw [hA] at ha; exact ha
  over := fun s h => by
    unfold mustType
    rw [over_aType h]
    exact h.fail (.inl rfl)
  step := fun s s' h he => by
    have hst := step_aType (sz' := sz') h
    unfold mustType at he ⊢
    rcases hA : aType s with ⟨_ | t, s1⟩
    · rw [hA] at he; exact absurd he (fail_bad _ _ _ (by decide))
    · rw [hA] at he hst
      rcases hst with ⟨h1, h2⟩ | h1
      · rcases hB : aType s' with ⟨_ | t', s1'⟩
        · rw [hB] at h2; cases h2
        · rw [hB] at h1; exact .inl h1
      · rcases hB : aType s' with ⟨_ | t', s1'⟩
        · rw [hB] at h1; exact .inr (Over.fail h1 (.inl rfl))
        · rw [hB] at h1; exact .inr h1
theorem cg_sig : Cg sz' (sig sz) (sig sz') := Cg.of (((((cg_name [2]).snd.then (cu_must1 tColon)).then cg_mustType.snd).then (cu_must1 tArrow)).then cg_mustType.snd)
theorem bad_conMore : ∀ n s, s.er ≠ 0 → (conMore n s).2.er ≠ 0 := by
  intro n
  induction n with
  | zero => exact fun _ h => h
  | succ n ih =>
    intro s h
    have ha := bad_aType s h
    unfold conMore
    rcases hA : aType s with ⟨_ | t, s1⟩
    · rw [hA] at ha; exact ha
    · rw [hA] at ha; exact ih _ ha
theorem over_conMore (n : Nat) {s : St} (h : Over sz' s) : Over sz' (conMore n s).2 := by
  cases n with
  | zero => exact h
  | succ n => unfold conMore; rw [over_aType h]; exact h
theorem step_conMore : ∀ n s s', Sy s s' → Sy (conMore n s).2 (conMore n s').2 ∨ Over sz' (conMore n s').2 := by
  intro n
  induction n with
  | zero => exact fun _ _ h => .inl h
  | succ n ih =>
    intro s s' h
    have hst := step_aType (sz' := sz') h
    unfold conMore
    rcases hA : aType s with ⟨_ | t, s1⟩
    · rw [hA] at hst
      rcases hst with ⟨h1, h2⟩ | h1
      · rcases hB : aType s' with ⟨_ | t', s1'⟩
        · rw [hB] at h1; exact .inl h1
        · rw [hB] at h2; cases h2
      · rcases hB : aType s' with ⟨_ | t', s1'⟩
        · rw [hB] at h1; exact .inr h1
        · rw [hB] at h1; exact .inr (over_conMore n h1)
    · rw [hA] at hst
      rcases hst with ⟨h1, h2⟩ | h1
      · rcases hB : aType s' with ⟨_ | t', s1'⟩
        · rw [hB] at h2; cases h2
        · rw [hB] at h1; exact ih _ _ h1
      · rcases hB : aType s' with ⟨_ | t', s1'⟩
        · rw [hB] at h1; exact .inr h1
        · rw [hB] at h1; exact .inr (over_conMore n h1)
theorem cg_conAll : Cg sz' (fun s => conMore (s.ws.length + 1) s) (fun s => conMore (s.ws.length + 1) s) where
  bad := fun s h => bad_conMore _ s h
  over := fun s h => over_conMore _ h
  step := fun s s' h _ => by
    have := step_conMore (sz' := sz') (s.ws.length + 1) s s' h
    rw [conMore_fuel (s.ws.length + 1) (s'.ws.length + 1) s' (by have := h.len; omega) (by omega)] at this
    exact this
theorem cg_con : Cg sz' (con sz) (con sz') := Cg.of ((cg_name [3]).snd.then cg_conAll.snd)
theorem cg_effect : Cg sz' (effect sz) (effect sz') := Cg.of ((cg_name [3]).snd.then (cg_list cg_sig (nice_sig sz') tLb tSemi tRb).snd)
theorem cg_data : Cg sz' (data sz) (data sz') := Cg.of ((cg_name [3]).snd.then (cg_list cg_con (nice_con sz') tLb tSemi tRb).snd)
theorem bad_decls : ∀ n es ds s, s.er ≠ 0 → (decls sz n es ds s).2.er ≠ 0 := by
  intro n
  induction n with
  | zero => exact fun _ _ _ h => h
  | succ n ih =>
    intro es ds s h
    unfold decls
    split
    · split
      · exact ih _ _ _ ((cg_effect (sz := sz) (sz' := sz)).bad _ h)
      · exact ih _ _ _ ((cg_data (sz := sz) (sz' := sz)).bad _ (must1_bad _ _ _ h))
    · exact h
theorem over_decls (n : Nat) (es : List (Str × List Sig)) (ds : List (Str × List Con)) {s : St} (h : Over sz' s) : Over sz' (decls sz' n es ds s).2 := by
  cases n with
  | zero => exact h
  | succ n => unfold decls; rw [if_neg (by rw [h.isT]; decide)]; exact h
theorem step_decls : ∀ n es ds es' ds' s s', Sy s s' → (decls sz n es ds s).2.er = 0 → Sy (decls sz n es ds s).2 (decls sz' n es' ds' s').2 ∨ Over sz' (decls sz' n es' ds' s').2 := by
  intro n
  induction n with
  | zero => exact fun _ _ _ _ _ _ h _ => .inl h
  | succ n ih =>
    intro es ds es' ds' s s' h he
    by_cases h0 : s'.ws = []
    · exact .inr (over_decls (n + 1) _ _ (h.over h0))
    · unfold decls at he ⊢
      rw [h.isT h0, h.isT h0]
      split
      · rename_i hy; rw [if_pos hy] at he
        split
        · rename_i hy2; rw [if_pos hy2] at he
          have he1 : (effect sz (take s)).2.er = 0 := by
            by_cases h1 : (effect sz (take s)).2.er = 0
            · exact h1
            · exact absurd he (bad_decls _ _ _ _ h1)
          rcases (cg_effect (sz := sz) (sz' := sz')).step _ _ (h.take h0) he1 with h1 | h1
          · exact ih _ _ _ _ _ _ h1 he
          · exact .inr (over_decls n _ _ h1)
        · rename_i hy2; rw [if_neg hy2] at he
          have he1 : (data sz (must1 sz tData s)).2.er = 0 := by
            by_cases h1 : (data sz (must1 sz tData s)).2.er = 0
            · exact h1
            · exact absurd he (bad_decls _ _ _ _ h1)
          have hc := (cu_must1 (sz := sz) (sz' := sz') tData).then (cg_data (sz := sz) (sz' := sz')).snd
          rcases hc.step _ _ h he1 with h1 | h1
          · exact ih _ _ _ _ _ _ h1 he
          · exact .inr (over_decls n _ _ h1)
      · exact .inl h
theorem cg_declsAll : Cg sz' (fun s => decls sz s.ws.length [] [] s) (fun s => decls sz' s.ws.length [] [] s) where
  bad := fun s h => bad_decls _ _ _ s h
  over := fun s h => over_decls _ _ _ h
  step := fun s s' h he => by
    have := step_decls (sz := sz) (sz' := sz') s.ws.length [] [] [] [] s s' h he
    rw [decls_fuel sz' s.ws.length s'.ws.length [] [] s' h.len (Nat.le_refl _)] at this
    exact this
theorem cg_exprAll : Cg sz' (fun s => expr sz (s.ws.length + 1) s) (fun s => expr sz' (s.ws.length + 1) s) where
  bad := fun s h => (cg_expr sz sz' _).bad s h
  over := fun s h => (cg_expr sz' sz' _).over s h
  step := fun s s' h he => by
    have := (cg_expr sz sz' (s.ws.length + 1)).step s s' h he
    rw [expr_fuel (sz := sz') (n := s.ws.length + 1) (m := s'.ws.length + 1) (s := s') (by have := h.len; omega) (by omega)] at this
    exact this
/-- Of the first words of a program: a program; or it is told where they end, or too deep. -/
theorem cut_program {ws ws' r : List Tk} (hw : ws = ws' ++ r) (h : (program sz ⟨ws, 0, 0, 0⟩).2.er = 0) :
    ((program sz' ⟨ws', 0, 0, 0⟩).2.er = 0) ∨ ((program sz' ⟨ws', 0, 0, 0⟩).2.er = 3 ∧ (program sz' ⟨ws', 0, 0, 0⟩).2.at_ = sz') ∨ (program sz' ⟨ws', 0, 0, 0⟩).2.er = 6 := by
  have hs : Sy ⟨ws, 0, 0, 0⟩ ⟨ws', 0, 0, 0⟩ := ⟨rfl, rfl, rfl, r, hw⟩
  have hc := (cg_declsAll (sz := sz) (sz' := sz')).snd.then (cg_exprAll (sz := sz) (sz' := sz')).snd
  unfold program at h ⊢
  dsimp only at h ⊢
  have hne : ∀ {x : Nat}, (fail x 3 (expr sz ((decls sz ws.length [] [] ⟨ws, 0, 0, 0⟩).2.ws.length + 1) (decls sz ws.length [] [] ⟨ws, 0, 0, 0⟩).2).2).er ≠ 0 := fail_bad _ _ _ (by decide)
  split at h
  · exact absurd h (fail_bad _ _ _ (by decide))
  · rename_i hz
    have hst := hc.step _ _ hs h
    dsimp only at hst
    rcases hst with h1 | h1
    · have hl := h1.len
      rw [if_neg (by omega)]
      exact .inl h1.2.1
    · rw [if_neg (by rw [h1.1]; simp)]
      exact h1.2
end
end Pz
end Go.Proofs.YtnkfkaahjplnmaaGreatDoor

/- Plain facts on Pz: a term that was read has no more parts than twice its words. -/
namespace Go.Proofs.YtnkfkaahjplnmaaGreatDoor
namespace Pz
open Lx

mutual
/-- How many terms stand in a term, with itself. -/
def Tm.size : Tm → Nat
  | .mk _ _ _ _ _ kids arms => 1 + (sizeL kids + sizeA arms)
def sizeL : List Tm → Nat
  | [] => 0
  | t :: r => t.size + sizeL r
def sizeA : List (Str × List Str × Tm) → Nat
  | [] => 0
  | a :: r => a.2.2.size + sizeA r
end

def Wt {α : Type} (n : Nat) (wt : α → Nat) (f : St → α × St) : Prop := ∀ s, s.ws.length < n → (f s).2.er = 0 → wt (f s).1 + 2 * (f s).2.ws.length ≤ 2 * s.ws.length
def w1 (t : Tm) : Nat := t.size + 1
def wA (a : Arm) : Nat := a.2.2.size + 1
theorem must1_ok {sz : Nat} {t : Str} {s : St} (h : (must1 sz t s).er = 0) : must1 sz t s = take s ∧ (take s).ws.length + 1 = s.ws.length ∧ isT [t] s = true := by
  unfold must1 at h ⊢
  split
  · rename_i hy
    exact ⟨rfl, take_lt (isT_pos hy), hy⟩
  · rename_i hn
    rw [if_neg hn] at h
    exact absurd h (fail_bad _ _ _ (by decide))
theorem name_ok {sz : Nat} {ks : List Nat} {s : St} (h : (name sz ks s).2.er = 0) : (name sz ks s) = ((hd s).t, take s) ∧ (take s).ws.length + 1 = s.ws.length ∧ isOf ks s = true := by
  unfold name at h ⊢
  split
  · rename_i hy
    exact ⟨rfl, take_lt (isOf_pos hy), hy⟩
  · rename_i hn
    rw [if_neg hn] at h
    exact absurd h (fail_bad _ _ _ (by decide))
def Bad {α : Type} (f : St → α × St) : Prop := ∀ s, s.er ≠ 0 → (f s).2.er ≠ 0
theorem Bad.ok {α : Type} {f : St → α × St} (h : Bad f) {s : St} (he : (f s).2.er = 0) : s.er = 0 := by
  by_cases h0 : s.er = 0
  · exact h0
  · exact absurd he (h s h0)
theorem must1_er {sz : Nat} {t : Str} {s : St} (he : (must1 sz t s).er = 0) : s.er = 0 := by
  by_cases h0 : s.er = 0
  · exact h0
  · exact absurd he (must1_bad _ _ _ h0)

def wtL {α : Type} (wt : α → Nat) : List α → Nat
  | [] => 0
  | a :: r => wt a + wtL wt r
theorem wt_more {α : Type} {wt : α → Nat} {m : Nat} {f : St → α × St} (hf : Wt m wt f) (hb : Bad f) (hn : Nice f) (b : Str) : ∀ n, Wt m (wtL wt) (more f b n) := by
  intro n
  induction n with
  | zero => intro s _ _; simp [more, wtL]
  | succ n ih =>
    intro s hs he
    unfold more at he ⊢
    split
    · rename_i hy
      rw [if_pos hy] at he
      have h3 := take_lt (isT_pos hy)
      have h4 := (hn (take s)).1
      have h1 := ih _ (by omega) he
      have h2 := hf _ (by omega) (Bad.ok (bad_more hb b n) he)
      simp only [wtL]
      omega
    · simp [wtL]
theorem wt_list {α : Type} {wt : α → Nat} {m : Nat} {f : St → α × St} (hf : Wt m wt f) (hb : Bad f) (hn : Nice f) (sz : Nat) (o b c : Str) : Wt m (wtL wt) (list sz f o b c) := by
  intro s hs he
  unfold list at he ⊢
  dsimp only at he ⊢
  have h2 := (le_must1 sz o s).1
  split
  · rename_i hy
    rw [if_pos hy] at he
    have h1 := (le_must1 sz c (must1 sz o s)).1
    simp only [wtL]
    omega
  · rename_i hy
    rw [if_neg hy] at he
    dsimp only at he ⊢
    have e2 := must1_er he
    have h5 := (hn (must1 sz o s)).1
    have h1 := wt_more hf hb hn b _ _ (by omega) e2
    have h2 := hf _ (by omega) (Bad.ok (bad_more hb b _) e2)
    have h3 := (le_must1 sz c (more f b (f (must1 sz o s)).2.ws.length (f (must1 sz o s)).2).2).1
    simp only [wtL]
    omega
theorem sizeL_wt : ∀ l : List Tm, wtL w1 l = sizeL l + l.length
  | [] => by simp [wtL, sizeL]
  | t :: r => by simp [wtL, sizeL, sizeL_wt r, w1]; omega
theorem sizeA_wt : ∀ l : List Arm, wtL wA l = sizeA l + l.length
  | [] => by simp [wtL, sizeA]
  | t :: r => by simp [wtL, sizeA, sizeA_wt r, wA]; omega

section
variable {sz n : Nat} {ex : St → Tm × St} (hx : Wt n w1 ex) (hn : Nice ex) (hc : Cg sz ex ex)
include hx hn hc
theorem wt_behind : ∀ ts s, (∀ t, ts[0]? = some t → (must1 sz t s).ws.length < n) → (behind sz ex ts s).2.er = 0 → sizeL (behind sz ex ts s).1 + 3 * ts.length + 2 * (behind sz ex ts s).2.ws.length ≤ 2 * s.ws.length := by
  intro ts
  induction ts with
  | nil => intro s _ _; simp [behind, sizeL]
  | cons t ts ih =>
    intro s hs he
    have hs0 := hs t rfl
    unfold behind at he ⊢
    have h0 := (hn (must1 sz t s)).1
    have h1 := ih _ (fun t' _ => by have := (le_must1 sz t' (ex (must1 sz t s)).2).1; omega) he
    have e1 := Bad.ok ((cg_behind (sz := sz) hc ts).bad) he
    have h2 := hx _ hs0 e1
    obtain ⟨h3, h4, _⟩ := must1_ok (Bad.ok hc.bad e1)
    rw [← h3] at h4
    simp only [sizeL, List.length_cons, w1] at h2 ⊢
    omega
theorem wt_does (nm : Str) (vs : List Str) : Wt n wA (does sz ex nm vs) := by
  have _hn := hn
  have _hc := hc
  intro s hs he
  unfold does at he ⊢
  dsimp only at he ⊢
  have h3 := (le_must1 sz tArrow s).1
  have h2 := hx _ (by omega) he
  unfold wA
  unfold w1 at h2
  show (ex (must1 sz tArrow s)).1.size + 1 + _ ≤ _
  omega
theorem wt_way : Wt n wA (way sz ex) := by
  intro s hs he
  unfold way at he ⊢
  dsimp only at he ⊢
  have h2 := (nice_vars (name sz [3] s).2.ws.length (name sz [3] s).2).1
  have h3 := (nice_name sz [3] s).1
  have h1 := wt_does hx hn hc _ _ _ (by omega) he
  omega
theorem wt_ways : Wt n sizeA (ways sz ex) := by
  intro s hs he
  have := wt_list (wt_way hx hn hc) ((cg_way (sz := sz) hc).bad) (nice_way hn) sz tLb tSemi tRb s hs he
  rw [sizeA_wt] at this
  unfold ways
  omega
theorem wt_clause : Wt n wA (clause sz ex) := by
  intro s hs he
  unfold clause at he ⊢
  dsimp only at he ⊢
  have h2 := (nice_name sz [2] (name sz [2] (name sz [2] s).2).2).1
  have h3 := (nice_name sz [2] (name sz [2] s).2).1
  have h4 := (nice_name sz [2] s).1
  have h1 := wt_does hx hn hc _ _ _ (by omega) he
  omega
theorem wt_clauses : Wt n sizeA (clauses sz ex) := by
  intro s hs he
  unfold clauses at he ⊢
  dsimp only at he ⊢
  have e1 := must1_er he
  have h3 := (nice_name sz [2] (must sz [tLb, tReturn] s)).1
  have h4 := (le_must sz [tLb, tReturn] s).1
  have h6 := (nice_does (sz := sz) hn tReturn [(name sz [2] (must sz [tLb, tReturn] s)).1] (name sz [2] (must sz [tLb, tReturn] s)).2).1
  have h1 := wt_more (wt_clause hx hn hc) ((cg_clause (sz := sz) hc).bad) (nice_clause hn) tSemi _ _ (by omega) e1
  have e2 := Bad.ok (bad_more ((cg_clause (sz := sz) hc).bad) tSemi _) e1
  have h2 := wt_does hx hn hc _ _ _ (by omega) e2
  have h5 := (le_must1 sz tRb (more (clause sz ex) tSemi (does sz ex tReturn [(name sz [2] (must sz [tLb, tReturn] s)).1] (name sz [2] (must sz [tLb, tReturn] s)).2).2.ws.length (does sz ex tReturn [(name sz [2] (must sz [tLb, tReturn] s)).1] (name sz [2] (must sz [tLb, tReturn] s)).2).2).2).1
  rw [sizeA_wt] at h1
  simp only [sizeA]
  unfold wA at h2
  omega
theorem wt_fields : Wt n sizeL (fields sz ex) := by
  intro s hs he
  unfold fields at he ⊢
  split
  · rename_i hy
    rw [if_pos hy] at he
    have := wt_list hx hc.bad hn sz tOpen tComma tShut s hs he
    rw [sizeL_wt] at this
    omega
  · simp [sizeL]
theorem wt_bracketed (a : Nat) (s : St) (hs : s.ws.length < n) (he : (bracketed sz ex a s).2.er = 0) : (bracketed sz ex a s).1.size + 1 + 2 * (bracketed sz ex a s).2.ws.length ≤ 2 * s.ws.length := by
  have _hn := hn
  have _hc := hc
  unfold bracketed at he ⊢
  split
  · rename_i hy
    have := take_lt (isT_pos hy)
    simp only [Tm.size, sizeL, sizeA]
    omega
  · rename_i hy
    rw [if_neg hy] at he
    dsimp only at he ⊢
    have h1 := hx _ hs (must1_er he)
    have h2 := (le_must1 sz tShut (ex s).2).1
    unfold w1 at h1
    omega
theorem wt_atom {s s1 : St} {t : Tm} (hs : s.ws.length < n + 1) (h : atom sz ex s = (some t, s1)) (he : s1.er = 0) : t.size + 1 + 2 * s1.ws.length ≤ 2 * s.ws.length := by
  unfold atom at h
  dsimp only at h
  repeat' split at h
  all_goals (injection h with h1 h2)
  all_goals (try cases h1)
  all_goals subst h2
  all_goals (first | (have hp := isOf_pos ‹isOf _ s = true›; have ht := take_lt hp) | (have hp := isT_pos ‹isT _ s = true›; have ht := take_lt hp))
  all_goals first
    | (simp only [Tm.size, sizeL, sizeA]; omega)
    | (have h5 := wt_fields hx hn hc (take s) (by omega) he; simp only [Tm.size, sizeA]; omega)
    | (have h5 := (le_must sz [tOpen, tShut] (take s)).1; simp only [Tm.size, sizeL, sizeA]; omega)
    | (have h5 := wt_bracketed hx hn hc (whr sz s) (take s) (by omega) he; omega)
theorem wt_appMore : ∀ k f s, s.ws.length < n + 1 → (appMore sz ex k f s).2.er = 0 → (appMore sz ex k f s).1.size + 2 * (appMore sz ex k f s).2.ws.length ≤ f.size + 2 * s.ws.length := by
  intro k
  induction k with
  | zero => intro f s _ _; simp [appMore]
  | succ k ih =>
    intro f s hs he
    unfold appMore at he ⊢
    rcases hA : atom sz ex s with ⟨_ | t, s1⟩
    · have := atom_none hA
      subst this
      dsimp only
      omega
    · rw [hA] at he
      dsimp only at he ⊢
      have h3 := atom_some (sz := sz) hn hA
      have h1 := ih _ _ (by omega) he
      have e1 := Bad.ok (bad_appMore (sz := sz) hc hn k _) he
      have h2 := wt_atom hx hn hc hs hA e1
      simp only [Tm.size, sizeL, sizeA] at h1
      omega
theorem wt_app : Wt (n + 1) w1 (app sz ex) := by
  intro s hs he
  unfold app at he ⊢
  rcases hA : atom sz ex s with ⟨_ | t, s1⟩
  · rw [hA] at he
    exact absurd he (fail_bad _ _ _ (by decide))
  · rw [hA] at he
    dsimp only at he ⊢
    have h3 := atom_some (sz := sz) hn hA
    have h1 := wt_appMore hx hn hc _ _ _ (by omega) he
    have e1 := Bad.ok (bad_appMore (sz := sz) hc hn _ _) he
    have h2 := wt_atom hx hn hc hs hA e1
    unfold w1
    omega
omit hx hn hc in
theorem ahead_len : ∀ k s, (ahead k s).1.length + (ahead k s).2.ws.length = s.ws.length := by
  intro k
  induction k with
  | zero => intro s; simp [ahead]
  | succ k ih =>
    intro s
    unfold ahead
    split
    · rename_i hy
      have h1 := ih (take s)
      have h2 := take_lt (pre_pos hy)
      simp only [List.length_cons]
      omega
    · simp
omit hx hn hc in
theorem wrap_size (l : List Tk) (t : Tm) : (l.foldr wrap t).size = l.length + t.size := by
  induction l with
  | nil => simp
  | cons x l ih =>
    simp only [List.foldr_cons, wrap, Tm.size, sizeL, sizeA, ih, List.length_cons]
    omega
theorem wt_unary : Wt (n + 1) w1 (unary sz ex) := by
  intro s hs he
  unfold unary at he ⊢
  dsimp only at he ⊢
  have h1 := ahead_len s.ws.length s
  have h2 := wt_app hx hn hc _ (by omega) he
  unfold w1 at h2 ⊢
  rw [wrap_size]
  omega
omit hx hn hc in
theorem wt_both {m : Nat} {f : St → Tm × St} (hf : Wt m w1 f) (l : Tm) (s : St) (hs : s.ws.length < m) (h0 : 0 < s.ws.length) (he : (both f l s).2.er = 0) : (both f l s).1.size + 2 * (both f l s).2.ws.length ≤ l.size + 2 * s.ws.length := by
  unfold both at he ⊢
  dsimp only at he ⊢
  have h1 := take_lt h0
  have h2 := hf _ (by omega) he
  unfold w1 at h2
  simp only [Tm.size, sizeL, sizeA]
  omega
omit hx hn hc in
theorem wt_once {m : Nat} {f : St → Tm × St} (hf : Wt m w1 f) (hb : Bad f) (hnf : Nice f) (ss : List Str) : Wt m w1 (once f ss) := by
  intro s hs he
  have h3 := (hnf s).1
  unfold once at he ⊢
  split
  · rename_i hy
    rw [if_pos hy] at he
    have h1 := wt_both hf _ _ (by omega) (isT_pos hy) he
    have h2 := hf _ hs (by
      by_cases h1 : (f s).2.er = 0
      · exact h1
      · exact absurd he (hb _ h1))
    unfold w1 at h2 ⊢
    omega
  · rename_i hy
    rw [if_neg hy] at he
    exact hf _ hs he
omit hx hn hc in
theorem wt_oftenMore {m : Nat} {f : St → Tm × St} (hf : Wt m w1 f) (hb : Bad f) (hnf : Nice f) (ss : List Str) : ∀ k l s, s.ws.length < m → (oftenMore f ss k l s).2.er = 0 → (oftenMore f ss k l s).1.size + 2 * (oftenMore f ss k l s).2.ws.length ≤ l.size + 2 * s.ws.length := by
  intro k
  induction k with
  | zero => intro l s _ _; simp [oftenMore]
  | succ k ih =>
    intro l s hs he
    unfold oftenMore at he ⊢
    split
    · rename_i hy
      rw [if_pos hy] at he
      have h3 := (nice_both hnf l s).1
      have h1 := ih _ _ (by omega) he
      have h2 := wt_both hf l s hs (isT_pos hy) (Bad.ok (bad_oftenMore hb ss k _) he)
      omega
    · simp
omit hx hn hc in
theorem wt_often {m : Nat} {f : St → Tm × St} (hf : Wt m w1 f) (hb : Bad f) (hnf : Nice f) (ss : List Str) : Wt m w1 (often f ss) := by
  intro s hs he
  have h3 := (hnf s).1
  unfold often at he ⊢
  have h1 := wt_oftenMore hf hb hnf ss _ _ _ (by omega) he
  have h2 := hf _ hs (Bad.ok (bad_oftenMore hb ss _ _) he)
  unfold w1 at h2 ⊢
  omega
theorem wt_assign : Wt (n + 1) w1 (assign sz ex) := by
  have b1 := cg_unary (sz := sz) hc hn
  have b2 := cg_often (sz' := sz) b1 (nice_unary hn) [tStar, tSlash]
  have b3 := cg_often (sz' := sz) b2 (nice_prod hn) [tPlus, tMinus]
  have b4 := cg_once (sz' := sz) b3 [tLess, tEq]
  exact wt_once (wt_once (wt_often (wt_often (wt_unary hx hn hc) b1.bad (nice_unary hn) _) b2.bad (nice_prod hn) _) b3.bad (nice_sum hn) _) b4.bad (nice_cmp hn) _
theorem wt_exprHere : Wt (n + 1) w1 (exprHere sz ex) := by
  intro s hs he
  have h2 := (nice_name sz [2] (take s)).1
  have h3 := (nice_name sz [2] (name sz [2] (take s)).2).1
  have h4 := (nice_name sz [3] (take s)).1
  have h5 := (hn (name sz [3] (take s)).2).1
  unfold exprHere at he ⊢
  dsimp only at he ⊢
  split
  · rename_i hy; rw [if_pos hy] at he
    have h1 := take_lt (isT_pos hy)
    have h6 := wt_behind hx hn hc [tArrow] _ (fun t' _ => by have := (le_must1 sz t' (name sz [2] (take s)).2).1; omega) he
    simp only [w1, Tm.size, sizeA, List.length_cons, List.length_nil] at h6 ⊢
    omega
  rename_i hy; rw [if_neg hy] at he
  split
  · rename_i hy; rw [if_pos hy] at he
    have h1 := take_lt (isT_pos hy)
    have h6 := wt_behind hx hn hc [tEq, tIn] _ (fun t' _ => by have := (le_must1 sz t' (name sz [2] (take s)).2).1; omega) he
    simp only [w1, Tm.size, sizeA, List.length_cons, List.length_nil] at h6 ⊢
    omega
  rename_i hy; rw [if_neg hy] at he
  split
  · rename_i hy; rw [if_pos hy] at he
    have h1 := take_lt (isT_pos hy)
    have h6 := wt_behind hx hn hc [tEq, tIn] _ (fun t' _ => by have := (le_must1 sz t' (name sz [2] (name sz [2] (take s)).2).2).1; omega) he
    simp only [w1, Tm.size, sizeA, List.length_cons, List.length_nil] at h6 ⊢
    omega
  rename_i hy; rw [if_neg hy] at he
  split
  · rename_i hy; rw [if_pos hy] at he
    have h7 := must1_lt (sz := sz) hy
    have h6 := wt_behind hx hn hc [tIf, tThen, tElse] s (fun t' ht => by
      have e : t' = tIf := by simpa using ht.symm
      rw [e]; omega) he
    simp only [w1, Tm.size, sizeA, List.length_cons, List.length_nil] at h6 ⊢
    omega
  rename_i hy; rw [if_neg hy] at he
  split
  · rename_i hy; rw [if_pos hy] at he
    have h7 := must1_lt (sz := sz) hy
    have h8 : (behind sz ex [tMatch] s).2.ws.length < n := by
      have := (hn (must1 sz tMatch s)).1
      simp only [behind]
      omega
    have h9 := wt_ways hx hn hc _ h8 he
    have h6 := wt_behind hx hn hc [tMatch] s (fun t' ht => by
      have e : t' = tMatch := by simpa using ht.symm
      rw [e]; omega) (Bad.ok ((cg_ways (sz := sz) hc hn).bad) he)
    simp only [w1, Tm.size, List.length_cons, List.length_nil] at h6 ⊢
    omega
  rename_i hy; rw [if_neg hy] at he
  split
  · rename_i hy; rw [if_pos hy] at he
    have h1 := take_lt (isT_pos hy)
    have h9 := wt_clauses hx hn hc _ (by omega) he
    have h6 := hx _ (by omega) (Bad.ok ((cg_clauses (sz := sz) hc hn).bad) he)
    simp only [w1, Tm.size, sizeL] at h6 ⊢
    omega
  rename_i hy; rw [if_neg hy] at he
  exact wt_assign hx hn hc s hs he
theorem wt_exprStep : Wt (n + 1) w1 (exprStep sz ex) := by
  intro s hs he
  unfold exprStep at he ⊢
  dsimp only at he ⊢
  split
  · rename_i hy; rw [if_pos hy] at he
    exact absurd he (fail_bad _ _ _ (by decide))
  · rename_i hy; rw [if_neg hy] at he
    exact wt_exprHere hx hn hc { s with wi := s.wi + 1 } hs he
end
theorem wt_expr (sz : Nat) : ∀ n, Wt n w1 (expr sz n)
  | 0 => fun s hs _ => by omega
  | n + 1 => wt_exprStep (wt_expr sz n) (nice_expr sz n) (cg_expr sz sz n)
theorem nice_decls (sz : Nat) : ∀ n es ds, Nice (decls sz n es ds) := by
  intro n
  induction n with
  | zero => intro es ds s; exact Le.refl _
  | succ n ih =>
    intro es ds s
    unfold decls
    split
    · split
      · exact ((le_take s).trans (nice_effect sz _)).trans (ih _ _ _)
      · exact ((le_must1 sz tData s).trans (nice_data sz _)).trans (ih _ _ _)
    · exact Le.refl _
/-- A program that was read has no more terms than twice its words. -/
theorem size_program (sz : Nat) (ws : List Tk) (h : (program sz ⟨ws, 0, 0, 0⟩).2.er = 0) : (program sz ⟨ws, 0, 0, 0⟩).1.body.size ≤ 2 * ws.length := by
  unfold program at h ⊢
  dsimp only at h ⊢
  split at h
  · exact absurd h (fail_bad _ _ _ (by decide))
  · have h1 := wt_expr sz ((decls sz ws.length [] [] ⟨ws, 0, 0, 0⟩).2.ws.length + 1) _ (by omega) h
    have h2 := (nice_decls sz ws.length [] [] ⟨ws, 0, 0, 0⟩).1
    unfold w1 at h1
    dsimp only at h2
    omega
end Pz
end Go.Proofs.YtnkfkaahjplnmaaGreatDoor
