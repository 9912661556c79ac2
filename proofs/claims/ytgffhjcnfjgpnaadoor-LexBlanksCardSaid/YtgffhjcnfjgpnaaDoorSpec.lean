/- Plain words of what lex does: the words of a list of bytes; no program stands here. -/
import Derived.Lib.Strings
namespace Go.Proofs.YtgffhjcnfjgpnaaDoor
namespace Lx

/-- Does a byte lie in one of some ranges, each told by its two ends? -/
def inB : List UInt8 → UInt8 → Bool
  | a :: b :: r, c => (decide (a.toNat ≤ c.toNat) && decide (c.toNat ≤ b.toNat)) || inB r c
  | _, _ => false

def spanN (p : UInt8 → Bool) : List UInt8 → Nat
  | [] => 0
  | c :: r => if p c then spanN p r + 1 else 0

/-- Is it a keyword? -/
def kwB (l : List UInt8) : Bool := l == [102, 117, 110] || l == [108, 101, 116] || l == [105, 110] || l == [114, 101, 99] || l == [105, 102] || l == [116, 104, 101, 110] || l == [101, 108, 115, 101] || l == [109, 97, 116, 99, 104] || l == [104, 97, 110, 100, 108, 101] || l == [114, 101, 116, 117, 114, 110] || l == [101, 102, 102, 101, 99, 116] || l == [100, 97, 116, 97] || l == [112, 114, 105, 110, 116] || l == [114, 101, 97, 100] || l == [114, 101, 102] || l == [116, 114, 117, 101] || l == [102, 97, 108, 115, 101] || l == [105, 110, 116] || l == [98, 111, 111, 108] || l == [117, 110, 105, 116]

/-- Does a text begin with another one? -/
def preB (d s : List UInt8) : Bool := d.isPrefixOf s

/-- A word: its kind, its bytes, its value, where it begins. -/
structure Tk where
  k : Nat
  t : List UInt8
  n : Nat
  pos : Nat

def digs : List UInt8 := [48, 57]
def lets : List UInt8 := [65, 90, 97, 122, 95, 95]
def inss : List UInt8 := [65, 90, 97, 122, 95, 95, 48, 57]
def valN (l : List UInt8) : Nat := l.foldl (fun a c => a * 10 + (c.toNat - 48)) 0
def capB : List UInt8 → Bool
  | c :: _ => decide (65 ≤ c.toNat) && decide (c.toNat ≤ 90)
  | [] => false
def numF (l : List UInt8) (n : Nat) : Option (Tk × Nat) :=
  if valN (l.take n) < 9223372036854775808 then some (⟨1, l.take n, valN (l.take n), 0⟩, n) else none
def nameF (l : List UInt8) (n : Nat) : Option (Tk × Nat) :=
  if 60 < n then none
  else if capB l then some (⟨3, l.take n, 0, 0⟩, n)
  else if kwB (l.take n) then some (⟨4, l.take n, 0, 0⟩, n)
  else if preB [33] (l.drop n) then some (⟨6, l.take n, 0, 0⟩, n + 1)
  else some (⟨2, l.take n, 0, 0⟩, n)

/-- How many bytes of blanks and notes stand at the beginning; true: within a note. -/
def skipN : Bool → List UInt8 → Nat
  | _, [] => 0
  | true, c :: r => if c.toNat = 10 then 1 + skipN false r else 1 + skipN true r
  | false, c :: r => if c.toNat = 32 ∨ c.toNat = 9 ∨ c.toNat = 13 ∨ c.toNat = 10 then 1 + skipN false r else if c.toNat = 35 then 1 + skipN true r else 0
def noLf (c : UInt8) : Bool := !(c.toNat == 10)

end Lx
end Go.Proofs.YtgffhjcnfjgpnaaDoor
