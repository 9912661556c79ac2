/- Plain words: what a small name is. -/
import Derived.Test.YtboejbnkkhcccaaGreatDoorGaPure
namespace Go.Proofs.YtboejbnkkhcccaaGreatDoor
def insAll (l : List UInt8) : Bool := l.all (Lx.inB Lx.inss)
/-- Is it a name, as far as its bytes go? -/
def nameB : List UInt8 → Bool
  | [] => false
  | c :: r => !(Lx.inB Lx.digs c) && insAll (c :: r)
/-- Is it a small name? -/
def smallB (l : List UInt8) : Bool := nameB l && !Lx.capB l && decide (l.length ≤ 60) && !Lx.kwB l
end Go.Proofs.YtboejbnkkhcccaaGreatDoor
