/- Texts as bytes, bytes as texts. -/
import Derived.Test.YtnkfkaahjplnmaaGreatDoorSha
import Derived.Test.YtnkfkaahjplnmaaGreatDoorGdText
import Derived.Outline
namespace Go.Proofs.YtnkfkaahjplnmaaGreatDoor
open Go.RowKit

theorem conv_sb (s : ByteArray) (w : World) : (convert 9 22 (.string s)).run Tryz.prog w = .ok (.slice (some ⟨w.heap.size, 0, none⟩) s.size (grownCap w s.size 0 5)) (Lib.bytesWorld w 5 s) :=
  Lib.run_convert_string_bytes w 9 22 5 s Tryz.underlying9 Tryz.underlying22 Tryz.underlying5
theorem Bs.bytes (w : World) (l : List UInt8) (n : Nat) (hn : n = (ba l).size) : Bs (Lib.bytesWorld w 5 (ba l)) (.slice (some ⟨w.heap.size, 0, none⟩) n (grownCap w n 0 5)) l := by
  subst hn
  have hs := ba_size l
  refine ⟨_, _, by rw [hs], by have h1 := grownCap_ge w (ba l).size 0 5; have h2 := grownCap_ge w l.length 0 5; omega, fun _ => ⟨_, rfl, fun j hj => ?_⟩⟩
  have e : (⟨w.heap.size, 0, none⟩ : Addr).add j = ⟨w.heap.size, j, none⟩ := by unfold Addr.add; split <;> simp_all
  rw [e, Lib.bytesWorld_cell w 5 (ba l) j (by omega), ba_list]
  simp [List.getD, List.getElem?_eq_getElem hj]
theorem ba_app2 (a b : List UInt8) : ba a ++ ba b = ba (a ++ b) := by
  apply ByteArray.ext
  apply Array.toList_inj.1
  simp [ba]

end Go.Proofs.YtnkfkaahjplnmaaGreatDoor
