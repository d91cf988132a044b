/-
  What the scanner's Name makes of a name's parts, plainly.
-/
import Derived.Test.YtjdmaindoohmkaaDoorPLx
import Derived.Lib.Join
namespace Go.Proofs.YtjdmaindoohmkaaDoor.P
open Go.RowKit

def joinP (ps : List ByteArray) : List UInt8 := Lib.join (ps.map (·.data.toList)) [36]
theorem joinP_one (t : ByteArray) : joinP [t] = t.data.toList := Lib.join_one _ _
def longB (t : ByteArray) : Bool := decide (32 < t.size)
def nameP (ps : List ByteArray) (d : Int) : Fd := if ps.any longB = true then bad 3 else ⟨if isIn ⟨(joinP ps).toArray⟩ (wordsOf d) = true then 2 else 1, joinP ps, 0, (joinP ps).length, 0⟩
theorem nameP_one (nm : List UInt8) : nameP [⟨(nm.map Lib.lowerB).toArray⟩] 0 = nameL nm := by
  have hz : (ByteArray.mk (nm.map Lib.lowerB).toArray).size = nm.length := by
    have := len_size (ByteArray.mk (nm.map Lib.lowerB).toArray)
    simpa using this.symm
  unfold nameP nameL nameK
  rw [joinP_one]
  simp [longB, hz]
end Go.Proofs.YtjdmaindoohmkaaDoor.P
