/- The walk of the reference's Format, its two loops. -/
import Derived.Test.YtimmoecjfkacpabDoorRfmt
namespace Go.Proofs.YtimmoecjfkacpabDoor
open Go.RowKit

theorem ret_s {a b : ByteArray} (h : a = b) : Ending.returned (.string a) = .returned (.string b) := by rw [h]

theorem itoaS_size (n : Int) (h0 : -9223372036854775808 ≤ n) (h1 : n ≤ 9223372036854775807) : (itoaS n).size ≤ 20 := by
  have e : (itoaS n).size = (Lib.itoa n).length := by simp [itoaS, ByteArray.size]
  rw [e]
  unfold Lib.itoa
  split
  · have := digs_len10 18 n.natAbs (by omega)
    simp only [List.length_cons]; omega
  · have := digs_len10 18 n.toNat (by omega)
    omega

end Go.Proofs.YtimmoecjfkacpabDoor
