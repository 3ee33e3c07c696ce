/- The cells of a value. -/
import Derived.Test.YtimmoecjfkacpabDoorFix
namespace Go.Proofs.YtimmoecjfkacpabDoor
open Go.RowKit

/-- The cells of a value that lies in block g. -/
structure At (w : World) (g : Nat) (k n : Int) (s : ByteArray) : Prop where
  k : w.cell? ⟨g, 0, none⟩ = some (.int .i64 k)
  n : w.cell? ⟨g, 1, none⟩ = some (.int .i64 n)
  s : w.cell? ⟨g, 2, none⟩ = some (.string s)
  lt : g < w.heap.size
theorem At.new (w : World) (k n : Int) (s : ByteArray) : At (w.alloc (vb k n s)) w.heap.size k n s := by
  refine ⟨?_, ?_, ?_, by simp⟩ <;> simp [go_sem]
theorem At.below {w w' : World} {g : Nat} {k n : Int} {s : ByteArray} (h : At w g k n s) (hb : Below w.heap.size w w') : At w' g k n s :=
  ⟨by rw [hb.cell (by exact h.lt)]; exact h.k, by rw [hb.cell (by exact h.lt)]; exact h.n, by rw [hb.cell (by exact h.lt)]; exact h.s, Nat.lt_of_lt_of_le h.lt hb.size⟩
theorem At.alloc {w : World} {g : Nat} {k n : Int} {s : ByteArray} (h : At w g k n s) (o : Obj) : At (w.alloc o) g k n s := h.below (b1 w o)

end Go.Proofs.YtimmoecjfkacpabDoor
