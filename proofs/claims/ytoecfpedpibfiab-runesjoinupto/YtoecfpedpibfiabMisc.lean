/- Small facts that several walks share, and the walk of the reference's count of bytes. -/
import Derived.Test.YtoecfpedpibfiabFix
namespace Go.Proofs.Ytoecfpedpibfiab
open Go.RowKit

theorem encB_iff (r : Int) : encB r = true ↔ 0 ≤ r ∧ r ≤ 1114111 ∧ (r < 55296 ∨ 57343 < r) := by simp [encB]

def byN (r : Int) : Int := if r < 128 then 1 else if r < 2048 then 2 else if r < 65536 then 3 else 4

set_option maxHeartbeats 400000 in
theorem bytes_any (r : Int) (w : World) : Calls Try.prog 22 #[.int .i64 r] w fun e w' => e = .returned (.int .i64 (byN r)) ∧ w' = w := by
  go_enter Try.func22, Try.ntmps22
  go_wp2
  all_goals (go_ret; exact ⟨ret1 (by unfold byN; (repeat' split) <;> omega), rfl⟩)

theorem bel_on {w a b : World} (h : Below w.heap.size w a) (k : Below a.heap.size a b) : Below w.heap.size w b := h.trans (k.mono h.size)

theorem bel_new {w a : World} (h : Below w.heap.size w a) (o : Obj) : Below w.heap.size w (a.alloc o) := h.alloc h.size o

theorem cells_get (L : List Rn) : ∀ (k : Nat) (hk : k < L.length), (cellsOf L)[k * 3]? = some (.int .i64 L[k].1) ∧ (cellsOf L)[k * 3 + 1]? = some (.int .i64 L[k].2.1) ∧ (cellsOf L)[k * 3 + 2]? = some (.int .i64 L[k].2.2) := by
  induction L with
  | nil => intro k hk; simp at hk
  | cons r L ih =>
    intro k hk
    have e : cellsOf (r :: L) = [.int .i64 r.1, .int .i64 r.2.1, .int .i64 r.2.2] ++ cellsOf L := by simp [cellsOf]
    rw [e]
    cases k with
    | zero => simp
    | succ k =>
      have := ih k (by simpa using hk)
      have e3 : (k + 1) * 3 = k * 3 + 3 := by omega
      rw [e3]
      simpa using this

theorem at_cell {B : Nat} {W W1 : World} (h : Below B W W1) {b : Nat} (hb : b < B) (o : Nat) : W1.cell? ⟨b, o, none⟩ = W.cell? ⟨b, o, none⟩ := h.cell (by exact hb)

end Go.Proofs.Ytoecfpedpibfiab
