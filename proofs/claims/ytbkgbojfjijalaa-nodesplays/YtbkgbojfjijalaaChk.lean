/- The walks of Check, the program's and the reference's, and of the sizes. -/
import Derived.Test.YtbkgbojfjijalaaOf
namespace Go.Proofs.Ytbkgbojfjijalaa
open Go.RowKit

/-- A value as plain data; its block. -/
abbrev vl (k n : Int) (s : ByteArray) : Value := .agg #[.int .i64 k, .int .i64 n, .string s]
abbrev vb (k n : Int) (s : ByteArray) : Obj := .cells #[.int .i64 k, .int .i64 n, .string s] 32

/-- Is it in form? -/
def inF (k n : Int) (s : ByteArray) : Bool :=
  if k = 0 then decide (n = 0) && s.toList.isEmpty else if k = 1 then decide (n = 0 ∨ n = 1) && s.toList.isEmpty else if k = 2 then s.toList.isEmpty
  else if k = 3 then decide (n = 0) && decide ((s.size : Int) ≤ 10000) else if k = 4 ∨ k = 5 ∨ k = 6 then decide (1 ≤ n) && s.toList.isEmpty else false
def chk (k n : Int) (s : ByteArray) : Int := if inF k n s then 0 else 2

set_option maxHeartbeats 1000000 in
theorem check_any (k n : Int) (s : ByteArray) (w : World)  :
    Calls Try.prog 31 #[vl k n s] w fun e w' => e = .returned (.int .i64 (chk k n s)) ∧ w' = w.alloc (vb k n s) := by
  unfold vl vb
  go_enter Try.func31, Try.ntmps31
  go_wp2
  all_goals (go_ret; refine ⟨ret1 ?_, by first | rfl | (simp_all; done)⟩; first | (simp_all [chk, inF]; done) | (simp_all [chk, inF]; omega))

set_option maxHeartbeats 1000000 in
theorem rcheck_any (k n : Int) (s : ByteArray) (w : World)  :
    Calls Try.prog 27 #[vl k n s] w fun e w' => e = .returned (.int .i64 (chk k n s)) ∧ w' = w.alloc (vb k n s) := by
  unfold vl vb
  go_enter Try.func27, Try.ntmps27
  go_wp2
  all_goals (go_ret; refine ⟨ret1 ?_, by first | rfl | (simp_all; done)⟩; first | (simp_all [chk, inF]; done) | (simp_all [chk, inF]; omega))

end Go.Proofs.Ytbkgbojfjijalaa
