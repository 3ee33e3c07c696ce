/- The walks of Check, the program's and the reference's. -/
import Derived.Test.YtimmoecjfkacpaaDoorBase
namespace Go.Proofs.YtimmoecjfkacpaaDoor
open Go.RowKit

/-- A value as plain data; its block. -/
abbrev vl (k n : Int) (s : ByteArray) : Value := .agg #[.int .i64 k, .int .i64 n, .string s]
abbrev vb (k n : Int) (s : ByteArray) : Obj := .cells #[.int .i64 k, .int .i64 n, .string s] 23

/-- Is it in form? -/
def inF (k n : Int) (s : ByteArray) : Bool :=
  if k = 0 then decide (n = 0) && s.toList.isEmpty else if k = 1 then decide (n = 0 ∨ n = 1) && s.toList.isEmpty else if k = 2 then s.toList.isEmpty
  else if k = 3 then decide (n = 0) && decide ((s.size : Int) ≤ 10000) else if k = 4 ∨ k = 5 ∨ k = 6 then decide (1 ≤ n) && s.toList.isEmpty else false
def chk (k n : Int) (s : ByteArray) : Int := if inF k n s then 0 else 2

set_option maxHeartbeats 1000000 in
theorem check_any (k n : Int) (s : ByteArray) (w : World)  :
    Calls Tryd.prog 15 #[vl k n s] w fun e w' => e = .returned (.int .i64 (chk k n s)) ∧ w' = w.alloc (vb k n s) := by
  unfold vl vb
  go_enter Tryd.func15, Tryd.ntmps15
  go_wp2
  all_goals (go_ret; refine ⟨ret1 ?_, by first | rfl | (simp_all; done)⟩; first | (simp_all [chk, inF]; done) | (simp_all [chk, inF]; omega))

set_option maxHeartbeats 1000000 in
theorem rcheck_any (k n : Int) (s : ByteArray) (w : World)  :
    Calls Tryd.prog 9 #[vl k n s] w fun e w' => e = .returned (.int .i64 (chk k n s)) ∧ w' = w.alloc (vb k n s) := by
  unfold vl vb
  go_enter Tryd.func9, Tryd.ntmps9
  go_wp2
  all_goals (go_ret; refine ⟨ret1 ?_, by first | rfl | (simp_all; done)⟩; first | (simp_all [chk, inF]; done) | (simp_all [chk, inF]; omega))

end Go.Proofs.YtimmoecjfkacpaaDoor
