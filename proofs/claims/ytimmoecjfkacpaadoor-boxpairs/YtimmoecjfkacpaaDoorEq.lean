/- Equality of two boxes. -/
import Derived.Test.YtimmoecjfkacpaaDoorAs
import Derived.Stop.Asserts
namespace Go.Proofs.YtimmoecjfkacpaaDoor
open Go.RowKit

theorem eq54 (w : World) : (binOp .eql 20 (.iface 54 (.agg #[])) (.iface 54 (.agg #[]))).run Tryd.prog w = .ok (.bool true) w := by kernel_rfl
theorem eq55 (x y : Bool) (w : World) : (binOp .eql 20 (.iface 55 (.bool x)) (.iface 55 (.bool y))).run Tryd.prog w = .ok (.bool (x == y)) w := by kernel_rfl
theorem eq56 (x y : Int) (w : World) : (binOp .eql 20 (.iface 56 (.int .i64 x)) (.iface 56 (.int .i64 y))).run Tryd.prog w = .ok (.bool (x == y)) w := by kernel_rfl
theorem eq57 (x y : ByteArray) (w : World) : (binOp .eql 20 (.iface 57 (.string x)) (.iface 57 (.string y))).run Tryd.prog w = .ok (.bool (x == y)) w := by kernel_rfl
theorem eq58 (x y : Int) (w : World) : (binOp .eql 20 (.iface 58 (.int .i64 x)) (.iface 58 (.int .i64 y))).run Tryd.prog w = .ok (.bool (x == y)) w := by kernel_rfl
theorem eq59 (x y : Int) (w : World) : (binOp .eql 20 (.iface 59 (.int .i64 x)) (.iface 59 (.int .i64 y))).run Tryd.prog w = .ok (.bool (x == y)) w := by kernel_rfl
theorem eq60 (x y : Int) (w : World) : (binOp .eql 20 (.iface 60 (.int .i64 x)) (.iface 60 (.int .i64 y))).run Tryd.prog w = .ok (.bool (x == y)) w := by kernel_rfl
theorem eqNe (t u : TypeId) (x y : Value) (h : t ≠ u) (w : World) : (binOp .eql 20 (.iface t x) (.iface u y)).run Tryd.prog w = .ok (.bool false) w := run_eql_iface_types t u x y Tryd.underlying20 h w

end Go.Proofs.YtimmoecjfkacpaaDoor
