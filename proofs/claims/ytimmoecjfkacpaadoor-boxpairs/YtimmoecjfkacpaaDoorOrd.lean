/- The walk of Order. -/
import Derived.Test.YtimmoecjfkacpaaDoorSame
namespace Go.Proofs.YtimmoecjfkacpaaDoor
open Go.RowKit

set_option maxRecDepth 20000 in
set_option maxHeartbeats 600000 in
theorem order_other (t : TypeId) (v : Value) (xb : Value) (h56 : ¬ t = 56) (h57 : ¬ t = 57) (k n : Int) (s : ByteArray) (k' n' : Int) (s' : ByteArray) (C1 : ∀ w, Calls Tryd.prog 41 #[vl k n s, vl k' n' s'] w fun e w' => e = .returned (.tuple #[.iface t v, xb, .int .i64 0]) ∧ Below w.heap.size w w') (w : World) :
    Calls Tryd.prog 25 #[vl k n s, vl k' n' s'] w fun e w' => e = .returned (.tuple #[.int .i64 0, .int .i64 8]) ∧ Below w.heap.size w w' := by
  have e56 := n56 t h56 v
  have e57 := n57 t h57 v
  unfold vl at *
  go_enter Tryd.func25, Tryd.ntmps25
  go_wp2_with fail
  refine (C1 _).mono ?_; rintro e w1 ⟨rfl, hb1⟩
  go_wp2_with fail
  go_ret2
  exact ⟨rfl, bthen (b2 _ _ _) (by simp; omega) hb1⟩

set_option maxRecDepth 20000 in
set_option maxHeartbeats 600000 in
theorem order_nn (x y : Int) (k n : Int) (s : ByteArray) (k' n' : Int) (s' : ByteArray) (C1 : ∀ w, Calls Tryd.prog 41 #[vl k n s, vl k' n' s'] w fun e w' => e = .returned (.tuple #[.iface 56 (.int .i64 x), .iface 56 (.int .i64 y), .int .i64 0]) ∧ Below w.heap.size w w') (w : World) :
    Calls Tryd.prog 25 #[vl k n s, vl k' n' s'] w fun e w' => e = .returned (.tuple #[.int .i64 (cI x y), .int .i64 0]) ∧ Below w.heap.size w w' := by
  have f56 := y56
  unfold vl at *
  go_enter Tryd.func25, Tryd.ntmps25
  go_wp2_with fail
  refine (C1 _).mono ?_; rintro e w1 ⟨rfl, hb1⟩
  go_wp2_with (go_at_call 42; refine (cmpN _ _ _).mono ?_; rintro e w2 ⟨rfl, rfl⟩)
  go_ret2
  exact ⟨rfl, bthen (b2 _ _ _) (by simp; omega) hb1⟩

set_option maxRecDepth 20000 in
set_option maxHeartbeats 600000 in
theorem order_ss (x y : ByteArray) (k n : Int) (s : ByteArray) (k' n' : Int) (s' : ByteArray) (C1 : ∀ w, Calls Tryd.prog 41 #[vl k n s, vl k' n' s'] w fun e w' => e = .returned (.tuple #[.iface 57 (.string x), .iface 57 (.string y), .int .i64 0]) ∧ Below w.heap.size w w') (w : World) :
    Calls Tryd.prog 25 #[vl k n s, vl k' n' s'] w fun e w' => e = .returned (.tuple #[.int .i64 (cS x y), .int .i64 0]) ∧ Below w.heap.size w w' := by
  have e56 := n56 57 (by decide)
  have f57 := y57
  unfold vl at *
  go_enter Tryd.func25, Tryd.ntmps25
  go_wp2_with fail
  refine (C1 _).mono ?_; rintro e w1 ⟨rfl, hb1⟩
  go_wp2_with (go_at_call 43; refine (cmpT _ _ _).mono ?_; rintro e w2 ⟨rfl, rfl⟩)
  go_ret2
  exact ⟨rfl, bthen (b2 _ _ _) (by simp; omega) hb1⟩

set_option maxRecDepth 20000 in
set_option maxHeartbeats 600000 in
theorem order_no (x : Int) (t : TypeId) (v : Value) (h56 : ¬ t = 56) (k n : Int) (s : ByteArray) (k' n' : Int) (s' : ByteArray) (C1 : ∀ w, Calls Tryd.prog 41 #[vl k n s, vl k' n' s'] w fun e w' => e = .returned (.tuple #[.iface 56 (.int .i64 x), .iface t v, .int .i64 0]) ∧ Below w.heap.size w w') (w : World) :
    Calls Tryd.prog 25 #[vl k n s, vl k' n' s'] w fun e w' => e = .returned (.tuple #[.int .i64 0, .int .i64 8]) ∧ Below w.heap.size w w' := by
  have f56 := y56 (.int .i64 x)
  have e56 := n56 t h56 v
  unfold vl at *
  go_enter Tryd.func25, Tryd.ntmps25
  go_wp2_with fail
  refine (C1 _).mono ?_; rintro e w1 ⟨rfl, hb1⟩
  go_wp2_with fail
  go_ret2
  exact ⟨rfl, bthen (b2 _ _ _) (by simp; omega) hb1⟩

set_option maxRecDepth 20000 in
set_option maxHeartbeats 600000 in
theorem order_so (x : ByteArray) (t : TypeId) (v : Value) (h57 : ¬ t = 57) (k n : Int) (s : ByteArray) (k' n' : Int) (s' : ByteArray) (C1 : ∀ w, Calls Tryd.prog 41 #[vl k n s, vl k' n' s'] w fun e w' => e = .returned (.tuple #[.iface 57 (.string x), .iface t v, .int .i64 0]) ∧ Below w.heap.size w w') (w : World) :
    Calls Tryd.prog 25 #[vl k n s, vl k' n' s'] w fun e w' => e = .returned (.tuple #[.int .i64 0, .int .i64 8]) ∧ Below w.heap.size w w' := by
  have g56 := n56 57 (by decide) (.string x)
  have f57 := y57 (.string x)
  have e57 := n57 t h57 v
  unfold vl at *
  go_enter Tryd.func25, Tryd.ntmps25
  go_wp2_with fail
  refine (C1 _).mono ?_; rintro e w1 ⟨rfl, hb1⟩
  go_wp2_with fail
  go_ret2
  exact ⟨rfl, bthen (b2 _ _ _) (by simp; omega) hb1⟩

set_option maxRecDepth 20000 in
set_option maxHeartbeats 600000 in
theorem order_bad (k n : Int) (s : ByteArray) (k' n' : Int) (s' : ByteArray) (h0 : -9223372036854775808 ≤ n) (h1 : n ≤ 9223372036854775807) (h : (inF k n s && inF k' n' s') = false) (w : World) :
    Calls Tryd.prog 25 #[vl k n s, vl k' n' s'] w fun e w' => e = .returned (.tuple #[.int .i64 0, .int .i64 2]) ∧ Below w.heap.size w w' := by
  have C1 := both_bad k n s k' n' s' h0 h1 h
  clear h0 h1 h
  unfold vl at *
  go_enter Tryd.func25, Tryd.ntmps25
  go_wp2_with fail
  refine (C1 _).mono ?_; rintro e w1 ⟨rfl, hb1⟩
  go_wp2_with fail
  go_ret2
  exact ⟨rfl, bthen (b2 _ _ _) (by simp; omega) hb1⟩

theorem order_ok (a b : Bx) (ha : a.ok) (hb : b.ok) (w : World) : Calls Tryd.prog 25 #[a.val, b.val] w fun e w' => e = .returned (.tuple #[.int .i64 (a.ord b), .int .i64 (a.ordE b)]) ∧ Below w.heap.size w w' := by
  have C1 := both_ok a b ha hb
  unfold Bx.val at *
  cases a with
  | int x =>
    cases b with
    | int y => exact order_nn x y _ _ _ _ _ _ C1 w
    | nil => exact order_no x _ _ (by decide) _ _ _ _ _ _ C1 w
    | bool y => exact order_no x _ _ (by decide) _ _ _ _ _ _ C1 w
    | str y => exact order_no x _ _ (by decide) _ _ _ _ _ _ C1 w
    | tab y => exact order_no x _ _ (by decide) _ _ _ _ _ _ C1 w
    | fn y => exact order_no x _ _ (by decide) _ _ _ _ _ _ C1 w
    | lib y => exact order_no x _ _ (by decide) _ _ _ _ _ _ C1 w
  | str x =>
    cases b with
    | str y => exact order_ss x y _ _ _ _ _ _ C1 w
    | nil => exact order_so x _ _ (by decide) _ _ _ _ _ _ C1 w
    | bool y => exact order_so x _ _ (by decide) _ _ _ _ _ _ C1 w
    | int y => exact order_so x _ _ (by decide) _ _ _ _ _ _ C1 w
    | tab y => exact order_so x _ _ (by decide) _ _ _ _ _ _ C1 w
    | fn y => exact order_so x _ _ (by decide) _ _ _ _ _ _ C1 w
    | lib y => exact order_so x _ _ (by decide) _ _ _ _ _ _ C1 w
  | nil => cases b <;> exact order_other _ _ _ (by decide) (by decide) _ _ _ _ _ _ C1 w
  | bool x => cases b <;> exact order_other _ _ _ (by decide) (by decide) _ _ _ _ _ _ C1 w
  | tab x => cases b <;> exact order_other _ _ _ (by decide) (by decide) _ _ _ _ _ _ C1 w
  | fn x => cases b <;> exact order_other _ _ _ (by decide) (by decide) _ _ _ _ _ _ C1 w
  | lib x => cases b <;> exact order_other _ _ _ (by decide) (by decide) _ _ _ _ _ _ C1 w

end Go.Proofs.YtimmoecjfkacpaaDoor
