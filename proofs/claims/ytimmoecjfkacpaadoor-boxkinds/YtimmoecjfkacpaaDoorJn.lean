/- The walks of putBoth, joins and Join. -/
import Derived.Test.YtimmoecjfkacpaaDoorTry
namespace Go.Proofs.YtimmoecjfkacpaaDoor
open Go.RowKit

theorem asb (b : Bx) (q : Int) (w : World) : Calls Tryd.prog 39 #[b.box, .int .i64 q] w fun e w' => e = .returned (.bool (decide (q = b.kind))) ∧ w' = w := by
  by_cases h : q = b.kind
  · subst h
    rw [decide_eq_true rfl]
    cases b with
    | nil => exact as_hit0 _ w
    | bool x => exact as_hit1 _ w
    | int x => exact as_hit2 _ w
    | str x => exact as_hit3 _ w
    | tab x => exact as_hit4 _ w
    | fn x => exact as_hit5 _ w
    | lib x => exact as_hit6 _ w
  · rw [decide_eq_false h, box_eq]
    by_cases hk : 0 ≤ q ∧ q ≤ 6
    · have hq : q = 0 ∨ q = 1 ∨ q = 2 ∨ q = 3 ∨ q = 4 ∨ q = 5 ∨ q = 6 := by omega
      rcases hq with r | r | r | r | r | r | r <;> subst r
      · exact as_miss0 b.ty (fun he => h (by revert he; cases b <;> simp [Bx.ty, Bx.kind])) _ w
      · exact as_miss1 b.ty (fun he => h (by revert he; cases b <;> simp [Bx.ty, Bx.kind])) _ w
      · exact as_miss2 b.ty (fun he => h (by revert he; cases b <;> simp [Bx.ty, Bx.kind])) _ w
      · exact as_miss3 b.ty (fun he => h (by revert he; cases b <;> simp [Bx.ty, Bx.kind])) _ w
      · exact as_miss4 b.ty (fun he => h (by revert he; cases b <;> simp [Bx.ty, Bx.kind])) _ w
      · exact as_miss5 b.ty (fun he => h (by revert he; cases b <;> simp [Bx.ty, Bx.kind])) _ w
      · exact as_miss6 b.ty (fun he => h (by revert he; cases b <;> simp [Bx.ty, Bx.kind])) _ w
    · exact as_other _ q hk w

set_option maxHeartbeats 1000000 in
theorem both_ok (a b : Bx) (ha : a.ok) (hb : b.ok) (w : World) : Calls Tryd.prog 41 #[a.val, b.val] w fun e w' => e = .returned (.tuple #[a.box, b.box, .int .i64 0]) ∧ Below w.heap.size w w' := by
  have C1 := put_ok a ha
  have C2 := put_ok b hb
  clear ha hb
  unfold Bx.val Bx.blk vl vb at *
  go_enter Tryd.func41, Tryd.ntmps41
  go_wp2_with fail
  refine (C1 _).mono ?_; rintro e w' ⟨rfl, rfl⟩
  go_wp2_with fail
  refine (C2 _).mono ?_; rintro e w' ⟨rfl, rfl⟩
  go_wp2_with fail
  go_ret3
  refine ⟨rfl, ?_⟩
  repeat (first | exact Below.refl _ _ | refine Below.alloc ?_ (by simp; try omega) _)

set_option maxHeartbeats 1000000 in
theorem both_bad1 (k n : Int) (s : ByteArray) (k' n' : Int) (s' : ByteArray) (h : inF k n s = false) (w : World) : Calls Tryd.prog 41 #[vl k n s, vl k' n' s'] w fun e w' => e = .returned (.tuple #[.nilIface, .nilIface, .int .i64 2]) ∧ Below w.heap.size w w' := by
  have C1 := put_bad k n s h
  clear h
  unfold vl vb at *
  go_enter Tryd.func41, Tryd.ntmps41
  go_wp2_with fail
  refine (C1 _).mono ?_; rintro e w' ⟨rfl, rfl⟩
  go_wp2_with fail
  go_ret3
  refine ⟨rfl, ?_⟩
  repeat (first | exact Below.refl _ _ | refine Below.alloc ?_ (by simp; try omega) _)

set_option maxHeartbeats 1000000 in
theorem both_bad2 (a : Bx) (ha : a.ok) (k n : Int) (s : ByteArray) (h : inF k n s = false) (w : World) : Calls Tryd.prog 41 #[a.val, vl k n s] w fun e w' => e = .returned (.tuple #[.nilIface, .nilIface, .int .i64 2]) ∧ Below w.heap.size w w' := by
  have C1 := put_ok a ha
  have C2 := put_bad k n s h
  clear h ha
  unfold Bx.val Bx.blk vl vb at *
  go_enter Tryd.func41, Tryd.ntmps41
  go_wp2_with fail
  refine (C1 _).mono ?_; rintro e w' ⟨rfl, rfl⟩
  go_wp2_with fail
  refine (C2 _).mono ?_; rintro e w' ⟨rfl, rfl⟩
  go_wp2_with fail
  go_ret3
  refine ⟨rfl, ?_⟩
  repeat (first | exact Below.refl _ _ | refine Below.alloc ?_ (by simp; try omega) _)

theorem both_bad (k n : Int) (s : ByteArray) (k' n' : Int) (s' : ByteArray) (h0 : -9223372036854775808 ≤ n) (h1 : n ≤ 9223372036854775807) (h : (inF k n s && inF k' n' s') = false) (w : World) :
    Calls Tryd.prog 41 #[vl k n s, vl k' n' s'] w fun e w' => e = .returned (.tuple #[.nilIface, .nilIface, .int .i64 2]) ∧ Below w.heap.size w w' := by
  cases hf : inF k n s
  · exact both_bad1 k n s k' n' s' hf w
  · obtain ⟨b, hb, rfl, rfl, rfl⟩ := form_of k n s h0 h1 hf
    rw [hf, Bool.true_and] at h
    exact both_bad2 b hb k' n' s' h w

def Bx.jn (b : Bx) : Bool := decide (2 = b.kind) || decide (3 = b.kind)
set_option maxHeartbeats 600000 in
theorem joins_any (b : Bx) (w : World) : Calls Tryd.prog 44 #[b.box] w fun e w' => e = .returned (.bool b.jn) ∧ w' = w := by
  have C1 := asb b 2
  have C2 := asb b 3
  unfold Bx.jn
  cases h1 : decide (2 = b.kind)
  · rw [h1] at C1
    generalize decide (3 = b.kind) = r at *
    clear h1
    go_enter Tryd.func44, Tryd.ntmps44
    go_wp2_with fail
    refine (C1 _).mono ?_; rintro e w' ⟨rfl, rfl⟩
    go_wp2_with fail
    refine (C2 _).mono ?_; rintro e w' ⟨rfl, rfl⟩
    go_wp2_with fail
    go_ret
    exact ⟨ret_bool (by simp), rfl⟩
  · rw [h1] at C1
    clear h1
    go_enter Tryd.func44, Tryd.ntmps44
    go_wp2_with fail
    refine (C1 _).mono ?_; rintro e w' ⟨rfl, rfl⟩
    go_wp2_with fail
    go_ret
    exact ⟨ret_bool (by simp), rfl⟩

end Go.Proofs.YtimmoecjfkacpaaDoor
