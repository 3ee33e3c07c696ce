/- The walks of the reference's Truth, Type, Show, As, Fits and Both. -/
import Derived.Test.YtimmoecjfkacpaaDoorFix
namespace Go.Proofs.YtimmoecjfkacpaaDoor
open Go.RowKit

set_option maxHeartbeats 600000 in
theorem rtruth_ok (b : Bx) (w : World) : Calls Tryd.prog 16 #[b.val] w fun e w' => e = .returned (.bool b.tru) ∧ Below w.heap.size w w' := by
  unfold Bx.val vl
  rcases b with _ | (_ | _) | _ | _ | _ | _ | _
  all_goals
    simp only [Bx.kind, Bx.num, Bx.txt, Bx.tru, bi, if_true, Bool.false_eq_true, if_false]
    go_enter Tryd.func16, Tryd.ntmps16
    go_wp2
    go_ret
    exact ⟨rfl, b1 _ _⟩

set_option maxHeartbeats 600000 in
theorem rtype_ok (b : Bx) (w : World) : Calls Tryd.prog 17 #[b.val] w fun e w' => e = .returned (.string b.tyn) ∧ Below w.heap.size w w' := by
  unfold Bx.val vl
  rcases b with _ | _ | _ | _ | _ | _ | _
  all_goals
    simp only [Bx.kind, Bx.num, Bx.txt, Bx.tyn]
    go_enter Tryd.func17, Tryd.ntmps17
    go_wp2
    go_ret
    exact ⟨rfl, b1 _ _⟩

set_option maxRecDepth 20000 in
set_option maxHeartbeats 600000 in
theorem rshow_ok (b : Bx) (hb : b.ok) (w : World) : Calls Tryd.prog 18 #[b.val] w fun e w' => e = .returned (.string b.shw) ∧ Below w.heap.size w w' := by
  unfold Bx.val vl
  rcases b with _ | (_ | _) | n | _ | n | n | n
  · simp only [Bx.kind, Bx.num, Bx.txt, Bx.shw]
    go_enter Tryd.func18, Tryd.ntmps18
    go_wp2
    go_ret
    exact ⟨rfl, b1 _ _⟩
  · simp only [Bx.kind, Bx.num, Bx.txt, Bx.shw, bi, Bool.false_eq_true, if_false]
    go_enter Tryd.func18, Tryd.ntmps18
    go_wp2
    go_ret
    exact ⟨rfl, b1 _ _⟩
  · simp only [Bx.kind, Bx.num, Bx.txt, Bx.shw, bi, if_true]
    go_enter Tryd.func18, Tryd.ntmps18
    go_wp2
    go_ret
    exact ⟨rfl, b1 _ _⟩
  · have C := fun w => rfmt_any n w hb.1 hb.2
    simp only [Bx.kind, Bx.num, Bx.txt, Bx.shw]
    generalize itoaS n = t at *
    go_enter Tryd.func18, Tryd.ntmps18
    go_wp2_with (go_at_call 36; refine (C _).mono ?_; rintro e w' ⟨rfl, hb⟩)
    go_ret
    exact ⟨rfl, bthen (b1 _ _) (by simp) (by assumption)⟩
  · simp only [Bx.kind, Bx.num, Bx.txt, Bx.shw]
    go_enter Tryd.func18, Tryd.ntmps18
    go_wp2
    go_ret
    exact ⟨rfl, b1 _ _⟩
  all_goals
    have C := fun w => rfmt_any n w (by have := hb.1; omega) hb.2
    have hsz := itoaS_size n (by have := hb.1; omega) hb.2
    simp only [Bx.kind, Bx.num, Bx.txt, Bx.shw]
    generalize itoaS n = t at *
    go_enter Tryd.func18, Tryd.ntmps18
    go_wp2_with (go_at_call 36; refine (C _).mono ?_; rintro e w' ⟨rfl, hb⟩)
    go_ret
    exact ⟨rfl, bthen (b1 _ _) (by simp) (by assumption)⟩

/-- The two values are in form, or not both. -/
def bothE (k n : Int) (s : ByteArray) (k' n' : Int) (s' : ByteArray) : Int := if (inF k n s && inF k' n' s') = true then 0 else 2
set_option maxHeartbeats 600000 in
theorem rboth_any (k n : Int) (s : ByteArray) (k' n' : Int) (s' : ByteArray) (w : World) : Calls Tryd.prog 29 #[vl k n s, vl k' n' s'] w fun e w' => e = .returned (.int .i64 (bothE k n s k' n' s')) ∧ Below w.heap.size w w' := by
  have C1 := rcheck_any k n s
  have C2 := rcheck_any k' n' s'
  unfold bothE chk at *
  unfold vl vb at *
  cases h1 : inF k n s
  · rw [h1] at C1
    simp only [Bool.false_eq_true, if_false, Bool.false_and] at C1 ⊢
    go_enter Tryd.func29, Tryd.ntmps29
    go_wp2_with fail
    refine (C1 _).mono ?_; rintro e w' ⟨rfl, rfl⟩
    go_wp2_with fail
    go_ret
    refine ⟨rfl, ?_⟩
    repeat (first | exact Below.refl _ _ | refine Below.alloc ?_ (by simp; try omega) _)
  · rw [h1] at C1
    cases h2 : inF k' n' s'
    all_goals
      rw [h2] at C2
      simp only [Bool.false_eq_true, if_false, if_true, Bool.and_true, Bool.and_false] at C1 C2 ⊢
      go_enter Tryd.func29, Tryd.ntmps29
      go_wp2_with fail
      refine (C1 _).mono ?_; rintro e w' ⟨rfl, rfl⟩
      go_wp2_with fail
      refine (C2 _).mono ?_; rintro e w' ⟨rfl, rfl⟩
      go_wp2_with fail
      go_ret
      refine ⟨rfl, ?_⟩
      repeat (first | exact Below.refl _ _ | refine Below.alloc ?_ (by simp; try omega) _)

set_option maxHeartbeats 600000 in
theorem rfits_any (k n : Int) (s : ByteArray) (q : Int) (w : World) : Calls Tryd.prog 22 #[vl k n s, .int .i64 q] w fun e w' => e = .returned (.bool (fits k n s q)) ∧ Below w.heap.size w w' := by
  have C1 := rcheck_any k n s
  unfold chk fits at *
  unfold vl vb at *
  cases h1 : inF k n s
  · rw [h1] at C1
    simp only [Bool.false_eq_true, if_false, Bool.false_and] at C1 ⊢
    go_enter Tryd.func22, Tryd.ntmps22
    go_wp2_with fail
    refine (C1 _).mono ?_; rintro e w' ⟨rfl, rfl⟩
    go_wp2_with fail
    go_ret
    refine ⟨rfl, ?_⟩
    repeat (first | exact Below.refl _ _ | refine Below.alloc ?_ (by simp; try omega) _)
  · rw [h1] at C1
    simp only [if_true, Bool.true_and] at C1 ⊢
    go_enter Tryd.func22, Tryd.ntmps22
    go_wp2_with fail
    refine (C1 _).mono ?_; rintro e w' ⟨rfl, rfl⟩
    go_wp2_with fail
    go_ret
    refine ⟨ret_bool (by first | rfl | (rw [Bool.eq_iff_iff]; simp)), ?_⟩
    repeat (first | exact Below.refl _ _ | refine Below.alloc ?_ (by simp; try omega) _)

end Go.Proofs.YtimmoecjfkacpaaDoor
