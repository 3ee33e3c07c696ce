/- The walks of 'fixed', the answers that the document fixes. -/
import Derived.Test.YtimmoecjfkacpacMain
namespace Go.Proofs.Ytimmoecjfkacpac
open Go.RowKit

theorem fix1 : mnP 2 7 ⟨#[]⟩ 4 = 1 ∧ mnE 2 7 ⟨#[]⟩ 4 = 0 := by decide +kernel
theorem fix2 : mnP 3 0 ⟨#[97]⟩ 8 = 4 ∧ mnE 3 0 ⟨#[97]⟩ 8 = 0 := by decide +kernel
theorem fix3 : mnP 0 0 ⟨#[]⟩ 4 = 0 ∧ mnE 0 0 ⟨#[]⟩ 4 = 9 := by decide +kernel
theorem fix4 : fnv [97] = 3826002220 := by decide +kernel

set_option maxHeartbeats 600000 in
theorem mkI (n : Int) (w : World) : Calls Try.prog 9 #[.int .i64 n] w fun e w' => e = .returned (vl 2 n ⟨#[]⟩) ∧ w' = w.alloc (vb 2 n ⟨#[]⟩) := by
  go_enter Try.func9, Try.ntmps9
  go_wp2
  exact bodyPost_ret (v := vl 2 n ⟨#[]⟩) (by simp [results, Try.results9, go_sem]) rfl ⟨rfl, rfl⟩

set_option maxHeartbeats 600000 in
theorem mkS (s : ByteArray) (w : World) : Calls Try.prog 7 #[.string s] w fun e w' => e = .returned (vl 3 0 s) ∧ w' = w.alloc (vb 3 0 s) := by
  go_enter Try.func7, Try.ntmps7
  go_wp2
  exact bodyPost_ret (v := vl 3 0 s) (by simp [results, Try.results7, go_sem]) rfl ⟨rfl, rfl⟩

set_option maxHeartbeats 600000 in
theorem fixed_any (w : World) : Calls Try.prog 5 #[] w fun e w' => e = .returned (.bool true) ∧ Below w.heap.size w w' := by
  have C5 := mkI 7
  have C6 := mkS ⟨#[97]⟩
  have f11 := fix1.1
  have f12 := fix1.2
  have f21 := fix2.1
  have f22 := fix2.2
  have f31 := fix3.1
  have f32 := fix3.2
  have f4 := fix4
  unfold vl vb at *
  go_enter Try.func5, Try.ntmps5
  go_wp2_with (first | (go_at_call 6; refine (main_any _ _ _ _ _ (by omega) (by omega)).mono ?_; rintro e w' ⟨rfl, rfl⟩) | (go_at_call 10; refine (of_any _ _ (by decide)).mono ?_; rintro e w' ⟨rfl, rfl⟩) | (go_at_call 9; refine (C5 _).mono ?_; rintro e w' ⟨rfl, rfl⟩) | (go_at_call 7; refine (C6 _).mono ?_; rintro e w' ⟨rfl, rfl⟩))
  go_ret
  refine ⟨rfl, ?_⟩
  repeat (first | exact Below.refl _ _ | refine Below.alloc ?_ (by simp; try omega) _)

end Go.Proofs.Ytimmoecjfkacpac
