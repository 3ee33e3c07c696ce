/- The walks of the reference's Order and Join. -/
import Derived.Test.YtimmoecjfkacpaaDoorOrdersW
import Derived.Test.YtimmoecjfkacpaaDoorJoinsW
namespace Go.Proofs.YtimmoecjfkacpaaDoor
open Go.RowKit

set_option maxRecDepth 20000 in
set_option maxHeartbeats 1000000 in
theorem rorder_bad (k n : Int) (s : ByteArray) (k' n' : Int) (s' : ByteArray) (RB : ∀ w, Calls Tryd.prog 29 #[vl k n s, vl k' n' s'] w fun e w' => e = .returned (.int .i64 2) ∧ Below w.heap.size w w')  (w : World) : Calls Tryd.prog 27 #[vl k n s, vl k' n' s'] w fun e w' => e = .returned (.tuple #[.int .i64 0, .int .i64 2]) ∧ Below w.heap.size w w' := by
  unfold vl at *
  go_enter Tryd.func27, Tryd.ntmps27
  go_wp2_with fail
  have A := At.new w k n s
  unfold vb at A
  replace A := A.alloc (.cells #[.int .i64 k', .int .i64 n', .string s'] 23)
  have C := At.new (w.alloc (.cells #[.int .i64 k, .int .i64 n, .string s] 23)) k' n' s'
  unfold vb at C
  have B := b2 w (.cells #[.int .i64 k, .int .i64 n, .string s] 23) (.cells #[.int .i64 k', .int .i64 n', .string s'] 23)
  simp at C
  generalize ((w.alloc (.cells #[.int .i64 k, .int .i64 n, .string s] 23)).alloc (.cells #[.int .i64 k', .int .i64 n', .string s'] 23)) = w0 at *
  obtain ⟨V, hV⟩ : ∃ V, w.heap.size = V := ⟨_, rfl⟩
  rw [hV] at A C B ⊢
  obtain ⟨A0, A1, A2, Al⟩ := id A
  obtain ⟨C0, C1, C2, Cl⟩ := id C
  refine (RB _).mono ?_
  rintro e w1 ⟨rfl, hb⟩
  replace B := bthen B (by have := A.lt; omega) hb
  replace A := A.below hb
  replace C := C.below hb
  clear A0 A1 A2 Al C0 C1 C2 Cl
  clear hb
  obtain ⟨A0, A1, A2, Al⟩ := id A
  obtain ⟨C0, C1, C2, Cl⟩ := id C
  go_wp2_with fail
  go_ret2
  exact ⟨rfl, hV.symm ▸ B⟩

set_option maxRecDepth 20000 in
set_option maxHeartbeats 1000000 in
theorem rorder_lt (n n' : Int) (RB : ∀ w, Calls Tryd.prog 29 #[vl 2 n ⟨#[]⟩, vl 2 n' ⟨#[]⟩] w fun e w' => e = .returned (.int .i64 0) ∧ Below w.heap.size w w') (h : n < n') (w : World) : Calls Tryd.prog 27 #[vl 2 n ⟨#[]⟩, vl 2 n' ⟨#[]⟩] w fun e w' => e = .returned (.tuple #[.int .i64 (-1), .int .i64 0]) ∧ Below w.heap.size w w' := by
  unfold vl at *
  go_enter Tryd.func27, Tryd.ntmps27
  go_wp2_with fail
  have A := At.new w 2 n ⟨#[]⟩
  unfold vb at A
  replace A := A.alloc (.cells #[.int .i64 2, .int .i64 n', .string ⟨#[]⟩] 23)
  have C := At.new (w.alloc (.cells #[.int .i64 2, .int .i64 n, .string ⟨#[]⟩] 23)) 2 n' ⟨#[]⟩
  unfold vb at C
  have B := b2 w (.cells #[.int .i64 2, .int .i64 n, .string ⟨#[]⟩] 23) (.cells #[.int .i64 2, .int .i64 n', .string ⟨#[]⟩] 23)
  simp at C
  generalize ((w.alloc (.cells #[.int .i64 2, .int .i64 n, .string ⟨#[]⟩] 23)).alloc (.cells #[.int .i64 2, .int .i64 n', .string ⟨#[]⟩] 23)) = w0 at *
  obtain ⟨V, hV⟩ : ∃ V, w.heap.size = V := ⟨_, rfl⟩
  rw [hV] at A C B ⊢
  obtain ⟨A0, A1, A2, Al⟩ := id A
  obtain ⟨C0, C1, C2, Cl⟩ := id C
  refine (RB _).mono ?_
  rintro e w1 ⟨rfl, hb⟩
  replace B := bthen B (by have := A.lt; omega) hb
  replace A := A.below hb
  replace C := C.below hb
  clear A0 A1 A2 Al C0 C1 C2 Cl
  clear hb
  obtain ⟨A0, A1, A2, Al⟩ := id A
  obtain ⟨C0, C1, C2, Cl⟩ := id C
  go_wp2_with fail
  go_ret2
  exact ⟨rfl, hV.symm ▸ B⟩

set_option maxRecDepth 20000 in
set_option maxHeartbeats 1000000 in
theorem rorder_gt (n n' : Int) (RB : ∀ w, Calls Tryd.prog 29 #[vl 2 n ⟨#[]⟩, vl 2 n' ⟨#[]⟩] w fun e w' => e = .returned (.int .i64 0) ∧ Below w.heap.size w w') (h : n' < n) (w : World) : Calls Tryd.prog 27 #[vl 2 n ⟨#[]⟩, vl 2 n' ⟨#[]⟩] w fun e w' => e = .returned (.tuple #[.int .i64 1, .int .i64 0]) ∧ Below w.heap.size w w' := by
  unfold vl at *
  go_enter Tryd.func27, Tryd.ntmps27
  go_wp2_with fail
  have A := At.new w 2 n ⟨#[]⟩
  unfold vb at A
  replace A := A.alloc (.cells #[.int .i64 2, .int .i64 n', .string ⟨#[]⟩] 23)
  have C := At.new (w.alloc (.cells #[.int .i64 2, .int .i64 n, .string ⟨#[]⟩] 23)) 2 n' ⟨#[]⟩
  unfold vb at C
  have B := b2 w (.cells #[.int .i64 2, .int .i64 n, .string ⟨#[]⟩] 23) (.cells #[.int .i64 2, .int .i64 n', .string ⟨#[]⟩] 23)
  simp at C
  generalize ((w.alloc (.cells #[.int .i64 2, .int .i64 n, .string ⟨#[]⟩] 23)).alloc (.cells #[.int .i64 2, .int .i64 n', .string ⟨#[]⟩] 23)) = w0 at *
  obtain ⟨V, hV⟩ : ∃ V, w.heap.size = V := ⟨_, rfl⟩
  rw [hV] at A C B ⊢
  obtain ⟨A0, A1, A2, Al⟩ := id A
  obtain ⟨C0, C1, C2, Cl⟩ := id C
  refine (RB _).mono ?_
  rintro e w1 ⟨rfl, hb⟩
  replace B := bthen B (by have := A.lt; omega) hb
  replace A := A.below hb
  replace C := C.below hb
  clear A0 A1 A2 Al C0 C1 C2 Cl
  clear hb
  obtain ⟨A0, A1, A2, Al⟩ := id A
  obtain ⟨C0, C1, C2, Cl⟩ := id C
  go_wp2_with fail
  go_ret2
  exact ⟨rfl, hV.symm ▸ B⟩

set_option maxRecDepth 20000 in
set_option maxHeartbeats 1000000 in
theorem rorder_eq (n : Int) (RB : ∀ w, Calls Tryd.prog 29 #[vl 2 n ⟨#[]⟩, vl 2 n ⟨#[]⟩] w fun e w' => e = .returned (.int .i64 0) ∧ Below w.heap.size w w')  (w : World) : Calls Tryd.prog 27 #[vl 2 n ⟨#[]⟩, vl 2 n ⟨#[]⟩] w fun e w' => e = .returned (.tuple #[.int .i64 0, .int .i64 0]) ∧ Below w.heap.size w w' := by
  unfold vl at *
  go_enter Tryd.func27, Tryd.ntmps27
  go_wp2_with fail
  have A := At.new w 2 n ⟨#[]⟩
  unfold vb at A
  replace A := A.alloc (.cells #[.int .i64 2, .int .i64 n, .string ⟨#[]⟩] 23)
  have C := At.new (w.alloc (.cells #[.int .i64 2, .int .i64 n, .string ⟨#[]⟩] 23)) 2 n ⟨#[]⟩
  unfold vb at C
  have B := b2 w (.cells #[.int .i64 2, .int .i64 n, .string ⟨#[]⟩] 23) (.cells #[.int .i64 2, .int .i64 n, .string ⟨#[]⟩] 23)
  simp at C
  generalize ((w.alloc (.cells #[.int .i64 2, .int .i64 n, .string ⟨#[]⟩] 23)).alloc (.cells #[.int .i64 2, .int .i64 n, .string ⟨#[]⟩] 23)) = w0 at *
  obtain ⟨V, hV⟩ : ∃ V, w.heap.size = V := ⟨_, rfl⟩
  rw [hV] at A C B ⊢
  obtain ⟨A0, A1, A2, Al⟩ := id A
  obtain ⟨C0, C1, C2, Cl⟩ := id C
  refine (RB _).mono ?_
  rintro e w1 ⟨rfl, hb⟩
  replace B := bthen B (by have := A.lt; omega) hb
  replace A := A.below hb
  replace C := C.below hb
  clear A0 A1 A2 Al C0 C1 C2 Cl
  clear hb
  obtain ⟨A0, A1, A2, Al⟩ := id A
  obtain ⟨C0, C1, C2, Cl⟩ := id C
  go_wp2_with fail
  go_ret2
  exact ⟨rfl, hV.symm ▸ B⟩

set_option maxRecDepth 20000 in
set_option maxHeartbeats 1000000 in
theorem rorder_io (n k' n' : Int) (s' : ByteArray) (RB : ∀ w, Calls Tryd.prog 29 #[vl 2 n ⟨#[]⟩, vl k' n' s'] w fun e w' => e = .returned (.int .i64 0) ∧ Below w.heap.size w w') (h : ¬ k' = 2) (w : World) : Calls Tryd.prog 27 #[vl 2 n ⟨#[]⟩, vl k' n' s'] w fun e w' => e = .returned (.tuple #[.int .i64 0, .int .i64 8]) ∧ Below w.heap.size w w' := by
  unfold vl at *
  go_enter Tryd.func27, Tryd.ntmps27
  go_wp2_with fail
  have A := At.new w 2 n ⟨#[]⟩
  unfold vb at A
  replace A := A.alloc (.cells #[.int .i64 k', .int .i64 n', .string s'] 23)
  have C := At.new (w.alloc (.cells #[.int .i64 2, .int .i64 n, .string ⟨#[]⟩] 23)) k' n' s'
  unfold vb at C
  have B := b2 w (.cells #[.int .i64 2, .int .i64 n, .string ⟨#[]⟩] 23) (.cells #[.int .i64 k', .int .i64 n', .string s'] 23)
  simp at C
  generalize ((w.alloc (.cells #[.int .i64 2, .int .i64 n, .string ⟨#[]⟩] 23)).alloc (.cells #[.int .i64 k', .int .i64 n', .string s'] 23)) = w0 at *
  obtain ⟨V, hV⟩ : ∃ V, w.heap.size = V := ⟨_, rfl⟩
  rw [hV] at A C B ⊢
  obtain ⟨A0, A1, A2, Al⟩ := id A
  obtain ⟨C0, C1, C2, Cl⟩ := id C
  refine (RB _).mono ?_
  rintro e w1 ⟨rfl, hb⟩
  replace B := bthen B (by have := A.lt; omega) hb
  replace A := A.below hb
  replace C := C.below hb
  clear A0 A1 A2 Al C0 C1 C2 Cl
  clear hb
  obtain ⟨A0, A1, A2, Al⟩ := id A
  obtain ⟨C0, C1, C2, Cl⟩ := id C
  go_wp2_with fail
  go_ret2
  exact ⟨rfl, hV.symm ▸ B⟩

set_option maxRecDepth 20000 in
set_option maxHeartbeats 1000000 in
theorem rorder_so (s : ByteArray) (k' n' : Int) (s' : ByteArray) (RB : ∀ w, Calls Tryd.prog 29 #[vl 3 0 s, vl k' n' s'] w fun e w' => e = .returned (.int .i64 0) ∧ Below w.heap.size w w') (h : ¬ k' = 3) (w : World) : Calls Tryd.prog 27 #[vl 3 0 s, vl k' n' s'] w fun e w' => e = .returned (.tuple #[.int .i64 0, .int .i64 8]) ∧ Below w.heap.size w w' := by
  unfold vl at *
  go_enter Tryd.func27, Tryd.ntmps27
  go_wp2_with fail
  have A := At.new w 3 0 s
  unfold vb at A
  replace A := A.alloc (.cells #[.int .i64 k', .int .i64 n', .string s'] 23)
  have C := At.new (w.alloc (.cells #[.int .i64 3, .int .i64 0, .string s] 23)) k' n' s'
  unfold vb at C
  have B := b2 w (.cells #[.int .i64 3, .int .i64 0, .string s] 23) (.cells #[.int .i64 k', .int .i64 n', .string s'] 23)
  simp at C
  generalize ((w.alloc (.cells #[.int .i64 3, .int .i64 0, .string s] 23)).alloc (.cells #[.int .i64 k', .int .i64 n', .string s'] 23)) = w0 at *
  obtain ⟨V, hV⟩ : ∃ V, w.heap.size = V := ⟨_, rfl⟩
  rw [hV] at A C B ⊢
  obtain ⟨A0, A1, A2, Al⟩ := id A
  obtain ⟨C0, C1, C2, Cl⟩ := id C
  refine (RB _).mono ?_
  rintro e w1 ⟨rfl, hb⟩
  replace B := bthen B (by have := A.lt; omega) hb
  replace A := A.below hb
  replace C := C.below hb
  clear A0 A1 A2 Al C0 C1 C2 Cl
  clear hb
  obtain ⟨A0, A1, A2, Al⟩ := id A
  obtain ⟨C0, C1, C2, Cl⟩ := id C
  go_wp2_with fail
  go_ret2
  exact ⟨rfl, hV.symm ▸ B⟩

set_option maxRecDepth 20000 in
set_option maxHeartbeats 1000000 in
theorem rorder_oo (k n : Int) (s : ByteArray) (k' n' : Int) (s' : ByteArray) (RB : ∀ w, Calls Tryd.prog 29 #[vl k n s, vl k' n' s'] w fun e w' => e = .returned (.int .i64 0) ∧ Below w.heap.size w w') (h : ¬ k = 2) (h' : ¬ k = 3) (w : World) : Calls Tryd.prog 27 #[vl k n s, vl k' n' s'] w fun e w' => e = .returned (.tuple #[.int .i64 0, .int .i64 8]) ∧ Below w.heap.size w w' := by
  unfold vl at *
  go_enter Tryd.func27, Tryd.ntmps27
  go_wp2_with fail
  have A := At.new w k n s
  unfold vb at A
  replace A := A.alloc (.cells #[.int .i64 k', .int .i64 n', .string s'] 23)
  have C := At.new (w.alloc (.cells #[.int .i64 k, .int .i64 n, .string s] 23)) k' n' s'
  unfold vb at C
  have B := b2 w (.cells #[.int .i64 k, .int .i64 n, .string s] 23) (.cells #[.int .i64 k', .int .i64 n', .string s'] 23)
  simp at C
  generalize ((w.alloc (.cells #[.int .i64 k, .int .i64 n, .string s] 23)).alloc (.cells #[.int .i64 k', .int .i64 n', .string s'] 23)) = w0 at *
  obtain ⟨V, hV⟩ : ∃ V, w.heap.size = V := ⟨_, rfl⟩
  rw [hV] at A C B ⊢
  obtain ⟨A0, A1, A2, Al⟩ := id A
  obtain ⟨C0, C1, C2, Cl⟩ := id C
  refine (RB _).mono ?_
  rintro e w1 ⟨rfl, hb⟩
  replace B := bthen B (by have := A.lt; omega) hb
  replace A := A.below hb
  replace C := C.below hb
  clear A0 A1 A2 Al C0 C1 C2 Cl
  clear hb
  obtain ⟨A0, A1, A2, Al⟩ := id A
  obtain ⟨C0, C1, C2, Cl⟩ := id C
  go_wp2_with fail
  go_ret2
  exact ⟨rfl, hV.symm ▸ B⟩

end Go.Proofs.YtimmoecjfkacpaaDoor
