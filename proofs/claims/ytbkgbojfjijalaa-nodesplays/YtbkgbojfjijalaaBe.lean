/- The walks of begin and fixed. -/
import Derived.Test.YtbkgbojfjijalaaDu
namespace Go.Proofs.Ytbkgbojfjijalaa
open Go.RowKit

theorem info32 : (Try.prog.info? 32).map (fun i => (i.zero, i.size, i.bytes)) = some (some (vl 0 0 ⟨#[]⟩), 3, 32) := by kernel_rfl
theorem info69 : (Try.prog.info? 69).map (fun i => (i.zero, i.size, i.bytes)) = some (some (.slice none 0 0), 1, 24) := by kernel_rfl
abbrev zeros3 (n : Nat) : Array Value := madeCells (vl 0 0 ⟨#[]⟩).cells (n * 3)
abbrev zeros1 (n : Nat) : Array Value := madeCells (Value.slice none 0 0).cells (n * 1)
theorem make_vals (m : Nat) (hm : m ≤ 65536) (W : World) : (Instr.makeSlice 49 (.int .i64 m) (.int .i64 m)).run Try.prog W = .ok (.slice (some ⟨W.heap.size, 0, none⟩) m m) (W.alloc (.cells (zeros3 m) 32)) := by
  obtain ⟨i0, hi, hz0, hz1, hz2⟩ := info_parts info32
  have h := run_make (P := Try.prog) W 49 32 i0 (vl 0 0 ⟨#[]⟩) Try.underlying49 hi hz0 .i64 .i64 m m (by omega) (Int.le_refl _) (by rw [hz2]; omega) (by omega)
  rw [hz1] at h
  simpa using h
theorem make_chains (m : Nat) (hm : m ≤ 65536) (W : World) : (Instr.makeSlice 50 (.int .i64 m) (.int .i64 m)).run Try.prog W = .ok (.slice (some ⟨W.heap.size, 0, none⟩) m m) (W.alloc (.cells (zeros1 m) 69)) := by
  obtain ⟨i0, hi, hz0, hz1, hz2⟩ := info_parts info69
  have h := run_make (P := Try.prog) W 50 69 i0 (.slice none 0 0) Try.underlying50 hi hz0 .i64 .i64 m m (by omega) (Int.le_refl _) (by rw [hz2]; omega) (by omega)
  rw [hz1] at h
  unfold zeros1
  simpa using h

theorem four (w : World) (o1 o2 o3 o4 : Obj) : ((((w.alloc o1).alloc o2).alloc o3).alloc o4).heap[w.heap.size]? = some o1 ∧ ((((w.alloc o1).alloc o2).alloc o3).alloc o4).heap[w.heap.size + 1]? = some o2 ∧ ((((w.alloc o1).alloc o2).alloc o3).alloc o4).heap[w.heap.size + 1 + 1]? = some o3 ∧ ((((w.alloc o1).alloc o2).alloc o3).alloc o4).heap[w.heap.size + 1 + 1 + 1]? = some o4 := by
  have s1 : (w.alloc o1).heap.size = w.heap.size + 1 := by simp
  have s2 : ((w.alloc o1).alloc o2).heap.size = w.heap.size + 1 + 1 := by simp
  have s3 : (((w.alloc o1).alloc o2).alloc o3).heap.size = w.heap.size + 1 + 1 + 1 := by simp
  have h1 := (MapKept.heap_alloc w o1).1
  have h2 := (MapKept.heap_alloc (w.alloc o1) o2).1
  have h3 := (MapKept.heap_alloc ((w.alloc o1).alloc o2) o3).1
  have h4 := (MapKept.heap_alloc (((w.alloc o1).alloc o2).alloc o3) o4).1
  rw [s1] at h2
  rw [s2] at h3
  rw [s3] at h4
  refine ⟨?_, ?_, ?_, h4⟩
  · rw [Below.heap_alloc _ _ _ (by omega), Below.heap_alloc _ _ _ (by omega), Below.heap_alloc _ _ _ (by omega)]; exact h1
  · rw [Below.heap_alloc _ _ _ (by omega), Below.heap_alloc _ _ _ (by omega)]; exact h2
  · rw [Below.heap_alloc _ _ _ (by omega)]; exact h3
/-- What the reference's New leaves. -/
structure Rn (w w' : World) (S ka va ca n : Nat) : Prop where
  s : w'.heap[S]? = some (.cells #[.slice (some ⟨ka, 0, none⟩) n n, .slice (some ⟨va, 0, none⟩) n n, .slice (some ⟨ca, 0, none⟩) n n, .int .i64 (n : Nat)] 52)
  k : w'.heap[ka]? = some (.cells (zeros3 n) 32)
  v : w'.heap[va]? = some (.cells (zeros3 n) 32)
  c : w'.heap[ca]? = some (.cells (zeros1 n) 69)
  ne : ka ≠ va ∧ ka ≠ ca ∧ va ≠ ca ∧ S ≠ ka ∧ S ≠ va ∧ S ≠ ca
  ge : w.heap.size ≤ S ∧ w.heap.size ≤ ka ∧ w.heap.size ≤ va ∧ w.heap.size ≤ ca
  lt : S < w'.heap.size ∧ ka < w'.heap.size ∧ va < w'.heap.size ∧ ca < w'.heap.size
  bel : Below w.heap.size w w'

set_option maxHeartbeats 4000000 in
theorem rnew_any (n : Nat) (w : World) (h : n ≤ 65536) : Calls Try.prog 34 #[.int .i64 (n : Nat)] w fun e w' => ∃ S ka va ca, e = .returned (pp S) ∧ Rn w w' S ka va ca n := by
  have m1 := make_vals n h
  have m2 := make_chains n h
  have B4 : ∀ o1 o2 o3 o4, Below w.heap.size w ((((w.alloc o1).alloc o2).alloc o3).alloc o4) := fun o1 o2 o3 o4 => bthen (b2 w o1 o2) (by simp; omega) (b2 _ o3 o4)
  have H4 : Hid _ := four w
  have HB4 : Hid _ := B4
  clear B4
  unfold pp
  obtain ⟨z3, h3⟩ : ∃ z3, zeros3 n = z3 := ⟨_, rfl⟩
  obtain ⟨z1, h1⟩ : ∃ z1, zeros1 n = z1 := ⟨_, rfl⟩
  have H3 : Hid (zeros3 n = z3) := h3
  have H1 : Hid (zeros1 n = z1) := h1
  rw [h3] at m1
  rw [h1] at m2
  clear h1 h3
  go_enter Try.func34, Try.ntmps34
  go_wp2_with fail
  go_region
  all_goals
    go_wp2
    go_ret
    refine ⟨_, _, _, _, rfl, ⟨(H4.out _ _ _ _).2.2.2, ?_, ?_, ?_, by omega, by omega, by simp [World.drew]; omega, (HB4.out _ _ _ _).drew⟩⟩
    · rw [H3.out]; first | exact (H4.out _ _ _ _).1 | exact (H4.out _ _ _ _).2.1 | exact (H4.out _ _ _ _).2.2.1
    · rw [H3.out]; first | exact (H4.out _ _ _ _).1 | exact (H4.out _ _ _ _).2.1 | exact (H4.out _ _ _ _).2.2.1
    · rw [H1.out]; first | exact (H4.out _ _ _ _).1 | exact (H4.out _ _ _ _).2.1 | exact (H4.out _ _ _ _).2.2.1

set_option maxHeartbeats 2000000 in
theorem begin_any (n : Nat) (w : World) (h : Rt n) (hn : n ≤ 4096) : Calls Try.prog 17 #[.int .i64 (n : Nat)] w fun e w' => ∃ S ka va ca w1, e = .returned (.tuple #[pp (w.heap.size + 1), pp S, .bool true]) ∧ w1 = newW w n ∧ Rn w1 w' S ka va ca n := by
  have C1 := right_any n
  rw [h.to] at C1
  have C2 := fun w => new_any n w h
  have C3 := fun w => rnew_any n w h.le
  clear h
  unfold pp at *
  go_enter Try.func17, Try.ntmps17
  go_wp2_with fail
  refine (C1 _).mono ?_; rintro e w' ⟨rfl, rfl⟩
  go_wp2_with fail
  refine (C2 _).mono ?_; rintro e w2 ⟨rfl, rfl⟩
  go_wp2_with fail
  refine (C3 _).mono ?_; rintro e w3 ⟨S, ka, va, ca, rfl, H⟩
  have HH : Hid _ := H
  clear H
  go_wp2_with fail
  go_ret3
  exact ⟨S, ka, va, ca, _, rfl, rfl, HH.out⟩

set_option maxHeartbeats 2000000 in
theorem begin_bad (z : Int) (w : World) (h : rt z = false ∨ 4096 < z) : Calls Try.prog 17 #[.int .i64 z] w fun e w' => e = .returned (.tuple #[.pointer none, .pointer none, .bool false]) ∧ w' = w := by
  have C1 := right_any z
  cases hr : rt z
  · rw [hr] at C1
    clear h hr
    go_enter Try.func17, Try.ntmps17
    go_wp2_with fail
    refine (C1 _).mono ?_; rintro e w' ⟨rfl, rfl⟩
    go_wp2_with fail
    go_ret3
    exact ⟨rfl, rfl⟩
  · rw [hr] at C1 h
    have h2 : 4096 < z := by simpa using h
    clear h hr
    go_enter Try.func17, Try.ntmps17
    go_wp2_with fail
    refine (C1 _).mono ?_; rintro e w' ⟨rfl, rfl⟩
    go_wp2_with fail
    go_ret3
    exact ⟨rfl, rfl⟩

end Go.Proofs.Ytbkgbojfjijalaa
