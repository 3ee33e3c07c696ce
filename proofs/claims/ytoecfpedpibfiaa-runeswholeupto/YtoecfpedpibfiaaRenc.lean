/- The walk of the reference's Encode. -/
import Derived.Test.YtoecfpedpibfiaaDecode
import Derived.Test.YtoecfpedpibfiaaOrder
import Derived.Laws.BytesArg
namespace Go.Proofs.Ytoecfpedpibfiaa
open Go.RowKit

def byN (r : Int) : Int := if r < 128 then 1 else if r < 2048 then 2 else if r < 65536 then 3 else 4
set_option maxHeartbeats 400000 in
theorem bytes_any (r : Int) (w : World) : Calls Try.prog 41 #[.int .i64 r] w fun e w' => e = .returned (.int .i64 (byN r)) ∧ w' = w := by
  go_enter Try.func41, Try.ntmps41
  go_wp2
  all_goals (go_ret; exact ⟨ret1 (by unfold byN; (repeat' split) <;> omega), rfl⟩)

theorem conv_new (xs : List Int) (n : Nat) (hn : xs.length = n) (W : World) : (convert 50 9 (.slice (some ⟨W.heap.size, 0, none⟩) n n)).run Try.prog (W.alloc (.cells (xs.map (Value.int .u8)).toArray 5)) = .ok (.string (strOfNums xs)) (W.alloc (.cells (xs.map (Value.int .u8)).toArray 5)) := by
  refine run_convert_bytes_arg _ 50 5 Try.underlying50 Try.underlying5 W.heap.size 0 n n xs hn (fun i hi => ?_) 9 Try.underlying9
  rw [Nat.zero_add]
  exact (new_cell W (xs.map (Value.int .u8)) 5 i _ (by simp [List.getElem?_eq_getElem (show i < xs.length by omega), List.getD])).1

set_option maxHeartbeats 1000000 in
theorem renc1 (r : Int) (w : World) (he : encB r = true) (h0 : 0 ≤ r) (h : r < 128) : Calls Try.prog 24 #[.int .i64 r] w fun e w' => e = .returned (.tuple #[.string (strOfNums [r]), .int .i64 0]) ∧ Below w.heap.size w w' := by
  have hn : byN r = 1 := by unfold byN; simp [h]
  have hcv := fun W => conv_new [r] 1 rfl W
  simp only [List.map_cons, List.map_nil] at hcv
  go_enter Try.func24, Try.ntmps24
  go_wp2_with (first | (go_at_call 40; refine (good_any _ _).mono ?_; rintro e w' ⟨rfl, rfl⟩) | (go_at_call 41; refine (bytes_any _ _).mono ?_; rintro e w' ⟨rfl, rfl⟩))
  go_ret2
  exact ⟨rfl, (Below.refl _ _).alloc (Nat.le_refl _) _⟩

set_option maxHeartbeats 1000000 in
theorem renc2 (r : Int) (w : World) (he : encB r = true) (h0 : 128 ≤ r) (h : r < 2048) : Calls Try.prog 24 #[.int .i64 r] w fun e w' => e = .returned (.tuple #[.string (strOfNums [192 + r / 64, 128 + r % 64]), .int .i64 0]) ∧ Below w.heap.size w w' := by
  have hn : byN r = 2 := by unfold byN; rw [if_neg (by omega), if_pos h]
  have hmk : ∀ w, (Instr.makeSlice 50 (.int .i64 2) (.int .i64 2)).run Try.prog w = .ok (.slice (some ⟨w.heap.size, 0, none⟩) 2 2) (w.alloc (.cells #[.int .u8 0, .int .u8 0] 5)) := fun _ => by kernel_rfl
  have hcv := fun a b W => conv_new [a, b] 2 rfl W
  simp only [List.map_cons, List.map_nil] at hcv
  go_enter Try.func24, Try.ntmps24
  go_wp2_with (first | (go_at_call 40; refine (good_any _ _).mono ?_; rintro e w' ⟨rfl, rfl⟩) | (go_at_call 41; refine (bytes_any _ _).mono ?_; rintro e w' ⟨rfl, rfl⟩))
  refine wp_loop_rounds 2 ?_
  rw [rounds_succ]
  go_wp2
  rw [rounds_succ]
  go_wp2
  go_ret2
  exact ⟨rfl, (Below.refl _ _).alloc (Nat.le_refl _) _⟩

set_option maxHeartbeats 1000000 in
theorem renc3 (r : Int) (w : World) (he : encB r = true) (h0 : 2048 ≤ r) (h : r < 65536) : Calls Try.prog 24 #[.int .i64 r] w fun e w' => e = .returned (.tuple #[.string (strOfNums [224 + r / 64 / 64, 128 + r / 64 % 64, 128 + r % 64]), .int .i64 0]) ∧ Below w.heap.size w w' := by
  have hn : byN r = 3 := by unfold byN; rw [if_neg (by omega), if_neg (by omega), if_pos h]
  have hmk : ∀ w, (Instr.makeSlice 50 (.int .i64 3) (.int .i64 3)).run Try.prog w = .ok (.slice (some ⟨w.heap.size, 0, none⟩) 3 3) (w.alloc (.cells #[.int .u8 0, .int .u8 0, .int .u8 0] 5)) := fun _ => by kernel_rfl
  have hcv := fun a b c W => conv_new [a, b, c] 3 rfl W
  simp only [List.map_cons, List.map_nil] at hcv
  go_enter Try.func24, Try.ntmps24
  go_wp2_with (first | (go_at_call 40; refine (good_any _ _).mono ?_; rintro e w' ⟨rfl, rfl⟩) | (go_at_call 41; refine (bytes_any _ _).mono ?_; rintro e w' ⟨rfl, rfl⟩))
  refine wp_loop_rounds 3 ?_
  rw [rounds_succ]
  go_wp2
  rw [rounds_succ]
  go_wp2
  rw [rounds_succ]
  go_wp2
  go_ret2
  exact ⟨rfl, (Below.refl _ _).alloc (Nat.le_refl _) _⟩

set_option maxHeartbeats 1000000 in
theorem renc4 (r : Int) (w : World) (he : encB r = true) (h0 : 65536 ≤ r) (h : r ≤ 1114111) : Calls Try.prog 24 #[.int .i64 r] w fun e w' => e = .returned (.tuple #[.string (strOfNums [240 + r / 64 / 64 / 64, 128 + r / 64 / 64 % 64, 128 + r / 64 % 64, 128 + r % 64]), .int .i64 0]) ∧ Below w.heap.size w w' := by
  have hn : byN r = 4 := by unfold byN; rw [if_neg (by omega), if_neg (by omega), if_neg (by omega)]
  have hmk : ∀ w, (Instr.makeSlice 50 (.int .i64 4) (.int .i64 4)).run Try.prog w = .ok (.slice (some ⟨w.heap.size, 0, none⟩) 4 4) (w.alloc (.cells #[.int .u8 0, .int .u8 0, .int .u8 0, .int .u8 0] 5)) := fun _ => by kernel_rfl
  have hcv := fun a b c d W => conv_new [a, b, c, d] 4 rfl W
  simp only [List.map_cons, List.map_nil] at hcv
  go_enter Try.func24, Try.ntmps24
  go_wp2_with (first | (go_at_call 40; refine (good_any _ _).mono ?_; rintro e w' ⟨rfl, rfl⟩) | (go_at_call 41; refine (bytes_any _ _).mono ?_; rintro e w' ⟨rfl, rfl⟩))
  refine wp_loop_rounds 4 ?_
  rw [rounds_succ]
  go_wp2
  rw [rounds_succ]
  go_wp2
  rw [rounds_succ]
  go_wp2
  rw [rounds_succ]
  go_wp2
  go_ret2
  exact ⟨rfl, (Below.refl _ _).alloc (Nat.le_refl _) _⟩

end Go.Proofs.Ytoecfpedpibfiaa
