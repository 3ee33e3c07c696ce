/- The walk of RunesPlaces. -/
import Derived.Test.YtoecfpedpibfiaaRpart
import Derived.Test.YtoecfpedpibfiaaPartAny
namespace Go.Proofs.Ytoecfpedpibfiaa
open Go.RowKit

set_option maxHeartbeats 2000000 in
theorem places_core (s R : ByteArray) (i j x y z e a b f : Int) (w : World)
    (C17 : ∀ W, Calls Try.prog 17 #[.string s, .int .i64 i] W fun r W' => r = .returned (.tuple #[.agg #[.int .i64 x, .int .i64 y, .int .i64 z], .int .i64 e]) ∧ Below W.heap.size W W')
    (C18 : ∀ W, Calls Try.prog 18 #[.string s, .int .i64 i] W fun r W' => r = .returned (.tuple #[.agg #[.int .i64 x, .int .i64 y, .int .i64 z], .int .i64 e]) ∧ Below W.heap.size W W')
    (C19 : ∀ W, Calls Try.prog 19 #[.string s, .int .i64 j] W fun r W' => r = .returned (.tuple #[.int .i64 a, .int .i64 b, .int .i64 f]) ∧ Below W.heap.size W W')
    (C20 : ∀ W, Calls Try.prog 20 #[.string s, .int .i64 j] W fun r W' => r = .returned (.tuple #[.int .i64 a, .int .i64 b, .int .i64 f]) ∧ Below W.heap.size W W')
    (C21 : ∀ W, Calls Try.prog 21 #[.string s, .int .i64 i, .int .i64 j] W fun r W' => r = .returned (.string R) ∧ Below W.heap.size W W')
    (C22 : ∀ W, Calls Try.prog 22 #[.string s, .int .i64 i, .int .i64 j] W fun r W' => r = .returned (.string R) ∧ Below W.heap.size W W') :
    Calls Try.prog 4 #[.string s, .int .i64 i, .int .i64 j] w fun r w' => r = .returned (.bool true) ∧ Below w.heap.size w w' := by
  have C9 := fixed_any
  go_enter Try.func4, Try.ntmps4
  go_wp2_with (first
    | (go_at_call 9; refine (C9 _).mono ?_; rintro r w1 ⟨rfl, b1⟩)
    | (go_at_call 17; refine (C17 _).mono ?_; rintro r w2 ⟨rfl, b2⟩; have c0 := (new_cell w2 [.int .i64 x, .int .i64 y, .int .i64 z] 30 0 _ rfl).1; have c1 := (new_cell w2 [.int .i64 x, .int .i64 y, .int .i64 z] 30 1 _ rfl).1; have c2 := (new_cell w2 [.int .i64 x, .int .i64 y, .int .i64 z] 30 2 _ rfl).1)
    | (go_at_call 18; refine (C18 _).mono ?_; rintro r w3 ⟨rfl, b3⟩; have d0 := alloc_cell (Nat.lt_of_lt_of_le (by simp) b3.size) ((at_cell b3 (by simp) 0).trans c0); have d1 := alloc_cell (Nat.lt_of_lt_of_le (by simp) b3.size) ((at_cell b3 (by simp) 1).trans c1); have d2 := alloc_cell (Nat.lt_of_lt_of_le (by simp) b3.size) ((at_cell b3 (by simp) 2).trans c2))
    | (go_at_call 19; refine (C19 _).mono ?_; rintro r w4 ⟨rfl, b4⟩)
    | (go_at_call 20; refine (C20 _).mono ?_; rintro r w5 ⟨rfl, b5⟩)
    | (go_at_call 21; refine (C21 _).mono ?_; rintro r w6 ⟨rfl, b6⟩)
    | (go_at_call 22; refine (C22 _).mono ?_; rintro r w7 ⟨rfl, b7⟩))
  go_ret
  exact ⟨rfl, bel_on (bel_on (bel_on (bel_on (bel_new (bel_on (bel_new (bel_on b1 b2) _) b3) _) b4) b5) b6) b7⟩

theorem dec_both (s : ByteArray) (i : Int) (hs : s.size ≤ 1048576) : ∃ x y z e : Int, (∀ W, Calls Try.prog 17 #[.string s, .int .i64 i] W fun r W' => r = .returned (.tuple #[.agg #[.int .i64 x, .int .i64 y, .int .i64 z], .int .i64 e]) ∧ Below W.heap.size W W') ∧
    (∀ W, Calls Try.prog 18 #[.string s, .int .i64 i] W fun r W' => r = .returned (.tuple #[.agg #[.int .i64 x, .int .i64 y, .int .i64 z], .int .i64 e]) ∧ Below W.heap.size W W') := by
  by_cases h : i < 0 ∨ (s.size : Int) ≤ i
  · exact ⟨0, 0, 0, 1, fun W => decode_no s i W h, fun W => rdecode_no s i W h⟩
  · obtain ⟨n, rfl⟩ : ∃ n : Nat, i = n := ⟨i.toNat, by omega⟩
    exact ⟨n, wd s n, rn s n, 0, fun W => decode_yes s n W (by omega) (by omega), fun W => rdecode_yes s n W (by omega) hs⟩

theorem place_both (s : ByteArray) (j : Int) (hs : s.size ≤ 1048576) : ∃ a b f : Int, (∀ W, Calls Try.prog 19 #[.string s, .int .i64 j] W fun r W' => r = .returned (.tuple #[.int .i64 a, .int .i64 b, .int .i64 f]) ∧ Below W.heap.size W W') ∧
    (∀ W, Calls Try.prog 20 #[.string s, .int .i64 j] W fun r W' => r = .returned (.tuple #[.int .i64 a, .int .i64 b, .int .i64 f]) ∧ Below W.heap.size W W') := by
  by_cases h : j < 0 ∨ (s.size : Int) < j
  · exact ⟨0, 0, 1, fun W => place_err s j W h, fun W => (rplace_err s j W h).mono fun r W' ⟨he, hw⟩ => ⟨he, by rw [hw]; exact Below.refl _ _⟩⟩
  · obtain ⟨n, rfl⟩ : ∃ n : Nat, j = n := ⟨j.toNat, by omega⟩
    exact ⟨_, _, 0, fun W => place_yes s n W hs (by omega), fun W => rplace_yes s n W hs (by omega)⟩

theorem places_walk (s : ByteArray) (i j : Int) (w : World) (hs : s.size ≤ 1048576) : Calls Try.prog 4 #[.string s, .int .i64 i, .int .i64 j] w fun r w' => r = .returned (.bool true) ∧ Below w.heap.size w w' := by
  obtain ⟨x, y, z, e, C17, C18⟩ := dec_both s i hs
  obtain ⟨a, b, f, C19, C20⟩ := place_both s j hs
  exact places_core s _ i j x y z e a b f w C17 C18 C19 C20 (fun W => part_any s i j W hs) (fun W => rpart_any s i j W hs)

#print axioms places_walk
end Go.Proofs.Ytoecfpedpibfiaa
