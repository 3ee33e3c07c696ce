/- The reference's Order and Join, joined from their cases; what two Joins answer is the same. -/
import Derived.Test.YtimmoecjfkacpaaDoorRjoinf
namespace Go.Proofs.YtimmoecjfkacpaaDoor
open Go.RowKit

theorem both_form (a b : Bx) (ha : a.ok) (hb : b.ok) (w : World) : Calls Tryd.prog 29 #[a.val, b.val] w fun e w' => e = .returned (.int .i64 0) ∧ Below w.heap.size w w' := by
  have h := rboth_any a.kind a.num a.txt b.kind b.num b.txt w
  have e : bothE a.kind a.num a.txt b.kind b.num b.txt = 0 := by simp [bothE, ok_form a ha, ok_form b hb]
  rw [e] at h
  exact h
theorem rorder_ok (a b : Bx) (ha : a.ok) (hb : b.ok) (w : World) : Calls Tryd.prog 27 #[a.val, b.val] w fun e w' => e = .returned (.tuple #[.int .i64 (a.ord b), .int .i64 (a.ordE b)]) ∧ Below w.heap.size w w' := by
  have RB := both_form a b ha hb
  unfold Bx.val at *
  cases a with
  | int x =>
    cases b with
    | int y =>
      show Calls Tryd.prog 27 #[vl 2 x ⟨#[]⟩, vl 2 y ⟨#[]⟩] w fun e w' => e = .returned (.tuple #[.int .i64 (cI x y), .int .i64 0]) ∧ Below w.heap.size w w'
      by_cases h1 : x < y
      · have e : cI x y = -1 := by unfold cI; rw [if_pos h1]
        rw [e]; exact rorder_lt x y RB h1 w
      · by_cases h2 : y < x
        · have e : cI x y = 1 := by unfold cI; rw [if_neg h1, if_pos h2]
          rw [e]; exact rorder_gt x y RB h2 w
        · obtain rfl : x = y := by omega
          have e : cI x x = 0 := by unfold cI; rw [if_neg h1, if_neg h2]
          rw [e]; exact rorder_eq x RB w
    | nil => exact rorder_io x _ _ _ RB (by simp [Bx.kind]) w
    | bool y => exact rorder_io x _ _ _ RB (by simp [Bx.kind]) w
    | str y => exact rorder_io x _ _ _ RB (by simp [Bx.kind]) w
    | tab y => exact rorder_io x _ _ _ RB (by simp [Bx.kind]) w
    | fn y => exact rorder_io x _ _ _ RB (by simp [Bx.kind]) w
    | lib y => exact rorder_io x _ _ _ RB (by simp [Bx.kind]) w
  | str x =>
    cases b with
    | str y => exact rorder_ss x y RB ha hb w
    | nil => exact rorder_so x _ _ _ RB (by simp [Bx.kind]) w
    | bool y => exact rorder_so x _ _ _ RB (by simp [Bx.kind]) w
    | int y => exact rorder_so x _ _ _ RB (by simp [Bx.kind]) w
    | tab y => exact rorder_so x _ _ _ RB (by simp [Bx.kind]) w
    | fn y => exact rorder_so x _ _ _ RB (by simp [Bx.kind]) w
    | lib y => exact rorder_so x _ _ _ RB (by simp [Bx.kind]) w
  | nil => cases b <;> exact rorder_oo _ _ _ _ _ _ RB (by simp [Bx.kind]) (by simp [Bx.kind]) w
  | bool x => cases b <;> exact rorder_oo _ _ _ _ _ _ RB (by simp [Bx.kind]) (by simp [Bx.kind]) w
  | tab x => cases b <;> exact rorder_oo _ _ _ _ _ _ RB (by simp [Bx.kind]) (by simp [Bx.kind]) w
  | fn x => cases b <;> exact rorder_oo _ _ _ _ _ _ RB (by simp [Bx.kind]) (by simp [Bx.kind]) w
  | lib x => cases b <;> exact rorder_oo _ _ _ _ _ _ RB (by simp [Bx.kind]) (by simp [Bx.kind]) w

theorem rjoin_not (a b : Bx) (ha : a.ok) (hb : b.ok) (h : (a.jn && b.jn) = false) (w : World) : Calls Tryd.prog 28 #[a.val, b.val] w fun e w' => e = .returned (.tuple #[zv, .int .i64 8]) ∧ Below w.heap.size w w' := by
  have RB := both_form a b ha hb
  unfold Bx.val at *
  by_cases h1 : a.kind = 2 ∨ a.kind = 3
  · have h2 : ¬ (b.kind = 2 ∨ b.kind = 3) := fun h2 => by rw [(jn_kind a).2 h1, (jn_kind b).2 h2] at h; cases h
    rcases h1 with h1 | h1
    · rw [h1] at RB ⊢; exact rjoin_2o _ _ _ _ _ RB (fun e => h2 (Or.inl e)) (fun e => h2 (Or.inr e)) w
    · rw [h1] at RB ⊢; exact rjoin_3o _ _ _ _ _ RB (fun e => h2 (Or.inl e)) (fun e => h2 (Or.inr e)) w
  · exact rjoin_a _ _ _ _ _ _ RB (fun e => h1 (Or.inl e)) (fun e => h1 (Or.inr e)) w

theorem rjoin_big (a b : Bx) (ha : a.ok) (hb : b.ok) (h1 : a.jn = true) (h2 : b.jn = true) (hs : 10000 < a.shw.size + b.shw.size) (w : World) : Calls Tryd.prog 28 #[a.val, b.val] w fun e w' => e = .returned (.tuple #[zv, .int .i64 14]) ∧ Below w.heap.size w w' := by
  have RB := both_form a b ha hb
  have S1 := rshow_ok a ha
  have S2 := rshow_ok b hb
  have z1 := shw_size a ha
  have z2 := shw_size b hb
  have hs' : (10000 : Int) < (a.shw.size : Int) + (b.shw.size : Int) := by omega
  unfold Bx.val at *
  rcases (jn_kind a).1 h1 with k1 | k1 <;> rcases (jn_kind b).1 h2 with k2 | k2 <;> rw [k1] at RB S1 ⊢ <;> rw [k2] at RB S2 ⊢
  · exact rjoin_b22 _ _ _ _ _ _ RB S1 S2 z1 z2 hs' w
  · exact rjoin_b23 _ _ _ _ _ _ RB S1 S2 z1 z2 hs' w
  · exact rjoin_b32 _ _ _ _ _ _ RB S1 S2 z1 z2 hs' w
  · exact rjoin_b33 _ _ _ _ _ _ RB S1 S2 z1 z2 hs' w

theorem rjoin_fit (a b : Bx) (ha : a.ok) (hb : b.ok) (h1 : a.jn = true) (h2 : b.jn = true) (hs : a.shw.size + b.shw.size ≤ 10000) (w : World) : Calls Tryd.prog 28 #[a.val, b.val] w fun e w' => e = .returned (.tuple #[vl 3 0 (a.shw ++ b.shw), .int .i64 0]) ∧ Below w.heap.size w w' := by
  have RB := both_form a b ha hb
  have S1 := rshow_ok a ha
  have S2 := rshow_ok b hb
  have hs' : (a.shw.size : Int) + (b.shw.size : Int) ≤ 10000 := by omega
  unfold Bx.val at *
  rcases (jn_kind a).1 h1 with k1 | k1 <;> rcases (jn_kind b).1 h2 with k2 | k2 <;> rw [k1] at RB S1 ⊢ <;> rw [k2] at RB S2 ⊢
  · exact rjoin_f22 _ _ _ _ _ _ RB S1 S2 hs' w
  · exact rjoin_f23 _ _ _ _ _ _ RB S1 S2 hs' w
  · exact rjoin_f32 _ _ _ _ _ _ RB S1 S2 hs' w
  · exact rjoin_f33 _ _ _ _ _ _ RB S1 S2 hs' w

/-- The program's Join and the reference's answer the same. -/
theorem join_pair (a b : Bx) (ha : a.ok) (hb : b.ok) : ∃ (K M : Int) (S : ByteArray) (E : Int),
    (∀ w, Tab w → Calls Tryd.prog 26 #[a.val, b.val] w fun e w' => e = .returned (.tuple #[vl K M S, .int .i64 E]) ∧ Below w.heap.size w w') ∧
    (∀ w, Calls Tryd.prog 28 #[a.val, b.val] w fun e w' => e = .returned (.tuple #[vl K M S, .int .i64 E]) ∧ Below w.heap.size w w') := by
  cases hj : (a.jn && b.jn)
  · exact ⟨0, 0, ⟨#[]⟩, 8, fun w _ => join_not a b ha hb hj w, fun w => rjoin_not a b ha hb hj w⟩
  · have hj2 : a.jn = true ∧ b.jn = true := by simpa using hj
    by_cases hs : a.shw.size + b.shw.size ≤ 10000
    · exact ⟨3, 0, _, 0, fun w ht => join_fit a b ha hb hj2.1 hj2.2 hs w ht, fun w => rjoin_fit a b ha hb hj2.1 hj2.2 hs w⟩
    · exact ⟨0, 0, ⟨#[]⟩, 14, fun w ht => join_big a b ha hb hj2.1 hj2.2 (by omega) w ht, fun w => rjoin_big a b ha hb hj2.1 hj2.2 (by omega) w⟩

end Go.Proofs.YtimmoecjfkacpaaDoor
