/- The walks of As, the program's and the reference's. -/
import Derived.Test.YtimmoecjfkacpaaDoorForms
namespace Go.Proofs.YtimmoecjfkacpaaDoor
open Go.RowKit

def asE (k n : Int) (s : ByteArray) (q : Int) : Int := if inF k n s = true then (if 0 ≤ q ∧ q ≤ 6 then 0 else 1) else 2
def asV (k n : Int) (s : ByteArray) (q : Int) : Value := if fits k n s q = true then vl k n s else zv
theorem second_cell {w w' : World} (o : Obj) (h : Below ((w.alloc o).alloc zb).heap.size ((w.alloc o).alloc zb) w') : At w' (w.heap.size + 1) 0 0 ⟨#[]⟩ := by
  have := (At.new (w.alloc o) 0 0 ⟨#[]⟩).below h
  simpa using this

set_option maxRecDepth 20000 in
set_option maxHeartbeats 600000 in
theorem as_bad (k n : Int) (s : ByteArray) (q : Int) (h : inF k n s = false) (w : World) : Calls Tryd.prog 20 #[vl k n s, .int .i64 q] w fun e w' => e = .returned (.tuple #[zv, .bool false, .int .i64 2]) ∧ Below w.heap.size w w' := by
  have C1 := put_bad k n s h
  clear h
  unfold vl vb at *
  go_enter Tryd.func20, Tryd.ntmps20
  go_wp2_with (go_at_call 30; refine (C1 _).mono ?_; rintro e w' ⟨rfl, rfl⟩)
  refine bodyPost_ret (v := .tuple #[zv, .bool false, .int .i64 2]) (by simp [results, Tryd.results20, go_sem]) rfl ⟨rfl, ?_⟩
  repeat (first | exact Below.refl _ _ | refine Below.alloc ?_ (by simp; try omega) _)

set_option maxRecDepth 20000 in
set_option maxHeartbeats 600000 in
theorem as_arg (b : Bx) (hb : b.ok) (q : Int) (hq : ¬ (0 ≤ q ∧ q ≤ 6)) (w : World) : Calls Tryd.prog 20 #[b.val, .int .i64 q] w fun e w' => e = .returned (.tuple #[zv, .bool false, .int .i64 1]) ∧ Below w.heap.size w w' := by
  have C1 := put_ok b hb
  have C2 := isKind_any q
  rw [decide_eq_false hq] at C2
  clear hb hq
  unfold Bx.val Bx.blk vl vb at *
  go_enter Tryd.func20, Tryd.ntmps20
  go_wp2_with (first | (go_at_call 30; refine (C1 _).mono ?_; rintro e w' ⟨rfl, rfl⟩) | (go_at_call 38; refine (C2 _).mono ?_; rintro e w' ⟨rfl, rfl⟩))
  refine bodyPost_ret (v := .tuple #[zv, .bool false, .int .i64 1]) (by simp [results, Tryd.results20, go_sem]) rfl ⟨rfl, ?_⟩
  repeat (first | exact Below.refl _ _ | refine Below.alloc ?_ (by simp; try omega) _)

set_option maxRecDepth 20000 in
set_option maxHeartbeats 600000 in
theorem as_no (b : Bx) (hb : b.ok) (q : Int) (hq : 0 ≤ q ∧ q ≤ 6) (h : ¬ q = b.kind) (w : World) : Calls Tryd.prog 20 #[b.val, .int .i64 q] w fun e w' => e = .returned (.tuple #[zv, .bool false, .int .i64 0]) ∧ Below w.heap.size w w' := by
  have C1 := put_ok b hb
  have C2 := isKind_any q
  have C3 := asb b q
  rw [decide_eq_true hq] at C2
  rw [decide_eq_false h] at C3
  clear hb hq h
  unfold Bx.val Bx.blk vl vb at *
  go_enter Tryd.func20, Tryd.ntmps20
  go_wp2_with (first | (go_at_call 30; refine (C1 _).mono ?_; rintro e w' ⟨rfl, rfl⟩) | (go_at_call 38; refine (C2 _).mono ?_; rintro e w' ⟨rfl, rfl⟩) | (go_at_call 39; refine (C3 _).mono ?_; rintro e w' ⟨rfl, rfl⟩))
  refine bodyPost_ret (v := .tuple #[zv, .bool false, .int .i64 0]) (by simp [results, Tryd.results20, go_sem]) rfl ⟨rfl, ?_⟩
  repeat (first | exact Below.refl _ _ | refine Below.alloc ?_ (by simp; try omega) _)

set_option maxRecDepth 20000 in
set_option maxHeartbeats 600000 in
theorem as_yes (b : Bx) (hb : b.ok) (hq : 0 ≤ b.kind ∧ b.kind ≤ 6) (w : World) : Calls Tryd.prog 20 #[b.val, .int .i64 b.kind] w fun e w' => e = .returned (.tuple #[b.val, .bool true, .int .i64 0]) ∧ Below w.heap.size w w' := by
  have C1 := put_ok b hb
  have C2 := isKind_any b.kind
  have C3 := asb b b.kind
  have C4 := take_any b
  rw [decide_eq_true hq] at C2
  rw [decide_eq_true rfl] at C3
  clear hb hq
  unfold Bx.val Bx.blk vl vb at *
  go_enter Tryd.func20, Tryd.ntmps20
  go_wp2_with (first | (go_at_call 30; refine (C1 _).mono ?_; rintro e w' ⟨rfl, rfl⟩) | (go_at_call 38; refine (C2 _).mono ?_; rintro e w' ⟨rfl, rfl⟩) | (go_at_call 39; refine (C3 _).mono ?_; rintro e w' ⟨rfl, rfl⟩) | (go_at_call 31; refine (C4 _).mono ?_; rintro e w' ⟨rfl, rfl⟩))
  refine bodyPost_ret (v := .tuple #[vl b.kind b.num b.txt, .bool true, .int .i64 0]) (by simp [results, Tryd.results20, go_sem]) rfl ⟨rfl, ?_⟩
  repeat (first | exact Below.refl _ _ | refine Below.alloc ?_ (by simp; try omega) _)

theorem kind_range (b : Bx) : 0 ≤ b.kind ∧ b.kind ≤ 6 := by cases b <;> simp [Bx.kind]
theorem As_any (k n : Int) (s : ByteArray) (q : Int) (h0 : -9223372036854775808 ≤ n) (h1 : n ≤ 9223372036854775807) (w : World) :
    Calls Tryd.prog 20 #[vl k n s, .int .i64 q] w fun e w' => e = .returned (.tuple #[asV k n s q, .bool (fits k n s q), .int .i64 (asE k n s q)]) ∧ Below w.heap.size w w' := by
  cases hf : inF k n s
  · have e1 : fits k n s q = false := by simp [fits, hf]
    have e2 : asV k n s q = zv := by simp [asV, e1]
    have e3 : asE k n s q = 2 := by simp [asE, hf]
    rw [e1, e2, e3]
    exact as_bad k n s q hf w
  · obtain ⟨b, hb, rfl, rfl, rfl⟩ := form_of k n s h0 h1 hf
    by_cases hq : q = b.kind
    · subst hq
      have e1 : fits b.kind b.num b.txt b.kind = true := by simp [fits, hf]
      have e2 : asV b.kind b.num b.txt b.kind = b.val := by simp [asV, e1, Bx.val]
      have e3 : asE b.kind b.num b.txt b.kind = 0 := by simp [asE, hf, kind_range b]
      rw [e1, e2, e3]
      exact as_yes b hb (kind_range b) w
    · have e1 : fits b.kind b.num b.txt q = false := by simp [fits, hf]; exact fun h => hq h.symm
      have e2 : asV b.kind b.num b.txt q = zv := by simp [asV, e1]
      rw [e1, e2]
      by_cases hr : 0 ≤ q ∧ q ≤ 6
      · have e3 : asE b.kind b.num b.txt q = 0 := by simp [asE, hf, hr]
        rw [e3]
        exact as_no b hb q hr hq w
      · have e3 : asE b.kind b.num b.txt q = 1 := by unfold asE; rw [if_pos hf, if_neg hr]
        rw [e3]
        exact as_arg b hb q hr w

end Go.Proofs.YtimmoecjfkacpaaDoor
