/- The walks of Must, where it gives the value and where it panics, and of the recovering 'panics'. -/
import Derived.Test.YtimmoecjfkacpaaDoorEx
import Derived.Defers
import Derived.Recover
import Derived.Laws.Pointers
namespace Go.Proofs.YtimmoecjfkacpaaDoor
open Go.RowKit

theorem mustb_hit (b : Bx) (w : World) : Calls Tryd.prog 40 #[b.box, .int .i64 b.kind] w fun e w' => e = .returned b.box ∧ w' = w := by
  cases b with
  | nil => exact must_hit0 _ w
  | bool x => exact must_hit1 _ w
  | int x => exact must_hit2 _ w
  | str x => exact must_hit3 _ w
  | tab x => exact must_hit4 _ w
  | fn x => exact must_hit5 _ w
  | lib x => exact must_hit6 _ w

def Bx.ty : Bx → TypeId
  | .nil => 54
  | .bool _ => 55
  | .int _ => 56
  | .str _ => 57
  | .tab _ => 58
  | .fn _ => 59
  | .lib _ => 60
def Bx.in : Bx → Value
  | .nil => .agg #[]
  | .bool b => .bool b
  | .int n => .int .i64 n
  | .str s => .string s
  | .tab n => .int .i64 n
  | .fn n => .int .i64 n
  | .lib n => .int .i64 n
theorem box_eq (b : Bx) : b.box = .iface b.ty b.in := by cases b <;> rfl

/-- The end of a call that panics with something that can be recovered. -/
abbrev Pan (e : Ending) : Prop := ∃ u pv, e = .panicked [{ v := .iface u pv, recovered := false }]

theorem mustb_miss (b : Bx) (k : Int) (h : k ≠ b.kind) (w : World) : Calls Tryd.prog 40 #[b.box, .int .i64 k] w fun e w' => Pan e ∧ Below w.heap.size w w' := by
  rw [box_eq]
  by_cases hk : 0 ≤ k ∧ k ≤ 6
  · have hq : k = 0 ∨ k = 1 ∨ k = 2 ∨ k = 3 ∨ k = 4 ∨ k = 5 ∨ k = 6 := by omega
    rcases hq with q | q | q | q | q | q | q <;> subst q
    · exact (must_miss0 b.ty (fun he => h (by revert he; cases b <;> simp [Bx.ty, Bx.kind])) _ w).mono fun e w' ⟨he, hw⟩ => ⟨⟨_, _, he⟩, hw ▸ b1 _ _⟩
    · exact (must_miss1 b.ty (fun he => h (by revert he; cases b <;> simp [Bx.ty, Bx.kind])) _ w).mono fun e w' ⟨he, hw⟩ => ⟨⟨_, _, he⟩, hw ▸ b1 _ _⟩
    · exact (must_miss2 b.ty (fun he => h (by revert he; cases b <;> simp [Bx.ty, Bx.kind])) _ w).mono fun e w' ⟨he, hw⟩ => ⟨⟨_, _, he⟩, hw ▸ b1 _ _⟩
    · exact (must_miss3 b.ty (fun he => h (by revert he; cases b <;> simp [Bx.ty, Bx.kind])) _ w).mono fun e w' ⟨he, hw⟩ => ⟨⟨_, _, he⟩, hw ▸ b1 _ _⟩
    · exact (must_miss4 b.ty (fun he => h (by revert he; cases b <;> simp [Bx.ty, Bx.kind])) _ w).mono fun e w' ⟨he, hw⟩ => ⟨⟨_, _, he⟩, hw ▸ b1 _ _⟩
    · exact (must_miss5 b.ty (fun he => h (by revert he; cases b <;> simp [Bx.ty, Bx.kind])) _ w).mono fun e w' ⟨he, hw⟩ => ⟨⟨_, _, he⟩, hw ▸ b1 _ _⟩
    · exact (must_miss6 b.ty (fun he => h (by revert he; cases b <;> simp [Bx.ty, Bx.kind])) _ w).mono fun e w' ⟨he, hw⟩ => ⟨⟨_, _, he⟩, hw ▸ b1 _ _⟩
  · exact (must_other _ k hk w).mono fun e w' ⟨he, hw⟩ => ⟨⟨_, _, he⟩, hw ▸ Below.refl _ _⟩

set_option maxHeartbeats 1000000 in
theorem Must_hit (b : Bx) (hb : b.ok) (w : World) : Calls Tryd.prog 23 #[b.val, .int .i64 b.kind] w fun e w' => e = .returned b.val ∧ Below w.heap.size w w' := by
  have C1 := put_ok b hb
  have C2 := mustb_hit b
  have C3 := take_any b
  clear hb
  unfold Bx.val Bx.blk vl vb at *
  go_enter Tryd.func23, Tryd.ntmps23
  go_wp2_with (first | (go_at_call 30; refine (C1 _).mono ?_; rintro e w' ⟨rfl, rfl⟩) | (go_at_call 40; refine (C2 _).mono ?_; rintro e w' ⟨rfl, rfl⟩) | (go_at_call 31; refine (C3 _).mono ?_; rintro e w' ⟨rfl, rfl⟩))
  refine bodyPost_ret (v := vl b.kind b.num b.txt) (by simp [results, Tryd.results23, go_sem]) rfl ⟨rfl, ?_⟩
  repeat (first | exact Below.refl _ _ | refine Below.alloc ?_ (by simp; try omega) _)

set_option maxHeartbeats 1000000 in
theorem Must_bad (k n : Int) (s : ByteArray) (q : Int) (h : inF k n s = false) (w : World) : Calls Tryd.prog 23 #[vl k n s, .int .i64 q] w fun e w' => Pan e ∧ Below w.heap.size w w' := by
  have C1 := put_bad k n s h
  clear h
  unfold vl vb at *
  go_enter Tryd.func23, Tryd.ntmps23
  go_wp2_with (go_at_call 30; refine (C1 _).mono ?_; rintro e w' ⟨rfl, rfl⟩)
  refine ⟨rfl, ⟨_, _, rfl⟩, ?_⟩
  repeat (first | exact Below.refl _ _ | refine Below.alloc ?_ (by simp; try omega) _)

set_option maxHeartbeats 1000000 in
theorem Must_miss (b : Bx) (hb : b.ok) (q : Int) (h : q ≠ b.kind) (w : World) : Calls Tryd.prog 23 #[b.val, .int .i64 q] w fun e w' => Pan e ∧ Below w.heap.size w w' := by
  have C1 := put_ok b hb
  have C2 := mustb_miss b q h
  clear hb h
  unfold Bx.val Bx.blk vl vb at *
  go_enter Tryd.func23, Tryd.ntmps23
  go_wp2_with (first | (go_at_call 30; refine (C1 _).mono ?_; rintro e w' ⟨rfl, rfl⟩) | (go_at_call 40; refine (C2 _).mono ?_; rintro e w' ⟨⟨u, pv, rfl⟩, hb⟩))
  refine ⟨rfl, ⟨_, _, rfl⟩, bthen ?_ (by simp; omega) hb⟩
  repeat (first | exact Below.refl _ _ | refine Below.alloc ?_ (by simp; try omega) _)

/-- Does Must give the value? -/
def fits (k n : Int) (s : ByteArray) (q : Int) : Bool := inF k n s && decide (k = q)
theorem Must_pan (k n : Int) (s : ByteArray) (q : Int) (h0 : -9223372036854775808 ≤ n) (h1 : n ≤ 9223372036854775807) (h : fits k n s q = false) (w : World) : Calls Tryd.prog 23 #[vl k n s, .int .i64 q] w fun e w' => Pan e ∧ Below w.heap.size w w' := by
  cases hf : inF k n s
  · exact Must_bad k n s q hf w
  · obtain ⟨b, hb, rfl, rfl, rfl⟩ := form_of k n s h0 h1 hf
    have : ¬ b.kind = q := by simpa [fits, hf] using h
    exact Must_miss b hb q (fun e => this e.symm) w
theorem Must_val (k n : Int) (s : ByteArray) (q : Int) (h0 : -9223372036854775808 ≤ n) (h1 : n ≤ 9223372036854775807) (h : fits k n s q = true) (w : World) : Calls Tryd.prog 23 #[vl k n s, .int .i64 q] w fun e w' => e = .returned (vl k n s) ∧ Below w.heap.size w w' := by
  simp only [fits, Bool.and_eq_true, decide_eq_true_eq] at h
  obtain ⟨hf, rfl⟩ := h
  obtain ⟨b, hb, rfl, rfl, rfl⟩ := form_of k n s h0 h1 hf
  exact Must_hit b hb w

theorem catch_panicking (p : Addr) (x : Bool) (u : TypeId) (pv : Value) (older : List PanicEntry) (w : World) (hc : w.cell? p = some (.bool x)) (hz : w.frozen? p = false) :
    CallsD Tryd.prog 46 #[.pointer (some p)] (.panicking ({ v := .iface u pv, recovered := false } :: older)) w fun e u' w' =>
      e = .returned (.tuple #[]) ∧ u' = .panicking ({ v := .iface u pv, recovered := true } :: older) ∧ w' = w.setCell p (.bool true) := by
  refine callsD_of_wpS Tryd.func46 rfl fun c₀ cs hu => ?_
  apply wpS_seq
  apply wpS_region
  simp [wpOpsS, go_sem, recoverD, hu, Tryd.ntmps46, Exit.thenS]
  refine wpS_cond (t := true) (by simp [Act.eval, Array.replicate]) ?_
  simp only [if_true]
  apply wpS_region
  simp [wpOpsS, go_sem, hc, hz, bodyPostS, results, Tryd.results46]

theorem catch_idle (p : Addr) (w : World) :
    CallsD Tryd.prog 46 #[.pointer (some p)] .returning w fun e u' w' => e = .returned (.tuple #[]) ∧ u' = .returning ∧ w' = w := by
  refine callsD_of_wpS Tryd.func46 rfl fun c₀ cs hu => ?_
  apply wpS_seq
  apply wpS_region
  simp [wpOpsS, go_sem, recoverD, hu, Tryd.ntmps46, Exit.thenS]
  refine wpS_cond (t := false) (by simp [Act.eval, Array.replicate]) ?_
  simp only [Bool.false_eq_true, if_false]
  refine wpS_of_wp (wp_skip ?_)
  cases c₀
  simp_all [bodyPostS, results, Tryd.results46]

end Go.Proofs.YtimmoecjfkacpaaDoor
