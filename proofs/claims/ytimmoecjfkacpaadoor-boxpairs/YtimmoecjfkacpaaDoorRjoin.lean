/- The walk of the reference's Join; Order and Join joined from their cases. -/
import Derived.Test.YtimmoecjfkacpaaDoorRordl
namespace Go.Proofs.YtimmoecjfkacpaaDoor
open Go.RowKit

/-- What holds in the callee's world behind its first call: both arguments and the result's block. -/
structure Thr (w' : World) (V : Nat) (ka na : Int) (sa : ByteArray) (kb nb : Int) (sb : ByteArray) : Prop where
  a : At w' V ka na sa
  b : At w' (V + 1) kb nb sb
  c : w'.cell? ⟨V + 2, 0, none⟩ = some (.int .i64 0) ∧ w'.cell? ⟨V + 2, 1, none⟩ = some (.int .i64 0) ∧ w'.cell? ⟨V + 2, 2, none⟩ = some (.string ⟨#[]⟩)
  f : w'.frozen? ⟨V + 2, 0, none⟩ = false ∧ w'.frozen? ⟨V + 2, 1, none⟩ = false ∧ w'.frozen? ⟨V + 2, 2, none⟩ = false
  z : V + 2 < w'.heap.size
theorem Thr.mk' (w w' : World) (ka na : Int) (sa : ByteArray) (kb nb : Int) (sb : ByteArray) (h : Below (((w.alloc (vb ka na sa)).alloc (vb kb nb sb)).alloc zb).heap.size (((w.alloc (vb ka na sa)).alloc (vb kb nb sb)).alloc zb) w') :
    Thr w' w.heap.size ka na sa kb nb sb := by
  obtain ⟨c0, c1, c2, f0, f1, f2, hz⟩ := third_cell _ _ h
  refine ⟨(((At.new w ka na sa).alloc _).alloc _).below h, ?_, ⟨c0, c1, c2⟩, ⟨f0, f1, f2⟩, hz⟩
  have := ((At.new (w.alloc (vb ka na sa)) kb nb sb).alloc zb).below h
  simpa using this
theorem Thr.below {w w' : World} {V : Nat} {ka na : Int} {sa : ByteArray} {kb nb : Int} {sb : ByteArray} (h : Thr w V ka na sa kb nb sb) (hb : Below w.heap.size w w') : Thr w' V ka na sa kb nb sb :=
  ⟨h.a.below hb, h.b.below hb, ⟨by rw [hb.cell h.z]; exact h.c.1, by rw [hb.cell h.z]; exact h.c.2.1, by rw [hb.cell h.z]; exact h.c.2.2⟩,
    ⟨by rw [hb.frozen h.z]; exact h.f.1, by rw [hb.frozen h.z]; exact h.f.2.1, by rw [hb.frozen h.z]; exact h.f.2.2⟩, Nat.lt_of_lt_of_le h.z hb.size⟩

set_option maxRecDepth 20000 in
set_option maxHeartbeats 1000000 in
theorem rjoin_bad (k n : Int) (s : ByteArray) (k' n' : Int) (s' : ByteArray) (RB : ∀ w, Calls Tryd.prog 29 #[vl k n s, vl k' n' s'] w fun e w' => e = .returned (.int .i64 2) ∧ Below w.heap.size w w')  (w : World) : Calls Tryd.prog 28 #[vl k n s, vl k' n' s'] w fun e w' => e = .returned (.tuple #[zv, .int .i64 2]) ∧ Below w.heap.size w w' := by
  unfold vl at *
  go_enter Tryd.func28, Tryd.ntmps28
  go_wp2_with fail
  refine (RB _).mono ?_; rintro e w1 ⟨rfl, hb1⟩
  have H := Thr.mk' w w1 k n s k' n' s' hb1
  have B : Below w.heap.size w w1 := bthen (b3 _ _ _ _) (by simp; omega) hb1
  clear hb1
  obtain ⟨V, hV⟩ : ∃ V, w.heap.size = V := ⟨_, rfl⟩
  simp only [hV] at H B ⊢
  obtain ⟨⟨A0, A1, A2, Al⟩, ⟨C0, C1, C2, Cl⟩, ⟨c0, c1, c2⟩, ⟨f0, f1, f2⟩, hz⟩ := id H
  go_wp2_with fail
  refine bodyPost_ret (v := .tuple #[zv, .int .i64 2]) (by simp [results, Tryd.results28, go_sem, c0, c1, c2]) rfl ⟨rfl, ?_⟩
  rw [hV]
  repeat (first | exact B | refine Below.setCell ?_ (by simp; try omega) _)

set_option maxRecDepth 20000 in
set_option maxHeartbeats 1000000 in
theorem rjoin_a (k n : Int) (s : ByteArray) (k' n' : Int) (s' : ByteArray) (RB : ∀ w, Calls Tryd.prog 29 #[vl k n s, vl k' n' s'] w fun e w' => e = .returned (.int .i64 0) ∧ Below w.heap.size w w') (h2 : ¬ k = 2) (h3 : ¬ k = 3) (w : World) : Calls Tryd.prog 28 #[vl k n s, vl k' n' s'] w fun e w' => e = .returned (.tuple #[zv, .int .i64 8]) ∧ Below w.heap.size w w' := by
  have e2 : (k != 2) = true := by simpa using h2
  have e3 : (k != 3) = true := by simpa using h3
  unfold vl at *
  go_enter Tryd.func28, Tryd.ntmps28
  go_wp2_with fail
  refine (RB _).mono ?_; rintro e w1 ⟨rfl, hb1⟩
  have H := Thr.mk' w w1 k n s k' n' s' hb1
  have B : Below w.heap.size w w1 := bthen (b3 _ _ _ _) (by simp; omega) hb1
  clear hb1
  obtain ⟨V, hV⟩ : ∃ V, w.heap.size = V := ⟨_, rfl⟩
  simp only [hV] at H B ⊢
  obtain ⟨⟨A0, A1, A2, Al⟩, ⟨C0, C1, C2, Cl⟩, ⟨c0, c1, c2⟩, ⟨f0, f1, f2⟩, hz⟩ := id H
  go_wp2_with fail
  refine bodyPost_ret (v := .tuple #[zv, .int .i64 8]) (by simp [results, Tryd.results28, go_sem, c0, c1, c2]) rfl ⟨rfl, ?_⟩
  rw [hV]
  repeat (first | exact B | refine Below.setCell ?_ (by simp; try omega) _)

set_option maxRecDepth 20000 in
set_option maxHeartbeats 1000000 in
theorem rjoin_2o (n : Int) (s : ByteArray) (k' n' : Int) (s' : ByteArray) (RB : ∀ w, Calls Tryd.prog 29 #[vl 2 n s, vl k' n' s'] w fun e w' => e = .returned (.int .i64 0) ∧ Below w.heap.size w w') (h2 : ¬ k' = 2) (h3 : ¬ k' = 3) (w : World) : Calls Tryd.prog 28 #[vl 2 n s, vl k' n' s'] w fun e w' => e = .returned (.tuple #[zv, .int .i64 8]) ∧ Below w.heap.size w w' := by
  have e2 : (k' != 2) = true := by simpa using h2
  have e3 : (k' != 3) = true := by simpa using h3
  unfold vl at *
  go_enter Tryd.func28, Tryd.ntmps28
  go_wp2_with fail
  refine (RB _).mono ?_; rintro e w1 ⟨rfl, hb1⟩
  have H := Thr.mk' w w1 2 n s k' n' s' hb1
  have B : Below w.heap.size w w1 := bthen (b3 _ _ _ _) (by simp; omega) hb1
  clear hb1
  obtain ⟨V, hV⟩ : ∃ V, w.heap.size = V := ⟨_, rfl⟩
  simp only [hV] at H B ⊢
  obtain ⟨⟨A0, A1, A2, Al⟩, ⟨C0, C1, C2, Cl⟩, ⟨c0, c1, c2⟩, ⟨f0, f1, f2⟩, hz⟩ := id H
  go_wp2_with fail
  refine bodyPost_ret (v := .tuple #[zv, .int .i64 8]) (by simp [results, Tryd.results28, go_sem, c0, c1, c2]) rfl ⟨rfl, ?_⟩
  rw [hV]
  repeat (first | exact B | refine Below.setCell ?_ (by simp; try omega) _)

set_option maxRecDepth 20000 in
set_option maxHeartbeats 1000000 in
theorem rjoin_3o (n : Int) (s : ByteArray) (k' n' : Int) (s' : ByteArray) (RB : ∀ w, Calls Tryd.prog 29 #[vl 3 n s, vl k' n' s'] w fun e w' => e = .returned (.int .i64 0) ∧ Below w.heap.size w w') (h2 : ¬ k' = 2) (h3 : ¬ k' = 3) (w : World) : Calls Tryd.prog 28 #[vl 3 n s, vl k' n' s'] w fun e w' => e = .returned (.tuple #[zv, .int .i64 8]) ∧ Below w.heap.size w w' := by
  have e2 : (k' != 2) = true := by simpa using h2
  have e3 : (k' != 3) = true := by simpa using h3
  unfold vl at *
  go_enter Tryd.func28, Tryd.ntmps28
  go_wp2_with fail
  refine (RB _).mono ?_; rintro e w1 ⟨rfl, hb1⟩
  have H := Thr.mk' w w1 3 n s k' n' s' hb1
  have B : Below w.heap.size w w1 := bthen (b3 _ _ _ _) (by simp; omega) hb1
  clear hb1
  obtain ⟨V, hV⟩ : ∃ V, w.heap.size = V := ⟨_, rfl⟩
  simp only [hV] at H B ⊢
  obtain ⟨⟨A0, A1, A2, Al⟩, ⟨C0, C1, C2, Cl⟩, ⟨c0, c1, c2⟩, ⟨f0, f1, f2⟩, hz⟩ := id H
  go_wp2_with fail
  refine bodyPost_ret (v := .tuple #[zv, .int .i64 8]) (by simp [results, Tryd.results28, go_sem, c0, c1, c2]) rfl ⟨rfl, ?_⟩
  rw [hV]
  repeat (first | exact B | refine Below.setCell ?_ (by simp; try omega) _)

end Go.Proofs.YtimmoecjfkacpaaDoor
