/- The walk of the reference's As. -/
import Derived.Test.YtimmoecjfkacpaaDoorAs
namespace Go.Proofs.YtimmoecjfkacpaaDoor
open Go.RowKit

theorem second_free {w w' : World} (o : Obj) (h : Below ((w.alloc o).alloc zb).heap.size ((w.alloc o).alloc zb) w') :
    w'.frozen? ⟨w.heap.size + 1, 0, none⟩ = false ∧ w'.frozen? ⟨w.heap.size + 1, 1, none⟩ = false ∧ w'.frozen? ⟨w.heap.size + 1, 2, none⟩ = false := by
  refine ⟨?_, ?_, ?_⟩
  · rw [h.frozen (by simp)]; simp [go_sem]
  · rw [h.frozen (by simp)]; simp [go_sem]
  · rw [h.frozen (by simp)]; simp [go_sem]

set_option maxRecDepth 20000 in
set_option maxHeartbeats 600000 in
theorem ras_bad (k n : Int) (s : ByteArray) (q : Int) (C1 : ∀ w, Calls Tryd.prog 9 #[vl k n s] w fun e w' => e = .returned (.int .i64 2) ∧ w' = w.alloc (vb k n s)) (w : World) :
    Calls Tryd.prog 21 #[vl k n s, .int .i64 q] w fun e w' => e = .returned (.tuple #[zv, .bool false, .int .i64 2]) ∧ Below w.heap.size w w' := by
  unfold vl vb at *
  go_enter Tryd.func21, Tryd.ntmps21
  go_wp2_with (go_at_call 9; refine (C1 _).mono ?_; rintro e w' ⟨rfl, rfl⟩)
  refine bodyPost_ret (v := .tuple #[zv, .bool false, .int .i64 2]) (by simp [results, Tryd.results21, go_sem]) rfl ⟨rfl, ?_⟩
  repeat (first | exact Below.refl _ _ | refine Below.alloc ?_ (by simp; try omega) _)

set_option maxRecDepth 20000 in
set_option maxHeartbeats 600000 in
theorem ras_lo (k n : Int) (s : ByteArray) (q : Int) (hq : q < 0 ∨ 6 < q) (C1 : ∀ w, Calls Tryd.prog 9 #[vl k n s] w fun e w' => e = .returned (.int .i64 0) ∧ w' = w.alloc (vb k n s)) (w : World) :
    Calls Tryd.prog 21 #[vl k n s, .int .i64 q] w fun e w' => e = .returned (.tuple #[zv, .bool false, .int .i64 1]) ∧ Below w.heap.size w w' := by
  unfold vl vb at *
  rcases hq with hq | hq
  · go_enter Tryd.func21, Tryd.ntmps21
    go_wp2_with (go_at_call 9; refine (C1 _).mono ?_; rintro e w' ⟨rfl, rfl⟩)
    refine bodyPost_ret (v := .tuple #[zv, .bool false, .int .i64 1]) (by simp [results, Tryd.results21, go_sem]) rfl ⟨rfl, ?_⟩
    repeat (first | exact Below.refl _ _ | refine Below.alloc ?_ (by simp; try omega) _)
  · have hq' : ¬ q < 0 := by omega
    go_enter Tryd.func21, Tryd.ntmps21
    go_wp2_with (go_at_call 9; refine (C1 _).mono ?_; rintro e w' ⟨rfl, rfl⟩)
    refine bodyPost_ret (v := .tuple #[zv, .bool false, .int .i64 1]) (by simp [results, Tryd.results21, go_sem]) rfl ⟨rfl, ?_⟩
    repeat (first | exact Below.refl _ _ | refine Below.alloc ?_ (by simp; try omega) _)

set_option maxRecDepth 20000 in
set_option maxHeartbeats 600000 in
theorem ras_no (k n : Int) (s : ByteArray) (q : Int) (h0 : ¬ q < 0) (h6 : ¬ 6 < q) (hk : ¬ k = q) (C1 : ∀ w, Calls Tryd.prog 9 #[vl k n s] w fun e w' => e = .returned (.int .i64 0) ∧ w' = w.alloc (vb k n s)) (w : World) :
    Calls Tryd.prog 21 #[vl k n s, .int .i64 q] w fun e w' => e = .returned (.tuple #[zv, .bool false, .int .i64 0]) ∧ Below w.heap.size w w' := by
  unfold vl vb at *
  go_enter Tryd.func21, Tryd.ntmps21
  go_wp2_with (go_at_call 9; refine (C1 _).mono ?_; rintro e w' ⟨rfl, rfl⟩)
  refine bodyPost_ret (v := .tuple #[zv, .bool false, .int .i64 0]) (by simp [results, Tryd.results21, go_sem]) rfl ⟨rfl, ?_⟩
  repeat (first | exact Below.refl _ _ | refine Below.alloc ?_ (by simp; try omega) _)

set_option maxRecDepth 20000 in
set_option maxHeartbeats 600000 in
theorem ras_yes (n : Int) (s : ByteArray) (q : Int) (h0 : ¬ q < 0) (h6 : ¬ 6 < q) (C1 : ∀ w, Calls Tryd.prog 9 #[vl q n s] w fun e w' => e = .returned (.int .i64 0) ∧ w' = w.alloc (vb q n s)) (w : World) :
    Calls Tryd.prog 21 #[vl q n s, .int .i64 q] w fun e w' => e = .returned (.tuple #[vl q n s, .bool true, .int .i64 0]) ∧ Below w.heap.size w w' := by
  unfold vl vb at *
  go_enter Tryd.func21, Tryd.ntmps21
  go_wp2_with (go_at_call 9; refine (C1 _).mono ?_; rintro e w' ⟨rfl, rfl⟩)
  refine bodyPost_ret (v := .tuple #[vl q n s, .bool true, .int .i64 0]) (by simp [results, Tryd.results21, go_sem]) rfl ⟨rfl, ?_⟩
  repeat (first | exact Below.refl _ _ | refine Below.alloc ?_ (by simp; try omega) _)

theorem inF_kind (k n : Int) (s : ByteArray) (h : inF k n s = true) : 0 ≤ k ∧ k ≤ 6 := by
  unfold inF at h
  by_cases h0 : k = 0
  · omega
  · rw [if_neg h0] at h
    by_cases h1 : k = 1
    · omega
    · rw [if_neg h1] at h
      by_cases h2 : k = 2
      · omega
      · rw [if_neg h2] at h
        by_cases h3 : k = 3
        · omega
        · rw [if_neg h3] at h
          by_cases h4 : k = 4 ∨ k = 5 ∨ k = 6
          · omega
          · rw [if_neg h4] at h; cases h
theorem rAs_any (k n : Int) (s : ByteArray) (q : Int) (w : World) :
    Calls Tryd.prog 21 #[vl k n s, .int .i64 q] w fun e w' => e = .returned (.tuple #[asV k n s q, .bool (fits k n s q), .int .i64 (asE k n s q)]) ∧ Below w.heap.size w w' := by
  have C1 := rcheck_any k n s
  unfold chk at C1
  cases hf : inF k n s
  · have e1 : fits k n s q = false := by simp [fits, hf]
    have e2 : asV k n s q = zv := by simp [asV, e1]
    have e3 : asE k n s q = 2 := by simp [asE, hf]
    rw [e1, e2, e3]
    rw [hf] at C1
    exact ras_bad k n s q C1 w
  · rw [hf] at C1
    by_cases hr : 0 ≤ q ∧ q ≤ 6
    · have e3 : asE k n s q = 0 := by simp [asE, hf, hr]
      rw [e3]
      by_cases hq : k = q
      · subst hq
        have e1 : fits k n s k = true := by simp [fits, hf]
        have e2 : asV k n s k = vl k n s := by simp [asV, e1]
        rw [e1, e2]
        exact ras_yes n s k (by omega) (by omega) C1 w
      · have e1 : fits k n s q = false := by simp [fits, hf]; exact hq
        have e2 : asV k n s q = zv := by simp [asV, e1]
        rw [e1, e2]
        exact ras_no k n s q (by omega) (by omega) hq C1 w
    · have e3 : asE k n s q = 1 := by unfold asE; rw [if_pos hf, if_neg hr]
      have hne : ¬ k = q := fun e => by
        subst e
        obtain ⟨h1, h2⟩ : 0 ≤ k ∧ k ≤ 6 := inF_kind k n s hf
        exact hr ⟨h1, h2⟩
      have e1 : fits k n s q = false := by simp [fits, hf]; exact hne
      have e2 : asV k n s q = zv := by simp [asV, e1]
      rw [e1, e2, e3]
      exact ras_lo k n s q (by omega) C1 w

end Go.Proofs.YtimmoecjfkacpaaDoor
