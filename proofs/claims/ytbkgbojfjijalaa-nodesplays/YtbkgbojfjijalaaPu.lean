/- The walks of Find and insert where there is no main position, and of Put. -/
import Derived.Test.YtbkgbojfjijalaaIn
namespace Go.Proofs.Ytbkgbojfjijalaa
open Go.RowKit

set_option maxHeartbeats 2000000 in
theorem find_bad {p : Value} {z : Int} (k : V) (w : World) (hS0 : ∀ W, Below w.heap.size w W → Calls Try.prog 14 #[p] W fun e w' => e = .returned (.int .i64 z) ∧ w' = W) (hk0 : -9223372036854775808 ≤ k.2.1) (hk1 : k.2.1 ≤ 9223372036854775807) (hE : mnE k.1 k.2.1 k.2.2 z ≠ 0) :
    Calls Try.prog 21 #[p, vl k.1 k.2.1 k.2.2] w fun e w' => e = .returned (.tuple #[.int .i64 (-1), .int .i64 0]) ∧ Below w.heap.size w w' := by
  have CM := fun w => main_any k.1 k.2.1 k.2.2 z w hk0 hk1
  obtain ⟨X, F, F1, F2⟩ := class_of (w.alloc (vb k.1 k.2.1 k.2.2))
  have HB : Hid (∀ x, Below w.heap.size w (F x)) := fun x => bthen (b1 w _) (by simp) (F1 x)
  have e0 : ∀ x, (F x).cell? ⟨w.heap.size, 0, none⟩ = some (.int .i64 k.1) := fun x => by rw [(F1 x).cell (by simp)]; simp [go_sem]
  have e1 : ∀ x, (F x).cell? ⟨w.heap.size, 1, none⟩ = some (.int .i64 k.2.1) := fun x => by rw [(F1 x).cell (by simp)]; simp [go_sem]
  have e2 : ∀ x, (F x).cell? ⟨w.heap.size, 2, none⟩ = some (.string k.2.2) := fun x => by rw [(F1 x).cell (by simp)]; simp [go_sem]
  have hS : ∀ x, Calls Try.prog 14 #[p] (F x) fun e w'' => e = .returned (.int .i64 z) ∧ ∃ y, w'' = F y := fun x =>
    (hS0 (F x) (HB.out x)).mono fun e w' ⟨he, hw⟩ => ⟨he, x, hw⟩
  have hM : ∀ x, Calls Try.prog 26 #[vl k.1 k.2.1 k.2.2, .int .i64 z] (F x) fun e w'' => e = .returned (.tuple #[.int .i64 (mnP k.1 k.2.1 k.2.2 z), .int .i64 (mnE k.1 k.2.1 k.2.2 z)]) ∧ ∃ y, w'' = F y := fun x =>
    (CM (F x)).mono fun e w' ⟨he, hw⟩ => ⟨he, F2 w' (hw ▸ bthen (F1 x) (F1 x).size (b2 _ _ _))⟩
  have HC : Hid (∃ x, (w.alloc (vb k.1 k.2.1 k.2.2)).drew = F x) := F2 _ (Below.refl _ _).drew
  clear CM hS0 F1 F2
  unfold vl vb at *
  generalize mnE k.1 k.2.1 k.2.2 z = q at *
  generalize mnP k.1 k.2.1 k.2.2 z = r at *
  go_enter Try.func21, Try.ntmps21
  go_wp2_with fail
  haveI : Nonempty X := HC.out.elim fun x _ => ⟨x⟩
  refine wp_class (F := F) (by kernel_rfl) (by kernel_rfl) HC.out ?_
  repeat (go_big_quiet_step (first | exact hS _ | exact hM _))
  refine wpQuiet_nil ?_
  intro _ hw'
  obtain ⟨x, rfl⟩ := hw'
  go_wp2_with fail
  go_ret2
  exact ⟨rfl, HB.out x⟩

set_option maxHeartbeats 2000000 in
theorem insert_bad {p : Value} {z : Int} (k v : V) (w : World) (hS0 : ∀ W, Below w.heap.size w W → Calls Try.prog 14 #[p] W fun e w' => e = .returned (.int .i64 z) ∧ w' = W) (hk0 : -9223372036854775808 ≤ k.2.1) (hk1 : k.2.1 ≤ 9223372036854775807) (hE : mnE k.1 k.2.1 k.2.2 z ≠ 0) :
    Calls Try.prog 32 #[p, vl k.1 k.2.1 k.2.2, vl v.1 v.2.1 v.2.2] w fun e w' => e = .returned (.int .i64 12) ∧ Below w.heap.size w w' := by
  have CM := fun w => main_any k.1 k.2.1 k.2.2 z w hk0 hk1
  obtain ⟨X, F, F1, F2⟩ := class_of ((w.alloc (vb k.1 k.2.1 k.2.2)).alloc (vb v.1 v.2.1 v.2.2))
  have HB : Hid (∀ x, Below w.heap.size w (F x)) := fun x => bthen (b2 w _ _) (by simp; omega) (F1 x)
  have X1 : Bx ((w.alloc (vb k.1 k.2.1 k.2.2)).alloc (vb v.1 v.2.1 v.2.2)) w.heap.size k := (Bx.made w k).below (b1 _ _)
  have e0 := fun x => (X1.below (F1 x)).c0
  have e1 := fun x => (X1.below (F1 x)).c1
  have e2 := fun x => (X1.below (F1 x)).c2
  have hS : ∀ x, Calls Try.prog 14 #[p] (F x) fun e w'' => e = .returned (.int .i64 z) ∧ ∃ y, w'' = F y := fun x =>
    (hS0 (F x) (HB.out x)).mono fun e w' ⟨he, hw⟩ => ⟨he, x, hw⟩
  have hM : ∀ x, Calls Try.prog 26 #[vl k.1 k.2.1 k.2.2, .int .i64 z] (F x) fun e w'' => e = .returned (.tuple #[.int .i64 (mnP k.1 k.2.1 k.2.2 z), .int .i64 (mnE k.1 k.2.1 k.2.2 z)]) ∧ ∃ y, w'' = F y := fun x =>
    (CM (F x)).mono fun e w' ⟨he, hw⟩ => ⟨he, F2 w' (hw ▸ bthen (F1 x) (F1 x).size (b2 _ _ _))⟩
  have HC : Hid (∃ x, ((w.alloc (vb k.1 k.2.1 k.2.2)).alloc (vb v.1 v.2.1 v.2.2)).drew = F x) := F2 _ (Below.refl _ _).drew
  clear CM hS0 F1 F2 X1
  unfold vl vb at *
  generalize mnE k.1 k.2.1 k.2.2 z = q at *
  generalize mnP k.1 k.2.1 k.2.2 z = r at *
  go_enter Try.func32, Try.ntmps32
  go_wp2_with fail
  haveI : Nonempty X := HC.out.elim fun x _ => ⟨x⟩
  refine wp_class (F := F) (by kernel_rfl) (by kernel_rfl) HC.out ?_
  repeat (go_big_quiet_step (first | exact hS _ | exact hM _))
  refine wpQuiet_nil ?_
  intro _ hw'
  obtain ⟨x, rfl⟩ := hw'
  go_wp2_with fail
  go_ret
  exact ⟨rfl, HB.out x⟩

/-- What Put comes to: the part behind it, the nodes read, the error. -/
def fm (v : V) : Bool := inF v.1 v.2.1 v.2.2
def put (z : Nat) (g : G) (k v : V) : G × Nat × Int :=
  if fm k = true ∧ fm v = true then
    if k.1 = 0 then (g, 0, 9)
    else if z = 0 then (g, 0, if v.1 = 0 then 0 else 12)
    else match find (pl z) g k with
      | (some i, n) => (setX g i v, n, 0)
      | (none, n) => if v.1 = 0 then (g, n, 0) else ((ins (pl z) g k v).1, n, full (ins (pl z) g k v).2)
  else (g, 0, 2)
def Rng (v : V) : Prop := -9223372036854775808 ≤ v.2.1 ∧ v.2.1 ≤ 9223372036854775807
def Rt (z : Nat) : Prop := z = 0 ∨ pw z = true
theorem Rt.le {z : Nat} (h : Rt z) : z ≤ 65536 := by
  rcases h with h | h
  · omega
  · have := (pw_bounds z h).2; omega
theorem pw0 : pw (0 : Int) = false := by decide
theorem mnE_bad {k : V} {z : Int} (h : pw z = false ∨ fm k = false ∨ k.1 = 0) : mnE k.1 k.2.1 k.2.2 z ≠ 0 := by
  unfold mnE
  unfold fm at h
  rcases h with h | h | h
  · rw [h]; split <;> simp
  · rw [h]; simp
  · rw [if_pos h]; split
    · split <;> simp
    · simp
theorem Pt.sizes {w : World} {b a z : Nat} {g : G} (h : Pt w b a z g) : ∀ W, Below w.heap.size w W → Calls Try.prog 14 #[pp b] W fun e w' => e = .returned (.int .i64 (z : Nat)) ∧ w' = W := fun W hW => size_any W (h.below hW)
theorem chk_of (v : V) : chk v.1 v.2.1 v.2.2 = if fm v = true then 0 else 2 := rfl

set_option maxHeartbeats 2000000 in
theorem put_form {p : Value} (k v : V) (w : World) (hf : ¬ (fm k = true ∧ fm v = true)) :
    Calls Try.prog 12 #[p, vl k.1 k.2.1 k.2.2, vl v.1 v.2.1 v.2.2] w fun e w' => e = .returned (.tuple #[.int .i64 0, .int .i64 2]) ∧ Below w.heap.size w w' := by
  have C1 := check_any k.1 k.2.1 k.2.2
  have C2 := check_any v.1 v.2.1 v.2.2
  rw [chk_of] at C1 C2
  have B2 := fun o => bthen (b2 w (vb k.1 k.2.1 k.2.2) (vb v.1 v.2.1 v.2.2)) (by simp; omega) (b1 _ o)
  have B3 := fun o o' => bthen (B2 o) (by simp; omega) (b1 _ o')
  by_cases h1 : fm k = true
  · have h2 : fm v = false := by cases h0 : fm v; rfl; exact absurd ⟨h1, h0⟩ hf
    rw [if_pos h1] at C1
    rw [h2, if_neg (by simp)] at C2
    have B4 := B3 (vb k.1 k.2.1 k.2.2) (vb v.1 v.2.1 v.2.2)
    clear hf h1 h2 B2 B3
    unfold vl vb at *
    go_enter Try.func12, Try.ntmps12
    go_wp2_with fail
    refine (C1 _).mono ?_; rintro e w' ⟨rfl, rfl⟩
    go_wp2_with fail
    refine (C2 _).mono ?_; rintro e w' ⟨rfl, rfl⟩
    go_wp2_with fail
    go_ret2
    exact ⟨rfl, B4⟩
  · rw [if_neg h1] at C1
    have B4 := B2 (vb k.1 k.2.1 k.2.2)
    clear hf h1 B2 B3 C2
    unfold vl vb at *
    go_enter Try.func12, Try.ntmps12
    go_wp2_with fail
    refine (C1 _).mono ?_; rintro e w' ⟨rfl, rfl⟩
    go_wp2_with fail
    go_ret2
    exact ⟨rfl, B4⟩

set_option maxHeartbeats 2000000 in
theorem put_key {p : Value} (k v : V) (w : World) (hf : fm k = true ∧ fm v = true) (hk : k.1 = 0) :
    Calls Try.prog 12 #[p, vl k.1 k.2.1 k.2.2, vl v.1 v.2.1 v.2.2] w fun e w' => e = .returned (.tuple #[.int .i64 0, .int .i64 9]) ∧ Below w.heap.size w w' := by
  have C1 := check_any k.1 k.2.1 k.2.2
  have C2 := check_any v.1 v.2.1 v.2.2
  rw [chk_of, if_pos hf.1] at C1
  rw [chk_of, if_pos hf.2] at C2
  have B4 := bthen (bthen (b2 w (vb k.1 k.2.1 k.2.2) (vb v.1 v.2.1 v.2.2)) (by simp; omega) (b1 _ (vb k.1 k.2.1 k.2.2))) (by simp; omega) (b1 _ (vb v.1 v.2.1 v.2.2))
  clear hf
  unfold vl vb at *
  rw [hk] at *
  go_enter Try.func12, Try.ntmps12
  go_wp2_with fail
  refine (C1 _).mono ?_; rintro e w' ⟨rfl, rfl⟩
  go_wp2_with fail
  refine (C2 _).mono ?_; rintro e w' ⟨rfl, rfl⟩
  go_wp2_with fail
  go_ret2
  exact ⟨rfl, B4⟩
end Go.Proofs.Ytbkgbojfjijalaa
