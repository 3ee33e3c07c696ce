/- The cases of the reference's Join that show both. -/
import Derived.Test.YtimmoecjfkacpaaDoorRjoin
namespace Go.Proofs.YtimmoecjfkacpaaDoor
open Go.RowKit

set_option maxRecDepth 20000 in
set_option maxHeartbeats 1000000 in
theorem rjoin_b22 (n : Int) (s : ByteArray) (n' : Int) (s' : ByteArray) (ta tb : ByteArray) (RB : ∀ w, Calls Tryd.prog 29 #[vl 2 n s, vl 2 n' s'] w fun e w' => e = .returned (.int .i64 0) ∧ Below w.heap.size w w') (S1 : ∀ w, Calls Tryd.prog 18 #[vl 2 n s] w fun e w' => e = .returned (.string ta) ∧ Below w.heap.size w w') (S2 : ∀ w, Calls Tryd.prog 18 #[vl 2 n' s'] w fun e w' => e = .returned (.string tb) ∧ Below w.heap.size w w') (z1 : ta.size ≤ 10020) (z2 : tb.size ≤ 10020) (hs : (10000 : Int) < (ta.size : Int) + (tb.size : Int)) (w : World) : Calls Tryd.prog 28 #[vl 2 n s, vl 2 n' s'] w fun e w' => e = .returned (.tuple #[zv, .int .i64 14]) ∧ Below w.heap.size w w' := by
  unfold vl at *
  go_enter Tryd.func28, Tryd.ntmps28
  go_wp2_with fail
  refine (RB _).mono ?_; rintro e w1 ⟨rfl, hb1⟩
  have H := Thr.mk' w w1 2 n s 2 n' s' hb1
  have B : Below w.heap.size w w1 := bthen (b3 _ _ _ _) (by simp; omega) hb1
  clear hb1
  obtain ⟨V, hV⟩ : ∃ V, w.heap.size = V := ⟨_, rfl⟩
  simp only [hV] at H B ⊢
  obtain ⟨⟨A0, A1, A2, Al⟩, ⟨C0, C1, C2, Cl⟩, ⟨c0, c1, c2⟩, ⟨f0, f1, f2⟩, hz⟩ := id H
  go_wp2_with fail
  obtain ⟨X, F, F1, F2⟩ := class_of w1
  have dA0 : ∀ x, (F x).cell? ⟨V, 0, none⟩ = some (.int .i64 2) := fun x => by rw [(F1 x).cell (by simp; omega)]; exact A0
  have dA1 : ∀ x, (F x).cell? ⟨V, 1, none⟩ = some (.int .i64 n) := fun x => by rw [(F1 x).cell (by simp; omega)]; exact A1
  have dA2 : ∀ x, (F x).cell? ⟨V, 2, none⟩ = some (.string s) := fun x => by rw [(F1 x).cell (by simp; omega)]; exact A2
  have dC0 : ∀ x, (F x).cell? ⟨V + 1, 0, none⟩ = some (.int .i64 2) := fun x => by rw [(F1 x).cell (by simp; omega)]; exact C0
  have dC1 : ∀ x, (F x).cell? ⟨V + 1, 1, none⟩ = some (.int .i64 n') := fun x => by rw [(F1 x).cell (by simp; omega)]; exact C1
  have dC2 : ∀ x, (F x).cell? ⟨V + 1, 2, none⟩ = some (.string s') := fun x => by rw [(F1 x).cell (by simp; omega)]; exact C2
  have hS1 : ∀ x, Calls Tryd.prog 18 #[.agg #[.int .i64 2, .int .i64 n, .string s]] (F x) fun e w'' => e = .returned (.string ta) ∧ ∃ y, w'' = F y := fun x => (S1 (F x)).mono fun e w' ⟨he, hw⟩ => ⟨he, F2 w' (bthen (F1 x) (F1 x).size hw)⟩
  have hS2 : ∀ x, Calls Tryd.prog 18 #[.agg #[.int .i64 2, .int .i64 n', .string s']] (F x) fun e w'' => e = .returned (.string tb) ∧ ∃ y, w'' = F y := fun x => (S2 (F x)).mono fun e w' ⟨he, hw⟩ => ⟨he, F2 w' (bthen (F1 x) (F1 x).size hw)⟩
  have HC : Hid (∃ x, w1.drew = F x) := F2 _ (Below.refl _ _).drew
  have HF1 : Hid _ := F1
  have HH : Hid _ := H
  clear F1 F2 RB S1 S2 H A0 A1 A2 Al C0 C1 C2 Cl c0 c1 c2 f0 f1 f2 hz
  haveI : Nonempty X := HC.out.elim fun x _ => ⟨x⟩
  refine wp_class (F := F) (by kernel_rfl) (by kernel_rfl) HC.out ?_
  go_big_quiet_step (exact hS1 _)
  go_big_quiet_step (exact hS1 _)
  repeat (go_big_quiet_step (exact hS2 _))
  refine wpQuiet_nil ?_
  intro _ hw'
  obtain ⟨x, rfl⟩ := hw'
  have H := HH.out.below (HF1.out x)
  replace B := bthen B (by have := HH.out.z; omega) (HF1.out x)
  clear dA0 dA1 dA2 dC0 dC1 dC2 hS1 hS2 HC HF1 HH
  generalize F x = w3 at *
  obtain ⟨⟨A0, A1, A2, Al⟩, ⟨C0, C1, C2, Cl⟩, ⟨c0, c1, c2⟩, ⟨f0, f1, f2⟩, hz⟩ := id H
  go_wp2_with fail
  refine bodyPost_ret (v := .tuple #[zv, .int .i64 14]) (by simp [results, Tryd.results28, go_sem, c0, c1, c2]) rfl ⟨rfl, ?_⟩
  rw [hV]
  repeat (first | exact B | refine Below.setCell ?_ (by simp; try omega) _)

set_option maxRecDepth 20000 in
set_option maxHeartbeats 1000000 in
theorem rjoin_f22 (n : Int) (s : ByteArray) (n' : Int) (s' : ByteArray) (ta tb : ByteArray) (RB : ∀ w, Calls Tryd.prog 29 #[vl 2 n s, vl 2 n' s'] w fun e w' => e = .returned (.int .i64 0) ∧ Below w.heap.size w w') (S1 : ∀ w, Calls Tryd.prog 18 #[vl 2 n s] w fun e w' => e = .returned (.string ta) ∧ Below w.heap.size w w') (S2 : ∀ w, Calls Tryd.prog 18 #[vl 2 n' s'] w fun e w' => e = .returned (.string tb) ∧ Below w.heap.size w w') (hs : (ta.size : Int) + (tb.size : Int) ≤ 10000) (w : World) : Calls Tryd.prog 28 #[vl 2 n s, vl 2 n' s'] w fun e w' => e = .returned (.tuple #[vl 3 0 (ta ++ tb), .int .i64 0]) ∧ Below w.heap.size w w' := by
  have MS := mkS (ta ++ tb)
  unfold vl at *
  unfold vb at MS
  go_enter Tryd.func28, Tryd.ntmps28
  go_wp2_with fail
  refine (RB _).mono ?_; rintro e w1 ⟨rfl, hb1⟩
  have H := Thr.mk' w w1 2 n s 2 n' s' hb1
  have B : Below w.heap.size w w1 := bthen (b3 _ _ _ _) (by simp; omega) hb1
  clear hb1
  obtain ⟨V, hV⟩ : ∃ V, w.heap.size = V := ⟨_, rfl⟩
  simp only [hV] at H B ⊢
  obtain ⟨⟨A0, A1, A2, Al⟩, ⟨C0, C1, C2, Cl⟩, ⟨c0, c1, c2⟩, ⟨f0, f1, f2⟩, hz⟩ := id H
  go_wp2_with fail
  obtain ⟨X, F, F1, F2⟩ := class_of w1
  have dA0 : ∀ x, (F x).cell? ⟨V, 0, none⟩ = some (.int .i64 2) := fun x => by rw [(F1 x).cell (by simp; omega)]; exact A0
  have dA1 : ∀ x, (F x).cell? ⟨V, 1, none⟩ = some (.int .i64 n) := fun x => by rw [(F1 x).cell (by simp; omega)]; exact A1
  have dA2 : ∀ x, (F x).cell? ⟨V, 2, none⟩ = some (.string s) := fun x => by rw [(F1 x).cell (by simp; omega)]; exact A2
  have dC0 : ∀ x, (F x).cell? ⟨V + 1, 0, none⟩ = some (.int .i64 2) := fun x => by rw [(F1 x).cell (by simp; omega)]; exact C0
  have dC1 : ∀ x, (F x).cell? ⟨V + 1, 1, none⟩ = some (.int .i64 n') := fun x => by rw [(F1 x).cell (by simp; omega)]; exact C1
  have dC2 : ∀ x, (F x).cell? ⟨V + 1, 2, none⟩ = some (.string s') := fun x => by rw [(F1 x).cell (by simp; omega)]; exact C2
  have hS1 : ∀ x, Calls Tryd.prog 18 #[.agg #[.int .i64 2, .int .i64 n, .string s]] (F x) fun e w'' => e = .returned (.string ta) ∧ ∃ y, w'' = F y := fun x => (S1 (F x)).mono fun e w' ⟨he, hw⟩ => ⟨he, F2 w' (bthen (F1 x) (F1 x).size hw)⟩
  have hS2 : ∀ x, Calls Tryd.prog 18 #[.agg #[.int .i64 2, .int .i64 n', .string s']] (F x) fun e w'' => e = .returned (.string tb) ∧ ∃ y, w'' = F y := fun x => (S2 (F x)).mono fun e w' ⟨he, hw⟩ => ⟨he, F2 w' (bthen (F1 x) (F1 x).size hw)⟩
  have HC : Hid (∃ x, w1.drew = F x) := F2 _ (Below.refl _ _).drew
  have HF1 : Hid _ := F1
  have HH : Hid _ := H
  clear F1 F2 RB S1 S2 H A0 A1 A2 Al C0 C1 C2 Cl c0 c1 c2 f0 f1 f2 hz
  haveI : Nonempty X := HC.out.elim fun x _ => ⟨x⟩
  refine wp_class (F := F) (by kernel_rfl) (by kernel_rfl) HC.out ?_
  go_big_quiet_step (exact hS1 _)
  go_big_quiet_step (exact hS1 _)
  repeat (go_big_quiet_step (exact hS2 _))
  refine wpQuiet_nil ?_
  intro _ hw'
  obtain ⟨x, rfl⟩ := hw'
  have H := HH.out.below (HF1.out x)
  replace B := bthen B (by have := HH.out.z; omega) (HF1.out x)
  clear dA0 dA1 dA2 dC0 dC1 dC2 hS1 hS2 HC HF1 HH
  generalize F x = w3 at *
  obtain ⟨⟨A0, A1, A2, Al⟩, ⟨C0, C1, C2, Cl⟩, ⟨c0, c1, c2⟩, ⟨f0, f1, f2⟩, hz⟩ := id H
  go_wp2_with fail
  refine (MS _).mono ?_; rintro e w4 ⟨rfl, hw4⟩
  replace B : Below V w w4 := hw4 ▸ B.alloc (by have := H.z; omega) _
  replace H := H.below (w' := w4) (hw4 ▸ b1 _ _)
  clear A0 A1 A2 Al C0 C1 C2 Cl c0 c1 c2 f0 f1 f2 hz
  clear hw4
  obtain ⟨⟨A0, A1, A2, Al⟩, ⟨C0, C1, C2, Cl⟩, ⟨c0, c1, c2⟩, ⟨f0, f1, f2⟩, hz⟩ := id H
  go_wp2_with fail
  refine bodyPost_ret (v := .tuple #[vl 3 0 (ta ++ tb), .int .i64 0]) (by simp [results, Tryd.results28, go_sem, c0, c1, c2]) rfl ⟨rfl, ?_⟩
  rw [hV]
  repeat (first | exact B | refine Below.setCell ?_ (by simp; try omega) _)

set_option maxRecDepth 20000 in
set_option maxHeartbeats 1000000 in
theorem rjoin_b23 (n : Int) (s : ByteArray) (n' : Int) (s' : ByteArray) (ta tb : ByteArray) (RB : ∀ w, Calls Tryd.prog 29 #[vl 2 n s, vl 3 n' s'] w fun e w' => e = .returned (.int .i64 0) ∧ Below w.heap.size w w') (S1 : ∀ w, Calls Tryd.prog 18 #[vl 2 n s] w fun e w' => e = .returned (.string ta) ∧ Below w.heap.size w w') (S2 : ∀ w, Calls Tryd.prog 18 #[vl 3 n' s'] w fun e w' => e = .returned (.string tb) ∧ Below w.heap.size w w') (z1 : ta.size ≤ 10020) (z2 : tb.size ≤ 10020) (hs : (10000 : Int) < (ta.size : Int) + (tb.size : Int)) (w : World) : Calls Tryd.prog 28 #[vl 2 n s, vl 3 n' s'] w fun e w' => e = .returned (.tuple #[zv, .int .i64 14]) ∧ Below w.heap.size w w' := by
  unfold vl at *
  go_enter Tryd.func28, Tryd.ntmps28
  go_wp2_with fail
  refine (RB _).mono ?_; rintro e w1 ⟨rfl, hb1⟩
  have H := Thr.mk' w w1 2 n s 3 n' s' hb1
  have B : Below w.heap.size w w1 := bthen (b3 _ _ _ _) (by simp; omega) hb1
  clear hb1
  obtain ⟨V, hV⟩ : ∃ V, w.heap.size = V := ⟨_, rfl⟩
  simp only [hV] at H B ⊢
  obtain ⟨⟨A0, A1, A2, Al⟩, ⟨C0, C1, C2, Cl⟩, ⟨c0, c1, c2⟩, ⟨f0, f1, f2⟩, hz⟩ := id H
  go_wp2_with fail
  obtain ⟨X, F, F1, F2⟩ := class_of w1
  have dA0 : ∀ x, (F x).cell? ⟨V, 0, none⟩ = some (.int .i64 2) := fun x => by rw [(F1 x).cell (by simp; omega)]; exact A0
  have dA1 : ∀ x, (F x).cell? ⟨V, 1, none⟩ = some (.int .i64 n) := fun x => by rw [(F1 x).cell (by simp; omega)]; exact A1
  have dA2 : ∀ x, (F x).cell? ⟨V, 2, none⟩ = some (.string s) := fun x => by rw [(F1 x).cell (by simp; omega)]; exact A2
  have dC0 : ∀ x, (F x).cell? ⟨V + 1, 0, none⟩ = some (.int .i64 3) := fun x => by rw [(F1 x).cell (by simp; omega)]; exact C0
  have dC1 : ∀ x, (F x).cell? ⟨V + 1, 1, none⟩ = some (.int .i64 n') := fun x => by rw [(F1 x).cell (by simp; omega)]; exact C1
  have dC2 : ∀ x, (F x).cell? ⟨V + 1, 2, none⟩ = some (.string s') := fun x => by rw [(F1 x).cell (by simp; omega)]; exact C2
  have hS1 : ∀ x, Calls Tryd.prog 18 #[.agg #[.int .i64 2, .int .i64 n, .string s]] (F x) fun e w'' => e = .returned (.string ta) ∧ ∃ y, w'' = F y := fun x => (S1 (F x)).mono fun e w' ⟨he, hw⟩ => ⟨he, F2 w' (bthen (F1 x) (F1 x).size hw)⟩
  have hS2 : ∀ x, Calls Tryd.prog 18 #[.agg #[.int .i64 3, .int .i64 n', .string s']] (F x) fun e w'' => e = .returned (.string tb) ∧ ∃ y, w'' = F y := fun x => (S2 (F x)).mono fun e w' ⟨he, hw⟩ => ⟨he, F2 w' (bthen (F1 x) (F1 x).size hw)⟩
  have HC : Hid (∃ x, w1.drew = F x) := F2 _ (Below.refl _ _).drew
  have HF1 : Hid _ := F1
  have HH : Hid _ := H
  clear F1 F2 RB S1 S2 H A0 A1 A2 Al C0 C1 C2 Cl c0 c1 c2 f0 f1 f2 hz
  haveI : Nonempty X := HC.out.elim fun x _ => ⟨x⟩
  refine wp_class (F := F) (by kernel_rfl) (by kernel_rfl) HC.out ?_
  go_big_quiet_step (exact hS1 _)
  go_big_quiet_step (exact hS1 _)
  repeat (go_big_quiet_step (exact hS2 _))
  refine wpQuiet_nil ?_
  intro _ hw'
  obtain ⟨x, rfl⟩ := hw'
  have H := HH.out.below (HF1.out x)
  replace B := bthen B (by have := HH.out.z; omega) (HF1.out x)
  clear dA0 dA1 dA2 dC0 dC1 dC2 hS1 hS2 HC HF1 HH
  generalize F x = w3 at *
  obtain ⟨⟨A0, A1, A2, Al⟩, ⟨C0, C1, C2, Cl⟩, ⟨c0, c1, c2⟩, ⟨f0, f1, f2⟩, hz⟩ := id H
  go_wp2_with fail
  refine bodyPost_ret (v := .tuple #[zv, .int .i64 14]) (by simp [results, Tryd.results28, go_sem, c0, c1, c2]) rfl ⟨rfl, ?_⟩
  rw [hV]
  repeat (first | exact B | refine Below.setCell ?_ (by simp; try omega) _)

set_option maxRecDepth 20000 in
set_option maxHeartbeats 1000000 in
theorem rjoin_f23 (n : Int) (s : ByteArray) (n' : Int) (s' : ByteArray) (ta tb : ByteArray) (RB : ∀ w, Calls Tryd.prog 29 #[vl 2 n s, vl 3 n' s'] w fun e w' => e = .returned (.int .i64 0) ∧ Below w.heap.size w w') (S1 : ∀ w, Calls Tryd.prog 18 #[vl 2 n s] w fun e w' => e = .returned (.string ta) ∧ Below w.heap.size w w') (S2 : ∀ w, Calls Tryd.prog 18 #[vl 3 n' s'] w fun e w' => e = .returned (.string tb) ∧ Below w.heap.size w w') (hs : (ta.size : Int) + (tb.size : Int) ≤ 10000) (w : World) : Calls Tryd.prog 28 #[vl 2 n s, vl 3 n' s'] w fun e w' => e = .returned (.tuple #[vl 3 0 (ta ++ tb), .int .i64 0]) ∧ Below w.heap.size w w' := by
  have MS := mkS (ta ++ tb)
  unfold vl at *
  unfold vb at MS
  go_enter Tryd.func28, Tryd.ntmps28
  go_wp2_with fail
  refine (RB _).mono ?_; rintro e w1 ⟨rfl, hb1⟩
  have H := Thr.mk' w w1 2 n s 3 n' s' hb1
  have B : Below w.heap.size w w1 := bthen (b3 _ _ _ _) (by simp; omega) hb1
  clear hb1
  obtain ⟨V, hV⟩ : ∃ V, w.heap.size = V := ⟨_, rfl⟩
  simp only [hV] at H B ⊢
  obtain ⟨⟨A0, A1, A2, Al⟩, ⟨C0, C1, C2, Cl⟩, ⟨c0, c1, c2⟩, ⟨f0, f1, f2⟩, hz⟩ := id H
  go_wp2_with fail
  obtain ⟨X, F, F1, F2⟩ := class_of w1
  have dA0 : ∀ x, (F x).cell? ⟨V, 0, none⟩ = some (.int .i64 2) := fun x => by rw [(F1 x).cell (by simp; omega)]; exact A0
  have dA1 : ∀ x, (F x).cell? ⟨V, 1, none⟩ = some (.int .i64 n) := fun x => by rw [(F1 x).cell (by simp; omega)]; exact A1
  have dA2 : ∀ x, (F x).cell? ⟨V, 2, none⟩ = some (.string s) := fun x => by rw [(F1 x).cell (by simp; omega)]; exact A2
  have dC0 : ∀ x, (F x).cell? ⟨V + 1, 0, none⟩ = some (.int .i64 3) := fun x => by rw [(F1 x).cell (by simp; omega)]; exact C0
  have dC1 : ∀ x, (F x).cell? ⟨V + 1, 1, none⟩ = some (.int .i64 n') := fun x => by rw [(F1 x).cell (by simp; omega)]; exact C1
  have dC2 : ∀ x, (F x).cell? ⟨V + 1, 2, none⟩ = some (.string s') := fun x => by rw [(F1 x).cell (by simp; omega)]; exact C2
  have hS1 : ∀ x, Calls Tryd.prog 18 #[.agg #[.int .i64 2, .int .i64 n, .string s]] (F x) fun e w'' => e = .returned (.string ta) ∧ ∃ y, w'' = F y := fun x => (S1 (F x)).mono fun e w' ⟨he, hw⟩ => ⟨he, F2 w' (bthen (F1 x) (F1 x).size hw)⟩
  have hS2 : ∀ x, Calls Tryd.prog 18 #[.agg #[.int .i64 3, .int .i64 n', .string s']] (F x) fun e w'' => e = .returned (.string tb) ∧ ∃ y, w'' = F y := fun x => (S2 (F x)).mono fun e w' ⟨he, hw⟩ => ⟨he, F2 w' (bthen (F1 x) (F1 x).size hw)⟩
  have HC : Hid (∃ x, w1.drew = F x) := F2 _ (Below.refl _ _).drew
  have HF1 : Hid _ := F1
  have HH : Hid _ := H
  clear F1 F2 RB S1 S2 H A0 A1 A2 Al C0 C1 C2 Cl c0 c1 c2 f0 f1 f2 hz
  haveI : Nonempty X := HC.out.elim fun x _ => ⟨x⟩
  refine wp_class (F := F) (by kernel_rfl) (by kernel_rfl) HC.out ?_
  go_big_quiet_step (exact hS1 _)
  go_big_quiet_step (exact hS1 _)
  repeat (go_big_quiet_step (exact hS2 _))
  refine wpQuiet_nil ?_
  intro _ hw'
  obtain ⟨x, rfl⟩ := hw'
  have H := HH.out.below (HF1.out x)
  replace B := bthen B (by have := HH.out.z; omega) (HF1.out x)
  clear dA0 dA1 dA2 dC0 dC1 dC2 hS1 hS2 HC HF1 HH
  generalize F x = w3 at *
  obtain ⟨⟨A0, A1, A2, Al⟩, ⟨C0, C1, C2, Cl⟩, ⟨c0, c1, c2⟩, ⟨f0, f1, f2⟩, hz⟩ := id H
  go_wp2_with fail
  refine (MS _).mono ?_; rintro e w4 ⟨rfl, hw4⟩
  replace B : Below V w w4 := hw4 ▸ B.alloc (by have := H.z; omega) _
  replace H := H.below (w' := w4) (hw4 ▸ b1 _ _)
  clear A0 A1 A2 Al C0 C1 C2 Cl c0 c1 c2 f0 f1 f2 hz
  clear hw4
  obtain ⟨⟨A0, A1, A2, Al⟩, ⟨C0, C1, C2, Cl⟩, ⟨c0, c1, c2⟩, ⟨f0, f1, f2⟩, hz⟩ := id H
  go_wp2_with fail
  refine bodyPost_ret (v := .tuple #[vl 3 0 (ta ++ tb), .int .i64 0]) (by simp [results, Tryd.results28, go_sem, c0, c1, c2]) rfl ⟨rfl, ?_⟩
  rw [hV]
  repeat (first | exact B | refine Below.setCell ?_ (by simp; try omega) _)

set_option maxRecDepth 20000 in
set_option maxHeartbeats 1000000 in
theorem rjoin_b32 (n : Int) (s : ByteArray) (n' : Int) (s' : ByteArray) (ta tb : ByteArray) (RB : ∀ w, Calls Tryd.prog 29 #[vl 3 n s, vl 2 n' s'] w fun e w' => e = .returned (.int .i64 0) ∧ Below w.heap.size w w') (S1 : ∀ w, Calls Tryd.prog 18 #[vl 3 n s] w fun e w' => e = .returned (.string ta) ∧ Below w.heap.size w w') (S2 : ∀ w, Calls Tryd.prog 18 #[vl 2 n' s'] w fun e w' => e = .returned (.string tb) ∧ Below w.heap.size w w') (z1 : ta.size ≤ 10020) (z2 : tb.size ≤ 10020) (hs : (10000 : Int) < (ta.size : Int) + (tb.size : Int)) (w : World) : Calls Tryd.prog 28 #[vl 3 n s, vl 2 n' s'] w fun e w' => e = .returned (.tuple #[zv, .int .i64 14]) ∧ Below w.heap.size w w' := by
  unfold vl at *
  go_enter Tryd.func28, Tryd.ntmps28
  go_wp2_with fail
  refine (RB _).mono ?_; rintro e w1 ⟨rfl, hb1⟩
  have H := Thr.mk' w w1 3 n s 2 n' s' hb1
  have B : Below w.heap.size w w1 := bthen (b3 _ _ _ _) (by simp; omega) hb1
  clear hb1
  obtain ⟨V, hV⟩ : ∃ V, w.heap.size = V := ⟨_, rfl⟩
  simp only [hV] at H B ⊢
  obtain ⟨⟨A0, A1, A2, Al⟩, ⟨C0, C1, C2, Cl⟩, ⟨c0, c1, c2⟩, ⟨f0, f1, f2⟩, hz⟩ := id H
  go_wp2_with fail
  obtain ⟨X, F, F1, F2⟩ := class_of w1
  have dA0 : ∀ x, (F x).cell? ⟨V, 0, none⟩ = some (.int .i64 3) := fun x => by rw [(F1 x).cell (by simp; omega)]; exact A0
  have dA1 : ∀ x, (F x).cell? ⟨V, 1, none⟩ = some (.int .i64 n) := fun x => by rw [(F1 x).cell (by simp; omega)]; exact A1
  have dA2 : ∀ x, (F x).cell? ⟨V, 2, none⟩ = some (.string s) := fun x => by rw [(F1 x).cell (by simp; omega)]; exact A2
  have dC0 : ∀ x, (F x).cell? ⟨V + 1, 0, none⟩ = some (.int .i64 2) := fun x => by rw [(F1 x).cell (by simp; omega)]; exact C0
  have dC1 : ∀ x, (F x).cell? ⟨V + 1, 1, none⟩ = some (.int .i64 n') := fun x => by rw [(F1 x).cell (by simp; omega)]; exact C1
  have dC2 : ∀ x, (F x).cell? ⟨V + 1, 2, none⟩ = some (.string s') := fun x => by rw [(F1 x).cell (by simp; omega)]; exact C2
  have hS1 : ∀ x, Calls Tryd.prog 18 #[.agg #[.int .i64 3, .int .i64 n, .string s]] (F x) fun e w'' => e = .returned (.string ta) ∧ ∃ y, w'' = F y := fun x => (S1 (F x)).mono fun e w' ⟨he, hw⟩ => ⟨he, F2 w' (bthen (F1 x) (F1 x).size hw)⟩
  have hS2 : ∀ x, Calls Tryd.prog 18 #[.agg #[.int .i64 2, .int .i64 n', .string s']] (F x) fun e w'' => e = .returned (.string tb) ∧ ∃ y, w'' = F y := fun x => (S2 (F x)).mono fun e w' ⟨he, hw⟩ => ⟨he, F2 w' (bthen (F1 x) (F1 x).size hw)⟩
  have HC : Hid (∃ x, w1.drew = F x) := F2 _ (Below.refl _ _).drew
  have HF1 : Hid _ := F1
  have HH : Hid _ := H
  clear F1 F2 RB S1 S2 H A0 A1 A2 Al C0 C1 C2 Cl c0 c1 c2 f0 f1 f2 hz
  haveI : Nonempty X := HC.out.elim fun x _ => ⟨x⟩
  refine wp_class (F := F) (by kernel_rfl) (by kernel_rfl) HC.out ?_
  go_big_quiet_step (exact hS1 _)
  go_big_quiet_step (exact hS1 _)
  repeat (go_big_quiet_step (exact hS2 _))
  refine wpQuiet_nil ?_
  intro _ hw'
  obtain ⟨x, rfl⟩ := hw'
  have H := HH.out.below (HF1.out x)
  replace B := bthen B (by have := HH.out.z; omega) (HF1.out x)
  clear dA0 dA1 dA2 dC0 dC1 dC2 hS1 hS2 HC HF1 HH
  generalize F x = w3 at *
  obtain ⟨⟨A0, A1, A2, Al⟩, ⟨C0, C1, C2, Cl⟩, ⟨c0, c1, c2⟩, ⟨f0, f1, f2⟩, hz⟩ := id H
  go_wp2_with fail
  refine bodyPost_ret (v := .tuple #[zv, .int .i64 14]) (by simp [results, Tryd.results28, go_sem, c0, c1, c2]) rfl ⟨rfl, ?_⟩
  rw [hV]
  repeat (first | exact B | refine Below.setCell ?_ (by simp; try omega) _)

set_option maxRecDepth 20000 in
set_option maxHeartbeats 1000000 in
theorem rjoin_f32 (n : Int) (s : ByteArray) (n' : Int) (s' : ByteArray) (ta tb : ByteArray) (RB : ∀ w, Calls Tryd.prog 29 #[vl 3 n s, vl 2 n' s'] w fun e w' => e = .returned (.int .i64 0) ∧ Below w.heap.size w w') (S1 : ∀ w, Calls Tryd.prog 18 #[vl 3 n s] w fun e w' => e = .returned (.string ta) ∧ Below w.heap.size w w') (S2 : ∀ w, Calls Tryd.prog 18 #[vl 2 n' s'] w fun e w' => e = .returned (.string tb) ∧ Below w.heap.size w w') (hs : (ta.size : Int) + (tb.size : Int) ≤ 10000) (w : World) : Calls Tryd.prog 28 #[vl 3 n s, vl 2 n' s'] w fun e w' => e = .returned (.tuple #[vl 3 0 (ta ++ tb), .int .i64 0]) ∧ Below w.heap.size w w' := by
  have MS := mkS (ta ++ tb)
  unfold vl at *
  unfold vb at MS
  go_enter Tryd.func28, Tryd.ntmps28
  go_wp2_with fail
  refine (RB _).mono ?_; rintro e w1 ⟨rfl, hb1⟩
  have H := Thr.mk' w w1 3 n s 2 n' s' hb1
  have B : Below w.heap.size w w1 := bthen (b3 _ _ _ _) (by simp; omega) hb1
  clear hb1
  obtain ⟨V, hV⟩ : ∃ V, w.heap.size = V := ⟨_, rfl⟩
  simp only [hV] at H B ⊢
  obtain ⟨⟨A0, A1, A2, Al⟩, ⟨C0, C1, C2, Cl⟩, ⟨c0, c1, c2⟩, ⟨f0, f1, f2⟩, hz⟩ := id H
  go_wp2_with fail
  obtain ⟨X, F, F1, F2⟩ := class_of w1
  have dA0 : ∀ x, (F x).cell? ⟨V, 0, none⟩ = some (.int .i64 3) := fun x => by rw [(F1 x).cell (by simp; omega)]; exact A0
  have dA1 : ∀ x, (F x).cell? ⟨V, 1, none⟩ = some (.int .i64 n) := fun x => by rw [(F1 x).cell (by simp; omega)]; exact A1
  have dA2 : ∀ x, (F x).cell? ⟨V, 2, none⟩ = some (.string s) := fun x => by rw [(F1 x).cell (by simp; omega)]; exact A2
  have dC0 : ∀ x, (F x).cell? ⟨V + 1, 0, none⟩ = some (.int .i64 2) := fun x => by rw [(F1 x).cell (by simp; omega)]; exact C0
  have dC1 : ∀ x, (F x).cell? ⟨V + 1, 1, none⟩ = some (.int .i64 n') := fun x => by rw [(F1 x).cell (by simp; omega)]; exact C1
  have dC2 : ∀ x, (F x).cell? ⟨V + 1, 2, none⟩ = some (.string s') := fun x => by rw [(F1 x).cell (by simp; omega)]; exact C2
  have hS1 : ∀ x, Calls Tryd.prog 18 #[.agg #[.int .i64 3, .int .i64 n, .string s]] (F x) fun e w'' => e = .returned (.string ta) ∧ ∃ y, w'' = F y := fun x => (S1 (F x)).mono fun e w' ⟨he, hw⟩ => ⟨he, F2 w' (bthen (F1 x) (F1 x).size hw)⟩
  have hS2 : ∀ x, Calls Tryd.prog 18 #[.agg #[.int .i64 2, .int .i64 n', .string s']] (F x) fun e w'' => e = .returned (.string tb) ∧ ∃ y, w'' = F y := fun x => (S2 (F x)).mono fun e w' ⟨he, hw⟩ => ⟨he, F2 w' (bthen (F1 x) (F1 x).size hw)⟩
  have HC : Hid (∃ x, w1.drew = F x) := F2 _ (Below.refl _ _).drew
  have HF1 : Hid _ := F1
  have HH : Hid _ := H
  clear F1 F2 RB S1 S2 H A0 A1 A2 Al C0 C1 C2 Cl c0 c1 c2 f0 f1 f2 hz
  haveI : Nonempty X := HC.out.elim fun x _ => ⟨x⟩
  refine wp_class (F := F) (by kernel_rfl) (by kernel_rfl) HC.out ?_
  go_big_quiet_step (exact hS1 _)
  go_big_quiet_step (exact hS1 _)
  repeat (go_big_quiet_step (exact hS2 _))
  refine wpQuiet_nil ?_
  intro _ hw'
  obtain ⟨x, rfl⟩ := hw'
  have H := HH.out.below (HF1.out x)
  replace B := bthen B (by have := HH.out.z; omega) (HF1.out x)
  clear dA0 dA1 dA2 dC0 dC1 dC2 hS1 hS2 HC HF1 HH
  generalize F x = w3 at *
  obtain ⟨⟨A0, A1, A2, Al⟩, ⟨C0, C1, C2, Cl⟩, ⟨c0, c1, c2⟩, ⟨f0, f1, f2⟩, hz⟩ := id H
  go_wp2_with fail
  refine (MS _).mono ?_; rintro e w4 ⟨rfl, hw4⟩
  replace B : Below V w w4 := hw4 ▸ B.alloc (by have := H.z; omega) _
  replace H := H.below (w' := w4) (hw4 ▸ b1 _ _)
  clear A0 A1 A2 Al C0 C1 C2 Cl c0 c1 c2 f0 f1 f2 hz
  clear hw4
  obtain ⟨⟨A0, A1, A2, Al⟩, ⟨C0, C1, C2, Cl⟩, ⟨c0, c1, c2⟩, ⟨f0, f1, f2⟩, hz⟩ := id H
  go_wp2_with fail
  refine bodyPost_ret (v := .tuple #[vl 3 0 (ta ++ tb), .int .i64 0]) (by simp [results, Tryd.results28, go_sem, c0, c1, c2]) rfl ⟨rfl, ?_⟩
  rw [hV]
  repeat (first | exact B | refine Below.setCell ?_ (by simp; try omega) _)

set_option maxRecDepth 20000 in
set_option maxHeartbeats 1000000 in
theorem rjoin_b33 (n : Int) (s : ByteArray) (n' : Int) (s' : ByteArray) (ta tb : ByteArray) (RB : ∀ w, Calls Tryd.prog 29 #[vl 3 n s, vl 3 n' s'] w fun e w' => e = .returned (.int .i64 0) ∧ Below w.heap.size w w') (S1 : ∀ w, Calls Tryd.prog 18 #[vl 3 n s] w fun e w' => e = .returned (.string ta) ∧ Below w.heap.size w w') (S2 : ∀ w, Calls Tryd.prog 18 #[vl 3 n' s'] w fun e w' => e = .returned (.string tb) ∧ Below w.heap.size w w') (z1 : ta.size ≤ 10020) (z2 : tb.size ≤ 10020) (hs : (10000 : Int) < (ta.size : Int) + (tb.size : Int)) (w : World) : Calls Tryd.prog 28 #[vl 3 n s, vl 3 n' s'] w fun e w' => e = .returned (.tuple #[zv, .int .i64 14]) ∧ Below w.heap.size w w' := by
  unfold vl at *
  go_enter Tryd.func28, Tryd.ntmps28
  go_wp2_with fail
  refine (RB _).mono ?_; rintro e w1 ⟨rfl, hb1⟩
  have H := Thr.mk' w w1 3 n s 3 n' s' hb1
  have B : Below w.heap.size w w1 := bthen (b3 _ _ _ _) (by simp; omega) hb1
  clear hb1
  obtain ⟨V, hV⟩ : ∃ V, w.heap.size = V := ⟨_, rfl⟩
  simp only [hV] at H B ⊢
  obtain ⟨⟨A0, A1, A2, Al⟩, ⟨C0, C1, C2, Cl⟩, ⟨c0, c1, c2⟩, ⟨f0, f1, f2⟩, hz⟩ := id H
  go_wp2_with fail
  obtain ⟨X, F, F1, F2⟩ := class_of w1
  have dA0 : ∀ x, (F x).cell? ⟨V, 0, none⟩ = some (.int .i64 3) := fun x => by rw [(F1 x).cell (by simp; omega)]; exact A0
  have dA1 : ∀ x, (F x).cell? ⟨V, 1, none⟩ = some (.int .i64 n) := fun x => by rw [(F1 x).cell (by simp; omega)]; exact A1
  have dA2 : ∀ x, (F x).cell? ⟨V, 2, none⟩ = some (.string s) := fun x => by rw [(F1 x).cell (by simp; omega)]; exact A2
  have dC0 : ∀ x, (F x).cell? ⟨V + 1, 0, none⟩ = some (.int .i64 3) := fun x => by rw [(F1 x).cell (by simp; omega)]; exact C0
  have dC1 : ∀ x, (F x).cell? ⟨V + 1, 1, none⟩ = some (.int .i64 n') := fun x => by rw [(F1 x).cell (by simp; omega)]; exact C1
  have dC2 : ∀ x, (F x).cell? ⟨V + 1, 2, none⟩ = some (.string s') := fun x => by rw [(F1 x).cell (by simp; omega)]; exact C2
  have hS1 : ∀ x, Calls Tryd.prog 18 #[.agg #[.int .i64 3, .int .i64 n, .string s]] (F x) fun e w'' => e = .returned (.string ta) ∧ ∃ y, w'' = F y := fun x => (S1 (F x)).mono fun e w' ⟨he, hw⟩ => ⟨he, F2 w' (bthen (F1 x) (F1 x).size hw)⟩
  have hS2 : ∀ x, Calls Tryd.prog 18 #[.agg #[.int .i64 3, .int .i64 n', .string s']] (F x) fun e w'' => e = .returned (.string tb) ∧ ∃ y, w'' = F y := fun x => (S2 (F x)).mono fun e w' ⟨he, hw⟩ => ⟨he, F2 w' (bthen (F1 x) (F1 x).size hw)⟩
  have HC : Hid (∃ x, w1.drew = F x) := F2 _ (Below.refl _ _).drew
  have HF1 : Hid _ := F1
  have HH : Hid _ := H
  clear F1 F2 RB S1 S2 H A0 A1 A2 Al C0 C1 C2 Cl c0 c1 c2 f0 f1 f2 hz
  haveI : Nonempty X := HC.out.elim fun x _ => ⟨x⟩
  refine wp_class (F := F) (by kernel_rfl) (by kernel_rfl) HC.out ?_
  go_big_quiet_step (exact hS1 _)
  go_big_quiet_step (exact hS1 _)
  repeat (go_big_quiet_step (exact hS2 _))
  refine wpQuiet_nil ?_
  intro _ hw'
  obtain ⟨x, rfl⟩ := hw'
  have H := HH.out.below (HF1.out x)
  replace B := bthen B (by have := HH.out.z; omega) (HF1.out x)
  clear dA0 dA1 dA2 dC0 dC1 dC2 hS1 hS2 HC HF1 HH
  generalize F x = w3 at *
  obtain ⟨⟨A0, A1, A2, Al⟩, ⟨C0, C1, C2, Cl⟩, ⟨c0, c1, c2⟩, ⟨f0, f1, f2⟩, hz⟩ := id H
  go_wp2_with fail
  refine bodyPost_ret (v := .tuple #[zv, .int .i64 14]) (by simp [results, Tryd.results28, go_sem, c0, c1, c2]) rfl ⟨rfl, ?_⟩
  rw [hV]
  repeat (first | exact B | refine Below.setCell ?_ (by simp; try omega) _)

set_option maxRecDepth 20000 in
set_option maxHeartbeats 1000000 in
theorem rjoin_f33 (n : Int) (s : ByteArray) (n' : Int) (s' : ByteArray) (ta tb : ByteArray) (RB : ∀ w, Calls Tryd.prog 29 #[vl 3 n s, vl 3 n' s'] w fun e w' => e = .returned (.int .i64 0) ∧ Below w.heap.size w w') (S1 : ∀ w, Calls Tryd.prog 18 #[vl 3 n s] w fun e w' => e = .returned (.string ta) ∧ Below w.heap.size w w') (S2 : ∀ w, Calls Tryd.prog 18 #[vl 3 n' s'] w fun e w' => e = .returned (.string tb) ∧ Below w.heap.size w w') (hs : (ta.size : Int) + (tb.size : Int) ≤ 10000) (w : World) : Calls Tryd.prog 28 #[vl 3 n s, vl 3 n' s'] w fun e w' => e = .returned (.tuple #[vl 3 0 (ta ++ tb), .int .i64 0]) ∧ Below w.heap.size w w' := by
  have MS := mkS (ta ++ tb)
  unfold vl at *
  unfold vb at MS
  go_enter Tryd.func28, Tryd.ntmps28
  go_wp2_with fail
  refine (RB _).mono ?_; rintro e w1 ⟨rfl, hb1⟩
  have H := Thr.mk' w w1 3 n s 3 n' s' hb1
  have B : Below w.heap.size w w1 := bthen (b3 _ _ _ _) (by simp; omega) hb1
  clear hb1
  obtain ⟨V, hV⟩ : ∃ V, w.heap.size = V := ⟨_, rfl⟩
  simp only [hV] at H B ⊢
  obtain ⟨⟨A0, A1, A2, Al⟩, ⟨C0, C1, C2, Cl⟩, ⟨c0, c1, c2⟩, ⟨f0, f1, f2⟩, hz⟩ := id H
  go_wp2_with fail
  obtain ⟨X, F, F1, F2⟩ := class_of w1
  have dA0 : ∀ x, (F x).cell? ⟨V, 0, none⟩ = some (.int .i64 3) := fun x => by rw [(F1 x).cell (by simp; omega)]; exact A0
  have dA1 : ∀ x, (F x).cell? ⟨V, 1, none⟩ = some (.int .i64 n) := fun x => by rw [(F1 x).cell (by simp; omega)]; exact A1
  have dA2 : ∀ x, (F x).cell? ⟨V, 2, none⟩ = some (.string s) := fun x => by rw [(F1 x).cell (by simp; omega)]; exact A2
  have dC0 : ∀ x, (F x).cell? ⟨V + 1, 0, none⟩ = some (.int .i64 3) := fun x => by rw [(F1 x).cell (by simp; omega)]; exact C0
  have dC1 : ∀ x, (F x).cell? ⟨V + 1, 1, none⟩ = some (.int .i64 n') := fun x => by rw [(F1 x).cell (by simp; omega)]; exact C1
  have dC2 : ∀ x, (F x).cell? ⟨V + 1, 2, none⟩ = some (.string s') := fun x => by rw [(F1 x).cell (by simp; omega)]; exact C2
  have hS1 : ∀ x, Calls Tryd.prog 18 #[.agg #[.int .i64 3, .int .i64 n, .string s]] (F x) fun e w'' => e = .returned (.string ta) ∧ ∃ y, w'' = F y := fun x => (S1 (F x)).mono fun e w' ⟨he, hw⟩ => ⟨he, F2 w' (bthen (F1 x) (F1 x).size hw)⟩
  have hS2 : ∀ x, Calls Tryd.prog 18 #[.agg #[.int .i64 3, .int .i64 n', .string s']] (F x) fun e w'' => e = .returned (.string tb) ∧ ∃ y, w'' = F y := fun x => (S2 (F x)).mono fun e w' ⟨he, hw⟩ => ⟨he, F2 w' (bthen (F1 x) (F1 x).size hw)⟩
  have HC : Hid (∃ x, w1.drew = F x) := F2 _ (Below.refl _ _).drew
  have HF1 : Hid _ := F1
  have HH : Hid _ := H
  clear F1 F2 RB S1 S2 H A0 A1 A2 Al C0 C1 C2 Cl c0 c1 c2 f0 f1 f2 hz
  haveI : Nonempty X := HC.out.elim fun x _ => ⟨x⟩
  refine wp_class (F := F) (by kernel_rfl) (by kernel_rfl) HC.out ?_
  go_big_quiet_step (exact hS1 _)
  go_big_quiet_step (exact hS1 _)
  repeat (go_big_quiet_step (exact hS2 _))
  refine wpQuiet_nil ?_
  intro _ hw'
  obtain ⟨x, rfl⟩ := hw'
  have H := HH.out.below (HF1.out x)
  replace B := bthen B (by have := HH.out.z; omega) (HF1.out x)
  clear dA0 dA1 dA2 dC0 dC1 dC2 hS1 hS2 HC HF1 HH
  generalize F x = w3 at *
  obtain ⟨⟨A0, A1, A2, Al⟩, ⟨C0, C1, C2, Cl⟩, ⟨c0, c1, c2⟩, ⟨f0, f1, f2⟩, hz⟩ := id H
  go_wp2_with fail
  refine (MS _).mono ?_; rintro e w4 ⟨rfl, hw4⟩
  replace B : Below V w w4 := hw4 ▸ B.alloc (by have := H.z; omega) _
  replace H := H.below (w' := w4) (hw4 ▸ b1 _ _)
  clear A0 A1 A2 Al C0 C1 C2 Cl c0 c1 c2 f0 f1 f2 hz
  clear hw4
  obtain ⟨⟨A0, A1, A2, Al⟩, ⟨C0, C1, C2, Cl⟩, ⟨c0, c1, c2⟩, ⟨f0, f1, f2⟩, hz⟩ := id H
  go_wp2_with fail
  refine bodyPost_ret (v := .tuple #[vl 3 0 (ta ++ tb), .int .i64 0]) (by simp [results, Tryd.results28, go_sem, c0, c1, c2]) rfl ⟨rfl, ?_⟩
  rw [hV]
  repeat (first | exact B | refine Below.setCell ?_ (by simp; try omega) _)

end Go.Proofs.YtimmoecjfkacpaaDoor
