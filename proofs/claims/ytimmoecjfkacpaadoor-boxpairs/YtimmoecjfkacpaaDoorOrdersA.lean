/- The walk of the law BoxOrders, by cases. -/
import Derived.Test.YtimmoecjfkacpaaDoorOrd
namespace Go.Proofs.YtimmoecjfkacpaaDoor
open Go.RowKit

theorem check_b (k n : Int) (s : ByteArray) (w : World) : Calls Tryd.prog 15 #[vl k n s] w fun e w' => e = .returned (.int .i64 (chk k n s)) ∧ Below w.heap.size w w' :=
  (check_any k n s w).mono fun _ _ ⟨he, hw⟩ => ⟨he, hw ▸ b1 _ _⟩
theorem rcheck_b (k n : Int) (s : ByteArray) (w : World) : Calls Tryd.prog 9 #[vl k n s] w fun e w' => e = .returned (.int .i64 (chk k n s)) ∧ Below w.heap.size w w' :=
  (rcheck_any k n s w).mono fun _ _ ⟨he, hw⟩ => ⟨he, hw ▸ b1 _ _⟩

set_option maxRecDepth 20000 in
set_option maxHeartbeats 1000000 in
theorem orders_r0 (ka na : Int) (sa : ByteArray) (kb nb : Int) (sb : ByteArray) (kc nc : Int) (sc : ByteArray) (P0 : ∀ w, Calls Tryd.prog 15 #[vl ka na sa] w fun e w' => e = .returned (.int .i64 2) ∧ Below w.heap.size w w') (R0 : ∀ w, Calls Tryd.prog 9 #[vl ka na sa] w fun e w' => e = .returned (.int .i64 2) ∧ Below w.heap.size w w') (w : World) (htab : Tab w) : Calls Tryd.prog 6 #[vl ka na sa, vl kb nb sb, vl kc nc sc] w fun e w' => e = .returned (.bool true) ∧ Below w.heap.size w w' := by
  have HT : Hid _ := htab
  clear htab
  try unfold vl at *
  go_enter Tryd.func6, Tryd.ntmps6
  go_wp2_with fail
  have A := At.new w ka na sa
  unfold vb at A
  replace A := A.alloc (.cells #[.int .i64 kb, .int .i64 nb, .string sb] 23)
  replace A := A.alloc (.cells #[.int .i64 kc, .int .i64 nc, .string sc] 23)
  have C := At.new (w.alloc (.cells #[.int .i64 ka, .int .i64 na, .string sa] 23)) kb nb sb
  unfold vb at C
  replace C := C.alloc (.cells #[.int .i64 kc, .int .i64 nc, .string sc] 23)
  have M := At.new ((w.alloc (.cells #[.int .i64 ka, .int .i64 na, .string sa] 23)).alloc (.cells #[.int .i64 kb, .int .i64 nb, .string sb] 23)) kc nc sc
  unfold vb at M
  have B := b3 w (.cells #[.int .i64 ka, .int .i64 na, .string sa] 23) (.cells #[.int .i64 kb, .int .i64 nb, .string sb] 23) (.cells #[.int .i64 kc, .int .i64 nc, .string sc] 23)
  simp at C M
  generalize (((w.alloc (.cells #[.int .i64 ka, .int .i64 na, .string sa] 23)).alloc (.cells #[.int .i64 kb, .int .i64 nb, .string sb] 23)).alloc (.cells #[.int .i64 kc, .int .i64 nc, .string sc] 23)) = w0 at *
  obtain ⟨V, hV⟩ : ∃ V, w.heap.size = V := ⟨_, rfl⟩
  rw [hV] at A C M B ⊢
  obtain ⟨A0, A1, A2, Al⟩ := id A
  obtain ⟨C0, C1, C2, Cl⟩ := id C
  obtain ⟨M0, M1, M2, Ml⟩ := id M
  refine (fixed_any _ (tab_keep HT.out (hV.symm ▸ B))).mono ?_
  rintro e w1 ⟨rfl, hb⟩
  replace B := bthen B (by have := A.lt; omega) hb
  replace A := A.below hb
  replace C := C.below hb
  replace M := M.below hb
  clear A0 A1 A2 Al C0 C1 C2 Cl M0 M1 M2 Ml
  clear hb
  obtain ⟨A0, A1, A2, Al⟩ := id A
  obtain ⟨C0, C1, C2, Cl⟩ := id C
  obtain ⟨M0, M1, M2, Ml⟩ := id M
  go_wp2_with fail
  refine (P0 _).mono ?_
  rintro e w2 ⟨rfl, hb⟩
  replace B := bthen B (by have := A.lt; omega) hb
  replace A := A.below hb
  replace C := C.below hb
  replace M := M.below hb
  clear A0 A1 A2 Al C0 C1 C2 Cl M0 M1 M2 Ml
  clear hb
  obtain ⟨A0, A1, A2, Al⟩ := id A
  obtain ⟨C0, C1, C2, Cl⟩ := id C
  obtain ⟨M0, M1, M2, Ml⟩ := id M
  go_wp2_with fail
  refine (R0 _).mono ?_
  rintro e w3 ⟨rfl, hb⟩
  replace B := bthen B (by have := A.lt; omega) hb
  replace A := A.below hb
  replace C := C.below hb
  replace M := M.below hb
  clear A0 A1 A2 Al C0 C1 C2 Cl M0 M1 M2 Ml
  clear hb
  obtain ⟨A0, A1, A2, Al⟩ := id A
  obtain ⟨C0, C1, C2, Cl⟩ := id C
  obtain ⟨M0, M1, M2, Ml⟩ := id M
  go_wp2_with fail
  go_ret
  exact ⟨rfl, hV.symm ▸ B⟩

set_option maxRecDepth 20000 in
set_option maxHeartbeats 1000000 in
theorem orders_r1 (ka na : Int) (sa : ByteArray) (kb nb : Int) (sb : ByteArray) (kc nc : Int) (sc : ByteArray) (P0 : ∀ w, Calls Tryd.prog 15 #[vl ka na sa] w fun e w' => e = .returned (.int .i64 0) ∧ Below w.heap.size w w') (P1 : ∀ w, Calls Tryd.prog 15 #[vl kb nb sb] w fun e w' => e = .returned (.int .i64 2) ∧ Below w.heap.size w w') (R0 : ∀ w, Calls Tryd.prog 9 #[vl ka na sa] w fun e w' => e = .returned (.int .i64 0) ∧ Below w.heap.size w w') (R1 : ∀ w, Calls Tryd.prog 9 #[vl kb nb sb] w fun e w' => e = .returned (.int .i64 2) ∧ Below w.heap.size w w') (w : World) (htab : Tab w) : Calls Tryd.prog 6 #[vl ka na sa, vl kb nb sb, vl kc nc sc] w fun e w' => e = .returned (.bool true) ∧ Below w.heap.size w w' := by
  have HT : Hid _ := htab
  clear htab
  try unfold vl at *
  go_enter Tryd.func6, Tryd.ntmps6
  go_wp2_with fail
  have A := At.new w ka na sa
  unfold vb at A
  replace A := A.alloc (.cells #[.int .i64 kb, .int .i64 nb, .string sb] 23)
  replace A := A.alloc (.cells #[.int .i64 kc, .int .i64 nc, .string sc] 23)
  have C := At.new (w.alloc (.cells #[.int .i64 ka, .int .i64 na, .string sa] 23)) kb nb sb
  unfold vb at C
  replace C := C.alloc (.cells #[.int .i64 kc, .int .i64 nc, .string sc] 23)
  have M := At.new ((w.alloc (.cells #[.int .i64 ka, .int .i64 na, .string sa] 23)).alloc (.cells #[.int .i64 kb, .int .i64 nb, .string sb] 23)) kc nc sc
  unfold vb at M
  have B := b3 w (.cells #[.int .i64 ka, .int .i64 na, .string sa] 23) (.cells #[.int .i64 kb, .int .i64 nb, .string sb] 23) (.cells #[.int .i64 kc, .int .i64 nc, .string sc] 23)
  simp at C M
  generalize (((w.alloc (.cells #[.int .i64 ka, .int .i64 na, .string sa] 23)).alloc (.cells #[.int .i64 kb, .int .i64 nb, .string sb] 23)).alloc (.cells #[.int .i64 kc, .int .i64 nc, .string sc] 23)) = w0 at *
  obtain ⟨V, hV⟩ : ∃ V, w.heap.size = V := ⟨_, rfl⟩
  rw [hV] at A C M B ⊢
  obtain ⟨A0, A1, A2, Al⟩ := id A
  obtain ⟨C0, C1, C2, Cl⟩ := id C
  obtain ⟨M0, M1, M2, Ml⟩ := id M
  refine (fixed_any _ (tab_keep HT.out (hV.symm ▸ B))).mono ?_
  rintro e w1 ⟨rfl, hb⟩
  replace B := bthen B (by have := A.lt; omega) hb
  replace A := A.below hb
  replace C := C.below hb
  replace M := M.below hb
  clear A0 A1 A2 Al C0 C1 C2 Cl M0 M1 M2 Ml
  clear hb
  obtain ⟨A0, A1, A2, Al⟩ := id A
  obtain ⟨C0, C1, C2, Cl⟩ := id C
  obtain ⟨M0, M1, M2, Ml⟩ := id M
  go_wp2_with fail
  refine (P0 _).mono ?_
  rintro e w2 ⟨rfl, hb⟩
  replace B := bthen B (by have := A.lt; omega) hb
  replace A := A.below hb
  replace C := C.below hb
  replace M := M.below hb
  clear A0 A1 A2 Al C0 C1 C2 Cl M0 M1 M2 Ml
  clear hb
  obtain ⟨A0, A1, A2, Al⟩ := id A
  obtain ⟨C0, C1, C2, Cl⟩ := id C
  obtain ⟨M0, M1, M2, Ml⟩ := id M
  go_wp2_with fail
  refine (P1 _).mono ?_
  rintro e w3 ⟨rfl, hb⟩
  replace B := bthen B (by have := A.lt; omega) hb
  replace A := A.below hb
  replace C := C.below hb
  replace M := M.below hb
  clear A0 A1 A2 Al C0 C1 C2 Cl M0 M1 M2 Ml
  clear hb
  obtain ⟨A0, A1, A2, Al⟩ := id A
  obtain ⟨C0, C1, C2, Cl⟩ := id C
  obtain ⟨M0, M1, M2, Ml⟩ := id M
  go_wp2_with fail
  refine (R0 _).mono ?_
  rintro e w4 ⟨rfl, hb⟩
  replace B := bthen B (by have := A.lt; omega) hb
  replace A := A.below hb
  replace C := C.below hb
  replace M := M.below hb
  clear A0 A1 A2 Al C0 C1 C2 Cl M0 M1 M2 Ml
  clear hb
  obtain ⟨A0, A1, A2, Al⟩ := id A
  obtain ⟨C0, C1, C2, Cl⟩ := id C
  obtain ⟨M0, M1, M2, Ml⟩ := id M
  go_wp2_with fail
  refine (R1 _).mono ?_
  rintro e w5 ⟨rfl, hb⟩
  replace B := bthen B (by have := A.lt; omega) hb
  replace A := A.below hb
  replace C := C.below hb
  replace M := M.below hb
  clear A0 A1 A2 Al C0 C1 C2 Cl M0 M1 M2 Ml
  clear hb
  obtain ⟨A0, A1, A2, Al⟩ := id A
  obtain ⟨C0, C1, C2, Cl⟩ := id C
  obtain ⟨M0, M1, M2, Ml⟩ := id M
  go_wp2_with fail
  go_ret
  exact ⟨rfl, hV.symm ▸ B⟩

set_option maxRecDepth 20000 in
set_option maxHeartbeats 1000000 in
theorem orders_r2 (ka na : Int) (sa : ByteArray) (kb nb : Int) (sb : ByteArray) (kc nc : Int) (sc : ByteArray) (P0 : ∀ w, Calls Tryd.prog 15 #[vl ka na sa] w fun e w' => e = .returned (.int .i64 0) ∧ Below w.heap.size w w') (P1 : ∀ w, Calls Tryd.prog 15 #[vl kb nb sb] w fun e w' => e = .returned (.int .i64 0) ∧ Below w.heap.size w w') (P2 : ∀ w, Calls Tryd.prog 15 #[vl kc nc sc] w fun e w' => e = .returned (.int .i64 2) ∧ Below w.heap.size w w') (R0 : ∀ w, Calls Tryd.prog 9 #[vl ka na sa] w fun e w' => e = .returned (.int .i64 0) ∧ Below w.heap.size w w') (R1 : ∀ w, Calls Tryd.prog 9 #[vl kb nb sb] w fun e w' => e = .returned (.int .i64 0) ∧ Below w.heap.size w w') (R2 : ∀ w, Calls Tryd.prog 9 #[vl kc nc sc] w fun e w' => e = .returned (.int .i64 2) ∧ Below w.heap.size w w') (w : World) (htab : Tab w) : Calls Tryd.prog 6 #[vl ka na sa, vl kb nb sb, vl kc nc sc] w fun e w' => e = .returned (.bool true) ∧ Below w.heap.size w w' := by
  have HT : Hid _ := htab
  clear htab
  try unfold vl at *
  go_enter Tryd.func6, Tryd.ntmps6
  go_wp2_with fail
  have A := At.new w ka na sa
  unfold vb at A
  replace A := A.alloc (.cells #[.int .i64 kb, .int .i64 nb, .string sb] 23)
  replace A := A.alloc (.cells #[.int .i64 kc, .int .i64 nc, .string sc] 23)
  have C := At.new (w.alloc (.cells #[.int .i64 ka, .int .i64 na, .string sa] 23)) kb nb sb
  unfold vb at C
  replace C := C.alloc (.cells #[.int .i64 kc, .int .i64 nc, .string sc] 23)
  have M := At.new ((w.alloc (.cells #[.int .i64 ka, .int .i64 na, .string sa] 23)).alloc (.cells #[.int .i64 kb, .int .i64 nb, .string sb] 23)) kc nc sc
  unfold vb at M
  have B := b3 w (.cells #[.int .i64 ka, .int .i64 na, .string sa] 23) (.cells #[.int .i64 kb, .int .i64 nb, .string sb] 23) (.cells #[.int .i64 kc, .int .i64 nc, .string sc] 23)
  simp at C M
  generalize (((w.alloc (.cells #[.int .i64 ka, .int .i64 na, .string sa] 23)).alloc (.cells #[.int .i64 kb, .int .i64 nb, .string sb] 23)).alloc (.cells #[.int .i64 kc, .int .i64 nc, .string sc] 23)) = w0 at *
  obtain ⟨V, hV⟩ : ∃ V, w.heap.size = V := ⟨_, rfl⟩
  rw [hV] at A C M B ⊢
  obtain ⟨A0, A1, A2, Al⟩ := id A
  obtain ⟨C0, C1, C2, Cl⟩ := id C
  obtain ⟨M0, M1, M2, Ml⟩ := id M
  refine (fixed_any _ (tab_keep HT.out (hV.symm ▸ B))).mono ?_
  rintro e w1 ⟨rfl, hb⟩
  replace B := bthen B (by have := A.lt; omega) hb
  replace A := A.below hb
  replace C := C.below hb
  replace M := M.below hb
  clear A0 A1 A2 Al C0 C1 C2 Cl M0 M1 M2 Ml
  clear hb
  obtain ⟨A0, A1, A2, Al⟩ := id A
  obtain ⟨C0, C1, C2, Cl⟩ := id C
  obtain ⟨M0, M1, M2, Ml⟩ := id M
  go_wp2_with fail
  refine (P0 _).mono ?_
  rintro e w2 ⟨rfl, hb⟩
  replace B := bthen B (by have := A.lt; omega) hb
  replace A := A.below hb
  replace C := C.below hb
  replace M := M.below hb
  clear A0 A1 A2 Al C0 C1 C2 Cl M0 M1 M2 Ml
  clear hb
  obtain ⟨A0, A1, A2, Al⟩ := id A
  obtain ⟨C0, C1, C2, Cl⟩ := id C
  obtain ⟨M0, M1, M2, Ml⟩ := id M
  go_wp2_with fail
  refine (P1 _).mono ?_
  rintro e w3 ⟨rfl, hb⟩
  replace B := bthen B (by have := A.lt; omega) hb
  replace A := A.below hb
  replace C := C.below hb
  replace M := M.below hb
  clear A0 A1 A2 Al C0 C1 C2 Cl M0 M1 M2 Ml
  clear hb
  obtain ⟨A0, A1, A2, Al⟩ := id A
  obtain ⟨C0, C1, C2, Cl⟩ := id C
  obtain ⟨M0, M1, M2, Ml⟩ := id M
  go_wp2_with fail
  refine (P2 _).mono ?_
  rintro e w4 ⟨rfl, hb⟩
  replace B := bthen B (by have := A.lt; omega) hb
  replace A := A.below hb
  replace C := C.below hb
  replace M := M.below hb
  clear A0 A1 A2 Al C0 C1 C2 Cl M0 M1 M2 Ml
  clear hb
  obtain ⟨A0, A1, A2, Al⟩ := id A
  obtain ⟨C0, C1, C2, Cl⟩ := id C
  obtain ⟨M0, M1, M2, Ml⟩ := id M
  go_wp2_with fail
  refine (R0 _).mono ?_
  rintro e w5 ⟨rfl, hb⟩
  replace B := bthen B (by have := A.lt; omega) hb
  replace A := A.below hb
  replace C := C.below hb
  replace M := M.below hb
  clear A0 A1 A2 Al C0 C1 C2 Cl M0 M1 M2 Ml
  clear hb
  obtain ⟨A0, A1, A2, Al⟩ := id A
  obtain ⟨C0, C1, C2, Cl⟩ := id C
  obtain ⟨M0, M1, M2, Ml⟩ := id M
  go_wp2_with fail
  refine (R1 _).mono ?_
  rintro e w6 ⟨rfl, hb⟩
  replace B := bthen B (by have := A.lt; omega) hb
  replace A := A.below hb
  replace C := C.below hb
  replace M := M.below hb
  clear A0 A1 A2 Al C0 C1 C2 Cl M0 M1 M2 Ml
  clear hb
  obtain ⟨A0, A1, A2, Al⟩ := id A
  obtain ⟨C0, C1, C2, Cl⟩ := id C
  obtain ⟨M0, M1, M2, Ml⟩ := id M
  go_wp2_with fail
  refine (R2 _).mono ?_
  rintro e w7 ⟨rfl, hb⟩
  replace B := bthen B (by have := A.lt; omega) hb
  replace A := A.below hb
  replace C := C.below hb
  replace M := M.below hb
  clear A0 A1 A2 Al C0 C1 C2 Cl M0 M1 M2 Ml
  clear hb
  obtain ⟨A0, A1, A2, Al⟩ := id A
  obtain ⟨C0, C1, C2, Cl⟩ := id C
  obtain ⟨M0, M1, M2, Ml⟩ := id M
  go_wp2_with fail
  go_ret
  exact ⟨rfl, hV.symm ▸ B⟩

set_option maxRecDepth 20000 in
set_option maxHeartbeats 1000000 in
theorem orders_nt (ka na : Int) (sa : ByteArray) (kb nb : Int) (sb : ByteArray) (kc nc : Int) (sc : ByteArray) (r2 : Bool) (z g v h : Int) (P0 : ∀ w, Calls Tryd.prog 15 #[vl ka na sa] w fun e w' => e = .returned (.int .i64 0) ∧ Below w.heap.size w w') (P1 : ∀ w, Calls Tryd.prog 15 #[vl kb nb sb] w fun e w' => e = .returned (.int .i64 0) ∧ Below w.heap.size w w') (P2 : ∀ w, Calls Tryd.prog 15 #[vl kc nc sc] w fun e w' => e = .returned (.int .i64 0) ∧ Below w.heap.size w w') (S1 : ∀ w, Calls Tryd.prog 24 #[vl ka na sa, vl ka na sa] w fun e w' => e = .returned (.tuple #[.bool true, .int .i64 0]) ∧ Below w.heap.size w w') (S2 : ∀ w, Calls Tryd.prog 24 #[vl ka na sa, vl kb nb sb] w fun e w' => e = .returned (.tuple #[.bool true, .int .i64 0]) ∧ Below w.heap.size w w') (S3 : ∀ w, Calls Tryd.prog 24 #[vl kb nb sb, vl ka na sa] w fun e w' => e = .returned (.tuple #[.bool true, .int .i64 0]) ∧ Below w.heap.size w w') (S4 : ∀ w, Calls Tryd.prog 24 #[vl kb nb sb, vl kc nc sc] w fun e w' => e = .returned (.tuple #[.bool r2, .int .i64 0]) ∧ Below w.heap.size w w') (S5 : ∀ w, Calls Tryd.prog 24 #[vl ka na sa, vl kc nc sc] w fun e w' => e = .returned (.tuple #[.bool r2, .int .i64 0]) ∧ Below w.heap.size w w') (O1 : ∀ w, Calls Tryd.prog 25 #[vl ka na sa, vl kb nb sb] w fun e w' => e = .returned (.tuple #[.int .i64 0, .int .i64 8]) ∧ Below w.heap.size w w') (O2 : ∀ w, Calls Tryd.prog 25 #[vl kb nb sb, vl ka na sa] w fun e w' => e = .returned (.tuple #[.int .i64 0, .int .i64 8]) ∧ Below w.heap.size w w') (O3 : ∀ w, Calls Tryd.prog 25 #[vl kb nb sb, vl kc nc sc] w fun e w' => e = .returned (.tuple #[.int .i64 z, .int .i64 g]) ∧ Below w.heap.size w w') (O4 : ∀ w, Calls Tryd.prog 25 #[vl ka na sa, vl kc nc sc] w fun e w' => e = .returned (.tuple #[.int .i64 v, .int .i64 h]) ∧ Below w.heap.size w w') (w : World) (htab : Tab w) : Calls Tryd.prog 6 #[vl ka na sa, vl kb nb sb, vl kc nc sc] w fun e w' => e = .returned (.bool true) ∧ Below w.heap.size w w' := by
  have HT : Hid _ := htab
  clear htab
  try unfold vl at *
  go_enter Tryd.func6, Tryd.ntmps6
  go_wp2_with fail
  have A := At.new w ka na sa
  unfold vb at A
  replace A := A.alloc (.cells #[.int .i64 kb, .int .i64 nb, .string sb] 23)
  replace A := A.alloc (.cells #[.int .i64 kc, .int .i64 nc, .string sc] 23)
  have C := At.new (w.alloc (.cells #[.int .i64 ka, .int .i64 na, .string sa] 23)) kb nb sb
  unfold vb at C
  replace C := C.alloc (.cells #[.int .i64 kc, .int .i64 nc, .string sc] 23)
  have M := At.new ((w.alloc (.cells #[.int .i64 ka, .int .i64 na, .string sa] 23)).alloc (.cells #[.int .i64 kb, .int .i64 nb, .string sb] 23)) kc nc sc
  unfold vb at M
  have B := b3 w (.cells #[.int .i64 ka, .int .i64 na, .string sa] 23) (.cells #[.int .i64 kb, .int .i64 nb, .string sb] 23) (.cells #[.int .i64 kc, .int .i64 nc, .string sc] 23)
  simp at C M
  generalize (((w.alloc (.cells #[.int .i64 ka, .int .i64 na, .string sa] 23)).alloc (.cells #[.int .i64 kb, .int .i64 nb, .string sb] 23)).alloc (.cells #[.int .i64 kc, .int .i64 nc, .string sc] 23)) = w0 at *
  obtain ⟨V, hV⟩ : ∃ V, w.heap.size = V := ⟨_, rfl⟩
  rw [hV] at A C M B ⊢
  obtain ⟨A0, A1, A2, Al⟩ := id A
  obtain ⟨C0, C1, C2, Cl⟩ := id C
  obtain ⟨M0, M1, M2, Ml⟩ := id M
  refine (fixed_any _ (tab_keep HT.out (hV.symm ▸ B))).mono ?_
  rintro e w1 ⟨rfl, hb⟩
  replace B := bthen B (by have := A.lt; omega) hb
  replace A := A.below hb
  replace C := C.below hb
  replace M := M.below hb
  clear A0 A1 A2 Al C0 C1 C2 Cl M0 M1 M2 Ml
  clear hb
  obtain ⟨A0, A1, A2, Al⟩ := id A
  obtain ⟨C0, C1, C2, Cl⟩ := id C
  obtain ⟨M0, M1, M2, Ml⟩ := id M
  go_wp2_with fail
  refine (P0 _).mono ?_
  rintro e w2 ⟨rfl, hb⟩
  replace B := bthen B (by have := A.lt; omega) hb
  replace A := A.below hb
  replace C := C.below hb
  replace M := M.below hb
  clear A0 A1 A2 Al C0 C1 C2 Cl M0 M1 M2 Ml
  clear hb
  obtain ⟨A0, A1, A2, Al⟩ := id A
  obtain ⟨C0, C1, C2, Cl⟩ := id C
  obtain ⟨M0, M1, M2, Ml⟩ := id M
  go_wp2_with fail
  refine (P1 _).mono ?_
  rintro e w3 ⟨rfl, hb⟩
  replace B := bthen B (by have := A.lt; omega) hb
  replace A := A.below hb
  replace C := C.below hb
  replace M := M.below hb
  clear A0 A1 A2 Al C0 C1 C2 Cl M0 M1 M2 Ml
  clear hb
  obtain ⟨A0, A1, A2, Al⟩ := id A
  obtain ⟨C0, C1, C2, Cl⟩ := id C
  obtain ⟨M0, M1, M2, Ml⟩ := id M
  go_wp2_with fail
  refine (P2 _).mono ?_
  rintro e w4 ⟨rfl, hb⟩
  replace B := bthen B (by have := A.lt; omega) hb
  replace A := A.below hb
  replace C := C.below hb
  replace M := M.below hb
  clear A0 A1 A2 Al C0 C1 C2 Cl M0 M1 M2 Ml
  clear hb
  obtain ⟨A0, A1, A2, Al⟩ := id A
  obtain ⟨C0, C1, C2, Cl⟩ := id C
  obtain ⟨M0, M1, M2, Ml⟩ := id M
  go_wp2_with fail
  refine (S1 _).mono ?_
  rintro e w5 ⟨rfl, hb⟩
  replace B := bthen B (by have := A.lt; omega) hb
  replace A := A.below hb
  replace C := C.below hb
  replace M := M.below hb
  clear A0 A1 A2 Al C0 C1 C2 Cl M0 M1 M2 Ml
  clear hb
  obtain ⟨A0, A1, A2, Al⟩ := id A
  obtain ⟨C0, C1, C2, Cl⟩ := id C
  obtain ⟨M0, M1, M2, Ml⟩ := id M
  go_wp2_with fail
  refine (S2 _).mono ?_
  rintro e w6 ⟨rfl, hb⟩
  replace B := bthen B (by have := A.lt; omega) hb
  replace A := A.below hb
  replace C := C.below hb
  replace M := M.below hb
  clear A0 A1 A2 Al C0 C1 C2 Cl M0 M1 M2 Ml
  clear hb
  obtain ⟨A0, A1, A2, Al⟩ := id A
  obtain ⟨C0, C1, C2, Cl⟩ := id C
  obtain ⟨M0, M1, M2, Ml⟩ := id M
  go_wp2_with fail
  refine (S3 _).mono ?_
  rintro e w7 ⟨rfl, hb⟩
  replace B := bthen B (by have := A.lt; omega) hb
  replace A := A.below hb
  replace C := C.below hb
  replace M := M.below hb
  clear A0 A1 A2 Al C0 C1 C2 Cl M0 M1 M2 Ml
  clear hb
  obtain ⟨A0, A1, A2, Al⟩ := id A
  obtain ⟨C0, C1, C2, Cl⟩ := id C
  obtain ⟨M0, M1, M2, Ml⟩ := id M
  go_wp2_with fail
  refine (S4 _).mono ?_
  rintro e w8 ⟨rfl, hb⟩
  replace B := bthen B (by have := A.lt; omega) hb
  replace A := A.below hb
  replace C := C.below hb
  replace M := M.below hb
  clear A0 A1 A2 Al C0 C1 C2 Cl M0 M1 M2 Ml
  clear hb
  obtain ⟨A0, A1, A2, Al⟩ := id A
  obtain ⟨C0, C1, C2, Cl⟩ := id C
  obtain ⟨M0, M1, M2, Ml⟩ := id M
  go_wp2_with fail
  refine (S5 _).mono ?_
  rintro e w9 ⟨rfl, hb⟩
  replace B := bthen B (by have := A.lt; omega) hb
  replace A := A.below hb
  replace C := C.below hb
  replace M := M.below hb
  clear A0 A1 A2 Al C0 C1 C2 Cl M0 M1 M2 Ml
  clear hb
  obtain ⟨A0, A1, A2, Al⟩ := id A
  obtain ⟨C0, C1, C2, Cl⟩ := id C
  obtain ⟨M0, M1, M2, Ml⟩ := id M
  go_wp2_with fail
  refine (O1 _).mono ?_
  rintro e w10 ⟨rfl, hb⟩
  replace B := bthen B (by have := A.lt; omega) hb
  replace A := A.below hb
  replace C := C.below hb
  replace M := M.below hb
  clear A0 A1 A2 Al C0 C1 C2 Cl M0 M1 M2 Ml
  clear hb
  obtain ⟨A0, A1, A2, Al⟩ := id A
  obtain ⟨C0, C1, C2, Cl⟩ := id C
  obtain ⟨M0, M1, M2, Ml⟩ := id M
  go_wp2_with fail
  refine (O2 _).mono ?_
  rintro e w11 ⟨rfl, hb⟩
  replace B := bthen B (by have := A.lt; omega) hb
  replace A := A.below hb
  replace C := C.below hb
  replace M := M.below hb
  clear A0 A1 A2 Al C0 C1 C2 Cl M0 M1 M2 Ml
  clear hb
  obtain ⟨A0, A1, A2, Al⟩ := id A
  obtain ⟨C0, C1, C2, Cl⟩ := id C
  obtain ⟨M0, M1, M2, Ml⟩ := id M
  go_wp2_with fail
  refine (O3 _).mono ?_
  rintro e w12 ⟨rfl, hb⟩
  replace B := bthen B (by have := A.lt; omega) hb
  replace A := A.below hb
  replace C := C.below hb
  replace M := M.below hb
  clear A0 A1 A2 Al C0 C1 C2 Cl M0 M1 M2 Ml
  clear hb
  obtain ⟨A0, A1, A2, Al⟩ := id A
  obtain ⟨C0, C1, C2, Cl⟩ := id C
  obtain ⟨M0, M1, M2, Ml⟩ := id M
  go_wp2_with fail
  refine (O4 _).mono ?_
  rintro e w13 ⟨rfl, hb⟩
  replace B := bthen B (by have := A.lt; omega) hb
  replace A := A.below hb
  replace C := C.below hb
  replace M := M.below hb
  clear A0 A1 A2 Al C0 C1 C2 Cl M0 M1 M2 Ml
  clear hb
  obtain ⟨A0, A1, A2, Al⟩ := id A
  obtain ⟨C0, C1, C2, Cl⟩ := id C
  obtain ⟨M0, M1, M2, Ml⟩ := id M
  go_wp2_with fail
  go_ret
  exact ⟨rfl, hV.symm ▸ B⟩

set_option maxRecDepth 20000 in
set_option maxHeartbeats 1000000 in
theorem orders_nf (ka na : Int) (sa : ByteArray) (kb nb : Int) (sb : ByteArray) (kc nc : Int) (sc : ByteArray) (r2 r3 : Bool) (z g v h : Int) (P0 : ∀ w, Calls Tryd.prog 15 #[vl ka na sa] w fun e w' => e = .returned (.int .i64 0) ∧ Below w.heap.size w w') (P1 : ∀ w, Calls Tryd.prog 15 #[vl kb nb sb] w fun e w' => e = .returned (.int .i64 0) ∧ Below w.heap.size w w') (P2 : ∀ w, Calls Tryd.prog 15 #[vl kc nc sc] w fun e w' => e = .returned (.int .i64 0) ∧ Below w.heap.size w w') (S1 : ∀ w, Calls Tryd.prog 24 #[vl ka na sa, vl ka na sa] w fun e w' => e = .returned (.tuple #[.bool true, .int .i64 0]) ∧ Below w.heap.size w w') (S2 : ∀ w, Calls Tryd.prog 24 #[vl ka na sa, vl kb nb sb] w fun e w' => e = .returned (.tuple #[.bool false, .int .i64 0]) ∧ Below w.heap.size w w') (S3 : ∀ w, Calls Tryd.prog 24 #[vl kb nb sb, vl ka na sa] w fun e w' => e = .returned (.tuple #[.bool false, .int .i64 0]) ∧ Below w.heap.size w w') (S4 : ∀ w, Calls Tryd.prog 24 #[vl kb nb sb, vl kc nc sc] w fun e w' => e = .returned (.tuple #[.bool r2, .int .i64 0]) ∧ Below w.heap.size w w') (S5 : ∀ w, Calls Tryd.prog 24 #[vl ka na sa, vl kc nc sc] w fun e w' => e = .returned (.tuple #[.bool r3, .int .i64 0]) ∧ Below w.heap.size w w') (O1 : ∀ w, Calls Tryd.prog 25 #[vl ka na sa, vl kb nb sb] w fun e w' => e = .returned (.tuple #[.int .i64 0, .int .i64 8]) ∧ Below w.heap.size w w') (O2 : ∀ w, Calls Tryd.prog 25 #[vl kb nb sb, vl ka na sa] w fun e w' => e = .returned (.tuple #[.int .i64 0, .int .i64 8]) ∧ Below w.heap.size w w') (O3 : ∀ w, Calls Tryd.prog 25 #[vl kb nb sb, vl kc nc sc] w fun e w' => e = .returned (.tuple #[.int .i64 z, .int .i64 g]) ∧ Below w.heap.size w w') (O4 : ∀ w, Calls Tryd.prog 25 #[vl ka na sa, vl kc nc sc] w fun e w' => e = .returned (.tuple #[.int .i64 v, .int .i64 h]) ∧ Below w.heap.size w w') (w : World) (htab : Tab w) : Calls Tryd.prog 6 #[vl ka na sa, vl kb nb sb, vl kc nc sc] w fun e w' => e = .returned (.bool true) ∧ Below w.heap.size w w' := by
  have HT : Hid _ := htab
  clear htab
  try unfold vl at *
  go_enter Tryd.func6, Tryd.ntmps6
  go_wp2_with fail
  have A := At.new w ka na sa
  unfold vb at A
  replace A := A.alloc (.cells #[.int .i64 kb, .int .i64 nb, .string sb] 23)
  replace A := A.alloc (.cells #[.int .i64 kc, .int .i64 nc, .string sc] 23)
  have C := At.new (w.alloc (.cells #[.int .i64 ka, .int .i64 na, .string sa] 23)) kb nb sb
  unfold vb at C
  replace C := C.alloc (.cells #[.int .i64 kc, .int .i64 nc, .string sc] 23)
  have M := At.new ((w.alloc (.cells #[.int .i64 ka, .int .i64 na, .string sa] 23)).alloc (.cells #[.int .i64 kb, .int .i64 nb, .string sb] 23)) kc nc sc
  unfold vb at M
  have B := b3 w (.cells #[.int .i64 ka, .int .i64 na, .string sa] 23) (.cells #[.int .i64 kb, .int .i64 nb, .string sb] 23) (.cells #[.int .i64 kc, .int .i64 nc, .string sc] 23)
  simp at C M
  generalize (((w.alloc (.cells #[.int .i64 ka, .int .i64 na, .string sa] 23)).alloc (.cells #[.int .i64 kb, .int .i64 nb, .string sb] 23)).alloc (.cells #[.int .i64 kc, .int .i64 nc, .string sc] 23)) = w0 at *
  obtain ⟨V, hV⟩ : ∃ V, w.heap.size = V := ⟨_, rfl⟩
  rw [hV] at A C M B ⊢
  obtain ⟨A0, A1, A2, Al⟩ := id A
  obtain ⟨C0, C1, C2, Cl⟩ := id C
  obtain ⟨M0, M1, M2, Ml⟩ := id M
  refine (fixed_any _ (tab_keep HT.out (hV.symm ▸ B))).mono ?_
  rintro e w1 ⟨rfl, hb⟩
  replace B := bthen B (by have := A.lt; omega) hb
  replace A := A.below hb
  replace C := C.below hb
  replace M := M.below hb
  clear A0 A1 A2 Al C0 C1 C2 Cl M0 M1 M2 Ml
  clear hb
  obtain ⟨A0, A1, A2, Al⟩ := id A
  obtain ⟨C0, C1, C2, Cl⟩ := id C
  obtain ⟨M0, M1, M2, Ml⟩ := id M
  go_wp2_with fail
  refine (P0 _).mono ?_
  rintro e w2 ⟨rfl, hb⟩
  replace B := bthen B (by have := A.lt; omega) hb
  replace A := A.below hb
  replace C := C.below hb
  replace M := M.below hb
  clear A0 A1 A2 Al C0 C1 C2 Cl M0 M1 M2 Ml
  clear hb
  obtain ⟨A0, A1, A2, Al⟩ := id A
  obtain ⟨C0, C1, C2, Cl⟩ := id C
  obtain ⟨M0, M1, M2, Ml⟩ := id M
  go_wp2_with fail
  refine (P1 _).mono ?_
  rintro e w3 ⟨rfl, hb⟩
  replace B := bthen B (by have := A.lt; omega) hb
  replace A := A.below hb
  replace C := C.below hb
  replace M := M.below hb
  clear A0 A1 A2 Al C0 C1 C2 Cl M0 M1 M2 Ml
  clear hb
  obtain ⟨A0, A1, A2, Al⟩ := id A
  obtain ⟨C0, C1, C2, Cl⟩ := id C
  obtain ⟨M0, M1, M2, Ml⟩ := id M
  go_wp2_with fail
  refine (P2 _).mono ?_
  rintro e w4 ⟨rfl, hb⟩
  replace B := bthen B (by have := A.lt; omega) hb
  replace A := A.below hb
  replace C := C.below hb
  replace M := M.below hb
  clear A0 A1 A2 Al C0 C1 C2 Cl M0 M1 M2 Ml
  clear hb
  obtain ⟨A0, A1, A2, Al⟩ := id A
  obtain ⟨C0, C1, C2, Cl⟩ := id C
  obtain ⟨M0, M1, M2, Ml⟩ := id M
  go_wp2_with fail
  refine (S1 _).mono ?_
  rintro e w5 ⟨rfl, hb⟩
  replace B := bthen B (by have := A.lt; omega) hb
  replace A := A.below hb
  replace C := C.below hb
  replace M := M.below hb
  clear A0 A1 A2 Al C0 C1 C2 Cl M0 M1 M2 Ml
  clear hb
  obtain ⟨A0, A1, A2, Al⟩ := id A
  obtain ⟨C0, C1, C2, Cl⟩ := id C
  obtain ⟨M0, M1, M2, Ml⟩ := id M
  go_wp2_with fail
  refine (S2 _).mono ?_
  rintro e w6 ⟨rfl, hb⟩
  replace B := bthen B (by have := A.lt; omega) hb
  replace A := A.below hb
  replace C := C.below hb
  replace M := M.below hb
  clear A0 A1 A2 Al C0 C1 C2 Cl M0 M1 M2 Ml
  clear hb
  obtain ⟨A0, A1, A2, Al⟩ := id A
  obtain ⟨C0, C1, C2, Cl⟩ := id C
  obtain ⟨M0, M1, M2, Ml⟩ := id M
  go_wp2_with fail
  refine (S3 _).mono ?_
  rintro e w7 ⟨rfl, hb⟩
  replace B := bthen B (by have := A.lt; omega) hb
  replace A := A.below hb
  replace C := C.below hb
  replace M := M.below hb
  clear A0 A1 A2 Al C0 C1 C2 Cl M0 M1 M2 Ml
  clear hb
  obtain ⟨A0, A1, A2, Al⟩ := id A
  obtain ⟨C0, C1, C2, Cl⟩ := id C
  obtain ⟨M0, M1, M2, Ml⟩ := id M
  go_wp2_with fail
  refine (S4 _).mono ?_
  rintro e w8 ⟨rfl, hb⟩
  replace B := bthen B (by have := A.lt; omega) hb
  replace A := A.below hb
  replace C := C.below hb
  replace M := M.below hb
  clear A0 A1 A2 Al C0 C1 C2 Cl M0 M1 M2 Ml
  clear hb
  obtain ⟨A0, A1, A2, Al⟩ := id A
  obtain ⟨C0, C1, C2, Cl⟩ := id C
  obtain ⟨M0, M1, M2, Ml⟩ := id M
  go_wp2_with fail
  refine (S5 _).mono ?_
  rintro e w9 ⟨rfl, hb⟩
  replace B := bthen B (by have := A.lt; omega) hb
  replace A := A.below hb
  replace C := C.below hb
  replace M := M.below hb
  clear A0 A1 A2 Al C0 C1 C2 Cl M0 M1 M2 Ml
  clear hb
  obtain ⟨A0, A1, A2, Al⟩ := id A
  obtain ⟨C0, C1, C2, Cl⟩ := id C
  obtain ⟨M0, M1, M2, Ml⟩ := id M
  go_wp2_with fail
  refine (O1 _).mono ?_
  rintro e w10 ⟨rfl, hb⟩
  replace B := bthen B (by have := A.lt; omega) hb
  replace A := A.below hb
  replace C := C.below hb
  replace M := M.below hb
  clear A0 A1 A2 Al C0 C1 C2 Cl M0 M1 M2 Ml
  clear hb
  obtain ⟨A0, A1, A2, Al⟩ := id A
  obtain ⟨C0, C1, C2, Cl⟩ := id C
  obtain ⟨M0, M1, M2, Ml⟩ := id M
  go_wp2_with fail
  refine (O2 _).mono ?_
  rintro e w11 ⟨rfl, hb⟩
  replace B := bthen B (by have := A.lt; omega) hb
  replace A := A.below hb
  replace C := C.below hb
  replace M := M.below hb
  clear A0 A1 A2 Al C0 C1 C2 Cl M0 M1 M2 Ml
  clear hb
  obtain ⟨A0, A1, A2, Al⟩ := id A
  obtain ⟨C0, C1, C2, Cl⟩ := id C
  obtain ⟨M0, M1, M2, Ml⟩ := id M
  go_wp2_with fail
  refine (O3 _).mono ?_
  rintro e w12 ⟨rfl, hb⟩
  replace B := bthen B (by have := A.lt; omega) hb
  replace A := A.below hb
  replace C := C.below hb
  replace M := M.below hb
  clear A0 A1 A2 Al C0 C1 C2 Cl M0 M1 M2 Ml
  clear hb
  obtain ⟨A0, A1, A2, Al⟩ := id A
  obtain ⟨C0, C1, C2, Cl⟩ := id C
  obtain ⟨M0, M1, M2, Ml⟩ := id M
  go_wp2_with fail
  refine (O4 _).mono ?_
  rintro e w13 ⟨rfl, hb⟩
  replace B := bthen B (by have := A.lt; omega) hb
  replace A := A.below hb
  replace C := C.below hb
  replace M := M.below hb
  clear A0 A1 A2 Al C0 C1 C2 Cl M0 M1 M2 Ml
  clear hb
  obtain ⟨A0, A1, A2, Al⟩ := id A
  obtain ⟨C0, C1, C2, Cl⟩ := id C
  obtain ⟨M0, M1, M2, Ml⟩ := id M
  go_wp2_with fail
  go_ret
  exact ⟨rfl, hV.symm ▸ B⟩

set_option maxRecDepth 20000 in
set_option maxHeartbeats 1000000 in
theorem orders_gm (ka na : Int) (sa : ByteArray) (kb nb : Int) (sb : ByteArray) (kc nc : Int) (sc : ByteArray) (r2 r3 : Bool) (z v h : Int) (P0 : ∀ w, Calls Tryd.prog 15 #[vl ka na sa] w fun e w' => e = .returned (.int .i64 0) ∧ Below w.heap.size w w') (P1 : ∀ w, Calls Tryd.prog 15 #[vl kb nb sb] w fun e w' => e = .returned (.int .i64 0) ∧ Below w.heap.size w w') (P2 : ∀ w, Calls Tryd.prog 15 #[vl kc nc sc] w fun e w' => e = .returned (.int .i64 0) ∧ Below w.heap.size w w') (S1 : ∀ w, Calls Tryd.prog 24 #[vl ka na sa, vl ka na sa] w fun e w' => e = .returned (.tuple #[.bool true, .int .i64 0]) ∧ Below w.heap.size w w') (S2 : ∀ w, Calls Tryd.prog 24 #[vl ka na sa, vl kb nb sb] w fun e w' => e = .returned (.tuple #[.bool false, .int .i64 0]) ∧ Below w.heap.size w w') (S3 : ∀ w, Calls Tryd.prog 24 #[vl kb nb sb, vl ka na sa] w fun e w' => e = .returned (.tuple #[.bool false, .int .i64 0]) ∧ Below w.heap.size w w') (S4 : ∀ w, Calls Tryd.prog 24 #[vl kb nb sb, vl kc nc sc] w fun e w' => e = .returned (.tuple #[.bool r2, .int .i64 0]) ∧ Below w.heap.size w w') (S5 : ∀ w, Calls Tryd.prog 24 #[vl ka na sa, vl kc nc sc] w fun e w' => e = .returned (.tuple #[.bool r3, .int .i64 0]) ∧ Below w.heap.size w w') (O1 : ∀ w, Calls Tryd.prog 25 #[vl ka na sa, vl kb nb sb] w fun e w' => e = .returned (.tuple #[.int .i64 (-1), .int .i64 0]) ∧ Below w.heap.size w w') (O2 : ∀ w, Calls Tryd.prog 25 #[vl kb nb sb, vl ka na sa] w fun e w' => e = .returned (.tuple #[.int .i64 1, .int .i64 0]) ∧ Below w.heap.size w w') (O3 : ∀ w, Calls Tryd.prog 25 #[vl kb nb sb, vl kc nc sc] w fun e w' => e = .returned (.tuple #[.int .i64 z, .int .i64 8]) ∧ Below w.heap.size w w') (O4 : ∀ w, Calls Tryd.prog 25 #[vl ka na sa, vl kc nc sc] w fun e w' => e = .returned (.tuple #[.int .i64 v, .int .i64 h]) ∧ Below w.heap.size w w') (w : World) (htab : Tab w) : Calls Tryd.prog 6 #[vl ka na sa, vl kb nb sb, vl kc nc sc] w fun e w' => e = .returned (.bool true) ∧ Below w.heap.size w w' := by
  have HT : Hid _ := htab
  clear htab
  try unfold vl at *
  go_enter Tryd.func6, Tryd.ntmps6
  go_wp2_with fail
  have A := At.new w ka na sa
  unfold vb at A
  replace A := A.alloc (.cells #[.int .i64 kb, .int .i64 nb, .string sb] 23)
  replace A := A.alloc (.cells #[.int .i64 kc, .int .i64 nc, .string sc] 23)
  have C := At.new (w.alloc (.cells #[.int .i64 ka, .int .i64 na, .string sa] 23)) kb nb sb
  unfold vb at C
  replace C := C.alloc (.cells #[.int .i64 kc, .int .i64 nc, .string sc] 23)
  have M := At.new ((w.alloc (.cells #[.int .i64 ka, .int .i64 na, .string sa] 23)).alloc (.cells #[.int .i64 kb, .int .i64 nb, .string sb] 23)) kc nc sc
  unfold vb at M
  have B := b3 w (.cells #[.int .i64 ka, .int .i64 na, .string sa] 23) (.cells #[.int .i64 kb, .int .i64 nb, .string sb] 23) (.cells #[.int .i64 kc, .int .i64 nc, .string sc] 23)
  simp at C M
  generalize (((w.alloc (.cells #[.int .i64 ka, .int .i64 na, .string sa] 23)).alloc (.cells #[.int .i64 kb, .int .i64 nb, .string sb] 23)).alloc (.cells #[.int .i64 kc, .int .i64 nc, .string sc] 23)) = w0 at *
  obtain ⟨V, hV⟩ : ∃ V, w.heap.size = V := ⟨_, rfl⟩
  rw [hV] at A C M B ⊢
  obtain ⟨A0, A1, A2, Al⟩ := id A
  obtain ⟨C0, C1, C2, Cl⟩ := id C
  obtain ⟨M0, M1, M2, Ml⟩ := id M
  refine (fixed_any _ (tab_keep HT.out (hV.symm ▸ B))).mono ?_
  rintro e w1 ⟨rfl, hb⟩
  replace B := bthen B (by have := A.lt; omega) hb
  replace A := A.below hb
  replace C := C.below hb
  replace M := M.below hb
  clear A0 A1 A2 Al C0 C1 C2 Cl M0 M1 M2 Ml
  clear hb
  obtain ⟨A0, A1, A2, Al⟩ := id A
  obtain ⟨C0, C1, C2, Cl⟩ := id C
  obtain ⟨M0, M1, M2, Ml⟩ := id M
  go_wp2_with fail
  refine (P0 _).mono ?_
  rintro e w2 ⟨rfl, hb⟩
  replace B := bthen B (by have := A.lt; omega) hb
  replace A := A.below hb
  replace C := C.below hb
  replace M := M.below hb
  clear A0 A1 A2 Al C0 C1 C2 Cl M0 M1 M2 Ml
  clear hb
  obtain ⟨A0, A1, A2, Al⟩ := id A
  obtain ⟨C0, C1, C2, Cl⟩ := id C
  obtain ⟨M0, M1, M2, Ml⟩ := id M
  go_wp2_with fail
  refine (P1 _).mono ?_
  rintro e w3 ⟨rfl, hb⟩
  replace B := bthen B (by have := A.lt; omega) hb
  replace A := A.below hb
  replace C := C.below hb
  replace M := M.below hb
  clear A0 A1 A2 Al C0 C1 C2 Cl M0 M1 M2 Ml
  clear hb
  obtain ⟨A0, A1, A2, Al⟩ := id A
  obtain ⟨C0, C1, C2, Cl⟩ := id C
  obtain ⟨M0, M1, M2, Ml⟩ := id M
  go_wp2_with fail
  refine (P2 _).mono ?_
  rintro e w4 ⟨rfl, hb⟩
  replace B := bthen B (by have := A.lt; omega) hb
  replace A := A.below hb
  replace C := C.below hb
  replace M := M.below hb
  clear A0 A1 A2 Al C0 C1 C2 Cl M0 M1 M2 Ml
  clear hb
  obtain ⟨A0, A1, A2, Al⟩ := id A
  obtain ⟨C0, C1, C2, Cl⟩ := id C
  obtain ⟨M0, M1, M2, Ml⟩ := id M
  go_wp2_with fail
  refine (S1 _).mono ?_
  rintro e w5 ⟨rfl, hb⟩
  replace B := bthen B (by have := A.lt; omega) hb
  replace A := A.below hb
  replace C := C.below hb
  replace M := M.below hb
  clear A0 A1 A2 Al C0 C1 C2 Cl M0 M1 M2 Ml
  clear hb
  obtain ⟨A0, A1, A2, Al⟩ := id A
  obtain ⟨C0, C1, C2, Cl⟩ := id C
  obtain ⟨M0, M1, M2, Ml⟩ := id M
  go_wp2_with fail
  refine (S2 _).mono ?_
  rintro e w6 ⟨rfl, hb⟩
  replace B := bthen B (by have := A.lt; omega) hb
  replace A := A.below hb
  replace C := C.below hb
  replace M := M.below hb
  clear A0 A1 A2 Al C0 C1 C2 Cl M0 M1 M2 Ml
  clear hb
  obtain ⟨A0, A1, A2, Al⟩ := id A
  obtain ⟨C0, C1, C2, Cl⟩ := id C
  obtain ⟨M0, M1, M2, Ml⟩ := id M
  go_wp2_with fail
  refine (S3 _).mono ?_
  rintro e w7 ⟨rfl, hb⟩
  replace B := bthen B (by have := A.lt; omega) hb
  replace A := A.below hb
  replace C := C.below hb
  replace M := M.below hb
  clear A0 A1 A2 Al C0 C1 C2 Cl M0 M1 M2 Ml
  clear hb
  obtain ⟨A0, A1, A2, Al⟩ := id A
  obtain ⟨C0, C1, C2, Cl⟩ := id C
  obtain ⟨M0, M1, M2, Ml⟩ := id M
  go_wp2_with fail
  refine (S4 _).mono ?_
  rintro e w8 ⟨rfl, hb⟩
  replace B := bthen B (by have := A.lt; omega) hb
  replace A := A.below hb
  replace C := C.below hb
  replace M := M.below hb
  clear A0 A1 A2 Al C0 C1 C2 Cl M0 M1 M2 Ml
  clear hb
  obtain ⟨A0, A1, A2, Al⟩ := id A
  obtain ⟨C0, C1, C2, Cl⟩ := id C
  obtain ⟨M0, M1, M2, Ml⟩ := id M
  go_wp2_with fail
  refine (S5 _).mono ?_
  rintro e w9 ⟨rfl, hb⟩
  replace B := bthen B (by have := A.lt; omega) hb
  replace A := A.below hb
  replace C := C.below hb
  replace M := M.below hb
  clear A0 A1 A2 Al C0 C1 C2 Cl M0 M1 M2 Ml
  clear hb
  obtain ⟨A0, A1, A2, Al⟩ := id A
  obtain ⟨C0, C1, C2, Cl⟩ := id C
  obtain ⟨M0, M1, M2, Ml⟩ := id M
  go_wp2_with fail
  refine (O1 _).mono ?_
  rintro e w10 ⟨rfl, hb⟩
  replace B := bthen B (by have := A.lt; omega) hb
  replace A := A.below hb
  replace C := C.below hb
  replace M := M.below hb
  clear A0 A1 A2 Al C0 C1 C2 Cl M0 M1 M2 Ml
  clear hb
  obtain ⟨A0, A1, A2, Al⟩ := id A
  obtain ⟨C0, C1, C2, Cl⟩ := id C
  obtain ⟨M0, M1, M2, Ml⟩ := id M
  go_wp2_with fail
  refine (O2 _).mono ?_
  rintro e w11 ⟨rfl, hb⟩
  replace B := bthen B (by have := A.lt; omega) hb
  replace A := A.below hb
  replace C := C.below hb
  replace M := M.below hb
  clear A0 A1 A2 Al C0 C1 C2 Cl M0 M1 M2 Ml
  clear hb
  obtain ⟨A0, A1, A2, Al⟩ := id A
  obtain ⟨C0, C1, C2, Cl⟩ := id C
  obtain ⟨M0, M1, M2, Ml⟩ := id M
  go_wp2_with fail
  refine (O3 _).mono ?_
  rintro e w12 ⟨rfl, hb⟩
  replace B := bthen B (by have := A.lt; omega) hb
  replace A := A.below hb
  replace C := C.below hb
  replace M := M.below hb
  clear A0 A1 A2 Al C0 C1 C2 Cl M0 M1 M2 Ml
  clear hb
  obtain ⟨A0, A1, A2, Al⟩ := id A
  obtain ⟨C0, C1, C2, Cl⟩ := id C
  obtain ⟨M0, M1, M2, Ml⟩ := id M
  go_wp2_with fail
  refine (O4 _).mono ?_
  rintro e w13 ⟨rfl, hb⟩
  replace B := bthen B (by have := A.lt; omega) hb
  replace A := A.below hb
  replace C := C.below hb
  replace M := M.below hb
  clear A0 A1 A2 Al C0 C1 C2 Cl M0 M1 M2 Ml
  clear hb
  obtain ⟨A0, A1, A2, Al⟩ := id A
  obtain ⟨C0, C1, C2, Cl⟩ := id C
  obtain ⟨M0, M1, M2, Ml⟩ := id M
  go_wp2_with fail
  go_ret
  exact ⟨rfl, hV.symm ▸ B⟩

end Go.Proofs.YtimmoecjfkacpaaDoor
