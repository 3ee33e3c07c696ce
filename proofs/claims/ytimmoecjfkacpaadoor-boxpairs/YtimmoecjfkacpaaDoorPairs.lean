/- The walk of the law BoxPairs, by cases. -/
import Derived.Test.YtimmoecjfkacpaaDoorRpair
namespace Go.Proofs.YtimmoecjfkacpaaDoor
open Go.RowKit

set_option maxRecDepth 20000 in
set_option maxHeartbeats 1000000 in
theorem pairs_bad (ka na : Int) (sa : ByteArray) (kb nb : Int) (sb : ByteArray) (D1 : ∀ w, Calls Tryd.prog 24 #[vl ka na sa, vl kb nb sb] w fun e w' => e = .returned (.tuple #[.bool false, .int .i64 2]) ∧ Below w.heap.size w w') (D2 : ∀ w, Calls Tryd.prog 25 #[vl ka na sa, vl kb nb sb] w fun e w' => e = .returned (.tuple #[.int .i64 0, .int .i64 2]) ∧ Below w.heap.size w w') (D3 : ∀ w, Tab w → Calls Tryd.prog 26 #[vl ka na sa, vl kb nb sb] w fun e w' => e = .returned (.tuple #[vl 0 0 ⟨#[]⟩, .int .i64 2]) ∧ Below w.heap.size w w') (D4 : ∀ w, Calls Tryd.prog 27 #[vl ka na sa, vl kb nb sb] w fun e w' => e = .returned (.tuple #[.int .i64 0, .int .i64 2]) ∧ Below w.heap.size w w') (D5 : ∀ w, Calls Tryd.prog 28 #[vl ka na sa, vl kb nb sb] w fun e w' => e = .returned (.tuple #[vl 0 0 ⟨#[]⟩, .int .i64 2]) ∧ Below w.heap.size w w') (D6 : ∀ w, Calls Tryd.prog 29 #[vl ka na sa, vl kb nb sb] w fun e w' => e = .returned (.int .i64 2) ∧ Below w.heap.size w w') (w : World) (htab : Tab w) : Calls Tryd.prog 5 #[vl ka na sa, vl kb nb sb] w fun e w' => e = .returned (.bool true) ∧ Below w.heap.size w w' := by
  have HT : Hid _ := htab
  clear htab
  try unfold vl at *
  go_enter Tryd.func5, Tryd.ntmps5
  go_wp2_with fail
  have A := At.new w ka na sa
  unfold vb at A
  replace A := A.alloc (.cells #[.int .i64 kb, .int .i64 nb, .string sb] 23)
  have C := At.new (w.alloc (.cells #[.int .i64 ka, .int .i64 na, .string sa] 23)) kb nb sb
  unfold vb at C
  have B := b2 w (.cells #[.int .i64 ka, .int .i64 na, .string sa] 23) (.cells #[.int .i64 kb, .int .i64 nb, .string sb] 23)
  simp at C
  generalize ((w.alloc (.cells #[.int .i64 ka, .int .i64 na, .string sa] 23)).alloc (.cells #[.int .i64 kb, .int .i64 nb, .string sb] 23)) = w0 at *
  obtain ⟨V, hV⟩ : ∃ V, w.heap.size = V := ⟨_, rfl⟩
  rw [hV] at A C B ⊢
  obtain ⟨A0, A1, A2, Al⟩ := id A
  obtain ⟨C0, C1, C2, Cl⟩ := id C
  refine (D1 _).mono ?_
  rintro e w1 ⟨rfl, hb⟩
  replace B := bthen B (by have := A.lt; omega) hb
  replace A := A.below hb
  replace C := C.below hb
  clear A0 A1 A2 Al C0 C1 C2 Cl
  clear hb
  obtain ⟨A0, A1, A2, Al⟩ := id A
  obtain ⟨C0, C1, C2, Cl⟩ := id C
  go_wp2_with fail
  refine (D2 _).mono ?_
  rintro e w2 ⟨rfl, hb⟩
  replace B := bthen B (by have := A.lt; omega) hb
  replace A := A.below hb
  replace C := C.below hb
  clear A0 A1 A2 Al C0 C1 C2 Cl
  clear hb
  obtain ⟨A0, A1, A2, Al⟩ := id A
  obtain ⟨C0, C1, C2, Cl⟩ := id C
  go_wp2_with fail
  refine (D3 _ (tab_keep HT.out (hV.symm ▸ B))).mono ?_
  rintro e w3 ⟨rfl, hb⟩
  replace B := bthen B (by have := A.lt; omega) hb
  replace A := A.below hb
  replace C := C.below hb
  clear A0 A1 A2 Al C0 C1 C2 Cl
  clear hb
  have J := At.new w3 0 0 ⟨#[]⟩
  unfold vb at J
  replace B := B.alloc (Nat.le_of_lt A.lt) (.cells #[.int .i64 0, .int .i64 0, .string ⟨#[]⟩] 23)
  replace A := A.alloc (.cells #[.int .i64 0, .int .i64 0, .string ⟨#[]⟩] 23)
  replace C := C.alloc (.cells #[.int .i64 0, .int .i64 0, .string ⟨#[]⟩] 23)
  obtain ⟨qJ, hqJ⟩ : ∃ q, w3.heap.size = q := ⟨_, rfl⟩
  obtain ⟨A0, A1, A2, Al⟩ := id A
  obtain ⟨C0, C1, C2, Cl⟩ := id C
  obtain ⟨J0, J1, J2, Jl⟩ := id J
  rw [hqJ] at J J0 J1 J2 Jl
  go_wp2_with fail
  try rw [hqJ]
  generalize w3.alloc _ = w4a at *
  refine (D4 _).mono ?_
  rintro e w4 ⟨rfl, hb⟩
  replace B := bthen B (by have := A.lt; omega) hb
  replace A := A.below hb
  replace C := C.below hb
  replace J := J.below hb
  clear A0 A1 A2 Al C0 C1 C2 Cl J0 J1 J2 Jl
  clear hb
  obtain ⟨A0, A1, A2, Al⟩ := id A
  obtain ⟨C0, C1, C2, Cl⟩ := id C
  obtain ⟨J0, J1, J2, Jl⟩ := id J
  go_wp2_with fail
  refine (D5 _).mono ?_
  rintro e w5 ⟨rfl, hb⟩
  replace B := bthen B (by have := A.lt; omega) hb
  replace A := A.below hb
  replace C := C.below hb
  replace J := J.below hb
  clear A0 A1 A2 Al C0 C1 C2 Cl J0 J1 J2 Jl
  clear hb
  have Q := At.new w5 0 0 ⟨#[]⟩
  unfold vb at Q
  replace B := B.alloc (Nat.le_of_lt A.lt) (.cells #[.int .i64 0, .int .i64 0, .string ⟨#[]⟩] 23)
  replace A := A.alloc (.cells #[.int .i64 0, .int .i64 0, .string ⟨#[]⟩] 23)
  replace C := C.alloc (.cells #[.int .i64 0, .int .i64 0, .string ⟨#[]⟩] 23)
  replace J := J.alloc (.cells #[.int .i64 0, .int .i64 0, .string ⟨#[]⟩] 23)
  obtain ⟨qQ, hqQ⟩ : ∃ q, w5.heap.size = q := ⟨_, rfl⟩
  obtain ⟨A0, A1, A2, Al⟩ := id A
  obtain ⟨C0, C1, C2, Cl⟩ := id C
  obtain ⟨J0, J1, J2, Jl⟩ := id J
  obtain ⟨Q0, Q1, Q2, Ql⟩ := id Q
  rw [hqQ] at Q Q0 Q1 Q2 Ql
  go_wp2_with fail
  try rw [hqQ]
  generalize w5.alloc _ = w6a at *
  refine (D6 _).mono ?_
  rintro e w6 ⟨rfl, hb⟩
  replace B := bthen B (by have := A.lt; omega) hb
  replace A := A.below hb
  replace C := C.below hb
  replace J := J.below hb
  replace Q := Q.below hb
  clear A0 A1 A2 Al C0 C1 C2 Cl J0 J1 J2 Jl Q0 Q1 Q2 Ql
  clear hb
  obtain ⟨A0, A1, A2, Al⟩ := id A
  obtain ⟨C0, C1, C2, Cl⟩ := id C
  obtain ⟨J0, J1, J2, Jl⟩ := id J
  obtain ⟨Q0, Q1, Q2, Ql⟩ := id Q
  go_wp2_with fail
  refine (fixed_any _ (tab_keep HT.out (hV.symm ▸ B))).mono ?_
  rintro e w7 ⟨rfl, hb⟩
  replace B := bthen B (by have := A.lt; omega) hb
  replace A := A.below hb
  replace C := C.below hb
  replace J := J.below hb
  replace Q := Q.below hb
  clear A0 A1 A2 Al C0 C1 C2 Cl J0 J1 J2 Jl Q0 Q1 Q2 Ql
  clear hb
  obtain ⟨A0, A1, A2, Al⟩ := id A
  obtain ⟨C0, C1, C2, Cl⟩ := id C
  obtain ⟨J0, J1, J2, Jl⟩ := id J
  obtain ⟨Q0, Q1, Q2, Ql⟩ := id Q
  go_wp2_with fail
  go_ret
  exact ⟨rfl, hV.symm ▸ B⟩

set_option maxRecDepth 20000 in
set_option maxHeartbeats 1000000 in
theorem pairs_same (ka na : Int) (sa : ByteArray) (o f K M : Int) (S : ByteArray) (E : Int) (D1 : ∀ w, Calls Tryd.prog 24 #[vl ka na sa, vl ka na sa] w fun e w' => e = .returned (.tuple #[.bool true, .int .i64 0]) ∧ Below w.heap.size w w') (D2 : ∀ w, Calls Tryd.prog 25 #[vl ka na sa, vl ka na sa] w fun e w' => e = .returned (.tuple #[.int .i64 o, .int .i64 f]) ∧ Below w.heap.size w w') (D3 : ∀ w, Tab w → Calls Tryd.prog 26 #[vl ka na sa, vl ka na sa] w fun e w' => e = .returned (.tuple #[vl K M S, .int .i64 E]) ∧ Below w.heap.size w w') (D4 : ∀ w, Calls Tryd.prog 27 #[vl ka na sa, vl ka na sa] w fun e w' => e = .returned (.tuple #[.int .i64 o, .int .i64 f]) ∧ Below w.heap.size w w') (D5 : ∀ w, Calls Tryd.prog 28 #[vl ka na sa, vl ka na sa] w fun e w' => e = .returned (.tuple #[vl K M S, .int .i64 E]) ∧ Below w.heap.size w w') (D6 : ∀ w, Calls Tryd.prog 29 #[vl ka na sa, vl ka na sa] w fun e w' => e = .returned (.int .i64 0) ∧ Below w.heap.size w w') (w : World) (htab : Tab w) : Calls Tryd.prog 5 #[vl ka na sa, vl ka na sa] w fun e w' => e = .returned (.bool true) ∧ Below w.heap.size w w' := by
  have HT : Hid _ := htab
  clear htab
  try unfold vl at *
  go_enter Tryd.func5, Tryd.ntmps5
  go_wp2_with fail
  have A := At.new w ka na sa
  unfold vb at A
  replace A := A.alloc (.cells #[.int .i64 ka, .int .i64 na, .string sa] 23)
  have C := At.new (w.alloc (.cells #[.int .i64 ka, .int .i64 na, .string sa] 23)) ka na sa
  unfold vb at C
  have B := b2 w (.cells #[.int .i64 ka, .int .i64 na, .string sa] 23) (.cells #[.int .i64 ka, .int .i64 na, .string sa] 23)
  simp at C
  generalize ((w.alloc (.cells #[.int .i64 ka, .int .i64 na, .string sa] 23)).alloc (.cells #[.int .i64 ka, .int .i64 na, .string sa] 23)) = w0 at *
  obtain ⟨V, hV⟩ : ∃ V, w.heap.size = V := ⟨_, rfl⟩
  rw [hV] at A C B ⊢
  obtain ⟨A0, A1, A2, Al⟩ := id A
  obtain ⟨C0, C1, C2, Cl⟩ := id C
  refine (D1 _).mono ?_
  rintro e w1 ⟨rfl, hb⟩
  replace B := bthen B (by have := A.lt; omega) hb
  replace A := A.below hb
  replace C := C.below hb
  clear A0 A1 A2 Al C0 C1 C2 Cl
  clear hb
  obtain ⟨A0, A1, A2, Al⟩ := id A
  obtain ⟨C0, C1, C2, Cl⟩ := id C
  go_wp2_with fail
  refine (D2 _).mono ?_
  rintro e w2 ⟨rfl, hb⟩
  replace B := bthen B (by have := A.lt; omega) hb
  replace A := A.below hb
  replace C := C.below hb
  clear A0 A1 A2 Al C0 C1 C2 Cl
  clear hb
  obtain ⟨A0, A1, A2, Al⟩ := id A
  obtain ⟨C0, C1, C2, Cl⟩ := id C
  go_wp2_with fail
  refine (D3 _ (tab_keep HT.out (hV.symm ▸ B))).mono ?_
  rintro e w3 ⟨rfl, hb⟩
  replace B := bthen B (by have := A.lt; omega) hb
  replace A := A.below hb
  replace C := C.below hb
  clear A0 A1 A2 Al C0 C1 C2 Cl
  clear hb
  have J := At.new w3 K M S
  unfold vb at J
  replace B := B.alloc (Nat.le_of_lt A.lt) (.cells #[.int .i64 K, .int .i64 M, .string S] 23)
  replace A := A.alloc (.cells #[.int .i64 K, .int .i64 M, .string S] 23)
  replace C := C.alloc (.cells #[.int .i64 K, .int .i64 M, .string S] 23)
  obtain ⟨qJ, hqJ⟩ : ∃ q, w3.heap.size = q := ⟨_, rfl⟩
  obtain ⟨A0, A1, A2, Al⟩ := id A
  obtain ⟨C0, C1, C2, Cl⟩ := id C
  obtain ⟨J0, J1, J2, Jl⟩ := id J
  rw [hqJ] at J J0 J1 J2 Jl
  go_wp2_with fail
  try rw [hqJ]
  generalize w3.alloc _ = w4a at *
  refine (D4 _).mono ?_
  rintro e w4 ⟨rfl, hb⟩
  replace B := bthen B (by have := A.lt; omega) hb
  replace A := A.below hb
  replace C := C.below hb
  replace J := J.below hb
  clear A0 A1 A2 Al C0 C1 C2 Cl J0 J1 J2 Jl
  clear hb
  obtain ⟨A0, A1, A2, Al⟩ := id A
  obtain ⟨C0, C1, C2, Cl⟩ := id C
  obtain ⟨J0, J1, J2, Jl⟩ := id J
  go_wp2_with fail
  refine (D5 _).mono ?_
  rintro e w5 ⟨rfl, hb⟩
  replace B := bthen B (by have := A.lt; omega) hb
  replace A := A.below hb
  replace C := C.below hb
  replace J := J.below hb
  clear A0 A1 A2 Al C0 C1 C2 Cl J0 J1 J2 Jl
  clear hb
  have Q := At.new w5 K M S
  unfold vb at Q
  replace B := B.alloc (Nat.le_of_lt A.lt) (.cells #[.int .i64 K, .int .i64 M, .string S] 23)
  replace A := A.alloc (.cells #[.int .i64 K, .int .i64 M, .string S] 23)
  replace C := C.alloc (.cells #[.int .i64 K, .int .i64 M, .string S] 23)
  replace J := J.alloc (.cells #[.int .i64 K, .int .i64 M, .string S] 23)
  obtain ⟨qQ, hqQ⟩ : ∃ q, w5.heap.size = q := ⟨_, rfl⟩
  obtain ⟨A0, A1, A2, Al⟩ := id A
  obtain ⟨C0, C1, C2, Cl⟩ := id C
  obtain ⟨J0, J1, J2, Jl⟩ := id J
  obtain ⟨Q0, Q1, Q2, Ql⟩ := id Q
  rw [hqQ] at Q Q0 Q1 Q2 Ql
  go_wp2_with fail
  try rw [hqQ]
  generalize w5.alloc _ = w6a at *
  refine (D6 _).mono ?_
  rintro e w6 ⟨rfl, hb⟩
  replace B := bthen B (by have := A.lt; omega) hb
  replace A := A.below hb
  replace C := C.below hb
  replace J := J.below hb
  replace Q := Q.below hb
  clear A0 A1 A2 Al C0 C1 C2 Cl J0 J1 J2 Jl Q0 Q1 Q2 Ql
  clear hb
  obtain ⟨A0, A1, A2, Al⟩ := id A
  obtain ⟨C0, C1, C2, Cl⟩ := id C
  obtain ⟨J0, J1, J2, Jl⟩ := id J
  obtain ⟨Q0, Q1, Q2, Ql⟩ := id Q
  go_wp2_with fail
  refine (fixed_any _ (tab_keep HT.out (hV.symm ▸ B))).mono ?_
  rintro e w7 ⟨rfl, hb⟩
  replace B := bthen B (by have := A.lt; omega) hb
  replace A := A.below hb
  replace C := C.below hb
  replace J := J.below hb
  replace Q := Q.below hb
  clear A0 A1 A2 Al C0 C1 C2 Cl J0 J1 J2 Jl Q0 Q1 Q2 Ql
  clear hb
  obtain ⟨A0, A1, A2, Al⟩ := id A
  obtain ⟨C0, C1, C2, Cl⟩ := id C
  obtain ⟨J0, J1, J2, Jl⟩ := id J
  obtain ⟨Q0, Q1, Q2, Ql⟩ := id Q
  go_wp2_with fail
  go_ret
  exact ⟨rfl, hV.symm ▸ B⟩

set_option maxRecDepth 20000 in
set_option maxHeartbeats 1000000 in
theorem pairs_k (ka na : Int) (sa : ByteArray) (kb nb : Int) (sb : ByteArray) (o f K M : Int) (S : ByteArray) (E : Int) (D1 : ∀ w, Calls Tryd.prog 24 #[vl ka na sa, vl kb nb sb] w fun e w' => e = .returned (.tuple #[.bool false, .int .i64 0]) ∧ Below w.heap.size w w') (D2 : ∀ w, Calls Tryd.prog 25 #[vl ka na sa, vl kb nb sb] w fun e w' => e = .returned (.tuple #[.int .i64 o, .int .i64 f]) ∧ Below w.heap.size w w') (D3 : ∀ w, Tab w → Calls Tryd.prog 26 #[vl ka na sa, vl kb nb sb] w fun e w' => e = .returned (.tuple #[vl K M S, .int .i64 E]) ∧ Below w.heap.size w w') (D4 : ∀ w, Calls Tryd.prog 27 #[vl ka na sa, vl kb nb sb] w fun e w' => e = .returned (.tuple #[.int .i64 o, .int .i64 f]) ∧ Below w.heap.size w w') (D5 : ∀ w, Calls Tryd.prog 28 #[vl ka na sa, vl kb nb sb] w fun e w' => e = .returned (.tuple #[vl K M S, .int .i64 E]) ∧ Below w.heap.size w w') (D6 : ∀ w, Calls Tryd.prog 29 #[vl ka na sa, vl kb nb sb] w fun e w' => e = .returned (.int .i64 0) ∧ Below w.heap.size w w') (h : ¬ ka = kb) (w : World) (htab : Tab w) : Calls Tryd.prog 5 #[vl ka na sa, vl kb nb sb] w fun e w' => e = .returned (.bool true) ∧ Below w.heap.size w w' := by
  have HT : Hid _ := htab
  clear htab
  try unfold vl at *
  go_enter Tryd.func5, Tryd.ntmps5
  go_wp2_with fail
  have A := At.new w ka na sa
  unfold vb at A
  replace A := A.alloc (.cells #[.int .i64 kb, .int .i64 nb, .string sb] 23)
  have C := At.new (w.alloc (.cells #[.int .i64 ka, .int .i64 na, .string sa] 23)) kb nb sb
  unfold vb at C
  have B := b2 w (.cells #[.int .i64 ka, .int .i64 na, .string sa] 23) (.cells #[.int .i64 kb, .int .i64 nb, .string sb] 23)
  simp at C
  generalize ((w.alloc (.cells #[.int .i64 ka, .int .i64 na, .string sa] 23)).alloc (.cells #[.int .i64 kb, .int .i64 nb, .string sb] 23)) = w0 at *
  obtain ⟨V, hV⟩ : ∃ V, w.heap.size = V := ⟨_, rfl⟩
  rw [hV] at A C B ⊢
  obtain ⟨A0, A1, A2, Al⟩ := id A
  obtain ⟨C0, C1, C2, Cl⟩ := id C
  refine (D1 _).mono ?_
  rintro e w1 ⟨rfl, hb⟩
  replace B := bthen B (by have := A.lt; omega) hb
  replace A := A.below hb
  replace C := C.below hb
  clear A0 A1 A2 Al C0 C1 C2 Cl
  clear hb
  obtain ⟨A0, A1, A2, Al⟩ := id A
  obtain ⟨C0, C1, C2, Cl⟩ := id C
  go_wp2_with fail
  refine (D2 _).mono ?_
  rintro e w2 ⟨rfl, hb⟩
  replace B := bthen B (by have := A.lt; omega) hb
  replace A := A.below hb
  replace C := C.below hb
  clear A0 A1 A2 Al C0 C1 C2 Cl
  clear hb
  obtain ⟨A0, A1, A2, Al⟩ := id A
  obtain ⟨C0, C1, C2, Cl⟩ := id C
  go_wp2_with fail
  refine (D3 _ (tab_keep HT.out (hV.symm ▸ B))).mono ?_
  rintro e w3 ⟨rfl, hb⟩
  replace B := bthen B (by have := A.lt; omega) hb
  replace A := A.below hb
  replace C := C.below hb
  clear A0 A1 A2 Al C0 C1 C2 Cl
  clear hb
  have J := At.new w3 K M S
  unfold vb at J
  replace B := B.alloc (Nat.le_of_lt A.lt) (.cells #[.int .i64 K, .int .i64 M, .string S] 23)
  replace A := A.alloc (.cells #[.int .i64 K, .int .i64 M, .string S] 23)
  replace C := C.alloc (.cells #[.int .i64 K, .int .i64 M, .string S] 23)
  obtain ⟨qJ, hqJ⟩ : ∃ q, w3.heap.size = q := ⟨_, rfl⟩
  obtain ⟨A0, A1, A2, Al⟩ := id A
  obtain ⟨C0, C1, C2, Cl⟩ := id C
  obtain ⟨J0, J1, J2, Jl⟩ := id J
  rw [hqJ] at J J0 J1 J2 Jl
  go_wp2_with fail
  try rw [hqJ]
  generalize w3.alloc _ = w4a at *
  refine (D4 _).mono ?_
  rintro e w4 ⟨rfl, hb⟩
  replace B := bthen B (by have := A.lt; omega) hb
  replace A := A.below hb
  replace C := C.below hb
  replace J := J.below hb
  clear A0 A1 A2 Al C0 C1 C2 Cl J0 J1 J2 Jl
  clear hb
  obtain ⟨A0, A1, A2, Al⟩ := id A
  obtain ⟨C0, C1, C2, Cl⟩ := id C
  obtain ⟨J0, J1, J2, Jl⟩ := id J
  go_wp2_with fail
  refine (D5 _).mono ?_
  rintro e w5 ⟨rfl, hb⟩
  replace B := bthen B (by have := A.lt; omega) hb
  replace A := A.below hb
  replace C := C.below hb
  replace J := J.below hb
  clear A0 A1 A2 Al C0 C1 C2 Cl J0 J1 J2 Jl
  clear hb
  have Q := At.new w5 K M S
  unfold vb at Q
  replace B := B.alloc (Nat.le_of_lt A.lt) (.cells #[.int .i64 K, .int .i64 M, .string S] 23)
  replace A := A.alloc (.cells #[.int .i64 K, .int .i64 M, .string S] 23)
  replace C := C.alloc (.cells #[.int .i64 K, .int .i64 M, .string S] 23)
  replace J := J.alloc (.cells #[.int .i64 K, .int .i64 M, .string S] 23)
  obtain ⟨qQ, hqQ⟩ : ∃ q, w5.heap.size = q := ⟨_, rfl⟩
  obtain ⟨A0, A1, A2, Al⟩ := id A
  obtain ⟨C0, C1, C2, Cl⟩ := id C
  obtain ⟨J0, J1, J2, Jl⟩ := id J
  obtain ⟨Q0, Q1, Q2, Ql⟩ := id Q
  rw [hqQ] at Q Q0 Q1 Q2 Ql
  go_wp2_with fail
  try rw [hqQ]
  generalize w5.alloc _ = w6a at *
  refine (D6 _).mono ?_
  rintro e w6 ⟨rfl, hb⟩
  replace B := bthen B (by have := A.lt; omega) hb
  replace A := A.below hb
  replace C := C.below hb
  replace J := J.below hb
  replace Q := Q.below hb
  clear A0 A1 A2 Al C0 C1 C2 Cl J0 J1 J2 Jl Q0 Q1 Q2 Ql
  clear hb
  obtain ⟨A0, A1, A2, Al⟩ := id A
  obtain ⟨C0, C1, C2, Cl⟩ := id C
  obtain ⟨J0, J1, J2, Jl⟩ := id J
  obtain ⟨Q0, Q1, Q2, Ql⟩ := id Q
  go_wp2_with fail
  refine (fixed_any _ (tab_keep HT.out (hV.symm ▸ B))).mono ?_
  rintro e w7 ⟨rfl, hb⟩
  replace B := bthen B (by have := A.lt; omega) hb
  replace A := A.below hb
  replace C := C.below hb
  replace J := J.below hb
  replace Q := Q.below hb
  clear A0 A1 A2 Al C0 C1 C2 Cl J0 J1 J2 Jl Q0 Q1 Q2 Ql
  clear hb
  obtain ⟨A0, A1, A2, Al⟩ := id A
  obtain ⟨C0, C1, C2, Cl⟩ := id C
  obtain ⟨J0, J1, J2, Jl⟩ := id J
  obtain ⟨Q0, Q1, Q2, Ql⟩ := id Q
  go_wp2_with fail
  go_ret
  exact ⟨rfl, hV.symm ▸ B⟩

set_option maxRecDepth 20000 in
set_option maxHeartbeats 1000000 in
theorem pairs_n (ka na : Int) (sa : ByteArray) (nb : Int) (sb : ByteArray) (o f K M : Int) (S : ByteArray) (E : Int) (D1 : ∀ w, Calls Tryd.prog 24 #[vl ka na sa, vl ka nb sb] w fun e w' => e = .returned (.tuple #[.bool false, .int .i64 0]) ∧ Below w.heap.size w w') (D2 : ∀ w, Calls Tryd.prog 25 #[vl ka na sa, vl ka nb sb] w fun e w' => e = .returned (.tuple #[.int .i64 o, .int .i64 f]) ∧ Below w.heap.size w w') (D3 : ∀ w, Tab w → Calls Tryd.prog 26 #[vl ka na sa, vl ka nb sb] w fun e w' => e = .returned (.tuple #[vl K M S, .int .i64 E]) ∧ Below w.heap.size w w') (D4 : ∀ w, Calls Tryd.prog 27 #[vl ka na sa, vl ka nb sb] w fun e w' => e = .returned (.tuple #[.int .i64 o, .int .i64 f]) ∧ Below w.heap.size w w') (D5 : ∀ w, Calls Tryd.prog 28 #[vl ka na sa, vl ka nb sb] w fun e w' => e = .returned (.tuple #[vl K M S, .int .i64 E]) ∧ Below w.heap.size w w') (D6 : ∀ w, Calls Tryd.prog 29 #[vl ka na sa, vl ka nb sb] w fun e w' => e = .returned (.int .i64 0) ∧ Below w.heap.size w w') (h : ¬ na = nb) (w : World) (htab : Tab w) : Calls Tryd.prog 5 #[vl ka na sa, vl ka nb sb] w fun e w' => e = .returned (.bool true) ∧ Below w.heap.size w w' := by
  have HT : Hid _ := htab
  clear htab
  try unfold vl at *
  go_enter Tryd.func5, Tryd.ntmps5
  go_wp2_with fail
  have A := At.new w ka na sa
  unfold vb at A
  replace A := A.alloc (.cells #[.int .i64 ka, .int .i64 nb, .string sb] 23)
  have C := At.new (w.alloc (.cells #[.int .i64 ka, .int .i64 na, .string sa] 23)) ka nb sb
  unfold vb at C
  have B := b2 w (.cells #[.int .i64 ka, .int .i64 na, .string sa] 23) (.cells #[.int .i64 ka, .int .i64 nb, .string sb] 23)
  simp at C
  generalize ((w.alloc (.cells #[.int .i64 ka, .int .i64 na, .string sa] 23)).alloc (.cells #[.int .i64 ka, .int .i64 nb, .string sb] 23)) = w0 at *
  obtain ⟨V, hV⟩ : ∃ V, w.heap.size = V := ⟨_, rfl⟩
  rw [hV] at A C B ⊢
  obtain ⟨A0, A1, A2, Al⟩ := id A
  obtain ⟨C0, C1, C2, Cl⟩ := id C
  refine (D1 _).mono ?_
  rintro e w1 ⟨rfl, hb⟩
  replace B := bthen B (by have := A.lt; omega) hb
  replace A := A.below hb
  replace C := C.below hb
  clear A0 A1 A2 Al C0 C1 C2 Cl
  clear hb
  obtain ⟨A0, A1, A2, Al⟩ := id A
  obtain ⟨C0, C1, C2, Cl⟩ := id C
  go_wp2_with fail
  refine (D2 _).mono ?_
  rintro e w2 ⟨rfl, hb⟩
  replace B := bthen B (by have := A.lt; omega) hb
  replace A := A.below hb
  replace C := C.below hb
  clear A0 A1 A2 Al C0 C1 C2 Cl
  clear hb
  obtain ⟨A0, A1, A2, Al⟩ := id A
  obtain ⟨C0, C1, C2, Cl⟩ := id C
  go_wp2_with fail
  refine (D3 _ (tab_keep HT.out (hV.symm ▸ B))).mono ?_
  rintro e w3 ⟨rfl, hb⟩
  replace B := bthen B (by have := A.lt; omega) hb
  replace A := A.below hb
  replace C := C.below hb
  clear A0 A1 A2 Al C0 C1 C2 Cl
  clear hb
  have J := At.new w3 K M S
  unfold vb at J
  replace B := B.alloc (Nat.le_of_lt A.lt) (.cells #[.int .i64 K, .int .i64 M, .string S] 23)
  replace A := A.alloc (.cells #[.int .i64 K, .int .i64 M, .string S] 23)
  replace C := C.alloc (.cells #[.int .i64 K, .int .i64 M, .string S] 23)
  obtain ⟨qJ, hqJ⟩ : ∃ q, w3.heap.size = q := ⟨_, rfl⟩
  obtain ⟨A0, A1, A2, Al⟩ := id A
  obtain ⟨C0, C1, C2, Cl⟩ := id C
  obtain ⟨J0, J1, J2, Jl⟩ := id J
  rw [hqJ] at J J0 J1 J2 Jl
  go_wp2_with fail
  try rw [hqJ]
  generalize w3.alloc _ = w4a at *
  refine (D4 _).mono ?_
  rintro e w4 ⟨rfl, hb⟩
  replace B := bthen B (by have := A.lt; omega) hb
  replace A := A.below hb
  replace C := C.below hb
  replace J := J.below hb
  clear A0 A1 A2 Al C0 C1 C2 Cl J0 J1 J2 Jl
  clear hb
  obtain ⟨A0, A1, A2, Al⟩ := id A
  obtain ⟨C0, C1, C2, Cl⟩ := id C
  obtain ⟨J0, J1, J2, Jl⟩ := id J
  go_wp2_with fail
  refine (D5 _).mono ?_
  rintro e w5 ⟨rfl, hb⟩
  replace B := bthen B (by have := A.lt; omega) hb
  replace A := A.below hb
  replace C := C.below hb
  replace J := J.below hb
  clear A0 A1 A2 Al C0 C1 C2 Cl J0 J1 J2 Jl
  clear hb
  have Q := At.new w5 K M S
  unfold vb at Q
  replace B := B.alloc (Nat.le_of_lt A.lt) (.cells #[.int .i64 K, .int .i64 M, .string S] 23)
  replace A := A.alloc (.cells #[.int .i64 K, .int .i64 M, .string S] 23)
  replace C := C.alloc (.cells #[.int .i64 K, .int .i64 M, .string S] 23)
  replace J := J.alloc (.cells #[.int .i64 K, .int .i64 M, .string S] 23)
  obtain ⟨qQ, hqQ⟩ : ∃ q, w5.heap.size = q := ⟨_, rfl⟩
  obtain ⟨A0, A1, A2, Al⟩ := id A
  obtain ⟨C0, C1, C2, Cl⟩ := id C
  obtain ⟨J0, J1, J2, Jl⟩ := id J
  obtain ⟨Q0, Q1, Q2, Ql⟩ := id Q
  rw [hqQ] at Q Q0 Q1 Q2 Ql
  go_wp2_with fail
  try rw [hqQ]
  generalize w5.alloc _ = w6a at *
  refine (D6 _).mono ?_
  rintro e w6 ⟨rfl, hb⟩
  replace B := bthen B (by have := A.lt; omega) hb
  replace A := A.below hb
  replace C := C.below hb
  replace J := J.below hb
  replace Q := Q.below hb
  clear A0 A1 A2 Al C0 C1 C2 Cl J0 J1 J2 Jl Q0 Q1 Q2 Ql
  clear hb
  obtain ⟨A0, A1, A2, Al⟩ := id A
  obtain ⟨C0, C1, C2, Cl⟩ := id C
  obtain ⟨J0, J1, J2, Jl⟩ := id J
  obtain ⟨Q0, Q1, Q2, Ql⟩ := id Q
  go_wp2_with fail
  refine (fixed_any _ (tab_keep HT.out (hV.symm ▸ B))).mono ?_
  rintro e w7 ⟨rfl, hb⟩
  replace B := bthen B (by have := A.lt; omega) hb
  replace A := A.below hb
  replace C := C.below hb
  replace J := J.below hb
  replace Q := Q.below hb
  clear A0 A1 A2 Al C0 C1 C2 Cl J0 J1 J2 Jl Q0 Q1 Q2 Ql
  clear hb
  obtain ⟨A0, A1, A2, Al⟩ := id A
  obtain ⟨C0, C1, C2, Cl⟩ := id C
  obtain ⟨J0, J1, J2, Jl⟩ := id J
  obtain ⟨Q0, Q1, Q2, Ql⟩ := id Q
  go_wp2_with fail
  go_ret
  exact ⟨rfl, hV.symm ▸ B⟩

set_option maxRecDepth 20000 in
set_option maxHeartbeats 1000000 in
theorem pairs_s (ka na : Int) (sa : ByteArray) (sb : ByteArray) (o f K M : Int) (S : ByteArray) (E : Int) (D1 : ∀ w, Calls Tryd.prog 24 #[vl ka na sa, vl ka na sb] w fun e w' => e = .returned (.tuple #[.bool false, .int .i64 0]) ∧ Below w.heap.size w w') (D2 : ∀ w, Calls Tryd.prog 25 #[vl ka na sa, vl ka na sb] w fun e w' => e = .returned (.tuple #[.int .i64 o, .int .i64 f]) ∧ Below w.heap.size w w') (D3 : ∀ w, Tab w → Calls Tryd.prog 26 #[vl ka na sa, vl ka na sb] w fun e w' => e = .returned (.tuple #[vl K M S, .int .i64 E]) ∧ Below w.heap.size w w') (D4 : ∀ w, Calls Tryd.prog 27 #[vl ka na sa, vl ka na sb] w fun e w' => e = .returned (.tuple #[.int .i64 o, .int .i64 f]) ∧ Below w.heap.size w w') (D5 : ∀ w, Calls Tryd.prog 28 #[vl ka na sa, vl ka na sb] w fun e w' => e = .returned (.tuple #[vl K M S, .int .i64 E]) ∧ Below w.heap.size w w') (D6 : ∀ w, Calls Tryd.prog 29 #[vl ka na sa, vl ka na sb] w fun e w' => e = .returned (.int .i64 0) ∧ Below w.heap.size w w') (h : ¬ sa = sb) (w : World) (htab : Tab w) : Calls Tryd.prog 5 #[vl ka na sa, vl ka na sb] w fun e w' => e = .returned (.bool true) ∧ Below w.heap.size w w' := by
  have h2 : ¬ sa.toList = sb.toList := fun e => h (toList_inj e)
  have h3 : (sa.toList == sb.toList) = false := by simpa using h2
  have HT : Hid _ := htab
  clear htab
  try unfold vl at *
  go_enter Tryd.func5, Tryd.ntmps5
  go_wp2_with fail
  have A := At.new w ka na sa
  unfold vb at A
  replace A := A.alloc (.cells #[.int .i64 ka, .int .i64 na, .string sb] 23)
  have C := At.new (w.alloc (.cells #[.int .i64 ka, .int .i64 na, .string sa] 23)) ka na sb
  unfold vb at C
  have B := b2 w (.cells #[.int .i64 ka, .int .i64 na, .string sa] 23) (.cells #[.int .i64 ka, .int .i64 na, .string sb] 23)
  simp at C
  generalize ((w.alloc (.cells #[.int .i64 ka, .int .i64 na, .string sa] 23)).alloc (.cells #[.int .i64 ka, .int .i64 na, .string sb] 23)) = w0 at *
  obtain ⟨V, hV⟩ : ∃ V, w.heap.size = V := ⟨_, rfl⟩
  rw [hV] at A C B ⊢
  obtain ⟨A0, A1, A2, Al⟩ := id A
  obtain ⟨C0, C1, C2, Cl⟩ := id C
  refine (D1 _).mono ?_
  rintro e w1 ⟨rfl, hb⟩
  replace B := bthen B (by have := A.lt; omega) hb
  replace A := A.below hb
  replace C := C.below hb
  clear A0 A1 A2 Al C0 C1 C2 Cl
  clear hb
  obtain ⟨A0, A1, A2, Al⟩ := id A
  obtain ⟨C0, C1, C2, Cl⟩ := id C
  go_wp2_with fail
  refine (D2 _).mono ?_
  rintro e w2 ⟨rfl, hb⟩
  replace B := bthen B (by have := A.lt; omega) hb
  replace A := A.below hb
  replace C := C.below hb
  clear A0 A1 A2 Al C0 C1 C2 Cl
  clear hb
  obtain ⟨A0, A1, A2, Al⟩ := id A
  obtain ⟨C0, C1, C2, Cl⟩ := id C
  go_wp2_with fail
  refine (D3 _ (tab_keep HT.out (hV.symm ▸ B))).mono ?_
  rintro e w3 ⟨rfl, hb⟩
  replace B := bthen B (by have := A.lt; omega) hb
  replace A := A.below hb
  replace C := C.below hb
  clear A0 A1 A2 Al C0 C1 C2 Cl
  clear hb
  have J := At.new w3 K M S
  unfold vb at J
  replace B := B.alloc (Nat.le_of_lt A.lt) (.cells #[.int .i64 K, .int .i64 M, .string S] 23)
  replace A := A.alloc (.cells #[.int .i64 K, .int .i64 M, .string S] 23)
  replace C := C.alloc (.cells #[.int .i64 K, .int .i64 M, .string S] 23)
  obtain ⟨qJ, hqJ⟩ : ∃ q, w3.heap.size = q := ⟨_, rfl⟩
  obtain ⟨A0, A1, A2, Al⟩ := id A
  obtain ⟨C0, C1, C2, Cl⟩ := id C
  obtain ⟨J0, J1, J2, Jl⟩ := id J
  rw [hqJ] at J J0 J1 J2 Jl
  go_wp2_with fail
  try rw [hqJ]
  generalize w3.alloc _ = w4a at *
  refine (D4 _).mono ?_
  rintro e w4 ⟨rfl, hb⟩
  replace B := bthen B (by have := A.lt; omega) hb
  replace A := A.below hb
  replace C := C.below hb
  replace J := J.below hb
  clear A0 A1 A2 Al C0 C1 C2 Cl J0 J1 J2 Jl
  clear hb
  obtain ⟨A0, A1, A2, Al⟩ := id A
  obtain ⟨C0, C1, C2, Cl⟩ := id C
  obtain ⟨J0, J1, J2, Jl⟩ := id J
  go_wp2_with fail
  refine (D5 _).mono ?_
  rintro e w5 ⟨rfl, hb⟩
  replace B := bthen B (by have := A.lt; omega) hb
  replace A := A.below hb
  replace C := C.below hb
  replace J := J.below hb
  clear A0 A1 A2 Al C0 C1 C2 Cl J0 J1 J2 Jl
  clear hb
  have Q := At.new w5 K M S
  unfold vb at Q
  replace B := B.alloc (Nat.le_of_lt A.lt) (.cells #[.int .i64 K, .int .i64 M, .string S] 23)
  replace A := A.alloc (.cells #[.int .i64 K, .int .i64 M, .string S] 23)
  replace C := C.alloc (.cells #[.int .i64 K, .int .i64 M, .string S] 23)
  replace J := J.alloc (.cells #[.int .i64 K, .int .i64 M, .string S] 23)
  obtain ⟨qQ, hqQ⟩ : ∃ q, w5.heap.size = q := ⟨_, rfl⟩
  obtain ⟨A0, A1, A2, Al⟩ := id A
  obtain ⟨C0, C1, C2, Cl⟩ := id C
  obtain ⟨J0, J1, J2, Jl⟩ := id J
  obtain ⟨Q0, Q1, Q2, Ql⟩ := id Q
  rw [hqQ] at Q Q0 Q1 Q2 Ql
  go_wp2_with fail
  try rw [hqQ]
  generalize w5.alloc _ = w6a at *
  refine (D6 _).mono ?_
  rintro e w6 ⟨rfl, hb⟩
  replace B := bthen B (by have := A.lt; omega) hb
  replace A := A.below hb
  replace C := C.below hb
  replace J := J.below hb
  replace Q := Q.below hb
  clear A0 A1 A2 Al C0 C1 C2 Cl J0 J1 J2 Jl Q0 Q1 Q2 Ql
  clear hb
  obtain ⟨A0, A1, A2, Al⟩ := id A
  obtain ⟨C0, C1, C2, Cl⟩ := id C
  obtain ⟨J0, J1, J2, Jl⟩ := id J
  obtain ⟨Q0, Q1, Q2, Ql⟩ := id Q
  go_wp2_with fail
  refine (fixed_any _ (tab_keep HT.out (hV.symm ▸ B))).mono ?_
  rintro e w7 ⟨rfl, hb⟩
  replace B := bthen B (by have := A.lt; omega) hb
  replace A := A.below hb
  replace C := C.below hb
  replace J := J.below hb
  replace Q := Q.below hb
  clear A0 A1 A2 Al C0 C1 C2 Cl J0 J1 J2 Jl Q0 Q1 Q2 Ql
  clear hb
  obtain ⟨A0, A1, A2, Al⟩ := id A
  obtain ⟨C0, C1, C2, Cl⟩ := id C
  obtain ⟨J0, J1, J2, Jl⟩ := id J
  obtain ⟨Q0, Q1, Q2, Ql⟩ := id Q
  go_wp2_with fail
  go_ret
  exact ⟨rfl, hV.symm ▸ B⟩


end Go.Proofs.YtimmoecjfkacpaaDoor
