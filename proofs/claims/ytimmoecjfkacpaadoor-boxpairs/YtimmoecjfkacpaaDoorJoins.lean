/- The walk of the law BoxJoins. -/
import Derived.Test.YtimmoecjfkacpaaDoorAs
namespace Go.Proofs.YtimmoecjfkacpaaDoor
open Go.RowKit

/-- What Join of a value in form and another value answers. -/
theorem join_c (b : Bx) (hb : b.ok) (k n : Int) (s : ByteArray) (h0 : -9223372036854775808 ≤ n) (h1 : n ≤ 9223372036854775807) (hbb : -9223372036854775808 ≤ b.num ∧ b.num ≤ 9223372036854775807) :
    ∃ (K : Int) (S : ByteArray) (E : Int), (∀ w, Tab w → Calls Tryd.prog 26 #[b.val, vl k n s] w fun e w' => e = .returned (.tuple #[vl K 0 S, .int .i64 E]) ∧ Below w.heap.size w w') ∧
      (E ≠ 0 ∨ (E = 0 ∧ b.jn = true ∧ ∃ c : Bx, c.ok ∧ c.jn = true ∧ k = c.kind ∧ n = c.num ∧ s = c.txt ∧ b.shw.size + c.shw.size ≤ 10000 ∧ K = 3 ∧ S = b.shw ++ c.shw)) := by
  cases hf : inF k n s
  · exact ⟨0, ⟨#[]⟩, 2, fun w _ => join_bad b.kind b.num b.txt k n s hbb.1 hbb.2 (by rw [hf, Bool.and_false]) w, Or.inl (by omega)⟩
  · obtain ⟨c, hc, rfl, rfl, rfl⟩ := form_of k n s h0 h1 hf
    cases hj : (b.jn && c.jn)
    · exact ⟨0, ⟨#[]⟩, 8, fun w _ => join_not b c hb hc hj w, Or.inl (by omega)⟩
    · have hj2 : b.jn = true ∧ c.jn = true := by simpa using hj
      by_cases hs : b.shw.size + c.shw.size ≤ 10000
      · exact ⟨3, _, 0, fun w ht => join_fit b c hb hc hj2.1 hj2.2 hs w ht, Or.inr ⟨rfl, hj2.1, c, hc, hj2.2, rfl, rfl, rfl, hs, rfl, rfl⟩⟩
      · exact ⟨0, ⟨#[]⟩, 14, fun w ht => join_big b c hb hc hj2.1 hj2.2 (by omega) w ht, Or.inl (by omega)⟩
theorem join_3 (a b c : Bx) (ha : a.ok) (hc : c.ok) (h1 : a.jn = true) (h2 : c.jn = true) (hab : a.shw.size + b.shw.size ≤ 10000) (hbc : b.shw.size + c.shw.size ≤ 10000) :
    ∃ (K : Int) (S : ByteArray) (E : Int), (∀ w, Tab w → Calls Tryd.prog 26 #[vl 3 0 (a.shw ++ b.shw), c.val] w fun e w' => e = .returned (.tuple #[vl K 0 S, .int .i64 E]) ∧ Below w.heap.size w w') ∧
      (∀ w, Tab w → Calls Tryd.prog 26 #[a.val, vl 3 0 (b.shw ++ c.shw)] w fun e w' => e = .returned (.tuple #[vl K 0 S, .int .i64 E]) ∧ Below w.heap.size w w') := by
  have ok1 : (Bx.str (a.shw ++ b.shw)).ok := by show ByteArray.size _ ≤ 10000; rw [ByteArray.size_append]; exact hab
  have ok2 : (Bx.str (b.shw ++ c.shw)).ok := by show ByteArray.size _ ≤ 10000; rw [ByteArray.size_append]; exact hbc
  have s1 : (Bx.str (a.shw ++ b.shw)).shw.size = a.shw.size + b.shw.size := ByteArray.size_append
  have s2 : (Bx.str (b.shw ++ c.shw)).shw.size = b.shw.size + c.shw.size := ByteArray.size_append
  have j1 : (Bx.str (a.shw ++ b.shw)).jn = true := by simp [Bx.jn, Bx.kind]
  have j2 : (Bx.str (b.shw ++ c.shw)).jn = true := by simp [Bx.jn, Bx.kind]
  by_cases hs : a.shw.size + b.shw.size + c.shw.size ≤ 10000
  · refine ⟨3, a.shw ++ b.shw ++ c.shw, 0, fun w ht => join_fit (.str (a.shw ++ b.shw)) c ok1 hc j1 h2 (by omega) w ht, fun w ht => ?_⟩
    have := join_fit a (.str (b.shw ++ c.shw)) ha ok2 h1 j2 (by omega) w ht
    have e : a.shw ++ (Bx.str (b.shw ++ c.shw)).shw = a.shw ++ b.shw ++ c.shw := (ByteArray.append_assoc).symm
    rw [e] at this
    exact this
  · exact ⟨0, ⟨#[]⟩, 14, fun w ht => join_big (.str (a.shw ++ b.shw)) c ok1 hc j1 h2 (by omega) w ht, fun w ht => join_big a (.str (b.shw ++ c.shw)) ha ok2 h1 j2 (by omega) w ht⟩

set_option maxRecDepth 20000 in
set_option maxHeartbeats 1000000 in
theorem joins_r2 (ka na : Int) (sa : ByteArray) (kb nb : Int) (sb : ByteArray) (kc nc : Int) (sc : ByteArray) (D1 : ∀ w, Tab w → Calls Tryd.prog 26 #[vl ka na sa, vl kb nb sb] w fun e w' => e = .returned (.tuple #[zv, .int .i64 2]) ∧ Below w.heap.size w w') (D2 : ∀ w, Calls Tryd.prog 29 #[vl ka na sa, vl kb nb sb] w fun e w' => e = .returned (.int .i64 2) ∧ Below w.heap.size w w') (w : World) (htab : Tab w) : Calls Tryd.prog 7 #[vl ka na sa, vl kb nb sb, vl kc nc sc] w fun e w' => e = .returned (.bool true) ∧ Below w.heap.size w w' := by
  have HT : Hid _ := htab
  clear htab
  try unfold zv at *
  try unfold vl at *
  go_enter Tryd.func7, Tryd.ntmps7
  go_wp2_with fail
  have A := At.new w ka na sa
  unfold vb at A
  replace A := A.alloc (.cells #[.int .i64 kb, .int .i64 nb, .string sb] 23)
  replace A := A.alloc (.cells #[.int .i64 kc, .int .i64 nc, .string sc] 23)
  have C := At.new (w.alloc (.cells #[.int .i64 ka, .int .i64 na, .string sa] 23)) kb nb sb
  unfold vb at C
  replace C := C.alloc (.cells #[.int .i64 kc, .int .i64 nc, .string sc] 23)
  have M := At.new ((w.alloc (.cells #[.int .i64 ka, .int .i64 na, .string sa] 23)).alloc (.cells #[.int .i64 kb, .int .i64 nb, .string sb] 23)) kc nc sc
  unfold vb at M
  have B := b3 w (.cells #[.int .i64 ka, .int .i64 na, .string sa] 23) (.cells #[.int .i64 kb, .int .i64 nb, .string sb] 23) (.cells #[.int .i64 kc, .int .i64 nc, .string sc] 23)
  simp at C M
  generalize (((w.alloc (.cells #[.int .i64 ka, .int .i64 na, .string sa] 23)).alloc (.cells #[.int .i64 kb, .int .i64 nb, .string sb] 23)).alloc (.cells #[.int .i64 kc, .int .i64 nc, .string sc] 23)) = w0 at *
  obtain ⟨V, hV⟩ : ∃ V, w.heap.size = V := ⟨_, rfl⟩
  rw [hV] at A C M B ⊢
  obtain ⟨A0, A1, A2, Al⟩ := id A
  obtain ⟨C0, C1, C2, Cl⟩ := id C
  obtain ⟨M0, M1, M2, Ml⟩ := id M
  refine (fixed_any _ (tab_keep HT.out (hV.symm ▸ B))).mono ?_
  rintro e w1 ⟨rfl, hb⟩
  replace B := bthen B (by have := A.lt; omega) hb
  replace A := A.below hb
  replace C := C.below hb
  replace M := M.below hb
  clear A0 A1 A2 Al C0 C1 C2 Cl M0 M1 M2 Ml
  clear hb
  obtain ⟨A0, A1, A2, Al⟩ := id A
  obtain ⟨C0, C1, C2, Cl⟩ := id C
  obtain ⟨M0, M1, M2, Ml⟩ := id M
  go_wp2_with fail
  refine (D1 _ (tab_keep HT.out (hV.symm ▸ B))).mono ?_
  rintro e w2 ⟨rfl, hb⟩
  replace B := bthen B (by have := A.lt; omega) hb
  replace A := A.below hb
  replace C := C.below hb
  replace M := M.below hb
  clear A0 A1 A2 Al C0 C1 C2 Cl M0 M1 M2 Ml
  clear hb
  have R := At.new w2 0 0 ⟨#[]⟩
  unfold vb at R
  replace B := B.alloc (Nat.le_of_lt A.lt) (.cells #[.int .i64 0, .int .i64 0, .string ⟨#[]⟩] 23)
  replace A := A.alloc (.cells #[.int .i64 0, .int .i64 0, .string ⟨#[]⟩] 23)
  replace C := C.alloc (.cells #[.int .i64 0, .int .i64 0, .string ⟨#[]⟩] 23)
  replace M := M.alloc (.cells #[.int .i64 0, .int .i64 0, .string ⟨#[]⟩] 23)
  obtain ⟨qR, hqR⟩ : ∃ q, w2.heap.size = q := ⟨_, rfl⟩
  obtain ⟨A0, A1, A2, Al⟩ := id A
  obtain ⟨C0, C1, C2, Cl⟩ := id C
  obtain ⟨M0, M1, M2, Ml⟩ := id M
  obtain ⟨R0, R1, R2, Rl⟩ := id R
  rw [hqR] at R R0 R1 R2 Rl
  go_wp2_with fail
  try rw [hqR]
  generalize w2.alloc _ = w3a at *
  refine (D2 _).mono ?_
  rintro e w3 ⟨rfl, hb⟩
  replace B := bthen B (by have := A.lt; omega) hb
  replace A := A.below hb
  replace C := C.below hb
  replace M := M.below hb
  replace R := R.below hb
  clear A0 A1 A2 Al C0 C1 C2 Cl M0 M1 M2 Ml R0 R1 R2 Rl
  clear hb
  obtain ⟨A0, A1, A2, Al⟩ := id A
  obtain ⟨C0, C1, C2, Cl⟩ := id C
  obtain ⟨M0, M1, M2, Ml⟩ := id M
  obtain ⟨R0, R1, R2, Rl⟩ := id R
  go_wp2_with fail
  go_ret
  exact ⟨rfl, hV.symm ▸ B⟩

set_option maxRecDepth 20000 in
set_option maxHeartbeats 1000000 in
theorem joins_r8 (ka na : Int) (sa : ByteArray) (kb nb : Int) (sb : ByteArray) (kc nc : Int) (sc : ByteArray) (D1 : ∀ w, Tab w → Calls Tryd.prog 26 #[vl ka na sa, vl kb nb sb] w fun e w' => e = .returned (.tuple #[zv, .int .i64 8]) ∧ Below w.heap.size w w') (D2 : ∀ w, Calls Tryd.prog 29 #[vl ka na sa, vl kb nb sb] w fun e w' => e = .returned (.int .i64 0) ∧ Below w.heap.size w w') (h2 : ¬ ka = 2) (h3 : ¬ ka = 3) (w : World) (htab : Tab w) : Calls Tryd.prog 7 #[vl ka na sa, vl kb nb sb, vl kc nc sc] w fun e w' => e = .returned (.bool true) ∧ Below w.heap.size w w' := by
  have HT : Hid _ := htab
  clear htab
  try unfold zv at *
  try unfold vl at *
  go_enter Tryd.func7, Tryd.ntmps7
  go_wp2_with fail
  have A := At.new w ka na sa
  unfold vb at A
  replace A := A.alloc (.cells #[.int .i64 kb, .int .i64 nb, .string sb] 23)
  replace A := A.alloc (.cells #[.int .i64 kc, .int .i64 nc, .string sc] 23)
  have C := At.new (w.alloc (.cells #[.int .i64 ka, .int .i64 na, .string sa] 23)) kb nb sb
  unfold vb at C
  replace C := C.alloc (.cells #[.int .i64 kc, .int .i64 nc, .string sc] 23)
  have M := At.new ((w.alloc (.cells #[.int .i64 ka, .int .i64 na, .string sa] 23)).alloc (.cells #[.int .i64 kb, .int .i64 nb, .string sb] 23)) kc nc sc
  unfold vb at M
  have B := b3 w (.cells #[.int .i64 ka, .int .i64 na, .string sa] 23) (.cells #[.int .i64 kb, .int .i64 nb, .string sb] 23) (.cells #[.int .i64 kc, .int .i64 nc, .string sc] 23)
  simp at C M
  generalize (((w.alloc (.cells #[.int .i64 ka, .int .i64 na, .string sa] 23)).alloc (.cells #[.int .i64 kb, .int .i64 nb, .string sb] 23)).alloc (.cells #[.int .i64 kc, .int .i64 nc, .string sc] 23)) = w0 at *
  obtain ⟨V, hV⟩ : ∃ V, w.heap.size = V := ⟨_, rfl⟩
  rw [hV] at A C M B ⊢
  obtain ⟨A0, A1, A2, Al⟩ := id A
  obtain ⟨C0, C1, C2, Cl⟩ := id C
  obtain ⟨M0, M1, M2, Ml⟩ := id M
  refine (fixed_any _ (tab_keep HT.out (hV.symm ▸ B))).mono ?_
  rintro e w1 ⟨rfl, hb⟩
  replace B := bthen B (by have := A.lt; omega) hb
  replace A := A.below hb
  replace C := C.below hb
  replace M := M.below hb
  clear A0 A1 A2 Al C0 C1 C2 Cl M0 M1 M2 Ml
  clear hb
  obtain ⟨A0, A1, A2, Al⟩ := id A
  obtain ⟨C0, C1, C2, Cl⟩ := id C
  obtain ⟨M0, M1, M2, Ml⟩ := id M
  go_wp2_with fail
  refine (D1 _ (tab_keep HT.out (hV.symm ▸ B))).mono ?_
  rintro e w2 ⟨rfl, hb⟩
  replace B := bthen B (by have := A.lt; omega) hb
  replace A := A.below hb
  replace C := C.below hb
  replace M := M.below hb
  clear A0 A1 A2 Al C0 C1 C2 Cl M0 M1 M2 Ml
  clear hb
  have R := At.new w2 0 0 ⟨#[]⟩
  unfold vb at R
  replace B := B.alloc (Nat.le_of_lt A.lt) (.cells #[.int .i64 0, .int .i64 0, .string ⟨#[]⟩] 23)
  replace A := A.alloc (.cells #[.int .i64 0, .int .i64 0, .string ⟨#[]⟩] 23)
  replace C := C.alloc (.cells #[.int .i64 0, .int .i64 0, .string ⟨#[]⟩] 23)
  replace M := M.alloc (.cells #[.int .i64 0, .int .i64 0, .string ⟨#[]⟩] 23)
  obtain ⟨qR, hqR⟩ : ∃ q, w2.heap.size = q := ⟨_, rfl⟩
  obtain ⟨A0, A1, A2, Al⟩ := id A
  obtain ⟨C0, C1, C2, Cl⟩ := id C
  obtain ⟨M0, M1, M2, Ml⟩ := id M
  obtain ⟨R0, R1, R2, Rl⟩ := id R
  rw [hqR] at R R0 R1 R2 Rl
  go_wp2_with fail
  try rw [hqR]
  generalize w2.alloc _ = w3a at *
  refine (D2 _).mono ?_
  rintro e w3 ⟨rfl, hb⟩
  replace B := bthen B (by have := A.lt; omega) hb
  replace A := A.below hb
  replace C := C.below hb
  replace M := M.below hb
  replace R := R.below hb
  clear A0 A1 A2 Al C0 C1 C2 Cl M0 M1 M2 Ml R0 R1 R2 Rl
  clear hb
  obtain ⟨A0, A1, A2, Al⟩ := id A
  obtain ⟨C0, C1, C2, Cl⟩ := id C
  obtain ⟨M0, M1, M2, Ml⟩ := id M
  obtain ⟨R0, R1, R2, Rl⟩ := id R
  go_wp2_with fail
  go_ret
  exact ⟨rfl, hV.symm ▸ B⟩

set_option maxRecDepth 20000 in
set_option maxHeartbeats 1000000 in
theorem joins_s82 (ka na : Int) (sa : ByteArray) (kb nb : Int) (sb : ByteArray) (kc nc : Int) (sc : ByteArray) (D1 : ∀ w, Tab w → Calls Tryd.prog 26 #[vl 2 na sa, vl kb nb sb] w fun e w' => e = .returned (.tuple #[zv, .int .i64 8]) ∧ Below w.heap.size w w') (D2 : ∀ w, Calls Tryd.prog 29 #[vl 2 na sa, vl kb nb sb] w fun e w' => e = .returned (.int .i64 0) ∧ Below w.heap.size w w') (h2 : ¬ kb = 2) (h3 : ¬ kb = 3) (hk : ka = 2) (w : World) (htab : Tab w) : Calls Tryd.prog 7 #[vl ka na sa, vl kb nb sb, vl kc nc sc] w fun e w' => e = .returned (.bool true) ∧ Below w.heap.size w w' := by
  subst hk
  have HT : Hid _ := htab
  clear htab
  try unfold zv at *
  try unfold vl at *
  go_enter Tryd.func7, Tryd.ntmps7
  go_wp2_with fail
  have A := At.new w 2 na sa
  unfold vb at A
  replace A := A.alloc (.cells #[.int .i64 kb, .int .i64 nb, .string sb] 23)
  replace A := A.alloc (.cells #[.int .i64 kc, .int .i64 nc, .string sc] 23)
  have C := At.new (w.alloc (.cells #[.int .i64 2, .int .i64 na, .string sa] 23)) kb nb sb
  unfold vb at C
  replace C := C.alloc (.cells #[.int .i64 kc, .int .i64 nc, .string sc] 23)
  have M := At.new ((w.alloc (.cells #[.int .i64 2, .int .i64 na, .string sa] 23)).alloc (.cells #[.int .i64 kb, .int .i64 nb, .string sb] 23)) kc nc sc
  unfold vb at M
  have B := b3 w (.cells #[.int .i64 2, .int .i64 na, .string sa] 23) (.cells #[.int .i64 kb, .int .i64 nb, .string sb] 23) (.cells #[.int .i64 kc, .int .i64 nc, .string sc] 23)
  simp at C M
  generalize (((w.alloc (.cells #[.int .i64 2, .int .i64 na, .string sa] 23)).alloc (.cells #[.int .i64 kb, .int .i64 nb, .string sb] 23)).alloc (.cells #[.int .i64 kc, .int .i64 nc, .string sc] 23)) = w0 at *
  obtain ⟨V, hV⟩ : ∃ V, w.heap.size = V := ⟨_, rfl⟩
  rw [hV] at A C M B ⊢
  obtain ⟨A0, A1, A2, Al⟩ := id A
  obtain ⟨C0, C1, C2, Cl⟩ := id C
  obtain ⟨M0, M1, M2, Ml⟩ := id M
  refine (fixed_any _ (tab_keep HT.out (hV.symm ▸ B))).mono ?_
  rintro e w1 ⟨rfl, hb⟩
  replace B := bthen B (by have := A.lt; omega) hb
  replace A := A.below hb
  replace C := C.below hb
  replace M := M.below hb
  clear A0 A1 A2 Al C0 C1 C2 Cl M0 M1 M2 Ml
  clear hb
  obtain ⟨A0, A1, A2, Al⟩ := id A
  obtain ⟨C0, C1, C2, Cl⟩ := id C
  obtain ⟨M0, M1, M2, Ml⟩ := id M
  go_wp2_with fail
  refine (D1 _ (tab_keep HT.out (hV.symm ▸ B))).mono ?_
  rintro e w2 ⟨rfl, hb⟩
  replace B := bthen B (by have := A.lt; omega) hb
  replace A := A.below hb
  replace C := C.below hb
  replace M := M.below hb
  clear A0 A1 A2 Al C0 C1 C2 Cl M0 M1 M2 Ml
  clear hb
  have R := At.new w2 0 0 ⟨#[]⟩
  unfold vb at R
  replace B := B.alloc (Nat.le_of_lt A.lt) (.cells #[.int .i64 0, .int .i64 0, .string ⟨#[]⟩] 23)
  replace A := A.alloc (.cells #[.int .i64 0, .int .i64 0, .string ⟨#[]⟩] 23)
  replace C := C.alloc (.cells #[.int .i64 0, .int .i64 0, .string ⟨#[]⟩] 23)
  replace M := M.alloc (.cells #[.int .i64 0, .int .i64 0, .string ⟨#[]⟩] 23)
  obtain ⟨qR, hqR⟩ : ∃ q, w2.heap.size = q := ⟨_, rfl⟩
  obtain ⟨A0, A1, A2, Al⟩ := id A
  obtain ⟨C0, C1, C2, Cl⟩ := id C
  obtain ⟨M0, M1, M2, Ml⟩ := id M
  obtain ⟨R0, R1, R2, Rl⟩ := id R
  rw [hqR] at R R0 R1 R2 Rl
  go_wp2_with fail
  try rw [hqR]
  generalize w2.alloc _ = w3a at *
  refine (D2 _).mono ?_
  rintro e w3 ⟨rfl, hb⟩
  replace B := bthen B (by have := A.lt; omega) hb
  replace A := A.below hb
  replace C := C.below hb
  replace M := M.below hb
  replace R := R.below hb
  clear A0 A1 A2 Al C0 C1 C2 Cl M0 M1 M2 Ml R0 R1 R2 Rl
  clear hb
  obtain ⟨A0, A1, A2, Al⟩ := id A
  obtain ⟨C0, C1, C2, Cl⟩ := id C
  obtain ⟨M0, M1, M2, Ml⟩ := id M
  obtain ⟨R0, R1, R2, Rl⟩ := id R
  go_wp2_with fail
  go_ret
  exact ⟨rfl, hV.symm ▸ B⟩

set_option maxRecDepth 20000 in
set_option maxHeartbeats 1000000 in
theorem joins_b22 (ka na : Int) (sa : ByteArray) (kb nb : Int) (sb : ByteArray) (kc nc : Int) (sc : ByteArray) (D1 : ∀ w, Tab w → Calls Tryd.prog 26 #[vl 2 na sa, vl 2 nb sb] w fun e w' => e = .returned (.tuple #[zv, .int .i64 14]) ∧ Below w.heap.size w w') (D2 : ∀ w, Calls Tryd.prog 29 #[vl 2 na sa, vl 2 nb sb] w fun e w' => e = .returned (.int .i64 0) ∧ Below w.heap.size w w') (hk : ka = 2) (hk' : kb = 2) (w : World) (htab : Tab w) : Calls Tryd.prog 7 #[vl ka na sa, vl kb nb sb, vl kc nc sc] w fun e w' => e = .returned (.bool true) ∧ Below w.heap.size w w' := by
  subst hk hk'
  have HT : Hid _ := htab
  clear htab
  try unfold zv at *
  try unfold vl at *
  go_enter Tryd.func7, Tryd.ntmps7
  go_wp2_with fail
  have A := At.new w 2 na sa
  unfold vb at A
  replace A := A.alloc (.cells #[.int .i64 2, .int .i64 nb, .string sb] 23)
  replace A := A.alloc (.cells #[.int .i64 kc, .int .i64 nc, .string sc] 23)
  have C := At.new (w.alloc (.cells #[.int .i64 2, .int .i64 na, .string sa] 23)) 2 nb sb
  unfold vb at C
  replace C := C.alloc (.cells #[.int .i64 kc, .int .i64 nc, .string sc] 23)
  have M := At.new ((w.alloc (.cells #[.int .i64 2, .int .i64 na, .string sa] 23)).alloc (.cells #[.int .i64 2, .int .i64 nb, .string sb] 23)) kc nc sc
  unfold vb at M
  have B := b3 w (.cells #[.int .i64 2, .int .i64 na, .string sa] 23) (.cells #[.int .i64 2, .int .i64 nb, .string sb] 23) (.cells #[.int .i64 kc, .int .i64 nc, .string sc] 23)
  simp at C M
  generalize (((w.alloc (.cells #[.int .i64 2, .int .i64 na, .string sa] 23)).alloc (.cells #[.int .i64 2, .int .i64 nb, .string sb] 23)).alloc (.cells #[.int .i64 kc, .int .i64 nc, .string sc] 23)) = w0 at *
  obtain ⟨V, hV⟩ : ∃ V, w.heap.size = V := ⟨_, rfl⟩
  rw [hV] at A C M B ⊢
  obtain ⟨A0, A1, A2, Al⟩ := id A
  obtain ⟨C0, C1, C2, Cl⟩ := id C
  obtain ⟨M0, M1, M2, Ml⟩ := id M
  refine (fixed_any _ (tab_keep HT.out (hV.symm ▸ B))).mono ?_
  rintro e w1 ⟨rfl, hb⟩
  replace B := bthen B (by have := A.lt; omega) hb
  replace A := A.below hb
  replace C := C.below hb
  replace M := M.below hb
  clear A0 A1 A2 Al C0 C1 C2 Cl M0 M1 M2 Ml
  clear hb
  obtain ⟨A0, A1, A2, Al⟩ := id A
  obtain ⟨C0, C1, C2, Cl⟩ := id C
  obtain ⟨M0, M1, M2, Ml⟩ := id M
  go_wp2_with fail
  refine (D1 _ (tab_keep HT.out (hV.symm ▸ B))).mono ?_
  rintro e w2 ⟨rfl, hb⟩
  replace B := bthen B (by have := A.lt; omega) hb
  replace A := A.below hb
  replace C := C.below hb
  replace M := M.below hb
  clear A0 A1 A2 Al C0 C1 C2 Cl M0 M1 M2 Ml
  clear hb
  have R := At.new w2 0 0 ⟨#[]⟩
  unfold vb at R
  replace B := B.alloc (Nat.le_of_lt A.lt) (.cells #[.int .i64 0, .int .i64 0, .string ⟨#[]⟩] 23)
  replace A := A.alloc (.cells #[.int .i64 0, .int .i64 0, .string ⟨#[]⟩] 23)
  replace C := C.alloc (.cells #[.int .i64 0, .int .i64 0, .string ⟨#[]⟩] 23)
  replace M := M.alloc (.cells #[.int .i64 0, .int .i64 0, .string ⟨#[]⟩] 23)
  obtain ⟨qR, hqR⟩ : ∃ q, w2.heap.size = q := ⟨_, rfl⟩
  obtain ⟨A0, A1, A2, Al⟩ := id A
  obtain ⟨C0, C1, C2, Cl⟩ := id C
  obtain ⟨M0, M1, M2, Ml⟩ := id M
  obtain ⟨R0, R1, R2, Rl⟩ := id R
  rw [hqR] at R R0 R1 R2 Rl
  go_wp2_with fail
  try rw [hqR]
  generalize w2.alloc _ = w3a at *
  refine (D2 _).mono ?_
  rintro e w3 ⟨rfl, hb⟩
  replace B := bthen B (by have := A.lt; omega) hb
  replace A := A.below hb
  replace C := C.below hb
  replace M := M.below hb
  replace R := R.below hb
  clear A0 A1 A2 Al C0 C1 C2 Cl M0 M1 M2 Ml R0 R1 R2 Rl
  clear hb
  obtain ⟨A0, A1, A2, Al⟩ := id A
  obtain ⟨C0, C1, C2, Cl⟩ := id C
  obtain ⟨M0, M1, M2, Ml⟩ := id M
  obtain ⟨R0, R1, R2, Rl⟩ := id R
  go_wp2_with fail
  go_ret
  exact ⟨rfl, hV.symm ▸ B⟩

set_option maxRecDepth 20000 in
set_option maxHeartbeats 1000000 in
theorem joins_b23 (ka na : Int) (sa : ByteArray) (kb nb : Int) (sb : ByteArray) (kc nc : Int) (sc : ByteArray) (D1 : ∀ w, Tab w → Calls Tryd.prog 26 #[vl 2 na sa, vl 3 nb sb] w fun e w' => e = .returned (.tuple #[zv, .int .i64 14]) ∧ Below w.heap.size w w') (D2 : ∀ w, Calls Tryd.prog 29 #[vl 2 na sa, vl 3 nb sb] w fun e w' => e = .returned (.int .i64 0) ∧ Below w.heap.size w w') (hk : ka = 2) (hk' : kb = 3) (w : World) (htab : Tab w) : Calls Tryd.prog 7 #[vl ka na sa, vl kb nb sb, vl kc nc sc] w fun e w' => e = .returned (.bool true) ∧ Below w.heap.size w w' := by
  subst hk hk'
  have HT : Hid _ := htab
  clear htab
  try unfold zv at *
  try unfold vl at *
  go_enter Tryd.func7, Tryd.ntmps7
  go_wp2_with fail
  have A := At.new w 2 na sa
  unfold vb at A
  replace A := A.alloc (.cells #[.int .i64 3, .int .i64 nb, .string sb] 23)
  replace A := A.alloc (.cells #[.int .i64 kc, .int .i64 nc, .string sc] 23)
  have C := At.new (w.alloc (.cells #[.int .i64 2, .int .i64 na, .string sa] 23)) 3 nb sb
  unfold vb at C
  replace C := C.alloc (.cells #[.int .i64 kc, .int .i64 nc, .string sc] 23)
  have M := At.new ((w.alloc (.cells #[.int .i64 2, .int .i64 na, .string sa] 23)).alloc (.cells #[.int .i64 3, .int .i64 nb, .string sb] 23)) kc nc sc
  unfold vb at M
  have B := b3 w (.cells #[.int .i64 2, .int .i64 na, .string sa] 23) (.cells #[.int .i64 3, .int .i64 nb, .string sb] 23) (.cells #[.int .i64 kc, .int .i64 nc, .string sc] 23)
  simp at C M
  generalize (((w.alloc (.cells #[.int .i64 2, .int .i64 na, .string sa] 23)).alloc (.cells #[.int .i64 3, .int .i64 nb, .string sb] 23)).alloc (.cells #[.int .i64 kc, .int .i64 nc, .string sc] 23)) = w0 at *
  obtain ⟨V, hV⟩ : ∃ V, w.heap.size = V := ⟨_, rfl⟩
  rw [hV] at A C M B ⊢
  obtain ⟨A0, A1, A2, Al⟩ := id A
  obtain ⟨C0, C1, C2, Cl⟩ := id C
  obtain ⟨M0, M1, M2, Ml⟩ := id M
  refine (fixed_any _ (tab_keep HT.out (hV.symm ▸ B))).mono ?_
  rintro e w1 ⟨rfl, hb⟩
  replace B := bthen B (by have := A.lt; omega) hb
  replace A := A.below hb
  replace C := C.below hb
  replace M := M.below hb
  clear A0 A1 A2 Al C0 C1 C2 Cl M0 M1 M2 Ml
  clear hb
  obtain ⟨A0, A1, A2, Al⟩ := id A
  obtain ⟨C0, C1, C2, Cl⟩ := id C
  obtain ⟨M0, M1, M2, Ml⟩ := id M
  go_wp2_with fail
  refine (D1 _ (tab_keep HT.out (hV.symm ▸ B))).mono ?_
  rintro e w2 ⟨rfl, hb⟩
  replace B := bthen B (by have := A.lt; omega) hb
  replace A := A.below hb
  replace C := C.below hb
  replace M := M.below hb
  clear A0 A1 A2 Al C0 C1 C2 Cl M0 M1 M2 Ml
  clear hb
  have R := At.new w2 0 0 ⟨#[]⟩
  unfold vb at R
  replace B := B.alloc (Nat.le_of_lt A.lt) (.cells #[.int .i64 0, .int .i64 0, .string ⟨#[]⟩] 23)
  replace A := A.alloc (.cells #[.int .i64 0, .int .i64 0, .string ⟨#[]⟩] 23)
  replace C := C.alloc (.cells #[.int .i64 0, .int .i64 0, .string ⟨#[]⟩] 23)
  replace M := M.alloc (.cells #[.int .i64 0, .int .i64 0, .string ⟨#[]⟩] 23)
  obtain ⟨qR, hqR⟩ : ∃ q, w2.heap.size = q := ⟨_, rfl⟩
  obtain ⟨A0, A1, A2, Al⟩ := id A
  obtain ⟨C0, C1, C2, Cl⟩ := id C
  obtain ⟨M0, M1, M2, Ml⟩ := id M
  obtain ⟨R0, R1, R2, Rl⟩ := id R
  rw [hqR] at R R0 R1 R2 Rl
  go_wp2_with fail
  try rw [hqR]
  generalize w2.alloc _ = w3a at *
  refine (D2 _).mono ?_
  rintro e w3 ⟨rfl, hb⟩
  replace B := bthen B (by have := A.lt; omega) hb
  replace A := A.below hb
  replace C := C.below hb
  replace M := M.below hb
  replace R := R.below hb
  clear A0 A1 A2 Al C0 C1 C2 Cl M0 M1 M2 Ml R0 R1 R2 Rl
  clear hb
  obtain ⟨A0, A1, A2, Al⟩ := id A
  obtain ⟨C0, C1, C2, Cl⟩ := id C
  obtain ⟨M0, M1, M2, Ml⟩ := id M
  obtain ⟨R0, R1, R2, Rl⟩ := id R
  go_wp2_with fail
  go_ret
  exact ⟨rfl, hV.symm ▸ B⟩

set_option maxRecDepth 20000 in
set_option maxHeartbeats 1000000 in
theorem joins_s83 (ka na : Int) (sa : ByteArray) (kb nb : Int) (sb : ByteArray) (kc nc : Int) (sc : ByteArray) (D1 : ∀ w, Tab w → Calls Tryd.prog 26 #[vl 3 na sa, vl kb nb sb] w fun e w' => e = .returned (.tuple #[zv, .int .i64 8]) ∧ Below w.heap.size w w') (D2 : ∀ w, Calls Tryd.prog 29 #[vl 3 na sa, vl kb nb sb] w fun e w' => e = .returned (.int .i64 0) ∧ Below w.heap.size w w') (h2 : ¬ kb = 2) (h3 : ¬ kb = 3) (hk : ka = 3) (w : World) (htab : Tab w) : Calls Tryd.prog 7 #[vl ka na sa, vl kb nb sb, vl kc nc sc] w fun e w' => e = .returned (.bool true) ∧ Below w.heap.size w w' := by
  subst hk
  have HT : Hid _ := htab
  clear htab
  try unfold zv at *
  try unfold vl at *
  go_enter Tryd.func7, Tryd.ntmps7
  go_wp2_with fail
  have A := At.new w 3 na sa
  unfold vb at A
  replace A := A.alloc (.cells #[.int .i64 kb, .int .i64 nb, .string sb] 23)
  replace A := A.alloc (.cells #[.int .i64 kc, .int .i64 nc, .string sc] 23)
  have C := At.new (w.alloc (.cells #[.int .i64 3, .int .i64 na, .string sa] 23)) kb nb sb
  unfold vb at C
  replace C := C.alloc (.cells #[.int .i64 kc, .int .i64 nc, .string sc] 23)
  have M := At.new ((w.alloc (.cells #[.int .i64 3, .int .i64 na, .string sa] 23)).alloc (.cells #[.int .i64 kb, .int .i64 nb, .string sb] 23)) kc nc sc
  unfold vb at M
  have B := b3 w (.cells #[.int .i64 3, .int .i64 na, .string sa] 23) (.cells #[.int .i64 kb, .int .i64 nb, .string sb] 23) (.cells #[.int .i64 kc, .int .i64 nc, .string sc] 23)
  simp at C M
  generalize (((w.alloc (.cells #[.int .i64 3, .int .i64 na, .string sa] 23)).alloc (.cells #[.int .i64 kb, .int .i64 nb, .string sb] 23)).alloc (.cells #[.int .i64 kc, .int .i64 nc, .string sc] 23)) = w0 at *
  obtain ⟨V, hV⟩ : ∃ V, w.heap.size = V := ⟨_, rfl⟩
  rw [hV] at A C M B ⊢
  obtain ⟨A0, A1, A2, Al⟩ := id A
  obtain ⟨C0, C1, C2, Cl⟩ := id C
  obtain ⟨M0, M1, M2, Ml⟩ := id M
  refine (fixed_any _ (tab_keep HT.out (hV.symm ▸ B))).mono ?_
  rintro e w1 ⟨rfl, hb⟩
  replace B := bthen B (by have := A.lt; omega) hb
  replace A := A.below hb
  replace C := C.below hb
  replace M := M.below hb
  clear A0 A1 A2 Al C0 C1 C2 Cl M0 M1 M2 Ml
  clear hb
  obtain ⟨A0, A1, A2, Al⟩ := id A
  obtain ⟨C0, C1, C2, Cl⟩ := id C
  obtain ⟨M0, M1, M2, Ml⟩ := id M
  go_wp2_with fail
  refine (D1 _ (tab_keep HT.out (hV.symm ▸ B))).mono ?_
  rintro e w2 ⟨rfl, hb⟩
  replace B := bthen B (by have := A.lt; omega) hb
  replace A := A.below hb
  replace C := C.below hb
  replace M := M.below hb
  clear A0 A1 A2 Al C0 C1 C2 Cl M0 M1 M2 Ml
  clear hb
  have R := At.new w2 0 0 ⟨#[]⟩
  unfold vb at R
  replace B := B.alloc (Nat.le_of_lt A.lt) (.cells #[.int .i64 0, .int .i64 0, .string ⟨#[]⟩] 23)
  replace A := A.alloc (.cells #[.int .i64 0, .int .i64 0, .string ⟨#[]⟩] 23)
  replace C := C.alloc (.cells #[.int .i64 0, .int .i64 0, .string ⟨#[]⟩] 23)
  replace M := M.alloc (.cells #[.int .i64 0, .int .i64 0, .string ⟨#[]⟩] 23)
  obtain ⟨qR, hqR⟩ : ∃ q, w2.heap.size = q := ⟨_, rfl⟩
  obtain ⟨A0, A1, A2, Al⟩ := id A
  obtain ⟨C0, C1, C2, Cl⟩ := id C
  obtain ⟨M0, M1, M2, Ml⟩ := id M
  obtain ⟨R0, R1, R2, Rl⟩ := id R
  rw [hqR] at R R0 R1 R2 Rl
  go_wp2_with fail
  try rw [hqR]
  generalize w2.alloc _ = w3a at *
  refine (D2 _).mono ?_
  rintro e w3 ⟨rfl, hb⟩
  replace B := bthen B (by have := A.lt; omega) hb
  replace A := A.below hb
  replace C := C.below hb
  replace M := M.below hb
  replace R := R.below hb
  clear A0 A1 A2 Al C0 C1 C2 Cl M0 M1 M2 Ml R0 R1 R2 Rl
  clear hb
  obtain ⟨A0, A1, A2, Al⟩ := id A
  obtain ⟨C0, C1, C2, Cl⟩ := id C
  obtain ⟨M0, M1, M2, Ml⟩ := id M
  obtain ⟨R0, R1, R2, Rl⟩ := id R
  go_wp2_with fail
  go_ret
  exact ⟨rfl, hV.symm ▸ B⟩

set_option maxRecDepth 20000 in
set_option maxHeartbeats 1000000 in
theorem joins_b32 (ka na : Int) (sa : ByteArray) (kb nb : Int) (sb : ByteArray) (kc nc : Int) (sc : ByteArray) (D1 : ∀ w, Tab w → Calls Tryd.prog 26 #[vl 3 na sa, vl 2 nb sb] w fun e w' => e = .returned (.tuple #[zv, .int .i64 14]) ∧ Below w.heap.size w w') (D2 : ∀ w, Calls Tryd.prog 29 #[vl 3 na sa, vl 2 nb sb] w fun e w' => e = .returned (.int .i64 0) ∧ Below w.heap.size w w') (hk : ka = 3) (hk' : kb = 2) (w : World) (htab : Tab w) : Calls Tryd.prog 7 #[vl ka na sa, vl kb nb sb, vl kc nc sc] w fun e w' => e = .returned (.bool true) ∧ Below w.heap.size w w' := by
  subst hk hk'
  have HT : Hid _ := htab
  clear htab
  try unfold zv at *
  try unfold vl at *
  go_enter Tryd.func7, Tryd.ntmps7
  go_wp2_with fail
  have A := At.new w 3 na sa
  unfold vb at A
  replace A := A.alloc (.cells #[.int .i64 2, .int .i64 nb, .string sb] 23)
  replace A := A.alloc (.cells #[.int .i64 kc, .int .i64 nc, .string sc] 23)
  have C := At.new (w.alloc (.cells #[.int .i64 3, .int .i64 na, .string sa] 23)) 2 nb sb
  unfold vb at C
  replace C := C.alloc (.cells #[.int .i64 kc, .int .i64 nc, .string sc] 23)
  have M := At.new ((w.alloc (.cells #[.int .i64 3, .int .i64 na, .string sa] 23)).alloc (.cells #[.int .i64 2, .int .i64 nb, .string sb] 23)) kc nc sc
  unfold vb at M
  have B := b3 w (.cells #[.int .i64 3, .int .i64 na, .string sa] 23) (.cells #[.int .i64 2, .int .i64 nb, .string sb] 23) (.cells #[.int .i64 kc, .int .i64 nc, .string sc] 23)
  simp at C M
  generalize (((w.alloc (.cells #[.int .i64 3, .int .i64 na, .string sa] 23)).alloc (.cells #[.int .i64 2, .int .i64 nb, .string sb] 23)).alloc (.cells #[.int .i64 kc, .int .i64 nc, .string sc] 23)) = w0 at *
  obtain ⟨V, hV⟩ : ∃ V, w.heap.size = V := ⟨_, rfl⟩
  rw [hV] at A C M B ⊢
  obtain ⟨A0, A1, A2, Al⟩ := id A
  obtain ⟨C0, C1, C2, Cl⟩ := id C
  obtain ⟨M0, M1, M2, Ml⟩ := id M
  refine (fixed_any _ (tab_keep HT.out (hV.symm ▸ B))).mono ?_
  rintro e w1 ⟨rfl, hb⟩
  replace B := bthen B (by have := A.lt; omega) hb
  replace A := A.below hb
  replace C := C.below hb
  replace M := M.below hb
  clear A0 A1 A2 Al C0 C1 C2 Cl M0 M1 M2 Ml
  clear hb
  obtain ⟨A0, A1, A2, Al⟩ := id A
  obtain ⟨C0, C1, C2, Cl⟩ := id C
  obtain ⟨M0, M1, M2, Ml⟩ := id M
  go_wp2_with fail
  refine (D1 _ (tab_keep HT.out (hV.symm ▸ B))).mono ?_
  rintro e w2 ⟨rfl, hb⟩
  replace B := bthen B (by have := A.lt; omega) hb
  replace A := A.below hb
  replace C := C.below hb
  replace M := M.below hb
  clear A0 A1 A2 Al C0 C1 C2 Cl M0 M1 M2 Ml
  clear hb
  have R := At.new w2 0 0 ⟨#[]⟩
  unfold vb at R
  replace B := B.alloc (Nat.le_of_lt A.lt) (.cells #[.int .i64 0, .int .i64 0, .string ⟨#[]⟩] 23)
  replace A := A.alloc (.cells #[.int .i64 0, .int .i64 0, .string ⟨#[]⟩] 23)
  replace C := C.alloc (.cells #[.int .i64 0, .int .i64 0, .string ⟨#[]⟩] 23)
  replace M := M.alloc (.cells #[.int .i64 0, .int .i64 0, .string ⟨#[]⟩] 23)
  obtain ⟨qR, hqR⟩ : ∃ q, w2.heap.size = q := ⟨_, rfl⟩
  obtain ⟨A0, A1, A2, Al⟩ := id A
  obtain ⟨C0, C1, C2, Cl⟩ := id C
  obtain ⟨M0, M1, M2, Ml⟩ := id M
  obtain ⟨R0, R1, R2, Rl⟩ := id R
  rw [hqR] at R R0 R1 R2 Rl
  go_wp2_with fail
  try rw [hqR]
  generalize w2.alloc _ = w3a at *
  refine (D2 _).mono ?_
  rintro e w3 ⟨rfl, hb⟩
  replace B := bthen B (by have := A.lt; omega) hb
  replace A := A.below hb
  replace C := C.below hb
  replace M := M.below hb
  replace R := R.below hb
  clear A0 A1 A2 Al C0 C1 C2 Cl M0 M1 M2 Ml R0 R1 R2 Rl
  clear hb
  obtain ⟨A0, A1, A2, Al⟩ := id A
  obtain ⟨C0, C1, C2, Cl⟩ := id C
  obtain ⟨M0, M1, M2, Ml⟩ := id M
  obtain ⟨R0, R1, R2, Rl⟩ := id R
  go_wp2_with fail
  go_ret
  exact ⟨rfl, hV.symm ▸ B⟩

set_option maxRecDepth 20000 in
set_option maxHeartbeats 1000000 in
theorem joins_b33 (ka na : Int) (sa : ByteArray) (kb nb : Int) (sb : ByteArray) (kc nc : Int) (sc : ByteArray) (D1 : ∀ w, Tab w → Calls Tryd.prog 26 #[vl 3 na sa, vl 3 nb sb] w fun e w' => e = .returned (.tuple #[zv, .int .i64 14]) ∧ Below w.heap.size w w') (D2 : ∀ w, Calls Tryd.prog 29 #[vl 3 na sa, vl 3 nb sb] w fun e w' => e = .returned (.int .i64 0) ∧ Below w.heap.size w w') (hk : ka = 3) (hk' : kb = 3) (w : World) (htab : Tab w) : Calls Tryd.prog 7 #[vl ka na sa, vl kb nb sb, vl kc nc sc] w fun e w' => e = .returned (.bool true) ∧ Below w.heap.size w w' := by
  subst hk hk'
  have HT : Hid _ := htab
  clear htab
  try unfold zv at *
  try unfold vl at *
  go_enter Tryd.func7, Tryd.ntmps7
  go_wp2_with fail
  have A := At.new w 3 na sa
  unfold vb at A
  replace A := A.alloc (.cells #[.int .i64 3, .int .i64 nb, .string sb] 23)
  replace A := A.alloc (.cells #[.int .i64 kc, .int .i64 nc, .string sc] 23)
  have C := At.new (w.alloc (.cells #[.int .i64 3, .int .i64 na, .string sa] 23)) 3 nb sb
  unfold vb at C
  replace C := C.alloc (.cells #[.int .i64 kc, .int .i64 nc, .string sc] 23)
  have M := At.new ((w.alloc (.cells #[.int .i64 3, .int .i64 na, .string sa] 23)).alloc (.cells #[.int .i64 3, .int .i64 nb, .string sb] 23)) kc nc sc
  unfold vb at M
  have B := b3 w (.cells #[.int .i64 3, .int .i64 na, .string sa] 23) (.cells #[.int .i64 3, .int .i64 nb, .string sb] 23) (.cells #[.int .i64 kc, .int .i64 nc, .string sc] 23)
  simp at C M
  generalize (((w.alloc (.cells #[.int .i64 3, .int .i64 na, .string sa] 23)).alloc (.cells #[.int .i64 3, .int .i64 nb, .string sb] 23)).alloc (.cells #[.int .i64 kc, .int .i64 nc, .string sc] 23)) = w0 at *
  obtain ⟨V, hV⟩ : ∃ V, w.heap.size = V := ⟨_, rfl⟩
  rw [hV] at A C M B ⊢
  obtain ⟨A0, A1, A2, Al⟩ := id A
  obtain ⟨C0, C1, C2, Cl⟩ := id C
  obtain ⟨M0, M1, M2, Ml⟩ := id M
  refine (fixed_any _ (tab_keep HT.out (hV.symm ▸ B))).mono ?_
  rintro e w1 ⟨rfl, hb⟩
  replace B := bthen B (by have := A.lt; omega) hb
  replace A := A.below hb
  replace C := C.below hb
  replace M := M.below hb
  clear A0 A1 A2 Al C0 C1 C2 Cl M0 M1 M2 Ml
  clear hb
  obtain ⟨A0, A1, A2, Al⟩ := id A
  obtain ⟨C0, C1, C2, Cl⟩ := id C
  obtain ⟨M0, M1, M2, Ml⟩ := id M
  go_wp2_with fail
  refine (D1 _ (tab_keep HT.out (hV.symm ▸ B))).mono ?_
  rintro e w2 ⟨rfl, hb⟩
  replace B := bthen B (by have := A.lt; omega) hb
  replace A := A.below hb
  replace C := C.below hb
  replace M := M.below hb
  clear A0 A1 A2 Al C0 C1 C2 Cl M0 M1 M2 Ml
  clear hb
  have R := At.new w2 0 0 ⟨#[]⟩
  unfold vb at R
  replace B := B.alloc (Nat.le_of_lt A.lt) (.cells #[.int .i64 0, .int .i64 0, .string ⟨#[]⟩] 23)
  replace A := A.alloc (.cells #[.int .i64 0, .int .i64 0, .string ⟨#[]⟩] 23)
  replace C := C.alloc (.cells #[.int .i64 0, .int .i64 0, .string ⟨#[]⟩] 23)
  replace M := M.alloc (.cells #[.int .i64 0, .int .i64 0, .string ⟨#[]⟩] 23)
  obtain ⟨qR, hqR⟩ : ∃ q, w2.heap.size = q := ⟨_, rfl⟩
  obtain ⟨A0, A1, A2, Al⟩ := id A
  obtain ⟨C0, C1, C2, Cl⟩ := id C
  obtain ⟨M0, M1, M2, Ml⟩ := id M
  obtain ⟨R0, R1, R2, Rl⟩ := id R
  rw [hqR] at R R0 R1 R2 Rl
  go_wp2_with fail
  try rw [hqR]
  generalize w2.alloc _ = w3a at *
  refine (D2 _).mono ?_
  rintro e w3 ⟨rfl, hb⟩
  replace B := bthen B (by have := A.lt; omega) hb
  replace A := A.below hb
  replace C := C.below hb
  replace M := M.below hb
  replace R := R.below hb
  clear A0 A1 A2 Al C0 C1 C2 Cl M0 M1 M2 Ml R0 R1 R2 Rl
  clear hb
  obtain ⟨A0, A1, A2, Al⟩ := id A
  obtain ⟨C0, C1, C2, Cl⟩ := id C
  obtain ⟨M0, M1, M2, Ml⟩ := id M
  obtain ⟨R0, R1, R2, Rl⟩ := id R
  go_wp2_with fail
  go_ret
  exact ⟨rfl, hV.symm ▸ B⟩

set_option maxRecDepth 20000 in
set_option maxHeartbeats 1000000 in
theorem joins_no (ka na : Int) (sa : ByteArray) (kb nb : Int) (sb : ByteArray) (kc nc : Int) (sc : ByteArray) (ta tb : ByteArray) (hsz : ta.size + tb.size ≤ 10000) (D1 : ∀ w, Tab w → Calls Tryd.prog 26 #[vl ka na sa, vl kb nb sb] w fun e w' => e = .returned (.tuple #[vl 3 0 (ta ++ tb), .int .i64 0]) ∧ Below w.heap.size w w') (D2 : ∀ w, Tab w → Calls Tryd.prog 13 #[vl ka na sa] w fun e w' => e = .returned (.tuple #[.string ta, .int .i64 0]) ∧ Below w.heap.size w w') (D3 : ∀ w, Tab w → Calls Tryd.prog 13 #[vl kb nb sb] w fun e w' => e = .returned (.tuple #[.string tb, .int .i64 0]) ∧ Below w.heap.size w w') (K : Int) (S : ByteArray) (E : Int) (D4 : ∀ w, Tab w → Calls Tryd.prog 26 #[vl kb nb sb, vl kc nc sc] w fun e w' => e = .returned (.tuple #[vl K 0 S, .int .i64 E]) ∧ Below w.heap.size w w') (hE : E ≠ 0) (w : World) (htab : Tab w) : Calls Tryd.prog 7 #[vl ka na sa, vl kb nb sb, vl kc nc sc] w fun e w' => e = .returned (.bool true) ∧ Below w.heap.size w w' := by
  have hE' : (E == 0) = false := by simpa using hE
  have HT : Hid _ := htab
  clear htab
  try unfold vl at *
  go_enter Tryd.func7, Tryd.ntmps7
  go_wp2_with fail
  have A := At.new w ka na sa
  unfold vb at A
  replace A := A.alloc (.cells #[.int .i64 kb, .int .i64 nb, .string sb] 23)
  replace A := A.alloc (.cells #[.int .i64 kc, .int .i64 nc, .string sc] 23)
  have C := At.new (w.alloc (.cells #[.int .i64 ka, .int .i64 na, .string sa] 23)) kb nb sb
  unfold vb at C
  replace C := C.alloc (.cells #[.int .i64 kc, .int .i64 nc, .string sc] 23)
  have M := At.new ((w.alloc (.cells #[.int .i64 ka, .int .i64 na, .string sa] 23)).alloc (.cells #[.int .i64 kb, .int .i64 nb, .string sb] 23)) kc nc sc
  unfold vb at M
  have B := b3 w (.cells #[.int .i64 ka, .int .i64 na, .string sa] 23) (.cells #[.int .i64 kb, .int .i64 nb, .string sb] 23) (.cells #[.int .i64 kc, .int .i64 nc, .string sc] 23)
  simp at C M
  generalize (((w.alloc (.cells #[.int .i64 ka, .int .i64 na, .string sa] 23)).alloc (.cells #[.int .i64 kb, .int .i64 nb, .string sb] 23)).alloc (.cells #[.int .i64 kc, .int .i64 nc, .string sc] 23)) = w0 at *
  obtain ⟨V, hV⟩ : ∃ V, w.heap.size = V := ⟨_, rfl⟩
  rw [hV] at A C M B ⊢
  obtain ⟨A0, A1, A2, Al⟩ := id A
  obtain ⟨C0, C1, C2, Cl⟩ := id C
  obtain ⟨M0, M1, M2, Ml⟩ := id M
  refine (fixed_any _ (tab_keep HT.out (hV.symm ▸ B))).mono ?_
  rintro e w1 ⟨rfl, hb⟩
  replace B := bthen B (by have := A.lt; omega) hb
  replace A := A.below hb
  replace C := C.below hb
  replace M := M.below hb
  clear A0 A1 A2 Al C0 C1 C2 Cl M0 M1 M2 Ml
  clear hb
  obtain ⟨A0, A1, A2, Al⟩ := id A
  obtain ⟨C0, C1, C2, Cl⟩ := id C
  obtain ⟨M0, M1, M2, Ml⟩ := id M
  go_wp2_with fail
  refine (D1 _ (tab_keep HT.out (hV.symm ▸ B))).mono ?_
  rintro e w2 ⟨rfl, hb⟩
  replace B := bthen B (by have := A.lt; omega) hb
  replace A := A.below hb
  replace C := C.below hb
  replace M := M.below hb
  clear A0 A1 A2 Al C0 C1 C2 Cl M0 M1 M2 Ml
  clear hb
  have R := At.new w2 3 0 (ta ++ tb)
  unfold vb at R
  replace B := B.alloc (Nat.le_of_lt A.lt) (.cells #[.int .i64 3, .int .i64 0, .string (ta ++ tb)] 23)
  replace A := A.alloc (.cells #[.int .i64 3, .int .i64 0, .string (ta ++ tb)] 23)
  replace C := C.alloc (.cells #[.int .i64 3, .int .i64 0, .string (ta ++ tb)] 23)
  replace M := M.alloc (.cells #[.int .i64 3, .int .i64 0, .string (ta ++ tb)] 23)
  obtain ⟨qR, hqR⟩ : ∃ q, w2.heap.size = q := ⟨_, rfl⟩
  obtain ⟨A0, A1, A2, Al⟩ := id A
  obtain ⟨C0, C1, C2, Cl⟩ := id C
  obtain ⟨M0, M1, M2, Ml⟩ := id M
  obtain ⟨R0, R1, R2, Rl⟩ := id R
  rw [hqR] at R R0 R1 R2 Rl
  go_wp2_with fail
  try rw [hqR]
  generalize w2.alloc _ = w3a at *
  refine (D2 _ (tab_keep HT.out (hV.symm ▸ B))).mono ?_
  rintro e w3 ⟨rfl, hb⟩
  replace B := bthen B (by have := A.lt; omega) hb
  replace A := A.below hb
  replace C := C.below hb
  replace M := M.below hb
  replace R := R.below hb
  clear A0 A1 A2 Al C0 C1 C2 Cl M0 M1 M2 Ml R0 R1 R2 Rl
  clear hb
  obtain ⟨A0, A1, A2, Al⟩ := id A
  obtain ⟨C0, C1, C2, Cl⟩ := id C
  obtain ⟨M0, M1, M2, Ml⟩ := id M
  obtain ⟨R0, R1, R2, Rl⟩ := id R
  go_wp2_with fail
  refine (D3 _ (tab_keep HT.out (hV.symm ▸ B))).mono ?_
  rintro e w4 ⟨rfl, hb⟩
  replace B := bthen B (by have := A.lt; omega) hb
  replace A := A.below hb
  replace C := C.below hb
  replace M := M.below hb
  replace R := R.below hb
  clear A0 A1 A2 Al C0 C1 C2 Cl M0 M1 M2 Ml R0 R1 R2 Rl
  clear hb
  obtain ⟨A0, A1, A2, Al⟩ := id A
  obtain ⟨C0, C1, C2, Cl⟩ := id C
  obtain ⟨M0, M1, M2, Ml⟩ := id M
  obtain ⟨R0, R1, R2, Rl⟩ := id R
  go_wp2_with fail
  refine (D4 _ (tab_keep HT.out (hV.symm ▸ B))).mono ?_
  rintro e w5 ⟨rfl, hb⟩
  replace B := bthen B (by have := A.lt; omega) hb
  replace A := A.below hb
  replace C := C.below hb
  replace M := M.below hb
  replace R := R.below hb
  clear A0 A1 A2 Al C0 C1 C2 Cl M0 M1 M2 Ml R0 R1 R2 Rl
  clear hb
  have Q := At.new w5 K 0 S
  unfold vb at Q
  replace B := B.alloc (Nat.le_of_lt A.lt) (.cells #[.int .i64 K, .int .i64 0, .string S] 23)
  replace A := A.alloc (.cells #[.int .i64 K, .int .i64 0, .string S] 23)
  replace C := C.alloc (.cells #[.int .i64 K, .int .i64 0, .string S] 23)
  replace M := M.alloc (.cells #[.int .i64 K, .int .i64 0, .string S] 23)
  replace R := R.alloc (.cells #[.int .i64 K, .int .i64 0, .string S] 23)
  obtain ⟨qQ, hqQ⟩ : ∃ q, w5.heap.size = q := ⟨_, rfl⟩
  obtain ⟨A0, A1, A2, Al⟩ := id A
  obtain ⟨C0, C1, C2, Cl⟩ := id C
  obtain ⟨M0, M1, M2, Ml⟩ := id M
  obtain ⟨R0, R1, R2, Rl⟩ := id R
  obtain ⟨Q0, Q1, Q2, Ql⟩ := id Q
  rw [hqQ] at Q Q0 Q1 Q2 Ql
  go_wp2_with fail
  try rw [hqQ]
  go_ret
  exact ⟨rfl, hV.symm ▸ B⟩

set_option maxRecDepth 20000 in
set_option maxHeartbeats 1000000 in
theorem joins_yes (ka na : Int) (sa : ByteArray) (kb nb : Int) (sb : ByteArray) (kc nc : Int) (sc : ByteArray) (ta tb : ByteArray) (hsz : ta.size + tb.size ≤ 10000) (D1 : ∀ w, Tab w → Calls Tryd.prog 26 #[vl ka na sa, vl kb nb sb] w fun e w' => e = .returned (.tuple #[vl 3 0 (ta ++ tb), .int .i64 0]) ∧ Below w.heap.size w w') (D2 : ∀ w, Tab w → Calls Tryd.prog 13 #[vl ka na sa] w fun e w' => e = .returned (.tuple #[.string ta, .int .i64 0]) ∧ Below w.heap.size w w') (D3 : ∀ w, Tab w → Calls Tryd.prog 13 #[vl kb nb sb] w fun e w' => e = .returned (.tuple #[.string tb, .int .i64 0]) ∧ Below w.heap.size w w') (K : Int) (S : ByteArray) (E : Int) (D4 : ∀ w, Tab w → Calls Tryd.prog 26 #[vl kb nb sb, vl kc nc sc] w fun e w' => e = .returned (.tuple #[vl K 0 S, .int .i64 E]) ∧ Below w.heap.size w w') (hE : E = 0) (K' : Int) (S' : ByteArray) (E' : Int) (D5 : ∀ w, Tab w → Calls Tryd.prog 26 #[vl 3 0 (ta ++ tb), vl kc nc sc] w fun e w' => e = .returned (.tuple #[vl K' 0 S', .int .i64 E']) ∧ Below w.heap.size w w') (D6 : ∀ w, Tab w → Calls Tryd.prog 26 #[vl ka na sa, vl K 0 S] w fun e w' => e = .returned (.tuple #[vl K' 0 S', .int .i64 E']) ∧ Below w.heap.size w w') (w : World) (htab : Tab w) : Calls Tryd.prog 7 #[vl ka na sa, vl kb nb sb, vl kc nc sc] w fun e w' => e = .returned (.bool true) ∧ Below w.heap.size w w' := by
  subst hE
  have HT : Hid _ := htab
  clear htab
  try unfold vl at *
  go_enter Tryd.func7, Tryd.ntmps7
  go_wp2_with fail
  have A := At.new w ka na sa
  unfold vb at A
  replace A := A.alloc (.cells #[.int .i64 kb, .int .i64 nb, .string sb] 23)
  replace A := A.alloc (.cells #[.int .i64 kc, .int .i64 nc, .string sc] 23)
  have C := At.new (w.alloc (.cells #[.int .i64 ka, .int .i64 na, .string sa] 23)) kb nb sb
  unfold vb at C
  replace C := C.alloc (.cells #[.int .i64 kc, .int .i64 nc, .string sc] 23)
  have M := At.new ((w.alloc (.cells #[.int .i64 ka, .int .i64 na, .string sa] 23)).alloc (.cells #[.int .i64 kb, .int .i64 nb, .string sb] 23)) kc nc sc
  unfold vb at M
  have B := b3 w (.cells #[.int .i64 ka, .int .i64 na, .string sa] 23) (.cells #[.int .i64 kb, .int .i64 nb, .string sb] 23) (.cells #[.int .i64 kc, .int .i64 nc, .string sc] 23)
  simp at C M
  generalize (((w.alloc (.cells #[.int .i64 ka, .int .i64 na, .string sa] 23)).alloc (.cells #[.int .i64 kb, .int .i64 nb, .string sb] 23)).alloc (.cells #[.int .i64 kc, .int .i64 nc, .string sc] 23)) = w0 at *
  obtain ⟨V, hV⟩ : ∃ V, w.heap.size = V := ⟨_, rfl⟩
  rw [hV] at A C M B ⊢
  obtain ⟨A0, A1, A2, Al⟩ := id A
  obtain ⟨C0, C1, C2, Cl⟩ := id C
  obtain ⟨M0, M1, M2, Ml⟩ := id M
  refine (fixed_any _ (tab_keep HT.out (hV.symm ▸ B))).mono ?_
  rintro e w1 ⟨rfl, hb⟩
  replace B := bthen B (by have := A.lt; omega) hb
  replace A := A.below hb
  replace C := C.below hb
  replace M := M.below hb
  clear A0 A1 A2 Al C0 C1 C2 Cl M0 M1 M2 Ml
  clear hb
  obtain ⟨A0, A1, A2, Al⟩ := id A
  obtain ⟨C0, C1, C2, Cl⟩ := id C
  obtain ⟨M0, M1, M2, Ml⟩ := id M
  go_wp2_with fail
  refine (D1 _ (tab_keep HT.out (hV.symm ▸ B))).mono ?_
  rintro e w2 ⟨rfl, hb⟩
  replace B := bthen B (by have := A.lt; omega) hb
  replace A := A.below hb
  replace C := C.below hb
  replace M := M.below hb
  clear A0 A1 A2 Al C0 C1 C2 Cl M0 M1 M2 Ml
  clear hb
  have R := At.new w2 3 0 (ta ++ tb)
  unfold vb at R
  replace B := B.alloc (Nat.le_of_lt A.lt) (.cells #[.int .i64 3, .int .i64 0, .string (ta ++ tb)] 23)
  replace A := A.alloc (.cells #[.int .i64 3, .int .i64 0, .string (ta ++ tb)] 23)
  replace C := C.alloc (.cells #[.int .i64 3, .int .i64 0, .string (ta ++ tb)] 23)
  replace M := M.alloc (.cells #[.int .i64 3, .int .i64 0, .string (ta ++ tb)] 23)
  obtain ⟨qR, hqR⟩ : ∃ q, w2.heap.size = q := ⟨_, rfl⟩
  obtain ⟨A0, A1, A2, Al⟩ := id A
  obtain ⟨C0, C1, C2, Cl⟩ := id C
  obtain ⟨M0, M1, M2, Ml⟩ := id M
  obtain ⟨R0, R1, R2, Rl⟩ := id R
  rw [hqR] at R R0 R1 R2 Rl
  go_wp2_with fail
  try rw [hqR]
  generalize w2.alloc _ = w3a at *
  refine (D2 _ (tab_keep HT.out (hV.symm ▸ B))).mono ?_
  rintro e w3 ⟨rfl, hb⟩
  replace B := bthen B (by have := A.lt; omega) hb
  replace A := A.below hb
  replace C := C.below hb
  replace M := M.below hb
  replace R := R.below hb
  clear A0 A1 A2 Al C0 C1 C2 Cl M0 M1 M2 Ml R0 R1 R2 Rl
  clear hb
  obtain ⟨A0, A1, A2, Al⟩ := id A
  obtain ⟨C0, C1, C2, Cl⟩ := id C
  obtain ⟨M0, M1, M2, Ml⟩ := id M
  obtain ⟨R0, R1, R2, Rl⟩ := id R
  go_wp2_with fail
  refine (D3 _ (tab_keep HT.out (hV.symm ▸ B))).mono ?_
  rintro e w4 ⟨rfl, hb⟩
  replace B := bthen B (by have := A.lt; omega) hb
  replace A := A.below hb
  replace C := C.below hb
  replace M := M.below hb
  replace R := R.below hb
  clear A0 A1 A2 Al C0 C1 C2 Cl M0 M1 M2 Ml R0 R1 R2 Rl
  clear hb
  obtain ⟨A0, A1, A2, Al⟩ := id A
  obtain ⟨C0, C1, C2, Cl⟩ := id C
  obtain ⟨M0, M1, M2, Ml⟩ := id M
  obtain ⟨R0, R1, R2, Rl⟩ := id R
  go_wp2_with fail
  refine (D4 _ (tab_keep HT.out (hV.symm ▸ B))).mono ?_
  rintro e w5 ⟨rfl, hb⟩
  replace B := bthen B (by have := A.lt; omega) hb
  replace A := A.below hb
  replace C := C.below hb
  replace M := M.below hb
  replace R := R.below hb
  clear A0 A1 A2 Al C0 C1 C2 Cl M0 M1 M2 Ml R0 R1 R2 Rl
  clear hb
  have Q := At.new w5 K 0 S
  unfold vb at Q
  replace B := B.alloc (Nat.le_of_lt A.lt) (.cells #[.int .i64 K, .int .i64 0, .string S] 23)
  replace A := A.alloc (.cells #[.int .i64 K, .int .i64 0, .string S] 23)
  replace C := C.alloc (.cells #[.int .i64 K, .int .i64 0, .string S] 23)
  replace M := M.alloc (.cells #[.int .i64 K, .int .i64 0, .string S] 23)
  replace R := R.alloc (.cells #[.int .i64 K, .int .i64 0, .string S] 23)
  obtain ⟨qQ, hqQ⟩ : ∃ q, w5.heap.size = q := ⟨_, rfl⟩
  obtain ⟨A0, A1, A2, Al⟩ := id A
  obtain ⟨C0, C1, C2, Cl⟩ := id C
  obtain ⟨M0, M1, M2, Ml⟩ := id M
  obtain ⟨R0, R1, R2, Rl⟩ := id R
  obtain ⟨Q0, Q1, Q2, Ql⟩ := id Q
  rw [hqQ] at Q Q0 Q1 Q2 Ql
  go_wp2_with fail
  try rw [hqQ]
  generalize w5.alloc _ = w6a at *
  refine (D5 _ (tab_keep HT.out (hV.symm ▸ B))).mono ?_
  rintro e w6 ⟨rfl, hb⟩
  replace B := bthen B (by have := A.lt; omega) hb
  replace A := A.below hb
  replace C := C.below hb
  replace M := M.below hb
  replace R := R.below hb
  replace Q := Q.below hb
  clear A0 A1 A2 Al C0 C1 C2 Cl M0 M1 M2 Ml R0 R1 R2 Rl Q0 Q1 Q2 Ql
  clear hb
  have Y := At.new w6 K' 0 S'
  unfold vb at Y
  replace B := B.alloc (Nat.le_of_lt A.lt) (.cells #[.int .i64 K', .int .i64 0, .string S'] 23)
  replace A := A.alloc (.cells #[.int .i64 K', .int .i64 0, .string S'] 23)
  replace C := C.alloc (.cells #[.int .i64 K', .int .i64 0, .string S'] 23)
  replace M := M.alloc (.cells #[.int .i64 K', .int .i64 0, .string S'] 23)
  replace R := R.alloc (.cells #[.int .i64 K', .int .i64 0, .string S'] 23)
  replace Q := Q.alloc (.cells #[.int .i64 K', .int .i64 0, .string S'] 23)
  obtain ⟨qY, hqY⟩ : ∃ q, w6.heap.size = q := ⟨_, rfl⟩
  obtain ⟨A0, A1, A2, Al⟩ := id A
  obtain ⟨C0, C1, C2, Cl⟩ := id C
  obtain ⟨M0, M1, M2, Ml⟩ := id M
  obtain ⟨R0, R1, R2, Rl⟩ := id R
  obtain ⟨Q0, Q1, Q2, Ql⟩ := id Q
  obtain ⟨Y0, Y1, Y2, Yl⟩ := id Y
  rw [hqY] at Y Y0 Y1 Y2 Yl
  go_wp2_with fail
  try rw [hqY]
  generalize w6.alloc _ = w7a at *
  refine (D6 _ (tab_keep HT.out (hV.symm ▸ B))).mono ?_
  rintro e w7 ⟨rfl, hb⟩
  replace B := bthen B (by have := A.lt; omega) hb
  replace A := A.below hb
  replace C := C.below hb
  replace M := M.below hb
  replace R := R.below hb
  replace Q := Q.below hb
  replace Y := Y.below hb
  clear A0 A1 A2 Al C0 C1 C2 Cl M0 M1 M2 Ml R0 R1 R2 Rl Q0 Q1 Q2 Ql Y0 Y1 Y2 Yl
  clear hb
  have Z := At.new w7 K' 0 S'
  unfold vb at Z
  replace B := B.alloc (Nat.le_of_lt A.lt) (.cells #[.int .i64 K', .int .i64 0, .string S'] 23)
  replace A := A.alloc (.cells #[.int .i64 K', .int .i64 0, .string S'] 23)
  replace C := C.alloc (.cells #[.int .i64 K', .int .i64 0, .string S'] 23)
  replace M := M.alloc (.cells #[.int .i64 K', .int .i64 0, .string S'] 23)
  replace R := R.alloc (.cells #[.int .i64 K', .int .i64 0, .string S'] 23)
  replace Q := Q.alloc (.cells #[.int .i64 K', .int .i64 0, .string S'] 23)
  replace Y := Y.alloc (.cells #[.int .i64 K', .int .i64 0, .string S'] 23)
  obtain ⟨qZ, hqZ⟩ : ∃ q, w7.heap.size = q := ⟨_, rfl⟩
  obtain ⟨A0, A1, A2, Al⟩ := id A
  obtain ⟨C0, C1, C2, Cl⟩ := id C
  obtain ⟨M0, M1, M2, Ml⟩ := id M
  obtain ⟨R0, R1, R2, Rl⟩ := id R
  obtain ⟨Q0, Q1, Q2, Ql⟩ := id Q
  obtain ⟨Y0, Y1, Y2, Yl⟩ := id Y
  obtain ⟨Z0, Z1, Z2, Zl⟩ := id Z
  rw [hqZ] at Z Z0 Z1 Z2 Zl
  go_wp2_with fail
  try rw [hqZ]
  go_ret
  exact ⟨rfl, hV.symm ▸ B⟩

end Go.Proofs.YtimmoecjfkacpaaDoor
