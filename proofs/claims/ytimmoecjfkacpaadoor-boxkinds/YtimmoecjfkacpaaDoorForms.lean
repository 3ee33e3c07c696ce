/- The walk of the law BoxForms. -/
import Derived.Test.YtimmoecjfkacpaaDoorRefA
namespace Go.Proofs.YtimmoecjfkacpaaDoor
open Go.RowKit

/-- The cells of a value that lies in block g. -/
structure At (w : World) (g : Nat) (k n : Int) (s : ByteArray) : Prop where
  k : w.cell? ⟨g, 0, none⟩ = some (.int .i64 k)
  n : w.cell? ⟨g, 1, none⟩ = some (.int .i64 n)
  s : w.cell? ⟨g, 2, none⟩ = some (.string s)
  lt : g < w.heap.size
theorem At.new (w : World) (k n : Int) (s : ByteArray) : At (w.alloc (vb k n s)) w.heap.size k n s := by
  refine ⟨?_, ?_, ?_, by simp⟩ <;> simp [go_sem]
theorem At.below {w w' : World} {g : Nat} {k n : Int} {s : ByteArray} (h : At w g k n s) (hb : Below w.heap.size w w') : At w' g k n s :=
  ⟨by rw [hb.cell (by exact h.lt)]; exact h.k, by rw [hb.cell (by exact h.lt)]; exact h.n, by rw [hb.cell (by exact h.lt)]; exact h.s, Nat.lt_of_lt_of_le h.lt hb.size⟩
theorem At.alloc {w : World} {g : Nat} {k n : Int} {s : ByteArray} (h : At w g k n s) (o : Obj) : At (w.alloc o) g k n s := h.below (b1 w o)

set_option maxRecDepth 20000 in
set_option maxHeartbeats 1000000 in
theorem forms_bad (k n : Int) (s : ByteArray) (h : inF k n s = false) (w : World) (htab : Tab w) : Calls Tryd.prog 3 #[vl k n s] w fun e w' => e = .returned (.bool true) ∧ Below w.heap.size w w' := by
  have HT : Hid _ := htab
  clear htab
  have D1 := rcheck_any k n s
  have D2 := round_bad k n s h
  have D3 := truth_bad k n s h
  have D4 := type_bad k n s h
  have D5 := show_bad k n s h
  have D6 := check_any k n s
  have hc : chk k n s = 2 := by simp [chk, h]
  rw [hc] at D1 D6
  clear h hc
  unfold vl vb at *
  go_enter Tryd.func3, Tryd.ntmps3
  go_wp2_with fail
  refine (D1 _).mono ?_; rintro e w1 ⟨rfl, rfl⟩
  have A := (At.new w k n s).alloc (vb k n s)
  have B := b2 w (vb k n s) (vb k n s)
  unfold vb at A B
  generalize (w.alloc _).alloc _ = w1 at *
  obtain ⟨a0, a1, a2, al⟩ := id A
  obtain ⟨V, hV⟩ : ∃ V, w.heap.size = V := ⟨_, rfl⟩
  rw [hV] at A B a0 a1 a2 al ⊢
  have hVB : V ≤ w1.heap.size := Nat.le_of_lt al
  go_wp2_with fail
  refine (D2 _).mono ?_; rintro e w2 ⟨rfl, hb2⟩
  replace A := (A.below hb2).alloc (.cells #[.int .i64 0, .int .i64 0, .string ⟨#[]⟩] 23)
  have Z := At.new w2 0 0 ⟨#[]⟩
  replace B := (bthen B hVB hb2).alloc (Nat.le_trans hVB (bsize hb2)) (.cells #[.int .i64 0, .int .i64 0, .string ⟨#[]⟩] 23)
  clear a0 a1 a2 al hb2 hVB
  obtain ⟨a0, a1, a2, al⟩ := id A
  unfold vb at Z
  go_wp2_with fail
  obtain ⟨R, hR⟩ : ∃ R, w2.heap.size = R := ⟨_, rfl⟩
  rw [hR] at Z ⊢
  clear a0 a1 a2 al
  generalize w2.alloc _ = w3 at *
  refine (D3 _).mono ?_; rintro e w4 ⟨rfl, hb⟩
  replace B := bthen B (by have := A.lt; omega) hb
  replace A := A.below hb
  replace Z := Z.below hb
  clear hb
  obtain ⟨a0, a1, a2, al⟩ := id A
  go_wp2_with fail
  refine (D4 _).mono ?_; rintro e w5 ⟨rfl, hb⟩
  replace B := bthen B (by have := A.lt; omega) hb
  replace A := A.below hb
  replace Z := Z.below hb
  clear hb a0 a1 a2 al
  obtain ⟨a0, a1, a2, al⟩ := id A
  go_wp2_with fail
  refine (D5 _).mono ?_; rintro e w6 ⟨rfl, hb⟩
  replace B := bthen B (by have := A.lt; omega) hb
  replace A := A.below hb
  replace Z := Z.below hb
  clear hb a0 a1 a2 al
  obtain ⟨a0, a1, a2, al⟩ := id A
  go_wp2_with fail
  refine (fixed_any _ (tab_keep HT.out (hV.symm ▸ B))).mono ?_; rintro e w7 ⟨rfl, hb⟩
  replace B := bthen B (by have := A.lt; omega) hb
  replace A := A.below hb
  replace Z := Z.below hb
  clear hb a0 a1 a2 al
  obtain ⟨a0, a1, a2, al⟩ := id A
  go_wp2_with fail
  refine (D6 _).mono ?_; rintro e w8 ⟨rfl, rfl⟩
  replace B := B.alloc (Nat.le_of_lt A.lt) (.cells #[.int .i64 k, .int .i64 n, .string s] 23)
  replace A := A.alloc (.cells #[.int .i64 k, .int .i64 n, .string s] 23)
  replace Z := Z.alloc (.cells #[.int .i64 k, .int .i64 n, .string s] 23)
  clear a0 a1 a2 al
  generalize w7.alloc _ = w8 at *
  obtain ⟨a0, a1, a2, al⟩ := id A
  obtain ⟨z0, z1, z2, zl⟩ := id Z
  go_wp2_with fail
  go_ret
  exact ⟨rfl, hV.symm ▸ B⟩

set_option maxRecDepth 20000 in
set_option maxHeartbeats 1000000 in
theorem forms_ok (b : Bx) (hb : b.ok) (w : World) (htab : Tab w) : Calls Tryd.prog 3 #[b.val] w fun e w' => e = .returned (.bool true) ∧ Below w.heap.size w w' := by
  have HT : Hid _ := htab
  clear htab
  have D1 := rcheck_any b.kind b.num b.txt
  have D2 := round_ok b hb
  have D3 := truth_ok b hb
  have D4 := type_ok b hb
  have D5 := show_ok b hb
  have D6 := check_any b.kind b.num b.txt
  have D7 := rtruth_ok b
  have D8 := rtype_ok b
  have D9 := rshow_ok b hb
  have hc : chk b.kind b.num b.txt = 0 := by simp [chk, ok_form b hb]
  rw [hc] at D1 D6
  clear hc hb
  unfold Bx.val at *
  generalize b.tru = tr at *
  generalize b.tyn = ty at *
  generalize b.shw = sh at *
  generalize b.kind = k at *
  generalize b.num = n at *
  generalize b.txt = s at *
  clear b
  unfold vl vb at *
  go_enter Tryd.func3, Tryd.ntmps3
  go_wp2_with fail
  refine (D1 _).mono ?_; rintro e w1 ⟨rfl, rfl⟩
  have A := (At.new w k n s).alloc (vb k n s)
  have B := b2 w (vb k n s) (vb k n s)
  unfold vb at A B
  generalize (w.alloc _).alloc _ = w1 at *
  obtain ⟨a0, a1, a2, al⟩ := id A
  obtain ⟨V, hV⟩ : ∃ V, w.heap.size = V := ⟨_, rfl⟩
  rw [hV] at A B a0 a1 a2 al ⊢
  have hVB : V ≤ w1.heap.size := Nat.le_of_lt al
  go_wp2_with fail
  refine (D2 _).mono ?_; rintro e w2 ⟨rfl, hb2⟩
  replace A := (A.below hb2).alloc (.cells #[.int .i64 k, .int .i64 n, .string s] 23)
  have Z := At.new w2 k n s
  replace B := (bthen B hVB hb2).alloc (Nat.le_trans hVB (bsize hb2)) (.cells #[.int .i64 k, .int .i64 n, .string s] 23)
  clear a0 a1 a2 al hb2 hVB
  obtain ⟨a0, a1, a2, al⟩ := id A
  unfold vb at Z
  go_wp2_with fail
  obtain ⟨R, hR⟩ : ∃ R, w2.heap.size = R := ⟨_, rfl⟩
  rw [hR] at Z ⊢
  clear a0 a1 a2 al
  generalize w2.alloc _ = w3 at *
  refine (D3 _).mono ?_; rintro e w4 ⟨rfl, hb⟩
  replace B := bthen B (by have := A.lt; omega) hb
  replace A := A.below hb
  replace Z := Z.below hb
  clear hb
  obtain ⟨a0, a1, a2, al⟩ := id A
  go_wp2_with fail
  refine (D4 _).mono ?_; rintro e w5 ⟨rfl, hb⟩
  replace B := bthen B (by have := A.lt; omega) hb
  replace A := A.below hb
  replace Z := Z.below hb
  clear hb a0 a1 a2 al
  obtain ⟨a0, a1, a2, al⟩ := id A
  go_wp2_with fail
  refine (D5 _ (tab_keep HT.out (hV.symm ▸ B))).mono ?_; rintro e w6 ⟨rfl, hb⟩
  replace B := bthen B (by have := A.lt; omega) hb
  replace A := A.below hb
  replace Z := Z.below hb
  clear hb a0 a1 a2 al
  obtain ⟨a0, a1, a2, al⟩ := id A
  go_wp2_with fail
  refine (fixed_any _ (tab_keep HT.out (hV.symm ▸ B))).mono ?_; rintro e w7 ⟨rfl, hb⟩
  replace B := bthen B (by have := A.lt; omega) hb
  replace A := A.below hb
  replace Z := Z.below hb
  clear hb a0 a1 a2 al
  obtain ⟨a0, a1, a2, al⟩ := id A
  go_wp2_with fail
  refine (D6 _).mono ?_; rintro e w8 ⟨rfl, rfl⟩
  replace B := B.alloc (Nat.le_of_lt A.lt) (.cells #[.int .i64 k, .int .i64 n, .string s] 23)
  replace A := A.alloc (.cells #[.int .i64 k, .int .i64 n, .string s] 23)
  replace Z := Z.alloc (.cells #[.int .i64 k, .int .i64 n, .string s] 23)
  clear a0 a1 a2 al
  generalize w7.alloc _ = w8 at *
  obtain ⟨a0, a1, a2, al⟩ := id A
  obtain ⟨z0, z1, z2, zl⟩ := id Z
  go_wp2_with fail
  refine (D7 _).mono ?_; rintro e w9 ⟨rfl, hb⟩
  replace B := bthen B (by have := A.lt; omega) hb
  replace A := A.below hb
  clear hb a0 a1 a2 al
  obtain ⟨a0, a1, a2, al⟩ := id A
  go_wp2_with fail
  refine (D8 _).mono ?_; rintro e w10 ⟨rfl, hb⟩
  replace B := bthen B (by have := A.lt; omega) hb
  replace A := A.below hb
  clear hb a0 a1 a2 al
  obtain ⟨a0, a1, a2, al⟩ := id A
  go_wp2_with fail
  refine (D9 _).mono ?_; rintro e w11 ⟨rfl, hb⟩
  replace B := bthen B (by have := A.lt; omega) hb
  replace A := A.below hb
  clear hb a0 a1 a2 al
  obtain ⟨a0, a1, a2, al⟩ := id A
  go_wp2_with fail
  go_ret
  exact ⟨rfl, hV.symm ▸ B⟩

theorem forms_walk (k n : Int) (s : ByteArray) (w : World) (h0 : -9223372036854775808 ≤ n) (h1 : n ≤ 9223372036854775807) (htab : Tab w) : Calls Tryd.prog 3 #[vl k n s] w fun e w' => e = .returned (.bool true) ∧ Below w.heap.size w w' := by
  cases hf : inF k n s
  · exact forms_bad k n s hf w htab
  · obtain ⟨b, hb, rfl, rfl, rfl⟩ := form_of k n s h0 h1 hf
    exact forms_ok b hb w htab

end Go.Proofs.YtimmoecjfkacpaaDoor
