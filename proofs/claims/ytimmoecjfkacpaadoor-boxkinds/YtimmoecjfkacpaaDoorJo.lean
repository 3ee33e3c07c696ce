/- The walk of Join. -/
import Derived.Test.YtimmoecjfkacpaaDoorJn
namespace Go.Proofs.YtimmoecjfkacpaaDoor
open Go.RowKit

abbrev zv : Value := vl 0 0 ⟨#[]⟩
abbrev zb : Obj := vb 0 0 ⟨#[]⟩
theorem third_cell {w w' : World} (o p : Obj) (h : Below (((w.alloc o).alloc p).alloc zb).heap.size (((w.alloc o).alloc p).alloc zb) w') :
    w'.cell? ⟨w.heap.size + 2, 0, none⟩ = some (.int .i64 0) ∧ w'.cell? ⟨w.heap.size + 2, 1, none⟩ = some (.int .i64 0) ∧ w'.cell? ⟨w.heap.size + 2, 2, none⟩ = some (.string ⟨#[]⟩) ∧
    w'.frozen? ⟨w.heap.size + 2, 0, none⟩ = false ∧ w'.frozen? ⟨w.heap.size + 2, 1, none⟩ = false ∧ w'.frozen? ⟨w.heap.size + 2, 2, none⟩ = false ∧ w.heap.size + 2 < w'.heap.size := by
  have hz := h.size
  simp at hz
  refine ⟨?_, ?_, ?_, ?_, ?_, ?_, by omega⟩
  · rw [h.cell (by simp)]; simp [go_sem]
  · rw [h.cell (by simp)]; simp [go_sem]
  · rw [h.cell (by simp)]; simp [go_sem]
  · rw [h.frozen (by simp)]; simp [go_sem]
  · rw [h.frozen (by simp)]; simp [go_sem]
  · rw [h.frozen (by simp)]; simp [go_sem]

theorem shw_size (b : Bx) (hb : b.ok) : b.shw.size ≤ 10020 := by
  rcases b with _ | (_ | _) | n | s | n | n | n
  · show (3 : Nat) ≤ _; omega
  · show (5 : Nat) ≤ _; omega
  · show (4 : Nat) ≤ _; omega
  · have := itoaS_size n hb.1 hb.2; show (itoaS n).size ≤ _; omega
  · have : s.size ≤ 10000 := hb; show s.size ≤ _; omega
  all_goals
    have := itoaS_size n (by have := hb.1; omega) hb.2
    simp only [Bx.shw, ByteArray.size_append]
    first | (show 7 + _ ≤ _; omega) | (show 10 + _ ≤ _; omega) | (show 9 + _ ≤ _; omega)

set_option maxRecDepth 20000 in
set_option maxHeartbeats 1000000 in
theorem join_not (a b : Bx) (ha : a.ok) (hb : b.ok) (h : (a.jn && b.jn) = false) (w : World) : Calls Tryd.prog 26 #[a.val, b.val] w fun e w' => e = .returned (.tuple #[zv, .int .i64 8]) ∧ Below w.heap.size w w' := by
  have C1 := both_ok a b ha hb
  have C2 := joins_any a
  have C3 := joins_any b
  unfold Bx.val vl at *
  have hcase : a.jn = false ∨ (a.jn = true ∧ b.jn = false) := by cases h1 : a.jn <;> simp_all
  clear ha hb h
  rcases hcase with h1 | ⟨h1, h2⟩
  · rw [h1] at C2
    clear h1
    go_enter Tryd.func26, Tryd.ntmps26
    go_wp2_with fail
    refine (C1 _).mono ?_; rintro e w1 ⟨rfl, hb1⟩
    obtain ⟨c0, c1, c2, f0, f1, f2, hz⟩ := third_cell _ _ hb1
    go_wp2_with fail
    refine (C2 _).mono ?_; rintro e w2 ⟨rfl, rfl⟩
    go_wp2_with fail
    have bb : Below w.heap.size w w2 := bthen (b3 _ _ _ _) (by simp; omega) hb1
    refine bodyPost_ret (v := .tuple #[zv, .int .i64 8]) (by simp [results, Tryd.results26, go_sem, c0, c1, c2]) rfl ⟨rfl, ?_⟩
    repeat (first | exact bb | refine Below.setCell ?_ (by simp; try omega) _)
  · rw [h1] at C2
    rw [h2] at C3
    clear h1 h2
    go_enter Tryd.func26, Tryd.ntmps26
    go_wp2_with fail
    refine (C1 _).mono ?_; rintro e w1 ⟨rfl, hb1⟩
    obtain ⟨c0, c1, c2, f0, f1, f2, hz⟩ := third_cell _ _ hb1
    go_wp2_with fail
    refine (C2 _).mono ?_; rintro e w2 ⟨rfl, rfl⟩
    go_wp2_with fail
    refine (C3 _).mono ?_; rintro e w2 ⟨rfl, rfl⟩
    go_wp2_with fail
    have bb : Below w.heap.size w w2 := bthen (b3 _ _ _ _) (by simp; omega) hb1
    refine bodyPost_ret (v := .tuple #[zv, .int .i64 8]) (by simp [results, Tryd.results26, go_sem, c0, c1, c2]) rfl ⟨rfl, ?_⟩
    repeat (first | exact bb | refine Below.setCell ?_ (by simp; try omega) _)

set_option maxRecDepth 20000 in
set_option maxHeartbeats 1000000 in
theorem join_bad (k n : Int) (s : ByteArray) (k' n' : Int) (s' : ByteArray) (h0 : -9223372036854775808 ≤ n) (h1 : n ≤ 9223372036854775807) (h : (inF k n s && inF k' n' s') = false) (w : World) :
    Calls Tryd.prog 26 #[vl k n s, vl k' n' s'] w fun e w' => e = .returned (.tuple #[zv, .int .i64 2]) ∧ Below w.heap.size w w' := by
  have C1 := both_bad k n s k' n' s' h0 h1 h
  clear h0 h1 h
  unfold vl at *
  go_enter Tryd.func26, Tryd.ntmps26
  go_wp2_with fail
  refine (C1 _).mono ?_; rintro e w1 ⟨rfl, hb1⟩
  obtain ⟨c0, c1, c2, f0, f1, f2, hz⟩ := third_cell _ _ hb1
  go_wp2_with fail
  have bb : Below w.heap.size w w1 := bthen (b3 _ _ _ _) (by simp; omega) hb1
  refine bodyPost_ret (v := .tuple #[zv, .int .i64 2]) (by simp [results, Tryd.results26, go_sem, c0, c1, c2]) rfl ⟨rfl, ?_⟩
  repeat (first | exact bb | refine Below.setCell ?_ (by simp; try omega) _)

theorem tab_third {w w' : World} (h : Tab w) (o p : Obj) (hb : Below (((w.alloc o).alloc p).alloc zb).heap.size (((w.alloc o).alloc p).alloc zb) w') : Tab w' :=
  tab_keep h (bthen (b3 _ _ _ _) (by simp; omega) hb)

set_option maxRecDepth 20000 in
set_option maxHeartbeats 1000000 in
theorem join_big (a b : Bx) (ha : a.ok) (hb : b.ok) (h1 : a.jn = true) (h2 : b.jn = true) (hs : 10000 < a.shw.size + b.shw.size) (w : World) (htab : Tab w) : Calls Tryd.prog 26 #[a.val, b.val] w fun e w' => e = .returned (.tuple #[zv, .int .i64 14]) ∧ Below w.heap.size w w' := by
  have C1 := both_ok a b ha hb
  have C2 := joins_any a
  have C3 := joins_any b
  have C4 := show_any a ha
  have C5 := show_any b hb
  have z1 := shw_size a ha
  have z2 := shw_size b hb
  rw [h1] at C2
  rw [h2] at C3
  unfold Bx.val vl at *
  have HT : Hid _ := htab
  clear ha hb h1 h2 htab
  generalize a.shw = sa at *
  generalize b.shw = sb at *
  have hs' : (10000 : Int) < ((sa ++ sb).size : Nat) := by rw [ByteArray.size_append]; omega
  go_enter Tryd.func26, Tryd.ntmps26
  go_wp2_with fail
  refine (C1 _).mono ?_; rintro e w1 ⟨rfl, hb1⟩
  go_wp2_with fail
  refine (C2 _).mono ?_; rintro e w1 ⟨rfl, rfl⟩
  go_wp2_with fail
  refine (C3 _).mono ?_; rintro e w1 ⟨rfl, rfl⟩
  go_wp2_with fail
  refine (C4 _ (tab_third HT.out _ _ hb1)).mono ?_; rintro e w2 ⟨rfl, hb2⟩
  have hb2' := bthen hb1 (bsize hb1) hb2
  go_wp2_with fail
  refine (C5 _ (tab_third HT.out _ _ hb2')).mono ?_; rintro e w3 ⟨rfl, hb3⟩
  have hb3' := bthen hb2' (bsize hb2') hb3
  obtain ⟨c0, c1, c2, f0, f1, f2, hz⟩ := third_cell _ _ hb3'
  have bb : Below w.heap.size w w3 := bthen (b3 _ _ _ _) (by simp; omega) hb3'
  have BB : Hid _ := bb
  clear hb1 hb2 hb2' hb3 hb3' bb
  go_wp2_with fail
  refine bodyPost_ret (v := .tuple #[zv, .int .i64 14]) (by simp [results, Tryd.results26, go_sem, c0, c1, c2]) rfl ⟨rfl, ?_⟩
  repeat (first | exact BB.out | refine Below.setCell ?_ (by simp; try omega) _)

set_option maxRecDepth 20000 in
set_option maxHeartbeats 1000000 in
theorem join_fit (a b : Bx) (ha : a.ok) (hb : b.ok) (h1 : a.jn = true) (h2 : b.jn = true) (hs : a.shw.size + b.shw.size ≤ 10000) (w : World) (htab : Tab w) : Calls Tryd.prog 26 #[a.val, b.val] w fun e w' => e = .returned (.tuple #[vl 3 0 (a.shw ++ b.shw), .int .i64 0]) ∧ Below w.heap.size w w' := by
  have C1 := both_ok a b ha hb
  have C2 := joins_any a
  have C3 := joins_any b
  have C4 := show_any a ha
  have C5 := show_any b hb
  have C6 := take_any (.str (a.shw ++ b.shw))
  have z1 := shw_size a ha
  have z2 := shw_size b hb
  rw [h1] at C2
  rw [h2] at C3
  simp only [Bx.box, Bx.val, Bx.blk, Bx.kind, Bx.num, Bx.txt] at C6
  unfold Bx.val vl at *
  unfold vb at C6
  have HT : Hid _ := htab
  clear ha hb h1 h2 htab
  generalize a.shw = sa at *
  generalize b.shw = sb at *
  have hs' : ¬ (10000 : Int) < ((sa ++ sb).size : Nat) := by rw [ByteArray.size_append]; omega
  go_enter Tryd.func26, Tryd.ntmps26
  go_wp2_with fail
  refine (C1 _).mono ?_; rintro e w1 ⟨rfl, hb1⟩
  go_wp2_with fail
  refine (C2 _).mono ?_; rintro e w1 ⟨rfl, rfl⟩
  go_wp2_with fail
  refine (C3 _).mono ?_; rintro e w1 ⟨rfl, rfl⟩
  go_wp2_with fail
  refine (C4 _ (tab_third HT.out _ _ hb1)).mono ?_; rintro e w2 ⟨rfl, hb2⟩
  have hb2' := bthen hb1 (bsize hb1) hb2
  go_wp2_with fail
  refine (C5 _ (tab_third HT.out _ _ hb2')).mono ?_; rintro e w3 ⟨rfl, hb3⟩
  have hb3' := bthen hb2' (bsize hb2') hb3
  have bb : Below w.heap.size w w3 := bthen (b3 _ _ _ _) (by simp; omega) hb3'
  have BB : Hid _ := bb
  have HB3 : Hid _ := hb3'
  clear hb1 hb2 hb2' hb3 hb3' bb
  go_wp2_with fail
  refine (C6 _).mono ?_; rintro e w4 ⟨rfl, rfl⟩
  have hb4 := bthen HB3.out (bsize HB3.out) (b1 w3 (.cells #[.int .i64 3, .int .i64 0, .string (sa ++ sb)] 23))
  have bb4 : Below w.heap.size w (w3.alloc (.cells #[.int .i64 3, .int .i64 0, .string (sa ++ sb)] 23)) := BB.out.alloc (bsize BB.out) _
  obtain ⟨c0, c1, c2, f0, f1, f2, hz⟩ := third_cell _ _ hb4
  clear hb4
  generalize w3.alloc (.cells #[.int .i64 3, .int .i64 0, .string (sa ++ sb)] 23) = w5 at *
  go_wp2_with fail
  refine bodyPost_ret (v := .tuple #[vl 3 0 (sa ++ sb), .int .i64 0]) (by simp [results, Tryd.results26, go_sem, c0, c1, c2]) rfl ⟨rfl, ?_⟩
  repeat (first | exact bb4 | refine Below.setCell ?_ (by simp; try omega) _)

end Go.Proofs.YtimmoecjfkacpaaDoor
