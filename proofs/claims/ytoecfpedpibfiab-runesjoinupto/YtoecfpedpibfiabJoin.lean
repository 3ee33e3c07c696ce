/- The walk of RunesJoin. -/
import Derived.Test.YtoecfpedpibfiabMisc
import Derived.Test.YtoecfpedpibfiabPartAny
import Derived.Deep.QuietTactic
import Derived.BigQuiet
namespace Go.Proofs.Ytoecfpedpibfiab
open Go.RowKit

theorem own_below' {w w' : World} {base : Nat} {e : TypeId} {size : Nat} {v : Value} {n : Nat} {xs : List Value} (h : w.ownsRow base e size v n xs) (hb : Below w.heap.size w w') : w'.ownsRow base e size v n xs := by
  have hlt := h.lt
  refine ⟨h.1, ?_⟩
  rcases h.2 with h2 | ⟨g, cap, cur, rfl, h2, h3, r⟩
  · exact .inl h2
  · exact .inr ⟨g, cap, cur, rfl, h2, (hb.block g (hlt g rfl).2).trans h3, r⟩

set_option maxRecDepth 20000 in
set_option maxHeartbeats 4000000 in
theorem join_same (s t : ByteArray) (L1 L2 L3 : List Rn) (bad : Int) (w : World) (hst : s.size + t.size ≤ 1048576) (h1 : L1.length ≤ s.size) (h2 : L2.length ≤ t.size) (H3 : Hid (L3 = L1 ++ L2.map (fun r => (r.1 + s.size, r.2.1, r.2.2)))) (HB : Hid (∀ r ∈ L2, r.1 ≤ t.size)) (hbad : bad < 0)
    (C5 : ∀ W, Calls Try.prog 5 #[.string s] W fun e W' => e = .returned (.int .i64 bad) ∧ Below W.heap.size W W')
    (C6a : ∀ W, Calls Try.prog 6 #[.string s] W fun e W' => ∃ v, e = .returned v ∧ W'.ownsRow W.heap.size 28 3 v L1.length (cellsOf L1) ∧ Below W.heap.size W W')
    (C6b : ∀ W, Calls Try.prog 6 #[.string t] W fun e W' => ∃ v, e = .returned v ∧ W'.ownsRow W.heap.size 28 3 v L2.length (cellsOf L2) ∧ Below W.heap.size W W')
    (C6c : ∀ W, Calls Try.prog 6 #[.string (s ++ t)] W fun e W' => ∃ v, e = .returned v ∧ W'.ownsRow W.heap.size 28 3 v (L1.length + L2.length) (cellsOf L3) ∧ Below W.heap.size W W')
    (C7a : ∀ W, Calls Try.prog 7 #[.string s] W fun e W' => e = .returned (.int .i64 L1.length) ∧ Below W.heap.size W W')
    (C7b : ∀ W, Calls Try.prog 7 #[.string t] W fun e W' => e = .returned (.int .i64 L2.length) ∧ Below W.heap.size W W')
    (C7c : ∀ W, Calls Try.prog 7 #[.string (s ++ t)] W fun e W' => e = .returned (.int .i64 ((L1.length : Int) + (L2.length : Int))) ∧ Below W.heap.size W W')
    (C8 : ∀ W, Calls Try.prog 8 #[.string (s ++ t), .int .i64 L1.length, .int .i64 ((L1.length : Int) + (L2.length : Int))] W fun e W' => e = .returned (.string t) ∧ Below W.heap.size W W') :
    Calls Try.prog 3 #[.string s, .string t] w fun e w' => e = .returned (.bool true) ∧ Below w.heap.size w w' := by
  have C4 := fixed_any
  have hbad' : ¬ 0 ≤ bad := by omega
  go_enter Try.func3, Try.ntmps3
  go_wp2_with (first
    | (go_at_call 4; refine (C4 _).mono ?_; rintro e w1 ⟨rfl, b1⟩)
    | (go_at_call 5; refine (C5 _).mono ?_; rintro e w2 ⟨rfl, b2⟩))
  refine (C6a _).mono ?_
  rintro e w3 ⟨v, rfl, o3, b3⟩
  obtain ⟨a3, c3, rfl⟩ := slice_shape o3
  go_wp2_with fail
  refine (C6b _).mono ?_
  rintro e w4 ⟨v, rfl, o4, b4⟩
  obtain ⟨a4, c4, rfl⟩ := slice_shape o4
  go_wp2_with fail
  refine (C6c _).mono ?_
  rintro e w5 ⟨v, rfl, o5, b5⟩
  obtain ⟨a5, c5, rfl⟩ := slice_shape o5
  go_wp2_with fail
  refine (C7c _).mono ?_
  rintro e w6 ⟨rfl, b6⟩
  go_wp2_with fail
  refine (C7a _).mono ?_
  rintro e w7 ⟨rfl, b7⟩
  go_wp2_with fail
  refine (C7b _).mono ?_
  rintro e w8 ⟨rfl, b8⟩
  go_wp2_with fail
  refine (C8 _).mono ?_
  rintro e w9 ⟨rfl, b9⟩
  go_wp2_with fail
  have bb0 := bel_on (bel_on (bel_on (bel_on b5 b6) b7) b8) b9
  have r3 := own_below' o3 (bel_on b4 bb0)
  have r4 := own_below' o4 bb0
  have r5 := own_below' o5 (bel_on (bel_on (bel_on b6 b7) b8) b9)
  have bw := bel_on (bel_on (bel_on (bel_on b1 b2) b3) b4) bb0
  clear o3 o4 o5 b1 b2 b3 b4 b5 b6 b7 b8 b9 bb0 C4 C5 C6a C6b C6c C7a C7b C7c C8
  go_loopw [9] (fun i wr => ∃ k : Nat, k ≤ L1.length + L2.length ∧ i = .int .i64 k ∧ Below w9.heap.size w9 wr) (fun i _ => L1.length + L2.length - (intOf i).toNat)
  case atStart => exact ⟨0, by omega, rfl, Below.refl _ _⟩
  case round =>
    obtain ⟨k, hk, rfl, hbr⟩ := hrel
    have hl3 : L3.length = L1.length + L2.length := by rw [H3.out]; simp
    by_cases hlt : k < L1.length + L2.length
    · have hlt' : (k : Int) < (L1.length : Int) + (L2.length : Int) := by omega
      obtain ⟨g5, cap5, hv5, hg5, hg5', hcap5, hcell5⟩ := row_cells (own_below' r5 hbr) (by omega)
      simp only [Value.slice.injEq] at hv5
      obtain ⟨rfl, _, rfl⟩ := hv5
      obtain ⟨q1, q2, q3⟩ := cells_get L3 k (by omega)
      by_cases h1k : k < L1.length
      · have h1k' : (k : Int) < (L1.length : Int) := by omega
        obtain ⟨g3, cap3, hv3, hg3, hg3', hcap3, hcell3⟩ := row_cells (own_below' r3 hbr) (by omega)
        simp only [Value.slice.injEq] at hv3
        obtain ⟨rfl, _, rfl⟩ := hv3
        obtain ⟨p1, p2, p3⟩ := cells_get L1 k h1k
        have he : L3[k] = L1[k] := by
          have h : L3[k]? = L1[k]? := by rw [H3.out, List.getElem?_append_left h1k]
          rw [List.getElem?_eq_getElem (by omega), List.getElem?_eq_getElem h1k] at h
          exact Option.some.inj h
        rw [he] at q1 q2 q3
        obtain ⟨r, hr⟩ : ∃ r, L1[k] = r := ⟨_, rfl⟩
        rw [hr] at p1 p2 p3 q1 q2 q3
        have d1 := hcell5 _ _ q1
        have d2 := hcell5 _ _ q2
        have d3 := hcell5 _ _ q3
        have f1 := hcell3 _ _ p1
        have f2 := hcell3 _ _ p2
        have f3 := hcell3 _ _ p3
        obtain ⟨X, hX⟩ : ∃ X : Int, (r.1 : Int) = X := ⟨_, rfl⟩
        obtain ⟨Y, hY⟩ : ∃ Y : Int, (r.2.1 : Int) = Y := ⟨_, rfl⟩
        obtain ⟨Z, hZ⟩ : ∃ Z : Int, (r.2.2 : Int) = Z := ⟨_, rfl⟩
        rw [hX] at d1 f1
        rw [hY] at d2 f2
        rw [hZ] at d3 f3
        have d1' := alloc_cell hg5' d1
        have d2' := alloc_cell hg5' d2
        have d3' := alloc_cell hg5' d3
        have f1' := alloc_cell hg3' f1
        have f2' := alloc_cell hg3' f2
        have f3' := alloc_cell hg3' f3
        clear hcell5 hcell3 q1 q2 q3 p1 p2 p3 hr hX hY hZ he hl3 r3 r4 r5 H3 HB
        have n1 := (new_cell wr [.int .i64 X, .int .i64 Y, .int .i64 Z] 28 0 _ rfl).1
        have n2 := (new_cell wr [.int .i64 X, .int .i64 Y, .int .i64 Z] 28 1 _ rfl).1
        have n3 := (new_cell wr [.int .i64 X, .int .i64 Y, .int .i64 Z] 28 2 _ rfl).1
        go_wp2
        go_quiet (fail)
        go_wp2
        go_roundw
        case rel => exact ⟨k + 1, by omega, by go_num, below_drewN (bel_new hbr _) _⟩
        case measure => simp [intOf]; omega
      · have h1k' : ¬ (k : Int) < (L1.length : Int) := by omega
        obtain ⟨m, hm⟩ : ∃ m, k - L1.length = m := ⟨_, rfl⟩
        have hm2 : m < L2.length := by omega
        have hwm : IntKind.i64.wrap ((k : Int) - (L1.length : Int)) = (m : Int) := by rw [IntKind.wrap_i64]; omega
        have hm2' : (m : Int) < (L2.length : Int) := by omega
        obtain ⟨g4, cap4, hv4, hg4, hg4', hcap4, hcell4⟩ := row_cells (own_below' r4 hbr) (by omega)
        simp only [Value.slice.injEq] at hv4
        obtain ⟨rfl, _, rfl⟩ := hv4
        obtain ⟨p1, p2, p3⟩ := cells_get L2 m hm2
        obtain ⟨r, hr⟩ : ∃ r, L2[m] = r := ⟨_, rfl⟩
        have hx := HB.out r (by rw [← hr]; exact List.getElem_mem hm2)
        have he : L3[k] = (r.1 + s.size, r.2.1, r.2.2) := by
          have h : L3[k]? = (L2[m]?).map (fun r => (r.1 + s.size, r.2.1, r.2.2)) := by rw [H3.out, List.getElem?_append_right (by omega), List.getElem?_map, hm]
          rw [List.getElem?_eq_getElem (by omega), List.getElem?_eq_getElem hm2, hr] at h
          exact Option.some.inj h
        rw [he] at q1 q2 q3
        rw [hr] at p1 p2 p3
        simp only at q1 q2 q3
        have d1 := hcell5 _ _ q1
        have d2 := hcell5 _ _ q2
        have d3 := hcell5 _ _ q3
        have f1 := hcell4 _ _ p1
        have f2 := hcell4 _ _ p2
        have f3 := hcell4 _ _ p3
        obtain ⟨x, y, z⟩ := r
        simp only at d1 d2 d3 f1 f2 f3 hx
        obtain ⟨q, hq⟩ : ∃ q, x + s.size = q := ⟨_, rfl⟩
        rw [hq] at d1
        have hwr : IntKind.i64.wrap ((x : Int) + (s.size : Int)) = (q : Int) := by rw [IntKind.wrap_i64]; omega
        have d1' := alloc_cell hg5' d1
        have d2' := alloc_cell hg5' d2
        have d3' := alloc_cell hg5' d3
        have f1' := alloc_cell hg4' f1
        have f2' := alloc_cell hg4' f2
        have f3' := alloc_cell hg4' f3
        clear hcell5 hcell4 q1 q2 q3 p1 p2 p3 hr he hl3 r3 r4 r5 H3 HB
        have n1 := (new_cell wr [.int .i64 q, .int .i64 y, .int .i64 z] 28 0 _ rfl).1
        have n2 := (new_cell wr [.int .i64 q, .int .i64 y, .int .i64 z] 28 1 _ rfl).1
        have n3 := (new_cell wr [.int .i64 q, .int .i64 y, .int .i64 z] 28 2 _ rfl).1
        go_wp2
        go_quiet (fail)
        go_wp2
        go_roundw
        case rel => exact ⟨k + 1, by omega, by go_num, below_drewN (bel_new hbr _) _⟩
        case measure => simp [intOf]; omega
    · have hlt' : ¬ (k : Int) < (L1.length : Int) + (L2.length : Int) := by omega
      clear r3 r4 r5 hl3 H3 HB
      go_wp2
      go_ret
      exact ⟨rfl, bel_on bw hbr⟩

set_option maxRecDepth 20000 in
set_option maxHeartbeats 4000000 in
theorem join_cut (s0 s t : ByteArray) (k0 : Nat) (hk0 : k0 ≤ s0.size) (hsx : s0.extract 0 k0 = s) (_hs0 : s0.size ≤ 1048576) (L1 L2 L3 : List Rn) (w : World) (hst : s.size + t.size ≤ 1048576) (h1 : L1.length ≤ s.size) (h2 : L2.length ≤ t.size) (H3 : Hid (L3 = L1 ++ L2.map (fun r => (r.1 + s.size, r.2.1, r.2.2)))) (HB : Hid (∀ r ∈ L2, r.1 ≤ t.size))
    (C5 : ∀ W, Calls Try.prog 5 #[.string s0] W fun e W' => e = .returned (.int .i64 k0) ∧ Below W.heap.size W W')
    (C6a : ∀ W, Calls Try.prog 6 #[.string s] W fun e W' => ∃ v, e = .returned v ∧ W'.ownsRow W.heap.size 28 3 v L1.length (cellsOf L1) ∧ Below W.heap.size W W')
    (C6b : ∀ W, Calls Try.prog 6 #[.string t] W fun e W' => ∃ v, e = .returned v ∧ W'.ownsRow W.heap.size 28 3 v L2.length (cellsOf L2) ∧ Below W.heap.size W W')
    (C6c : ∀ W, Calls Try.prog 6 #[.string (s ++ t)] W fun e W' => ∃ v, e = .returned v ∧ W'.ownsRow W.heap.size 28 3 v (L1.length + L2.length) (cellsOf L3) ∧ Below W.heap.size W W')
    (C7a : ∀ W, Calls Try.prog 7 #[.string s] W fun e W' => e = .returned (.int .i64 L1.length) ∧ Below W.heap.size W W')
    (C7b : ∀ W, Calls Try.prog 7 #[.string t] W fun e W' => e = .returned (.int .i64 L2.length) ∧ Below W.heap.size W W')
    (C7c : ∀ W, Calls Try.prog 7 #[.string (s ++ t)] W fun e W' => e = .returned (.int .i64 ((L1.length : Int) + (L2.length : Int))) ∧ Below W.heap.size W W')
    (C8 : ∀ W, Calls Try.prog 8 #[.string (s ++ t), .int .i64 L1.length, .int .i64 ((L1.length : Int) + (L2.length : Int))] W fun e W' => e = .returned (.string t) ∧ Below W.heap.size W W') :
    Calls Try.prog 3 #[.string s0, .string t] w fun e w' => e = .returned (.bool true) ∧ Below w.heap.size w w' := by
  have C4 := fixed_any
  have hk1 : (k0 : Int) ≤ (s0.size : Int) := by omega
  go_enter Try.func3, Try.ntmps3
  go_wp2_with (first
    | (go_at_call 4; refine (C4 _).mono ?_; rintro e w1 ⟨rfl, b1⟩)
    | (go_at_call 5; refine (C5 _).mono ?_; rintro e w2 ⟨rfl, b2⟩))
  refine (C6a _).mono ?_
  rintro e w3 ⟨v, rfl, o3, b3⟩
  obtain ⟨a3, c3, rfl⟩ := slice_shape o3
  go_wp2_with fail
  refine (C6b _).mono ?_
  rintro e w4 ⟨v, rfl, o4, b4⟩
  obtain ⟨a4, c4, rfl⟩ := slice_shape o4
  go_wp2_with fail
  refine (C6c _).mono ?_
  rintro e w5 ⟨v, rfl, o5, b5⟩
  obtain ⟨a5, c5, rfl⟩ := slice_shape o5
  go_wp2_with fail
  refine (C7c _).mono ?_
  rintro e w6 ⟨rfl, b6⟩
  go_wp2_with fail
  refine (C7a _).mono ?_
  rintro e w7 ⟨rfl, b7⟩
  go_wp2_with fail
  refine (C7b _).mono ?_
  rintro e w8 ⟨rfl, b8⟩
  go_wp2_with fail
  refine (C8 _).mono ?_
  rintro e w9 ⟨rfl, b9⟩
  go_wp2_with fail
  have bb0 := bel_on (bel_on (bel_on (bel_on b5 b6) b7) b8) b9
  have r3 := own_below' o3 (bel_on b4 bb0)
  have r4 := own_below' o4 bb0
  have r5 := own_below' o5 (bel_on (bel_on (bel_on b6 b7) b8) b9)
  have bw := bel_on (bel_on (bel_on (bel_on b1 b2) b3) b4) bb0
  clear o3 o4 o5 b1 b2 b3 b4 b5 b6 b7 b8 b9 bb0 C4 C5 C6a C6b C6c C7a C7b C7c C8
  go_loopw [9] (fun i wr => ∃ k : Nat, k ≤ L1.length + L2.length ∧ i = .int .i64 k ∧ Below w9.heap.size w9 wr) (fun i _ => L1.length + L2.length - (intOf i).toNat)
  case atStart => exact ⟨0, by omega, rfl, Below.refl _ _⟩
  case round =>
    obtain ⟨k, hk, rfl, hbr⟩ := hrel
    have hl3 : L3.length = L1.length + L2.length := by rw [H3.out]; simp
    by_cases hlt : k < L1.length + L2.length
    · have hlt' : (k : Int) < (L1.length : Int) + (L2.length : Int) := by omega
      obtain ⟨g5, cap5, hv5, hg5, hg5', hcap5, hcell5⟩ := row_cells (own_below' r5 hbr) (by omega)
      simp only [Value.slice.injEq] at hv5
      obtain ⟨rfl, _, rfl⟩ := hv5
      obtain ⟨q1, q2, q3⟩ := cells_get L3 k (by omega)
      by_cases h1k : k < L1.length
      · have h1k' : (k : Int) < (L1.length : Int) := by omega
        obtain ⟨g3, cap3, hv3, hg3, hg3', hcap3, hcell3⟩ := row_cells (own_below' r3 hbr) (by omega)
        simp only [Value.slice.injEq] at hv3
        obtain ⟨rfl, _, rfl⟩ := hv3
        obtain ⟨p1, p2, p3⟩ := cells_get L1 k h1k
        have he : L3[k] = L1[k] := by
          have h : L3[k]? = L1[k]? := by rw [H3.out, List.getElem?_append_left h1k]
          rw [List.getElem?_eq_getElem (by omega), List.getElem?_eq_getElem h1k] at h
          exact Option.some.inj h
        rw [he] at q1 q2 q3
        obtain ⟨r, hr⟩ : ∃ r, L1[k] = r := ⟨_, rfl⟩
        rw [hr] at p1 p2 p3 q1 q2 q3
        have d1 := hcell5 _ _ q1
        have d2 := hcell5 _ _ q2
        have d3 := hcell5 _ _ q3
        have f1 := hcell3 _ _ p1
        have f2 := hcell3 _ _ p2
        have f3 := hcell3 _ _ p3
        obtain ⟨X, hX⟩ : ∃ X : Int, (r.1 : Int) = X := ⟨_, rfl⟩
        obtain ⟨Y, hY⟩ : ∃ Y : Int, (r.2.1 : Int) = Y := ⟨_, rfl⟩
        obtain ⟨Z, hZ⟩ : ∃ Z : Int, (r.2.2 : Int) = Z := ⟨_, rfl⟩
        rw [hX] at d1 f1
        rw [hY] at d2 f2
        rw [hZ] at d3 f3
        have d1' := alloc_cell hg5' d1
        have d2' := alloc_cell hg5' d2
        have d3' := alloc_cell hg5' d3
        have f1' := alloc_cell hg3' f1
        have f2' := alloc_cell hg3' f2
        have f3' := alloc_cell hg3' f3
        clear hcell5 hcell3 q1 q2 q3 p1 p2 p3 hr hX hY hZ he hl3 r3 r4 r5 H3 HB
        have n1 := (new_cell wr [.int .i64 X, .int .i64 Y, .int .i64 Z] 28 0 _ rfl).1
        have n2 := (new_cell wr [.int .i64 X, .int .i64 Y, .int .i64 Z] 28 1 _ rfl).1
        have n3 := (new_cell wr [.int .i64 X, .int .i64 Y, .int .i64 Z] 28 2 _ rfl).1
        go_wp2
        go_quiet (fail)
        go_wp2
        go_roundw
        case rel => exact ⟨k + 1, by omega, by go_num, below_drewN (bel_new hbr _) _⟩
        case measure => simp [intOf]; omega
      · have h1k' : ¬ (k : Int) < (L1.length : Int) := by omega
        obtain ⟨m, hm⟩ : ∃ m, k - L1.length = m := ⟨_, rfl⟩
        have hm2 : m < L2.length := by omega
        have hwm : IntKind.i64.wrap ((k : Int) - (L1.length : Int)) = (m : Int) := by rw [IntKind.wrap_i64]; omega
        have hm2' : (m : Int) < (L2.length : Int) := by omega
        obtain ⟨g4, cap4, hv4, hg4, hg4', hcap4, hcell4⟩ := row_cells (own_below' r4 hbr) (by omega)
        simp only [Value.slice.injEq] at hv4
        obtain ⟨rfl, _, rfl⟩ := hv4
        obtain ⟨p1, p2, p3⟩ := cells_get L2 m hm2
        obtain ⟨r, hr⟩ : ∃ r, L2[m] = r := ⟨_, rfl⟩
        have hx := HB.out r (by rw [← hr]; exact List.getElem_mem hm2)
        have he : L3[k] = (r.1 + s.size, r.2.1, r.2.2) := by
          have h : L3[k]? = (L2[m]?).map (fun r => (r.1 + s.size, r.2.1, r.2.2)) := by rw [H3.out, List.getElem?_append_right (by omega), List.getElem?_map, hm]
          rw [List.getElem?_eq_getElem (by omega), List.getElem?_eq_getElem hm2, hr] at h
          exact Option.some.inj h
        rw [he] at q1 q2 q3
        rw [hr] at p1 p2 p3
        simp only at q1 q2 q3
        have d1 := hcell5 _ _ q1
        have d2 := hcell5 _ _ q2
        have d3 := hcell5 _ _ q3
        have f1 := hcell4 _ _ p1
        have f2 := hcell4 _ _ p2
        have f3 := hcell4 _ _ p3
        obtain ⟨x, y, z⟩ := r
        simp only at d1 d2 d3 f1 f2 f3 hx
        obtain ⟨q, hq⟩ : ∃ q, x + s.size = q := ⟨_, rfl⟩
        rw [hq] at d1
        have hwr : IntKind.i64.wrap ((x : Int) + (s.size : Int)) = (q : Int) := by rw [IntKind.wrap_i64]; omega
        have d1' := alloc_cell hg5' d1
        have d2' := alloc_cell hg5' d2
        have d3' := alloc_cell hg5' d3
        have f1' := alloc_cell hg4' f1
        have f2' := alloc_cell hg4' f2
        have f3' := alloc_cell hg4' f3
        clear hcell5 hcell4 q1 q2 q3 p1 p2 p3 hr he hl3 r3 r4 r5 H3 HB
        have n1 := (new_cell wr [.int .i64 q, .int .i64 y, .int .i64 z] 28 0 _ rfl).1
        have n2 := (new_cell wr [.int .i64 q, .int .i64 y, .int .i64 z] 28 1 _ rfl).1
        have n3 := (new_cell wr [.int .i64 q, .int .i64 y, .int .i64 z] 28 2 _ rfl).1
        go_wp2
        go_quiet (fail)
        go_wp2
        go_roundw
        case rel => exact ⟨k + 1, by omega, by go_num, below_drewN (bel_new hbr _) _⟩
        case measure => simp [intOf]; omega
    · have hlt' : ¬ (k : Int) < (L1.length : Int) + (L2.length : Int) := by omega
      clear r3 r4 r5 hl3 H3 HB
      go_wp2
      go_ret
      exact ⟨rfl, bel_on bw hbr⟩

end Go.Proofs.Ytoecfpedpibfiab
