/- The walk of RunesWhole. -/
import Derived.Test.YtoecfpedpibfiaaTurnAny
import Derived.Test.YtoecfpedpibfiaaLocal
import Derived.Test.YtoecfpedpibfiaaLines
import Derived.Deep.QuietTactic
import Derived.BigQuiet
namespace Go.Proofs.Ytoecfpedpibfiaa
open Go.RowKit

theorem own_below' {w w' : World} {base : Nat} {e : TypeId} {size : Nat} {v : Value} {n : Nat} {xs : List Value} (h : w.ownsRow base e size v n xs) (hb : Below w.heap.size w w') : w'.ownsRow base e size v n xs := by
  have hlt := h.lt
  refine ⟨h.1, ?_⟩
  rcases h.2 with h2 | ⟨g, cap, cur, rfl, h2, h3, r⟩
  · exact .inl h2
  · exact .inr ⟨g, cap, cur, rfl, h2, (hb.block g (hlt g rfl).2).trans h3, r⟩

theorem extract_join (s : ByteArray) (p q : Nat) (h1 : p ≤ q) : s.extract 0 p ++ s.extract p q = s.extract 0 q := by
  apply ByteArray.ext
  simp only [ByteArray.data_append, ByteArray.data_extract]
  apply Array.ext'
  simp only [Array.toList_append, Array.toList_extract, List.extract_eq_take_drop, List.drop_zero, Nat.sub_zero]
  rw [show q = p + (q - p) by omega, List.take_add]
  simp
theorem extract_all (s : ByteArray) : s.extract 0 s.size = s := by
  apply ByteArray.ext
  simp only [ByteArray.data_extract]
  apply Array.ext'
  simp only [Array.toList_extract, List.extract_eq_take_drop, List.drop_zero, Nat.sub_zero]
  exact List.take_of_length_le (by rw [Array.length_toList]; exact Nat.le_refl _)

theorem at_cell' {B : Nat} {W W1 : World} (h : Below B W W1) {b : Nat} (hb : b < B) (o : Nat) : W1.cell? ⟨b, o, none⟩ = W.cell? ⟨b, o, none⟩ := h.cell (by exact hb)

set_option maxRecDepth 20000 in
set_option maxHeartbeats 4000000 in
/-- The going through the list, up to its end or to 2000 runes: behind it the rest. -/
theorem whole_core (s P1 P2 : ByteArray) (k bad : Int) (w : World) (hs : s.size ≤ 1048576) (L : List Rn) (hL : rest s 0 = L)
    (C10 : ∀ W, Calls Try.prog 10 #[.string s] W fun e W' => ∃ v, e = .returned v ∧ W'.ownsRow W.heap.size 30 3 v L.length (cellsOf L) ∧ Below W.heap.size W W')
    (C12 : ∀ W, Calls Try.prog 12 #[.string s] W fun e W' => e = .returned (.int .i64 L.length) ∧ Below W.heap.size W W')
    (C13 : ∀ W, Calls Try.prog 13 #[.string s] W fun e W' => e = .returned (.int .i64 bad) ∧ Below W.heap.size W W')
    (C21a : ∀ W, Calls Try.prog 21 #[.string s, .int .i64 0, .int .i64 k] W fun e W' => e = .returned (.string P1) ∧ Below W.heap.size W W')
    (C21b : ∀ W, Calls Try.prog 21 #[.string s, .int .i64 (max k 0), .int .i64 s.size] W fun e W' => e = .returned (.string P2) ∧ Below W.heap.size W W')
    (hP : P1 ++ P2 = s) (hPs : P1.size + P2.size ≤ 1048576) (hT : bad < 0 → ∃ T : ByteArray, (∀ W, Calls Try.prog 15 #[.string s] W fun e W' => e = .returned (.string T) ∧ Below W.heap.size W W') ∧ (∀ W, Calls Try.prog 15 #[.string T] W fun e W' => e = .returned (.string s) ∧ Below W.heap.size W W')) :
    Calls Try.prog 6 #[.string s, .int .i64 k] w fun e w' => e = .returned (.bool true) ∧ Below w.heap.size w w' := by
  have C9 := fixed_any
  have hlen : L.length ≤ 1048576 := by rw [← hL]; have := rest_len s 0; omega
  have HL : Hid _ := hL
  have HT : Hid _ := hT
  have HDEC : Hid (∀ (n : Nat) W, n < s.size → Calls Try.prog 17 #[.string s, .int .i64 n] W fun e w' => e = .returned (.tuple #[.agg #[.int .i64 n, .int .i64 (wd s n), .int .i64 (rn s n)], .int .i64 0]) ∧ Below W.heap.size W w') := fun n W h => decode_yes s n W h (by omega)
  clear hL hT
  go_enter Try.func6, Try.ntmps6
  go_wp2_with (first
    | (go_at_call 9; refine (C9 _).mono ?_; rintro e w1 ⟨rfl, b1⟩)
    | (go_at_call 10; refine (C10 _).mono ?_; rintro e w2 ⟨v, rfl, o2, b2⟩; obtain ⟨a2, c2, rfl⟩ := slice_shape o2))
  have bw := bel_on b1 b2
  clear b1 b2 C9 C10
  go_loopw [6, 7, 8] (fun a x i wr => ∃ (m p : Nat) (X : ByteArray), m ≤ L.length ∧ m ≤ 2000 ∧ p ≤ s.size ∧ i = .int .i64 m ∧ a = .int .i64 p ∧ x = .string X ∧ Hid (p = pos s m) ∧ Hid (X = s.extract 0 p) ∧ Below w2.heap.size w2 wr) (fun _ _ i _ => L.length - (intOf i).toNat)
  case atStart => exact ⟨0, 0, ⟨#[]⟩, by omega, by omega, by omega, rfl, rfl, rfl, rfl, by show _ = _; simp; rfl, Below.refl _ _⟩
  case round =>
    obtain ⟨m, p, X, hm, hm2, hps, rfl, rfl, rfl, HPO, HX, hbr⟩ := hrel
    by_cases hlt : m < L.length
    · have hlt' : (m : Int) < (L.length : Int) := by omega
      by_cases h2 : m < 2000
      · have h2' : (m : Int) < 2000 := by omega
        obtain ⟨g, cap, hv, hg, hg2, hcap, hcell⟩ := row_cells o2 (by omega)
        simp only [Value.slice.injEq] at hv
        obtain ⟨rfl, _, rfl⟩ := hv
        obtain ⟨q1, q2, q3⟩ := cells_get L m hlt
        have hgp : L[m] = (p, wd s p, rn s p) := by
          have h := get_pos s m (by rw [HL.out]; exact hlt)
          simp only [HL.out] at h
          rw [HPO.out]; exact h
        have hpl : p < s.size := by rw [HPO.out]; exact pos_lt s m (by rw [HL.out]; exact hlt)
        have hD1 := wd_pos s p
        have hD2 := wd_le s p hpl
        have HPS : Hid (pos s (m + 1) = p + wd s p) := by show _ = _; rw [pos_succ s m (by rw [HL.out]; exact hlt), ← HPO.out]
        have C17 := fun W => HDEC.out p W hpl
        rw [hgp] at q1 q2 q3
        simp only at q1 q2 q3
        generalize wd s p = D at *
        generalize rn s p = R at *
        have hg3 : g < wr.heap.size := Nat.lt_of_lt_of_le hg2 hbr.size
        have d1 : wr.cell? ⟨g, m * 3, none⟩ = some (.int .i64 p) := (hbr.cell (p := ⟨g, m * 3, none⟩) hg2).trans (hcell _ _ q1)
        have d2 : wr.cell? ⟨g, m * 3 + 1, none⟩ = some (.int .i64 D) := (hbr.cell (p := ⟨g, m * 3 + 1, none⟩) hg2).trans (hcell _ _ q2)
        have d3 : wr.cell? ⟨g, m * 3 + 2, none⟩ = some (.int .i64 R) := (hbr.cell (p := ⟨g, m * 3 + 2, none⟩) hg2).trans (hcell _ _ q3)
        clear hcell q1 q2 q3 hgp C12 C13 C21a C21b hP HDEC
        obtain ⟨q, hq⟩ : ∃ q, p + D = q := ⟨_, rfl⟩
        have hwr : IntKind.i64.wrap ((p : Int) + (D : Int)) = (q : Int) := by rw [IntKind.wrap_i64]; omega
        have hws : IntKind.i64.wrap ((s.size : Int) - (p : Int)) = (s.size : Int) - (p : Int) := by rw [IntKind.wrap_i64]; omega
        have hxq : (p : Int) ≤ (q : Int) := by omega
        have hqs : (q : Int) ≤ (s.size : Int) := by omega
        have hXz : X.size = p := by rw [HX.out]; simp [ByteArray.size_extract]; omega
        have hD3 : ¬ ((D : Int) < 1) := by omega
        have hD4 : ¬ ((s.size : Int) - (p : Int) < (D : Int)) := by omega
        go_wp2_with (go_at_call 17; refine (C17 _).mono ?_; rintro e w3 ⟨rfl, b3⟩; have k1 := alloc_cell (Nat.lt_of_lt_of_le hg3 b3.size) ((at_cell' b3 hg3 (m * 3)).trans d1); have k2 := alloc_cell (Nat.lt_of_lt_of_le hg3 b3.size) ((at_cell' b3 hg3 (m * 3 + 1)).trans d2); have k3 := alloc_cell (Nat.lt_of_lt_of_le hg3 b3.size) ((at_cell' b3 hg3 (m * 3 + 2)).trans d3); have n1 := (new_cell w3 [.int .i64 p, .int .i64 D, .int .i64 R] 30 0 _ rfl).1; have n2 := (new_cell w3 [.int .i64 p, .int .i64 D, .int .i64 R] 30 1 _ rfl).1; have n3 := (new_cell w3 [.int .i64 p, .int .i64 D, .int .i64 R] 30 2 _ rfl).1)
        have hw4 : Below wr.heap.size wr (w3.alloc (.cells #[.int .i64 p, .int .i64 D, .int .i64 R] 30)) := b3.alloc b3.size _
        have HW4 : Hid _ := hw4
        clear hw4
        go_quiet (fail)
        go_wp2
        go_roundw
        case rel =>
          refine ⟨m + 1, q, X ++ s.extract p q, by omega, by omega, by omega, by go_num, rfl, rfl, ?_, ?_, below_drewN (bel_on hbr HW4.out) _⟩
          · show _ = _; rw [HPS.out, hq]
          · show _ = _; rw [HX.out]; exact extract_join s p q (by omega)
        case measure => simp [intOf]; omega
      · have h2' : ¬ (m : Int) < 2000 := by omega
        have h3 : ¬ (L.length : Int) ≤ 2000 := by omega
        clear HDEC
        by_cases hb0 : bad < 0
        · have hb1 : ¬ 0 ≤ bad := by omega
          obtain ⟨T, C15a, C15b⟩ := HT.out hb0
          go_wp2_with (go_at_call 12; refine (C12 _).mono ?_; rintro e w3 ⟨rfl, b3⟩)
          refine (C21a _).mono ?_
          rintro e w4 ⟨rfl, b4⟩
          go_wp2_with fail
          refine (C21b _).mono ?_
          rintro e w5 ⟨rfl, b5⟩
          go_wp2_with (go_at_call 13; refine (C13 _).mono ?_; rintro e w6 ⟨rfl, b6⟩)
          refine (C15a _).mono ?_
          rintro e w7 ⟨rfl, b7⟩
          go_wp2_with fail
          refine (C15b _).mono ?_
          rintro e w8 ⟨rfl, b8⟩
          go_wp2
          go_ret
          exact ⟨rfl, bel_on (bel_on (bel_on (bel_on (bel_on (bel_on (bel_on bw hbr) b3) b4) b5) b6) b7) b8⟩
        · have hb1 : 0 ≤ bad := by omega
          go_wp2_with (go_at_call 12; refine (C12 _).mono ?_; rintro e w3 ⟨rfl, b3⟩)
          refine (C21a _).mono ?_
          rintro e w4 ⟨rfl, b4⟩
          go_wp2_with fail
          refine (C21b _).mono ?_
          rintro e w5 ⟨rfl, b5⟩
          go_wp2_with (go_at_call 13; refine (C13 _).mono ?_; rintro e w6 ⟨rfl, b6⟩)
          go_ret
          exact ⟨rfl, bel_on (bel_on (bel_on (bel_on (bel_on bw hbr) b3) b4) b5) b6⟩
    · have hlt' : ¬ (m : Int) < (L.length : Int) := by omega
      have h3 : (L.length : Int) ≤ 2000 := by omega
      have hXs : X = s := by
        rw [HX.out, HPO.out, pos_end s m (by rw [HL.out]; omega)]
        exact extract_all s
      clear HX
      subst hXs
      clear HDEC
      by_cases hb0 : bad < 0
      · have hb1 : ¬ 0 ≤ bad := by omega
        obtain ⟨T, C15a, C15b⟩ := HT.out hb0
        go_wp2_with (go_at_call 12; refine (C12 _).mono ?_; rintro e w3 ⟨rfl, b3⟩)
        refine (C21a _).mono ?_
        rintro e w4 ⟨rfl, b4⟩
        go_wp2_with fail
        refine (C21b _).mono ?_
        rintro e w5 ⟨rfl, b5⟩
        go_wp2_with (go_at_call 13; refine (C13 _).mono ?_; rintro e w6 ⟨rfl, b6⟩)
        refine (C15a _).mono ?_
        rintro e w7 ⟨rfl, b7⟩
        go_wp2_with fail
        refine (C15b _).mono ?_
        rintro e w8 ⟨rfl, b8⟩
        go_wp2
        go_ret
        exact ⟨rfl, bel_on (bel_on (bel_on (bel_on (bel_on (bel_on (bel_on bw hbr) b3) b4) b5) b6) b7) b8⟩
      · have hb1 : 0 ≤ bad := by omega
        go_wp2_with (go_at_call 12; refine (C12 _).mono ?_; rintro e w3 ⟨rfl, b3⟩)
        refine (C21a _).mono ?_
        rintro e w4 ⟨rfl, b4⟩
        go_wp2_with fail
        refine (C21b _).mono ?_
        rintro e w5 ⟨rfl, b5⟩
        go_wp2_with (go_at_call 13; refine (C13 _).mono ?_; rintro e w6 ⟨rfl, b6⟩)
        go_ret
        exact ⟨rfl, bel_on (bel_on (bel_on (bel_on (bel_on bw hbr) b3) b4) b5) b6⟩

end Go.Proofs.Ytoecfpedpibfiaa
