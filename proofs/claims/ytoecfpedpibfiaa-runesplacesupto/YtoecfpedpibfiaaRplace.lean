/- The walks of the reference's Decode, Place and Part. -/
import Derived.Test.YtoecfpedpibfiaaRlist
import Derived.Test.YtoecfpedpibfiaaNl
import Derived.Test.YtoecfpedpibfiaaBytes
namespace Go.Proofs.Ytoecfpedpibfiaa
open Go.RowKit

theorem at_cell {B : Nat} {W W1 : World} (h : Below B W W1) {b : Nat} (hb : b < B) (o : Nat) : W1.cell? ⟨b, o, none⟩ = W.cell? ⟨b, o, none⟩ := h.cell (by exact hb)
theorem at_frozen {B : Nat} {W W1 : World} (h : Below B W W1) {b : Nat} (hb : b < B) (o : Nat) : W1.frozen? ⟨b, o, none⟩ = W.frozen? ⟨b, o, none⟩ := h.frozen (by exact hb)

set_option maxHeartbeats 1000000 in
theorem rdecode_no (s : ByteArray) (n : Int) (w : World) (h : n < 0 ∨ (s.size : Int) ≤ n) : Calls Try.prog 18 #[.string s, .int .i64 n] w fun e w' => e = .returned (.tuple #[.agg #[.int .i64 0, .int .i64 0, .int .i64 0], .int .i64 1]) ∧ Below w.heap.size w w' := by
  rcases h with h | h
  · go_enter Try.func18, Try.ntmps18
    go_wp2
    exact bodyPost_ret (v := .tuple #[.agg #[.int .i64 0, .int .i64 0, .int .i64 0], .int .i64 1]) (by simp [results, Try.results18, go_sem]) rfl ⟨rfl, (Below.refl _ _).alloc (Nat.le_refl _) _⟩
  · have h0 : ¬ n < 0 := by omega
    go_enter Try.func18, Try.ntmps18
    go_wp2
    exact bodyPost_ret (v := .tuple #[.agg #[.int .i64 0, .int .i64 0, .int .i64 0], .int .i64 1]) (by simp [results, Try.results18, go_sem]) rfl ⟨rfl, (Below.refl _ _).alloc (Nat.le_refl _) _⟩

set_option maxHeartbeats 1000000 in
theorem rdecode_yes (s : ByteArray) (n : Nat) (w : World) (h : n < s.size) (hs : s.size ≤ 1048576) : Calls Try.prog 18 #[.string s, .int .i64 n] w fun e w' => e = .returned (.tuple #[.agg #[.int .i64 n, .int .i64 (wd s n), .int .i64 (rn s n)], .int .i64 0]) ∧ Below w.heap.size w w' := by
  have C : ∀ W, Calls Try.prog 31 #[.string s, .int .i64 n] W fun e w' => e = .returned (.agg #[.int .i64 n, .int .i64 (wd s n), .int .i64 (rn s n)]) ∧ Below W.heap.size W w' := fun W => rat_any s n W h hs
  obtain ⟨D, hD⟩ : ∃ D, wd s n = D := ⟨_, rfl⟩
  obtain ⟨R, hR⟩ : ∃ R, rn s n = R := ⟨_, rfl⟩
  rw [hD, hR] at C ⊢
  clear hD hR
  have h1 : ¬ (s.size : Int) ≤ (n : Int) := by omega
  have c0 := new_cell w [.int .i64 0, .int .i64 0, .int .i64 0] 31 0 _ rfl
  have c1 := new_cell w [.int .i64 0, .int .i64 0, .int .i64 0] 31 1 _ rfl
  have c2 := new_cell w [.int .i64 0, .int .i64 0, .int .i64 0] 31 2 _ rfl
  go_enter Try.func18, Try.ntmps18
  go_wp2_with (go_at_call 31; refine (C _).mono ?_; rintro e W ⟨rfl, hb⟩; have d0 := (at_cell hb (by simp) 0).trans c0.1; have d1 := (at_cell hb (by simp) 1).trans c1.1; have d2 := (at_cell hb (by simp) 2).trans c2.1; have f0 := (at_frozen hb (by simp) 0).trans c0.2; have f1 := (at_frozen hb (by simp) 1).trans c1.2; have f2 := (at_frozen hb (by simp) 2).trans c2.2)
  refine bodyPost_ret (v := .tuple #[.agg #[.int .i64 n, .int .i64 D, .int .i64 R], .int .i64 0]) (by simp [results, Try.results18, go_sem, d0, d1, d2]) rfl ⟨rfl, ?_⟩
  have hbw : Below w.heap.size w W := bel_on ((Below.refl _ w).alloc (Nat.le_refl _) _) hb
  exact ((hbw.setCell (by simp) _).setCell (by simp) _).setCell (by simp) _

set_option maxHeartbeats 1000000 in
theorem rplace_err (s : ByteArray) (p : Int) (w : World) (h : p < 0 ∨ (s.size : Int) < p) : Calls Try.prog 20 #[.string s, .int .i64 p] w fun e w' => e = .returned (.tuple #[.int .i64 0, .int .i64 0, .int .i64 1]) ∧ w' = w := by
  rcases h with h | h
  · go_enter Try.func20, Try.ntmps20
    go_wp2
    go_ret3
    exact ⟨rfl, rfl⟩
  · have h0 : ¬ p < 0 := by omega
    go_enter Try.func20, Try.ntmps20
    go_wp2
    go_ret3
    exact ⟨rfl, rfl⟩

theorem ret3 {a b c d : Int} {x : Int} (h : a = b) (h' : c = d) : Ending.returned (.tuple #[.int .i64 a, .int .i64 c, .int .i64 x]) = .returned (.tuple #[.int .i64 b, .int .i64 d, .int .i64 x]) := by rw [h, h']

/-- The runes that count for the column. -/
def inLine (b p : Nat) (r : Rn) : Bool := decide (b ≤ r.1) && decide (r.1 < p)

set_option maxHeartbeats 2000000 in
theorem rplace_yes (s : ByteArray) (p : Nat) (w : World) (hs : s.size ≤ 1048576) (h : p ≤ s.size) : Calls Try.prog 20 #[.string s, .int .i64 p] w fun e w' => e = .returned (.tuple #[.int .i64 (lcA p (rest s 0)).1, .int .i64 (lcA p (rest s 0)).2, .int .i64 0]) ∧ Below w.heap.size w w' := by
  have HL := rlist_any s w hs
  rw [lcA_nl s p h]
  have HX : Hid (∀ x y : Int, x = 1 + (nl s p : Int) → y = 1 + ((rest s 0).countP (inLine (bg s p) p) : Int) → Ending.returned (.tuple #[.int .i64 x, .int .i64 y, .int .i64 0]) = .returned (.tuple #[.int .i64 ((1 + nl s p : Nat) : Int), .int .i64 ((1 + (rest s 0).countP (fun r => decide (bg s p ≤ r.1) && decide (r.1 < p)) : Nat) : Int), .int .i64 0])) := fun x y hx hy => by
    refine ret3 (by omega) ?_
    rw [hy]
    show 1 + ((rest s 0).countP (inLine (bg s p) p) : Int) = ((1 + (rest s 0).countP (inLine (bg s p) p) : Nat) : Int)
    omega
  obtain ⟨L, hL⟩ : ∃ L, rest s 0 = L := ⟨_, rfl⟩
  have hlen : L.length ≤ 1048576 := by rw [← hL]; have := rest_len s 0; omega
  rw [hL] at HX
  rw [hL] at HL
  rw [hL]
  clear hL
  have h1 : ¬ (s.size : Int) < (p : Int) := by omega
  have HN : Hid (∀ k, nl s k ≤ k) := fun k => nl_le s k
  have HG : Hid (∀ k, bg s k ≤ k) := fun k => bg_le s k
  go_enter Try.func20, Try.ntmps20
  go_wp2
  go_loop [7, 8, 9] (fun ln b i => ∃ (k : Nat) (x y : Int), k ≤ p ∧ i = .int .i64 k ∧ ln = .int .i64 x ∧ b = .int .i64 y ∧ Hid (x = 1 + (nl s k : Int)) ∧ Hid (y = bg s k) ∧ 1 ≤ x ∧ x ≤ 1 + k ∧ 0 ≤ y ∧ y ≤ k) (fun _ _ i => p - (intOf i).toNat)
  case atStart => exact ⟨0, 1, 0, by omega, rfl, rfl, rfl, rfl, rfl, by omega, by omega, by omega, by omega⟩
  case round =>
    obtain ⟨k, x, y, hk, rfl, rfl, rfl, HX1, HY1, hx0, hx1, hy0, hy1⟩ := hrel
    by_cases hlt : k < p
    · have hlt' : (k : Int) < (p : Int) := by omega
      have hks : k < s.size := by omega
      obtain ⟨b0, e0⟩ : ∃ b0 : Int, (s[k].toNat : Int) = b0 := ⟨_, rfl⟩
      have HE0 : Hid (((s.get! k).toNat : Int) = b0) := by show _ = _; rw [get_in s k hks]; exact e0
      by_cases hb : b0 = 10
      · subst hb
        have hbb : (s.get! k).toNat = 10 := by have := HE0.out; omega
        have HX2 : Hid (x + 1 = 1 + (nl s (k + 1) : Int)) := by have := HX1.out; show _ = _; rw [nl, if_pos hbb]; omega
        have HY2 : Hid ((k : Int) + 1 = bg s (k + 1)) := by show _ = _; rw [bg, if_pos hbb]; omega
        go_wp2
        go_round
        case rel => exact ⟨k + 1, x + 1, (k : Int) + 1, by omega, by go_num, rfl, rfl, HX2, HY2, by omega, by omega, by omega, by omega⟩
        case measure => simp [intOf]; omega
      · have hb' : (b0 == 10) = false := by simpa using hb
        have hbb : (s.get! k).toNat ≠ 10 := by have := HE0.out; omega
        have HX2 : Hid (x = 1 + (nl s (k + 1) : Int)) := by have := HX1.out; show _ = _; rw [nl, if_neg hbb]; omega
        have HY2 : Hid (y = bg s (k + 1)) := by have := HY1.out; show _ = _; rw [bg, if_neg hbb]; omega
        go_wp2
        go_round
        case rel => exact ⟨k + 1, x, y, by omega, by go_num, rfl, rfl, HX2, HY2, by omega, by omega, by omega, by omega⟩
        case measure => simp [intOf]; omega
    · have hlt' : ¬ (k : Int) < (p : Int) := by omega
      have hkp : k = p := by omega
      subst hkp
      have HGk : Hid (y = bg s k) := HY1
      go_wp2_with (go_at_call 11; refine HL.mono ?_; rintro e w1 ⟨v, rfl, hown, hb1⟩; obtain ⟨a0, c0, rfl⟩ := slice_shape hown)
      go_loop [10, 12] (fun c i => ∃ (m : Nat) (z : Int), m ≤ L.length ∧ i = .int .i64 m ∧ c = .int .i64 z ∧ Hid (z = 1 + ((L.take m).countP (inLine (bg s k) k) : Int)) ∧ 1 ≤ z ∧ z ≤ 1 + m) (fun _ i => L.length - (intOf i).toNat)
      case atStart => exact ⟨0, 1, by omega, rfl, rfl, rfl, by omega, by omega⟩
      case round =>
        obtain ⟨m, z, hm, rfl, rfl, HZ, hz0, hz1⟩ := hrel
        by_cases hml : m < L.length
        · obtain ⟨g, cap, hv, hg, hg2, hcap, hcell⟩ := row_cells hown (by omega)
          simp only [Value.slice.injEq] at hv
          obtain ⟨rfl, _, rfl⟩ := hv
          have hml' : (m : Int) < (L.length : Int) := by omega
          obtain ⟨q1, _, _⟩ := cells_get L m hml
          obtain ⟨r, hr⟩ : ∃ r, L[m] = r := ⟨_, rfl⟩
          have HT : Hid (L.take (m + 1) = L.take m ++ [r]) := by show _ = _; rw [List.take_succ_eq_append_getElem hml, hr]
          rw [hr] at q1
          have d1 := hcell _ _ q1
          clear hcell q1 hr
          obtain ⟨X, hX⟩ : ∃ X : Int, (r.1 : Int) = X := ⟨_, rfl⟩
          rw [hX] at d1
          have HXr : Hid _ := hX
          clear hX
          by_cases c1 : y ≤ X
          · by_cases c2 : X < (k : Int)
            · have hin : inLine (bg s k) k r = true := by
                have h1 := HXr.out; have h2 := HGk.out
                simp [inLine]; omega
              have HZ2 : Hid (z + 1 = 1 + ((L.take (m + 1)).countP (inLine (bg s k) k) : Int)) := by
                have := HZ.out
                show _ = _; rw [HT.out, List.countP_append, List.countP_singleton, hin]; simp; omega
              go_wp2
              go_round
              case rel => exact ⟨m + 1, z + 1, by omega, by go_num, rfl, HZ2, by omega, by omega⟩
              case measure => simp [intOf]; omega
            · have hin : inLine (bg s k) k r = false := by
                have h1 := HXr.out
                simp [inLine]; omega
              have HZ2 : Hid (z = 1 + ((L.take (m + 1)).countP (inLine (bg s k) k) : Int)) := by
                have := HZ.out
                show _ = _; rw [HT.out, List.countP_append, List.countP_singleton, hin]; simp; omega
              go_wp2
              go_round
              case rel => exact ⟨m + 1, z, by omega, by go_num, rfl, HZ2, by omega, by omega⟩
              case measure => simp [intOf]; omega
          · have hin : inLine (bg s k) k r = false := by
              have h1 := HXr.out; have h2 := HGk.out
              simp [inLine]; omega
            have HZ2 : Hid (z = 1 + ((L.take (m + 1)).countP (inLine (bg s k) k) : Int)) := by
              have := HZ.out
              show _ = _; rw [HT.out, List.countP_append, List.countP_singleton, hin]; simp; omega
            go_wp2
            go_round
            case rel => exact ⟨m + 1, z, by omega, by go_num, rfl, HZ2, by omega, by omega⟩
            case measure => simp [intOf]; omega
        · have hml' : ¬ (m : Int) < (L.length : Int) := by omega
          have HZ2 : Hid (z = 1 + (L.countP (inLine (bg s k) k) : Int)) := by
            have := HZ.out; rw [List.take_of_length_le (by omega)] at this; exact this
          go_wp2
          go_ret3
          exact ⟨HX.out _ _ HX1.out HZ2.out, by assumption⟩

end Go.Proofs.Ytoecfpedpibfiaa
