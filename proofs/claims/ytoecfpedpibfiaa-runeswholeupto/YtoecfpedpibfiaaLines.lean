/- The walk of the law RunesLines. -/
import Derived.Test.YtoecfpedpibfiaaPlace
import Derived.Test.YtoecfpedpibfiaaCodes
namespace Go.Proofs.Ytoecfpedpibfiaa
open Go.RowKit

def lcT (x : Nat × Nat) (r : Rn) : Nat × Nat := if r.2.2 = 10 then (x.1 + 1, 1) else (x.1, x.2 + 1)
def lcF (l : List Rn) : Nat × Nat := l.foldl lcT (1, 1)
theorem lcF_snoc (l : List Rn) (r : Rn) : lcF (l ++ [r]) = lcT (lcF l) r := by simp [lcF]
theorem lc_all (p : Nat) (l : List Rn) (h : ∀ r ∈ l, r.1 < p) : ∀ x, l.foldl (lcS p) x = l.foldl lcT x := by
  induction l with
  | nil => intro x; rfl
  | cons r l ih =>
    intro x
    have h1 := h r (by simp)
    simp only [List.foldl_cons]
    have : lcS p x r = lcT x r := by unfold lcS lcT; rw [if_pos h1]
    rw [this]
    exact ih (fun q hq => h q (by simp [hq])) _
theorem lcA_at (L : List Rn) (hs : L.Pairwise (fun a b => a.1 < b.1)) (k : Nat) (hk : k < L.length) : lcA L[k].1 L = lcF (L.take k) := by
  have e : L = L.take k ++ L.drop k := (List.take_append_drop k L).symm
  have ed : L.drop k = L[k] :: L.drop (k + 1) := List.drop_eq_getElem_cons hk
  have hs2 := hs
  rw [e] at hs2
  obtain ⟨_, h2, h3⟩ := List.pairwise_append.1 hs2
  generalize hp : L[k].1 = p
  have a1 : ∀ r ∈ L.take k, r.1 < p := fun r hr => by
    have := h3 r hr L[k] (ed ▸ List.mem_cons_self)
    rw [← hp]; exact this
  have a2 : ∀ r ∈ L.drop k, p ≤ r.1 := fun r hr => by
    rw [ed] at hr h2
    rcases List.mem_cons.1 hr with rfl | hr
    · omega
    · have := (List.pairwise_cons.1 h2).1 r hr
      omega
  unfold lcA lcF
  rw [e, List.foldl_append, lc_same p _ a2, lc_all p _ a1]
  simp
theorem lcA_size (s : ByteArray) : lcA s.size (rest s 0) = lcF (rest s 0) := lc_all _ _ (fun r hr => (rest_ge s 0 r hr).2) _

theorem cells_get (L : List Rn) : ∀ (k : Nat) (hk : k < L.length), (cellsOf L)[k * 3]? = some (.int .i64 L[k].1) ∧ (cellsOf L)[k * 3 + 1]? = some (.int .i64 L[k].2.1) ∧ (cellsOf L)[k * 3 + 2]? = some (.int .i64 L[k].2.2) := by
  induction L with
  | nil => intro k hk; simp at hk
  | cons r L ih =>
    intro k hk
    have e : cellsOf (r :: L) = [.int .i64 r.1, .int .i64 r.2.1, .int .i64 r.2.2] ++ cellsOf L := by simp [cellsOf]
    rw [e]
    cases k with
    | zero => simp
    | succ k =>
      have := ih k (by simpa using hk)
      have e3 : (k + 1) * 3 = k * 3 + 3 := by omega
      rw [e3]
      simpa using this

set_option maxHeartbeats 2000000 in
theorem lines_small (s : ByteArray) (w : World) (hs : s.size ≤ 300) : Calls Try.prog 7 #[.string s] w fun e w' => e = .returned (.bool true) ∧ Below w.heap.size w w' := by
  have hs' : ¬ (300 : Int) < (s.size : Int) := by omega
  have HL := fun w => list_any s w (by omega)
  obtain ⟨L, hL⟩ : ∃ L, rest s 0 = L := ⟨_, rfl⟩
  rw [hL] at HL
  have HLE : Hid (rest s 0 = L) := hL
  have hlen : L.length ≤ 300 := by rw [← hL]; have := rest_len s 0; omega
  clear hL
  go_enter Try.func7, Try.ntmps7
  go_wp2_with (first
    | (go_at_call 9; refine (fixed_any _).mono ?_; rintro e w1 ⟨rfl, hb1⟩)
    | (go_at_call 10; refine (HL _).mono ?_; rintro e w2 ⟨v, rfl, hown, hb2⟩; obtain ⟨a0, c0, rfl⟩ := slice_shape hown))
  go_loopw [4, 5, 6] (fun li co i wr => ∃ (k a b : Nat), k ≤ L.length ∧ i = .int .i64 k ∧ li = .int .i64 a ∧ co = .int .i64 b ∧ a ≤ k + 1 ∧ b ≤ k + 1 ∧ Hid (lcF (L.take k) = (a, b)) ∧ Below w2.heap.size w2 wr) (fun _ _ i _ => L.length - (intOf i).toNat)
  case atStart => exact ⟨0, 1, 1, Nat.zero_le _, rfl, rfl, rfl, by omega, by omega, by simp [Hid, lcF], Below.refl _ _⟩
  case round =>
    obtain ⟨k, a, b, hk, rfl, rfl, rfl, ha, hb, HF, hbw⟩ := hrel
    by_cases hlt : k < L.length
    · obtain ⟨g, cap, hv, hg, hg2, hcap, hcell⟩ := row_cells hown (by omega)
      simp only [Value.slice.injEq] at hv
      obtain ⟨rfl, _, rfl⟩ := hv
      have hlt' : (k : Int) < (L.length : Int) := by omega
      obtain ⟨q1, q2, q3⟩ := cells_get L k hlt
      obtain ⟨r, hr⟩ : ∃ r, L[k] = r := ⟨_, rfl⟩
      rw [hr] at q1 q2 q3
      have hg3 : g < wr.heap.size := Nat.lt_of_lt_of_le hg2 hbw.size
      have d1 : wr.cell? ⟨g, k * 3, none⟩ = some (.int .i64 r.1) := (hbw.cell (p := ⟨g, k * 3, none⟩) hg2).trans (hcell _ _ q1)
      have d3 : wr.cell? ⟨g, k * 3 + 2, none⟩ = some (.int .i64 r.2.2) := (hbw.cell (p := ⟨g, k * 3 + 2, none⟩) hg2).trans (hcell _ _ q3)
      have hrs : r.1 < s.size := by
        have := rest_ge s 0 r (by rw [HLE.out, ← hr]; exact List.getElem_mem hlt)
        exact this.2
      have C : ∀ W, Calls Try.prog 19 #[.string s, .int .i64 r.1] W fun e w' => e = .returned (.tuple #[.int .i64 a, .int .i64 b, .int .i64 0]) ∧ Below W.heap.size W w' := fun W => by
        have := place_yes s r.1 W (by omega) (by omega)
        rw [HLE.out] at this
        have e := lcA_at L (by rw [← HLE.out]; exact rest_sorted s 0) k hlt
        rw [hr, HF.out] at e
        rw [e] at this
        exact this
      have HN : Hid (lcF (L.take (k + 1)) = lcT (a, b) r) := by
        show _ = _
        rw [List.take_succ_eq_append_getElem hlt, lcF_snoc, HF.out, hr]
      clear hcell q1 q2 q3 hr
      by_cases hR : r.2.2 = 10
      · rw [hR] at d3
        go_wp2_with (go_at_call 19; refine (C _).mono ?_; rintro e w3 ⟨rfl, hb3⟩; have d3' := (hb3.cell (p := ⟨g, k * 3 + 2, none⟩) hg3).trans d3)
        go_roundw
        case rel => exact ⟨k + 1, a + 1, 1, by omega, by go_num, by go_num, by go_num, by omega, by omega, by (show _ = _; rw [HN.out]; simp [lcT, hR]), bel_on hbw hb3⟩
        case measure => simp [intOf]; omega
      · have hR' : ((r.2.2 : Int) == 10) = false := by simp; omega
        go_wp2_with (go_at_call 19; refine (C _).mono ?_; rintro e w3 ⟨rfl, hb3⟩; have d3' := (hb3.cell (p := ⟨g, k * 3 + 2, none⟩) hg3).trans d3)
        go_roundw
        case rel => exact ⟨k + 1, a, b + 1, by omega, by go_num, by go_num, by go_num, by omega, by omega, by (show _ = _; rw [HN.out]; simp [lcT, hR]), bel_on hbw hb3⟩
        case measure => simp [intOf]; omega
    · have hlt' : ¬ (k : Int) < (L.length : Int) := by omega
      have hke : L.take k = L := List.take_of_length_le (by omega)
      rw [hke] at HF
      have C1 : ∀ W, Calls Try.prog 19 #[.string s, .int .i64 s.size] W fun e w' => e = .returned (.tuple #[.int .i64 a, .int .i64 b, .int .i64 0]) ∧ Below W.heap.size W w' := fun W => by
        have := place_yes s s.size W (by omega) (by omega)
        rw [lcA_size, HLE.out, HF.out] at this
        exact this
      have C2 : ∀ W, Calls Try.prog 19 #[.string s, .int .i64 (s.size + 1)] W fun e w' => e = .returned (.tuple #[.int .i64 0, .int .i64 0, .int .i64 1]) ∧ Below W.heap.size W w' := fun W => place_err s _ W (by omega)
      clear hke
      go_wp2_with fail
      refine (C1 _).mono ?_
      rintro e w3 ⟨rfl, hb3⟩
      go_wp2_with fail
      refine (C2 _).mono ?_
      rintro e w4 ⟨rfl, hb4⟩
      go_wp2
      go_ret
      exact ⟨rfl, bel_on (bel_on (bel_on (bel_on hb1 hb2) hbw) hb3) hb4⟩

set_option maxHeartbeats 2000000 in
theorem lines_big (s x : ByteArray) (w : World) (h300 : (300 : Int) < (s.size : Int)) (hx : s.extract 0 300 = x) (hs : x.size ≤ 300) : Calls Try.prog 7 #[.string s] w fun e w' => e = .returned (.bool true) ∧ Below w.heap.size w w' := by
  have HL := fun w => list_any x w (by omega)
  obtain ⟨L, hL⟩ : ∃ L, rest x 0 = L := ⟨_, rfl⟩
  rw [hL] at HL
  have HLE : Hid (rest x 0 = L) := hL
  have hlen : L.length ≤ 300 := by rw [← hL]; have := rest_len x 0; omega
  clear hL
  go_enter Try.func7, Try.ntmps7
  go_wp2_with (first
    | (go_at_call 9; refine (fixed_any _).mono ?_; rintro e w1 ⟨rfl, hb1⟩)
    | (go_at_call 10; refine (HL _).mono ?_; rintro e w2 ⟨v, rfl, hown, hb2⟩; obtain ⟨a0, c0, rfl⟩ := slice_shape hown))
  go_loopw [4, 5, 6] (fun li co i wr => ∃ (k a b : Nat), k ≤ L.length ∧ i = .int .i64 k ∧ li = .int .i64 a ∧ co = .int .i64 b ∧ a ≤ k + 1 ∧ b ≤ k + 1 ∧ Hid (lcF (L.take k) = (a, b)) ∧ Below w2.heap.size w2 wr) (fun _ _ i _ => L.length - (intOf i).toNat)
  case atStart => exact ⟨0, 1, 1, Nat.zero_le _, rfl, rfl, rfl, by omega, by omega, by simp [Hid, lcF], Below.refl _ _⟩
  case round =>
    obtain ⟨k, a, b, hk, rfl, rfl, rfl, ha, hb, HF, hbw⟩ := hrel
    by_cases hlt : k < L.length
    · obtain ⟨g, cap, hv, hg, hg2, hcap, hcell⟩ := row_cells hown (by omega)
      simp only [Value.slice.injEq] at hv
      obtain ⟨rfl, _, rfl⟩ := hv
      have hlt' : (k : Int) < (L.length : Int) := by omega
      obtain ⟨q1, q2, q3⟩ := cells_get L k hlt
      obtain ⟨r, hr⟩ : ∃ r, L[k] = r := ⟨_, rfl⟩
      rw [hr] at q1 q2 q3
      have hg3 : g < wr.heap.size := Nat.lt_of_lt_of_le hg2 hbw.size
      have d1 : wr.cell? ⟨g, k * 3, none⟩ = some (.int .i64 r.1) := (hbw.cell (p := ⟨g, k * 3, none⟩) hg2).trans (hcell _ _ q1)
      have d3 : wr.cell? ⟨g, k * 3 + 2, none⟩ = some (.int .i64 r.2.2) := (hbw.cell (p := ⟨g, k * 3 + 2, none⟩) hg2).trans (hcell _ _ q3)
      have hrs : r.1 < x.size := by
        have := rest_ge x 0 r (by rw [HLE.out, ← hr]; exact List.getElem_mem hlt)
        exact this.2
      have C : ∀ W, Calls Try.prog 19 #[.string x, .int .i64 r.1] W fun e w' => e = .returned (.tuple #[.int .i64 a, .int .i64 b, .int .i64 0]) ∧ Below W.heap.size W w' := fun W => by
        have := place_yes x r.1 W (by omega) (by omega)
        rw [HLE.out] at this
        have e := lcA_at L (by rw [← HLE.out]; exact rest_sorted x 0) k hlt
        rw [hr, HF.out] at e
        rw [e] at this
        exact this
      have HN : Hid (lcF (L.take (k + 1)) = lcT (a, b) r) := by
        show _ = _
        rw [List.take_succ_eq_append_getElem hlt, lcF_snoc, HF.out, hr]
      clear hcell q1 q2 q3 hr
      by_cases hR : r.2.2 = 10
      · rw [hR] at d3
        go_wp2_with (go_at_call 19; refine (C _).mono ?_; rintro e w3 ⟨rfl, hb3⟩; have d3' := (hb3.cell (p := ⟨g, k * 3 + 2, none⟩) hg3).trans d3)
        go_roundw
        case rel => exact ⟨k + 1, a + 1, 1, by omega, by go_num, by go_num, by go_num, by omega, by omega, by (show _ = _; rw [HN.out]; simp [lcT, hR]), bel_on hbw hb3⟩
        case measure => simp [intOf]; omega
      · have hR' : ((r.2.2 : Int) == 10) = false := by simp; omega
        go_wp2_with (go_at_call 19; refine (C _).mono ?_; rintro e w3 ⟨rfl, hb3⟩; have d3' := (hb3.cell (p := ⟨g, k * 3 + 2, none⟩) hg3).trans d3)
        go_roundw
        case rel => exact ⟨k + 1, a, b + 1, by omega, by go_num, by go_num, by go_num, by omega, by omega, by (show _ = _; rw [HN.out]; simp [lcT, hR]), bel_on hbw hb3⟩
        case measure => simp [intOf]; omega
    · have hlt' : ¬ (k : Int) < (L.length : Int) := by omega
      have hke : L.take k = L := List.take_of_length_le (by omega)
      rw [hke] at HF
      have C1 : ∀ W, Calls Try.prog 19 #[.string x, .int .i64 x.size] W fun e w' => e = .returned (.tuple #[.int .i64 a, .int .i64 b, .int .i64 0]) ∧ Below W.heap.size W w' := fun W => by
        have := place_yes x x.size W (by omega) (by omega)
        rw [lcA_size, HLE.out, HF.out] at this
        exact this
      have C2 : ∀ W, Calls Try.prog 19 #[.string x, .int .i64 (x.size + 1)] W fun e w' => e = .returned (.tuple #[.int .i64 0, .int .i64 0, .int .i64 1]) ∧ Below W.heap.size W w' := fun W => place_err x _ W (by omega)
      clear hke
      go_wp2_with fail
      refine (C1 _).mono ?_
      rintro e w3 ⟨rfl, hb3⟩
      go_wp2_with fail
      refine (C2 _).mono ?_
      rintro e w4 ⟨rfl, hb4⟩
      go_wp2
      go_ret
      exact ⟨rfl, bel_on (bel_on (bel_on (bel_on hb1 hb2) hbw) hb3) hb4⟩

theorem lines_walk (s : ByteArray) (w : World) (_hs : s.size ≤ maxLen) : Calls Try.prog 7 #[.string s] w fun e w' => e = .returned (.bool true) ∧ Below w.heap.size w w' := by
  by_cases h : s.size ≤ 300
  · exact lines_small s w h
  · exact lines_big s _ w (by omega) rfl (by rw [ByteArray.size_extract]; omega)

#print axioms lines_walk
end Go.Proofs.Ytoecfpedpibfiaa
