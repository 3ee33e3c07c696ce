/- The walk of the reference's Part. -/
import Derived.Test.YtoecfpedpibfiaaRplace
import Derived.Deep.QuietTactic
import Derived.BigQuiet
namespace Go.Proofs.Ytoecfpedpibfiaa
open Go.RowKit

set_option maxHeartbeats 2000000 in
theorem rpart_none (s : ByteArray) (i j A B : Int) (L : List Rn) (w : World) (HL : Calls Try.prog 11 #[.string s] w fun e w' => ∃ v, e = .returned v ∧ w'.ownsRow w.heap.size 31 3 v L.length (cellsOf L) ∧ Below w.heap.size w w')
    (hA : max i 0 = A) (hB : min j (L.length : Int) = B) (h : B ≤ A) : Calls Try.prog 22 #[.string s, .int .i64 i, .int .i64 j] w fun e w' => e = .returned (.string ⟨#[]⟩) ∧ Below w.heap.size w w' := by
  go_enter Try.func22, Try.ntmps22
  go_wp2_with (go_at_call 11; refine HL.mono ?_; rintro e w1 ⟨v, rfl, hown, hb1⟩; obtain ⟨a0, c0, rfl⟩ := slice_shape hown)
  go_ret
  exact ⟨rfl, by assumption⟩

set_option maxHeartbeats 4000000 in
theorem rpart_some (s : ByteArray) (i j : Int) (a c x y z : Nat) (L : List Rn) (w : World) (hL : L.length ≤ 1048576) (HL : Calls Try.prog 11 #[.string s] w fun e w' => ∃ v, e = .returned v ∧ w'.ownsRow w.heap.size 31 3 v L.length (cellsOf L) ∧ Below w.heap.size w w')
    (hA : max i 0 = (a : Int)) (hB : min j (L.length : Int) = (c : Int) + 1) (h : a ≤ c) (hc : c < L.length) (e1 : (cellsOf L)[a * 3]? = some (.int .i64 x)) (e2 : (cellsOf L)[c * 3]? = some (.int .i64 y)) (e3 : (cellsOf L)[c * 3 + 1]? = some (.int .i64 z))
    (hxy : x ≤ y + z) (hyz : y + z ≤ s.size) (hs : s.size ≤ 1048576) : Calls Try.prog 22 #[.string s, .int .i64 i, .int .i64 j] w fun e w' => e = .returned (.string (s.extract x (y + z))) ∧ Below w.heap.size w w' := by
  have h' : ¬ ((c : Int) + 1 ≤ (a : Int)) := by omega
  obtain ⟨q, hq⟩ : ∃ q, y + z = q := ⟨_, rfl⟩
  have hwr : IntKind.i64.wrap ((y : Int) + (z : Int)) = (q : Int) := by rw [IntKind.wrap_i64]; omega
  have hxq : (x : Int) ≤ (q : Int) := by omega
  have hqs : (q : Int) ≤ (s.size : Int) := by omega
  have hw1 : IntKind.i64.wrap ((c : Int) + 1 - 1) = (c : Int) := by rw [IntKind.wrap_i64]; omega
  rw [hq]
  go_enter Try.func22, Try.ntmps22
  go_wp2_with (go_at_call 11; refine HL.mono ?_; rintro e w1 ⟨v, rfl, hown, hb1⟩; obtain ⟨a0, c0, rfl⟩ := slice_shape hown)
  obtain ⟨g, cap, hv, hg, hg2, hcap, hcell⟩ := row_cells hown (by omega)
  simp only [Value.slice.injEq] at hv
  obtain ⟨rfl, _, rfl⟩ := hv
  have d1 := hcell _ _ e1
  have d2 := hcell _ _ e2
  have d3 := hcell _ _ e3
  have ha' : (a : Int) < (L.length : Int) := by omega
  have hc' : (c : Int) < (L.length : Int) := by omega
  clear hcell e1 e2 e3 hA hB HL
  go_quiet (fail)
  go_wp2
  go_ret
  exact ⟨rfl, below_drewN (by assumption) _⟩

theorem extract_bytes (s : ByteArray) (a b : Nat) : s.extract a b = ⟨((s.data.toList.take b).drop a).toArray⟩ := by
  apply ByteArray.ext
  simp only [ByteArray.data_extract]
  apply Array.ext'
  rw [Array.toList_extract, List.extract_eq_take_drop, List.drop_take]

theorem rpart_any (s : ByteArray) (i j : Int) (w : World) (hs : s.size ≤ 1048576) : Calls Try.prog 22 #[.string s, .int .i64 i, .int .i64 j] w fun e w' => e = .returned (.string ⟨(bytesOf s (((rest s 0).take j.toNat).drop i.toNat)).toArray⟩) ∧ Below w.heap.size w w' := by
  have HL := rlist_any s w hs
  have hlen := rest_len s 0
  have ht : (rest s 0).take j.toNat = (rest s 0).take (min j.toNat (rest s 0).length) := by
    rcases Nat.le_total j.toNat (rest s 0).length with h | h
    · rw [Nat.min_eq_left h]
    · rw [Nat.min_eq_right h, List.take_of_length_le h, List.take_of_length_le (Nat.le_refl _)]
  by_cases h : min j ((rest s 0).length : Int) ≤ max i 0
  · have e0 : bytesOf s (((rest s 0).take j.toNat).drop i.toNat) = [] := by
      rw [ht]
      exact bytes_none s _ _ _ (by omega)
    rw [e0]
    exact rpart_none s i j _ _ _ w HL rfl rfl h
  · obtain ⟨c, hc⟩ : ∃ c : Nat, min j ((rest s 0).length : Int) = (c : Int) + 1 := ⟨(min j ((rest s 0).length : Int) - 1).toNat, by omega⟩
    have hcl : c < (rest s 0).length := by omega
    have hac : i.toNat ≤ c := by omega
    obtain ⟨q1, _, _⟩ := cells_get (rest s 0) i.toNat (by omega)
    obtain ⟨q2, q3, _⟩ := cells_get (rest s 0) c hcl
    rw [get_pos s _ (by omega)] at q1
    rw [get_pos s c hcl] at q2 q3
    have hps := pos_succ s c hcl
    have hmono := pos_mono s i.toNat (c + 1) (by omega)
    have hle := pos_le s (c + 1)
    have e0 : (⟨(bytesOf s (((rest s 0).take j.toNat).drop i.toNat)).toArray⟩ : ByteArray) = s.extract (pos s i.toNat) (pos s c + wd s (pos s c)) := by
      rw [ht, show min j.toNat (rest s 0).length = c + 1 by omega, bytes_mid s _ _ (by omega), hps, extract_bytes]
    rw [e0]
    exact rpart_some s i j i.toNat c (pos s i.toNat) (pos s c) (wd s (pos s c)) (rest s 0) w (by omega) HL (by omega) hc hac hcl q1 q2 q3 (by omega) (by omega) hs

#print axioms rpart_any
end Go.Proofs.Ytoecfpedpibfiaa
