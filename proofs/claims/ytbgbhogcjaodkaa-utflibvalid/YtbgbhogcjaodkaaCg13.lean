/- The walk of the law UtflibCounts. -/
import Derived.Test.YtbgbhogcjaodkaaCg06
import Derived.Test.YtbgbhogcjaodkaaCg10
namespace Go.Proofs.Ytbgbhogcjaodkaa
open Go.RowKit

/-- A row of code points reads as a list of whole numbers. -/
theorem ints_of {W : World} {base : Nat} {v : Value} {l : List Rn} (h : W.ownsRow base 3 1 v l.length (ints l)) : Ints W.heap.size W v (l.map fun r => (r.2.2 : Int)) := by
  have hcells := fun g => h.cells (g := g)
  have hlt := h.lt
  rcases h.2 with ⟨rfl, h0⟩ | ⟨g, cap, cur, rfl, _, _, hc, _⟩
  · have : l = [] := List.eq_nil_of_length_eq_zero h0
    subst this
    exact ⟨none, 0, rfl, by simp, fun q => absurd rfl q⟩
  · refine ⟨_, cap, by rw [List.length_map], by rw [List.length_map]; exact hc, fun _ => ⟨g, 0, rfl, (hlt g rfl).2, fun i hi => ?_⟩⟩
    have hi' : i < l.length := by simpa using hi
    have q := hcells g rfl i (.int .i64 (l[i].2.2 : Int)) (by simp [ints, hi'])
    have e2 : (Addr.add ⟨g, 0, none⟩ i) = ⟨g, i, none⟩ := by
      by_cases hj0 : i = 0
      · subst hj0; rfl
      · simp [Addr.add, hj0]
    rw [e2] at q
    rw [Nat.zero_add, q]
    simp [List.getD, hi']
theorem cdR_len (s : ByteArray) (i j : Int) : (cdR s i j).1.length ≤ 200 := by
  unfold cdR
  split
  · simp
  · unfold cdL
    split
    · rename_i h
      unfold cdE at h
      split at h
      · omega
      · split at h
        · omega
        · simp only; omega
    · simp
set_option maxRecDepth 20000 in
set_option maxHeartbeats 2000000 in
theorem counts_walk (s : ByteArray) (i j : Int) (w : World) (hs : s.size ≤ 140737488351232) (h1 : -9223372036854775808 ≤ i) (h2 : i ≤ 9223372036854775807) (h3 : -9223372036854775808 ≤ j) (h4 : j ≤ 9223372036854775807) :
    Calls Try.prog 3 #[.string s, .int .i64 i, .int .i64 j] w fun e w' => e = .returned (.bool true) ∧ Below w.heap.size w w' := by
  have C1 := fun W => len_any s i j W hs h1 h2 h3 h4
  have C2 := fun W => rlen_any s i j W hs h1 h2 h3 h4
  have C3 := fun W => codes_any s i j W hs h1 h2 h3 h4
  have C4 := fun W => rcodes_any s i j W hs h1 h2 h3 h4
  have C5 := fixed_any
  have hle := cdR_len s i j
  generalize lenR s i j = O at *
  generalize cdR s i j = S at *
  obtain ⟨o1, o2, o3⟩ := O
  obtain ⟨l, E⟩ := S
  have HL : Hid (l.length ≤ 200) := hle
  have HB : Hid (Below w.heap.size w w) := Below.refl _ _
  clear hs h1 h2 h3 h4 hle
  go_enter Try.func3, Try.ntmps3
  go_wp2_with (first
    | (go_at_call 9; refine (C1 _).mono ?_; rintro e w1 ⟨rfl, h1⟩; have HB : Hid (Below w.heap.size w w1) := (bthen HB.out HB.out.size h1))
    | (go_at_call 10; refine (C2 _).mono ?_; rintro e w1 ⟨rfl, h1⟩; have HB : Hid (Below w.heap.size w w1) := (bthen HB.out HB.out.size h1))
    | (go_at_call 11; refine (C3 _).mono ?_; rintro e w1 ⟨v1, rfl, hr1, h1⟩; have HB : Hid (Below w.heap.size w w1) := (bthen HB.out HB.out.size h1); have I1 : Hid _ := ints_of hr1; clear hr1)
    | (go_at_call 12; refine (C4 _).mono ?_; rintro e w1 ⟨v2, rfl, hr2, h1⟩; have HB : Hid (Below w.heap.size w w1) := (bthen HB.out HB.out.size h1); have I1 : Hid _ := Ints.go I1.out h1; have I2 : Hid _ := ints_of hr2; clear hr2)
    | (go_at_call 13; refine (C5 _).mono ?_; rintro e w1 ⟨rfl, h1⟩; have HB : Hid (Below w.heap.size w w1) := (bthen HB.out HB.out.size h1); have I1 : Hid _ := Ints.go I1.out h1; have I2 : Hid _ := Ints.go I2.out h1)
    | (go_at_call 14; refine (sameints_any _ _ _ _ _ I1.out I2.out (by have := HL.out; rw [List.length_map]; omega)).mono ?_; rintro e w1 ⟨rfl, h1⟩; have HB : Hid (Below w.heap.size w w1) := (bthen HB.out HB.out.size h1)))
  go_ret
  exact ⟨by simp, HB.out⟩
end Go.Proofs.Ytbgbhogcjaodkaa
