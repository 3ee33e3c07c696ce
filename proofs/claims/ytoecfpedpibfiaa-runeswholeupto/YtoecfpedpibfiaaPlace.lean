/- The walk of Place. -/
import Derived.Test.YtoecfpedpibfiaaDecode
import Derived.Deep.QuietTactic
import Derived.BigQuiet
namespace Go.Proofs.Ytoecfpedpibfiaa
open Go.RowKit

/-- Line and column behind the runes of a list that begin ahead of a byte. -/
def lcS (p : Nat) (x : Nat × Nat) (r : Rn) : Nat × Nat := if r.1 < p then (if r.2.2 = 10 then (x.1 + 1, 1) else (x.1, x.2 + 1)) else x
def lcA (p : Nat) (l : List Rn) : Nat × Nat := l.foldl (lcS p) (1, 1)
theorem lcA_snoc (p : Nat) (l : List Rn) (r : Rn) : lcA p (l ++ [r]) = lcS p (lcA p l) r := by simp [lcA]
theorem lcA_le (p : Nat) (l : List Rn) : 1 ≤ (lcA p l).1 ∧ (lcA p l).1 ≤ l.length + 1 ∧ 1 ≤ (lcA p l).2 ∧ (lcA p l).2 ≤ l.length + 1 := by
  unfold lcA
  have key : ∀ (l : List Rn) (x : Nat × Nat) (n : Nat), 1 ≤ x.1 → x.1 ≤ n + 1 → 1 ≤ x.2 → x.2 ≤ n + 1 → 1 ≤ (l.foldl (lcS p) x).1 ∧ (l.foldl (lcS p) x).1 ≤ n + l.length + 1 ∧ 1 ≤ (l.foldl (lcS p) x).2 ∧ (l.foldl (lcS p) x).2 ≤ n + l.length + 1 := by
    intro l
    induction l with
    | nil => intro x n a b c d; exact ⟨a, b, c, d⟩
    | cons r l ih =>
      intro x n a b c d
      simp only [List.foldl_cons, List.length_cons]
      have h : 1 ≤ (lcS p x r).1 ∧ (lcS p x r).1 ≤ n + 1 + 1 ∧ 1 ≤ (lcS p x r).2 ∧ (lcS p x r).2 ≤ n + 1 + 1 := by
        unfold lcS; repeat' split
        all_goals first | omega | (simp only; omega)
      have := ih (lcS p x r) (n + 1) h.1 h.2.1 h.2.2.1 h.2.2.2
      omega
  have := key l (1, 1) 0 (by simp) (by simp) (by simp) (by simp)
  omega

/-- From a byte on the runes begin at it and behind it. -/
theorem rest_ge (s : ByteArray) (p : Nat) : ∀ r ∈ rest s p, p ≤ r.1 ∧ r.1 < s.size := by
  by_cases h : p < s.size
  · rw [rest_at s p h]
    have h1 := wd_pos s p
    have ih := rest_ge s (p + wd s p)
    intro r hr
    rcases List.mem_cons.1 hr with rfl | hr
    · exact ⟨Nat.le_refl _, h⟩
    · have := ih r hr; omega
  · rw [rest_end s p h]; intro r hr; cases hr
termination_by s.size - p
decreasing_by have := wd_pos s p; omega

/-- They rise. -/
theorem rest_sorted (s : ByteArray) (p : Nat) : (rest s p).Pairwise (fun a b => a.1 < b.1) := by
  by_cases h : p < s.size
  · rw [rest_at s p h]
    have h1 := wd_pos s p
    have ih := rest_sorted s (p + wd s p)
    refine List.pairwise_cons.2 ⟨fun r hr => ?_, ih⟩
    have := rest_ge s (p + wd s p) r hr
    simp only; omega
  · rw [rest_end s p h]; exact List.Pairwise.nil
termination_by s.size - p
decreasing_by have := wd_pos s p; omega

theorem lc_same (p : Nat) (l : List Rn) (h : ∀ r ∈ l, p ≤ r.1) : ∀ x, l.foldl (lcS p) x = x := by
  induction l with
  | nil => intro x; rfl
  | cons r l ih =>
    intro x
    have h1 := h r (by simp)
    simp only [List.foldl_cons]
    have : lcS p x r = x := by unfold lcS; rw [if_neg (by omega)]
    rw [this]
    exact ih (fun q hq => h q (by simp [hq])) x

/-- Stopping at the first rune that doesn't begin ahead of the byte changes nothing. -/
def goP (p : Nat) (l : List Rn) : Bool := match l.getLast? with | some r => decide (r.1 < p) | none => true
theorem lc_runTo (p : Nat) (l : List Rn) : ∀ done, (done ++ l).Pairwise (fun a b => a.1 < b.1) → lcA p (runTo (goP p) done l) = lcA p (done ++ l) := by
  induction l with
  | nil => intro done _; simp [runTo]
  | cons r l ih =>
    intro done hs
    have hg : goP p (done ++ [r]) = decide (r.1 < p) := by simp [goP]
    by_cases hr : r.1 < p
    · simp only [runTo, hg, hr, decide_true, if_true]
      rw [ih _ (by simpa using hs)]; simp
    · simp only [runTo, hg, hr, decide_false, Bool.false_eq_true, if_false]
      have hl : ∀ q ∈ l, p ≤ q.1 := by
        intro q hq
        have h2 := (List.pairwise_append.1 hs).2.1
        have := (List.pairwise_cons.1 h2).1 q hq
        omega
      have : done ++ r :: l = (done ++ [r]) ++ l := by simp
      rw [this]
      unfold lcA
      rw [List.foldl_append (l' := l)]
      exact (lc_same p l hl _).symm

theorem enters37 : ∀ args w, (callFunc 37 args).run Try.prog w = .ok (.enter 37 args) w := enters_of Try.func37 (by kernel_rfl) rfl

set_option maxHeartbeats 400000 in
theorem place_no (a c l : Nat) (W : World) (p x y z : Int) (ha : a < W.heap.size) (hc : W.cell? ⟨a, 0, none⟩ = some (.int .i64 p)) (h : p ≤ x) :
    Calls Try.prog 37 #[.agg #[.int .i64 x, .int .i64 y, .int .i64 z], .pointer (some ⟨a, 0, none⟩), .pointer (some ⟨c, 0, none⟩), .pointer (some ⟨l, 0, none⟩)] W fun e W' => e = .returned (.bool false) ∧ ∃ o, W' = W.alloc o := by
  have hc1 := alloc_cell ha hc
  go_enter Try.func37, Try.ntmps37
  go_wp2
  go_ret
  exact ⟨rfl, _, rfl⟩

set_option maxHeartbeats 400000 in
theorem place_col (a c l : Nat) (W : World) (p x y z n : Int) (ha : a < W.heap.size) (hcl : c < W.heap.size) (hc : W.cell? ⟨a, 0, none⟩ = some (.int .i64 p)) (hn : W.cell? ⟨c, 0, none⟩ = some (.int .i64 n)) (hf : W.frozen? ⟨c, 0, none⟩ = false)
    (h : x < p) (hz : z ≠ 10) (h0 : 0 ≤ n) (h1 : n < 9223372036854775807) :
    Calls Try.prog 37 #[.agg #[.int .i64 x, .int .i64 y, .int .i64 z], .pointer (some ⟨a, 0, none⟩), .pointer (some ⟨c, 0, none⟩), .pointer (some ⟨l, 0, none⟩)] W fun e W' => e = .returned (.bool true) ∧ ∃ o, W' = (W.setCell ⟨c, 0, none⟩ (.int .i64 (n + 1))).alloc o := by
  have hc1 := alloc_cell ha hc
  have hn1 := alloc_cell hcl hn
  have hf1 := alloc_frozen hcl hf
  have hz' : (z == 10) = false := by simpa using hz
  go_enter Try.func37, Try.ntmps37
  go_wp2
  go_ret
  exact ⟨rfl, _, rfl⟩

set_option maxHeartbeats 400000 in
theorem place_line (a c l : Nat) (W : World) (p x y n m : Int) (ha : a < W.heap.size) (hcl : c < W.heap.size) (hll : l < W.heap.size) (hne : c ≠ l) (hc : W.cell? ⟨a, 0, none⟩ = some (.int .i64 p)) (hn : W.cell? ⟨c, 0, none⟩ = some (.int .i64 n)) (hf : W.frozen? ⟨c, 0, none⟩ = false)
    (hm : W.cell? ⟨l, 0, none⟩ = some (.int .i64 m)) (hg : W.frozen? ⟨l, 0, none⟩ = false) (h : x < p) (h0 : 0 ≤ n) (h1 : n < 9223372036854775807) (h2 : 0 ≤ m) (h3 : m < 9223372036854775807) :
    Calls Try.prog 37 #[.agg #[.int .i64 x, .int .i64 y, .int .i64 10], .pointer (some ⟨a, 0, none⟩), .pointer (some ⟨c, 0, none⟩), .pointer (some ⟨l, 0, none⟩)] W fun e W' => e = .returned (.bool true) ∧ ∃ o, W' = (((W.setCell ⟨c, 0, none⟩ (.int .i64 (n + 1))).setCell ⟨l, 0, none⟩ (.int .i64 (m + 1))).setCell ⟨c, 0, none⟩ (.int .i64 1)).alloc o := by
  have hc1 := alloc_cell ha hc
  have hn1 := alloc_cell hcl hn
  have hf1 := alloc_frozen hcl hf
  have hm1 := alloc_cell hll hm
  have hg1 := alloc_frozen hll hg
  go_enter Try.func37, Try.ntmps37
  go_wp2
  go_ret
  exact ⟨rfl, _, rfl⟩

/-- The world in which Place goes through the text; its cells. -/
def plW (w : World) (p : Int) : World := ((w.alloc (.cells #[.int .i64 p] 3)).alloc (.cells #[.int .i64 1] 3)).alloc (.cells #[.int .i64 1] 3)
theorem plW_size (w : World) (p : Int) : (plW w p).heap.size = w.heap.size + 3 := by simp [plW]
def plCells (B p : Nat) (x : Nat × Nat) : List (Nat × Nat × Value) := [(B, 0, .int .i64 p), (B + 1, 0, .int .i64 x.1), (B + 2, 0, .int .i64 x.2)]

theorem plW_own (w : World) (p : Nat) (s : ByteArray) : Own w.heap.size (w.heap.size + 3) w ((plW w p).alloc (.stringIter s 0)) (plCells w.heap.size p (1, 1)) := by
  have key : ∀ c ∈ plCells w.heap.size p (1, 1), (plW w p).cell? ⟨c.1, c.2.1, none⟩ = some c.2.2 ∧ (plW w p).frozen? ⟨c.1, c.2.1, none⟩ = false ∧ w.heap.size ≤ c.1 ∧ c.1 < (plW w p).heap.size := by
    intro c hc
    rw [plW_size]
    have n0 := new_cell w [.int .i64 p] 3 0 _ rfl
    have e1 : (w.alloc (.cells #[.int .i64 p] 3)).heap.size = w.heap.size + 1 := by simp
    have n1 := new_cell (w.alloc (.cells #[.int .i64 p] 3)) [.int .i64 1] 3 0 _ rfl
    rw [e1] at n1
    have e2 : ((w.alloc (.cells #[.int .i64 p] 3)).alloc (.cells #[.int .i64 1] 3)).heap.size = w.heap.size + 2 := by simp
    have n2 := new_cell ((w.alloc (.cells #[.int .i64 p] 3)).alloc (.cells #[.int .i64 1] 3)) [.int .i64 1] 3 0 _ rfl
    rw [e2] at n2
    simp only [plCells, List.mem_cons, List.not_mem_nil, or_false] at hc
    rcases hc with rfl | rfl | rfl
    · exact ⟨alloc_cell (by simp <;> omega) (alloc_cell (by simp <;> omega) n0.1 _) _, alloc_frozen (by simp <;> omega) (alloc_frozen (by simp <;> omega) n0.2 _) _, by simp <;> omega⟩
    · exact ⟨alloc_cell (by simp <;> omega) n1.1 _, alloc_frozen (by simp <;> omega) n1.2 _, by simp <;> omega⟩
    · exact ⟨n2.1, n2.2, by simp <;> omega⟩
  have h := Own.start key ((((Below.refl _ w).alloc (Nat.le_refl _) _).alloc (by simp <;> omega) _).alloc (by simp <;> omega) _) (by rw [plW_size]; omega) s
  rw [plW_size] at h
  exact h

set_option maxHeartbeats 1000000 in
theorem place_each (s : ByteArray) (p : Nat) (w : World) (hs : s.size ≤ 1048576) :
    Calls Try.prog 29 #[.string s, .func (.func 37) #[] #[.pointer (some ⟨w.heap.size, 0, none⟩), .pointer (some ⟨w.heap.size + 2, 0, none⟩), .pointer (some ⟨w.heap.size + 1, 0, none⟩)]] (plW w p) fun e w' => e = .returned (.tuple #[]) ∧
      Own w.heap.size (w.heap.size + 3) w w' (plCells w.heap.size p (lcA p (rest s 0))) := by
  have HE := each_any s 37 #[.pointer (some ⟨w.heap.size, 0, none⟩), .pointer (some ⟨w.heap.size + 2, 0, none⟩), .pointer (some ⟨w.heap.size + 1, 0, none⟩)] enters37 (plW w p) (by omega) (goP p)
    (fun done W => Own w.heap.size (w.heap.size + 3) w W (plCells w.heap.size p (lcA p done)))
    (plW_own w p s)
    (fun done W q p' h _ => by have := h.iterAt s p'; rw [plW_size]; exact this)
    (fun done r l W he hg h _ => by
      have hlen := congrArg List.length he
      have hrl := rest_len s 0
      simp only [List.length_append, List.length_cons] at hlen
      obtain ⟨b1, b2, b3, b4⟩ := lcA_le p done
      have i0 : (w.heap.size, 0, Value.int .i64 p) ∈ plCells w.heap.size p (lcA p done) := by simp [plCells]
      have i1 : (w.heap.size + 1, 0, Value.int .i64 (lcA p done).1) ∈ plCells w.heap.size p (lcA p done) := by simp [plCells]
      have i2 : (w.heap.size + 2, 0, Value.int .i64 (lcA p done).2) ∈ plCells w.heap.size p (lcA p done) := by simp [plCells]
      have hit := h.iter.2
      have hgo : goP p (done ++ [r]) = decide (r.1 < p) := by simp [goP]
      have hsn := lcA_snoc p done r
      obtain ⟨x, y, z⟩ := r
      by_cases hx : x < p
      · by_cases hz : z = 10
        · subst hz
          refine (place_line w.heap.size (w.heap.size + 2) (w.heap.size + 1) W p x y (lcA p done).2 (lcA p done).1 (h.low _ i0).2.2 (h.low _ i2).2.2 (h.low _ i1).2.2 (by omega) (h.cell _ i0) (h.cell _ i2) (h.free _ i2) (h.cell _ i1) (h.free _ i1) (by omega) (by omega) (by omega) (by omega) (by omega)).mono fun e W' ⟨he, o, hW⟩ => ?_
          subst hW
          refine ⟨by rw [he, hgo]; simp [hx], ?_, ?_⟩
          · have s1 := h.set (w.heap.size + 2) 0 i2 (.int .i64 ((lcA p done).2 + 1))
            have s2 := s1.set (w.heap.size + 1) 0 (v := .int .i64 (lcA p done).1) (by simp [plCells]) (.int .i64 ((lcA p done).1 + 1))
            have s3 := (s2.set (w.heap.size + 2) 0 (v := .int .i64 ((lcA p done).2 + 1)) (by simp [plCells]) (.int .i64 1)).alloc o
            rw [hsn]
            simpa [plCells, lcS, hx] using s3
          · rw [plW_size, iter_alloc (by simp; omega), iter_set (by omega), iter_set (by omega), iter_set (by omega)]
        · refine (place_col w.heap.size (w.heap.size + 2) (w.heap.size + 1) W p x y z (lcA p done).2 (h.low _ i0).2.2 (h.low _ i2).2.2 (h.cell _ i0) (h.cell _ i2) (h.free _ i2) (by omega) (by omega) (by omega) (by omega)).mono fun e W' ⟨he, o, hW⟩ => ?_
          subst hW
          refine ⟨by rw [he, hgo]; simp [hx], ?_, ?_⟩
          · have s1 := (h.set (w.heap.size + 2) 0 i2 (.int .i64 ((lcA p done).2 + 1))).alloc o
            rw [hsn]
            simpa [plCells, lcS, hx, hz] using s1
          · rw [plW_size, iter_alloc (by simp; omega), iter_set (by omega)]
      · refine (place_no w.heap.size (w.heap.size + 2) (w.heap.size + 1) W p x y z (h.low _ i0).2.2 (h.cell _ i0) (by omega)).mono fun e W' ⟨he, o, hW⟩ => ?_
        subst hW
        refine ⟨by rw [he, hgo]; simp [hx], ?_, ?_⟩
        · have s1 := h.alloc o
          rw [hsn]
          simpa [plCells, lcS, hx] using s1
        · rw [plW_size, iter_alloc (by omega)])
  have hb0 := lc_runTo p (rest s 0) [] (by simpa using rest_sorted s 0)
  rw [List.nil_append] at hb0
  simp only [hb0] at HE
  exact HE

set_option maxHeartbeats 1000000 in
theorem place_yes (s : ByteArray) (p : Nat) (w : World) (hs : s.size ≤ 1048576) (h : p ≤ s.size) : Calls Try.prog 19 #[.string s, .int .i64 p] w fun e w' => e = .returned (.tuple #[.int .i64 (lcA p (rest s 0)).1, .int .i64 (lcA p (rest s 0)).2, .int .i64 0]) ∧ Below w.heap.size w w' := by
  have HE := place_each s p w hs
  unfold plW at HE
  have h1 : ¬ (s.size : Int) < (p : Int) := by omega
  go_enter Try.func19, Try.ntmps19
  go_wp2_with (go_at_call 29; refine HE.mono ?_; rintro e W ⟨rfl, hO⟩; have g1 := hO.cell _ (show (w.heap.size + 1, 0, Value.int .i64 (lcA p (rest s 0)).1) ∈ _ by simp [plCells]); have g2 := hO.cell _ (show (w.heap.size + 2, 0, Value.int .i64 (lcA p (rest s 0)).2) ∈ _ by simp [plCells]))
  go_quiet (fail)
  go_wp2
  go_ret3
  exact ⟨rfl, below_drewN hO.below _⟩

set_option maxHeartbeats 1000000 in
theorem place_err (s : ByteArray) (p : Int) (w : World) (h : p < 0 ∨ (s.size : Int) < p) : Calls Try.prog 19 #[.string s, .int .i64 p] w fun e w' => e = .returned (.tuple #[.int .i64 0, .int .i64 0, .int .i64 1]) ∧ Below w.heap.size w w' := by
  rcases h with h | h
  · go_enter Try.func19, Try.ntmps19
    go_wp2
    go_ret3
    exact ⟨rfl, (Below.refl _ _).alloc (Nat.le_refl _) _⟩
  · have h0 : ¬ p < 0 := by omega
    go_enter Try.func19, Try.ntmps19
    go_wp2
    go_ret3
    exact ⟨rfl, (Below.refl _ _).alloc (Nat.le_refl _) _⟩

#print axioms place_yes
end Go.Proofs.Ytoecfpedpibfiaa
