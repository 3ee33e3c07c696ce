/- The walk of Part, for every text and numbers: the bytes of the runes from number i on, below j. -/
import Derived.Test.YtoecfpedpibfiabPart
import Derived.Test.YtoecfpedpibfiabBytes
namespace Go.Proofs.Ytoecfpedpibfiab
open Go.RowKit

theorem bel_new' {w a : World} (h : Below w.heap.size w a) (o : Obj) : Below w.heap.size w (a.alloc o) := h.alloc h.size o

/-- Bytes as cells. -/
def bc (l : List UInt8) : List Value := l.map fun b => Value.int .u8 b.toNat
theorem bc_length (l : List UInt8) : (bc l).length = l.length := by simp [bc]

/-- A row of bytes of one's own, as a string. -/
theorem own_string (W : World) (B : Nat) (v : Value) (n : Nat) (l : List UInt8) (h : W.ownsRow B 5 1 v n (bc l)) : (convert 38 9 v).run Try.prog W = .ok (.string ⟨l.toArray⟩) W := by
  have hl : l.length = n := by have := h.1; rw [bc_length] at this; simpa using this
  subst hl
  have hcells := fun g => h.cells (g := g)
  rcases h.2 with ⟨rfl, h0⟩ | ⟨g, cap, cur, rfl, _⟩
  · have : l = [] := List.eq_nil_of_length_eq_zero h0
    subst this
    exact run_convert_bytes_nil W 38 5 Try.underlying38 Try.underlying5 0 0 9 Try.underlying9
  · refine run_convert_bytes_back W 38 9 5 ⟨g, 0, none⟩ cap l Try.underlying38 Try.underlying5 Try.underlying9 (fun j hj => ?_)
    refine hcells g rfl j _ ?_
    simp [bc, hj]

/-- What the going through keeps. -/
structure PartAt (s : ByteArray) (i j : Int) (w : World) (done : List Rn) (W : World) : Prop where
  ct : W.cell? ⟨w.heap.size, 0, none⟩ = some (.string s)
  ca : W.cell? ⟨w.heap.size + 1, 0, none⟩ = some (.int .i64 i)
  cc : W.cell? ⟨w.heap.size + 2, 0, none⟩ = some (.int .i64 j)
  cp : ∃ v, W.cell? ⟨w.heap.size + 3, 0, none⟩ = some v ∧ W.ownsRow (w.heap.size + 6) 5 1 v (bytesOf s ((done.take j.toNat).drop i.toNat)).length (bc (bytesOf s ((done.take j.toNat).drop i.toNat)))
  fp : W.frozen? ⟨w.heap.size + 3, 0, none⟩ = false
  cn : W.cell? ⟨w.heap.size + 4, 0, none⟩ = some (.int .i64 done.length)
  fn : W.frozen? ⟨w.heap.size + 4, 0, none⟩ = false
  bel : Below w.heap.size w W
  size : w.heap.size + 6 ≤ W.heap.size

def ptW (w : World) (s : ByteArray) (i j : Int) : World := ((((w.alloc (.cells #[.string s] 9)).alloc (.cells #[.int .i64 i] 3)).alloc (.cells #[.int .i64 j] 3)).alloc (.cells #[.slice none 0 0] 38)).alloc (.cells #[.int .i64 0] 3)
theorem ptW_size (w : World) (s : ByteArray) (i j : Int) : (ptW w s i j).heap.size = w.heap.size + 5 := by simp [ptW]

/-- A new block's only cell, two forms. -/
theorem new1 (W : World) (n : Nat) (hn : W.heap.size = n) (v : Value) (t : TypeId) : (W.alloc (.cells #[v] t)).cell? ⟨n, 0, none⟩ = some v ∧ (W.alloc (.cells #[v] t)).frozen? ⟨n, 0, none⟩ = false := by
  subst hn
  exact new_cell W [v] t 0 v rfl

theorem part_start (s : ByteArray) (i j : Int) (w : World) : PartAt s i j w [] ((ptW w s i j).alloc (.stringIter s 0)) := by
  have n0 := new1 w _ rfl (.string s) 9
  have n1 := new1 (w.alloc (.cells #[.string s] 9)) (w.heap.size + 1) (by simp) (.int .i64 i) 3
  have n2 := new1 ((w.alloc (.cells #[.string s] 9)).alloc (.cells #[.int .i64 i] 3)) (w.heap.size + 2) (by simp) (.int .i64 j) 3
  have n3 := new1 (((w.alloc (.cells #[.string s] 9)).alloc (.cells #[.int .i64 i] 3)).alloc (.cells #[.int .i64 j] 3)) (w.heap.size + 3) (by simp) (.slice none 0 0) 38
  have n4 := new1 ((((w.alloc (.cells #[.string s] 9)).alloc (.cells #[.int .i64 i] 3)).alloc (.cells #[.int .i64 j] 3)).alloc (.cells #[.slice none 0 0] 38)) (w.heap.size + 4) (by simp) (.int .i64 0) 3
  unfold ptW
  refine ⟨?_, ?_, ?_, ⟨.slice none 0 0, ?_, ?_⟩, ?_, ?_, ?_, ?_, ?_⟩
  · exact alloc_cell (by simp <;> omega) (alloc_cell (by simp <;> omega) (alloc_cell (by simp <;> omega) (alloc_cell (by simp <;> omega) (alloc_cell (by simp <;> omega) n0.1 _) _) _) _) _
  · exact alloc_cell (by simp <;> omega) (alloc_cell (by simp <;> omega) (alloc_cell (by simp <;> omega) (alloc_cell (by simp <;> omega) n1.1 _) _) _) _
  · exact alloc_cell (by simp <;> omega) (alloc_cell (by simp <;> omega) (alloc_cell (by simp <;> omega) n2.1 _) _) _
  · exact alloc_cell (by simp <;> omega) (alloc_cell (by simp <;> omega) n3.1 _) _
  · have : bytesOf s (([].take j.toNat).drop i.toNat) = [] := by simp [bytesOf]
    rw [this]
    exact World.ownsRow_nil _ _ _ _
  · exact alloc_frozen (by simp <;> omega) (alloc_frozen (by simp <;> omega) n3.2 _) _
  · exact alloc_cell (by simp <;> omega) n4.1 _
  · exact alloc_frozen (by simp <;> omega) n4.2 _
  · exact bel_new' (bel_new' (bel_new' (bel_new' (bel_new' (bel_new' (Below.refl _ w) _) _) _) _) _) _
  · simp

theorem low_cell {B : Nat} {W W1 : World} (h : Below B W W1) {b : Nat} (hb : b < B) : W1.cell? ⟨b, 0, none⟩ = W.cell? ⟨b, 0, none⟩ := h.cell (by exact hb)
theorem low_frozen {B : Nat} {W W1 : World} (h : Below B W W1) {b : Nat} (hb : b < B) : W1.frozen? ⟨b, 0, none⟩ = W.frozen? ⟨b, 0, none⟩ := h.frozen (by exact hb)

/-- Stores in blocks of one's own below a row leave the row. -/
theorem own_set2 {W : World} {B : Nat} {e : TypeId} {v : Value} {n : Nat} {xs : List Value} (h : W.ownsRow B e 1 v n xs) {a b : Nat} (ha : a < B) (hb : b < B) (x y : Value) : ((W.setCell ⟨a, 0, none⟩ x).setCell ⟨b, 0, none⟩ y).ownsRow B e 1 v n xs :=
  ownsRow_setCell_below (ownsRow_setCell_below h (by exact ha) _) (by exact hb) _

set_option maxHeartbeats 1000000 in
theorem part_step (s : ByteArray) (i j : Int) (w : World) (hs : s.size ≤ 1048576) (done : List Rn) (r : Rn) (l : List Rn) (W : World) (he : rest s 0 = done ++ r :: l) (h : PartAt s i j w done W) :
    Calls Try.prog 15 (#[encR r] ++ #[.pointer (some ⟨w.heap.size + 1, 0, none⟩), .pointer (some ⟨w.heap.size + 4, 0, none⟩), .pointer (some ⟨w.heap.size + 2, 0, none⟩), .pointer (some ⟨w.heap.size + 3, 0, none⟩), .pointer (some ⟨w.heap.size, 0, none⟩)]) W fun e W' =>
      e = .returned (.bool (decide (((done ++ [r]).length : Int) < j))) ∧ PartAt s i j w (done ++ [r]) W' ∧ W'.heap[w.heap.size + 5]? = W.heap[w.heap.size + 5]? := by
  have hlen : done.length < 1048576 := by
    have h1 := congrArg List.length he
    have h2 := rest_len s 0
    simp only [List.length_append, List.length_cons] at h1
    omega
  obtain ⟨hb1, hb2⟩ := bytes_len s done r l he
  have hb3 : (bytesOf s ((done.take j.toNat).drop i.toNat)).length ≤ (bytesOf s done).length := Nat.le_trans (bytes_drop_le s _ _) (bytes_take_le s _ _)
  have hxy : r.1 + r.2.1 ≤ s.size := by
    obtain ⟨hr, hp⟩ := mid_pos s done r l he
    rw [hr]
    exact wd_le s _ hp
  have hcast : ((done ++ [r]).length : Int) = (done.length : Int) + 1 := by simp
  obtain ⟨v, cp, hown⟩ := h.cp
  by_cases hc : i ≤ (done.length : Int) ∧ (done.length : Int) < j
  · refine (part_take (w.heap.size + 1) (w.heap.size + 4) (w.heap.size + 2) (w.heap.size + 3) w.heap.size (w.heap.size + 6) W r.1 r.2.1 r.2.2 i done.length j s v _ _ h.size (by omega) (by omega) (by omega) (by omega) (by omega) h.ca h.cn h.fn h.cc cp h.fp h.ct hown (by omega) (by omega) (by omega) hc.1 hc.2 (by omega) (by omega) hxy hs (by omega)).mono fun e W' ⟨he', v', W1, hW, hown', hbw⟩ => ?_
    subst hW
    refine ⟨by rw [he', hcast], ⟨?_, ?_, ?_, ⟨v', ?_, ?_⟩, ?_, ?_, ?_, ?_, ?_⟩, ?_⟩
    · rw [World.cell?_setCell_other _ _ _ _ (by simp), World.cell?_setCell_other _ _ _ _ (by simp)]
      exact (low_cell hbw (by omega)).trans h.ct
    · rw [World.cell?_setCell_other _ _ _ _ (by simp), World.cell?_setCell_other _ _ _ _ (by simp)]
      exact (low_cell hbw (by omega)).trans h.ca
    · rw [World.cell?_setCell_other _ _ _ _ (by simp), World.cell?_setCell_other _ _ _ _ (by simp)]
      exact (low_cell hbw (by omega)).trans h.cc
    · rw [World.cell?_setCell_other _ _ _ _ (by simp)]
      exact World.cell?_setCell_same _ _ _ ((low_cell hbw (by omega)).trans cp)
    · have e1 : bytesOf s (((done ++ [r]).take j.toNat).drop i.toNat) = bytesOf s ((done.take j.toNat).drop i.toNat) ++ rb s r := by
        rw [mid_snoc_in done r _ _ (by omega) (by omega), bytesOf_snoc]
      have e2 : bc (bytesOf s ((done.take j.toNat).drop i.toNat)) ++ Lib.strCells (s.extract r.1 (r.1 + r.2.1)) = bc (bytesOf s ((done.take j.toNat).drop i.toNat) ++ rb s r) := by
        simp [bc, rb, Lib.strCells]
      rw [e1, ← e2, List.length_append, hb2]
      exact own_set2 hown' (by omega) (by omega) _ _
    · simp only [World.frozen?_setCell]
      exact (low_frozen hbw (by omega)).trans h.fp
    · have := World.cell?_setCell_same (W1.setCell ⟨w.heap.size + 3, 0, none⟩ v') ⟨w.heap.size + 4, 0, none⟩ (.int .i64 ((done.length : Int) + 1)) (u := .int .i64 done.length) (by
        rw [World.cell?_setCell_other _ _ _ _ (by simp)]
        exact (low_cell hbw (by omega)).trans h.cn)
      rw [this, hcast]
    · simp only [World.frozen?_setCell]
      exact (low_frozen hbw (by omega)).trans h.fn
    · exact ((h.bel.trans (hbw.mono (by omega))).setCell (by simp) _).setCell (by simp) _
    · rw [size_set, size_set]
      exact Nat.le_trans h.size hbw.size
    · rw [iter_set (by omega), iter_set (by omega)]
      exact hbw.block _ (by omega)
  · refine (part_skip (w.heap.size + 1) (w.heap.size + 4) (w.heap.size + 2) (w.heap.size + 3) w.heap.size W r.1 r.2.1 r.2.2 i done.length j (by have := h.size; omega) (by have := h.size; omega) (by have := h.size; omega) h.ca h.cn h.fn h.cc (by omega) hc (by omega) (by omega)).mono fun e W' ⟨he', o, hW⟩ => ?_
    subst hW
    have hz := h.size
    have e1 : bytesOf s (((done ++ [r]).take j.toNat).drop i.toNat) = bytesOf s ((done.take j.toNat).drop i.toNat) := by
      rw [mid_snoc_out done r _ _ (by omega)]
    refine ⟨by rw [he', hcast], ⟨?_, ?_, ?_, ⟨v, ?_, ?_⟩, ?_, ?_, ?_, ?_, ?_⟩, ?_⟩
    · exact alloc_cell (by rw [size_set]; omega) (by rw [World.cell?_setCell_other _ _ _ _ (by simp)]; exact h.ct) _
    · exact alloc_cell (by rw [size_set]; omega) (by rw [World.cell?_setCell_other _ _ _ _ (by simp)]; exact h.ca) _
    · exact alloc_cell (by rw [size_set]; omega) (by rw [World.cell?_setCell_other _ _ _ _ (by simp)]; exact h.cc) _
    · exact alloc_cell (by rw [size_set]; omega) (by rw [World.cell?_setCell_other _ _ _ _ (by simp)]; exact cp) _
    · rw [e1]
      exact (ownsRow_setCell_below hown (by show w.heap.size + 4 < _; omega) _).alloc _
    · exact alloc_frozen (by rw [size_set]; omega) (by rw [World.frozen?_setCell]; exact h.fp) _
    · exact alloc_cell (by rw [size_set]; omega) (by rw [World.cell?_setCell_same _ _ _ h.cn, hcast]) _
    · exact alloc_frozen (by rw [size_set]; omega) (by rw [World.frozen?_setCell]; exact h.fn) _
    · exact bel_new' (h.bel.setCell (by simp) _) _
    · have := h.size; simp only [World.size_alloc, size_set]; omega
    · rw [iter_alloc (by rw [size_set]; omega), iter_set (by omega)]

set_option maxHeartbeats 1000000 in
theorem part_any (s : ByteArray) (i j : Int) (w : World) (hs : s.size ≤ 1048576) : Calls Try.prog 8 #[.string s, .int .i64 i, .int .i64 j] w fun e w' => e = .returned (.string ⟨(bytesOf s (((rest s 0).take j.toNat).drop i.toNat)).toArray⟩) ∧ Below w.heap.size w w' := by
  have HE := each_any s 15 #[.pointer (some ⟨w.heap.size + 1, 0, none⟩), .pointer (some ⟨w.heap.size + 4, 0, none⟩), .pointer (some ⟨w.heap.size + 2, 0, none⟩), .pointer (some ⟨w.heap.size + 3, 0, none⟩), .pointer (some ⟨w.heap.size, 0, none⟩)] enters38 (ptW w s i j) (by omega) (fun d => decide ((d.length : Int) < j)) (PartAt s i j w)
    (part_start s i j w)
    (fun done W p p' h _ => by
      rw [ptW_size]
      obtain ⟨v, cp, hown⟩ := h.cp
      have hz := h.size
      have hc : ∀ b, b ≠ w.heap.size + 5 → (W.iterAt (w.heap.size + 5) s p').cell? ⟨b, 0, none⟩ = W.cell? ⟨b, 0, none⟩ := fun b hb => World.cell?_of_block (Lib.iterAt_other W _ _ s p' hb)
      have hf : ∀ b, b ≠ w.heap.size + 5 → (W.iterAt (w.heap.size + 5) s p').frozen? ⟨b, 0, none⟩ = W.frozen? ⟨b, 0, none⟩ := fun b hb => World.frozen?_of_block (Lib.iterAt_other W _ _ s p' hb)
      exact ⟨(hc _ (by omega)).trans h.ct, (hc _ (by omega)).trans h.ca, (hc _ (by omega)).trans h.cc, ⟨v, (hc _ (by omega)).trans cp, ownsRow_iterAt hown (by omega) s p'⟩, (hf _ (by omega)).trans h.fp, (hc _ (by omega)).trans h.cn, (hf _ (by omega)).trans h.fn, Lib.below_iterAt h.bel (by omega) s p', by rw [Lib.iterAt_size]; exact hz⟩)
    (fun done r l W he _ h _ => by
      rw [ptW_size]
      exact part_step s i j w hs done r l W he h)
  have ht := take_runTo j (rest s 0) []
  rw [List.nil_append] at ht
  have HE2 : Calls Try.prog 12 #[.string s, .func (.func 15) #[] #[.pointer (some ⟨w.heap.size + 1, 0, none⟩), .pointer (some ⟨w.heap.size + 4, 0, none⟩), .pointer (some ⟨w.heap.size + 2, 0, none⟩), .pointer (some ⟨w.heap.size + 3, 0, none⟩), .pointer (some ⟨w.heap.size, 0, none⟩)]] (ptW w s i j) fun e w' => e = .returned (.tuple #[]) ∧ ∃ a n c, w'.cell? ⟨w.heap.size + 3, 0, none⟩ = some (.slice a n c) ∧ (convert 38 9 (.slice a n c)).run Try.prog w' = .ok (.string ⟨(bytesOf s (((rest s 0).take j.toNat).drop i.toNat)).toArray⟩) w' ∧ Below w.heap.size w w' :=
    HE.mono fun e w' ⟨he, h⟩ => by
      obtain ⟨v, cp, hown⟩ := h.cp
      rw [ht] at hown
      have hcv := own_string w' _ v _ _ hown
      obtain ⟨a, c, rfl⟩ := slice_shape hown
      exact ⟨he, a, _, c, cp, hcv, h.bel⟩
  clear HE ht hs
  unfold ptW at HE2
  obtain ⟨R, hR⟩ : ∃ R, (⟨(bytesOf s (((rest s 0).take j.toNat).drop i.toNat)).toArray⟩ : ByteArray) = R := ⟨_, rfl⟩
  rw [hR] at HE2 ⊢
  go_enter Try.func8, Try.ntmps8
  go_wp2_with (go_at_call 12; refine HE2.mono ?_; rintro e W ⟨rfl, a, n, c, hc, hcv, hb⟩)
  go_ret
  exact ⟨rfl, hb⟩

#print axioms part_any
end Go.Proofs.Ytoecfpedpibfiab
