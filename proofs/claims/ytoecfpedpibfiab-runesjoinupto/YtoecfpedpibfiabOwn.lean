/- Cells of a call's own beside a text's iterator: how they stand through stores, new blocks and the iterator's steps. -/
import Derived.Test.YtoecfpedpibfiabEach
namespace Go.Proofs.Ytoecfpedpibfiab
open Go.RowKit

/-- The listed cells (block, place, value) are there, may be written, and lie from B on, beside block k; below B nothing has turned. -/
structure Own (B k : Nat) (w W : World) (cs : List (Nat × Nat × Value)) : Prop where
  cell : ∀ c ∈ cs, W.cell? ⟨c.1, c.2.1, none⟩ = some c.2.2
  free : ∀ c ∈ cs, W.frozen? ⟨c.1, c.2.1, none⟩ = false
  low : ∀ c ∈ cs, B ≤ c.1 ∧ c.1 ≠ k ∧ c.1 < W.heap.size
  below : Below B w W
  iter : B ≤ k ∧ k < W.heap.size

theorem Own.iterAt {B k : Nat} {w W : World} {cs : List (Nat × Nat × Value)} (h : Own B k w W cs) (s : ByteArray) (p : Nat) : Own B k w (W.iterAt k s p) cs where
  cell c hc := (World.cell?_of_block (Lib.iterAt_other W k c.1 s p (h.low c hc).2.1)).trans (h.cell c hc)
  free c hc := (World.frozen?_of_block (Lib.iterAt_other W k c.1 s p (h.low c hc).2.1)).trans (h.free c hc)
  low c hc := by rw [Lib.iterAt_size]; exact h.low c hc
  below := Lib.below_iterAt h.below h.iter.1 s p
  iter := by rw [Lib.iterAt_size]; exact h.iter

theorem Own.alloc {B k : Nat} {w W : World} {cs : List (Nat × Nat × Value)} (h : Own B k w W cs) (x : Obj) : Own B k w (W.alloc x) cs where
  cell c hc := (((Below.refl _ W).alloc (Nat.le_refl _) x).cell (h.low c hc).2.2).trans (h.cell c hc)
  free c hc := (((Below.refl _ W).alloc (Nat.le_refl _) x).frozen (h.low c hc).2.2).trans (h.free c hc)
  low c hc := by have := h.low c hc; simp; omega
  below := h.below.alloc (by have := h.iter; omega) x
  iter := by have := h.iter; simp; omega

theorem Own.set {B k : Nat} {w W : World} {cs : List (Nat × Nat × Value)} (h : Own B k w W cs) (b o : Nat) {v : Value} (hm : (b, o, v) ∈ cs) (v' : Value) :
    Own B k w (W.setCell ⟨b, o, none⟩ v') (cs.map fun c => if c.1 = b ∧ c.2.1 = o then (c.1, c.2.1, v') else c) where
  cell c hc := by
    obtain ⟨d, hd, rfl⟩ := List.mem_map.1 hc
    by_cases e : d.1 = b ∧ d.2.1 = o
    · rw [if_pos e]
      have := h.cell _ hm
      simp only [e.1, e.2]
      exact World.cell?_setCell_same _ _ _ this
    · rw [if_neg e]
      rw [World.cell?_setCell_other _ _ _ _ (fun q => e (by injection q with q1 q2; exact ⟨q1.symm, q2.symm⟩))]
      exact h.cell d hd
  free c hc := by
    obtain ⟨d, hd, rfl⟩ := List.mem_map.1 hc
    rw [World.frozen?_setCell]
    by_cases e : d.1 = b ∧ d.2.1 = o
    · rw [if_pos e]; exact h.free d hd
    · rw [if_neg e]; exact h.free d hd
  low c hc := by
    obtain ⟨d, hd, rfl⟩ := List.mem_map.1 hc
    have hz : (W.setCell ⟨b, o, none⟩ v').heap.size = W.heap.size := by simp [World.setCell]
    rw [hz]
    by_cases e : d.1 = b ∧ d.2.1 = o
    · rw [if_pos e]; exact h.low d hd
    · rw [if_neg e]; exact h.low d hd
  below := h.below.setCell (h.low _ hm).1 v'
  iter := by
    have hz : (W.setCell ⟨b, o, none⟩ v').heap.size = W.heap.size := by simp [World.setCell]
    rw [hz]; exact h.iter

/-- The iterator's block stays. -/
theorem iter_set {W : World} {b o k : Nat} (h : b ≠ k) (v : Value) : (W.setCell ⟨b, o, none⟩ v).heap[k]? = W.heap[k]? := Below.heap_setCell W _ v k (fun e => h e.symm)
theorem iter_alloc {W : World} {k : Nat} (h : k < W.heap.size) (x : Obj) : (W.alloc x).heap[k]? = W.heap[k]? := Below.heap_alloc W x k h
theorem size_set (W : World) (a : Addr) (v : Value) : (W.setCell a v).heap.size = W.heap.size := by simp [World.setCell]

/-- Cells of a block that has just been laid. -/
theorem new_cell (W : World) (l : List Value) (t : TypeId) (o : Nat) (v : Value) (h : l[o]? = some v) : (W.alloc (.cells l.toArray t)).cell? ⟨W.heap.size, o, none⟩ = some v ∧ (W.alloc (.cells l.toArray t)).frozen? ⟨W.heap.size, o, none⟩ = false := by
  have hh : (W.alloc (.cells l.toArray t)).heap[W.heap.size]? = some (.cells l.toArray t) := by
    show (W.heap.push _)[W.heap.size]? = _
    simp
  constructor
  · unfold World.cell?; rw [hh]; simp [h]
  · unfold World.frozen?; rw [hh]; simp

end Go.Proofs.Ytoecfpedpibfiab
