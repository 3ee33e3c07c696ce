/- The walk of Turned, for every text: the runes' bytes from the last one to the first. -/
import Derived.Test.YtoecfpedpibfiaaTurn
import Derived.Laws.MakeOwn
import Derived.Laws.CopyOwn
namespace Go.Proofs.Ytoecfpedpibfiaa
open Go.RowKit

theorem bytesOf_rev_len (s : ByteArray) (l : List Rn) : (bytesOf s l.reverse).length = (bytesOf s l).length := by
  induction l with
  | nil => rfl
  | cons r l ih =>
    rw [List.reverse_cons, bytesOf_append, List.length_append, ih]
    simp [bytesOf]; omega

theorem cell_of_row {W : World} {g : Nat} {l : List Value} {t : TypeId} {f : Nat × Nat} (h : W.heap[g]? = some (.cells l.toArray t f)) (o : Nat) : W.cell? ⟨g, o, none⟩ = l[o]? := by
  unfold World.cell?
  rw [h]
  simp

def turnRow (s : ByteArray) (Z : List Value) (done : List Rn) : List Value := Z.take (s.size - (bytesOf s done).length) ++ bc (bytesOf s done.reverse)

structure TurnAt (s : ByteArray) (Z : List Value) (w : World) (done : List Rn) (W : World) : Prop where
  ct : W.cell? ⟨w.heap.size, 0, none⟩ = some (.string s)
  row : W.heap[w.heap.size + 1]? = some (.cells (turnRow s Z done).toArray 5 (0, 0))
  cv : W.cell? ⟨w.heap.size + 2, 0, none⟩ = some (.slice (some ⟨w.heap.size + 1, 0, none⟩) s.size s.size)
  ce : W.cell? ⟨w.heap.size + 3, 0, none⟩ = some (.int .i64 ((s.size - (bytesOf s done).length : Nat) : Int))
  fe : W.frozen? ⟨w.heap.size + 3, 0, none⟩ = false
  bel : Below w.heap.size w W
  size : w.heap.size + 5 ≤ W.heap.size

def tnW (w : World) (s : ByteArray) (Z : List Value) : World := (((w.alloc (.cells #[.string s] 9)).alloc (.cells Z.toArray 5)).alloc (.cells #[.slice (some ⟨w.heap.size + 1, 0, none⟩) s.size s.size] 50)).alloc (.cells #[.int .i64 s.size] 3)
theorem tnW_size (w : World) (s : ByteArray) (Z : List Value) : (tnW w s Z).heap.size = w.heap.size + 4 := by simp [tnW]

theorem heap_new (W : World) (n : Nat) (hn : W.heap.size = n) (o : Obj) : (W.alloc o).heap[n]? = some o := by
  subst hn
  show (W.heap.push _)[W.heap.size]? = _
  simp

theorem turn_start (s : ByteArray) (Z : List Value) (w : World) (hZ : Z.length = s.size) : TurnAt s Z w [] ((tnW w s Z).alloc (.stringIter s 0)) := by
  have n0 := new1 w _ rfl (.string s) 9
  have n1 := heap_new (w.alloc (.cells #[.string s] 9)) (w.heap.size + 1) (by simp) (.cells Z.toArray 5)
  have n2 := new1 ((w.alloc (.cells #[.string s] 9)).alloc (.cells Z.toArray 5)) (w.heap.size + 2) (by simp) (.slice (some ⟨w.heap.size + 1, 0, none⟩) s.size s.size) 50
  have n3 := new1 (((w.alloc (.cells #[.string s] 9)).alloc (.cells Z.toArray 5)).alloc (.cells #[.slice (some ⟨w.heap.size + 1, 0, none⟩) s.size s.size] 50)) (w.heap.size + 3) (by simp) (.int .i64 s.size) 3
  have e0 : bytesOf s [] = [] := rfl
  have e1 : turnRow s Z [] = Z := by simp [turnRow, e0, bc, ← hZ]
  unfold tnW
  refine ⟨?_, ?_, ?_, ?_, ?_, ?_, ?_⟩
  · exact alloc_cell (by simp <;> omega) (alloc_cell (by simp <;> omega) (alloc_cell (by simp <;> omega) (alloc_cell (by simp <;> omega) n0.1 _) _) _) _
  · rw [e1, iter_alloc (by simp <;> omega), iter_alloc (by simp <;> omega), iter_alloc (by simp <;> omega)]
    exact n1
  · exact alloc_cell (by simp <;> omega) (alloc_cell (by simp <;> omega) n2.1 _) _
  · rw [e0]
    exact alloc_cell (by simp <;> omega) n3.1 _
  · exact alloc_frozen (by simp <;> omega) n3.2 _
  · exact bel_new' (bel_new' (bel_new' (bel_new' (bel_new' (Below.refl _ w) _) _) _) _) _
  · simp

theorem setRow_size (W : World) (g : Nat) (cs : Array Value) : (W.setRow g cs).heap.size = W.heap.size := by simp [World.setRow]

set_option maxHeartbeats 1000000 in
theorem turned_step (s : ByteArray) (Z : List Value) (w : World) (hZ : Z.length = s.size) (hs : s.size ≤ 1048576) (done : List Rn) (r : Rn) (l : List Rn) (W : World) (he : rest s 0 = done ++ r :: l) (h : TurnAt s Z w done W) :
    Calls Try.prog 35 (#[encR r] ++ #[.pointer (some ⟨w.heap.size + 3, 0, none⟩), .pointer (some ⟨w.heap.size + 2, 0, none⟩), .pointer (some ⟨w.heap.size, 0, none⟩)]) W fun e W' =>
      e = .returned (.bool true) ∧ TurnAt s Z w (done ++ [r]) W' ∧ W'.heap[w.heap.size + 4]? = W.heap[w.heap.size + 4]? := by
  obtain ⟨hb1, hb2⟩ := bytes_len s done r l he
  have hz := h.size
  have hr2 : 1 ≤ r.2.1 ∧ r.1 + r.2.1 ≤ s.size := by
    obtain ⟨hr, hp⟩ := mid_pos s done r l he
    rw [hr]
    exact ⟨wd_pos s _, wd_le s _ hp⟩
  have hlen : (turnRow s Z done).length = s.size := by
    rw [turnRow, List.length_append, List.length_take, bc_length, bytesOf_rev_len, hZ]; omega
  have e1 : (bytesOf s (done ++ [r])).length = (bytesOf s done).length + r.2.1 := by rw [bytesOf_snoc, List.length_append, hb2]
  refine (turn_step (w.heap.size + 3) (w.heap.size + 2) w.heap.size (w.heap.size + 1) W r.1 r.2.1 r.2.2 (s.size - (bytesOf s done).length) s.size s (turnRow s Z done) (by omega) (by omega) (by omega) (by omega) (by omega) h.ce h.fe h.cv h.ct (by omega) (by omega) h.row hlen hr2.1 (by omega) (by omega) hr2.2 hs hs).mono fun e W' ⟨he', W1, hbw, hW⟩ => ?_
  subst hW
  have hz1 : (W.setCell ⟨w.heap.size + 3, 0, none⟩ (.int .i64 ((s.size - (bytesOf s done).length - r.2.1 : Nat) : Int))).heap.size = W.heap.size := size_set _ _ _
  have hz2 := hbw.size
  have blk : ∀ b, b ≠ w.heap.size + 1 → b < W.heap.size → ∀ cs, (W1.setRow (w.heap.size + 1) cs).heap[b]? = (W.setCell ⟨w.heap.size + 3, 0, none⟩ (.int .i64 ((s.size - (bytesOf s done).length - r.2.1 : Nat) : Int))).heap[b]? := fun b hb hb' cs => (setRow_other W1 _ b cs hb).trans (hbw.block b hb')
  have hrow1 : W1.heap[w.heap.size + 1]? = some (.cells (turnRow s Z done).toArray 5 (0, 0)) := (hbw.block _ (by omega)).trans ((iter_set (by omega) _).trans h.row)
  refine ⟨he', ⟨?_, ?_, ?_, ?_, ?_, ?_, ?_⟩, ?_⟩
  · rw [World.cell?_of_block (blk w.heap.size (by omega) (by omega) _), World.cell?_setCell_other _ _ _ _ (by simp)]
    exact h.ct
  · rw [setRow_heap W1 _ _ _ 5 _ hrow1]
    have e2 : (turnRow s Z done).take (s.size - (bytesOf s done).length - r.2.1) = Z.take (s.size - (bytesOf s (done ++ [r])).length) := by
      rw [turnRow, List.take_append_of_le_length (by rw [List.length_take, hZ]; omega), List.take_take, e1]
      congr 1; omega
    have e3 : (turnRow s Z done).drop (s.size - (bytesOf s done).length) = bc (bytesOf s done.reverse) := by
      rw [turnRow, List.drop_append_of_le_length (by rw [List.length_take, hZ]; omega), List.drop_eq_nil_of_le (by rw [List.length_take, hZ]; omega), List.nil_append]
    have e4 : turnRow s Z (done ++ [r]) = Z.take (s.size - (bytesOf s (done ++ [r])).length) ++ bc (rb s r) ++ bc (bytesOf s done.reverse) := by
      rw [turnRow, List.reverse_append]
      simp [bytesOf, bc]
    rw [e4, ← e2, ← e3]
    rfl
  · rw [World.cell?_of_block (blk (w.heap.size + 2) (by omega) (by omega) _), World.cell?_setCell_other _ _ _ _ (by simp)]
    exact h.cv
  · rw [World.cell?_of_block (blk (w.heap.size + 3) (by omega) (by omega) _), World.cell?_setCell_same _ _ _ h.ce, e1, Nat.sub_sub]
  · rw [World.frozen?_of_block (blk (w.heap.size + 3) (by omega) (by omega) _), World.frozen?_setCell]
    exact h.fe
  · have b1 : Below w.heap.size w (W.setCell ⟨w.heap.size + 3, 0, none⟩ (.int .i64 ((s.size - (bytesOf s done).length - r.2.1 : Nat) : Int))) := h.bel.setCell (by simp) _
    exact below_setRow (b1.trans (hbw.mono (by omega))) (by omega) _
  · rw [setRow_size]; omega
  · rw [blk (w.heap.size + 4) (by omega) (by omega) _]
    exact iter_set (by omega) _

set_option maxHeartbeats 1000000 in
theorem turned_any (s : ByteArray) (w : World) (hs : s.size ≤ 1048576) : Calls Try.prog 15 #[.string s] w fun e w' => e = .returned (.string ⟨(bytesOf s (rest s 0).reverse).toArray⟩) ∧ Below w.heap.size w w' := by
  obtain ⟨i0, hi, hz0, hz1, hz2⟩ := info_parts Try.info5
  obtain ⟨Z, hZ, hmk⟩ : ∃ Z : List Value, Z.length = s.size ∧ ∀ W, (Instr.makeSlice 50 (.int .i64 s.size) (.int .i64 s.size)).run Try.prog W = .ok (.slice (some ⟨W.heap.size, 0, none⟩) s.size s.size) (W.alloc (.cells Z.toArray 5)) := by
    refine ⟨(madeCells (Value.int .u8 0).cells (s.size * i0.size)).toList, ?_, fun W => ?_⟩
    · rw [Array.length_toList, size_madeCells, hz1, Nat.mul_one]
    · have h := run_make (P := Try.prog) W 50 5 i0 (.int .u8 0) Try.underlying50 hi hz0 .i64 .i64 s.size s.size (by omega) (Int.le_refl _) (by rw [hz2]; omega) (by omega)
      simpa using h
  have HE := each_any s 35 #[.pointer (some ⟨w.heap.size + 3, 0, none⟩), .pointer (some ⟨w.heap.size + 2, 0, none⟩), .pointer (some ⟨w.heap.size, 0, none⟩)] enters35 (tnW w s Z) (by omega) (fun _ => true) (TurnAt s Z w)
    (turn_start s Z w hZ)
    (fun done W p p' h _ => by
      rw [tnW_size]
      have hz := h.size
      have hc : ∀ b, b ≠ w.heap.size + 4 → (W.iterAt (w.heap.size + 4) s p').cell? ⟨b, 0, none⟩ = W.cell? ⟨b, 0, none⟩ := fun b hb => World.cell?_of_block (Lib.iterAt_other W _ _ s p' hb)
      have hf : ∀ b, b ≠ w.heap.size + 4 → (W.iterAt (w.heap.size + 4) s p').frozen? ⟨b, 0, none⟩ = W.frozen? ⟨b, 0, none⟩ := fun b hb => World.frozen?_of_block (Lib.iterAt_other W _ _ s p' hb)
      exact ⟨(hc _ (by omega)).trans h.ct, (Lib.iterAt_other W _ _ s p' (by omega)).trans h.row, (hc _ (by omega)).trans h.cv, (hc _ (by omega)).trans h.ce, (hf _ (by omega)).trans h.fe, Lib.below_iterAt h.bel (by omega) s p', by rw [Lib.iterAt_size]; exact hz⟩)
    (fun done r l W he _ h _ => by
      rw [tnW_size]
      exact turned_step s Z w hZ hs done r l W he h)
  rw [runTo_all, List.nil_append] at HE
  have HE2 : Calls Try.prog 29 #[.string s, .func (.func 35) #[] #[.pointer (some ⟨w.heap.size + 3, 0, none⟩), .pointer (some ⟨w.heap.size + 2, 0, none⟩), .pointer (some ⟨w.heap.size, 0, none⟩)]] (tnW w s Z) fun e w' => e = .returned (.tuple #[]) ∧ w'.cell? ⟨w.heap.size + 2, 0, none⟩ = some (.slice (some ⟨w.heap.size + 1, 0, none⟩) s.size s.size) ∧ (convert 50 9 (.slice (some ⟨w.heap.size + 1, 0, none⟩) s.size s.size)).run Try.prog w' = .ok (.string ⟨(bytesOf s (rest s 0).reverse).toArray⟩) w' ∧ Below w.heap.size w w' :=
    HE.mono fun e w' ⟨he, h⟩ => by
      refine ⟨he, h.cv, ?_, h.bel⟩
      have hl0 : (bytesOf s (rest s 0)).length = s.size := by rw [bytes_rest, List.drop_zero]; exact Array.length_toList
      have hl : (bytesOf s (rest s 0).reverse).length = s.size := by rw [bytesOf_rev_len, hl0]
      have hrow := h.row
      rw [turnRow, hl0, Nat.sub_self, List.take_zero, List.nil_append] at hrow
      have := run_convert_bytes_back (P := Try.prog) w' 50 9 5 ⟨w.heap.size + 1, 0, none⟩ s.size (bytesOf s (rest s 0).reverse) Try.underlying50 Try.underlying5 Try.underlying9 (fun j hj => by
        show w'.cell? ((⟨w.heap.size + 1, 0, none⟩ : Addr).add j) = _
        rw [Addr.add_lit, cell_of_row hrow]
        simp [bc, hj])
      rw [hl] at this
      exact this
  clear HE hs hZ hi hz0 hz1 hz2
  unfold tnW at HE2
  obtain ⟨R, hR⟩ : ∃ R, (⟨(bytesOf s (rest s 0).reverse).toArray⟩ : ByteArray) = R := ⟨_, rfl⟩
  rw [hR] at HE2 ⊢
  go_enter Try.func15, Try.ntmps15
  go_wp2_with (go_at_call 29; refine HE2.mono ?_; rintro e W ⟨rfl, hc, hcv, hb⟩)
  go_ret
  exact ⟨rfl, hb⟩

#print axioms turned_any
end Go.Proofs.Ytoecfpedpibfiaa
