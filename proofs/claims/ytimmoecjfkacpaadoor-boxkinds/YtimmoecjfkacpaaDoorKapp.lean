/- A list of values that came in, and its copy by append. -/
import Derived.Test.YtimmoecjfkacpaaDoorRas
import Derived.Laws.OwnMore
namespace Go.Proofs.YtimmoecjfkacpaaDoor
open Go.RowKit

/-- The list of L values that lies at the address a. -/
structure ValsA (w : World) (a : Addr) (L : Nat) (K N : Nat → Int) (S : Nat → ByteArray) : Prop where
  k : ∀ i, i < L → w.cell? (a.add (i * 3)) = some (.int .i64 (K i))
  n : ∀ i, i < L → w.cell? (a.add (i * 3 + 1)) = some (.int .i64 (N i))
  s : ∀ i, i < L → w.cell? (a.add (i * 3 + 2)) = some (.string (S i))
  b0 : ∀ i, i < L → -9223372036854775808 ≤ N i
  b1 : ∀ i, i < L → N i ≤ 9223372036854775807
  lt : 0 < L → a.block < w.heap.size
theorem add_block (a : Addr) (j : Nat) : (a.add j).block = a.block := by
  simp [Addr.add]; try (split <;> rfl)
theorem ValsA.below {w w' : World} {a : Addr} {L : Nat} {K N : Nat → Int} {S : Nat → ByteArray} (h : ValsA w a L K N S) (hb : Below w.heap.size w w') : ValsA w' a L K N S :=
  ⟨fun i hi => by rw [hb.cell (by rw [add_block]; exact h.lt (by omega))]; exact h.k i hi, fun i hi => by rw [hb.cell (by rw [add_block]; exact h.lt (by omega))]; exact h.n i hi,
   fun i hi => by rw [hb.cell (by rw [add_block]; exact h.lt (by omega))]; exact h.s i hi, h.b0, h.b1, fun hl => Nat.lt_of_lt_of_le (h.lt hl) hb.size⟩

/-- Its cells in a row. -/
def cellOf (K N : Nat → Int) (S : Nat → ByteArray) (j : Nat) : Value := if j % 3 = 0 then .int .i64 (K (j / 3)) else if j % 3 = 1 then .int .i64 (N (j / 3)) else .string (S (j / 3))
def cellsOfV (K N : Nat → Int) (S : Nat → ByteArray) (L : Nat) : List Value := (List.range (L * 3)).map (cellOf K N S)
theorem cells_at (K N : Nat → Int) (S : Nat → ByteArray) (L j : Nat) (h : j < L * 3) : (cellsOfV K N S L)[j]? = some (cellOf K N S j) := by
  unfold cellsOfV
  rw [List.getElem?_map, List.getElem?_range h]
  rfl
theorem cells_len (K N : Nat → Int) (S : Nat → ByteArray) (L : Nat) : (cellsOfV K N S L).length = L * 3 := by simp [cellsOfV]
theorem cells_one (K N : Nat → Int) (S : Nat → ByteArray) (L : Nat) : ∀ u ∈ cellsOfV K N S L, u.oneCell' = true := by
  intro u hu
  unfold cellsOfV at hu
  rw [List.mem_map] at hu
  obtain ⟨j, _, rfl⟩ := hu
  unfold cellOf
  split
  · rfl
  · split <;> rfl
theorem cell0 (K N : Nat → Int) (S : Nat → ByteArray) (i : Nat) : cellOf K N S (i * 3) = .int .i64 (K i) := by
  unfold cellOf
  rw [if_pos (by omega)]
  have : i * 3 / 3 = i := by omega
  rw [this]
theorem cell1 (K N : Nat → Int) (S : Nat → ByteArray) (i : Nat) : cellOf K N S (i * 3 + 1) = .int .i64 (N i) := by
  unfold cellOf
  rw [if_neg (by omega), if_pos (by omega)]
  have : (i * 3 + 1) / 3 = i := by omega
  rw [this]
theorem cell2 (K N : Nat → Int) (S : Nat → ByteArray) (i : Nat) : cellOf K N S (i * 3 + 2) = .string (S i) := by
  unfold cellOf
  rw [if_neg (by omega), if_neg (by omega)]
  have : (i * 3 + 2) / 3 = i := by omega
  rw [this]
theorem ValsA.at {w : World} {a : Addr} {L : Nat} {K N : Nat → Int} {S : Nat → ByteArray} (h : ValsA w a L K N S) (j : Nat) (hj : j < L * 3) : w.cell? (a.add j) = some (cellOf K N S j) := by
  have e : j = j / 3 * 3 ∨ j = j / 3 * 3 + 1 ∨ j = j / 3 * 3 + 2 := by omega
  have hi : j / 3 < L := by omega
  generalize j / 3 = i at *
  rcases e with e | e | e
  · rw [e, cell0]; exact h.k i hi
  · rw [e, cell1]; exact h.n i hi
  · rw [e, cell2]; exact h.s i hi

theorem info23 : (Tryd.prog.info? 23).map (fun i => (i.zero, i.size, i.bytes)) = some (some zv, 3, 32) := by kernel_rfl

theorem app_any (a : Addr) (L cap : Nat) (K N : Nat → Int) (S : Nat → ByteArray) (w : World) (hv : ValsA w a L K N S) (hL : L * 32 ≤ 140737488355328) :
    ∃ g' c' w', (Builtin.append_ #[35, 35] 35 #[.slice (some ⟨w.heap.size, 0, none⟩) 0 0, .slice (some a) L cap]).run Tryd.prog (w.alloc (.cells #[] 23)) = .ok (.slice (some ⟨g', 0, none⟩) L c') w' ∧
      Vals w' g' L K N S ∧ Below w.heap.size w w' := by
  obtain ⟨i0, hi, hz0, hz1, hz2⟩ := info_parts info23
  have hv2 := hv.below (b1 w (.cells #[] 23))
  have hb0 : Below w.heap.size w (w.alloc (.cells #[] 23)) := b1 w _
  obtain ⟨v', w', hr, hown, hg, hne⟩ := run_append_own (P := Tryd.prog) (w.alloc (.cells #[] 23)) w.heap.size 35 35 23 i0 zv 3 32 Tryd.underlying35 hi hz0 hz1 hz2 rfl (by omega)
    (.slice (some ⟨w.heap.size, 0, none⟩) 0 0) 0 [] (World.ownsRow_made w #[] 0 (Nat.le_refl _) (Nat.zero_le _) rfl)
    a L cap (cellsOfV K N S L) (cells_len K N S L) (fun j u hu => by
      have hj : j < L * 3 := by
        have := List.getElem?_eq_some_iff.1 hu
        obtain ⟨h, _⟩ := this
        rw [cells_len] at h
        exact h
      rw [cells_at K N S L j hj] at hu
      rw [hv2.at j hj]
      exact hu) (cells_one K N S L) (by simp only [maxLen]; omega) (by omega) (by simp)
  have hbel : Below w.heap.size w w' := hb0.grown hg (by simp) (fun k hk => by
    simp only [Value.ownBlock, Option.some.injEq] at hk
    omega)
  simp only [Nat.zero_add, List.nil_append] at hown
  rcases hown.2 with ⟨h', _⟩ | ⟨g, c, cur, rfl, hbg, hgo, _, _, _, _⟩
  · have := hne.1 h'
    simp at this
  · have hlt : g < w'.heap.size := by
      rw [Array.getElem?_eq_some_iff] at hgo
      exact hgo.1
    refine ⟨g, c, w', hr, ⟨fun i hi => ?_, fun i hi => ?_, fun i hi => ?_, hv.b0, hv.b1, hlt⟩, hbel⟩
    · rw [hown.cellAt _ (by omega), cells_at K N S L _ (by omega), cell0]
    · rw [hown.cellAt _ (by omega), cells_at K N S L _ (by omega), cell1]
    · rw [hown.cellAt _ (by omega), cells_at K N S L _ (by omega), cell2]

end Go.Proofs.YtimmoecjfkacpaaDoor
