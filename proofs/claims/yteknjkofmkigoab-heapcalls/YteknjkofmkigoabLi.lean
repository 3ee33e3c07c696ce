/- Lists of ints in memory, and their comparison. -/
import Derived.Test.YteknjkofmkigoabPl
namespace Go.Proofs.Yteknjkofmkigoab.H
open Go.RowKit

/-- The value reads as the list, in a block below N. -/
def Ints (N : Nat) (w : World) (v : Value) (l : List Int) : Prop :=
  ∃ a cap, v = .slice a l.length cap ∧ l.length ≤ cap ∧ (l ≠ [] → ∃ b off, a = some ⟨b, off, none⟩ ∧ b < N ∧ ∀ i, i < l.length → w.cell? ⟨b, off + i, none⟩ = some (.int .i64 (l.getD i 0)))

theorem Ints.below {N : Nat} {w w' : World} {v : Value} {l : List Int} (h : Ints N w v l) (hb : Below N w w') : Ints N w' v l := by
  obtain ⟨a, cap, rfl, hc, h⟩ := h
  refine ⟨a, cap, rfl, hc, fun hl => ?_⟩
  obtain ⟨b, off, rfl, hg, hx⟩ := h hl
  exact ⟨b, off, rfl, hg, fun i hi => by rw [hb.cell (by exact hg)]; exact hx i hi⟩
theorem Ints.mono {N N' : Nat} {w : World} {v : Value} {l : List Int} (h : Ints N w v l) (hN : N ≤ N') : Ints N' w v l := by
  obtain ⟨a, cap, rfl, hc, h⟩ := h
  refine ⟨a, cap, rfl, hc, fun hl => ?_⟩
  obtain ⟨b, off, rfl, hg, hx⟩ := h hl
  exact ⟨b, off, rfl, by omega, hx⟩
theorem Ints.go {w w' : World} {v : Value} {l : List Int} (h : Ints w.heap.size w v l) (hb : Below w.heap.size w w') : Ints w'.heap.size w' v l := (h.below hb).mono hb.size
theorem balloc (w : World) (o : Obj) : Below w.heap.size w (w.alloc o) := (Below.refl _ _).alloc (Nat.le_refl _) o

set_option maxHeartbeats 1000000 in
/-- The comparison of two lists of one length. -/
theorem same_walk (l m : List Int) (v v' : Value) (w : World) (h : Ints w.heap.size w v l) (h' : Ints w.heap.size w v' m) (hlen : l.length = m.length) (hbig : l.length ≤ 1000000) :
    Calls Try.prog 13 #[v, v'] w fun e w' => e = .returned (.bool (decide (l = m))) ∧ Below w.heap.size w w' := by
  obtain ⟨a, cap, rfl, hcap, h⟩ := h
  obtain ⟨a', cap', rfl, hcap', h'⟩ := h'
  have HC : Hid _ := h
  have HC' : Hid _ := h'
  have HE : Hid (∀ k, k ≤ l.length → l.take k = m.take k → ¬ k < l.length → decide (l = m) = true) := by
    intro k hk ht hkl
    have : k = l.length := by omega
    subst this
    rw [List.take_length, List.take_of_length_le (by omega)] at ht
    simpa using ht
  have HS : Hid (∀ k, k < l.length → l.take k = m.take k → l.getD k 0 = m.getD k 0 → l.take (k + 1) = m.take (k + 1)) := by
    intro k hk ht hx
    rw [List.take_add_one, List.take_add_one, ht]
    congr 1
    rw [List.getElem?_eq_getElem hk, List.getElem?_eq_getElem (by omega)]
    simp only [List.getD, List.getElem?_eq_getElem hk, List.getElem?_eq_getElem (show k < m.length by omega), Option.getD_some] at hx
    rw [hx]
  have HN : Hid (∀ k, k < l.length → ¬ l.getD k 0 = m.getD k 0 → decide (l = m) = false) := by
    intro k hk hx
    simp only [decide_eq_false_iff_not]
    intro e; rw [e] at hx; exact hx rfl
  have HL : Hid (l ≠ [] ↔ 0 < l.length) := by
    show _ ↔ _
    cases l <;> simp
  have HM : Hid (m ≠ [] ↔ 0 < l.length) := by
    show _ ↔ _
    rw [hlen]; cases m <;> simp
  clear h h'
  rw [← hlen] at HC' hcap' ⊢
  obtain ⟨L, hL⟩ : ∃ L, l.length = L := ⟨_, rfl⟩
  rw [hL] at HC HC' HE HS HN HL HM hbig ⊢
  clear hL hcap hcap' hlen
  go_enter Try.func13, Try.ntmps13
  go_wp2
  go_loopw [5] (fun i wr => ∃ k : Nat, i = .int .i64 k ∧ k ≤ L ∧ Hid (l.take k = m.take k) ∧ Below w.heap.size w wr) (fun i _ => L - (intOf i).toNat)
  case atStart => exact ⟨0, rfl, by omega, by rfl, Below.refl _ _⟩
  case round =>
    obtain ⟨k, rfl, hk, HT, hb⟩ := hrel
    by_cases hlt : k < L
    · have hlt' : (k : Int) < (L : Int) := by omega
      obtain ⟨g, off, rfl, hg, hc⟩ := HC.out (HL.out.2 (by omega))
      obtain ⟨g', off', rfl, hg', hc'⟩ := HC'.out (HM.out.2 (by omega))
      have c1 : wr.cell? ⟨g, off + k, none⟩ = some (.int .i64 (l.getD k 0)) := by rw [hb.cell (by exact hg)]; exact hc k hlt
      have c2 : wr.cell? ⟨g', off' + k, none⟩ = some (.int .i64 (m.getD k 0)) := by rw [hb.cell (by exact hg')]; exact hc' k hlt
      clear hc hc'
      by_cases hx : l.getD k 0 = m.getD k 0
      · have HT2 : Hid (l.take (k + 1) = m.take (k + 1)) := HS.out k hlt HT.out hx
        rw [← hx] at c2
        clear hx
        generalize l.getD k 0 = x at c1 c2
        go_wp2
        go_region
        go_wp2
        go_roundw
        case rel => exact ⟨k + 1, by go_num, by omega, HT2, hb.drew⟩
        case measure => simp [intOf]; omega
      · have HD : Hid (decide (l = m) = false) := HN.out k hlt hx
        have hx' : (l.getD k 0 == m.getD k 0) = false := by simpa using hx
        have hx'' : (l.getD k 0 != m.getD k 0) = true := by simpa using hx
        generalize l.getD k 0 = x at c1 hx hx' hx''
        generalize m.getD k 0 = y at c2 hx hx' hx''
        go_wp2
        go_region
        go_wp2
        go_ret
        exact ⟨retB HD.out, hb.drew⟩
    · have HD : Hid (decide (l = m) = true) := HE.out k hk HT.out hlt
      go_wp2
      go_ret
      exact ⟨retB HD.out, hb⟩

theorem ints_own {B : Nat} {w : World} {v : Value} {l : List Int} (h : w.ownsRow B 3 1 v l.length (l.map (Value.int .i64))) : Ints w.heap.size w v l := by
  have hcs := fun g => h.cells (g := g)
  rcases h.2 with ⟨rfl, hz⟩ | ⟨g, cap, cur, rfl, h2, h3, h4, h5, h6, h7⟩
  · exact ⟨none, 0, by rw [hz], by omega, fun hl => absurd (List.eq_nil_of_length_eq_zero hz) hl⟩
  · refine ⟨_, cap, rfl, h4, fun _ => ⟨g, 0, rfl, (Array.getElem?_eq_some_iff.1 h3).1, fun i hi => ?_⟩⟩
    have := hcs g rfl i (Value.int .i64 (l.getD i 0)) (by simp [List.getD, List.getElem?_eq_getElem hi])
    by_cases hp0 : i = 0
    · subst hp0; simpa [Addr.add] using this
    · simpa [Addr.add, hp0] using this

theorem new_cell (W : World) (cs : Array Value) (t : TypeId) (b i : Nat) (h : W.heap.size = b) : (W.alloc (.cells cs t)).cell? ⟨b, i, none⟩ = cs[i]? := by
  subst h
  exact cell_row (MapKept.heap_alloc W _).1 i
theorem ints_new (w : World) (l : List Int) (cap : Nat) (hc : l.length ≤ cap) : Ints (w.alloc (.cells (l.map (Value.int .i64)).toArray 3)).heap.size (w.alloc (.cells (l.map (Value.int .i64)).toArray 3)) (.slice (some ⟨w.heap.size, 0, none⟩) l.length cap) l := by
  refine ⟨_, cap, rfl, hc, fun _ => ⟨w.heap.size, 0, rfl, by simp, fun i hi => ?_⟩⟩
  rw [new_cell _ _ _ _ _ rfl]
  simp [List.getD, List.getElem?_eq_getElem hi]


end Go.Proofs.Yteknjkofmkigoab.H
