/- Play: the operations in memory, whether they are in form, what comes of them. -/
import Derived.Test.YteknjkofmkigoabHd
namespace Go.Proofs.Yteknjkofmkigoab.H
open Go.RowKit

/-- The value reads as the list of operations, in a block below N. -/
def Ops (N : Nat) (w : World) (v : Value) (l : List (Int × Int)) : Prop :=
  ∃ a cap, v = .slice a l.length cap ∧ l.length ≤ cap ∧ (l ≠ [] → ∃ b off, a = some ⟨b, off, none⟩ ∧ b < N ∧ ∀ i, i < l.length → w.cell? ⟨b, off + i * 2, none⟩ = some (.int .i64 (l.getD i (0, 0)).1) ∧ w.cell? ⟨b, off + i * 2 + 1, none⟩ = some (.int .i64 (l.getD i (0, 0)).2))
theorem Ops.below {N : Nat} {w w' : World} {v : Value} {l : List (Int × Int)} (h : Ops N w v l) (hb : Below N w w') : Ops N w' v l := by
  obtain ⟨a, cap, rfl, hc, h⟩ := h
  refine ⟨a, cap, rfl, hc, fun hl => ?_⟩
  obtain ⟨b, off, rfl, hg, hx⟩ := h hl
  exact ⟨b, off, rfl, hg, fun i hi => by rw [hb.cell (by exact hg), hb.cell (by exact hg)]; exact hx i hi⟩
theorem Ops.mono {N N' : Nat} {w : World} {v : Value} {l : List (Int × Int)} (h : Ops N w v l) (hN : N ≤ N') : Ops N' w v l := by
  obtain ⟨a, cap, rfl, hc, h⟩ := h
  refine ⟨a, cap, rfl, hc, fun hl => ?_⟩
  obtain ⟨b, off, rfl, hg, hx⟩ := h hl
  exact ⟨b, off, rfl, by omega, hx⟩
theorem Ops.go {w w' : World} {v : Value} {l : List (Int × Int)} (h : Ops w.heap.size w v l) (hb : Below w.heap.size w w') : Ops w'.heap.size w' v l := (h.below hb).mono hb.size
theorem bthen {N : Nat} {w w1 w2 : World} (h : Below N w w1) (hN : N ≤ w1.heap.size) (h2 : Below w1.heap.size w1 w2) : Below N w w2 := h.trans (h2.mono hN)

def inF (l : List (Int × Int)) : Bool := l.all fun p => decide (1 ≤ p.1 ∧ p.1 ≤ 3)
theorem inF_get {l : List (Int × Int)} (h : inF l = true) (k : Nat) (hk : k < l.length) : 1 ≤ (l.getD k (0, 0)).1 ∧ (l.getD k (0, 0)).1 ≤ 3 := by
  simp only [inF, List.all_eq_true, decide_eq_true_eq] at h
  rw [List.getD, List.getElem?_eq_getElem hk]
  exact h _ (List.getElem_mem hk)
theorem inF_of {l : List (Int × Int)} (h : ∀ k, k < l.length → 1 ≤ (l.getD k (0, 0)).1 ∧ (l.getD k (0, 0)).1 ≤ 3) : inF l = true := by
  simp only [inF, List.all_eq_true, decide_eq_true_eq]
  intro p hp
  obtain ⟨k, hk, rfl⟩ := List.getElem_of_mem hp
  have := h k hk
  rwa [List.getD, List.getElem?_eq_getElem hk] at this

set_option maxRecDepth 20000 in
set_option maxHeartbeats 1000000 in
theorem inform_any (l : List (Int × Int)) (v : Value) (w : World) (h : Ops w.heap.size w v l) (hl : l.length ≤ 1000000) :
    Calls Try.prog 36 #[v] w fun e w' => e = .returned (.bool (inF l)) ∧ Below w.heap.size w w' := by
  obtain ⟨a, cap, rfl, hcap, h⟩ := h
  have HC : Hid _ := h
  have HL : Hid (l ≠ [] ↔ 0 < l.length) := by
    show _ ↔ _
    cases l <;> simp
  have HY : Hid (∀ k, k < l.length → ¬ (1 ≤ (l.getD k (0, 0)).1 ∧ (l.getD k (0, 0)).1 ≤ 3) → inF l = false) := fun k hk q => by
    rw [Bool.eq_false_iff]
    exact fun q2 => q (inF_get q2 k hk)
  have HE : Hid ((∀ k, k < l.length → 1 ≤ (l.getD k (0, 0)).1 ∧ (l.getD k (0, 0)).1 ≤ 3) → inF l = true) := inF_of
  clear h hcap
  obtain ⟨L, hL⟩ : ∃ L, l.length = L := ⟨_, rfl⟩
  rw [hL] at HC HL HY HE hl ⊢
  clear hL
  go_enter Try.func36, Try.ntmps36
  go_wp2_with fail
  go_loopw [7] (fun i wr => ∃ k : Nat, i = .int .i64 k ∧ k ≤ L ∧ Hid (∀ j, j < k → 1 ≤ (l.getD j (0, 0)).1 ∧ (l.getD j (0, 0)).1 ≤ 3) ∧ Below w.heap.size w wr) (fun i _ => L - (intOf i).toNat)
  case atStart => exact ⟨0, rfl, by omega, fun j hj => absurd hj (by omega), Below.refl _ _⟩
  case round =>
    obtain ⟨k, rfl, hk, HT, hb⟩ := hrel
    by_cases hlt : k < L
    · have hlt' : (k : Int) < (L : Int) := by omega
      obtain ⟨g, off, rfl, hg, hc⟩ := HC.out (HL.out.2 (by omega))
      obtain ⟨q0, q1⟩ := hc k hlt
      have d0 := (hb.cell (by exact hg)).trans q0
      have d1 := (hb.cell (by exact hg)).trans q1
      have hbs := hb.size
      have lg : g < wr.heap.size := by omega
      have HN : Hid (∀ x, (l.getD k (0, 0)).1 = x → 1 ≤ x ∧ x ≤ 3 → ∀ j, j < k + 1 → 1 ≤ (l.getD j (0, 0)).1 ∧ (l.getD j (0, 0)).1 ≤ 3) := fun x hx q j hj => by
        by_cases hjk : j = k
        · subst hjk; rw [hx]; exact q
        · exact HT.out j (by omega)
      have HF : Hid (∀ x, (l.getD k (0, 0)).1 = x → ¬ (1 ≤ x ∧ x ≤ 3) → inF l = false) := fun x hx q => HY.out k hlt (by rw [hx]; exact q)
      obtain ⟨x, hx⟩ : ∃ x, (l.getD k (0, 0)).1 = x := ⟨_, rfl⟩
      have HN2 : Hid _ := HN.out x hx
      have HF2 : Hid _ := HF.out x hx
      rw [hx] at d0
      clear hc HC HN HF q0 q1 hx HT HY
      generalize (l.getD k (0, 0)).2 = y at *
      by_cases h1 : x < 1
      · have HZ : Hid _ := HF2.out (by omega)
        go_wp2_with fail
        go_ret
        exact ⟨retB HZ.out, hb.alloc hbs _⟩
      · by_cases h2 : 3 < x
        · have HZ : Hid _ := HF2.out (by omega)
          go_wp2_with fail
          go_ret
          exact ⟨retB HZ.out, hb.alloc hbs _⟩
        · have HZ : Hid _ := HN2.out (by omega)
          go_wp2_with fail
          go_roundw
          case rel => exact ⟨k + 1, by go_num, by omega, HZ.out, hb.alloc hbs _⟩
          case measure => simp [intOf]; omega
    · obtain rfl : k = L := by omega
      have HZ : Hid _ := HE.out HT.out
      go_wp2_with fail
      go_ret
      exact ⟨retB HZ.out, hb⟩
end Go.Proofs.Yteknjkofmkigoab.H
