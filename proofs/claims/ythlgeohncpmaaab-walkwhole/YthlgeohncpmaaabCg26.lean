/- A list of pairs that List made: its cells. -/
import Derived.Test.YthlgeohncpmaaabCg24
namespace Go.Proofs.Ythlgeohncpmaaab
open Go.RowKit

theorem cP_len (x : V × V) : (cP x).length = 6 := rfl
theorem cPs_get : ∀ (l : List (V × V)) (i j : Nat) (x : V × V), l[i]? = some x → j < 6 → (cPs l)[i * 6 + j]? = (cP x)[j]?
  | [], i, _, _, h, _ => by simp at h
  | y :: l, 0, j, x, h, hj => by
    simp only [List.getElem?_cons_zero, Option.some.injEq] at h
    subst h
    show (cP y ++ cPs l)[0 * 6 + j]? = _
    rw [Nat.zero_mul, Nat.zero_add, List.getElem?_append_left (by rw [cP_len]; exact hj)]
  | y :: l, i + 1, j, x, h, hj => by
    simp only [List.getElem?_cons_succ] at h
    show (cP y ++ cPs l)[(i + 1) * 6 + j]? = _
    rw [List.getElem?_append_right (by rw [cP_len]; omega), cP_len, show (i + 1) * 6 + j - 6 = i * 6 + j by omega]
    exact cPs_get l i j x h hj
theorem pr_of {w : World} {base : Nat} {v : Value} {l : List (V × V)} (h : w.ownsRow base 45 6 v l.length (cPs l)) : ∃ a cp, v = .slice a l.length cp ∧ ∀ x, x ∈ l → ∃ g, a = some ⟨g, 0, none⟩ ∧ base ≤ g ∧ g < w.heap.size ∧ ∀ i x, l[i]? = some x → w.cell? ⟨g, i * 6, none⟩ = some (.int .i64 x.1.1) ∧ w.cell? ⟨g, i * 6 + 1, none⟩ = some (.int .i64 x.1.2.1) ∧ w.cell? ⟨g, i * 6 + 2, none⟩ = some (.string x.1.2.2) ∧ w.cell? ⟨g, i * 6 + 3, none⟩ = some (.int .i64 x.2.1) ∧ w.cell? ⟨g, i * 6 + 4, none⟩ = some (.int .i64 x.2.2.1) ∧ w.cell? ⟨g, i * 6 + 5, none⟩ = some (.string x.2.2.2) := by
  rcases h.2 with ⟨rfl, h0⟩ | ⟨g, cap, cur, rfl, hb, hg, _, _, _, hc⟩
  · refine ⟨none, 0, by rw [h0], fun x hx => ?_⟩
    have : l = [] := List.length_eq_zero_iff.1 h0
    rw [this] at hx; cases hx
  · refine ⟨_, cap, rfl, fun x hx => ⟨g, rfl, hb, (Array.getElem?_eq_some_iff.1 hg).1, fun i x hi => ?_⟩⟩
    have hil : i < l.length := (List.getElem?_eq_some_iff.1 hi).1
    have key : ∀ j u, j < 6 → (cP x)[j]? = some u → w.cell? ⟨g, i * 6 + j, none⟩ = some u := fun j u hj hu => by
      have h1 := cPs_get l i j x hi hj
      rw [hu, ← hc, List.getElem?_take, if_pos (by omega)] at h1
      rw [show w.cell? ⟨g, i * 6 + j, none⟩ = cur[i * 6 + j]? from by simp [World.cell?, hg]]
      simpa using h1
    exact ⟨key 0 _ (by omega) rfl, key 1 _ (by omega) rfl, key 2 _ (by omega) rfl, key 3 _ (by omega) rfl, key 4 _ (by omega) rfl, key 5 _ (by omega) rfl⟩
end Go.Proofs.Ythlgeohncpmaaab
