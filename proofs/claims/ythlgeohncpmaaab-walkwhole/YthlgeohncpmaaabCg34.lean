/- Opening a list of operations that came in. -/
import Derived.Test.YthlgeohncpmaaabCg23
namespace Go.Proofs.Ythlgeohncpmaaab
open Go.RowKit Go.ChangeShapes Go.WideShapes Go.ChangeAt Go.Deep

set_option maxRecDepth 100000 in
theorem open_ops {H : Type} {enc : TypeId × Value → H} {W : World} {base b0 : Nat} {held : Bool} {r : Reach} {v : Value} {d : DataW H} {ps : List MemPlace}
    (hval : Value.okWide Try.prog W r b0 22 v) (hd : DataW.Trod enc Try.prog W base (fun _ => true) held 22 v d ps) :
    ∃ (a : Option Addr) (L cap : Nat) (Q : Nat → Int × V × V), v = .slice a L cap ∧ L ≤ cap ∧ Ops W.heap.size W a L Q := by
  obtain ⟨a0, l0, c0, rfl⟩ := okWide_slice Try.underlying22 hval
  obtain ⟨fuel, hf⟩ := hd
  rcases open_slice Try.underlying22 hf with ⟨h0, _⟩ | ⟨a, len, cap, m, n, D, Pl, h0, hb, hl, hm, hmm, hx, he⟩
  · have e : (Value.slice a0 l0 c0) = .slice none 0 0 := by simpa [Value.cells] using h0
    rw [e]
    exact ⟨none, 0, 0, fun _ => (0, nil, nil), rfl, Nat.le_refl _, fun i hi => absurd hi (Nat.not_lt_zero _), fun h => absurd h (Nat.lt_irrefl _)⟩
  · simp only [if_true] at hmm
    subst hmm
    have e : (Value.slice a0 l0 c0) = .slice (some a) len m := by simpa [Value.cells] using h0
    rw [e]
    have each : ∀ i, i < m → ∃ q : Int × V × V, (∀ j, j < 7 → W.cell? (a.add (i * 7 + j)) = some (oc q j)) ∧ Rng q.2.1 := by
      intro i hi
      obtain ⟨cs', h1, h2⟩ := he i hi
      rw [cells35] at h1
      obtain ⟨_, hlen, hcell⟩ := World.cells?_some h1
      obtain ⟨q, hq, hr⟩ := elem_op hlen h2
      refine ⟨q, fun j hj => ?_, hr⟩
      have := hcell j (by omega)
      rw [Addr.add_add] at this
      rw [this]
      exact hq j hj
    obtain ⟨Q, hQ⟩ : ∃ Q : Nat → Int × V × V, ∀ i, i < m → (∀ j, j < 7 → W.cell? (a.add (i * 7 + j)) = some (oc (Q i) j)) ∧ Rng (Q i).2.1 :=
      ⟨fun i => if h : i < m then (each i h).choose else (0, nil, nil), fun i hi => by
        simp only [dif_pos hi]
        exact (each i hi).choose_spec⟩
    refine ⟨some a, len, m, Q, rfl, hl, fun i hi => (hQ i (by omega)).2, fun h0 => ?_⟩
    have hc0 := (hQ 0 (by omega)).1 0 (by omega)
    have ha : a.add (0 * 7 + 0) = a := rfl
    rw [ha] at hc0
    obtain ⟨b, off, spot⟩ := a
    have hs : spot = none := by
      cases spot with
      | none => rfl
      | some q => unfold World.cell? at hc0; split at hc0 <;> simp at hc0
    subst hs
    have hadd : ∀ i, (Addr.add ⟨b, off, none⟩ i) = ⟨b, off + i, none⟩ := fun i => by
      by_cases hj0 : i = 0
      · subst hj0; rfl
      · simp [Addr.add, hj0]
    refine ⟨b, off, rfl, World.block_lt_of_cell? W _ hc0, fun i hi j hj => ?_⟩
    have := (hQ i (by omega)).1 j hj
    rw [hadd, ← Nat.add_assoc] at this
    exact this
end Go.Proofs.Ythlgeohncpmaaab
