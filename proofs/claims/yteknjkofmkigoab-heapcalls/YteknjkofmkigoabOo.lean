/- How a list of operations that came in is read. -/
import Derived.Test.YteknjkofmkigoabPl
import Derived.ProofKit
import Derived.OpenShut
import Derived.ChangeSlices
import Derived.ChangeOld
import Derived.SizedLaws
import Derived.Deep.Slices
import Derived.Deep.Fields
namespace Go.Proofs.Yteknjkofmkigoab.H
open Go.RowKit Go.ChangeShapes Go.WideShapes Go.ChangeAt Go.Deep

theorem cells3 : Try.prog.cellsOf 3 = 1 := by kernel_rfl
theorem cells52 : Try.prog.cellsOf 52 = 2 := by kernel_rfl
theorem bytes52 : Try.prog.bytesOf 52 = 16 := by kernel_rfl
theorem laidOut : laidOutB Try.prog = true := by kernel_rfl

theorem elem_op {H : Type} {enc : TypeId × Value → H} {W : World} {base : Nat} {sp : Nat → Bool} {held : Bool} {fuel : Nat} {cs : List Value} {x : DataW H × List MemPlace}
    (hlen : cs.length = 2) (hf : DataW.trod enc Try.prog W base sp held fuel 52 cs = some x) : ∃ k n : Int, cs = [.int .i64 k, .int .i64 n] := by
  obtain ⟨c0, c1, rfl⟩ : ∃ c0 c1, cs = [c0, c1] := by
    match cs, hlen with
    | [c0, c1], _ => exact ⟨c0, c1, rfl⟩
  obtain ⟨y0, y1, m, hx, _, t0, t1⟩ := trod_struct2 Try.underlying52 hf
  obtain ⟨k, e0, f0, g0⟩ := DataW.trod_int Try.underlying3 t0
  obtain ⟨n, e1, f1, g1⟩ := DataW.trod_int Try.underlying3 t1
  simp [cells3] at e0 e1
  subst e0 e1
  exact ⟨k, n, rfl⟩

theorem open_ops {H : Type} {enc : TypeId × Value → H} {W : World} {base b0 : Nat} {held : Bool} {r : Reach} {v : Value} {d : DataW H} {ps : List MemPlace}
    (hval : Value.okWide Try.prog W r b0 29 v) (hd : DataW.Trod enc Try.prog W base (fun _ => true) held 29 v d ps) :
    ∃ l : List (Int × Int), Ops W.heap.size W v l ∧ (l = [] ∨ ∃ elems spare : List (DataW H), d = .slice elems spare ∧ elems.length = l.length) := by
  obtain ⟨a0, l0, c0, rfl⟩ := okWide_slice Try.underlying29 hval
  obtain ⟨fuel, hf⟩ := hd
  rcases open_slice Try.underlying29 hf with ⟨h0, _⟩ | ⟨a, len, cap, m, n, D, Pl, h0, hb, hl, hm, hmm, hx, he⟩
  · have e : (Value.slice a0 l0 c0) = .slice none 0 0 := by simpa [Value.cells] using h0
    rw [e]
    exact ⟨[], ⟨none, 0, rfl, Nat.le_refl _, fun h => absurd rfl h⟩, .inl rfl⟩
  · simp only [if_true] at hmm
    subst hmm
    have each : ∀ i, i < m → ∃ q : Int × Int, W.cell? (a.add (i * 2)) = some (.int .i64 q.1) ∧ W.cell? (a.add (i * 2 + 1)) = some (.int .i64 q.2) := by
      intro i hi
      obtain ⟨cs', h1, h2⟩ := he i hi
      rw [cells52] at h1
      obtain ⟨_, hlen, hcell⟩ := World.cells?_some h1
      obtain ⟨k, nn, rfl⟩ := elem_op hlen h2
      refine ⟨(k, nn), ?_, ?_⟩
      · have := hcell 0 (by omega)
        rw [Addr.add_add] at this
        exact this
      · have := hcell 1 (by omega)
        rw [Addr.add_add] at this
        exact this
    obtain ⟨Q, hQ⟩ : ∃ Q : Nat → Int × Int, ∀ i, i < m → W.cell? (a.add (i * 2)) = some (.int .i64 (Q i).1) ∧ W.cell? (a.add (i * 2 + 1)) = some (.int .i64 (Q i).2) :=
      ⟨fun i => if h : i < m then (each i h).choose else (0, 0), fun i hi => by
        simp only [dif_pos hi]
        exact (each i hi).choose_spec⟩
    have hv : (Value.slice a0 l0 c0) = .slice (some a) len m := by simpa [Value.cells] using h0
    rw [hv]
    have hlen : ((List.range len).map Q).length = len := by simp
    refine ⟨(List.range len).map Q, ⟨some a, m, by rw [hlen], by rw [hlen]; exact hl, fun hne => ?_⟩, .inr ⟨_, _, (Prod.mk.inj hx).1, by simp⟩⟩
    have h0 : 0 < len := by
      rcases Nat.eq_zero_or_pos len with q | q
      · rw [q] at hne; simp at hne
      · exact q
    have hc0 := (hQ 0 (by omega)).1
    have ha : a.add (0 * 2) = a := rfl
    rw [ha] at hc0
    obtain ⟨b, off, spot⟩ := a
    have hs : spot = none := by
      cases spot with
      | none => rfl
      | some q => unfold World.cell? at hc0; split at hc0 <;> simp at hc0
    subst hs
    have hadd : ∀ i, (Addr.add ⟨b, off, none⟩ i) = ⟨b, off + i, none⟩ := fun i => by
      by_cases hj0 : i = 0
      · subst hj0; rfl
      · simp [Addr.add, hj0]
    refine ⟨b, off, rfl, World.block_lt_of_cell? W _ hc0, fun i hi => ?_⟩
    rw [hlen] at hi
    have hg : ((List.range len).map Q).getD i (0, 0) = Q i := by simp [List.getD, hi]
    rw [hg]
    have := hQ i (by omega)
    rw [hadd, hadd, ← Nat.add_assoc] at this
    exact this
end Go.Proofs.Yteknjkofmkigoab.H
