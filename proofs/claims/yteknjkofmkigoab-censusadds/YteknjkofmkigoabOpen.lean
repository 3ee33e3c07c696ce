/- How a list of ints that came in is read. -/
import Derived.Test.YteknjkofmkigoabCnt
import Derived.ProofKit
import Derived.OpenShut
import Derived.ChangeSlices
import Derived.ChangeOld
import Derived.SizedLaws
import Derived.Deep.Slices
namespace Go.Proofs.Yteknjkofmkigoab
open Go.RowKit Go.ChangeShapes Go.WideShapes Go.ChangeAt Go.Deep

theorem cells3 : Try.prog.cellsOf 3 = 1 := by kernel_rfl
theorem bytes3 : Try.prog.bytesOf 3 = 8 := by kernel_rfl
theorem laidOut : laidOutB Try.prog = true := by kernel_rfl

theorem open_list {H : Type} {enc : TypeId × Value → H} {W : World} {base b0 : Nat} {held : Bool} {r : Reach} {v : Value} {d : DataW H} {ps : List MemPlace}
    (hval : Value.okWide Try.prog W r b0 22 v) (hd : DataW.Trod enc Try.prog W base (fun _ => true) held 22 v d ps) :
    ∃ l : List Int, Ints W.heap.size W v l ∧ Fit l ∧ (l = [] ∨ ∃ elems spare : List (DataW H), d = .slice elems spare ∧ elems.length = l.length) := by
  obtain ⟨a0, l0, c0, rfl⟩ := okWide_slice Try.underlying22 hval
  obtain ⟨fuel, hf⟩ := hd
  rcases open_ints Try.underlying22 Try.underlying3 cells3 hf with ⟨h0, _⟩ | ⟨a, len, cap, zs, h0, hb, hl, hm, hz, hx, hc, hw⟩
  · have e : (Value.slice a0 l0 c0) = .slice none 0 0 := by simpa [Value.cells] using h0
    rw [e]
    exact ⟨[], ⟨none, 0, rfl, Nat.le_refl _, fun h => absurd rfl h⟩, fun i hi => absurd hi (by simp), .inl rfl⟩
  · have e : (Value.slice a0 l0 c0) = .slice (some a) len cap := by simpa [Value.cells] using h0
    rw [e]
    simp only [if_true] at hz
    have hlen : (zs.take len).length = len := by simp; omega
    have hg : ∀ i, i < len → (zs.take len).getD i 0 = zs.getD i 0 := fun i hi => by simp [List.getD, hi]
    refine ⟨zs.take len, ⟨some a, cap, by rw [hlen], by rw [hlen]; exact hl, fun hne => ?_⟩, fun i hi => ?_, .inr ⟨_, _, (Prod.mk.inj hx).1, by simp [lits]⟩⟩
    · have h0 : 0 < len := by
        rcases Nat.eq_zero_or_pos len with q | q
        · rw [q] at hne; simp at hne
        · exact q
      have hc0 := hc 0 (by omega)
      have ha : a.add 0 = a := rfl
      rw [ha] at hc0
      obtain ⟨b, off, spot⟩ := a
      have hs : spot = none := by
        cases spot with
        | none => rfl
        | some q => unfold World.cell? at hc0; split at hc0 <;> simp at hc0
      subst hs
      refine ⟨b, off, rfl, World.block_lt_of_cell? W _ hc0, fun i hi => ?_⟩
      rw [hlen] at hi
      have := hc i (by omega)
      have e2 : (Addr.add ⟨b, off, none⟩ i) = ⟨b, off + i, none⟩ := by
        by_cases hj0 : i = 0
        · subst hj0; rfl
        · simp [Addr.add, hj0]
      rw [e2] at this
      rw [this, hg i hi]
    · rw [hlen] at hi
      rw [hg i hi]
      have hi2 : i < zs.length := by omega
      rw [List.getD, List.getElem?_eq_getElem hi2]
      exact bounds_i64 (hw _ (List.getElem_mem hi2))

end Go.Proofs.Yteknjkofmkigoab
