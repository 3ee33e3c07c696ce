/- How a list of numbers that came in is read. -/
import Derived.Test.YtkmopcanaalemabGreatCg48
import Derived.ProofKit
import Derived.OpenShut
import Derived.ChangeSlices
import Derived.ChangeOld
import Derived.SizedLaws
import Derived.Deep.Slices
namespace Go.Proofs.YtkmopcanaalemabGreat
open Go.RowKit Go.ChangeShapes Go.WideShapes Go.ChangeAt Go.Deep

namespace On
theorem cells3 : Tryz.prog.cellsOf 3 = 1 := by kernel_rfl
theorem laidOut : laidOutB Tryz.prog = true := by kernel_rfl
end On
set_option maxRecDepth 100000 in
theorem open_nums {H : Type} {enc : TypeId × Value → H} {W : World} {base b0 : Nat} {held : Bool} {r : Reach} {v : Value} {d : DataW H} {ps : List MemPlace}
    (hval : Value.okWide Tryz.prog W r b0 46 v) (hd : DataW.Trod enc Tryz.prog W base (fun _ => true) held 46 v d ps) :
    ∃ (a : Option Addr) (L cap : Nat) (F : Nat → Int), v = .slice a L cap ∧ L ≤ cap ∧ cap ≤ 9223372036854775807 ∧ Nin W a L F := by
  obtain ⟨a0, l0, c0, rfl⟩ := okWide_slice Tryz.underlying46 hval
  obtain ⟨fuel, hf⟩ := hd
  rcases open_ints Tryz.underlying46 Tryz.underlying3 On.cells3 hf with ⟨h0, _⟩ | ⟨a, len, cap, zs, h0, hb, hl, hm, hz, hx, hc, hw⟩
  · have e : (Value.slice a0 l0 c0) = .slice none 0 0 := by simpa [Value.cells] using h0
    rw [e]
    exact ⟨none, 0, 0, fun _ => 0, rfl, Nat.le_refl _, by omega, ⟨fun i hi => absurd hi (Nat.not_lt_zero _)⟩⟩
  · have e : (Value.slice a0 l0 c0) = .slice (some a) len cap := by simpa [Value.cells] using h0
    rw [e]
    simp only [if_true] at hz
    refine ⟨some a, len, cap, fun i => zs.getD i 0, rfl, hl, by unfold maxLen at hm; omega, ⟨fun i hi => ?_⟩⟩
    have hc0 := hc 0 (by omega)
    have ha : a.add 0 = a := rfl
    rw [ha] at hc0
    obtain ⟨b, off, spot⟩ := a
    have hs : spot = none := by
      cases spot with
      | none => rfl
      | some q => unfold World.cell? at hc0; split at hc0 <;> simp at hc0
    subst hs
    have := hc i (by omega)
    have e2 : (Addr.add ⟨b, off, none⟩ i) = ⟨b, off + i, none⟩ := by
      by_cases hj0 : i = 0
      · subst hj0; rfl
      · simp [Addr.add, hj0]
    rw [e2] at this
    exact ⟨b, off, rfl, World.block_lt_of_cell? W _ hc0, this⟩
end Go.Proofs.YtkmopcanaalemabGreat
