/- How lists of numbers and of texts that came in are read, with their bulk. -/
import Derived.Test.YtkmopcanaalemabGreatRows
import Derived.Test.YtkmopcanaalemabGreatCg48
import Derived.Test.YtkmopcanaalemabGreatCg53
import Derived.ProofKit
import Derived.OpenShut
import Derived.ChangeSlices
import Derived.ChangeOld
import Derived.Deep.Slices
namespace Go.Proofs.YtkmopcanaalemabGreat
open Go.RowKit Go.ChangeShapes Go.WideShapes Go.ChangeAt Go.Deep

theorem bulk_pos {H : Type} (d : DataW H) : 1 ≤ Rows.uptoBulk d := by
  cases d with
  | lit l => cases l <;> simp [Rows.uptoBulk]
  | _ => simp [Rows.uptoBulk]
theorem bulk_len {H : Type} : ∀ l : List (DataW H), l.length ≤ Rows.uptoBulkAll l
  | [] => Nat.zero_le _
  | d :: r => by
    have h1 := bulk_pos d
    have h2 := bulk_len r
    simp only [List.length_cons, Rows.uptoBulkAll]
    omega
set_option maxRecDepth 100000 in
theorem open_numsB {H : Type} {enc : TypeId × Value → H} {W : World} {base b0 : Nat} {held : Bool} {r : Reach} {v : Value} {d : DataW H} {ps : List MemPlace}
    (hval : Value.okWide Tryz.prog W r b0 46 v) (hd : DataW.Trod enc Tryz.prog W base (fun _ => true) held 46 v d ps) :
    ∃ (a : Option Addr) (L cap : Nat) (F : Nat → Int), v = .slice a L cap ∧ L ≤ Rows.uptoBulk d ∧ Nin W a L F := by
  obtain ⟨a0, l0, c0, rfl⟩ := okWide_slice Tryz.underlying46 hval
  obtain ⟨fuel, hf⟩ := hd
  rcases open_ints Tryz.underlying46 Tryz.underlying3 On.cells3 hf with ⟨h0, _⟩ | ⟨a, len, cap, zs, h0, hb, hl, hm, hz, hx, hc, hw⟩
  · have e : (Value.slice a0 l0 c0) = .slice none 0 0 := by simpa [Value.cells] using h0
    rw [e]
    exact ⟨none, 0, 0, fun _ => 0, rfl, Nat.zero_le _, ⟨fun i hi => absurd hi (Nat.not_lt_zero _)⟩⟩
  · have e : (Value.slice a0 l0 c0) = .slice (some a) len cap := by simpa [Value.cells] using h0
    rw [e]
    simp only [if_true] at hz
    refine ⟨some a, len, cap, fun i => zs.getD i 0, rfl, ?_, ⟨fun i hi => ?_⟩⟩
    · have e2 := (Prod.mk.inj hx).1
      rw [e2]
      simp only [Rows.uptoBulk]
      have := bulk_len (H := H) (lits .i64 (zs.take len))
      have h3 : (lits (H := H) .i64 (zs.take len)).length = len := by simp [lits]; omega
      omega
    have hc0 := hc 0 (by omega)
    have ha : a.add 0 = a := rfl
    rw [ha] at hc0
    obtain ⟨b, off, spot⟩ := a
    have hs : spot = none := by
      cases spot with
      | none => rfl
      | some q => unfold World.cell? at hc0; split at hc0 <;> simp at hc0
    subst hs
    have := hc i (by omega)
    have e2 : (Addr.add ⟨b, off, none⟩ i) = ⟨b, off + i, none⟩ := by
      by_cases hj0 : i = 0
      · subst hj0; rfl
      · simp [Addr.add, hj0]
    rw [e2] at this
    exact ⟨b, off, rfl, World.block_lt_of_cell? W _ hc0, this⟩
theorem On.cells9 : Tryz.prog.cellsOf 9 = 1 := by kernel_rfl
set_option maxRecDepth 100000 in
theorem open_textsB {H : Type} {enc : TypeId × Value → H} {W : World} {base b0 : Nat} {held : Bool} {r : Reach} {v : Value} {d : DataW H} {ps : List MemPlace}
    (hval : Value.okWide Tryz.prog W r b0 47 v) (hd : DataW.Trod enc Tryz.prog W base (fun _ => true) held 47 v d ps) :
    ∃ (a : Option Addr) (L cap : Nat) (X : Nat → ByteArray), v = .slice a L cap ∧ L ≤ Rows.uptoBulk d ∧ Sin W a L X := by
  obtain ⟨a0, l0, c0, rfl⟩ := okWide_slice Tryz.underlying47 hval
  obtain ⟨fuel, hf⟩ := hd
  rcases open_slice1 Tryz.underlying47 On.cells9 hf with ⟨h0, _⟩ | ⟨a, len, cap, m, n, V, D, Pl, h0, hb, hl, hm, hmm, hx, he⟩
  · have e : (Value.slice a0 l0 c0) = .slice none 0 0 := by simpa [Value.cells] using h0
    rw [e]
    exact ⟨none, 0, 0, fun _ => ⟨#[]⟩, rfl, Nat.zero_le _, ⟨fun i hi => absurd hi (Nat.not_lt_zero _)⟩⟩
  · have e : (Value.slice a0 l0 c0) = .slice (some a) len cap := by simpa [Value.cells] using h0
    rw [e]
    simp only [if_true] at hmm
    subst hmm
    have each : ∀ i, i < m → ∃ s : ByteArray, W.cell? (a.add i) = some (.string s) := by
      intro i hi
      obtain ⟨h1, h2⟩ := he i hi
      obtain ⟨s, e0, _⟩ := DataW.trod_string Tryz.underlying9 h2
      simp at e0
      rw [e0] at h1
      exact ⟨s, h1⟩
    obtain ⟨X, hX⟩ : ∃ X : Nat → ByteArray, ∀ i, i < m → W.cell? (a.add i) = some (.string (X i)) :=
      ⟨fun i => if h : i < m then (each i h).choose else ⟨#[]⟩, fun i hi => by
        simp only [dif_pos hi]
        exact (each i hi).choose_spec⟩
    refine ⟨some a, len, m, X, rfl, ?_, ⟨fun i hi => ?_⟩⟩
    · have e2 := (Prod.mk.inj hx).1
      rw [e2]
      simp only [Rows.uptoBulk]
      have := bulk_len ((List.range len).map D)
      have h3 : ((List.range len).map D).length = len := by simp
      omega
    have hc0 := hX 0 (by omega)
    have ha : a.add 0 = a := rfl
    rw [ha] at hc0
    obtain ⟨b, off, spot⟩ := a
    have hs : spot = none := by
      cases spot with
      | none => rfl
      | some q => unfold World.cell? at hc0; split at hc0 <;> simp at hc0
    subst hs
    have := hX i (by omega)
    have e2 : (Addr.add ⟨b, off, none⟩ i) = ⟨b, off + i, none⟩ := by
      by_cases hj0 : i = 0
      · subst hj0; rfl
      · simp [Addr.add, hj0]
    rw [e2] at this
    exact ⟨b, off, rfl, World.block_lt_of_cell? W _ hc0, this⟩
end Go.Proofs.YtkmopcanaalemabGreat
