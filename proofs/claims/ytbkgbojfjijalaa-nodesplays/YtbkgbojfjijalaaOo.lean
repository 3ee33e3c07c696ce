/- How a list of operations that came in is read. -/
import Derived.Test.YtbkgbojfjijalaaFx
import Derived.ProofKit
import Derived.OpenShut
import Derived.ChangeSlices
import Derived.ChangeOld
import Derived.SizedLaws
import Derived.Deep.Slices
import Derived.Deep.Fields
import Derived.Deep.Strs
namespace Go.Proofs.Ytbkgbojfjijalaa
open Go.RowKit Go.ChangeShapes Go.WideShapes Go.ChangeAt Go.Deep

/-- An operation's seven cells. -/
def oc (q : Int × V × V) : Nat → Value
  | 0 => .int .i64 q.1
  | 1 => .int .i64 q.2.1.1
  | 2 => .int .i64 q.2.1.2.1
  | 3 => .string q.2.1.2.2
  | 4 => .int .i64 q.2.2.1
  | 5 => .int .i64 q.2.2.2.1
  | _ => .string q.2.2.2.2
/-- The list of L operations that v is, all below block N. -/
def Ops (N : Nat) (w : World) (v : Value) (L : Nat) (Q : Nat → Int × V × V) : Prop :=
  ∃ a cap, v = .slice a L cap ∧ (∀ i, i < L → Rng (Q i).2.1) ∧ (0 < L → ∃ b off, a = some ⟨b, off, none⟩ ∧ b < N ∧ ∀ i, i < L → ∀ j, j < 7 → w.cell? ⟨b, off + i * 7 + j, none⟩ = some (oc (Q i) j))
theorem Ops.below {N : Nat} {w w' : World} {v : Value} {L : Nat} {Q : Nat → Int × V × V} (h : Ops N w v L Q) (hb : Below N w w') : Ops N w' v L Q := by
  obtain ⟨a, cap, rfl, hr, h⟩ := h
  refine ⟨a, cap, rfl, hr, fun hl => ?_⟩
  obtain ⟨b, off, rfl, hg, hx⟩ := h hl
  exact ⟨b, off, rfl, hg, fun i hi j hj => by rw [hb.cell (by exact hg)]; exact hx i hi j hj⟩

theorem cells3 : Try.prog.cellsOf 3 = 1 := by kernel_rfl
theorem cells9 : Try.prog.cellsOf 9 = 1 := by kernel_rfl
theorem cells32 : Try.prog.cellsOf 32 = 3 := by kernel_rfl
theorem cells41 : Try.prog.cellsOf 41 = 7 := by kernel_rfl
theorem bytes41 : Try.prog.bytesOf 41 = 72 := by kernel_rfl
theorem laidOut : laidOutB Try.prog = true := by kernel_rfl

theorem elem_val {H : Type} {enc : TypeId × Value → H} {W : World} {base : Nat} {sp : Nat → Bool} {held : Bool} {fuel : Nat} {cs : List Value} {x : DataW H × List MemPlace}
    (hlen : cs.length = 3) (hf : DataW.trod enc Try.prog W base sp held fuel 32 cs = some x) :
    ∃ (k n : Int) (s : ByteArray), cs = [.int .i64 k, .int .i64 n, .string s] ∧ (Lit.int .i64 n).wf = true := by
  obtain ⟨c0, c1, c2, rfl⟩ : ∃ c0 c1 c2, cs = [c0, c1, c2] := by
    match cs, hlen with
    | [c0, c1, c2], _ => exact ⟨c0, c1, c2, rfl⟩
  obtain ⟨y0, y1, y2, m, hx, _, t0, t1, t2⟩ := trod_struct3 Try.underlying32 hf
  obtain ⟨k, e0, f0, g0⟩ := DataW.trod_int Try.underlying3 t0
  obtain ⟨n, e1, f1, g1⟩ := DataW.trod_int Try.underlying3 t1
  obtain ⟨s, e2, f2, g2⟩ := DataW.trod_string Try.underlying9 t2
  simp [cells3, cells9] at e0 e1 e2
  subst e0 e1 e2
  exact ⟨k, n, s, rfl, g1⟩
theorem elem_op {H : Type} {enc : TypeId × Value → H} {W : World} {base : Nat} {sp : Nat → Bool} {held : Bool} {fuel : Nat} {cs : List Value} {x : DataW H × List MemPlace}
    (hlen : cs.length = 7) (hf : DataW.trod enc Try.prog W base sp held fuel 41 cs = some x) : ∃ q : Int × V × V, (∀ j, j < 7 → cs[j]? = some (oc q j)) ∧ Rng q.2.1 := by
  obtain ⟨c0, c1, c2, c3, c4, c5, c6, rfl⟩ : ∃ c0 c1 c2 c3 c4 c5 c6, cs = [c0, c1, c2, c3, c4, c5, c6] := by
    match cs, hlen with
    | [c0, c1, c2, c3, c4, c5, c6], _ => exact ⟨c0, c1, c2, c3, c4, c5, c6, rfl⟩
  obtain ⟨y0, y1, y2, m, hx, _, t0, t1, t2⟩ := trod_struct3 Try.underlying41 hf
  obtain ⟨k, e0, f0, g0⟩ := DataW.trod_int Try.underlying3 t0
  simp [cells3] at e0
  subst e0
  simp only [cells32] at t1 t2
  obtain ⟨a1, a2, a3, e1, g1⟩ := elem_val (by simp) t1
  obtain ⟨b1, b2, b3, e2, g2⟩ := elem_val (by simp) t2
  simp at e1 e2
  obtain ⟨rfl, rfl, rfl⟩ := e1
  obtain ⟨rfl, rfl, rfl⟩ := e2
  refine ⟨(k, (a1, a2, a3), (b1, b2, b3)), fun j hj => ?_, ?_⟩
  · rcases lt7 hj with rfl | rfl | rfl | rfl | rfl | rfl | rfl <;> rfl
  · have := bounds_i64 g1
    exact ⟨this.1, this.2⟩

theorem open_ops {H : Type} {enc : TypeId × Value → H} {W : World} {base b0 : Nat} {held : Bool} {r : Reach} {v : Value} {d : DataW H} {ps : List MemPlace}
    (hval : Value.okWide Try.prog W r b0 22 v) (hd : DataW.Trod enc Try.prog W base (fun _ => true) held 22 v d ps) :
    ∃ L Q, Ops W.heap.size W v L Q ∧ (L = 0 ∨ ∃ elems spare : List (DataW H), d = .slice elems spare ∧ elems.length = L) := by
  obtain ⟨a0, l0, c0, rfl⟩ := okWide_slice Try.underlying22 hval
  obtain ⟨fuel, hf⟩ := hd
  rcases open_slice Try.underlying22 hf with ⟨h0, _⟩ | ⟨a, len, cap, m, n, D, Pl, h0, hb, hl, hm, hmm, hx, he⟩
  · have e : (Value.slice a0 l0 c0) = .slice none 0 0 := by simpa [Value.cells] using h0
    rw [e]
    exact ⟨0, fun _ => (0, nil, nil), ⟨none, 0, rfl, fun i hi => absurd hi (Nat.not_lt_zero _), fun h => absurd h (Nat.lt_irrefl _)⟩, .inl rfl⟩
  · simp only [if_true] at hmm
    subst hmm
    have each : ∀ i, i < m → ∃ q : Int × V × V, (∀ j, j < 7 → W.cell? (a.add (i * 7 + j)) = some (oc q j)) ∧ Rng q.2.1 := by
      intro i hi
      obtain ⟨cs', h1, h2⟩ := he i hi
      rw [cells41] at h1
      obtain ⟨_, hlen, hcell⟩ := World.cells?_some h1
      obtain ⟨q, hq, hr⟩ := elem_op hlen h2
      refine ⟨q, fun j hj => ?_, hr⟩
      have := hcell j (by omega)
      rw [Addr.add_add] at this
      rw [this]
      exact hq j hj
    obtain ⟨Q, hQ⟩ : ∃ Q : Nat → Int × V × V, ∀ i, i < m → (∀ j, j < 7 → W.cell? (a.add (i * 7 + j)) = some (oc (Q i) j)) ∧ Rng (Q i).2.1 :=
      ⟨fun i => if h : i < m then (each i h).choose else (0, nil, nil), fun i hi => by
        simp only [dif_pos hi]
        exact (each i hi).choose_spec⟩
    have hv : (Value.slice a0 l0 c0) = .slice (some a) len m := by simpa [Value.cells] using h0
    rw [hv]
    refine ⟨len, Q, ⟨some a, m, rfl, fun i hi => (hQ i (by omega)).2, fun h0 => ?_⟩, .inr ⟨_, _, (Prod.mk.inj hx).1, by simp⟩⟩
    have hc0 := (hQ 0 (by omega)).1 0 (by omega)
    have ha : a.add (0 * 7 + 0) = a := rfl
    rw [ha] at hc0
    obtain ⟨b, off, spot⟩ := a
    have hs : spot = none := by
      cases spot with
      | none => rfl
      | some q => unfold World.cell? at hc0; split at hc0 <;> simp at hc0
    subst hs
    have hadd : ∀ i, (Addr.add ⟨b, off, none⟩ i) = ⟨b, off + i, none⟩ := fun i => by
      by_cases hj0 : i = 0
      · subst hj0; rfl
      · simp [Addr.add, hj0]
    refine ⟨b, off, rfl, World.block_lt_of_cell? W _ hc0, fun i hi j hj => ?_⟩
    have := (hQ i (by omega)).1 j hj
    rw [hadd, ← Nat.add_assoc] at this
    exact this
end Go.Proofs.Ytbkgbojfjijalaa
