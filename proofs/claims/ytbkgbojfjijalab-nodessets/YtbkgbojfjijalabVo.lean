/- How a value as plain data is read: its three fields. -/
import Derived.Test.YtbkgbojfjijalabOo
import Derived.ShutString
import Derived.ChangeMaps5
namespace Go.Proofs.Ytbkgbojfjijalab
open Go.RowKit Go.ChangeShapes Go.WideShapes Go.Deep

theorem open_val {H : Type} {enc : TypeId × Value → H} {W : World} {base b0 : Nat} {sp : Nat → Bool} {held : Bool} {r : Reach} {v : Value} {d : DataW H} {ps : List MemPlace}
    (hval : Value.okWide Try.prog W r b0 24 v) (hd : DataW.Trod enc Try.prog W base sp held 24 v d ps) :
    ∃ (k n : Int) (s : ByteArray), v = vl k n s ∧ d = .agg [.lit (.int .i64 k), .lit (.int .i64 n), .lit (.string s.data.toList)] ∧ ps = [] ∧ (Lit.int .i64 k).wf = true ∧ (Lit.int .i64 n).wf = true ∧ s.size ≤ maxLen := by
  obtain ⟨cs, rfl, h2⟩ := okWide_struct Try.underlying24 hval
  rw [cells32] at h2
  obtain ⟨l⟩ := cs
  obtain ⟨c0, c1, c2, rfl⟩ : ∃ c0 c1 c2, l = [c0, c1, c2] := by
    match l, h2 with
    | [c0, c1, c2], _ => exact ⟨c0, c1, c2, rfl⟩
  obtain ⟨fuel, hf⟩ := hd
  obtain ⟨y0, y1, y2, m, hx, _, t0, t1, t2⟩ := trod_struct3 Try.underlying24 hf
  obtain ⟨k, e0, f0, g0⟩ := DataW.trod_int Try.underlying3 t0
  obtain ⟨n, e1, f1, g1⟩ := DataW.trod_int Try.underlying3 t1
  obtain ⟨s, e2, f2, g2⟩ := DataW.trod_string Try.underlying9 t2
  subst f0 f1 f2
  simp only [Prod.mk.injEq] at hx
  obtain ⟨rfl, rfl⟩ := hx
  simp [Value.cells, cells3, cells9] at e0 e1 e2
  subst e0 e1 e2
  exact ⟨k, n, s, rfl, rfl, rfl, g0, g1, g2⟩

theorem shut_val {H : Type} {enc : TypeId × Value → H} {W : World} {base : Nat} {sp : Nat → Bool} {held : Bool} {k n : Int} {s : ByteArray} (h0 : (Lit.int .i64 k).wf = true) (h1 : (Lit.int .i64 n).wf = true) (h2 : s.size ≤ maxLen) :
    DataW.Trod enc Try.prog W base sp held 24 (vl k n s) (.agg [.lit (.int .i64 k), .lit (.int .i64 n), .lit (.string s.data.toList)]) [] := by
  have := trod_struct3_mk (enc := enc) (w := W) (base := base) (spare := sp) (held := held) (n := 1) (cs := [.int .i64 k, .int .i64 n, .string s]) (y0 := (.lit (.int .i64 k), [])) (y1 := (.lit (.int .i64 n), [])) (y2 := (.lit (.string s.data.toList), []))
    Try.underlying24 (by rw [cells32]; rfl) (by simp [DataW.trod, Try.underlying3, cells3, h0]) (by simp [DataW.trod, Try.underlying3, cells3, h1]) (by simp [DataW.trod, Try.underlying9, cells9, h2])
  exact ⟨2, by simpa [Value.cells] using this⟩

end Go.Proofs.Ytbkgbojfjijalab
