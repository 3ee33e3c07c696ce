/- Proved: for every case (two sizes, a list of operations) and every list of turns the law WalkWhole answers true, and both read as they did: a traversal by Next, with present keys set anew or cleared on the way, tells each key that was there at its beginning once, but for those that were cleared, and no other.
   Conditions: none on the input. -/
import Derived.Test.YthlgeohncpmaaabRows
import Derived.Test.YthlgeohncpmaaabCg33
import Derived.Test.YthlgeohncpmaaabCg34
import Derived.ProofKit
import Derived.OpenShut
import Derived.ChangeOld
import Derived.Below
import Derived.SizedLaws
namespace Go.Proofs.Ythlgeohncpmaaab
open Go.ChangeShapes Go.WideShapes Go.ChangeAt Go.RowKit

set_option maxRecDepth 100000 in
/-- A value that came in. -/
theorem open_v {H : Type} {enc : TypeId × Value → H} {W : World} {base b0 : Nat} {held : Bool} {r : Reach} {v : Value} {d : DataW H} {ps : List MemPlace}
    (hval : Value.okWide Try.prog W r b0 33 v) (hd : DataW.Trod enc Try.prog W base (fun _ => true) held 33 v d ps) : ∃ kk : V, v = vv kk ∧ Rng kk := by
  obtain ⟨cs, rfl, h2⟩ := okWide_struct Try.underlying33 hval
  rw [cells33v] at h2
  obtain ⟨ll⟩ := cs
  obtain ⟨fuel, hf⟩ := hd
  obtain ⟨k, n, s, e, g⟩ := elem_val (cs := ll) h2 hf
  refine ⟨(k, n, s), by rw [e], ?_⟩
  have := bounds_i64 g
  exact ⟨this.1, this.2⟩
namespace walkWhole
theorem own : ownKnob Try.prog.godebug = none := by kernel_rfl

set_option maxRecDepth 100000 in
theorem lifted (os : Os) (started : os.Started) (H : Type) (enc : TypeId × Value → H) :
    ReturnsInHanded {} Try.checked os 3 .any (Rows.walkWholeSpec.pre6 enc Try.prog Try.f3 Rows.walkWholeRow.domain false) (Rows.walkWholeSpec.post enc Try.prog Try.f3 false true false false) := by
  refine returnsInHanded_of_change_sized (C := Try.checked) own started (by kernel_rfl) Try.func3
    (ChangeSpec.witness6 (enc := enc) (C := Try.checked) false ⟨#[], #[.agg #[.int .i64 0, .int .i64 0, .slice none 0 0], .slice none 0 0], []⟩ 8 (by kernel_rfl) (by kernel_rfl) (by kernel_rfl) (by kernel_rfl)) ?_
  intro W base args ds gs before hval0 hW _ hsz0 _
  have hval : ∀ (j : Nat) t v, Try.f3.params[j]? = some t → args[j]? = some v → Value.okWide Try.prog W .any base t v := hval0
  have hW' := hW
  obtain ⟨p, q, hA0, hV, rfl, hfz, hnd⟩ := hW
  have hA : DataW.TrodAll enc Try.prog W 0 (fun _ => true) true Try.f3.params.toList args.toList ds p := hA0
  rw [Try.params3] at hA hval
  obtain ⟨v0, vs0, d0, ds0, p0, q0, hargs, rfl, rfl, h0, r0⟩ := trodAll_cons hA
  obtain ⟨v1, vs1, d1, ds1, p1, q1, rfl, rfl, rfl, h1, r1⟩ := trodAll_cons r0
  obtain ⟨rfl, rfl, rfl⟩ := trodAll_nil r1
  obtain rfl : args = #[v0, v1] := by cases args; simp_all
  obtain ⟨rfl, rfl⟩ := trodVars_none hV
  obtain ⟨x, y, a, L, cap, Q, e0, hL, hO⟩ := open_case (hval 0 24 v0 rfl rfl) h0
  obtain ⟨a2, L2, cap2, Q2, e1, hL2, hO2⟩ := open_ops (hval 1 22 v1 rfl rfl) h1
  have lt1 : ∀ x ∈ p1, x.block < W.heap.size := fun x hx => by simpa using hW'.lt x (by simp [hx])
  have lt0 : ∀ x ∈ p0, x.block < W.heap.size := fun x hx => by simpa using hW'.lt x (by simp [hx])
  clear hA0 hval0 hsz0
  simp only [List.append_nil] at hW'
  refine (e0 ▸ e1 ▸ wwhole_walk x y a L cap W Q hO a2 L2 cap2 Q2 hO2 : Calls Try.prog 3 #[v0, v1] W _).mono fun e W' ⟨he, bel⟩ => ?_
  subst he
  exact ⟨_, rfl, _, _, _, [], _, [], hW', trodAll_mk1 (shut_bool Try.underlying4 _), (trodAll_cons_mk (Below.trod laidOut (by kernel_rfl) (of_decide_eq_true (by kernel_rfl)) h0 bel lt0) (trodAll_cons_mk (Below.trod laidOut (by kernel_rfl) (of_decide_eq_true (by kernel_rfl)) h1 bel lt1) trodAll_mk0)), rfl, bel.frame _, fun h => by cases h⟩
end walkWhole

/-- The statement. -/
theorem walkWhole_said : Rows.WalkWholeSaid :=
  OpenClaim.holds_of_wide 3 Try.f3 rfl rfl rfl rfl rfl rfl rfl ⟨rfl, rfl, rfl, rfl, rfl⟩ rfl rfl rfl rfl rfl (by kernel_rfl) Try.func3 (by kernel_rfl)
    (of_decide_eq_true (by kernel_rfl)) (by unfold Func.isWrapper; first | (rw [if_pos (by decide +kernel)]; kernel_rfl) | (rw [if_neg (by decide +kernel)]; exact ⟨rfl, rfl⟩))
    (fun os started H enc _ => walkWhole.lifted os started H enc)
#print axioms walkWhole_said
end Go.Proofs.Ythlgeohncpmaaab
