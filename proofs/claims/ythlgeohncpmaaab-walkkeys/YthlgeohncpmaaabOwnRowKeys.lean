/- Proved: for every case (two sizes, a list of operations) and every value as a key the law WalkKeys answers true, and both read as they did: a Next of what was present when it was set or cleared has no error; a Next of a key out of form is refused so, of nil and of what a slot or a node holds it has no error, of any other key it is refused as no key.
   Conditions: none on the input. -/
import Derived.Test.YthlgeohncpmaaabRows
import Derived.Test.YthlgeohncpmaaabCg31
import Derived.ProofKit
import Derived.OpenShut
import Derived.ChangeOld
import Derived.Below
import Derived.SizedLaws
namespace Go.Proofs.Ythlgeohncpmaaab
open Go.ChangeShapes Go.WideShapes Go.ChangeAt Go.RowKit

set_option maxRecDepth 100000 in
/-- A value that came in. -/
theorem open_v {H : Type} {enc : TypeId × Value → H} {W : World} {base b0 : Nat} {held : Bool} {r : Reach} {v : Value} {d : DataW H} {ps : List MemPlace}
    (hval : Value.okWide Try.prog W r b0 33 v) (hd : DataW.Trod enc Try.prog W base (fun _ => true) held 33 v d ps) : ∃ kk : V, v = vv kk ∧ Rng kk := by
  obtain ⟨cs, rfl, h2⟩ := okWide_struct Try.underlying33 hval
  rw [cells33v] at h2
  obtain ⟨ll⟩ := cs
  obtain ⟨fuel, hf⟩ := hd
  obtain ⟨k, n, s, e, g⟩ := elem_val (cs := ll) h2 hf
  refine ⟨(k, n, s), by rw [e], ?_⟩
  have := bounds_i64 g
  exact ⟨this.1, this.2⟩
namespace walkKeys
theorem own : ownKnob Try.prog.godebug = none := by kernel_rfl

set_option maxRecDepth 100000 in
theorem lifted (os : Os) (started : os.Started) (H : Type) (enc : TypeId × Value → H) :
    ReturnsInHanded {} Try.checked os 4 .any (Rows.walkKeysSpec.pre6 enc Try.prog Try.f4 Rows.walkKeysRow.domain false) (Rows.walkKeysSpec.post enc Try.prog Try.f4 false true false false) := by
  refine returnsInHanded_of_change_sized (C := Try.checked) own started (by kernel_rfl) Try.func4
    (ChangeSpec.witness6 (enc := enc) (C := Try.checked) false ⟨#[], #[.agg #[.int .i64 0, .int .i64 0, .slice none 0 0], .agg #[.int .i64 0, .int .i64 0, .string ⟨#[]⟩]], []⟩ 8 (by kernel_rfl) (by kernel_rfl) (by kernel_rfl) (by kernel_rfl)) ?_
  intro W base args ds gs before hval0 hW _ hsz0 _
  have hval : ∀ (j : Nat) t v, Try.f4.params[j]? = some t → args[j]? = some v → Value.okWide Try.prog W .any base t v := hval0
  have hW' := hW
  obtain ⟨p, q, hA0, hV, rfl, hfz, hnd⟩ := hW
  have hA : DataW.TrodAll enc Try.prog W 0 (fun _ => true) true Try.f4.params.toList args.toList ds p := hA0
  rw [Try.params4] at hA hval
  obtain ⟨v0, vs0, d0, ds0, p0, q0, hargs, rfl, rfl, h0, r0⟩ := trodAll_cons hA
  obtain ⟨v1, vs1, d1, ds1, p1, q1, rfl, rfl, rfl, h1, r1⟩ := trodAll_cons r0
  obtain ⟨rfl, rfl, rfl⟩ := trodAll_nil r1
  obtain rfl : args = #[v0, v1] := by cases args; simp_all
  obtain ⟨rfl, rfl⟩ := trodVars_none hV
  obtain ⟨x, y, a, L, cap, Q, e0, hL, hO⟩ := open_case (hval 0 24 v0 rfl rfl) h0
  obtain ⟨kk, e1, hkr⟩ := open_v (hval 1 33 v1 rfl rfl) h1
  have lt1 : ∀ x ∈ p1, x.block < W.heap.size := fun x hx => by simpa using hW'.lt x (by simp [hx])
  have lt0 : ∀ x ∈ p0, x.block < W.heap.size := fun x hx => by simpa using hW'.lt x (by simp [hx])
  clear hA0 hval0 hsz0
  simp only [List.append_nil] at hW'
  refine (e0 ▸ e1 ▸ wkeys_walk x y a L cap W Q hO kk hkr : Calls Try.prog 4 #[v0, v1] W _).mono fun e W' ⟨he, bel⟩ => ?_
  subst he
  exact ⟨_, rfl, _, _, _, [], _, [], hW', trodAll_mk1 (shut_bool Try.underlying4 _), (trodAll_cons_mk (Below.trod laidOut (by kernel_rfl) (of_decide_eq_true (by kernel_rfl)) h0 bel lt0) (trodAll_cons_mk (Below.trod laidOut (by kernel_rfl) (of_decide_eq_true (by kernel_rfl)) h1 bel lt1) trodAll_mk0)), rfl, bel.frame _, fun h => by cases h⟩
end walkKeys

/-- The statement. -/
theorem walkKeys_said : Rows.WalkKeysSaid :=
  OpenClaim.holds_of_wide 4 Try.f4 rfl rfl rfl rfl rfl rfl rfl ⟨rfl, rfl, rfl, rfl, rfl⟩ rfl rfl rfl rfl rfl (by kernel_rfl) Try.func4 (by kernel_rfl)
    (of_decide_eq_true (by kernel_rfl)) (by unfold Func.isWrapper; first | (rw [if_pos (by decide +kernel)]; kernel_rfl) | (rw [if_neg (by decide +kernel)]; exact ⟨rfl, rfl⟩))
    (fun os started H enc _ => walkKeys.lifted os started H enc)
#print axioms walkKeys_said
end Go.Proofs.Ythlgeohncpmaaab
