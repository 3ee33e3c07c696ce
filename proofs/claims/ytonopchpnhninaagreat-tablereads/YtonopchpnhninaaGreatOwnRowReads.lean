/- Proved: for every case (a limit of cells, two sizes, a list of operations) and every key the law TableReads answers true, and both read as they did: a Get of a key in the array part reads no node, of any other key as many as the document's search; the last Get, Dump and Pair read no more nodes than there are.
   Conditions: none on the input. -/
import Derived.Test.YtonopchpnhninaaGreatRows
import Derived.Test.YtonopchpnhninaaGreatCg35
import Derived.Test.YtonopchpnhninaaGreatCg36
import Derived.ProofKit
import Derived.OpenShut
import Derived.ChangeOld
import Derived.Below
import Derived.SizedLaws
namespace Go.Proofs.YtonopchpnhninaaGreat
open Go.ChangeShapes Go.WideShapes Go.ChangeAt Go.RowKit

theorem treads_walk (l x y : Int) (a : Option Addr) (L cap : Nat) (hL : L ≤ cap) (kq : V) (hq : Rng kq) (W : World) (Q : Nat → Int × V × V × Int) (hO : Ops W.heap.size W a L Q) :
    Calls Tryz.prog 4 #[cv l x y (.slice a L cap), vv kq] W fun e w' => e = .returned (.bool true) ∧ Below W.heap.size W w' := by
  by_cases hl : l < 0 ∨ 400000 < l
  · exact tr_lim l x y a L cap hL kq W hl
  · by_cases he : nE (H.newSt l) (cN x) (cN y) = 0
    · exact tr_ok l x y a L cap hL kq W Q hO hq (by omega) (by omega) he
    · exact tr_fail l x y a L cap hL kq W (by omega) (by omega) he

namespace tableReads
theorem own : ownKnob Tryz.prog.godebug = none := by kernel_rfl

set_option maxRecDepth 100000 in
theorem lifted (os : Os) (started : os.Started) (H : Type) (enc : TypeId × Value → H) :
    ReturnsInHanded {} Tryz.checked os 4 .any (Rows.tableReadsSpec.pre6 enc Tryz.prog Tryz.f4 Rows.tableReadsRow.domain false) (Rows.tableReadsSpec.post enc Tryz.prog Tryz.f4 false true false false) := by
  refine returnsInHanded_of_change_sized (C := Tryz.checked) own started (by kernel_rfl) Tryz.func4
    (ChangeSpec.witness6 (enc := enc) (C := Tryz.checked) false ⟨#[], #[.agg #[.int .i64 0, .int .i64 0, .int .i64 0, .slice none 0 0], .agg #[.int .i64 0, .int .i64 0, .string ⟨#[]⟩]], []⟩ 8 (by kernel_rfl) (by kernel_rfl) (by kernel_rfl) (by kernel_rfl)) ?_
  intro W base args ds gs before hval0 hW _ hsz0 _
  have hval : ∀ (j : Nat) t v, Tryz.f4.params[j]? = some t → args[j]? = some v → Value.okWide Tryz.prog W .any base t v := hval0
  have hW' := hW
  obtain ⟨p, q, hA0, hV, rfl, hfz, hnd⟩ := hW
  have hA : DataW.TrodAll enc Tryz.prog W 0 (fun _ => true) true Tryz.f4.params.toList args.toList ds p := hA0
  rw [Tryz.params4] at hA hval
  obtain ⟨v0, vs0, d0, ds0, p0, q0, hargs, rfl, rfl, h0, r0⟩ := trodAll_cons hA
  obtain ⟨v1, vs1, d1, ds1, p1, q1, rfl, rfl, rfl, h1, r1⟩ := trodAll_cons r0
  obtain ⟨rfl, rfl, rfl⟩ := trodAll_nil r1
  obtain rfl : args = #[v0, v1] := by cases args; simp_all
  obtain ⟨rfl, rfl⟩ := trodVars_none hV
  obtain ⟨l, x, y, a, L, cap, Q, e0, hL, hO⟩ := open_case (hval 0 24 v0 rfl rfl) h0
  obtain ⟨k1, n1, s1, rfl, rfl, rfl, wk1, wn1, ws1⟩ := open_val (hval 1 35 v1 rfl rfl) h1
  have bd1 := bounds_i64 wn1
  have lt0 : ∀ x ∈ p0, x.block < W.heap.size := fun x hx => by simpa using hW'.lt x (by simp [hx])
  clear hA0 hval0 hsz0
  simp only [List.append_nil] at hW'
  refine (e0 ▸ treads_walk l x y a L cap hL (k1, n1, s1) bd1 W Q hO : Calls Tryz.prog 4 #[v0, vl k1 n1 s1] W _).mono fun e W' ⟨he, bel⟩ => ?_
  subst he
  exact ⟨_, rfl, _, _, _, [], _, [], hW', trodAll_mk1 (shut_bool Tryz.underlying4 _), (trodAll_cons_mk (Below.trod laidOut (by kernel_rfl) (of_decide_eq_true (by kernel_rfl)) h0 bel lt0) (trodAll_cons_mk (shut_val wk1 wn1 ws1) trodAll_mk0)), rfl, bel.frame _, fun h => by cases h⟩
end tableReads

/-- The statement. -/
theorem tableReads_said : Rows.TableReadsSaid :=
  OpenClaim.holds_of_wide 4 Tryz.f4 rfl rfl rfl rfl rfl rfl rfl ⟨rfl, rfl, rfl, rfl, rfl⟩ rfl rfl rfl rfl rfl (by kernel_rfl) Tryz.func4 (by kernel_rfl)
    (of_decide_eq_true (by kernel_rfl)) (by unfold Func.isWrapper; first | (rw [if_pos (by decide +kernel)]; kernel_rfl) | (rw [if_neg (by decide +kernel)]; exact ⟨rfl, rfl⟩))
    (fun os started H enc _ => tableReads.lifted os started H enc)
#print axioms tableReads_said
end Go.Proofs.YtonopchpnhninaaGreat
