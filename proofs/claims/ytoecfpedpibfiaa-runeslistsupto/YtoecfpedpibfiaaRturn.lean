/- The walk of the reference's Turned. -/
import Derived.Test.YtoecfpedpibfiaaTurnAny
import Derived.Test.YtoecfpedpibfiaaRlist
namespace Go.Proofs.Ytoecfpedpibfiaa
open Go.RowKit

set_option maxHeartbeats 4000000 in
theorem rturn_core (s : ByteArray) (L : List Rn) (w : World) (hs : s.size ≤ 1048576) (hlen : L.length ≤ 1048576) (HIN : Hid (∀ r ∈ L, r.1 + r.2.1 ≤ s.size)) (HBY : Hid ((bytesOf s L).length ≤ 1048576))
    (HL : Calls Try.prog 11 #[.string s] w fun e w' => ∃ v, e = .returned v ∧ w'.ownsRow w.heap.size 31 3 v L.length (cellsOf L) ∧ Below w.heap.size w w') :
    Calls Try.prog 16 #[.string s] w fun e w' => e = .returned (.string ⟨(bytesOf s L.reverse).toArray⟩) ∧ Below w.heap.size w w' := by
  obtain ⟨i0, hi, hz0, hz1, hz2⟩ := info_parts Try.info5
  go_enter Try.func16, Try.ntmps16
  go_wp2_with (go_at_call 11; refine HL.mono ?_; rintro e w1 ⟨v, rfl, hown, hb1⟩; obtain ⟨a0, c0, rfl⟩ := slice_shape hown)
  go_loopw [4, 5] (fun v i wr => ∃ (k : Nat) (z : Int), k ≤ L.length ∧ i = .int .i64 z ∧ z = (k : Int) - 1 ∧ (∃ n X, wr.ownsRow w1.heap.size 5 1 v n X ∧ Hid (n = (bytesOf s (L.drop k).reverse).length ∧ X = bc (bytesOf s (L.drop k).reverse))) ∧ Below w1.heap.size w1 wr) (fun _ i _ => (intOf i + 1).toNat)
  case atStart =>
    refine ⟨L.length, _, Nat.le_refl _, rfl, by first | rfl | (rw [IntKind.wrap_i64]; omega), ⟨0, [], World.ownsRow_nil _ _ _ _, ?_⟩, Below.refl _ _⟩
    show _ ∧ _
    rw [List.drop_length]
    exact ⟨rfl, rfl⟩
  case round =>
    obtain ⟨k, z, hk, rfl, hzk, ⟨n, X, hob, HNX⟩, hbw⟩ := hrel
    cases k with
    | zero =>
      have hzz : z = -1 := by omega
      subst hzz
      obtain ⟨R, HR⟩ : ∃ R : ByteArray, Hid (⟨(bytesOf s L.reverse).toArray⟩ = R) := ⟨_, rfl⟩
      have hcv : ∀ v, wr.ownsRow w1.heap.size 5 1 v n X → (convert 50 9 v).run Try.prog wr = .ok (.string R) wr := by
        intro v h1
        rw [HNX.out.1, HNX.out.2, List.drop_zero] at h1
        rw [← HR.out]
        exact own_string wr _ _ _ _ h1
      have hcv := hcv _ hob
      obtain ⟨a1, c1, rfl⟩ := slice_shape hob
      clear hown hob hk hlen hzk
      go_wp2
      go_ret
      exact ⟨by rw [HR.out]; rfl, bel_on hb1 hbw⟩
    | succ m =>
      obtain rfl : z = (m : Int) := by omega
      clear hzk
      have hml : m < L.length := by omega
      have hownr := own_below hown hbw
      obtain ⟨g, cap, hv, hg, hg2, hcap, hcell⟩ := row_cells hownr (by omega)
      simp only [Value.slice.injEq] at hv
      obtain ⟨rfl, _, rfl⟩ := hv
      have hml' : (m : Int) < (L.length : Int) := by omega
      obtain ⟨q1, q2, _⟩ := cells_get L m hml
      obtain ⟨r, hr⟩ : ∃ r, L[m] = r := ⟨_, rfl⟩
      have HT : Hid (L.drop m = r :: L.drop (m + 1)) := by show _ = _; rw [List.drop_eq_getElem_cons hml, hr]
      have hxy := HIN.out r (by rw [← hr]; exact List.getElem_mem hml)
      rw [hr] at q1 q2
      have d1 := hcell _ _ q1
      have d2 := hcell _ _ q2
      have HSZ2 : Hid ((bytesOf s (L.drop m).reverse).length ≤ 1048576) := by show _ ≤ _; rw [bytesOf_rev_len]; exact Nat.le_trans (bytes_drop_le s L m) HBY.out
      clear hcell q1 q2 hr
      obtain ⟨x, y, zz⟩ := r
      simp only at d1 d2 hxy
      obtain ⟨q, hq⟩ : ∃ q, x + y = q := ⟨_, rfl⟩
      have hwr : IntKind.i64.wrap ((x : Int) + (y : Int)) = (q : Int) := by rw [IntKind.wrap_i64]; omega
      have hxq : (x : Int) ≤ (q : Int) := by omega
      have hqs : (q : Int) ≤ (s.size : Int) := by omega
      have HSZ : Hid ((s.extract x q).size = y) := by show _ = _; simp [ByteArray.size_extract]; omega
      have HR : Hid (bytesOf s (L.drop m).reverse = bytesOf s (L.drop (m + 1)).reverse ++ (s.extract x q).data.toList) := by
        show _ = _
        rw [HT.out, List.reverse_cons, bytesOf_snoc, ← hq]
        rfl
      have HR2 : Hid ((bytesOf s (L.drop m).reverse).length = (bytesOf s (L.drop (m + 1)).reverse).length + y) := by
        show _ = _
        rw [HR.out, List.length_append, ← HSZ.out]
        rfl
      have hroom : n + y ≤ 1048576 := by rw [HNX.out.1, ← HR2.out]; exact HSZ2.out
      obtain ⟨a1, c1, rfl⟩ := slice_shape hob
      go_wp2
      refine wp_tail 19 (by kernel_rfl) (by kernel_rfl) ?_
      simp only [List.take_succ_cons, List.take_zero, List.drop_succ_cons, List.drop_zero]
      repeat still_step
      refine wpStill_nil ?_
      have hsz := HSZ.out
      refine Lib.wpList_append_own_string _ rfl _ _ 50 9 rfl w1.heap.size 5 i0 Try.underlying50 Try.underlying9 hi hz0 hz1 hz2 _ n X rfl (show wr.drew.ownsRow w1.heap.size 5 1 _ n X from hob) (s.extract x q) rfl ?c1 ?c2 ?c3 ?_
      case c1 => unfold maxLen; omega
      case c2 => omega
      case c3 => exact hbw.size
      intro v' w2 hown' hgrow _
      have hbw2 : Below w1.heap.size w1 w2 := by
        have h2 : Below w1.heap.size w1 wr.drew := ⟨hbw.1, hbw.2, hbw.3, hbw.4, hbw.5⟩
        exact h2.grown hgrow hbw.size (fun k hk => (hob.lt k hk).1)
      rw [hsz] at hown'
      have HO : Hid (∃ n' X', w2.ownsRow w1.heap.size 5 1 v' n' X' ∧ Hid (n' = (bytesOf s (L.drop m).reverse).length ∧ X' = bc (bytesOf s (L.drop m).reverse))) := by
        refine ⟨_, _, hown', ?_⟩
        show _ ∧ _
        rw [HR2.out, HR.out, HNX.out.1, HNX.out.2]
        refine ⟨rfl, ?_⟩
        simp [bc, Lib.strCells]
      have HB2 : Hid _ := hbw2
      clear hown' hgrow hbw2 hob hbw hown hownr hwr hsz
      go_wp2
      go_roundw
      case rel => exact ⟨m, _, by omega, rfl, by first | rfl | omega | (rw [IntKind.wrap_i64]; omega), HO.out, HB2.out⟩
      case measure => simp [intOf]

theorem rturn_any (s : ByteArray) (w : World) (hs : s.size ≤ 1048576) : Calls Try.prog 16 #[.string s] w fun e w' => e = .returned (.string ⟨(bytesOf s (rest s 0).reverse).toArray⟩) ∧ Below w.heap.size w w' := by
  refine rturn_core s (rest s 0) w hs (by have := rest_len s 0; omega) (fun r hr => ?_) ?_ (rlist_any s w hs)
  · obtain ⟨k, hk, rfl⟩ := List.getElem_of_mem hr
    rw [get_pos s k hk]
    exact wd_le s _ (pos_lt s k hk)
  · show _ ≤ _
    rw [bytes_rest, List.drop_zero, Array.length_toList]
    exact hs

#print axioms rturn_any
end Go.Proofs.Ytoecfpedpibfiaa
