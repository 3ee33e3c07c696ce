/- The walks of the reference's List and Bad. -/
import Derived.Test.YtoecfpedpibfiabAtAny
import Derived.Test.YtoecfpedpibfiabMisc
namespace Go.Proofs.Ytoecfpedpibfiab
open Go.RowKit

theorem Try.info35 : (Try.prog.info? 35).map (fun i => (i.zero, i.size, i.bytes)) = some (some (.agg #[.int .i64 0, .int .i64 0, .int .i64 0]), 3, 24) := by kernel_rfl

theorem own_below {w w' : World} {base : Nat} {e : TypeId} {size : Nat} {v : Value} {n : Nat} {xs : List Value} (h : w.ownsRow base e size v n xs) (hb : Below w.heap.size w w') : w'.ownsRow base e size v n xs := by
  have hlt := h.lt
  refine ⟨h.1, ?_⟩
  rcases h.2 with h2 | ⟨g, cap, cur, rfl, h2, h3, r⟩
  · exact .inl h2
  · exact .inr ⟨g, cap, cur, rfl, h2, (hb.block g (hlt g rfl).2).trans h3, r⟩

set_option maxHeartbeats 2000000 in
theorem rlist_any (s : ByteArray) (w : World) (hs : s.size ≤ 1048576) : Calls Try.prog 11 #[.string s] w fun e w' => ∃ v, e = .returned v ∧ w'.ownsRow w.heap.size 35 3 v (rest s 0).length (cellsOf (rest s 0)) ∧ Below w.heap.size w w' := by
  obtain ⟨i0, hi, hz0, hz1, hz2⟩ := info_parts Try.info35
  have HRL : Hid _ := rest_len s 0
  go_enter Try.func11, Try.ntmps11
  go_wp2
  go_loopw [3, 4] (fun v i wr => ∃ (p : Nat) (done : List Rn), i = .int .i64 p ∧ p ≤ s.size ∧ Hid (rest s 0 = done ++ rest s p) ∧ wr.ownsRow w.heap.size 35 3 v done.length (cellsOf done) ∧ Below w.heap.size w wr) (fun _ i _ => s.size - (intOf i).toNat)
  case atStart => exact ⟨0, [], rfl, by omega, rfl, World.ownsRow_nil _ _ _ _, Below.refl _ _⟩
  case round =>
    obtain ⟨p, done, rfl, hp, HR, hown, hbw⟩ := hrel
    by_cases hlt : p < s.size
    · have hlt' : (p : Int) < (s.size : Int) := by omega
      have hw1 := wd_pos s p
      have hw2 := wd_le s p hlt
      have hre := rest_at s p hlt
      have HR2 : Hid (rest s 0 = (done ++ [(p, wd s p, rn s p)]) ++ rest s (p + wd s p)) := by
        show _ = _; rw [HR.out, hre]; simp
      have hlen : done.length < 1048577 := by have h1 := congrArg List.length HR.out; have h2 := HRL.out; simp only [List.length_append] at h1; omega
      have C : ∀ W, Calls Try.prog 19 #[.string s, .int .i64 p] W fun e w' => e = .returned (.agg #[.int .i64 p, .int .i64 (wd s p), .int .i64 (rn s p)]) ∧ Below W.heap.size W w' := fun W => rat_any s p W hlt hs
      obtain ⟨D, hD⟩ : ∃ D, wd s p = D := ⟨_, rfl⟩
      obtain ⟨R, hR⟩ : ∃ R, rn s p = R := ⟨_, rfl⟩
      rw [hD, hR] at C HR2
      rw [hD] at hw1 hw2
      clear hre HR hD hR
      obtain ⟨a0, c0, rfl⟩ := slice_shape hown
      go_wp2_with (first
        | (go_at_call 19; refine (C _).mono ?_; rintro e w1 ⟨rfl, hb1⟩; have hown1 := own_below hown hb1)
        | (at_builtin; refine wpList_append_own _ rfl _ _ 33 rfl w.heap.size 35 i0 (.agg #[.int .i64 0, .int .i64 0, .int .i64 0]) 3 24 Try.underlying33 hi hz0 hz1 hz2 rfl (by decide) _ _ _ rfl ((hown1.alloc _).alloc _) ⟨w1.heap.size + 1, 0, none⟩ 1 1 [.int .i64 p, .int .i64 D, .int .i64 R] rfl rfl ?c1 ?c2 ?c3 ?c4 ?c5 ?_))
      case c1 =>
        intro j u hj
        match j, hj with
        | 0, hj => simp at hj; subst hj; simp [Addr.add]
        | 1, hj => simp at hj; subst hj; simp [Addr.add]
        | 2, hj => simp at hj; subst hj; simp [Addr.add]
      case c2 => intro u hu; simp at hu; rcases hu with rfl | rfl | rfl <;> rfl
      case c3 => unfold maxLen; omega
      case c4 => omega
      case c5 => have := hbw.size; have := hb1.size; simp; omega
      intro v' w2 hown' hgrow _
      have hbw2 : Below w.heap.size w w2 := (bel_new (bel_new (bel_on hbw hb1) _) _).grown hgrow (by have := hbw.size; have := hb1.size; simp; omega) (fun k hk => (hown1.lt k hk).1)
      have hne : some w1.heap.size ≠ (Value.slice a0 done.length c0).ownBlock := fun h => by
        have := (hown1.lt _ h.symm).2
        omega
      have hbl := hgrow.block w1.heap.size (by simp; omega) hne
      have k1 : w2.cell? ⟨w1.heap.size, 1, none⟩ = some (.int .i64 D) := (World.cell?_of_block hbl).trans (alloc_cell (by simp) (new_cell w1 [.int .i64 p, .int .i64 D, .int .i64 R] 35 1 _ rfl).1 _)
      have hcs : cellsOf done ++ [.int .i64 p, .int .i64 D, .int .i64 R] = cellsOf (done ++ [(p, D, R)]) := by rw [cellsOf_snoc]
      rw [hcs] at hown'
      clear hgrow hown hown1 hbw hb1 hbl hne hcs
      go_wp2
      go_roundw
      case rel => exact ⟨p + D, done ++ [(p, D, R)], by go_num, by omega, HR2, by simpa using hown', hbw2⟩
      case measure => simp [intOf]; omega
    · have hlt' : ¬ (p : Int) < (s.size : Int) := by omega
      have hre := rest_end s p hlt
      have HR2 : Hid (rest s 0 = done) := by show _ = _; rw [HR.out, hre]; simp
      clear hre HR
      go_wp2
      go_ret
      exact ⟨_, rfl, by rw [HR2.out]; exact hown, hbw⟩

set_option maxHeartbeats 2000000 in
theorem rbad_any (s : ByteArray) (w : World) (hs : s.size ≤ 1048576) : Calls Try.prog 5 #[.string s] w fun e w' => e = .returned (.int .i64 (badOf (rest s 0))) ∧ Below w.heap.size w w' := by
  have HL := rlist_any s w hs
  obtain ⟨L, hL⟩ : ∃ L, rest s 0 = L := ⟨_, rfl⟩
  have hlen : L.length ≤ 1048576 := by rw [← hL]; have := rest_len s 0; omega
  rw [hL] at HL ⊢
  clear hL
  go_enter Try.func5, Try.ntmps5
  go_wp2_with (go_at_call 11; refine HL.mono ?_; rintro e w1 ⟨v, rfl, hown, hb1⟩; obtain ⟨a0, c0, rfl⟩ := slice_shape hown)
  go_loop [4] (fun i => ∃ k : Nat, k ≤ L.length ∧ i = .int .i64 k ∧ Hid ((L.take k).find? isBad = none)) (fun i => L.length - (intOf i).toNat)
  case atStart => exact ⟨0, by omega, rfl, rfl⟩
  case round =>
    obtain ⟨k, hk, rfl, HF⟩ := hrel
    by_cases hlt : k < L.length
    · obtain ⟨g, cap, hv, hg, hg2, hcap, hcell⟩ := row_cells hown (by omega)
      simp only [Value.slice.injEq] at hv
      obtain ⟨rfl, _, rfl⟩ := hv
      have hlt' : (k : Int) < (L.length : Int) := by omega
      obtain ⟨q1, q2, q3⟩ := cells_get L k hlt
      obtain ⟨r, hr⟩ : ∃ r, L[k] = r := ⟨_, rfl⟩
      have HT : Hid (L.take (k + 1) = L.take k ++ [r]) := by show _ = _; rw [List.take_succ_eq_append_getElem hlt, hr]
      have HB : Hid (isBad r = true → L.find? isBad = some r) := fun hbad => by
        have e : L = L.take k ++ r :: L.drop (k + 1) := by rw [← hr, ← List.drop_eq_getElem_cons hlt, List.take_append_drop]
        rw [e, List.find?_append, HF.out]
        simp [hbad]
      rw [hr] at q1 q2 q3
      have d1 := hcell _ _ q1
      have d2 := hcell _ _ q2
      have d3 := hcell _ _ q3
      clear hcell q1 q2 q3 hr
      obtain ⟨x, y, z⟩ := r
      obtain ⟨Y, hY⟩ : ∃ Y : Int, (y : Int) = Y := ⟨_, rfl⟩
      obtain ⟨Z, hZ⟩ : ∃ Z : Int, (z : Int) = Z := ⟨_, rfl⟩
      simp only at d1 d2 d3
      rw [hY] at d2
      rw [hZ] at d3
      have HY : Hid _ := hY
      have HZ : Hid _ := hZ
      clear hY hZ
      by_cases c1 : Z = 65533
      · subst c1
        by_cases c2 : Y = 1
        · subst c2
          have hbad : isBad (x, y, z) = true := by
            have h1 := HY.out; have h2 := HZ.out
            simp [isBad]; omega
          have HE : Hid (badOf L = x) := by show _ = _; unfold badOf; rw [HB.out hbad]
          go_wp2
          go_ret
          exact ⟨ret1 HE.out.symm, by assumption⟩
        · have c2' : (Y == 1) = false := by simpa using c2
          have hbad : isBad (x, y, z) = false := by
            have h1 := HY.out
            simp [isBad]; omega
          have HF2 : Hid ((L.take (k + 1)).find? isBad = none) := by show _ = _; rw [HT.out, List.find?_append, HF.out]; simp [hbad]
          go_wp2
          go_round
          case rel => exact ⟨k + 1, by omega, by go_num, HF2⟩
          case measure => simp [intOf]; omega
      · have c1' : (Z == 65533) = false := by simpa using c1
        have hbad : isBad (x, y, z) = false := by
          have h1 := HZ.out
          simp [isBad]; omega
        have HF2 : Hid ((L.take (k + 1)).find? isBad = none) := by show _ = _; rw [HT.out, List.find?_append, HF.out]; simp [hbad]
        go_wp2
        go_round
        case rel => exact ⟨k + 1, by omega, by go_num, HF2⟩
        case measure => simp [intOf]; omega
    · have hlt' : ¬ (k : Int) < (L.length : Int) := by omega
      have hke : L.take k = L := List.take_of_length_le (by omega)
      rw [hke] at HF
      have HE : Hid (badOf L = -1) := by show _ = _; unfold badOf; rw [HF.out]
      clear hke
      go_wp2
      go_ret
      exact ⟨ret1 HE.out.symm, by assumption⟩

#print axioms rlist_any
#print axioms rbad_any
end Go.Proofs.Ytoecfpedpibfiab
