/- The walk of LexBlanks. -/
import Derived.Test.YtgjeiepcbenejaaCg23
import Derived.Test.YtgjeiepcbenejaaCg09
import Derived.Test.YtgjeiepcbenejaaCg14
import Derived.Deep.Cut
import Derived.Deep.CutBlock
namespace Go.Proofs.Ytgjeiepcbenejaa
open Go.RowKit

theorem scn_pos : ∀ (m : Nat) (l : List UInt8) (p : Nat) (acc ts : List Tok), l.length ≤ m → scn l p acc = .ok ts → (∀ t ∈ acc, t.p ≤ p + l.length) → ∀ t ∈ ts, t.p ≤ p + l.length
  | m, [], p, acc, ts, _, h, ha, t, ht => by
    rw [scn_nil] at h
    cases h
    rcases List.mem_append.1 ht with h | h
    · exact ha t h
    · simp at h; subst h; simp
  | 0, c :: u, p, acc, ts, hm, _, _, _, _ => by simp at hm
  | m + 1, c :: u, p, acc, ts, hm, h, ha, t, ht => by
    have hne : c :: u ≠ [] := by simp
    have hpos := stp_pos (c :: u) hne
    cases hs : stp (c :: u) with
    | skip n =>
      obtain ⟨h1, h2⟩ := hpos.1 n hs
      rw [scn_skip hne hs] at h
      have el : p + n + ((c :: u).drop n).length = p + (c :: u).length := by rw [List.length_drop]; omega
      have ih := scn_pos m ((c :: u).drop n) (p + n) acc ts (by rw [List.length_drop]; omega) h
      rw [el] at ih
      exact ih ha t ht
    | tok k x v n =>
      obtain ⟨h1, h2⟩ := hpos.2 k x v n hs
      rw [scn_tok hne hs] at h
      have el : p + n + ((c :: u).drop n).length = p + (c :: u).length := by rw [List.length_drop]; omega
      have ih := scn_pos m ((c :: u).drop n) (p + n) _ ts (by rw [List.length_drop]; omega) h
      rw [el] at ih
      refine ih (fun t' ht' => ?_) t ht
      rcases List.mem_append.1 ht' with h | h
      · exact ha t' h
      · simp at h; subst h; simp
    | bad cc o =>
      rw [scn_bad hne hs] at h
      cases h
theorem scT_pos (b : List UInt8) (hb : b.length ≤ 9000) : ∀ t ∈ (scT b).1, t.p ≤ 9000 := fun t ht => by
  cases hs : scn b 0 [] with
  | bad c p =>
    have e : scT b = ([], c, (p : Int)) := by unfold scT; rw [if_neg (by omega), hs]
    rw [e] at ht; cases ht
  | ok ts =>
    have e : scT b = (ts, 0, 0) := by unfold scT; rw [if_neg (by omega), hs]
    rw [e] at ht
    have := scn_pos b.length b 0 [] ts (Nat.le_refl _) hs (by simp) t ht
    omega

set_option maxRecDepth 20000 in
set_option maxHeartbeats 8000000 in
theorem blanks_try (a b : ByteArray) (k : Int) (w : World) (hs : a.size ≤ 9223372036854775807) (ht : b.size ≤ 9223372036854775807) : Calls Try.prog 5 #[.string a, .string b, .int .i64 k] w fun e w' => e = .returned (.bool true) ∧ Below w.heap.size w w' := by
  have CA := fun w => Scan_any a w hs
  have CB := fun w => Scan_any b w ht
  obtain ⟨X, hX⟩ : ∃ X, scT a.data.toList = X := ⟨_, rfl⟩
  obtain ⟨Y, hY⟩ : ∃ Y, scT b.data.toList = Y := ⟨_, rfl⟩
  rw [hX] at CA
  rw [hY] at CB
  obtain ⟨xs, fa, pa⟩ := X
  obtain ⟨ys, fb, pb⟩ := Y
  have HX : Hid (scT a.data.toList = (xs, fa, pa)) := hX
  have HY : Hid (scT b.data.toList = (ys, fb, pb)) := hY
  clear hX hY
  simp only at CA CB
  obtain ⟨nx, hnx⟩ : ∃ nx, xs.length = nx := ⟨_, rfl⟩
  obtain ⟨ny, hny⟩ : ∃ ny, ys.length = ny := ⟨_, rfl⟩
  have HNX : Hid (xs.length = nx) := hnx
  have HNY : Hid (ys.length = ny) := hny
  rw [hnx] at CA
  rw [hny] at CB
  clear hnx hny
  go_enter Try.func5, Try.ntmps5
  go_wp2_with fail
  refine (fixed_any _).mono ?_
  rintro e w0 ⟨rfl, hb0⟩
  go_wp2_with fail
  refine (CA _).mono ?_
  rintro e w1 ⟨v1, rfl, ho1, hb1⟩
  obtain ⟨a1, c1, rfl⟩ := slice_shape ho1
  go_wp2_with fail
  refine (CB _).mono ?_
  rintro e w2 ⟨v2, rfl, ho2, hb2⟩
  obtain ⟨a2, c2, rfl⟩ := slice_shape ho2
  have hz2 : w1.heap.size < w2.heap.size := by have := hb2.size; simp at this; omega
  have f0 : ∀ x, (w2.alloc x).cell? ⟨w1.heap.size, 0, none⟩ = some (.int .i64 fa) := alloc_cell hz2 ((hb2.cell (p := ⟨w1.heap.size, 0, none⟩) (by simp)).trans (by simp [go_sem]))
  have hB2 : Below w.heap.size w w2 := ((hb0.trans (hb1.mono hb0.size)).alloc (by have := hb0.size; have := hb1.size; omega) _).trans (hb2.mono (by have := hb0.size; have := hb1.size; simp; omega))
  go_upto_block 0 with fail
  go_cut [11] from 28 to 37 (fun gv wx => ∃ q : Nat, gv = .string ⟨(gap q).toArray⟩ ∧ wx = w2.alloc (.cells #[.int .i64 fb, .int .i64 pb] 25))
  case first =>
    cases b1 : (wrap64 ((IntKind.u64.wrap k).tmod 4) == 1)
    · cases b2 : (wrap64 ((IntKind.u64.wrap k).tmod 4) == 2)
      · cases b3 : (wrap64 ((IntKind.u64.wrap k).tmod 4) == 3)
        · go_wp2_with fail
          go_meet
          exact ⟨0, rfl, rfl⟩
        · go_wp2_with fail
          go_meet
          exact ⟨3, rfl, rfl⟩
      · go_wp2_with fail
        go_meet
        exact ⟨2, rfl, rfl⟩
    · go_wp2_with fail
      go_meet
      exact ⟨1, rfl, rfl⟩
  case rest =>
    obtain ⟨q, hgv, hwc⟩ := hcut
    subst hwc
    obtain ⟨G, hG⟩ : ∃ G : ByteArray, ⟨(gap q).toArray⟩ = G := ⟨_, rfl⟩
    have hgs : G.size ≤ 8 := by rw [← hG]; show (gap q).toArray.size ≤ 8; rw [List.size_toArray]; exact gap_len q
    have HGL : Hid (G.data.toList = gap q) := by show _ = _; rw [← hG]
    rw [hG] at hgv
    subst hgv
    clear hG
    by_cases hfa : fa = 0
    · subst hfa
      by_cases h9 : 9000 < a.size
      · go_wp2
        go_ret
        exact ⟨rfl, hB2.alloc hB2.size _⟩
      · by_cases h9b : 9000 < b.size
        · go_wp2
          go_ret
          exact ⟨rfl, hB2.alloc hB2.size _⟩
        · have CC := fun w => comment_any a w (by omega)
          have hab : a.size + G.size + b.size ≤ 20000 := by omega
          have CZ := fun w => Scan_any (a ++ G ++ b) w (by simp only [ByteArray.size_append]; omega)
          have hzl : (a ++ G ++ b).data.toList = a.data.toList ++ gap q ++ b.data.toList := by rw [← HGL.out]; simp
          have hgl : (gap q).length = G.size := by rw [← HGL.out]; exact Array.length_toList
          have SG := fun hN => scT_gap q a.data.toList b.data.toList (by rw [scT_len]; omega) (by rw [scT_len]; omega) hN (by rw [HX.out])
          rw [HX.out, HY.out, ← hzl, hgl, scT_len] at SG
          have HSG : Hid _ := SG
          clear SG hzl hgl
          by_cases hfb : fb = 0
          · subst hfb
            have hny0 : ny ≠ 0 := by
              have := scT_ne b.data.toList (by rw [HY.out])
              rw [HY.out] at this
              rw [← HNY.out]; simpa using this
            have HPY : Hid (∀ t ∈ ys, t.p ≤ 9000) := by
              have := scT_pos b.data.toList (by rw [scT_len]; omega)
              rw [HY.out] at this; exact this
            go_wp2_with (go_at_call 15; refine (CC _).mono ?_; rintro e w' ⟨r, rfl, rfl, hNC⟩; have hor : Hid (NC a.data.toList) ∨ r = true := (by cases r; exact .inl (hNC rfl); exact .inr rfl); clear hNC; rcases hor with HN | rfl)
            all_goals first
              | (go_ret; exact ⟨rfl, hB2.alloc hB2.size _⟩)
              | skip
            obtain ⟨body, hxs, hsg, _⟩ := HSG.out HN.out
            rw [hsg (by trivial)] at CZ
            obtain ⟨m, hm⟩ : ∃ m, body.length = m := ⟨_, rfl⟩
            have e1 : nx = m + 1 := by rw [← HNX.out, hxs, List.length_append, hm]; rfl
            have e2 : (body ++ ys.map (sh (a.size + G.size))).length = m + ny := by rw [List.length_append, List.length_map, hm, HNY.out]
            simp only [e2] at CZ
            subst e1
            have HM : Hid (body.length = m) := hm
            have HXS : Hid (xs = body ++ [⟨6, [], 0, a.size⟩]) := hxs
            clear hm hxs hsg e2
            refine (CZ _).mono ?_
            rintro e w3 ⟨v3, rfl, ho3, hb3⟩
            obtain ⟨g3, c3, rfl, hg3a, hg3, hg3c, hcs3⟩ := row_cells ho3 (by omega)
            obtain ⟨g1, d1, he1, hg1a, hg1, hg1c, hcs1⟩ := row_cells ho1 (by omega)
            obtain ⟨g2, d2, he2, hg2a, hg2, hg2c, hcs2⟩ := row_cells ho2 hny0
            cases he1
            cases he2
            have hz3 : w2.heap.size < w3.heap.size := by have := hb3.size; simp at this; omega
            have hnm : m + ny ≤ 9223372036854775807 := by
              rcases ho3.2 with ⟨_, h0⟩ | ⟨_, cap', _, h1, _, _, h2, h3, _⟩
              · omega
              · unfold maxLen at h3; omega
            have k0 := (hb3.cell (p := ⟨w2.heap.size, 0, none⟩) (by simp)).trans (show (w2.alloc (.cells #[.int .i64 0, .int .i64 pb] 25)).cell? ⟨w2.heap.size, 0, none⟩ = some (.int .i64 0) by simp [go_sem])
            have hq := fun A c d s W => neq36 A c d A c d s s W
            simp only [and_self, decide_true, Bool.not_true] at hq
            have g36 := guard36
            have b0 : ((m : Int) + 1 == 0) = false := by rw [beq_eq_false_iff_ne]; omega
            have b1 : ((ny : Int) == 0) = false := by rw [beq_eq_false_iff_ne]; omega
            have b2 : ((m : Int) + ny != (m : Int) + 1 - 1 + ny) = false := by simp
            go_wp2_with fail
            have hB3 : Below w.heap.size w w3 := (hB2.alloc hB2.size _).trans (hb3.mono (by have := hB2.size; simp; omega))
            have hW2 : Below w2.heap.size w2 w3 := ((Below.refl _ w2).alloc (Nat.le_refl _) _).trans (hb3.mono (by simp))
            have hW1 : Below w1.heap.size w1 w3 := (((Below.refl _ w1).alloc (Nat.le_refl _) _).trans (hb2.mono (by simp))).trans (hW2.mono (by omega))
            have R1 : Hid (∀ j u, (cellsT xs)[j]? = some u → w3.cell? ⟨g1, j, none⟩ = some u) := fun j u h => (hW1.cell (p := ⟨g1, j, none⟩) hg1).trans (hcs1 j u h)
            have R2 : Hid (∀ j u, (cellsT ys)[j]? = some u → w3.cell? ⟨g2, j, none⟩ = some u) := fun j u h => (hW2.cell (p := ⟨g2, j, none⟩) hg2).trans (hcs2 j u h)
            have R3 : Hid (∀ j u, (cellsT (body ++ ys.map (sh (a.size + G.size))))[j]? = some u → w3.cell? ⟨g3, j, none⟩ = some u) := hcs3
            clear hcs1 hcs2 hcs3 ho1 ho2 ho3 CZ CA CB CC k0 f0 b0 b1 b2
            go_loopg [14] (m + ny + 1) (fun gf v14 wx => ∃ i : Nat, v14 = .int .i64 i ∧ Below w3.heap.size w3 wx ∧ i ≤ m + ny ∧ m + ny < i + gf)
            case atStart => exact ⟨0, rfl, (Below.refl _ _).alloc (Nat.le_refl _) _, by omega, by omega⟩
            case round =>
              obtain ⟨i, rfl, hB, hin, hfu⟩ := hrel
              have hzB := hB.size
              have hG1 : g1 < wr.heap.size := by omega
              have hG2 : g2 < wr.heap.size := by omega
              have hG3 : g3 < wr.heap.size := by omega
              by_cases hlt : i < m + ny
              · obtain ⟨g', rfl⟩ : ∃ g', gk = g' + 1 := ⟨gk - 1, by omega⟩
                by_cases him : i < m
                · obtain ⟨t, ht⟩ : ∃ t, body[i]? = some t := ⟨body[i]'(by rw [HM.out]; exact him), by simp⟩
                  have hx : xs[i]? = some t := by rw [HXS.out, List.getElem?_append_left (by rw [HM.out]; exact him)]; exact ht
                  have hzt : (body ++ ys.map (sh (a.size + G.size)))[i]? = some t := by rw [List.getElem?_append_left (by rw [HM.out]; exact him)]; exact ht
                  have m0 := (hB.cell (p := ⟨g1, i * 4, none⟩) (by show g1 < _; omega)).trans (R1.out _ _ ((cellsT_at xs (i) 0 t hx (by omega)).trans rfl))
                  have m1 := (hB.cell (p := ⟨g1, i * 4 + 1, none⟩) (by show g1 < _; omega)).trans (R1.out _ _ ((cellsT_at xs (i) 1 t hx (by omega)).trans rfl))
                  have m2 := (hB.cell (p := ⟨g1, i * 4 + 2, none⟩) (by show g1 < _; omega)).trans (R1.out _ _ ((cellsT_at xs (i) 2 t hx (by omega)).trans rfl))
                  have m3 := (hB.cell (p := ⟨g1, i * 4 + 3, none⟩) (by show g1 < _; omega)).trans (R1.out _ _ ((cellsT_at xs (i) 3 t hx (by omega)).trans rfl))
                  have z0 := (hB.cell (p := ⟨g3, i * 4, none⟩) (by show g3 < _; omega)).trans (R3.out _ _ ((cellsT_at (body ++ ys.map (sh (a.size + G.size))) (i) 0 t hzt (by omega)).trans rfl))
                  have z1 := (hB.cell (p := ⟨g3, i * 4 + 1, none⟩) (by show g3 < _; omega)).trans (R3.out _ _ ((cellsT_at (body ++ ys.map (sh (a.size + G.size))) (i) 1 t hzt (by omega)).trans rfl))
                  have z2 := (hB.cell (p := ⟨g3, i * 4 + 2, none⟩) (by show g3 < _; omega)).trans (R3.out _ _ ((cellsT_at (body ++ ys.map (sh (a.size + G.size))) (i) 2 t hzt (by omega)).trans rfl))
                  have z3 := (hB.cell (p := ⟨g3, i * 4 + 3, none⟩) (by show g3 < _; omega)).trans (R3.out _ _ ((cellsT_at (body ++ ys.map (sh (a.size + G.size))) (i) 3 t hzt (by omega)).trans rfl))
                  obtain ⟨tk, tt, tv, tp⟩ := t
                  simp only at m0 m1 m2 m3 z0 z1 z2 z3
                  obtain ⟨X, hX⟩ : ∃ X : ByteArray, ⟨tt.toArray⟩ = X := ⟨_, rfl⟩
                  rw [hX] at m1 z1
                  clear ht hx hzt hX
                  go_wp2_with fail
                  go_quiet (fail)
                  go_wp2_with fail
                  go_roundg g'
                  case measure => omega
                  case rel => exact ⟨i + 1, by go_num, (hB.alloc hzB _).trans (bdrewN _ _ _), by omega, by omega⟩
                · obtain ⟨j, rfl⟩ : ∃ j, i = m + j := ⟨i - m, by omega⟩
                  have hjn : j < ny := by omega
                  obtain ⟨t, ht⟩ : ∃ t, ys[j]? = some t := ⟨ys[j]'(by rw [HNY.out]; exact hjn), by simp⟩
                  have hzt : (body ++ ys.map (sh (a.size + G.size)))[m + j]? = some (sh (a.size + G.size) t) := by
                    rw [List.getElem?_append_right (by rw [HM.out]; omega), HM.out, show m + j - m = j by omega, List.getElem?_map, ht]; rfl
                  have hpt : t.p ≤ 9000 := HPY.out t (List.mem_of_getElem? ht)
                  have m0 := (hB.cell (p := ⟨g2, j * 4, none⟩) (by show g2 < _; omega)).trans (R2.out _ _ ((cellsT_at ys (j) 0 t ht (by omega)).trans rfl))
                  have m1 := (hB.cell (p := ⟨g2, j * 4 + 1, none⟩) (by show g2 < _; omega)).trans (R2.out _ _ ((cellsT_at ys (j) 1 t ht (by omega)).trans rfl))
                  have m2 := (hB.cell (p := ⟨g2, j * 4 + 2, none⟩) (by show g2 < _; omega)).trans (R2.out _ _ ((cellsT_at ys (j) 2 t ht (by omega)).trans rfl))
                  have m3 := (hB.cell (p := ⟨g2, j * 4 + 3, none⟩) (by show g2 < _; omega)).trans (R2.out _ _ ((cellsT_at ys (j) 3 t ht (by omega)).trans rfl))
                  have z0 := (hB.cell (p := ⟨g3, (m + j) * 4, none⟩) (by show g3 < _; omega)).trans (R3.out _ _ ((cellsT_at (body ++ ys.map (sh (a.size + G.size))) ((m + j)) 0 (sh (a.size + G.size) t) hzt (by omega)).trans rfl))
                  have z1 := (hB.cell (p := ⟨g3, (m + j) * 4 + 1, none⟩) (by show g3 < _; omega)).trans (R3.out _ _ ((cellsT_at (body ++ ys.map (sh (a.size + G.size))) ((m + j)) 1 (sh (a.size + G.size) t) hzt (by omega)).trans rfl))
                  have z2 := (hB.cell (p := ⟨g3, (m + j) * 4 + 2, none⟩) (by show g3 < _; omega)).trans (R3.out _ _ ((cellsT_at (body ++ ys.map (sh (a.size + G.size))) ((m + j)) 2 (sh (a.size + G.size) t) hzt (by omega)).trans rfl))
                  have z3 := (hB.cell (p := ⟨g3, (m + j) * 4 + 3, none⟩) (by show g3 < _; omega)).trans (R3.out _ _ ((cellsT_at (body ++ ys.map (sh (a.size + G.size))) ((m + j)) 3 (sh (a.size + G.size) t) hzt (by omega)).trans rfl))
                  obtain ⟨tk, tt, tv, tp⟩ := t
                  simp only [sh] at m0 m1 m2 m3 z0 z1 z2 z3 hpt
                  have z3' : wr.cell? ⟨g3, (m + j) * 4 + 3, none⟩ = some (.int .i64 ((tp : Int) + ((a.size : Int) + (G.size : Int)))) := by rw [z3]; simp
                  obtain ⟨X, hX⟩ : ∃ X : ByteArray, ⟨tt.toArray⟩ = X := ⟨_, rfl⟩
                  rw [hX] at m1 z1
                  have ej : (m : Int) + (j : Int) - ((m : Int) + 1) + 1 = j := by omega
                  clear ht hzt hX z3
                  go_wp2_with fail
                  go_quiet (fail)
                  go_wp2_with fail
                  go_roundg g'
                  case measure => omega
                  case rel => exact ⟨m + j + 1, by go_num, (hB.alloc hzB _).trans (bdrewN _ _ _), by omega, by omega⟩
              · go_wp2
                go_ret
                exact ⟨rfl, hB3.trans (hB.mono hB3.size)⟩
          · have n1 : (fb != 0) = true := by simp [hfb]
            have hpb : -1 ≤ pb ∧ pb ≤ 20000 := by
              have := scT_bad b.data.toList (by rw [HY.out]; exact hfb)
              rw [HY.out, scT_len] at this
              simp only at this
              omega
            go_wp2_with (first | (go_at_call 15; refine (CC _).mono ?_; rintro e w' ⟨r, rfl, rfl, hNC⟩; have hor : Hid (NC a.data.toList) ∨ r = true := (by cases r; exact .inl (hNC rfl); exact .inr rfl); clear hNC; rcases hor with HN | rfl) | (go_at_call 9; obtain ⟨body, _, _, hsg⟩ := HSG.out HN.out; rw [hsg hfb] at CZ; refine (CZ _).mono ?_; rintro e w3 ⟨v3, rfl, ho3, hb3⟩; obtain ⟨a3, c3, rfl⟩ := slice_shape ho3; have k0 := (hb3.cell (p := ⟨w2.heap.size, 0, none⟩) (by simp)).trans (show (w2.alloc (.cells #[.int .i64 fb, .int .i64 pb] 25)).cell? ⟨w2.heap.size, 0, none⟩ = some (.int .i64 fb) by simp [go_sem]); have k1 := (hb3.cell (p := ⟨w2.heap.size, 1, none⟩) (by simp)).trans (show (w2.alloc (.cells #[.int .i64 fb, .int .i64 pb] 25)).cell? ⟨w2.heap.size, 1, none⟩ = some (.int .i64 pb) by simp [go_sem]); have hz3 : w2.heap.size < w3.heap.size := by have := hb3.size; simp at this; omega))
            all_goals go_ret
            all_goals first
              | exact ⟨rfl, hB2.alloc hB2.size _⟩
              | exact ⟨rfl, ((hB2.alloc hB2.size _).trans (hb3.mono (by have := hB2.size; simp; omega))).alloc (by have := hB2.size; omega) _⟩
    · have n0 : (fa != 0) = true := by simp [hfa]
      clear hfa
      go_wp2
      go_ret
      exact ⟨rfl, hB2.alloc hB2.size _⟩

theorem blanks_walk (a b : ByteArray) (k : Int) (w : World) (hs : a.size ≤ maxLen) (ht : b.size ≤ maxLen) : Calls Try.prog 5 #[.string a, .string b, .int .i64 k] w fun e w' => e = .returned (.bool true) ∧ Below w.heap.size w w' :=
  blanks_try a b k w (by unfold maxLen at hs; omega) (by unfold maxLen at ht; omega)

end Go.Proofs.Ytgjeiepcbenejaa
