/- The walk of the law LexPlaces. -/
import Derived.Test.YtgjeiepcbenejaaCg11
import Derived.Test.YtgjeiepcbenejaaCg13
import Derived.Deep.QuietTactic
import Derived.BigQuiet
namespace Go.Proofs.Ytgjeiepcbenejaa
open Go.RowKit

theorem bdrewN (B : Nat) (w : World) (n : Nat) : Below B w (w.drewN n) := ⟨rfl, rfl, rfl, Nat.le_refl _, fun _ _ => rfl⟩
theorem field41 (a b c : Int) (W : World) : (Instr.field 41 (.agg #[.int .i64 a, .int .i64 b, .int .i64 c]) 2).run Try.prog W = .ok (.int .i64 c) W := by kernel_rfl
theorem cellsT_len (ts : List Tok) : (cellsT ts).length = ts.length * 4 := by
  induction ts with
  | nil => rfl
  | cons t ts ih => simp [cellsT, cellT] at ih ⊢; omega
theorem cellsT_at : ∀ (ts : List Tok) (k j : Nat) (t : Tok), ts[k]? = some t → j < 4 → (cellsT ts)[k * 4 + j]? = (cellT t)[j]?
  | [], k, j, t, h, _ => by simp at h
  | a :: ts, 0, j, t, h, hj => by
    simp at h; subst h
    show (cellT a ++ cellsT ts)[0 * 4 + j]? = _
    rw [List.getElem?_append_left (by simp [cellT]; omega)]; simp
  | a :: ts, k + 1, j, t, h, hj => by
    simp at h
    show (cellT a ++ cellsT ts)[(k + 1) * 4 + j]? = _
    rw [List.getElem?_append_right (by simp [cellT]; omega)]
    have : (k + 1) * 4 + j - (cellT a).length = k * 4 + j := by simp [cellT]; omega
    rw [this]
    exact cellsT_at ts k j t h hj

set_option maxRecDepth 20000 in
set_option maxHeartbeats 2000000 in
theorem places_bad (s : ByteArray) (w : World) (hs : s.size ≤ 9223372036854775807) (hc : (scT s.data.toList).2.1 ≠ 0) : Calls Try.prog 6 #[.string s] w fun e w' => e = .returned (.bool true) ∧ Below w.heap.size w w' := by
  obtain ⟨h1, h2, h3, h4⟩ := scT_bad _ hc
  rw [scT_len] at h3 h4
  have CS := fun w => Scan_any s w hs
  obtain ⟨R, hR⟩ : ∃ R, scT s.data.toList = R := ⟨_, rfl⟩
  rw [hR] at CS h1 h2 h3 h4 hc
  obtain ⟨ts, c, p⟩ := R
  simp only at CS h1 h2 h3 h4 hc
  subst h1
  have hcb : (c != 0) = true := by simpa using hc
  have hmx : max (s.size : Int) 1 = ((max s.size 1 : Nat) : Int) := by omega
  rw [hmx] at h3
  clear hR hc
  by_cases hb : 20000 < s.size
  · have hp : p = -1 := h4.2 hb
    subst hp
    clear h4
    go_enter Try.func6, Try.ntmps6
    go_wp2_with (first
      | (go_at_call 11; refine (fixed_any _).mono ?_; rintro e w2 ⟨rfl, hb2⟩; have f0 := (hb2.cell (p := ⟨w1.heap.size, 0, none⟩) (by simp)).trans (show (w1.alloc (.cells #[.int .i64 c, .int .i64 (-1)] 25)).cell? ⟨w1.heap.size, 0, none⟩ = some (.int .i64 c) by simp [go_sem]); have f1 := (hb2.cell (p := ⟨w1.heap.size, 1, none⟩) (by simp)).trans (show (w1.alloc (.cells #[.int .i64 c, .int .i64 (-1)] 25)).cell? ⟨w1.heap.size, 1, none⟩ = some (.int .i64 (-1)) by simp [go_sem]))
      | (go_at_call 9; refine (CS _).mono ?_; rintro e w1 ⟨v1, rfl, ho1, hb1⟩; obtain ⟨a1, c1, rfl⟩ := slice_shape ho1))
    go_ret
    have hz := hb1.size
    exact ⟨ret_bool (by simp; omega), (hb1.alloc hz _).trans (hb2.mono (by simp; omega))⟩
  · have hp : ¬ p = -1 := fun h => hb (h4.1 h)
    have hpb : (p == -1) = false := by simpa using hp
    have hp0 : 0 ≤ p := by omega
    clear h4 hp
    go_enter Try.func6, Try.ntmps6
    go_wp2_with (first
      | (go_at_call 11; refine (fixed_any _).mono ?_; rintro e w2 ⟨rfl, hb2⟩; have f0 := (hb2.cell (p := ⟨w1.heap.size, 0, none⟩) (by simp)).trans (show (w1.alloc (.cells #[.int .i64 c, .int .i64 p] 25)).cell? ⟨w1.heap.size, 0, none⟩ = some (.int .i64 c) by simp [go_sem]); have f1 := (hb2.cell (p := ⟨w1.heap.size, 1, none⟩) (by simp)).trans (show (w1.alloc (.cells #[.int .i64 c, .int .i64 p] 25)).cell? ⟨w1.heap.size, 1, none⟩ = some (.int .i64 p) by simp [go_sem]))
      | (go_at_call 9; refine (CS _).mono ?_; rintro e w1 ⟨v1, rfl, ho1, hb1⟩; obtain ⟨a1, c1, rfl⟩ := slice_shape ho1))
    go_ret
    have hz := hb1.size
    exact ⟨ret_bool (by simp; omega), (hb1.alloc hz _).trans (hb2.mono (by simp; omega))⟩

set_option maxRecDepth 20000 in
set_option maxHeartbeats 8000000 in
theorem places_ok (s : ByteArray) (w : World) (hs0 : s.size ≤ 9223372036854775807) (hc : (scT s.data.toList).2.1 = 0) : Calls Try.prog 6 #[.string s] w fun e w' => e = .returned (.bool true) ∧ Below w.heap.size w w' := by
  obtain ⟨hG, hbig, hz⟩ := scT_ok _ hc
  rw [scT_len] at hbig
  have CS := fun w => Scan_any s w hs0
  obtain ⟨R, hR⟩ : ∃ R, scT s.data.toList = R := ⟨_, rfl⟩
  rw [hR] at CS hG hc hz
  obtain ⟨ts, c, p⟩ := R
  simp only at CS hG hc hz
  subst hc hz
  have hs : s.size ≤ 20000 := by omega
  have HG0 : Hid (GT s.data.toList 0 ts) := hG
  have hn0 : ts.length ≠ 0 := fun e => hG.ne (List.eq_nil_of_length_eq_zero e)
  obtain ⟨n, hn⟩ : ∃ n, ts.length = n := ⟨_, rfl⟩
  have HN : Hid (ts.length = n) := hn
  rw [hn] at CS hn0
  clear hR hG hn hbig
  go_enter Try.func6, Try.ntmps6
  go_wp2_with (first
    | (go_at_call 11; refine (fixed_any _).mono ?_; rintro e w2 ⟨rfl, hb2⟩; have f0 := (hb2.cell (p := ⟨w1.heap.size, 0, none⟩) (by simp)).trans (show (w1.alloc (.cells #[.int .i64 0, .int .i64 0] 25)).cell? ⟨w1.heap.size, 0, none⟩ = some (.int .i64 0) by simp [go_sem]))
    | (go_at_call 9; refine (CS _).mono ?_; rintro e w1 ⟨v1, rfl, ho1, hb1⟩; obtain ⟨g, cap, rfl, hg1, hg2, hg3, hcs⟩ := row_cells ho1 hn0))
  have hnm : n ≤ 9223372036854775807 := by
    rcases ho1.2 with ⟨_, h0⟩ | ⟨_, cap', _, h1, _, _, h2, h3, _⟩
    · omega
    · unfold maxLen at h3; omega
  have hz1 := hb1.size
  have hz2 := hb2.size
  simp only [World.size_alloc] at hz2
  have HC : Hid (∀ k t, ts[k]? = some t → w2.cell? ⟨g, k * 4, none⟩ = some (.int .i64 t.k) ∧ w2.cell? ⟨g, k * 4 + 1, none⟩ = some (.string ⟨t.t.toArray⟩) ∧ w2.cell? ⟨g, k * 4 + 2, none⟩ = some (.int .i64 t.v) ∧ w2.cell? ⟨g, k * 4 + 3, none⟩ = some (.int .i64 t.p)) := fun k t hk => by
    have far : ∀ o u, w1.cell? ⟨g, o, none⟩ = some u → w2.cell? ⟨g, o, none⟩ = some u := fun o u hu => (hb2.cell (p := ⟨g, o, none⟩) (by simp; omega)).trans (alloc_cell hg2 hu _)
    exact ⟨far _ _ (hcs _ _ ((cellsT_at ts k 0 t hk (by omega)).trans rfl)), far _ _ (hcs _ _ ((cellsT_at ts k 1 t hk (by omega)).trans rfl)), far _ _ (hcs _ _ ((cellsT_at ts k 2 t hk (by omega)).trans rfl)), far _ _ (hcs _ _ ((cellsT_at ts k 3 t hk (by omega)).trans rfl))⟩
  have HB : Hid (Below w.heap.size w w2) := (hb1.alloc hz1 _).trans (hb2.mono (by simp; omega))
  clear hcs ho1 hb1 hb2 CS
  go_loopg [5, 6] (n + 1) (fun gf v5 v6 wx => ∃ (A k : Nat), v5 = .int .i64 A ∧ v6 = .int .i64 k ∧ Hid (GT s.data.toList A (ts.drop k)) ∧ Below w2.heap.size w2 wx ∧ n < k + gf)
  case atStart => exact ⟨0, 0, rfl, rfl, HG0, Below.refl _ _, by omega⟩
  case round =>
    obtain ⟨A, k, rfl, rfl, hG, hB, hfu⟩ := hrel
    cases hd : ts.drop k with
    | nil => rw [hd] at hG; exact absurd rfl hG.out.ne
    | cons t r =>
      have hkn : k < n := by
        have h1 := congrArg List.length hd
        rw [List.length_drop] at h1
        have h2 := HN.out
        simp at h1; omega
      have hkt : ts[k]? = some t := by
        have := congrArg (fun l => l[0]?) hd
        simpa using this
      have hdr : ts.drop (k + 1) = r := by
        have := congrArg (List.drop 1) hd
        simpa [List.drop_drop] using this
      have hrl : r.length + (k + 1) = n := by
        have h1 := congrArg List.length hd
        rw [List.length_drop] at h1
        have h2 := HN.out
        simp at h1; omega
      obtain ⟨q0, q1, q2, q3⟩ := HC.out k t hkt
      have hzB := hB.size
      have m0 := (hB.cell (p := ⟨g, k * 4, none⟩) (by show g < _; omega)).trans q0
      have m1 := (hB.cell (p := ⟨g, k * 4 + 1, none⟩) (by show g < _; omega)).trans q1
      have m2 := (hB.cell (p := ⟨g, k * 4 + 2, none⟩) (by show g < _; omega)).trans q2
      have m3 := (hB.cell (p := ⟨g, k * 4 + 3, none⟩) (by show g < _; omega)).trans q3
      obtain ⟨tk, tt, tv, tp⟩ := t
      simp only at m0 m1 m2 m3
      obtain ⟨X, hX⟩ : ∃ X : ByteArray, (⟨tt.toArray⟩ : ByteArray) = X := ⟨_, rfl⟩
      have hXl : Hid (X.data.toList = tt) := by show _ = _; rw [← hX]
      have hXs : Hid (X.size = tt.length) := by show _ = _; rw [← hX]; rfl
      rw [hX] at m1
      clear q0 q1 q2 q3 hX
      rw [hd] at hG
      cases r with
      | nil =>
        obtain ⟨g1, g2, g3, g4⟩ := hG.out
        simp only at g1 g2 g3
        have hXe : X.toList.isEmpty = true := by rw [ByteArray.toList_eq, hXl.out, g2]; rfl
        rw [scT_len] at g3 g4
        subst g1
        have hkl : k + 1 = n := by simpa using hrl
        have e9 : ((k : Int) == (n : Int) - 1) = true := by rw [beq_iff_eq]; omega
        have n1 : ¬ s.size < A := by omega
        subst g3
        clear hG hd hkt hdr hrl g2 hXl hXs
        go_wp2
        go_ret
        exact ⟨rfl, HB.out.trans ((hB.mono (by have := HB.out.size; omega)).alloc (by have := HB.out.size; omega) _)⟩
      | cons y z =>
        have HG2 : Hid (GT s.data.toList (nxt ⟨tk, tt, tv, tp⟩) (ts.drop (k + 1))) := by rw [hdr]; exact hG.out.2
        obtain ⟨o1, o2, o3, o4, o5⟩ := hG.out.1
        simp only at o1 o2 o3 o4 o5
        rw [scT_len] at o2
        have o3b : (tk == 6) = false := by simpa using o3
        have hkl : k + 1 < n := by simp at hrl; omega
        have e9 : ((k : Int) == (n : Int) - 1) = false := by rw [beq_eq_false_iff_ne]; omega
        have n1 : ¬ tp < A := by omega
        have n2 : ¬ s.size < tp := by omega
        unfold nxt at HG2
        simp only at HG2
        clear hG hd hkt hdr hrl
        by_cases h4 : tk = 4
        · subst h4
          have HG3 : Hid (GT s.data.toList (tp + 1) (ts.drop (k + 1))) := by have := HG2.out; rw [if_pos rfl] at this; exact this
          clear o4 o5 HG2
          go_wp2
          go_roundg (n - k)
          case measure => omega
          case rel => exact ⟨tp + 1, k + 1, by go_num, by go_num, HG3, hB.alloc (by omega) _, by omega⟩
        · obtain ⟨o6, o7, o8⟩ := o4 h4
          have h4b : (tk != 4) = true := by simpa using h4
          have HG3 : Hid (GT s.data.toList (tp + X.size) (ts.drop (k + 1))) := by have := HG2.out; rw [if_neg h4] at this; rw [hXs.out]; exact this
          have hX0 : X.size ≠ 0 := by rw [hXs.out]; exact fun e => o6 (List.eq_nil_of_length_eq_zero e)
          have hX1 : tp + X.size ≤ s.size := by rw [hXs.out, ← scT_len]; exact o7
          have hXe : s.extract tp (tp + X.size) = X := by
            apply ByteArray.ext
            apply Array.toList_inj.1
            rw [ext_LD, hXl.out, hXs.out]; exact o8
          have hX0b : ((X.size : Int) == 0) = false := by rw [beq_eq_false_iff_ne]; omega
          have n3 : decide ((s.size : Int) - (tp : Int) < (X.size : Int)) = false := by rw [decide_eq_false_iff_not]; omega
          have hne0 : (X.toList != X.toList) = false := by simp
          have p0 : (0 : Int) ≤ (tp : Int) := Int.natCast_nonneg _
          have p1 : (tp : Int) ≤ (tp : Int) + (X.size : Int) := by omega
          have p2 : (tp : Int) + (X.size : Int) ≤ (s.size : Int) := by omega
          clear o4 HG2 o6 o7 o8
          by_cases h1 : tk = 1
          · obtain ⟨r1, r2⟩ := o5 h1
            have CA := fun w => rat_any X 0 w (by omega) (by omega)
            unfold RAt at CA
            have CW := fun w => rIsWord_any X w
            have hfd := fun a b c W => field41 a b c W
            rw [hXl.out, r2] at CW
            have hrn : letB (rn X 0) = true := by
              have e : rn X 0 = rnL tt := by rw [rn_drop]; simp only [List.drop_zero]; rw [hXl.out]
              rw [e]; exact r1
            subst h1
            clear o5 h4
            go_wp2_with fail
            go_quiet (fail)
            go_wp2_with (first
              | (go_at_call 17; refine (CA _).mono ?_; rintro e w4 ⟨rfl, hb4⟩; have fx := (hb4.cell (p := ⟨wr.heap.size, 1, none⟩) (by simp)).trans (show (wr.alloc (.cells #[.int .i64 1, .string X, .int .i64 tv, .int .i64 tp] 36)).cell? ⟨wr.heap.size, 1, none⟩ = some (.string X) by simp [go_sem]))
              | (go_at_call 16; refine (rletter_any _ _).mono ?_; rintro e w' ⟨rfl, rfl⟩)
              | (go_at_call 18; refine (CW _).mono ?_; rintro e w' ⟨rfl, rfl⟩))
            go_roundg (n - k)
            case measure => omega
            case rel => exact ⟨tp + X.size, k + 1, by go_num, by go_num, HG3, (((hB.alloc (by omega) _).trans (bdrewN _ _ _)).trans (hb4.mono (by simp; omega))), by omega⟩
          · have h1b : (tk == 1) = false := by simpa using h1
            clear o5
            go_wp2_with fail
            go_quiet (fail)
            go_wp2
            go_roundg (n - k)
            case measure => omega
            case rel => exact ⟨tp + X.size, k + 1, by go_num, by go_num, HG3, (hB.alloc (by omega) _).trans (bdrewN _ _ _), by omega⟩

theorem places_walk (s : ByteArray) (w : World) (hs : s.size ≤ maxLen) : Calls Try.prog 6 #[.string s] w fun e w' => e = .returned (.bool true) ∧ Below w.heap.size w w' := by
  have hs' : s.size ≤ 9223372036854775807 := by unfold maxLen at hs; omega
  by_cases hc : (scT s.data.toList).2.1 = 0
  · exact places_ok s w hs' hc
  · exact places_bad s w hs' hc

end Go.Proofs.Ytgjeiepcbenejaa
