/- The walk of the law LexPlain. -/
import Derived.Test.YtgjeiepcbenejabCg09
import Derived.Test.YtgjeiepcbenejabCg10
import Derived.Test.YtgjeiepcbenejabCg08
import Derived.Deep.QuietTactic
import Derived.BigQuiet
namespace Go.Proofs.Ytgjeiepcbenejab
open Go.RowKit

theorem bdrewN (B : Nat) (w : World) (n : Nat) : Below B w (w.drewN n) := ⟨rfl, rfl, rfl, Nat.le_refl _, fun _ _ => rfl⟩
theorem cellsT_at : ∀ (ts : List Tok) (k j : Nat) (t : Tok), ts[k]? = some t → j < 4 → (cellsT ts)[k * 4 + j]? = (cellT t)[j]?
  | [], k, j, t, h, _ => by simp at h
  | a :: ts, 0, j, t, h, hj => by
    simp at h; subst h
    show (cellT a ++ cellsT ts)[0 * 4 + j]? = _
    rw [List.getElem?_append_left (by simp [cellT]; omega)]; simp
  | a :: ts, k + 1, j, t, h, hj => by
    simp at h
    show (cellT a ++ cellsT ts)[(k + 1) * 4 + j]? = _
    rw [List.getElem?_append_right (by simp [cellT]; omega)]
    have : (k + 1) * 4 + j - (cellT a).length = k * 4 + j := by simp [cellT]; omega
    rw [this]
    exact cellsT_at ts k j t h hj
theorem bc_app {w : World} {base n : Nat} {v : Value} {acc l : List UInt8} {xs : List Value} (h : w.ownsRow base 5 1 v n (Lib.byteCells acc ++ xs)) (hx : xs = Lib.byteCells l) (hn : n = acc.length + l.length) : w.ownsRow base 5 1 v (acc ++ l).length (Lib.byteCells (acc ++ l)) := by
  subst hx; rw [hn] at h
  rw [List.length_append, Lib.byteCells_append]; exact h
theorem pln_snoc (ts : List Tok) (k : Nat) (t : Tok) (h : ts[k]? = some t) : pln (ts.take (k + 1)) = pln (ts.take k) ++ rp t ++ [32] := by
  rw [List.take_add_one, h]
  simp [pln]
theorem kTV_at (r ts : List Tok) (h : r.map kTV = ts.map kTV) (k : Nat) (t : Tok) (ht : ts[k]? = some t) : ∃ u, r[k]? = some u ∧ u.k = t.k ∧ u.t = t.t ∧ u.v = t.v := by
  have h1 := congrArg (fun l => l[k]?) h
  simp only [List.getElem?_map, ht, Option.map_some] at h1
  cases hu : r[k]? with
  | none => rw [hu] at h1; cases h1
  | some u =>
    rw [hu] at h1
    simp only [Option.map_some, Option.some.injEq, kTV, Prod.mk.injEq] at h1
    exact ⟨u, rfl, h1.1, h1.2.1, h1.2.2⟩

set_option maxRecDepth 20000 in
set_option maxHeartbeats 4000000 in
theorem plain_bad (s : ByteArray) (w : World) (hs : s.size ≤ 9223372036854775807) (hc : (scT s.data.toList).2.1 ≠ 0) : Calls Try.prog 3 #[.string s] w fun e w' => e = .returned (.bool true) ∧ Below w.heap.size w w' := by
  obtain ⟨hb, _⟩ := scT_bad _ hc
  have CS := fun w => Scan_any s w hs
  obtain ⟨R, hR⟩ : ∃ R, scT s.data.toList = R := ⟨_, rfl⟩
  rw [hR] at CS hb hc
  obtain ⟨ts, c, p⟩ := R
  simp only at CS hb hc
  subst hb
  have hcb : (c != 0) = true := by simpa using hc
  clear hR
  go_enter Try.func3, Try.ntmps3
  go_wp2_with (first
    | (go_at_call 4; refine (fixed_any _).mono ?_; rintro e w1 ⟨rfl, hb1⟩)
    | (go_at_call 5; refine (CS _).mono ?_; rintro e w2 ⟨v2, rfl, ho2, hb2⟩; obtain ⟨av, cv, hv2⟩ := slice_shape ho2; subst hv2))
  go_loopg [5, 6] 1 (fun gf v5 v6 wx => v5 = .slice none 0 0 ∧ v6 = .int .i64 0 ∧ wx = w2.alloc (.cells #[.int .i64 c, .int .i64 p] 26) ∧ 0 < gf)
  case atStart => exact ⟨rfl, rfl, rfl, by omega⟩
  case round =>
    obtain ⟨rfl, rfl, rfl, hfu⟩ := hrel
    go_wp2
    go_ret
    exact ⟨rfl, (hb1.trans (hb2.mono hb1.size)).alloc (Nat.le_trans hb1.size hb2.size) _⟩

set_option maxRecDepth 20000 in
set_option maxHeartbeats 8000000 in
theorem plain_ok (s : ByteArray) (w : World) (hs0 : s.size ≤ 9223372036854775807) (hc : (scT s.data.toList).2.1 = 0) : Calls Try.prog 3 #[.string s] w fun e w' => e = .returned (.bool true) ∧ Below w.heap.size w w' := by
  obtain ⟨i5, hi5, hy0, hy1, hy2⟩ := info_parts W.Try.info5
  obtain ⟨hM, hcnt, hz⟩ := scT_made _ hc
  have CS := fun w => Scan_any s w hs0
  obtain ⟨R, hR⟩ : ∃ R, scT s.data.toList = R := ⟨_, rfl⟩
  rw [hR] at CS hM hc hz hcnt
  obtain ⟨ts, c, p⟩ := R
  simp only at CS hM hc hz hcnt
  subst hc hz
  have HM : Hid (Made ts) := hM
  have hn0 : ts.length ≠ 0 := fun e => hM.bound.1 (List.eq_nil_of_length_eq_zero e)
  obtain ⟨n, hn⟩ : ∃ n, ts.length = n := ⟨_, rfl⟩
  have HN : Hid (ts.length = n) := hn
  rw [hn] at CS hn0 hcnt
  clear hR hM hn
  go_enter Try.func3, Try.ntmps3
  go_wp2_with (first
    | (go_at_call 4; refine (fixed_any _).mono ?_; rintro e w1 ⟨rfl, hb1⟩)
    | (go_at_call 5; refine (CS _).mono ?_; rintro e w2 ⟨v2, rfl, ho2, hb2⟩; obtain ⟨g, cap, rfl, hg1, hg2, hg3, hcs⟩ := row_cells ho2 hn0))
  generalize hW3 : w2.alloc (.cells #[.int .i64 0, .int .i64 0] 26) = W3
  have z3 : W3.heap.size = w2.heap.size + 1 := by rw [← hW3]; simp
  have f0 : W3.cell? ⟨w2.heap.size, 0, none⟩ = some (.int .i64 0) := by rw [← hW3]; simp [go_sem]
  have hB3 : Below w.heap.size w W3 := by rw [← hW3]; exact (hb1.trans (hb2.mono hb1.size)).alloc (Nat.le_trans hb1.size hb2.size) _
  have HC : Hid (∀ k t, ts[k]? = some t → W3.cell? ⟨g, k * 4, none⟩ = some (.int .i64 t.k) ∧ W3.cell? ⟨g, k * 4 + 1, none⟩ = some (.string ⟨t.t.toArray⟩) ∧ W3.cell? ⟨g, k * 4 + 2, none⟩ = some (.int .i64 t.v)) := fun k t hk => by
    have far : ∀ o u, w2.cell? ⟨g, o, none⟩ = some u → W3.cell? ⟨g, o, none⟩ = some u := fun o u hu => by rw [← hW3]; exact alloc_cell hg2 hu _
    exact ⟨far _ _ (hcs _ _ ((cellsT_at ts k 0 t hk (by omega)).trans rfl)), far _ _ (hcs _ _ ((cellsT_at ts k 1 t hk (by omega)).trans rfl)), far _ _ (hcs _ _ ((cellsT_at ts k 2 t hk (by omega)).trans rfl))⟩
  have hgz : g < W3.heap.size := by omega
  have hz3 := hB3.size
  clear hcs ho2 hb1 hb2 CS hW3
  go_loopg [5, 6] (n + 1) (fun gf v5 v6 wx => ∃ (k : Nat) (acc : List UInt8), v6 = .int .i64 k ∧ k ≤ n ∧ wx.ownsRow W3.heap.size 5 1 v5 acc.length (Lib.byteCells acc) ∧ Below W3.heap.size W3 wx ∧ acc.length ≤ 40003 * k ∧ Hid (acc = pln (ts.take k)) ∧ n < k + gf)
  case atStart => exact ⟨0, [], by go_num, by omega, World.ownsRow_nil _ _ _ _, Below.refl _ _, by simp, by show _ = _; simp [pln], by omega⟩
  case round =>
    obtain ⟨k, acc, rfl, hkn, hown, hB, hacc, hI, hfu⟩ := hrel
    have hzB := hB.size
    obtain ⟨av, cv, rfl⟩ := slice_shape hown
    have k0 : (0 : Int) ≤ (k : Int) := Int.natCast_nonneg _
    by_cases hlt : k < n
    · obtain ⟨g2, rfl⟩ : ∃ g2, gk = g2 + 1 := ⟨gk - 1, by omega⟩
      obtain ⟨t, ht⟩ : ∃ t, ts[k]? = some t := ⟨ts[k]'(by rw [HN.out]; exact hlt), by simp⟩
      obtain ⟨c0, c1, c2⟩ := HC.out k t ht
      have m0 := (hB.cell (p := ⟨g, k * 4, none⟩) hgz).trans c0
      have m1 := (hB.cell (p := ⟨g, k * 4 + 1, none⟩) hgz).trans c1
      obtain ⟨b1, b2⟩ := HM.out.bound.2 t (List.mem_of_getElem? ht)
      have hP := pln_snoc ts k t ht
      rw [← hI.out] at hP
      have HP : Hid (acc ++ rp t ++ [32] = pln (ts.take (k + 1))) := hP.symm
      obtain ⟨tk, tt, tv, tp⟩ := t
      simp only at m0 m1 b2
      clear ht c0 c1 c2 hP hI
      by_cases hk4 : tk = 4
      · subst hk4
        obtain ⟨y, hy⟩ : ∃ y, rp ⟨4, tt, tv, tp⟩ = y := ⟨_, rfl⟩
        have hq : quoQ tt = y := by rw [← hy]; rfl
        rw [hy] at HP b1
        obtain ⟨X, hX⟩ : ∃ X : ByteArray, ⟨tt.toArray⟩ = X := ⟨_, rfl⟩
        have hXl : X.data.toList = tt := by rw [← hX]
        have CQ := fun w => quote_any X w (by rw [← hX, sz_list]; omega)
        rw [hXl, hq] at CQ
        rw [hX] at m1
        have hys : (⟨y.toArray⟩ : ByteArray).size = y.length := sz_list y
        clear hy hq hX hXl
        go_wp2_with (first
          | (go_at_call 6; refine (CQ _).mono ?_; rintro e w4 ⟨rfl, hb4⟩; have hown4 := own_below hown hb4; have hB4 := hB.trans (hb4.mono hzB); have hz4 := hb4.size)
          | (at_builtin; refine Lib.wpList_append_own_string _ rfl _ _ 29 9 rfl W3.heap.size 5 i5 Try.underlying29 Try.underlying9 hi5 hy0 hy1 hy2 (.slice av acc.length cv) acc.length (Lib.byteCells acc) rfl hown4 _ rfl ?_ ?_ ?_ ?_))
        all_goals try (first
          | (rw [hys]; unfold maxLen; omega)
          | (rw [hys]; omega)
          | omega)
        intro v5 w5 ho5 hg5 _
        have ho6 := own_app ho5 (by rw [hys]) rfl
        have hB5 : Below W3.heap.size W3 w5 := hB4.grown hg5 (by omega) (fun k hk => (hown4.lt k hk).1)
        obtain ⟨a6, c6, rfl⟩ := slice_shape ho6
        have hz5 := hB5.size
        have ho7 : w5.ownsRow W3.heap.size 5 1 (.slice a6 (acc ++ y).length c6) (acc ++ y).length (Lib.byteCells (acc ++ y)) := by rw [z3]; simpa using ho6
        obtain ⟨A, hA⟩ : ∃ A, acc ++ y = A := ⟨_, rfl⟩
        have hAl : A.length = acc.length + y.length := by rw [← hA, List.length_append]
        have HA : Hid (A ++ [32] = pln (ts.take (k + 1))) := by show _ = _; rw [← hA]; exact HP.out
        clear ho5 hg5 ho6 hown4
        rw [show (acc ++ y).length = A.length from by rw [hA]] at *
        rw [hA] at ho7
        go_wp2_with (at_builtin; refine wpList_append_own _ rfl _ _ 29 rfl W3.heap.size 5 i5 (.int .u8 0) 1 1 Try.underlying29 hi5 hy0 hy1 hy2 rfl (by decide) (.slice a6 A.length c6) A.length (Lib.byteCells A) rfl (World.ownsRow.alloc ho7 _) ⟨w5.heap.size, 0, none⟩ 1 1 [.int .u8 32] rfl rfl ?_ ?_ ?_ ?_ ?_ ?_)
        all_goals try (first
          | rfl
          | (unfold maxLen; omega)
          | omega
          | (simp; omega)
          | (intro u hu; simp at hu; rcases hu with rfl <;> rfl)
          | (intro j u hj; match j, hj with | 0, hj => (simp at hj; subst hj; exact (new_cell w5 [.int .u8 32] 5 0 _ rfl).1)))
        intro v8 w8 ho8 hg8 _
        have ho9 := bc_app (l := [32]) ho8 (by simp [Lib.byteCells]) (by simp only [List.length_cons, List.length_nil]; omega)
        have hB8 : Below W3.heap.size W3 w8 := (hB5.alloc (by omega) _).grown hg8 (by simp; omega) (fun j hj => (ho7.lt j (by cases a6 <;> exact hj)).1)
        clear ho8 hg8
        go_wp2
        go_roundg g2
        case measure => omega
        case rel => exact ⟨k + 1, A ++ [32], by go_num, by omega, by rw [z3]; exact ho9, hB8, by (rw [List.length_append]; simp only [List.length_cons, List.length_nil]; omega), HA, by omega⟩
      · have hk4b : (tk == 4) = false := by rw [beq_eq_false_iff_ne]; exact hk4
        obtain ⟨y, hy⟩ : ∃ y, rp ⟨tk, tt, tv, tp⟩ = y := ⟨_, rfl⟩
        have hq : tt = y := by rw [← hy]; exact (if_neg hk4).symm
        rw [hy] at HP b1
        subst hq
        have hys : (⟨tt.toArray⟩ : ByteArray).size = tt.length := sz_list tt
        obtain ⟨X, hX⟩ : ∃ X : ByteArray, ⟨tt.toArray⟩ = X := ⟨_, rfl⟩
        have hXl : X.data.toList = tt := by rw [← hX]
        rw [hX] at m1 hys
        have hown4 := hown
        have hB4 := hB
        clear hy hX hk4
        go_wp2_with (at_builtin; refine Lib.wpList_append_own_string _ rfl _ _ 29 9 rfl W3.heap.size 5 i5 Try.underlying29 Try.underlying9 hi5 hy0 hy1 hy2 (.slice av acc.length cv) acc.length (Lib.byteCells acc) rfl hown4 _ rfl ?_ ?_ ?_ ?_)
        all_goals try (first
          | (rw [hys]; unfold maxLen; omega)
          | (rw [hys]; omega)
          | omega)
        intro v5 w5 ho5 hg5 _
        have ho6 := own_app ho5 (by rw [hys]) hXl
        have hB5 : Below W3.heap.size W3 w5 := hB4.grown hg5 (by omega) (fun k hk => (hown4.lt k hk).1)
        obtain ⟨a6, c6, rfl⟩ := slice_shape ho6
        have hz5 := hB5.size
        have ho7 : w5.ownsRow W3.heap.size 5 1 (.slice a6 (acc ++ tt).length c6) (acc ++ tt).length (Lib.byteCells (acc ++ tt)) := by rw [z3]; simpa using ho6
        obtain ⟨A, hA⟩ : ∃ A, acc ++ tt = A := ⟨_, rfl⟩
        have hAl : A.length = acc.length + tt.length := by rw [← hA, List.length_append]
        have HA : Hid (A ++ [32] = pln (ts.take (k + 1))) := by show _ = _; rw [← hA]; exact HP.out
        clear ho5 hg5 ho6 hown4
        rw [show (acc ++ tt).length = A.length from by rw [hA]] at *
        rw [hA] at ho7
        go_wp2_with (at_builtin; refine wpList_append_own _ rfl _ _ 29 rfl W3.heap.size 5 i5 (.int .u8 0) 1 1 Try.underlying29 hi5 hy0 hy1 hy2 rfl (by decide) (.slice a6 A.length c6) A.length (Lib.byteCells A) rfl (World.ownsRow.alloc ho7 _) ⟨w5.heap.size, 0, none⟩ 1 1 [.int .u8 32] rfl rfl ?_ ?_ ?_ ?_ ?_ ?_)
        all_goals try (first
          | rfl
          | (unfold maxLen; omega)
          | omega
          | (simp; omega)
          | (intro u hu; simp at hu; rcases hu with rfl <;> rfl)
          | (intro j u hj; match j, hj with | 0, hj => (simp at hj; subst hj; exact (new_cell w5 [.int .u8 32] 5 0 _ rfl).1)))
        intro v8 w8 ho8 hg8 _
        have ho9 := bc_app (l := [32]) ho8 (by simp [Lib.byteCells]) (by simp only [List.length_cons, List.length_nil]; omega)
        have hB8 : Below W3.heap.size W3 w8 := (hB5.alloc (by omega) _).grown hg8 (by simp; omega) (fun j hj => (ho7.lt j (by cases a6 <;> exact hj)).1)
        clear ho8 hg8
        go_wp2
        go_roundg g2
        case measure => omega
        case rel => exact ⟨k + 1, A ++ [32], by go_num, by omega, by rw [z3]; exact ho9, hB8, by (rw [List.length_append]; simp only [List.length_cons, List.length_nil]; omega), HA, by omega⟩
    · have hkk : k = n := by omega
      subst hkk
      have hT : acc = pln ts := by rw [hI.out, List.take_of_length_le (by rw [HN.out]; exact Nat.le_refl _)]
      have f1 := (hB.cell (p := ⟨w2.heap.size, 0, none⟩) (by show w2.heap.size < _; omega)).trans f0
      by_cases hbig : 20000 < acc.length
      · have g1 : (20000 : Int) < (acc.length : Int) := by omega
        have g2 : (0 : Int) < (k : Int) := by omega
        clear hT hI
        go_wp2
        go_ret
        exact ⟨ret_bool (decide_eq_true (by omega)), hB3.trans (hB.mono hz3)⟩
      · have g1 : (acc.length : Int) ≤ 20000 := by omega
        obtain ⟨e1, e2⟩ := scT_pln ts HM.out (by rw [← hT]; omega)
        rw [← hT] at e1 e2
        have CS2 := fun w => Scan_any ⟨acc.toArray⟩ w (by rw [sz_list]; omega)
        obtain ⟨R, hR⟩ : ∃ R, scT acc = R := ⟨_, rfl⟩
        have hR' : scT (⟨acc.toArray⟩ : ByteArray).data.toList = R := hR
        rw [hR'] at CS2
        rw [hR] at e1 e2
        obtain ⟨rs, c, p⟩ := R
        simp only [Prod.mk.injEq] at CS2 e1 e2
        obtain ⟨rfl, rfl⟩ := e1
        have hrl : rs.length = k := by
          have := congrArg List.length e2
          rw [List.length_map, List.length_map, HN.out] at this; exact this
        have HE : Hid (rs.map kTV = ts.map kTV) := e2
        rw [hrl] at CS2
        have hcv := conv_row hown
        obtain ⟨x, hx⟩ : ∃ x : ByteArray, ⟨acc.toArray⟩ = x := ⟨_, rfl⟩
        rw [hx] at CS2 hcv
        clear hT hI hR hR' e2 hx hbig
        go_wp2_with (go_at_call 5; refine (CS2 _).mono ?_; rintro e w4 ⟨v4, rfl, ho4, hb4⟩; obtain ⟨g', cap', rfl, hg1', hg2', hg3', hcs'⟩ := row_cells ho4 hn0)
        generalize hW5 : w4.alloc (.cells #[.int .i64 0, .int .i64 0] 26) = W5
        have z5 : W5.heap.size = w4.heap.size + 1 := by rw [← hW5]; simp
        have hB5 : Below W3.heap.size W3 W5 := by rw [← hW5]; exact (hB.trans (hb4.mono hzB)).alloc (Nat.le_trans hzB hb4.size) _
        have HD : Hid (∀ j u, (cellsT rs)[j]? = some u → W5.cell? ⟨g', j, none⟩ = some u) := fun j u hu => by rw [← hW5]; exact alloc_cell hg2' (hcs' _ _ hu) _
        have hgz' : g' < W5.heap.size := by omega
        have hz5 := hB5.size
        clear hcs' ho4 hb4 CS2 hW5
        go_loopg [10] (k + 1) (fun gf v10 wx => ∃ q : Nat, v10 = .int .i64 q ∧ Below W5.heap.size W5 wx ∧ q ≤ k ∧ k < q + gf)
        case atStart => exact ⟨0, rfl, Below.refl _ _, by omega, by omega⟩
        case round =>
          obtain ⟨q, rfl, hBq, hqn, hfq⟩ := hrel
          by_cases hlq : q < k
          · obtain ⟨g9, rfl⟩ : ∃ g9, gk = g9 + 1 := ⟨gk - 1, by omega⟩
            obtain ⟨t, ht⟩ : ∃ t, ts[q]? = some t := ⟨ts[q]'(by rw [HN.out]; exact hlq), by simp⟩
            obtain ⟨u, hu, u1, u2, u3⟩ := kTV_at rs ts HE.out q t ht
            obtain ⟨c0, c1, c2⟩ := HC.out q t ht
            have m0 := (hBq.cell (p := ⟨g, q * 4, none⟩) (by show g < _; omega)).trans ((hB5.cell (p := ⟨g, q * 4, none⟩) hgz).trans c0)
            have m1 := (hBq.cell (p := ⟨g, q * 4 + 1, none⟩) (by show g < _; omega)).trans ((hB5.cell (p := ⟨g, q * 4 + 1, none⟩) hgz).trans c1)
            have m2 := (hBq.cell (p := ⟨g, q * 4 + 2, none⟩) (by show g < _; omega)).trans ((hB5.cell (p := ⟨g, q * 4 + 2, none⟩) hgz).trans c2)
            have n0 := (hBq.cell (p := ⟨g', q * 4, none⟩) hgz').trans (HD.out _ _ ((cellsT_at rs q 0 u hu (by omega)).trans rfl))
            have n1 := (hBq.cell (p := ⟨g', q * 4 + 1, none⟩) hgz').trans (HD.out _ _ ((cellsT_at rs q 1 u hu (by omega)).trans rfl))
            have n2 := (hBq.cell (p := ⟨g', q * 4 + 2, none⟩) hgz').trans (HD.out _ _ ((cellsT_at rs q 2 u hu (by omega)).trans rfl))
            rw [u1] at n0
            rw [u2] at n1
            rw [u3] at n2
            obtain ⟨tk, tt, tv, tp⟩ := t
            simp only at m0 m1 m2 n0 n1 n2
            obtain ⟨X, hX⟩ : ∃ X : ByteArray, ⟨tt.toArray⟩ = X := ⟨_, rfl⟩
            rw [hX] at m1 n1
            clear ht hX hu u1 u2 u3 c0 c1 c2
            go_wp2_with fail
            go_quiet (fail)
            go_wp2
            go_roundg g9
            case measure => omega
            case rel => exact ⟨q + 1, by go_num, hBq.trans (bdrewN _ _ _), by omega, by omega⟩
          · go_wp2
            go_ret
            exact ⟨rfl, (hB3.trans (hB5.mono hz3)).trans (hBq.mono (Nat.le_trans hz3 hz5))⟩

theorem plain_walk (s : ByteArray) (w : World) (hs : s.size ≤ maxLen) : Calls Try.prog 3 #[.string s] w fun e w' => e = .returned (.bool true) ∧ Below w.heap.size w w' := by
  have hs' : s.size ≤ 9223372036854775807 := by unfold maxLen at hs; omega
  by_cases hc : (scT s.data.toList).2.1 = 0
  · exact plain_ok s w hs' hc
  · exact plain_bad s w hs' hc

end Go.Proofs.Ytgjeiepcbenejab
