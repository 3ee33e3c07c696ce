/- The walk of the law UtflibParts. -/
import Derived.Test.YtbgbhogcjaodkaaCg16
namespace Go.Proofs.Ytbgbhogcjaodkaa
open Go.RowKit

theorem badOf_ok {l : List Rn} (h : ∀ r ∈ l, okR r) : badOf l < 0 := by
  unfold badOf
  cases hf : l.find? isBad with
  | none => simp
  | some x =>
    have h1 := List.find?_some hf
    have h2 := h x (List.mem_of_find?_eq_some hf)
    unfold isBad at h1
    unfold okR at h2
    simp at h1
    exact absurd h1 h2
theorem rest_mem {x : ByteArray} : ∀ (l : List Rn) (p : Nat), rest x p = l → ∀ r ∈ l, r.1 < x.size ∧ r.2.1 = wd x r.1 ∧ r.2.2 = rn x r.1
  | [], _, _, r, hr => by cases hr
  | a :: l, p, h, r, hr => by
    have hp : p < x.size := Nat.lt_of_not_le fun q => by rw [rest_end x p (by omega)] at h; cases h
    rw [rest_at x p hp] at h
    obtain ⟨rfl, h2⟩ := List.cons.inj h
    rcases List.mem_cons.1 hr with rfl | q
    · exact ⟨hp, rfl, rfl⟩
    · exact rest_mem l _ h2 r q
theorem pos_before {x : ByteArray} {A B : List Rn} {r : Rn} (h : rest x 0 = A ++ r :: B) : ∀ a ∈ A, a.1 < r.1 := by
  intro a ha
  obtain ⟨A1, A2, rfl⟩ := List.append_of_mem ha
  have h1 : rest x 0 = A1 ++ a :: (A2 ++ r :: B) := by rw [h]; simp
  have e1 := en_at x A1 _ a 0 h1
  have e2 := en_at x (A1 ++ a :: A2) B r 0 h
  rw [en_app] at e2
  have h2 : en (en 0 A1) (a :: A2) = en (en 0 A1 + a.2.1) A2 := rfl
  have h3 := en_ge A2 (en 0 A1 + a.2.1)
  have h4 := (rest_mem _ 0 rfl a (by rw [h1]; simp)).2.1
  have h5 := wd_pos x a.1
  omega
theorem take_all {α : Type} (p : α → Bool) : ∀ l : List α, (∀ a ∈ l, p a = true) → l.takeWhile p = l
  | [], _ => rfl
  | a :: l, h => by rw [List.takeWhile_cons, if_pos (h a (List.mem_cons_self ..)), take_all p l (fun b hb => h b (List.mem_cons_of_mem _ hb))]
theorem bw_all (x : ByteArray) (p : Nat) : bw x p x.size = rest x p := by
  unfold bw
  refine take_all _ _ fun r hr => ?_
  have := (rest_mem _ p rfl r hr).1
  rw [decide_eq_true]; omega
theorem bw_upto {x : ByteArray} {A B : List Rn} {r : Rn} (h : rest x 0 = A ++ r :: B) : bw x 0 (r.1 : Int) = A := by
  unfold bw
  rw [h, List.takeWhile_append_of_pos (fun a ha => by have := pos_before h a ha; rw [decide_eq_true]; omega), List.takeWhile_cons, if_neg (by simp; omega)]
  simp
theorem split_at (l : List Rn) (q : Nat) (h : q < l.length) : l = l.take q ++ l[q] :: l.drop (q + 1) := by
  rw [List.getElem_cons_drop, List.take_append_drop]
theorem mt_in {n : Nat} {i : Int} (h : 0 ≤ i) : mt n i = i := if_pos h
theorem mt_neg {n : Nat} {i : Int} (h : i < 0) (h' : -(n : Int) ≤ i) : mt n i = (n : Int) + 1 + i := by unfold mt; rw [if_neg (by omega), if_pos h']
theorem lenA_ok {l : List Rn} (h : ∀ r ∈ l, okR r) : lenA l = ((l.length : Int), 0) := if_pos (badOf_ok h)
theorem len_0 {x : ByteArray} : lenR x 1 0 = (0, 0, 0) := by
  unfold lenR
  rw [mt_in (by omega), mt_in (by omega), if_neg (by omega), show (1 : Int).toNat - 1 = 0 by omega, bw_stop (by omega)]
  rfl
theorem len_1 {x : ByteArray} (hg : Good x 0) {q : Nat} (hq : q < (rest x 0).length) : lenR x 1 ((rest x 0)[q].1 : Int) = ((q : Int), 0, 0) := by
  have hs := split_at _ q hq
  have hm := (rest_mem _ 0 rfl _ (List.getElem_mem hq)).1
  unfold lenR
  rw [mt_in (by omega), mt_in (by omega), if_neg (by omega), show (1 : Int).toNat - 1 = 0 by omega, bw_upto hs, lenA_ok (fun r hr => hg r (List.mem_of_mem_take hr)), List.length_take]
  rw [Nat.min_eq_left (by omega)]
theorem rest_from {x : ByteArray} {q : Nat} (hq : q < (rest x 0).length) : rest x (rest x 0)[q].1 = (rest x 0).drop q := by
  have hs := split_at _ q hq
  have e := en_at x _ _ _ 0 hs
  rw [e, ← rest_en x _ _ 0 hs]
  exact List.getElem_cons_drop ..
theorem len_2 {x : ByteArray} (hg : Good x 0) {q : Nat} (hq : q < (rest x 0).length) {i j : Int} (hi : mt x.size i = ((rest x 0)[q].1 : Int) + 1) (hj : mt x.size j = x.size) : lenR x i j = ((((rest x 0).length - q : Nat) : Int), 0, 0) := by
  have hm := (rest_mem _ 0 rfl _ (List.getElem_mem hq)).1
  unfold lenR
  rw [hi, hj, if_neg (by omega), show (((rest x 0)[q].1 : Int) + 1).toNat - 1 = (rest x 0)[q].1 by omega, bw_all, rest_from hq, lenA_ok (fun r hr => hg r (List.mem_of_mem_drop hr)), List.length_drop]
theorem part_num (k : Int) (n : Nat) (h0 : 0 < n) (hn : n ≤ 300) : ∃ U q : Nat, q < n ∧ Hid (IntKind.u64.wrap k = (U : Int) ∧ IntKind.u64.wrap (n : Int) = (n : Int) ∧ Int.tmod (U : Int) (n : Int) = (q : Int) ∧ IntKind.u64.wrap (q : Int) = (q : Int) ∧ IntKind.i64.wrap (q : Int) = (q : Int) ∧ ((n : Int) == 0) = false) := by
  have hU : 0 ≤ IntKind.u64.wrap k := by rw [IntKind.wrap_u64]; omega
  have hlt := Nat.mod_lt (IntKind.u64.wrap k).toNat h0
  refine ⟨(IntKind.u64.wrap k).toNat, (IntKind.u64.wrap k).toNat % n, hlt, show _ ∧ _ from ⟨by omega, wrap_smallU (by omega) (by omega), ?_, ?_, ?_, ?_⟩⟩
  · rw [Int.tmod_eq_emod_of_nonneg (by omega)]; rfl
  all_goals generalize (IntKind.u64.wrap k).toNat % n = q at hlt
  · exact wrap_smallU (by omega) (by omega)
  · exact wrap_small (by omega) (by omega)
  · simp; omega
set_option maxRecDepth 20000 in
set_option maxHeartbeats 2000000 in
theorem parts_0 (s : ByteArray) (k : Int) (w : World) (h300 : s.size ≤ 300) (hbd : badOf (rest s 0) < 0) (hg : Good s 0) (_hx : s.size ≤ 300) :
    Calls Try.prog 8 #[.string s, .int .i64 k] w fun e w' => e = .returned (.bool true) ∧ Below w.heap.size w w' := by
  have C0 := fixed_any
  have h3 : ¬ (300 : Int) < (s.size : Int) := by omega
  have C1 := fun W => rbad_any s W (by omega)
  obtain ⟨Bd, hBd⟩ : ∃ Bd, badOf (rest s 0) = Bd := ⟨_, rfl⟩
  rw [hBd] at C1 hbd
  have hK0 : ¬ (0 : Int) ≤ Bd := by omega
  clear hBd

  have C2 := fun W => rlist_any s W (by omega)
  have CL : ∀ i j W, -9223372036854775808 ≤ i → i ≤ 9223372036854775807 → -9223372036854775808 ≤ j → j ≤ 9223372036854775807 → Calls Try.prog 9 #[.string s, .int .i64 i, .int .i64 j] W fun e w' => e = .returned (.tuple #[.int .i64 (lenR s i j).1, .int .i64 (lenR s i j).2.1, .int .i64 (lenR s i j).2.2]) ∧ Below W.heap.size W w' := fun i j W a b c d => len_any s i j W (by omega) a b c d
  have hml := rest_le s
  have HB : Hid (Below w.heap.size w w) := Below.refl _ _
  by_cases h0 : (rest s 0).length = 0
  · have O1 := fun W => CL 1 0 W (by omega) (by omega) (by omega) (by omega)
    rw [len_0] at O1
    rw [h0] at C2
    clear CL hml hg
    go_enter Try.func8, Try.ntmps8
    go_wp2_with (first
      | (go_at_call 13; refine (C0 _).mono ?_; rintro e w1 ⟨rfl, h1⟩; have HB : Hid (Below w.heap.size w w1) := (bthen HB.out HB.out.size h1))
      | (go_at_call 21; refine (C1 _).mono ?_; rintro e w1 ⟨rfl, h1⟩; have HB : Hid (Below w.heap.size w w1) := (bthen HB.out HB.out.size h1))
      | (go_at_call 24; refine (C2 _).mono ?_; rintro e w1 ⟨v, rfl, hr1, h1⟩; have HB : Hid (Below w.heap.size w w1) := (bthen HB.out HB.out.size h1); obtain ⟨o, cp, rfl⟩ := slice_of hr1)
      | (go_at_call 9; refine (O1 _).mono ?_; rintro e w1 ⟨rfl, h1⟩; have HB : Hid (Below w.heap.size w w1) := (bthen HB.out HB.out.size h1)))
    go_ret
    exact ⟨rfl, HB.out⟩
  · obtain ⟨U, q, hlt, HN⟩ := part_num k (rest s 0).length (by omega) (by omega)
    have hm := (rest_mem _ 0 rfl _ (List.getElem_mem hlt)).1
    have cg := (cells_get (rest s 0) q hlt).1
    have F1 := len_1 hg hlt
    have F2 := len_2 hg hlt (i := ((rest s 0)[q].1 : Int) + 1) (j := (s.size : Int)) (mt_in (by omega)) (mt_in (by omega))
    have F3 := len_2 hg hlt (i := ((rest s 0)[q].1 : Int) - (s.size : Int)) (j := -1) (by rw [mt_neg (by omega) (by omega)]; omega) (by rw [mt_neg (by omega) (by omega)]; omega)
    generalize (rest s 0)[q].1 = p at *
    have O1 := fun W => CL 1 (p : Int) W (by omega) (by omega) (by omega) (by omega)
    have O2 := fun W => CL ((p : Int) + 1) (s.size : Int) W (by omega) (by omega) (by omega) (by omega)
    have O3 := fun W => CL ((p : Int) - (s.size : Int)) (-1) W (by omega) (by omega) (by omega) (by omega)
    rw [F1] at O1
    rw [F2] at O2
    rw [F3] at O3
    have H8 : Hid (IntKind.i64.wrap ((p : Int) + 1) = (p : Int) + 1 ∧ IntKind.i64.wrap ((p : Int) + 1 - 1) = (p : Int) ∧ IntKind.i64.wrap ((p : Int) + 1 - (s.size : Int)) = (p : Int) + 1 - (s.size : Int) ∧ IntKind.i64.wrap ((p : Int) + 1 - (s.size : Int) - 1) = (p : Int) - (s.size : Int) ∧ IntKind.i64.wrap ((q : Int) + (((rest s 0).length - q : Nat) : Int)) = ((rest s 0).length : Int)) := ⟨wrap_small (by omega) (by omega), by rw [wrap_small (by omega) (by omega)]; omega, wrap_small (by omega) (by omega), by rw [wrap_small (by omega) (by omega)]; omega, by rw [wrap_small (by omega) (by omega)]; omega⟩
    have hqn : (q : Int) < ((rest s 0).length : Int) := by omega
    have hn0 : 0 < (rest s 0).length := by omega
    have HQ : Hid (0 ≤ q) := Nat.zero_le _
    clear CL F1 F2 F3 hg hlt
    obtain ⟨n, hn⟩ : ∃ n, (rest s 0).length = n := ⟨_, rfl⟩
    rw [hn] at C2 O2 O3 H8 HN hqn hn0
    clear hn h0 hml
    generalize cellsOf (rest s 0) = CE at *
    obtain ⟨hU, w2, w3, w4, w5, hq0⟩ := HN.out
    obtain ⟨v1, v2, v3, v4, v5⟩ := H8.out
    generalize ((n - q : Nat) : Int) = D at *
    go_enter Try.func8, Try.ntmps8
    go_wp2_with (first
      | (go_at_call 13; refine (C0 _).mono ?_; rintro e w1 ⟨rfl, h1⟩; have HB : Hid (Below w.heap.size w w1) := (bthen HB.out HB.out.size h1))
      | (go_at_call 21; refine (C1 _).mono ?_; rintro e w1 ⟨rfl, h1⟩; have HB : Hid (Below w.heap.size w w1) := (bthen HB.out HB.out.size h1))
      | (go_at_call 24; refine (C2 _).mono ?_; rintro e w1 ⟨v, rfl, hr1, h1⟩; have HB : Hid (Below w.heap.size w w1) := (bthen HB.out HB.out.size h1); obtain ⟨g, cap, rfl, hg1, hg2, hcap, hcell⟩ := row_cells hr1 (by omega); have d1 := hcell _ _ cg; clear hcell hr1))
    refine (O1 _).mono ?_
    rintro e wx ⟨rfl, hx1⟩
    have HB : Hid (Below w.heap.size w wx) := bthen HB.out HB.out.size hx1
    go_wp2_with fail
    refine (O2 _).mono ?_
    rintro e wy ⟨rfl, hx2⟩
    have HB : Hid (Below w.heap.size w wy) := bthen HB.out HB.out.size hx2
    go_wp2_with fail
    refine (O3 _).mono ?_
    rintro e wz ⟨rfl, hx3⟩
    have HB : Hid (Below w.heap.size w wz) := bthen HB.out HB.out.size hx3
    go_wp2
    go_ret
    exact ⟨rfl, HB.out⟩
set_option maxRecDepth 20000 in
set_option maxHeartbeats 2000000 in
theorem parts_1 (s : ByteArray) (k : Int) (w : World) (h300 : s.size ≤ 300) (K : Nat) (hK : badOf (rest s 0) = (K : Int)) (hg : Good (s.extract 0 K) 0) (hx : (s.extract 0 K).size ≤ 300) :
    Calls Try.prog 8 #[.string s, .int .i64 k] w fun e w' => e = .returned (.bool true) ∧ Below w.heap.size w w' := by
  have C0 := fixed_any
  have h3 : ¬ (300 : Int) < (s.size : Int) := by omega
  have C1 := fun W => rbad_any s W (by omega)
  rw [hK] at C1
  have hKs : (K : Int) ≤ (s.size : Int) := by have := (good_cut hK).2; omega
  have hK0 : (0 : Int) ≤ (K : Int) := by omega
  obtain ⟨x, hxe⟩ : ∃ x, s.extract 0 K = x := ⟨_, rfl⟩
  rw [hxe] at hg hx
  have C2 := fun W => rlist_any x W (by omega)
  have CL : ∀ i j W, -9223372036854775808 ≤ i → i ≤ 9223372036854775807 → -9223372036854775808 ≤ j → j ≤ 9223372036854775807 → Calls Try.prog 9 #[.string x, .int .i64 i, .int .i64 j] W fun e w' => e = .returned (.tuple #[.int .i64 (lenR x i j).1, .int .i64 (lenR x i j).2.1, .int .i64 (lenR x i j).2.2]) ∧ Below W.heap.size W w' := fun i j W a b c d => len_any x i j W (by omega) a b c d
  have hml := rest_le x
  have HB : Hid (Below w.heap.size w w) := Below.refl _ _
  by_cases h0 : (rest x 0).length = 0
  · have O1 := fun W => CL 1 0 W (by omega) (by omega) (by omega) (by omega)
    rw [len_0] at O1
    rw [h0] at C2
    clear CL hml hg
    go_enter Try.func8, Try.ntmps8
    go_wp2_with (first
      | (go_at_call 13; refine (C0 _).mono ?_; rintro e w1 ⟨rfl, h1⟩; have HB : Hid (Below w.heap.size w w1) := (bthen HB.out HB.out.size h1))
      | (go_at_call 21; refine (C1 _).mono ?_; rintro e w1 ⟨rfl, h1⟩; have HB : Hid (Below w.heap.size w w1) := (bthen HB.out HB.out.size h1))
      | (go_at_call 24; refine (C2 _).mono ?_; rintro e w1 ⟨v, rfl, hr1, h1⟩; have HB : Hid (Below w.heap.size w w1) := (bthen HB.out HB.out.size h1); obtain ⟨o, cp, rfl⟩ := slice_of hr1)
      | (go_at_call 9; refine (O1 _).mono ?_; rintro e w1 ⟨rfl, h1⟩; have HB : Hid (Below w.heap.size w w1) := (bthen HB.out HB.out.size h1)))
    go_ret
    exact ⟨rfl, HB.out⟩
  · obtain ⟨U, q, hlt, HN⟩ := part_num k (rest x 0).length (by omega) (by omega)
    have hm := (rest_mem _ 0 rfl _ (List.getElem_mem hlt)).1
    have cg := (cells_get (rest x 0) q hlt).1
    have F1 := len_1 hg hlt
    have F2 := len_2 hg hlt (i := ((rest x 0)[q].1 : Int) + 1) (j := (x.size : Int)) (mt_in (by omega)) (mt_in (by omega))
    have F3 := len_2 hg hlt (i := ((rest x 0)[q].1 : Int) - (x.size : Int)) (j := -1) (by rw [mt_neg (by omega) (by omega)]; omega) (by rw [mt_neg (by omega) (by omega)]; omega)
    generalize (rest x 0)[q].1 = p at *
    have O1 := fun W => CL 1 (p : Int) W (by omega) (by omega) (by omega) (by omega)
    have O2 := fun W => CL ((p : Int) + 1) (x.size : Int) W (by omega) (by omega) (by omega) (by omega)
    have O3 := fun W => CL ((p : Int) - (x.size : Int)) (-1) W (by omega) (by omega) (by omega) (by omega)
    rw [F1] at O1
    rw [F2] at O2
    rw [F3] at O3
    have H8 : Hid (IntKind.i64.wrap ((p : Int) + 1) = (p : Int) + 1 ∧ IntKind.i64.wrap ((p : Int) + 1 - 1) = (p : Int) ∧ IntKind.i64.wrap ((p : Int) + 1 - (x.size : Int)) = (p : Int) + 1 - (x.size : Int) ∧ IntKind.i64.wrap ((p : Int) + 1 - (x.size : Int) - 1) = (p : Int) - (x.size : Int) ∧ IntKind.i64.wrap ((q : Int) + (((rest x 0).length - q : Nat) : Int)) = ((rest x 0).length : Int)) := ⟨wrap_small (by omega) (by omega), by rw [wrap_small (by omega) (by omega)]; omega, wrap_small (by omega) (by omega), by rw [wrap_small (by omega) (by omega)]; omega, by rw [wrap_small (by omega) (by omega)]; omega⟩
    have hqn : (q : Int) < ((rest x 0).length : Int) := by omega
    have hn0 : 0 < (rest x 0).length := by omega
    have HQ : Hid (0 ≤ q) := Nat.zero_le _
    clear CL F1 F2 F3 hg hlt
    obtain ⟨n, hn⟩ : ∃ n, (rest x 0).length = n := ⟨_, rfl⟩
    rw [hn] at C2 O2 O3 H8 HN hqn hn0
    clear hn h0 hml
    generalize cellsOf (rest x 0) = CE at *
    obtain ⟨hU, w2, w3, w4, w5, hq0⟩ := HN.out
    obtain ⟨v1, v2, v3, v4, v5⟩ := H8.out
    generalize ((n - q : Nat) : Int) = D at *
    go_enter Try.func8, Try.ntmps8
    go_wp2_with (first
      | (go_at_call 13; refine (C0 _).mono ?_; rintro e w1 ⟨rfl, h1⟩; have HB : Hid (Below w.heap.size w w1) := (bthen HB.out HB.out.size h1))
      | (go_at_call 21; refine (C1 _).mono ?_; rintro e w1 ⟨rfl, h1⟩; have HB : Hid (Below w.heap.size w w1) := (bthen HB.out HB.out.size h1))
      | (go_at_call 24; refine (C2 _).mono ?_; rintro e w1 ⟨v, rfl, hr1, h1⟩; have HB : Hid (Below w.heap.size w w1) := (bthen HB.out HB.out.size h1); obtain ⟨g, cap, rfl, hg1, hg2, hcap, hcell⟩ := row_cells hr1 (by omega); have d1 := hcell _ _ cg; clear hcell hr1))
    refine (O1 _).mono ?_
    rintro e wx ⟨rfl, hx1⟩
    have HB : Hid (Below w.heap.size w wx) := bthen HB.out HB.out.size hx1
    go_wp2_with fail
    refine (O2 _).mono ?_
    rintro e wy ⟨rfl, hx2⟩
    have HB : Hid (Below w.heap.size w wy) := bthen HB.out HB.out.size hx2
    go_wp2_with fail
    refine (O3 _).mono ?_
    rintro e wz ⟨rfl, hx3⟩
    have HB : Hid (Below w.heap.size w wz) := bthen HB.out HB.out.size hx3
    go_wp2
    go_ret
    exact ⟨rfl, HB.out⟩
set_option maxRecDepth 20000 in
set_option maxHeartbeats 2000000 in
theorem parts_2 (s : ByteArray) (k : Int) (w : World) (h300 : 300 < s.size) (hbd : badOf (rest (s.extract 0 300) 0) < 0) (hg : Good (s.extract 0 300) 0) (hx : (s.extract 0 300).size ≤ 300) :
    Calls Try.prog 8 #[.string s, .int .i64 k] w fun e w' => e = .returned (.bool true) ∧ Below w.heap.size w w' := by
  have C0 := fixed_any
  have h3 : (300 : Int) < (s.size : Int) := by omega
  have C1 := fun W => rbad_any (s.extract 0 300) W (by simp [ByteArray.size_extract]; omega)
  obtain ⟨Bd, hBd⟩ : ∃ Bd, badOf (rest (s.extract 0 300) 0) = Bd := ⟨_, rfl⟩
  rw [hBd] at C1 hbd
  have hK0 : ¬ (0 : Int) ≤ Bd := by omega
  clear hBd
  obtain ⟨y, hy⟩ : ∃ y, s.extract 0 300 = y := ⟨_, rfl⟩
  rw [hy] at C1 hg hx
  have C2 := fun W => rlist_any y W (by omega)
  have CL : ∀ i j W, -9223372036854775808 ≤ i → i ≤ 9223372036854775807 → -9223372036854775808 ≤ j → j ≤ 9223372036854775807 → Calls Try.prog 9 #[.string y, .int .i64 i, .int .i64 j] W fun e w' => e = .returned (.tuple #[.int .i64 (lenR y i j).1, .int .i64 (lenR y i j).2.1, .int .i64 (lenR y i j).2.2]) ∧ Below W.heap.size W w' := fun i j W a b c d => len_any y i j W (by omega) a b c d
  have hml := rest_le y
  have HB : Hid (Below w.heap.size w w) := Below.refl _ _
  by_cases h0 : (rest y 0).length = 0
  · have O1 := fun W => CL 1 0 W (by omega) (by omega) (by omega) (by omega)
    rw [len_0] at O1
    rw [h0] at C2
    clear CL hml hg
    go_enter Try.func8, Try.ntmps8
    go_wp2_with (first
      | (go_at_call 13; refine (C0 _).mono ?_; rintro e w1 ⟨rfl, h1⟩; have HB : Hid (Below w.heap.size w w1) := (bthen HB.out HB.out.size h1))
      | (go_at_call 21; refine (C1 _).mono ?_; rintro e w1 ⟨rfl, h1⟩; have HB : Hid (Below w.heap.size w w1) := (bthen HB.out HB.out.size h1))
      | (go_at_call 24; refine (C2 _).mono ?_; rintro e w1 ⟨v, rfl, hr1, h1⟩; have HB : Hid (Below w.heap.size w w1) := (bthen HB.out HB.out.size h1); obtain ⟨o, cp, rfl⟩ := slice_of hr1)
      | (go_at_call 9; refine (O1 _).mono ?_; rintro e w1 ⟨rfl, h1⟩; have HB : Hid (Below w.heap.size w w1) := (bthen HB.out HB.out.size h1)))
    go_ret
    exact ⟨rfl, HB.out⟩
  · obtain ⟨U, q, hlt, HN⟩ := part_num k (rest y 0).length (by omega) (by omega)
    have hm := (rest_mem _ 0 rfl _ (List.getElem_mem hlt)).1
    have cg := (cells_get (rest y 0) q hlt).1
    have F1 := len_1 hg hlt
    have F2 := len_2 hg hlt (i := ((rest y 0)[q].1 : Int) + 1) (j := (y.size : Int)) (mt_in (by omega)) (mt_in (by omega))
    have F3 := len_2 hg hlt (i := ((rest y 0)[q].1 : Int) - (y.size : Int)) (j := -1) (by rw [mt_neg (by omega) (by omega)]; omega) (by rw [mt_neg (by omega) (by omega)]; omega)
    generalize (rest y 0)[q].1 = p at *
    have O1 := fun W => CL 1 (p : Int) W (by omega) (by omega) (by omega) (by omega)
    have O2 := fun W => CL ((p : Int) + 1) (y.size : Int) W (by omega) (by omega) (by omega) (by omega)
    have O3 := fun W => CL ((p : Int) - (y.size : Int)) (-1) W (by omega) (by omega) (by omega) (by omega)
    rw [F1] at O1
    rw [F2] at O2
    rw [F3] at O3
    have H8 : Hid (IntKind.i64.wrap ((p : Int) + 1) = (p : Int) + 1 ∧ IntKind.i64.wrap ((p : Int) + 1 - 1) = (p : Int) ∧ IntKind.i64.wrap ((p : Int) + 1 - (y.size : Int)) = (p : Int) + 1 - (y.size : Int) ∧ IntKind.i64.wrap ((p : Int) + 1 - (y.size : Int) - 1) = (p : Int) - (y.size : Int) ∧ IntKind.i64.wrap ((q : Int) + (((rest y 0).length - q : Nat) : Int)) = ((rest y 0).length : Int)) := ⟨wrap_small (by omega) (by omega), by rw [wrap_small (by omega) (by omega)]; omega, wrap_small (by omega) (by omega), by rw [wrap_small (by omega) (by omega)]; omega, by rw [wrap_small (by omega) (by omega)]; omega⟩
    have hqn : (q : Int) < ((rest y 0).length : Int) := by omega
    have hn0 : 0 < (rest y 0).length := by omega
    have HQ : Hid (0 ≤ q) := Nat.zero_le _
    clear CL F1 F2 F3 hg hlt
    obtain ⟨n, hn⟩ : ∃ n, (rest y 0).length = n := ⟨_, rfl⟩
    rw [hn] at C2 O2 O3 H8 HN hqn hn0
    clear hn h0 hml
    generalize cellsOf (rest y 0) = CE at *
    obtain ⟨hU, w2, w3, w4, w5, hq0⟩ := HN.out
    obtain ⟨v1, v2, v3, v4, v5⟩ := H8.out
    generalize ((n - q : Nat) : Int) = D at *
    go_enter Try.func8, Try.ntmps8
    go_wp2_with (first
      | (go_at_call 13; refine (C0 _).mono ?_; rintro e w1 ⟨rfl, h1⟩; have HB : Hid (Below w.heap.size w w1) := (bthen HB.out HB.out.size h1))
      | (go_at_call 21; refine (C1 _).mono ?_; rintro e w1 ⟨rfl, h1⟩; have HB : Hid (Below w.heap.size w w1) := (bthen HB.out HB.out.size h1))
      | (go_at_call 24; refine (C2 _).mono ?_; rintro e w1 ⟨v, rfl, hr1, h1⟩; have HB : Hid (Below w.heap.size w w1) := (bthen HB.out HB.out.size h1); obtain ⟨g, cap, rfl, hg1, hg2, hcap, hcell⟩ := row_cells hr1 (by omega); have d1 := hcell _ _ cg; clear hcell hr1))
    refine (O1 _).mono ?_
    rintro e wx ⟨rfl, hx1⟩
    have HB : Hid (Below w.heap.size w wx) := bthen HB.out HB.out.size hx1
    go_wp2_with fail
    refine (O2 _).mono ?_
    rintro e wy ⟨rfl, hx2⟩
    have HB : Hid (Below w.heap.size w wy) := bthen HB.out HB.out.size hx2
    go_wp2_with fail
    refine (O3 _).mono ?_
    rintro e wz ⟨rfl, hx3⟩
    have HB : Hid (Below w.heap.size w wz) := bthen HB.out HB.out.size hx3
    go_wp2
    go_ret
    exact ⟨rfl, HB.out⟩
set_option maxRecDepth 20000 in
set_option maxHeartbeats 2000000 in
theorem parts_3 (s : ByteArray) (k : Int) (w : World) (h300 : 300 < s.size) (K : Nat) (hK : badOf (rest (s.extract 0 300) 0) = (K : Int)) (hg : Good ((s.extract 0 300).extract 0 K) 0) (hx : ((s.extract 0 300).extract 0 K).size ≤ 300) :
    Calls Try.prog 8 #[.string s, .int .i64 k] w fun e w' => e = .returned (.bool true) ∧ Below w.heap.size w w' := by
  have C0 := fixed_any
  have h3 : (300 : Int) < (s.size : Int) := by omega
  have C1 := fun W => rbad_any (s.extract 0 300) W (by simp [ByteArray.size_extract]; omega)
  rw [hK] at C1
  have hKs : (K : Int) ≤ ((s.extract 0 300).size : Int) := by have := (good_cut hK).2; omega
  have hK0 : (0 : Int) ≤ (K : Int) := by omega
  obtain ⟨y, hy⟩ : ∃ y, s.extract 0 300 = y := ⟨_, rfl⟩
  rw [hy] at C1 hg hx hKs
  clear hK
  obtain ⟨x, hxe⟩ : ∃ x, y.extract 0 K = x := ⟨_, rfl⟩
  rw [hxe] at hg hx
  have C2 := fun W => rlist_any x W (by omega)
  have CL : ∀ i j W, -9223372036854775808 ≤ i → i ≤ 9223372036854775807 → -9223372036854775808 ≤ j → j ≤ 9223372036854775807 → Calls Try.prog 9 #[.string x, .int .i64 i, .int .i64 j] W fun e w' => e = .returned (.tuple #[.int .i64 (lenR x i j).1, .int .i64 (lenR x i j).2.1, .int .i64 (lenR x i j).2.2]) ∧ Below W.heap.size W w' := fun i j W a b c d => len_any x i j W (by omega) a b c d
  have hml := rest_le x
  have HB : Hid (Below w.heap.size w w) := Below.refl _ _
  by_cases h0 : (rest x 0).length = 0
  · have O1 := fun W => CL 1 0 W (by omega) (by omega) (by omega) (by omega)
    rw [len_0] at O1
    rw [h0] at C2
    clear CL hml hg
    go_enter Try.func8, Try.ntmps8
    go_wp2_with (first
      | (go_at_call 13; refine (C0 _).mono ?_; rintro e w1 ⟨rfl, h1⟩; have HB : Hid (Below w.heap.size w w1) := (bthen HB.out HB.out.size h1))
      | (go_at_call 21; refine (C1 _).mono ?_; rintro e w1 ⟨rfl, h1⟩; have HB : Hid (Below w.heap.size w w1) := (bthen HB.out HB.out.size h1))
      | (go_at_call 24; refine (C2 _).mono ?_; rintro e w1 ⟨v, rfl, hr1, h1⟩; have HB : Hid (Below w.heap.size w w1) := (bthen HB.out HB.out.size h1); obtain ⟨o, cp, rfl⟩ := slice_of hr1)
      | (go_at_call 9; refine (O1 _).mono ?_; rintro e w1 ⟨rfl, h1⟩; have HB : Hid (Below w.heap.size w w1) := (bthen HB.out HB.out.size h1)))
    go_ret
    exact ⟨rfl, HB.out⟩
  · obtain ⟨U, q, hlt, HN⟩ := part_num k (rest x 0).length (by omega) (by omega)
    have hm := (rest_mem _ 0 rfl _ (List.getElem_mem hlt)).1
    have cg := (cells_get (rest x 0) q hlt).1
    have F1 := len_1 hg hlt
    have F2 := len_2 hg hlt (i := ((rest x 0)[q].1 : Int) + 1) (j := (x.size : Int)) (mt_in (by omega)) (mt_in (by omega))
    have F3 := len_2 hg hlt (i := ((rest x 0)[q].1 : Int) - (x.size : Int)) (j := -1) (by rw [mt_neg (by omega) (by omega)]; omega) (by rw [mt_neg (by omega) (by omega)]; omega)
    generalize (rest x 0)[q].1 = p at *
    have O1 := fun W => CL 1 (p : Int) W (by omega) (by omega) (by omega) (by omega)
    have O2 := fun W => CL ((p : Int) + 1) (x.size : Int) W (by omega) (by omega) (by omega) (by omega)
    have O3 := fun W => CL ((p : Int) - (x.size : Int)) (-1) W (by omega) (by omega) (by omega) (by omega)
    rw [F1] at O1
    rw [F2] at O2
    rw [F3] at O3
    have H8 : Hid (IntKind.i64.wrap ((p : Int) + 1) = (p : Int) + 1 ∧ IntKind.i64.wrap ((p : Int) + 1 - 1) = (p : Int) ∧ IntKind.i64.wrap ((p : Int) + 1 - (x.size : Int)) = (p : Int) + 1 - (x.size : Int) ∧ IntKind.i64.wrap ((p : Int) + 1 - (x.size : Int) - 1) = (p : Int) - (x.size : Int) ∧ IntKind.i64.wrap ((q : Int) + (((rest x 0).length - q : Nat) : Int)) = ((rest x 0).length : Int)) := ⟨wrap_small (by omega) (by omega), by rw [wrap_small (by omega) (by omega)]; omega, wrap_small (by omega) (by omega), by rw [wrap_small (by omega) (by omega)]; omega, by rw [wrap_small (by omega) (by omega)]; omega⟩
    have hqn : (q : Int) < ((rest x 0).length : Int) := by omega
    have hn0 : 0 < (rest x 0).length := by omega
    have HQ : Hid (0 ≤ q) := Nat.zero_le _
    clear CL F1 F2 F3 hg hlt
    obtain ⟨n, hn⟩ : ∃ n, (rest x 0).length = n := ⟨_, rfl⟩
    rw [hn] at C2 O2 O3 H8 HN hqn hn0
    clear hn h0 hml
    generalize cellsOf (rest x 0) = CE at *
    obtain ⟨hU, w2, w3, w4, w5, hq0⟩ := HN.out
    obtain ⟨v1, v2, v3, v4, v5⟩ := H8.out
    generalize ((n - q : Nat) : Int) = D at *
    go_enter Try.func8, Try.ntmps8
    go_wp2_with (first
      | (go_at_call 13; refine (C0 _).mono ?_; rintro e w1 ⟨rfl, h1⟩; have HB : Hid (Below w.heap.size w w1) := (bthen HB.out HB.out.size h1))
      | (go_at_call 21; refine (C1 _).mono ?_; rintro e w1 ⟨rfl, h1⟩; have HB : Hid (Below w.heap.size w w1) := (bthen HB.out HB.out.size h1))
      | (go_at_call 24; refine (C2 _).mono ?_; rintro e w1 ⟨v, rfl, hr1, h1⟩; have HB : Hid (Below w.heap.size w w1) := (bthen HB.out HB.out.size h1); obtain ⟨g, cap, rfl, hg1, hg2, hcap, hcell⟩ := row_cells hr1 (by omega); have d1 := hcell _ _ cg; clear hcell hr1))
    refine (O1 _).mono ?_
    rintro e wx ⟨rfl, hx1⟩
    have HB : Hid (Below w.heap.size w wx) := bthen HB.out HB.out.size hx1
    go_wp2_with fail
    refine (O2 _).mono ?_
    rintro e wy ⟨rfl, hx2⟩
    have HB : Hid (Below w.heap.size w wy) := bthen HB.out HB.out.size hx2
    go_wp2_with fail
    refine (O3 _).mono ?_
    rintro e wz ⟨rfl, hx3⟩
    have HB : Hid (Below w.heap.size w wz) := bthen HB.out HB.out.size hx3
    go_wp2
    go_ret
    exact ⟨rfl, HB.out⟩
theorem parts_walk (s : ByteArray) (k : Int) (w : World) : Calls Try.prog 8 #[.string s, .int .i64 k] w fun e w' => e = .returned (.bool true) ∧ Below w.heap.size w w' := by
  by_cases h : s.size ≤ 300
  · by_cases hb : badOf (rest s 0) < 0
    · exact parts_0 s k w h hb (nobad_good hb) h
    · have hK : badOf (rest s 0) = ((badOf (rest s 0)).toNat : Int) := by omega
      have q := good_cut hK
      exact parts_1 s k w h _ hK q.1 (by simp [ByteArray.size_extract]; omega)
  · have z : (s.extract 0 300).size = 300 := by simp [ByteArray.size_extract]; omega
    by_cases hb : badOf (rest (s.extract 0 300) 0) < 0
    · exact parts_2 s k w (by omega) hb (nobad_good hb) (by omega)
    · have hK : badOf (rest (s.extract 0 300) 0) = ((badOf (rest (s.extract 0 300) 0)).toNat : Int) := by omega
      have q := good_cut hK
      exact parts_3 s k w (by omega) _ hK q.1 (by rw [ByteArray.size_extract]; omega)
end Go.Proofs.Ytbgbhogcjaodkaa
