/- The walk of the law HeapSizes. -/
import Derived.Test.YteknjkofmkigoacHf
namespace Go.Proofs.Yteknjkofmkigoac.H
open Go.RowKit

theorem md_wrap (x d : Int) (h : 1 ≤ d) (h' : d ≤ 65536) : ∃ n : Int, wrap64 ((IntKind.u64.wrap x).tmod d) = n ∧ 0 ≤ n ∧ n < d := by
  refine ⟨(x % 18446744073709551616) % d, ?_⟩
  rw [IntKind.wrap_u64]
  have q0 : 0 ≤ x % 18446744073709551616 := by omega
  have q1 := Int.emod_nonneg (x % 18446744073709551616) (show d ≠ 0 by omega)
  have q2 := Int.emod_lt_of_pos (x % 18446744073709551616) (show 0 < d by omega)
  rw [Int.tmod_eq_emod_of_nonneg q0]
  refine ⟨?_, q1, q2⟩
  unfold wrap64; omega

/-- What comes of a block that is taken, given back, and asked for anew. -/
theorem sizes_pure (a b : Int) (ha : 1 ≤ a) (ha2 : a ≤ 100) (hb : 1 ≤ b) (hb2 : b ≤ 100) :
    takeId (newSt 1000) a = 1 ∧ takeE (newSt 1000) a = 0 ∧ giveE (takeSt (newSt 1000) a) 1 = 0 ∧ takeE (giveSt (takeSt (newSt 1000) a) 1) b = 0 ∧ (takeSt (giveSt (takeSt (newSt 1000) a) 1) b).live = b ∧
      takeId (giveSt (takeSt (newSt 1000) a) 1) b = (if a = b then 1 else 2) ∧ (takeSt (giveSt (takeSt (newSt 1000) a) 1) b).laid = (if a = b then a else a + b) ∧
      tids (takeSt (giveSt (takeSt (newSt 1000) a) 1) b).bl (takeSt (giveSt (takeSt (newSt 1000) a) 1) b).bl.length = (if a = b then [1] else [2]) := by
  obtain ⟨e1, e2, e3⟩ := take_new (s := newSt 1000) ha (by show a ≤ 1000 - 0; omega) rfl
  have s1 : takeSt (newSt 1000) a = { lim := 1000, live := a, laid := a, bl := [(a, true)], R := fun _ => [] } := by
    rw [e1]
    show St.mk 1000 (0 + a) (0 + a) ([] ++ [(a, true)]) (fun _ => []) = _
    rw [Int.zero_add, List.nil_append]
  have f := give_at (s := { lim := 1000, live := a, laid := a, bl := [(a, true)], R := fun _ => [] }) (k := 0) (by simp) rfl
  have f2 : giveSt { lim := 1000, live := a, laid := a, bl := [(a, true)], R := fun _ => [] } 1 = { lim := 1000, live := 0, laid := a, bl := [(a, false)], R := upd (fun _ => []) a [1] } := by
    have := f.2
    rw [show ((0 : Nat) : Int) + 1 = 1 by rfl] at this
    rw [this]
    show St.mk 1000 (a - a) a [(a, false)] (upd (fun _ => []) a ([] ++ [1])) = _
    rw [Int.sub_self, List.nil_append]
  rw [s1]
  refine ⟨by rw [e2]; rfl, e3, f.1, ?_⟩
  rw [f2]
  by_cases hab : a = b
  · subst hab
    obtain ⟨g1, g2, g3⟩ := take_old (s := { lim := 1000, live := 0, laid := a, bl := [(a, false)], R := upd (fun _ => []) a [1] }) (n := a) (zs := []) (k := 0) ha (by show a ≤ 1000 - 0; omega) (by simp [upd])
    rw [g3, g1, g2, if_pos rfl, if_pos rfl, if_pos rfl]
    refine ⟨rfl, by show 0 + a = a; omega, rfl, rfl, ?_⟩
    show tids (setT [(a, false)] 0 true) (setT [(a, false)] 0 true).length = [1]
    simp [setT, tids]
  · obtain ⟨g1, g2, g3⟩ := take_new (s := { lim := 1000, live := 0, laid := a, bl := [(a, false)], R := upd (fun _ => []) a [1] }) (n := b) hb (by show b ≤ 1000 - 0; omega) (by simp only [upd]; rw [if_neg (fun e => hab e.symm)])
    rw [g3, g1, g2, if_neg hab, if_neg hab, if_neg hab]
    refine ⟨rfl, by show 0 + b = b; omega, rfl, rfl, ?_⟩
    show tids ([(a, false)] ++ [(b, true)]) ([(a, false)] ++ [(b, true)]).length = [2]
    simp [tids, List.range_succ]

set_option maxRecDepth 20000 in
set_option maxHeartbeats 1000000 in
theorem sizes_walk (x y : Int) (w : World) : Calls Try.prog 3 #[.int .i64 x, .int .i64 y] w fun e w' => e = .returned (.bool true) ∧ Below w.heap.size w w' := by
  obtain ⟨a', ha, ha0, ha1⟩ := md_wrap x 100 (by omega) (by omega)
  obtain ⟨b', hb, hb0, hb1⟩ := md_wrap y 100 (by omega) (by omega)
  have HP : Hid _ := sizes_pure (1 + a') (1 + b') (by omega) (by omega) (by omega) (by omega)
  have I0 := Inv.new 1000 (by omega) (by omega)
  have I1 := I0.take (1 + a')
  have I2 := I1.give 1
  have K : ∀ W v z, Ints W.heap.size W v [z] → Calls Try.prog 10 #[v, .slice (some ⟨W.heap.size, 0, none⟩) 1 1] (W.alloc (.cells #[.int .i64 z] 3)) fun e w' => e = .returned (.bool true) ∧ Below (W.alloc (.cells #[.int .i64 z] 3)).heap.size (W.alloc (.cells #[.int .i64 z] 3)) w' := fun W v z h => by
    have := same_walk [z] [z] v _ _ (h.go (balloc W _)) (ints_new W [z] 1 (by simp)) rfl (by simp)
    rwa [decide_eq_true rfl] at this
  go_enter Try.func3, Try.ntmps3
  go_wp2_with fail
  refine (fixed_any w).mono ?_
  rintro e w1 ⟨rfl, b1⟩
  go_wp2_with fail
  refine (new_walk w1 1000 (by omega) (by omega)).mono ?_
  rintro e w2 ⟨rfl, rfl⟩
  have h2 := new_hp w1 1000 (fun g => g < w1.heap.size) (fun g q => q)
  have k2 : Keep (fun g => g < w1.heap.size) w1 ((w1.alloc (.map #[] 0)).alloc (.cells #[.int .i64 1000, .int .i64 0, .int .i64 0, .slice none 0 0, .map (some w1.heap.size)] 47)) := ((Keep.refl _ w1).alloc _).alloc _
  obtain ⟨W, hW⟩ : ∃ W, W = (w1.alloc (.map #[] 0)).alloc (.cells #[.int .i64 1000, .int .i64 0, .int .i64 0, .slice none 0 0, .map (some w1.heap.size)] 47) := ⟨_, rfl⟩
  rw [← hW] at h2 k2 ⊢
  obtain ⟨S, hS⟩ : ∃ S, w1.heap.size + 1 = S := ⟨_, rfl⟩
  rw [hS] at h2 ⊢
  clear hW hS
  have T1 := take_any h2 (by omega) I0.ok (1 + a')
  rw [HP.out.1, HP.out.2.1] at T1
  have H2 : Hid _ := h2
  clear h2
  go_wp2_with fail
  refine T1.mono ?_
  rintro e w3 ⟨rfl, hx, k3⟩
  clear T1
  obtain ⟨v3, h3⟩ := hx
  have T2 := give_any h3 (by omega) I1 1
  rw [HP.out.2.2.1] at T2
  clear h3
  go_wp2_with fail
  refine T2.mono ?_
  rintro e w4 ⟨rfl, hx, k4⟩
  clear T2
  obtain ⟨v4, h4⟩ := hx
  have T3 := take_any h4 (by omega) I2.ok (1 + b')
  rw [HP.out.2.2.2.1] at T3
  clear h4
  obtain ⟨_, _, _, _, p5, p6, p7, p8⟩ := HP.out
  rw [p6] at T3
  go_wp2_with fail
  refine T3.mono ?_
  rintro e w5 ⟨rfl, hx, k5⟩
  clear T3
  obtain ⟨v5, h5⟩ := hx
  have T4 := live_any w5 S _ h5.c1
  have T5 := laid_any w5 S _ h5.c2
  have T6 := blocks_any h5 (by omega)
  rw [p5] at T4
  rw [p7] at T5
  rw [p8] at T6
  have b5 : Below w.heap.size w w5 := bthen b1 b1.size ((((k2.trans k3).trans k4).trans k5).below (Nat.le_refl _) (fun g q => q))
  clear h5 p5 p6 p7 p8 HP H2 k2 k3 k4 k5 I0 I1 I2 b1
  by_cases hab : 1 + a' = 1 + b'
  · obtain rfl : a' = b' := by omega
    rw [if_pos rfl] at T5 T6 ⊢
    go_wp2_with (first | (go_at_call 8; refine T4.mono ?_; rintro e w' ⟨rfl, rfl⟩) | (go_at_call 9; refine T5.mono ?_; rintro e w' ⟨rfl, rfl⟩))
    refine T6.mono ?_
    rintro e w6 ⟨v6, rfl, o6, b6⟩
    have K2 := K w6 v6 _ (ints_own o6)
    clear T4 T5 T6 o6 K
    go_wp2_with fail
    refine K2.mono ?_
    rintro e w7 ⟨rfl, b7⟩
    go_wp2_with fail
    go_ret
    exact ⟨rfl, bthen b5 b5.size (bthen b6 b6.size (bthen (balloc w6 _) (by simp) b7))⟩
  · rw [if_neg hab] at T5 T6 ⊢
    have hab' : (1 + a' == 1 + b') = false := by simpa using hab
    go_wp2_with (first | (go_at_call 8; refine T4.mono ?_; rintro e w' ⟨rfl, rfl⟩) | (go_at_call 9; refine T5.mono ?_; rintro e w' ⟨rfl, rfl⟩))
    refine T6.mono ?_
    rintro e w6 ⟨v6, rfl, o6, b6⟩
    have K2 := K w6 v6 _ (ints_own o6)
    clear T4 T5 T6 o6 K
    go_wp2_with fail
    refine K2.mono ?_
    rintro e w7 ⟨rfl, b7⟩
    go_wp2_with fail
    go_ret
    exact ⟨rfl, bthen b5 b5.size (bthen b6 b6.size (bthen (balloc w6 _) (by simp) b7))⟩

end Go.Proofs.Yteknjkofmkigoac.H
