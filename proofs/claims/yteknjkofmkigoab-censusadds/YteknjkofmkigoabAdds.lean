/- The walk of the law CensusAdds. -/
import Derived.Test.YteknjkofmkigoabApp
namespace Go.Proofs.Yteknjkofmkigoab
open Go.RowKit

theorem cnt_app (l m : List Int) (i : Nat) : cnt (l ++ m) i = cnt l i + cnt m i := by
  unfold cnt
  rw [List.countP_append]
  omega
/-- What the last loop of the law comes to. -/
theorem adds_end (l : List Int) (i : Nat) (hi : i ≤ 17) (h1 : i = 0 ∨ (2 : Int) ^ (i - 1) ≤ chA (cntL l) 17) (h2 : i = 17 ∨ chA (cntL l) 17 < 2 ^ i) : pre (cntL l) i = chN (cntL l) 17 := by
  rcases chN_cases (cntL l) 17 with ⟨e1, e2⟩ | ⟨k, hk, e1, e2⟩
  · rw [e1] at h1 h2
    rw [e2]
    rcases h1 with h1 | h1
    · rw [h1]; rfl
    · have := (pow16 (i - 1) (by omega)).1
      omega
  · rw [e1] at h1 h2
    rw [e2]
    have : i = k + 1 := by
      have hp := pow_int k
      rcases Nat.lt_trichotomy i (k + 1) with q | q | q
      · rcases h2 with h2 | h2
        · omega
        · have h3 := Nat.pow_le_pow_right (n := 2) (by omega) (show i ≤ k by omega)
          have h4 := pow_int i
          omega
      · exact q
      · rcases h1 with h1 | h1
        · omega
        · have h3 := Nat.pow_le_pow_right (n := 2) (by omega) (show k + 1 ≤ i - 1 by omega)
          have h4 := pow_int (i - 1)
          have h5 := pow_int (k + 1)
          have h6 : (2 : Int) ^ (k + 1) = 2 * 2 ^ k := by rw [Int.pow_succ]; omega
          have := (pow16 k (by omega)).1
          omega
    rw [this]

theorem Ints.cnt {N X : Nat} {w : World} {l : List Int} (h : Ints N w (.slice (some ⟨X, 0, none⟩) 17 17) (cntL l)) : X < N ∧ ∀ j, j < 17 → w.cell? ⟨X, j, none⟩ = some (.int .i64 (cnt l j)) := by
  obtain ⟨a, cap, e, _, h⟩ := h
  injection e with e _ _
  subst e
  obtain ⟨b, off, q, hb, hc⟩ := h (fun q => by have := cntL_len l; rw [q] at this; simp at this)
  injection q with q
  injection q with q1 q2 _
  subst q1 q2
  refine ⟨hb, fun j hj => ?_⟩
  have := hc j (by rw [cntL_len]; exact hj)
  rw [Nat.zero_add, cntL_get l j hj] at this
  exact this

set_option maxRecDepth 20000 in
set_option maxHeartbeats 2000000 in
theorem adds_walk (l1 l2 : List Int) (u v : Value) (w : World) (h1 : Ints w.heap.size w u l1) (h2 : Ints w.heap.size w v l2) (hf1 : Fit l1) (hf2 : Fit l2) (hbig1 : l1.length ≤ 9223372036854775807) (hbig2 : l2.length ≤ 9223372036854775807) :
    Calls Try.prog 3 #[u, v] w fun e w' => e = .returned (.bool true) ∧ Below w.heap.size w w' := by
  have hlen1 := fewLen l1
  have hlen2 := fewLen l2
  have hf1 := hf1.take 3000
  have hf2 := hf2.take 3000
  have D1 := fun W (hb : Below w.heap.size w W) => few_any l1 u W (h1.go hb) hbig1
  have D2 := fun W (hb : Below w.heap.size w W) => few_any l2 v W (h2.go hb) hbig2
  clear h1 h2 hbig1 hbig2
  generalize l1.take 3000 = m at *
  generalize l2.take 3000 = n at *
  go_enter Try.func3, Try.ntmps3
  go_wp2_with fail
  refine (fixed_any w).mono ?_
  rintro e w1 ⟨rfl, b1⟩
  go_wp2_with fail
  refine (D1 _ b1).mono ?_
  rintro e w2 ⟨va, rfl, rfl, ia⟩
  go_wp2_with fail
  refine (D2 _ b1).mono ?_
  rintro e w3 ⟨vb, rfl, rfl, ib⟩
  clear D1 D2
  have K1 := count_any m va w3 ia hf1 (by omega)
  go_wp2_with fail
  refine K1.mono ?_
  rintro e w4 ⟨rfl, o4, b4⟩
  have K2 := count_any n vb w4 (ib.go b4) hf2 (by omega)
  clear K1
  go_wp2_with fail
  refine K2.mono ?_
  rintro e w5 ⟨rfl, o5, d5⟩
  have b5 := bthen b4 b4.size d5
  clear K2
  obtain ⟨v6, w6, e6, o6, b6⟩ := app_copy m va w5 ((ia.go b5).go (balloc w5 _)) (by omega)
  obtain ⟨v7, w7, e7, o7, g7⟩ := app_list m n v6 vb w6 w5.heap.size o6 ((ib.go b5).go b6) (by omega) b6.size
  have b7 : Below w5.heap.size w5 w7 := b6.grown g7 b6.size (fun k hk => (o6.lt k hk).1)
  have hfmn : Fit (m ++ n) := by
    intro i hi
    by_cases him : i < m.length
    · have := hf1 i him
      rwa [List.getD, List.getElem?_append_left him]
    · have := hf2 (i - m.length) (by simp at hi; omega)
      rwa [List.getD, List.getElem?_append_right (by omega)]
  have K3 := count_any (m ++ n) v7 w7 (ints_own o7) hfmn (by simp; omega)
  clear o6 b6 o7 g7
  go_wp2_with (first | (at_builtin; refine wp_app rfl _ _ 22 rfl 22 rfl (.slice (some ⟨w5.heap.size, 0, none⟩) 0 0) va rfl rfl e6 ?_) | (at_builtin; refine wp_app rfl _ _ 22 rfl 22 rfl v6 vb rfl rfl e7 ?_))
  refine K3.mono ?_
  rintro e w8 ⟨rfl, o8, d8⟩
  clear K3 e6 e7
  have x8 : Ints w8.heap.size w8 (.slice (some ⟨w3.heap.size, 0, none⟩) 17 17) (cntL m) := ((o4.ints'.go d5).go b7).go d8
  have y8 : Ints w8.heap.size w8 (.slice (some ⟨w4.heap.size, 0, none⟩) 17 17) (cntL n) := (o5.ints'.go b7).go d8
  have z8 : Ints w8.heap.size w8 (.slice (some ⟨w7.heap.size, 0, none⟩) 17 17) (cntL (m ++ n)) := o8.ints'
  have b8 : Below w.heap.size w w8 := bthen b1 b1.size (bthen (bthen b5 b5.size b7) (Nat.le_trans b5.size b7.size) d8)
  clear o4 o5 o8 d5 d8 b7 b5 b4 b1 ia ib hf1 hf2 hfmn
  have hmk : (Instr.makeSlice 22 (.int .i64 17) (.int .i64 17)).run Try.prog w8 = _ := make_int 17 (by omega) w8
  have M : Own17 w8.heap.size (w8.alloc (.cells (madeCells (Value.int .i64 0).cells (17 * 1)) 3)) (fun j => if j < 0 then cnt (m ++ n) j else 0) :=
    ⟨fun j hj => by rw [made_cell w8 17 j hj]; simp, fun j hj => new_free w8 _ _ j, by simp⟩
  have m3 : Below w8.heap.size w8 (w8.alloc (.cells (madeCells (Value.int .i64 0).cells (17 * 1)) 3)) := balloc _ _
  obtain ⟨W1, hW1⟩ : ∃ W1, W1 = (w8.alloc (.cells (madeCells (Value.int .i64 0).cells (17 * 1)) 3)) := ⟨_, rfl⟩
  rw [← hW1] at hmk M m3
  clear hW1
  have HX : Hid _ := x8.cnt
  have HY : Hid _ := y8.cnt
  have HZ : Hid _ := z8.cnt
  have HM : Hid _ := M
  have HZ8 : Hid (Ints w8.heap.size w8 (.slice (some ⟨w7.heap.size, 0, none⟩) 17 17) (cntL (m ++ n))) := z8
  have hb1 := fun i => cnt_bound m i
  have hb2 := fun i => cnt_bound n i
  have hok := okC_cnt (m ++ n) (by simp; omega)
  have E1 : ∀ W a, Ints W.heap.size W a (cntL (m ++ n)) → Calls Try.prog 12 #[a] W fun e w' => e = .returned (.tuple #[.int .i64 (chA (cntL (m ++ n)) 17), .int .i64 (chN (cntL (m ++ n)) 17), .int .i64 0]) ∧ w' = W := fun W a q => choose_ok (cntL (m ++ n)) a W q hok
  have HE : Hid (∀ i : Nat, i ≤ 17 → (i = 0 ∨ (2 : Int) ^ (i - 1) ≤ chA (cntL (m ++ n)) 17) → (i = 17 ∨ chA (cntL (m ++ n)) 17 < 2 ^ i) → pre (cntL (m ++ n)) i = chN (cntL (m ++ n)) 17) := fun i h1 h2 h3 => adds_end (m ++ n) i h1 h2 h3
  have HP : Hid (∀ i : Nat, i < 17 → pre (cntL (m ++ n)) (i + 1) = pre (cntL (m ++ n)) i + cnt (m ++ n) i) := fun i hi => by
    rw [pre_succ _ _ (by rw [cntL_len]; exact hi), cntL_get _ _ hi]
  have HPB : Hid (∀ i : Nat, i ≤ 17 → 0 ≤ pre (cntL (m ++ n)) i ∧ pre (cntL (m ++ n)) i ≤ 6000) := fun i hi => by
    have := pre_le (m ++ n) i hi
    simp at this
    omega
  have HA : Hid (∀ i, cnt (m ++ n) i = cnt m i + cnt n i) := fun i => cnt_app m n i
  have K9 : ∀ W a b, Ints W.heap.size W a (cntL (m ++ n)) → Ints W.heap.size W b (cntL (m ++ n)) → Calls Try.prog 13 #[a, b] W fun e w' => e = .returned (.bool true) ∧ Below W.heap.size W w' := fun W a b h1 h2 => by
    have := same_walk (cntL (m ++ n)) (cntL (m ++ n)) _ _ W h1 h2 rfl (by rw [cntL_len]; omega)
    rwa [decide_eq_true rfl] at this
  clear x8 y8 z8 M hok
  generalize chA (cntL (m ++ n)) 17 = cA at *
  generalize chN (cntL (m ++ n)) 17 = cN at *
  obtain ⟨X, hX⟩ : ∃ X, w3.heap.size = X := ⟨_, rfl⟩
  obtain ⟨Y, hY⟩ : ∃ Y, w4.heap.size = Y := ⟨_, rfl⟩
  obtain ⟨Z, hZ⟩ : ∃ Z, w7.heap.size = Z := ⟨_, rfl⟩
  obtain ⟨G, hG⟩ : ∃ G, w8.heap.size = G := ⟨_, rfl⟩
  rw [hX] at HX ⊢
  rw [hY] at HY ⊢
  rw [hZ] at HZ HZ8 ⊢
  rw [hG] at HX HY HZ HM hmk m3
  have HGG : Hid _ := hG
  clear hX hY hZ hG
  go_wp2_with fail
  go_loopw [9] (fun i wr => ∃ k : Nat, i = .int .i64 k ∧ k ≤ 17 ∧ Hid (Own17 G wr (fun j => if j < k then cnt (m ++ n) j else 0)) ∧ Below G w8 wr) (fun i _ => 17 - (intOf i).toNat)
  case atStart => exact ⟨0, rfl, by omega, HM, m3⟩
  case round =>
    obtain ⟨k, rfl, hk, HO, hb⟩ := hrel
    by_cases hlt : k < 17
    · have hlt' : (k : Int) < 17 := by omega
      have c1 : wr.cell? ⟨X, k, none⟩ = some (.int .i64 (cnt m k)) := by rw [hb.cell (by exact HX.out.1)]; exact HX.out.2 k hlt
      have c2 : wr.cell? ⟨Y, k, none⟩ = some (.int .i64 (cnt n k)) := by rw [hb.cell (by exact HY.out.1)]; exact HY.out.2 k hlt
      have c3 : wr.cell? ⟨G, k, none⟩ = some (.int .i64 0) := (HO.out.1 k hlt).trans (by simp)
      have f3 := HO.out.2.1 k hlt
      have l1 := HX.out.1
      have l2 := HY.out.1
      have q1 := hb1 k
      have q2 := hb2 k
      have HN : Hid (∀ x y, cnt m k = x → cnt n k = y → Own17 G (wr.setCell ⟨G, k, none⟩ (.int .i64 (x + y))) (fun j => if j < k + 1 then cnt (m ++ n) j else 0)) := by
        intro x y hx hy
        refine HO.out.upd k hlt _ ?_ fun i hi => ?_
        · show (if k < k + 1 then _ else _) = _
          rw [if_pos (by omega), HA.out k, hx, hy]
        · show (if i < k + 1 then _ else _) = (if i < k then _ else _)
          by_cases hik : i < k
          · rw [if_pos (by omega), if_pos hik]
          · rw [if_neg (by omega), if_neg hik]
      obtain ⟨x, hx⟩ : ∃ x, cnt m k = x := ⟨_, rfl⟩
      obtain ⟨y, hy⟩ : ∃ y, cnt n k = y := ⟨_, rfl⟩
      have HN2 : Hid _ := HN.out x y hx hy
      rw [hx] at c1 q1
      rw [hy] at c2 q2
      obtain ⟨q1a, q1b⟩ := q1
      obtain ⟨q2a, q2b⟩ := q2
      have q1c : x ≤ 3000 := by omega
      have q2c : y ≤ 3000 := by omega
      clear HN hx hy q1b q2b HO hb1 hb2 HM
      go_wp2_with fail
      go_region
      go_wp2_with fail
      go_roundw
      case rel => exact ⟨k + 1, by go_num, by omega, HN2.out, (hb.setCell (by simp) _).drew⟩
      case measure => simp [intOf]; omega
    · obtain rfl : k = 17 := by omega
      have s9 : Ints wr.heap.size wr (.slice (some ⟨G, 0, none⟩) 17 17) (cntL (m ++ n)) := by
        refine Own17.ints' ⟨fun j hj => ?_, HO.out.2⟩
        exact (HO.out.1 j hj).trans (by simp [hj])
      have z9 : Ints wr.heap.size wr (.slice (some ⟨Z, 0, none⟩) 17 17) (cntL (m ++ n)) := Ints.go HZ8.out (by rw [HGG.out]; exact hb)
      have b9 : Below w.heap.size w wr := bthen b8 b8.size (by rw [HGG.out]; exact hb)
      have F1 := E1 wr _ z9
      have F2 := E1 wr _ s9
      have F3 := K9 wr _ _ s9 z9
      have HZ2 : Hid (∀ j, j < 17 → wr.cell? ⟨Z, j, none⟩ = some (.int .i64 (cnt (m ++ n) j))) := fun j hj => by rw [hb.cell (by exact HZ.out.1)]; exact HZ.out.2 j hj
      clear s9 z9 HO HM HX HY HZ HZ8 E1 K9 hb1 hb2
      go_wp2_with fail
      refine F1.mono ?_
      rintro e w9 ⟨rfl, rfl⟩
      go_wp2_with fail
      refine F2.mono ?_
      rintro e w10 ⟨rfl, rfl⟩
      clear F1 F2
      go_wp2_with fail
      go_loop [16, 17] (fun c i => ∃ k : Nat, i = .int .i64 k ∧ k ≤ 17 ∧ ∃ z : Int, c = .int .i64 z ∧ Hid (z = pre (cntL (m ++ n)) k) ∧ Hid (k = 0 ∨ (2 : Int) ^ (k - 1) ≤ cA)) (fun _ i => 17 - (intOf i).toNat)
      case atStart => exact ⟨0, rfl, by omega, 0, rfl, rfl, .inl rfl⟩
      case round =>
        obtain ⟨k, rfl, hk2, z, rfl, HZZ, HK⟩ := hrel
        have hz := HPB.out k hk2
        rw [← HZZ.out] at hz
        obtain ⟨hz0, hz1⟩ := hz
        by_cases hlt2 : k < 17
        · have hlt3 : (k : Int) < 17 := by omega
          have hp := pow_fit k (by omega)
          have hp2 := pow16 k (by omega)
          by_cases hq : (2 : Int) ^ k ≤ cA
          · have c1 := HZ2.out k hlt2
            have hc1 := cnt_bound (m ++ n) k
            have hc2 : ((m ++ n).length : Int) ≤ 6000 := by simp; omega
            have HN : Hid (z + cnt (m ++ n) k = pre (cntL (m ++ n)) (k + 1)) := (show z + cnt (m ++ n) k = pre (cntL (m ++ n)) (k + 1) by rw [HP.out k hlt2, HZZ.out])
            have hc3 : cnt (m ++ n) k ≤ 6000 := by omega
            have hc4 := hc1.1
            clear hc1 hc2 HZZ HK
            generalize cnt (m ++ n) k = y at *
            have HK2 : Hid ((2 : Int) ^ (k + 1 - 1) ≤ cA) := by rw [Nat.add_sub_cancel]; exact hq
            go_wp2_with fail
            go_round
            case rel => exact ⟨k + 1, by go_num, by omega, _, rfl, HN, .inr HK2.out⟩
            case measure => simp [intOf]; omega
          · have HF : Hid (z = cN) := by rw [HZZ.out]; exact HE.out k hk2 HK.out (.inr (by omega))
            obtain rfl : z = cN := HF.out
            clear HZZ HK HF HE
            go_wp2_with fail
            refine F3.mono ?_
            rintro e w11 ⟨rfl, b11⟩
            go_wp2_with fail
            go_ret
            exact ⟨rfl, bthen b9 b9.size b11⟩
        · obtain rfl : k = 17 := by omega
          have HF : Hid (z = cN) := by rw [HZZ.out]; exact HE.out 17 hk2 HK.out (.inl rfl)
          obtain rfl : z = cN := HF.out
          clear HZZ HK HF HE
          go_wp2_with fail
          refine F3.mono ?_
          rintro e w11 ⟨rfl, b11⟩
          go_wp2_with fail
          go_ret
          exact ⟨rfl, bthen b9 b9.size b11⟩

end Go.Proofs.Yteknjkofmkigoab
