/- The census: the walks of the reference's Slice and Choose. -/
import Derived.Test.YtcaaaoehipcloaaGreatCg05
namespace Go.Proofs.YtcaaaoehipcloaaGreat.C
open Go.RowKit
set_option maxRecDepth 20000 in
set_option maxHeartbeats 2000000 in
theorem rchoose_ok (l : List Int) (v : Value) (w : World) (h : Ints w.heap.size w v l) (hok : okC l = true) :
    Calls Tryz.prog 91 #[v] w fun e w' => e = .returned (.tuple #[.int .i64 (chA l 17), .int .i64 (chN l 17), .int .i64 0]) ∧ w' = w := by
  obtain ⟨a, cap, rfl, hcap, h⟩ := h
  have HC : Hid _ := h
  have HL : Hid (l ≠ []) := by intro q; have := okC_len hok; rw [q] at this; simp at this
  have HG : Hid (∀ k, k < 17 → 0 ≤ l.getD k 0 ∧ l.getD k 0 ≤ 4294967296) := fun k hk => okC_get hok k hk
  have HB : Hid (∀ k, k ≤ 17 → 0 ≤ pre l k ∧ pre l k ≤ 73014444032) := fun k hk => by
    have := pre_bound hok k hk
    have : (k : Int) * 4294967296 ≤ 17 * 4294967296 := Int.mul_le_mul_of_nonneg_right (by omega) (by omega)
    omega
  have HS : Hid (∀ k, k < 17 → pre l (k + 1) = pre l k + l.getD k 0) := fun k hk => pre_succ l k (by rw [okC_len hok]; exact hk)
  clear h hcap
  rw [okC_len hok] at HC ⊢
  clear hok
  obtain ⟨g, off, rfl, hg, hc⟩ := HC.out HL.out
  have HC2 : Hid _ := hc
  clear HC HL hc hg
  go_enter Tryz.func91, Tryz.ntmps91
  go_wp2
  go_loop [5, 6] (fun s i => ∃ k : Nat, i = .int .i64 k ∧ k ≤ 17 ∧ ∃ z : Int, s = .int .i64 z ∧ Hid (z = pre l k)) (fun _ i => 17 - (intOf i).toNat)
  case atStart => exact ⟨0, rfl, by omega, 0, rfl, rfl⟩
  case round =>
    obtain ⟨k, rfl, hk, S, rfl, HT⟩ := hrel
    by_cases hlt : k < 17
    · have c1 := HC2.out k hlt
      have hlt' : (k : Int) < 17 := by omega
      have hx := HG.out k hlt
      have hS := HB.out k (by omega)
      rw [← HT.out] at hS
      have HN : Hid (S + l.getD k 0 = pre l (k + 1)) := by rw [HT.out]; exact (HS.out k hlt).symm
      obtain ⟨hx0, hx1⟩ := hx
      obtain ⟨hS0, hS1⟩ := hS
      clear HT
      generalize l.getD k 0 = x at *
      go_wp2
      go_round
      case rel => exact ⟨k + 1, by go_num, by omega, _, rfl, HN⟩
      case measure => simp [intOf]; omega
    · obtain rfl : k = 17 := by omega
      go_wp2
      go_loop [5, 7] (fun s i => ∃ k : Nat, i = .int .i64 ((k : Int) - 1) ∧ k ≤ 17 ∧ ∃ z : Int, s = .int .i64 z ∧ Hid (z = pre l k) ∧ Hid (chA l 17 = chA l k ∧ chN l 17 = chN l k)) (fun _ i => ((intOf i) + 1).toNat)
      case atStart => exact ⟨17, rfl, by omega, _, rfl, HT, rfl, rfl⟩
      case round =>
        obtain ⟨k, rfl, hk2, Z, rfl, HT2, HR⟩ := hrel
        cases k with
        | zero =>
          go_wp2
          go_ret3
          exact ⟨ret3 HR.out.1.symm HR.out.2.symm rfl, rfl⟩
        | succ k =>
          have hk3 : ((k + 1 : Nat) : Int) - 1 = (k : Int) := by omega
          rw [hk3]
          have c1 := HC2.out k (by omega)
          have hS := HB.out (k + 1) (by omega)
          have hx := HG.out k (by omega)
          rw [← HT2.out] at hS
          have HN : Hid (Z - l.getD k 0 = pre l k) := by rw [HT2.out, show pre l (k + 1) = _ from HS.out k (by omega)]; show _ + _ - _ = _; omega
          have hp := pow_fit k (by omega)
          have hp2 := pow16 k (by omega)
          obtain ⟨hx0, hx1⟩ := hx
          obtain ⟨hS0, hS1⟩ := hS
          have hk4 : (k : Int) < 17 := by omega
          have hk5 : ¬ (k : Int) < 0 := by omega
          by_cases hq : (2 : Int) ^ k < 2 * Z
          · have e1 : (2 : Int) ^ k = chA l 17 := by rw [HR.out.1, chA_succ, ← HT2.out, if_pos hq]
            have e2 : Z = chN l 17 := by rw [HR.out.2, chN_succ, ← HT2.out, if_pos hq]
            have E1 : Hid _ := e1
            have E2 : Hid _ := e2
            clear HR HT2 HN e1 e2 hk3
            generalize l.getD k 0 = x at *
            go_wp2
            go_ret3
            exact ⟨ret3 E1.out E2.out rfl, rfl⟩
          · have HR2 : Hid (chA l 17 = chA l k ∧ chN l 17 = chN l k) := by
              rw [HR.out.1, HR.out.2, chA_succ, chN_succ, ← HT2.out, if_neg hq, if_neg hq]; exact ⟨rfl, rfl⟩
            clear HR HT2 hk3
            generalize l.getD k 0 = x at *
            go_wp2
            go_round
            case rel => exact ⟨k, by go_num, by omega, _, rfl, HN, HR2⟩
            case measure => simp [intOf]

set_option maxRecDepth 20000 in
set_option maxHeartbeats 600000 in
theorem rslice_any (n : Int) (w : World) (h1 : n ≤ 9223372036854775807) : Calls Tryz.prog 97 #[.int .i64 n] w fun e w' => e = .returned (.int .i64 (lg n)) ∧ w' = w := by
  by_cases h : n < 1
  · have hl : lg n = -1 := by simp [lg, h]
    rw [hl]
    clear hl
    go_enter Tryz.func97, Tryz.ntmps97
    go_wp2
    go_ret
    exact ⟨rfl, rfl⟩
  · rw [lg_pos n (by omega)]
    have h0 : 1 ≤ n := by omega
    have H1 : Hid (n ≤ 9223372036854775807) := h1
    clear h1
    go_enter Tryz.func97, Tryz.ntmps97
    go_wp2
    go_loop [3, 4] (fun i v => ∃ k : Nat, k ≤ 62 ∧ Hid (k = 0 ∨ 2 ^ (k - 1) < n.toNat) ∧ i = .int .i64 k ∧ v = .int .i64 (2 ^ k)) (fun i _ => 62 - (intOf i).toNat)
    case atStart => exact ⟨0, by omega, .inl rfl, rfl, rfl⟩
    case round =>
      obtain ⟨k, hk, HK, rfl, rfl⟩ := hrel
      have HP : Hid (((2 ^ k : Nat) : Int) = (2 : Int) ^ k) := pow_int k
      have HQ : Hid (k < 62 → wrap64 ((2 : Int) ^ k * 2) = 2 ^ (k + 1)) := by
        intro hk2
        have := pow_fit (k + 1) (by omega)
        rw [Int.pow_succ] at this
        rw [this, Int.pow_succ]
      by_cases hq : (2 : Int) ^ k < n
      · have HK2 : Hid (2 ^ (k + 1 - 1) < n.toNat) := by have := HP.out; show 2 ^ k < _; omega
        by_cases h62 : k = 62
        · subst h62
          have HF : Hid (lgN n = 63) := by
            have h63 : n.toNat ≤ 2 ^ 63 := by have := H1.out; omega
            exact (lgN_unique n 63 h0 H1.out h63 (.inr HK2.out)).symm
          go_wp2
          go_ret
          exact ⟨ret1 (by rw [HF.out]; rfl), rfl⟩
        · have hk3 : ¬ (k : Int) + 1 = 63 := by omega
          go_wp2
          go_round
          case rel => exact ⟨k + 1, by omega, .inr HK2.out, by go_num, congrArg (Value.int .i64) (HQ.out (by omega))⟩
          case measure => simp [intOf]; omega
      · have HF : Hid (k = lgN n) := lgN_unique n k h0 H1.out (by have := HP.out; omega) HK.out
        go_wp2
        go_ret
        exact ⟨ret1 (by rw [← HF.out]), rfl⟩

end Go.Proofs.YtcaaaoehipcloaaGreat.C

/- The walks of the reference's Count and of its Choose at a list that is not in form. -/
namespace Go.Proofs.YtcaaaoehipcloaaGreat.C
open Go.RowKit

theorem lg_small (x : Int) (h1 : x ≤ 9223372036854775807) : (1 ≤ x ∧ x ≤ 65536) ↔ (0 ≤ lg x ∧ lg x < 17) := by
  by_cases h0 : 1 ≤ x
  · obtain ⟨a, b, c⟩ := lgN_spec x h0 h1
    rw [lg_pos x h0]
    constructor
    · intro h
      refine ⟨by omega, ?_⟩
      rcases b with b | b
      · omega
      · rcases Nat.lt_or_ge (lgN x) 17 with q | q
        · omega
        · have := Nat.pow_le_pow_right (n := 2) (by omega) (show 16 ≤ lgN x - 1 by omega)
          omega
    · intro h
      have := Nat.pow_le_pow_right (n := 2) (by omega) (show lgN x ≤ 16 by omega)
      omega
  · have : lg x = -1 := by unfold lg; rw [if_pos (by omega)]
    omega

set_option maxRecDepth 20000 in
set_option maxHeartbeats 1000000 in
theorem rcount_any (l : List Int) (v : Value) (w : World) (h : Ints w.heap.size w v l) (hf : Fit l) (hlen : l.length ≤ 1000000) :
    Calls Tryz.prog 92 #[v] w fun e w' => e = .returned (.slice (some ⟨w.heap.size, 0, none⟩) 17 17) ∧ Own17 w.heap.size w' (cnt l) ∧ Below w.heap.size w w' := by
  obtain ⟨a, cap, rfl, hcap, h⟩ := h
  have HC : Hid _ := h
  have HF : Hid _ := hf
  have HL : Hid (l ≠ [] ↔ 0 < l.length) := by
    show _ ↔ _
    cases l <;> simp
  have HS : Hid (∀ k i, k < l.length → cnt (l.take (k + 1)) i = cnt (l.take k) i + (if lg (l.getD k 0) = i then 1 else 0)) := fun k i hk => cnt_succ l k i hk
  have HB : Hid (∀ k i, k ≤ l.length → 0 ≤ cnt (l.take k) i ∧ cnt (l.take k) i ≤ 1000000) := fun k i hk => by
    have := cnt_bound (l.take k) i
    rw [List.length_take] at this
    omega
  have HE : Hid (l.take l.length = l) := List.take_length
  clear h hf hcap
  have hmk : (Instr.makeSlice 37 (.int .i64 17) (.int .i64 17)).run Tryz.prog w = _ := make_int 17 (by omega) w
  have M : Own17 w.heap.size (w.alloc (.cells (madeCells (Value.int .i64 0).cells (17 * 1)) 3)) (cnt (l.take 0)) :=
    ⟨fun j hj => by rw [made_cell w 17 j hj]; simp [cnt], fun j hj => new_free w _ _ j, by simp⟩
  have m3 : Below w.heap.size w (w.alloc (.cells (madeCells (Value.int .i64 0).cells (17 * 1)) 3)) := (Below.refl _ _).alloc (Nat.le_refl _) _
  obtain ⟨W1, hW1⟩ : ∃ W1, W1 = (w.alloc (.cells (madeCells (Value.int .i64 0).cells (17 * 1)) 3)) := ⟨_, rfl⟩
  rw [← hW1] at hmk M m3
  clear hW1
  have HM : Hid _ := M
  clear M
  obtain ⟨L, hL⟩ : ∃ L, l.length = L := ⟨_, rfl⟩
  rw [hL] at HC HL HS HB HE hlen ⊢
  obtain ⟨G, hG⟩ : ∃ G, w.heap.size = G := ⟨_, rfl⟩
  rw [hG] at hmk HM m3 HC ⊢
  have C1 : ∀ k, k < L → ∀ W, Calls Tryz.prog 97 #[.int .i64 (l.getD k 0)] W fun e w' => e = .returned (.int .i64 (lg (l.getD k 0))) ∧ w' = W := fun k hk W => rslice_any _ W (HF.out k (by omega)).2
  have HG : Hid (∀ k, k < L → ((1 ≤ l.getD k 0 ∧ l.getD k 0 ≤ 65536) ↔ (0 ≤ lg (l.getD k 0) ∧ lg (l.getD k 0) < 17))) := fun k hk => lg_small _ (HF.out k (by omega)).2
  clear HF hL
  go_enter Tryz.func92, Tryz.ntmps92
  go_wp2_with fail
  go_loopw [4] (fun i wr => ∃ k : Nat, i = .int .i64 k ∧ k ≤ L ∧ Hid (Own17 G wr (cnt (l.take k))) ∧ Below G w wr) (fun i _ => L - (intOf i).toNat)
  case atStart => exact ⟨0, rfl, by omega, HM, m3⟩
  case round =>
    obtain ⟨k, rfl, hk, HO, hb⟩ := hrel
    by_cases hlt : k < L
    · have hlt' : (k : Int) < (L : Int) := by omega
      obtain ⟨g, off, rfl, hg, hc⟩ := HC.out (HL.out.2 (by omega))
      have c1 : wr.cell? ⟨g, off + k, none⟩ = some (.int .i64 (l.getD k 0)) := by rw [hb.cell (by exact hg)]; exact hc k hlt
      have C2 := C1 k hlt
      have HS2 : Hid (∀ i, cnt (l.take (k + 1)) i = cnt (l.take k) i + (if lg (l.getD k 0) = i then 1 else 0)) := fun i => HS.out k i hlt
      have HB2 : Hid (∀ i, 0 ≤ cnt (l.take k) i ∧ cnt (l.take k) i ≤ 1000000) := fun i => HB.out k i hk
      have HG2 := HG.out k hlt
      have HG3 : Hid _ := HG2
      clear hc C1 HB HS HC HG HG2
      generalize l.getD k 0 = x at *
      generalize lg x = s at *
      by_cases hs : 0 ≤ s ∧ s < 17
      · obtain ⟨hx1, hx2⟩ := HG3.out.2 hs
        obtain ⟨j, rfl⟩ : ∃ j : Nat, s = j := ⟨s.toNat, by omega⟩
        have hj : j < 17 := by omega
        have hj' : (j : Int) < 17 := by omega
        have c2 := HO.out.1 j hj
        have f2 := HO.out.2.1 j hj
        have hcb := HB2.out j
        have HO2 : Hid (∀ c, c = cnt (l.take k) j → Own17 G (wr.setCell ⟨G, j, none⟩ (.int .i64 (c + 1))) (cnt (l.take (k + 1)))) := by
          intro c hc
          refine HO.out.upd j hj _ ?_ fun i hi => ?_
          · rw [HS2.out j, if_pos rfl, hc]
          · rw [HS2.out i, if_neg (by omega)]; omega
        obtain ⟨c, hc⟩ : ∃ c, c = cnt (l.take k) j := ⟨_, rfl⟩
        have HO3 : Hid _ := HO2.out c hc
        rw [← hc] at c2 hcb
        clear hc HO2 HB2 HS2 HO hs HG3
        go_wp2_with (go_at_call 97; refine (C2 _).mono ?_; rintro e w2 ⟨rfl, rfl⟩)
        go_roundw
        case rel => exact ⟨k + 1, by go_num, by omega, HO3, hb.setCell (by simp) _⟩
        case measure => simp [intOf]; omega
      · have HO3 : Hid (Own17 G wr (cnt (l.take (k + 1)))) := by
          have e : ∀ i, i < 17 → cnt (l.take (k + 1)) i = cnt (l.take k) i := fun i hi => by rw [HS2.out i, if_neg (by omega)]; omega
          exact ⟨fun j hj => by rw [e j hj]; exact HO.out.1 j hj, HO.out.2⟩
        have hx : ¬ (1 ≤ x ∧ x ≤ 65536) := fun q => hs (HG3.out.1 q)
        clear HO HB2 HS2 HG3 hs
        by_cases hs0 : 1 ≤ x
        · have hs1 : ¬ x ≤ 65536 := by omega
          clear hx
          go_wp2_with fail
          go_roundw
          case rel => exact ⟨k + 1, by go_num, by omega, HO3, hb⟩
          case measure => simp [intOf]; omega
        · clear hx
          go_wp2_with fail
          go_roundw
          case rel => exact ⟨k + 1, by go_num, by omega, HO3, hb⟩
          case measure => simp [intOf]; omega
    · obtain rfl : k = L := by omega
      rw [HE.out] at HO
      go_wp2
      go_ret
      exact ⟨rfl, HO.out, hb⟩

set_option maxRecDepth 20000 in
set_option maxHeartbeats 1000000 in
theorem rchoose_bad (l : List Int) (v : Value) (w : World) (h : Ints w.heap.size w v l) (hok : okC l = false) :
    Calls Tryz.prog 91 #[v] w fun e w' => e = .returned (.tuple #[.int .i64 0, .int .i64 0, .int .i64 2]) ∧ w' = w := by
  obtain ⟨a, cap, rfl, hcap, h⟩ := h
  by_cases hlen : l.length = 17
  · have HC : Hid _ := h
    have HL : Hid (l ≠ []) := by intro q; rw [q] at hlen; simp at hlen
    have HN : Hid (¬ ∀ j, j < 17 → 0 ≤ l.getD j 0 ∧ l.getD j 0 ≤ 4294967296) := by
      intro q
      have : okC l = true := by
        simp only [okC, Bool.and_eq_true, beq_iff_eq, List.all_eq_true, decide_eq_true_eq]
        refine ⟨hlen, fun x hx => ?_⟩
        obtain ⟨j, hj, rfl⟩ := List.getElem_of_mem hx
        have := q j (by omega)
        rwa [List.getD, List.getElem?_eq_getElem hj] at this
      rw [this] at hok; cases hok
    clear h hcap hok
    rw [hlen] at HC ⊢
    clear hlen
    obtain ⟨g, off, rfl, hg, hc⟩ := HC.out HL.out
    have HC2 : Hid _ := hc
    clear HC HL hc hg
    go_enter Tryz.func91, Tryz.ntmps91
    go_wp2
    go_loop [5, 6] (fun s i => ∃ k : Nat, i = .int .i64 k ∧ k ≤ 17 ∧ (∃ z : Int, s = .int .i64 z ∧ 0 ≤ z ∧ z ≤ k * 4294967296) ∧ Hid (∀ j, j < k → 0 ≤ l.getD j 0 ∧ l.getD j 0 ≤ 4294967296)) (fun _ i => 17 - (intOf i).toNat)
    case atStart => exact ⟨0, rfl, by omega, ⟨0, rfl, by omega, by omega⟩, fun j hj => absurd hj (by omega)⟩
    case round =>
      obtain ⟨k, rfl, hk, ⟨S, rfl, hS0, hS1⟩, HT⟩ := hrel
      have hS2 : S ≤ 73014444032 := by
        have : (k : Int) * 4294967296 ≤ 17 * 4294967296 := Int.mul_le_mul_of_nonneg_right (by omega) (by omega)
        omega
      by_cases hlt : k < 17
      · have c1 := HC2.out k hlt
        have hlt' : (k : Int) < 17 := by omega
        have HX : Hid (0 ≤ l.getD k 0 ∧ l.getD k 0 ≤ 4294967296 → ∀ j, j < k + 1 → 0 ≤ l.getD j 0 ∧ l.getD j 0 ≤ 4294967296) := by
          intro q j hj
          by_cases hjk : j = k
          · subst hjk; exact q
          · exact HT.out j (by omega)
        generalize l.getD k 0 = x at c1 HX
        by_cases h1 : x < 0
        · go_wp2
          go_ret3
          exact ⟨rfl, rfl⟩
        · by_cases h2 : 4294967296 < x
          · go_wp2
            go_ret3
            exact ⟨rfl, rfl⟩
          · have HX2 := HX.out (by omega)
            have HT2 : Hid _ := HX2
            have HS : Hid (S ≤ k * 4294967296) := hS1
            clear HX2 HX hS1
            go_wp2
            go_round
            case rel => exact ⟨k + 1, by go_num, by omega, ⟨_, rfl, by omega, by have := HS.out; omega⟩, HT2⟩
            case measure => simp [intOf]; omega
      · obtain rfl : k = 17 := by omega
        exact absurd HT.out HN.out
  · clear h hcap hok
    have hlen' : ¬ (l.length : Int) = 17 := by omega
    generalize l.length = L at *
    go_enter Tryz.func91, Tryz.ntmps91
    go_wp2
    go_ret3
    exact ⟨rfl, rfl⟩

theorem rchoose_any (l : List Int) (v : Value) (w : World) (h : Ints w.heap.size w v l) :
    Calls Tryz.prog 91 #[v] w fun e w' => e = .returned (.tuple #[.int .i64 (chA' l), .int .i64 (chN' l), .int .i64 (chE l)]) ∧ w' = w := by
  unfold chA' chN' chE
  cases hok : okC l
  · exact rchoose_bad l v w h hok
  · exact rchoose_ok l v w h hok

end Go.Proofs.YtcaaaoehipcloaaGreat.C
