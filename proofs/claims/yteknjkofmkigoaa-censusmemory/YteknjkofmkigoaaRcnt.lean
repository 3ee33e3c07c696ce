/- The walks of the reference's Count and of its Choose at a list that is not in form. -/
import Derived.Test.YteknjkofmkigoaaCnt
namespace Go.Proofs.Yteknjkofmkigoaa
open Go.RowKit

theorem lg_small (x : Int) (h1 : x ≤ 9223372036854775807) : (1 ≤ x ∧ x ≤ 65536) ↔ (0 ≤ lg x ∧ lg x < 17) := by
  by_cases h0 : 1 ≤ x
  · obtain ⟨a, b, c⟩ := lgN_spec x h0 h1
    rw [lg_pos x h0]
    constructor
    · intro h
      refine ⟨by omega, ?_⟩
      rcases b with b | b
      · omega
      · rcases Nat.lt_or_ge (lgN x) 17 with q | q
        · omega
        · have := Nat.pow_le_pow_right (n := 2) (by omega) (show 16 ≤ lgN x - 1 by omega)
          omega
    · intro h
      have := Nat.pow_le_pow_right (n := 2) (by omega) (show lgN x ≤ 16 by omega)
      omega
  · have : lg x = -1 := by unfold lg; rw [if_pos (by omega)]
    omega

set_option maxHeartbeats 1000000 in
theorem rcount_any (l : List Int) (v : Value) (w : World) (h : Ints w.heap.size w v l) (hf : Fit l) (hlen : l.length ≤ 1000000) :
    Calls Try.prog 15 #[v] w fun e w' => e = .returned (.slice (some ⟨w.heap.size, 0, none⟩) 17 17) ∧ Own17 w.heap.size w' (cnt l) ∧ Below w.heap.size w w' := by
  obtain ⟨a, cap, rfl, hcap, h⟩ := h
  have HC : Hid _ := h
  have HF : Hid _ := hf
  have HL : Hid (l ≠ [] ↔ 0 < l.length) := by
    show _ ↔ _
    cases l <;> simp
  have HS : Hid (∀ k i, k < l.length → cnt (l.take (k + 1)) i = cnt (l.take k) i + (if lg (l.getD k 0) = i then 1 else 0)) := fun k i hk => cnt_succ l k i hk
  have HB : Hid (∀ k i, k ≤ l.length → 0 ≤ cnt (l.take k) i ∧ cnt (l.take k) i ≤ 1000000) := fun k i hk => by
    have := cnt_bound (l.take k) i
    rw [List.length_take] at this
    omega
  have HE : Hid (l.take l.length = l) := List.take_length
  clear h hf hcap
  have hmk : (Instr.makeSlice 22 (.int .i64 17) (.int .i64 17)).run Try.prog w = _ := make_int 17 (by omega) w
  have M : Own17 w.heap.size (w.alloc (.cells (madeCells (Value.int .i64 0).cells (17 * 1)) 3)) (cnt (l.take 0)) :=
    ⟨fun j hj => by rw [made_cell w 17 j hj]; simp [cnt], fun j hj => new_free w _ _ j, by simp⟩
  have m3 : Below w.heap.size w (w.alloc (.cells (madeCells (Value.int .i64 0).cells (17 * 1)) 3)) := (Below.refl _ _).alloc (Nat.le_refl _) _
  obtain ⟨W1, hW1⟩ : ∃ W1, W1 = (w.alloc (.cells (madeCells (Value.int .i64 0).cells (17 * 1)) 3)) := ⟨_, rfl⟩
  rw [← hW1] at hmk M m3
  clear hW1
  have HM : Hid _ := M
  clear M
  obtain ⟨L, hL⟩ : ∃ L, l.length = L := ⟨_, rfl⟩
  rw [hL] at HC HL HS HB HE hlen ⊢
  obtain ⟨G, hG⟩ : ∃ G, w.heap.size = G := ⟨_, rfl⟩
  rw [hG] at hmk HM m3 HC ⊢
  have C1 : ∀ k, k < L → ∀ W, Calls Try.prog 11 #[.int .i64 (l.getD k 0)] W fun e w' => e = .returned (.int .i64 (lg (l.getD k 0))) ∧ w' = W := fun k hk W => rslice_any _ W (HF.out k (by omega)).2
  have HG : Hid (∀ k, k < L → ((1 ≤ l.getD k 0 ∧ l.getD k 0 ≤ 65536) ↔ (0 ≤ lg (l.getD k 0) ∧ lg (l.getD k 0) < 17))) := fun k hk => lg_small _ (HF.out k (by omega)).2
  clear HF hL
  go_enter Try.func15, Try.ntmps15
  go_wp2_with fail
  go_loopw [4] (fun i wr => ∃ k : Nat, i = .int .i64 k ∧ k ≤ L ∧ Hid (Own17 G wr (cnt (l.take k))) ∧ Below G w wr) (fun i _ => L - (intOf i).toNat)
  case atStart => exact ⟨0, rfl, by omega, HM, m3⟩
  case round =>
    obtain ⟨k, rfl, hk, HO, hb⟩ := hrel
    by_cases hlt : k < L
    · have hlt' : (k : Int) < (L : Int) := by omega
      obtain ⟨g, off, rfl, hg, hc⟩ := HC.out (HL.out.2 (by omega))
      have c1 : wr.cell? ⟨g, off + k, none⟩ = some (.int .i64 (l.getD k 0)) := by rw [hb.cell (by exact hg)]; exact hc k hlt
      have C2 := C1 k hlt
      have HS2 : Hid (∀ i, cnt (l.take (k + 1)) i = cnt (l.take k) i + (if lg (l.getD k 0) = i then 1 else 0)) := fun i => HS.out k i hlt
      have HB2 : Hid (∀ i, 0 ≤ cnt (l.take k) i ∧ cnt (l.take k) i ≤ 1000000) := fun i => HB.out k i hk
      have HG2 := HG.out k hlt
      have HG3 : Hid _ := HG2
      clear hc C1 HB HS HC HG HG2
      generalize l.getD k 0 = x at *
      generalize lg x = s at *
      by_cases hs : 0 ≤ s ∧ s < 17
      · obtain ⟨hx1, hx2⟩ := HG3.out.2 hs
        obtain ⟨j, rfl⟩ : ∃ j : Nat, s = j := ⟨s.toNat, by omega⟩
        have hj : j < 17 := by omega
        have hj' : (j : Int) < 17 := by omega
        have c2 := HO.out.1 j hj
        have f2 := HO.out.2.1 j hj
        have hcb := HB2.out j
        have HO2 : Hid (∀ c, c = cnt (l.take k) j → Own17 G (wr.setCell ⟨G, j, none⟩ (.int .i64 (c + 1))) (cnt (l.take (k + 1)))) := by
          intro c hc
          refine HO.out.upd j hj _ ?_ fun i hi => ?_
          · rw [HS2.out j, if_pos rfl, hc]
          · rw [HS2.out i, if_neg (by omega)]; omega
        obtain ⟨c, hc⟩ : ∃ c, c = cnt (l.take k) j := ⟨_, rfl⟩
        have HO3 : Hid _ := HO2.out c hc
        rw [← hc] at c2 hcb
        clear hc HO2 HB2 HS2 HO hs HG3
        go_wp2_with (go_at_call 11; refine (C2 _).mono ?_; rintro e w2 ⟨rfl, rfl⟩)
        go_roundw
        case rel => exact ⟨k + 1, by go_num, by omega, HO3, hb.setCell (by simp) _⟩
        case measure => simp [intOf]; omega
      · have HO3 : Hid (Own17 G wr (cnt (l.take (k + 1)))) := by
          have e : ∀ i, i < 17 → cnt (l.take (k + 1)) i = cnt (l.take k) i := fun i hi => by rw [HS2.out i, if_neg (by omega)]; omega
          exact ⟨fun j hj => by rw [e j hj]; exact HO.out.1 j hj, HO.out.2⟩
        have hx : ¬ (1 ≤ x ∧ x ≤ 65536) := fun q => hs (HG3.out.1 q)
        clear HO HB2 HS2 HG3 hs
        by_cases hs0 : 1 ≤ x
        · have hs1 : ¬ x ≤ 65536 := by omega
          clear hx
          go_wp2_with fail
          go_roundw
          case rel => exact ⟨k + 1, by go_num, by omega, HO3, hb⟩
          case measure => simp [intOf]; omega
        · clear hx
          go_wp2_with fail
          go_roundw
          case rel => exact ⟨k + 1, by go_num, by omega, HO3, hb⟩
          case measure => simp [intOf]; omega
    · obtain rfl : k = L := by omega
      rw [HE.out] at HO
      go_wp2
      go_ret
      exact ⟨rfl, HO.out, hb⟩

set_option maxHeartbeats 1000000 in
theorem rchoose_bad (l : List Int) (v : Value) (w : World) (h : Ints w.heap.size w v l) (hok : okC l = false) :
    Calls Try.prog 17 #[v] w fun e w' => e = .returned (.tuple #[.int .i64 0, .int .i64 0, .int .i64 2]) ∧ w' = w := by
  obtain ⟨a, cap, rfl, hcap, h⟩ := h
  by_cases hlen : l.length = 17
  · have HC : Hid _ := h
    have HL : Hid (l ≠ []) := by intro q; rw [q] at hlen; simp at hlen
    have HN : Hid (¬ ∀ j, j < 17 → 0 ≤ l.getD j 0 ∧ l.getD j 0 ≤ 4294967296) := by
      intro q
      have : okC l = true := by
        simp only [okC, Bool.and_eq_true, beq_iff_eq, List.all_eq_true, decide_eq_true_eq]
        refine ⟨hlen, fun x hx => ?_⟩
        obtain ⟨j, hj, rfl⟩ := List.getElem_of_mem hx
        have := q j (by omega)
        rwa [List.getD, List.getElem?_eq_getElem hj] at this
      rw [this] at hok; cases hok
    clear h hcap hok
    rw [hlen] at HC ⊢
    clear hlen
    obtain ⟨g, off, rfl, hg, hc⟩ := HC.out HL.out
    have HC2 : Hid _ := hc
    clear HC HL hc hg
    go_enter Try.func17, Try.ntmps17
    go_wp2
    go_loop [5, 6] (fun s i => ∃ k : Nat, i = .int .i64 k ∧ k ≤ 17 ∧ (∃ z : Int, s = .int .i64 z ∧ 0 ≤ z ∧ z ≤ k * 4294967296) ∧ Hid (∀ j, j < k → 0 ≤ l.getD j 0 ∧ l.getD j 0 ≤ 4294967296)) (fun _ i => 17 - (intOf i).toNat)
    case atStart => exact ⟨0, rfl, by omega, ⟨0, rfl, by omega, by omega⟩, fun j hj => absurd hj (by omega)⟩
    case round =>
      obtain ⟨k, rfl, hk, ⟨S, rfl, hS0, hS1⟩, HT⟩ := hrel
      have hS2 : S ≤ 73014444032 := by
        have : (k : Int) * 4294967296 ≤ 17 * 4294967296 := Int.mul_le_mul_of_nonneg_right (by omega) (by omega)
        omega
      by_cases hlt : k < 17
      · have c1 := HC2.out k hlt
        have hlt' : (k : Int) < 17 := by omega
        have HX : Hid (0 ≤ l.getD k 0 ∧ l.getD k 0 ≤ 4294967296 → ∀ j, j < k + 1 → 0 ≤ l.getD j 0 ∧ l.getD j 0 ≤ 4294967296) := by
          intro q j hj
          by_cases hjk : j = k
          · subst hjk; exact q
          · exact HT.out j (by omega)
        generalize l.getD k 0 = x at c1 HX
        by_cases h1 : x < 0
        · go_wp2
          go_ret3
          exact ⟨rfl, rfl⟩
        · by_cases h2 : 4294967296 < x
          · go_wp2
            go_ret3
            exact ⟨rfl, rfl⟩
          · have HX2 := HX.out (by omega)
            have HT2 : Hid _ := HX2
            have HS : Hid (S ≤ k * 4294967296) := hS1
            clear HX2 HX hS1
            go_wp2
            go_round
            case rel => exact ⟨k + 1, by go_num, by omega, ⟨_, rfl, by omega, by have := HS.out; omega⟩, HT2⟩
            case measure => simp [intOf]; omega
      · obtain rfl : k = 17 := by omega
        exact absurd HT.out HN.out
  · clear h hcap hok
    have hlen' : ¬ (l.length : Int) = 17 := by omega
    generalize l.length = L at *
    go_enter Try.func17, Try.ntmps17
    go_wp2
    go_ret3
    exact ⟨rfl, rfl⟩

theorem rchoose_any (l : List Int) (v : Value) (w : World) (h : Ints w.heap.size w v l) :
    Calls Try.prog 17 #[v] w fun e w' => e = .returned (.tuple #[.int .i64 (chA' l), .int .i64 (chN' l), .int .i64 (chE l)]) ∧ w' = w := by
  unfold chA' chN' chE
  cases hok : okC l
  · exact rchoose_bad l v w h hok
  · exact rchoose_ok l v w h hok

end Go.Proofs.Yteknjkofmkigoaa
