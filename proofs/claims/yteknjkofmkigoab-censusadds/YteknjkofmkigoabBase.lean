/- Lists of whole numbers in memory; the walks of few, of the comparison, of areCounts and of both Chooses. -/
import Derived.Test.YteknjkofmkigoabProg
import Derived.WalkKit
import Derived.WalkSpells
import Derived.Below
import Derived.MapKept
import Derived.RegionTactic
import Derived.Laws.BitsAllLaws
import Derived.Laws.MakeOwn
import Derived.OwnWalk
import Derived.Tactics
import Derived.Tactics2
import Derived.LoopTactic
namespace Go.Proofs.Yteknjkofmkigoab
open Go.RowKit

/-- The value reads as the list, in a block below N. -/
def Ints (N : Nat) (w : World) (v : Value) (l : List Int) : Prop :=
  ∃ a cap, v = .slice a l.length cap ∧ l.length ≤ cap ∧ (l ≠ [] → ∃ b off, a = some ⟨b, off, none⟩ ∧ b < N ∧ ∀ i, i < l.length → w.cell? ⟨b, off + i, none⟩ = some (.int .i64 (l.getD i 0)))

theorem Ints.below {N : Nat} {w w' : World} {v : Value} {l : List Int} (h : Ints N w v l) (hb : Below N w w') : Ints N w' v l := by
  obtain ⟨a, cap, rfl, hc, h⟩ := h
  refine ⟨a, cap, rfl, hc, fun hl => ?_⟩
  obtain ⟨b, off, rfl, hg, hx⟩ := h hl
  exact ⟨b, off, rfl, hg, fun i hi => by rw [hb.cell (by exact hg)]; exact hx i hi⟩
theorem Ints.mono {N N' : Nat} {w : World} {v : Value} {l : List Int} (h : Ints N w v l) (hN : N ≤ N') : Ints N' w v l := by
  obtain ⟨a, cap, rfl, hc, h⟩ := h
  refine ⟨a, cap, rfl, hc, fun hl => ?_⟩
  obtain ⟨b, off, rfl, hg, hx⟩ := h hl
  exact ⟨b, off, rfl, by omega, hx⟩
theorem Ints.go {w w' : World} {v : Value} {l : List Int} (h : Ints w.heap.size w v l) (hb : Below w.heap.size w w') : Ints w'.heap.size w' v l := (h.below hb).mono hb.size
theorem bthen {N : Nat} {w w1 w2 : World} (h : Below N w w1) (hN : N ≤ w1.heap.size) (h2 : Below w1.heap.size w1 w2) : Below N w w2 := h.trans (h2.mono hN)

theorem retB {x b : Bool} (h : x = b) : Ending.returned (.bool b) = .returned (.bool x) := by rw [h]
theorem ret1 {a b : Int} (h : a = b) : Ending.returned (.int .i64 a) = .returned (.int .i64 b) := by rw [h]
theorem ret2 {a b c d : Int} (h : a = b) (h2 : c = d) : Ending.returned (.tuple #[.int .i64 a, .int .i64 c]) = .returned (.tuple #[.int .i64 b, .int .i64 d]) := by rw [h, h2]
theorem ret3 {a b c d e f : Int} (h : a = b) (h2 : c = d) (h3 : e = f) : Ending.returned (.tuple #[.int .i64 a, .int .i64 c, .int .i64 e]) = .returned (.tuple #[.int .i64 b, .int .i64 d, .int .i64 f]) := by rw [h, h2, h3]

set_option maxHeartbeats 1000000 in
/-- The comparison of two lists of one length. -/
theorem same_walk (l m : List Int) (v v' : Value) (w : World) (h : Ints w.heap.size w v l) (h' : Ints w.heap.size w v' m) (hlen : l.length = m.length) (hbig : l.length ≤ 1000000) :
    Calls Try.prog 13 #[v, v'] w fun e w' => e = .returned (.bool (decide (l = m))) ∧ Below w.heap.size w w' := by
  obtain ⟨a, cap, rfl, hcap, h⟩ := h
  obtain ⟨a', cap', rfl, hcap', h'⟩ := h'
  have HC : Hid _ := h
  have HC' : Hid _ := h'
  have HE : Hid (∀ k, k ≤ l.length → l.take k = m.take k → ¬ k < l.length → decide (l = m) = true) := by
    intro k hk ht hkl
    have : k = l.length := by omega
    subst this
    rw [List.take_length, List.take_of_length_le (by omega)] at ht
    simpa using ht
  have HS : Hid (∀ k, k < l.length → l.take k = m.take k → l.getD k 0 = m.getD k 0 → l.take (k + 1) = m.take (k + 1)) := by
    intro k hk ht hx
    rw [List.take_add_one, List.take_add_one, ht]
    congr 1
    rw [List.getElem?_eq_getElem hk, List.getElem?_eq_getElem (by omega)]
    simp only [List.getD, List.getElem?_eq_getElem hk, List.getElem?_eq_getElem (show k < m.length by omega), Option.getD_some] at hx
    rw [hx]
  have HN : Hid (∀ k, k < l.length → ¬ l.getD k 0 = m.getD k 0 → decide (l = m) = false) := by
    intro k hk hx
    simp only [decide_eq_false_iff_not]
    intro e; rw [e] at hx; exact hx rfl
  have HL : Hid (l ≠ [] ↔ 0 < l.length) := by
    show _ ↔ _
    cases l <;> simp
  have HM : Hid (m ≠ [] ↔ 0 < l.length) := by
    show _ ↔ _
    rw [hlen]; cases m <;> simp
  clear h h'
  rw [← hlen] at HC' hcap' ⊢
  obtain ⟨L, hL⟩ : ∃ L, l.length = L := ⟨_, rfl⟩
  rw [hL] at HC HC' HE HS HN HL HM hbig ⊢
  clear hL hcap hcap' hlen
  go_enter Try.func13, Try.ntmps13
  go_wp2
  go_loopw [5] (fun i wr => ∃ k : Nat, i = .int .i64 k ∧ k ≤ L ∧ Hid (l.take k = m.take k) ∧ Below w.heap.size w wr) (fun i _ => L - (intOf i).toNat)
  case atStart => exact ⟨0, rfl, by omega, by rfl, Below.refl _ _⟩
  case round =>
    obtain ⟨k, rfl, hk, HT, hb⟩ := hrel
    by_cases hlt : k < L
    · have hlt' : (k : Int) < (L : Int) := by omega
      obtain ⟨g, off, rfl, hg, hc⟩ := HC.out (HL.out.2 (by omega))
      obtain ⟨g', off', rfl, hg', hc'⟩ := HC'.out (HM.out.2 (by omega))
      have c1 : wr.cell? ⟨g, off + k, none⟩ = some (.int .i64 (l.getD k 0)) := by rw [hb.cell (by exact hg)]; exact hc k hlt
      have c2 : wr.cell? ⟨g', off' + k, none⟩ = some (.int .i64 (m.getD k 0)) := by rw [hb.cell (by exact hg')]; exact hc' k hlt
      clear hc hc'
      by_cases hx : l.getD k 0 = m.getD k 0
      · have HT2 : Hid (l.take (k + 1) = m.take (k + 1)) := HS.out k hlt HT.out hx
        rw [← hx] at c2
        clear hx
        generalize l.getD k 0 = x at c1 c2
        go_wp2
        go_region
        go_wp2
        go_roundw
        case rel => exact ⟨k + 1, by go_num, by omega, HT2, hb.drew⟩
        case measure => simp [intOf]; omega
      · have HD : Hid (decide (l = m) = false) := HN.out k hlt hx
        have hx' : (l.getD k 0 == m.getD k 0) = false := by simpa using hx
        have hx'' : (l.getD k 0 != m.getD k 0) = true := by simpa using hx
        generalize l.getD k 0 = x at c1 hx hx' hx''
        generalize m.getD k 0 = y at c2 hx hx' hx''
        go_wp2
        go_region
        go_wp2
        go_ret
        exact ⟨retB HD.out, hb.drew⟩
    · have HD : Hid (decide (l = m) = true) := HE.out k hk HT.out hlt
      go_wp2
      go_ret
      exact ⟨retB HD.out, hb⟩

/-! ### few -/
theorem fewLen (l : List Int) : (l.take 3000).length ≤ 3000 := by simp; omega

set_option maxHeartbeats 1000000 in
theorem few_any (l : List Int) (v : Value) (w : World) (h : Ints w.heap.size w v l) (hbig : l.length ≤ 9223372036854775807) :
    Calls Try.prog 10 #[v] w fun e w' => ∃ v', e = .returned v' ∧ w' = w ∧ Ints w.heap.size w v' (l.take 3000) := by
  obtain ⟨a, cap, rfl, hcap, h⟩ := h
  have HC : Hid _ := h
  clear h
  by_cases hlt : l.length ≤ 3000
  · have HT : Hid (l.take 3000 = l) := List.take_of_length_le hlt
    have HI : Hid (Ints w.heap.size w (.slice a l.length cap) l) := ⟨a, cap, rfl, hcap, HC.out⟩
    clear HC
    generalize l.length = L at *
    go_enter Try.func10, Try.ntmps10
    go_wp2
    go_ret
    refine ⟨_, rfl, rfl, ?_⟩
    rw [HT.out]; exact HI.out
  · have hc3 : 3000 ≤ cap := by omega
    have HI : Hid (Ints w.heap.size w (.slice a 3000 cap) (l.take 3000)) := by
      have e : (l.take 3000).length = 3000 := by simp; omega
      refine ⟨a, cap, by rw [e], by rw [e]; exact hc3, fun hl => ?_⟩
      obtain ⟨b, off, h1, h2, h3⟩ := HC.out (fun q => by rw [q] at hlt; simp at hlt)
      refine ⟨b, off, h1, h2, fun i hi => ?_⟩
      rw [e] at hi
      rw [h3 i (by omega)]
      simp [List.getD, hi]
    clear HC
    generalize l.length = L at *
    go_enter Try.func10, Try.ntmps10
    go_wp2
    go_ret
    exact ⟨_, rfl, rfl, HI.out⟩

/-! ### Choose -/
def okC (l : List Int) : Bool := l.length == 17 && l.all (fun n => decide (0 ≤ n ∧ n ≤ 4294967296))
def pre (l : List Int) (k : Nat) : Int := (l.take k).sum
def chA (l : List Int) : Nat → Int
  | 0 => 0
  | k + 1 => if 2 ^ k < 2 * pre l (k + 1) then 2 ^ k else chA l k
def chN (l : List Int) : Nat → Int
  | 0 => 0
  | k + 1 => if 2 ^ k < 2 * pre l (k + 1) then pre l (k + 1) else chN l k
def chE (l : List Int) : Int := if okC l then 0 else 2
def chA' (l : List Int) : Int := if okC l then chA l 17 else 0
def chN' (l : List Int) : Int := if okC l then chN l 17 else 0

theorem pre_succ (l : List Int) (k : Nat) (h : k < l.length) : pre l (k + 1) = pre l k + l.getD k 0 := by
  have e : l.take (k + 1) = l.take k ++ [l.getD k 0] := by
    rw [List.take_add_one, List.getD, List.getElem?_eq_getElem h]; rfl
  unfold pre
  rw [e, List.sum_append]
  simp
theorem okC_get {l : List Int} (h : okC l = true) (k : Nat) (hk : k < 17) : 0 ≤ l.getD k 0 ∧ l.getD k 0 ≤ 4294967296 := by
  simp only [okC, Bool.and_eq_true, beq_iff_eq, List.all_eq_true, decide_eq_true_eq] at h
  have hk' : k < l.length := by omega
  rw [List.getD, List.getElem?_eq_getElem hk']
  exact h.2 _ (List.getElem_mem hk')
theorem okC_len {l : List Int} (h : okC l = true) : l.length = 17 := by
  simp only [okC, Bool.and_eq_true, beq_iff_eq] at h
  exact h.1
theorem pre_bound {l : List Int} (h : okC l = true) (k : Nat) (hk : k ≤ 17) : 0 ≤ pre l k ∧ pre l k ≤ k * 4294967296 := by
  induction k with
  | zero => simp [pre]
  | succ k ih =>
    have h1 := ih (by omega)
    have h2 := okC_get h k (by omega)
    rw [pre_succ l k (by rw [okC_len h]; omega)]
    omega
theorem pow_int (k : Nat) : ((2 ^ k : Nat) : Int) = (2 : Int) ^ k := by simp
theorem wrap64_id (x : Int) (h0 : -9223372036854775808 ≤ x) (h1 : x ≤ 9223372036854775807) : wrap64 x = x := by unfold wrap64; omega
theorem pow_fit (k : Nat) (h : k ≤ 62) : wrap64 (2 ^ k) = 2 ^ k := by
  have h1 := Nat.pow_le_pow_right (n := 2) (by omega) h
  have h2 := pow_int k
  rw [← h2]
  generalize 2 ^ k = P at h1
  exact wrap64_id _ (by omega) (by omega)
theorem pow16 (k : Nat) (h : k ≤ 16) : (1 : Int) ≤ 2 ^ k ∧ (2 : Int) ^ k ≤ 65536 := by
  have h1 := Nat.pow_le_pow_right (n := 2) (by omega) h
  have h2 := pow_int k
  have h3 : 0 < 2 ^ k := Nat.two_pow_pos k
  omega

set_option maxHeartbeats 1000000 in
theorem are_any (l : List Int) (v : Value) (w : World) (h : Ints w.heap.size w v l) :
    Calls Try.prog 35 #[v] w fun e w' => e = .returned (.bool (okC l)) ∧ w' = w := by
  obtain ⟨a, cap, rfl, hcap, h⟩ := h
  by_cases hlen : l.length = 17
  · have HC : Hid _ := h
    have HL : Hid (l ≠ []) := by intro q; rw [q] at hlen; simp at hlen
    have HY : Hid (∀ k, k < 17 → (∀ j, j < k → 0 ≤ l.getD j 0 ∧ l.getD j 0 ≤ 4294967296) → ¬ (0 ≤ l.getD k 0 ∧ l.getD k 0 ≤ 4294967296) → okC l = false) := by
      intro k hk _ hx
      rw [Bool.eq_false_iff]
      intro q
      exact hx (okC_get q k hk)
    have HN : Hid ((∀ j, j < 17 → 0 ≤ l.getD j 0 ∧ l.getD j 0 ≤ 4294967296) → okC l = true) := by
      intro q
      simp only [okC, Bool.and_eq_true, beq_iff_eq, List.all_eq_true, decide_eq_true_eq]
      refine ⟨hlen, fun x hx => ?_⟩
      obtain ⟨j, hj, rfl⟩ := List.getElem_of_mem hx
      have := q j (by omega)
      rwa [List.getD, List.getElem?_eq_getElem hj] at this
    clear h hcap
    rw [hlen] at HC ⊢
    clear hlen
    go_enter Try.func35, Try.ntmps35
    go_wp2
    go_loop [10] (fun i => ∃ k : Nat, i = .int .i64 k ∧ k ≤ 17 ∧ Hid (∀ j, j < k → 0 ≤ l.getD j 0 ∧ l.getD j 0 ≤ 4294967296)) (fun i => 17 - (intOf i).toNat)
    case atStart => exact ⟨0, rfl, by omega, fun j hj => absurd hj (by omega)⟩
    case round =>
      obtain ⟨k, rfl, hk, HT⟩ := hrel
      by_cases hlt : k < 17
      · obtain ⟨g, off, rfl, hg, hc⟩ := HC.out HL.out
        have c1 := hc k hlt
        have hlt' : (k : Int) < 17 := by omega
        clear hc
        have HX : Hid (0 ≤ l.getD k 0 ∧ l.getD k 0 ≤ 4294967296 → ∀ j, j < k + 1 → 0 ≤ l.getD j 0 ∧ l.getD j 0 ≤ 4294967296) := by
          intro q j hj
          by_cases hjk : j = k
          · subst hjk; exact q
          · exact HT.out j (by omega)
        have HZ : Hid (¬ (0 ≤ l.getD k 0 ∧ l.getD k 0 ≤ 4294967296) → okC l = false) := HY.out k hlt HT.out
        generalize l.getD k 0 = x at c1 HX HZ
        by_cases h1 : x < 0
        · have HF : Hid (okC l = false) := HZ.out (by omega)
          go_wp2
          go_ret
          exact ⟨retB HF.out, rfl⟩
        · by_cases h2 : 4294967296 < x
          · have HF : Hid (okC l = false) := HZ.out (by omega)
            go_wp2
            go_ret
            exact ⟨retB HF.out, rfl⟩
          · have HX2 := HX.out (by omega)
            have HT2 : Hid _ := HX2
            clear HX2 HX HZ
            go_wp2
            go_round
            case rel => exact ⟨k + 1, by go_num, by omega, HT2⟩
            case measure => simp [intOf]; omega
      · obtain rfl : k = 17 := by omega
        go_wp2
        go_ret
        exact ⟨retB (HN.out HT.out), rfl⟩
  · have HN : Hid (okC l = false) := by
      rw [show (okC l = false) = _ from rfl, Bool.eq_false_iff]
      intro q; exact hlen (okC_len q)
    clear h hcap
    have hlen' : ¬ (l.length : Int) = 17 := by omega
    generalize l.length = L at *
    go_enter Try.func35, Try.ntmps35
    go_wp2
    go_ret
    exact ⟨retB HN.out, rfl⟩

theorem chA_succ (l : List Int) (k : Nat) : chA l (k + 1) = if 2 ^ k < 2 * pre l (k + 1) then 2 ^ k else chA l k := rfl
theorem chN_succ (l : List Int) (k : Nat) : chN l (k + 1) = if 2 ^ k < 2 * pre l (k + 1) then pre l (k + 1) else chN l k := rfl

set_option maxHeartbeats 1000000 in
theorem choose_ok (l : List Int) (v : Value) (w : World) (h : Ints w.heap.size w v l) (hok : okC l = true) :
    Calls Try.prog 12 #[v] w fun e w' => e = .returned (.tuple #[.int .i64 (chA l 17), .int .i64 (chN l 17), .int .i64 0]) ∧ w' = w := by
  have C1 := are_any l v w h
  rw [hok] at C1
  obtain ⟨a, cap, rfl, hcap, h⟩ := h
  have HC : Hid _ := h
  have HL : Hid (l ≠ []) := by intro q; have := okC_len hok; rw [q] at this; simp at this
  have HG : Hid (∀ k, k < 17 → 0 ≤ l.getD k 0 ∧ l.getD k 0 ≤ 4294967296) := fun k hk => okC_get hok k hk
  have HB : Hid (∀ k, k ≤ 17 → 0 ≤ pre l k ∧ pre l k ≤ k * 4294967296) := fun k hk => pre_bound hok k hk
  have HS : Hid (∀ k, k < 17 → pre l (k + 1) = pre l k + l.getD k 0) := fun k hk => pre_succ l k (by rw [okC_len hok]; exact hk)
  clear h hcap
  rw [okC_len hok] at HC C1 ⊢
  clear hok
  go_enter Try.func12, Try.ntmps12
  go_wp2_with (go_at_call 35; refine C1.mono ?_; rintro e w' ⟨rfl, rfl⟩)
  go_loop [5, 6, 7, 16] (fun a n s i => ∃ k : Nat, i = .int .i64 k ∧ k ≤ 17 ∧ ∃ x y z : Int, a = .int .i64 x ∧ n = .int .i64 y ∧ s = .int .i64 z ∧ Hid (x = chA l k ∧ y = chN l k ∧ z = pre l k)) (fun _ _ _ i => 17 - (intOf i).toNat)
  case atStart => exact ⟨0, rfl, by omega, 0, 0, 0, rfl, rfl, rfl, rfl, rfl, rfl⟩
  case round =>
    obtain ⟨k, rfl, hk, A, N, S, rfl, rfl, rfl, HT⟩ := hrel
    by_cases hlt : k < 17
    · obtain ⟨g, off, rfl, hg, hc⟩ := HC.out HL.out
      have c1 := hc k hlt
      have hlt' : (k : Int) < 17 := by omega
      clear hc
      have hx := HG.out k hlt
      have hS := HB.out k (by omega)
      rw [← HT.out.2.2] at hS
      have hS1 : S ≤ 73014444032 := by
        have := hS.2
        have : (k : Int) * 4294967296 ≤ 17 * 4294967296 := Int.mul_le_mul_of_nonneg_right (by omega) (by omega)
        omega
      have HN : Hid (pre l (k + 1) = S + l.getD k 0) := by rw [HT.out.2.2]; exact HS.out k hlt
      have hp := pow_fit k (by omega)
      have hp2 := pow16 k (by omega)
      have HA : Hid (∀ P : Int, (2 : Int) ^ k = P → P < 2 * (S + l.getD k 0) → P = chA l (k + 1) ∧ S + l.getD k 0 = chN l (k + 1) ∧ S + l.getD k 0 = pre l (k + 1)) := by
        intro P hP hq
        rw [chA_succ, chN_succ, HN.out, hP, if_pos hq, if_pos hq]
        exact ⟨rfl, rfl, rfl⟩
      have HB : Hid (∀ P : Int, (2 : Int) ^ k = P → ¬ P < 2 * (S + l.getD k 0) → A = chA l (k + 1) ∧ N = chN l (k + 1) ∧ S + l.getD k 0 = pre l (k + 1)) := by
        intro P hP hq
        rw [chA_succ, chN_succ, HN.out, hP, if_neg hq, if_neg hq]
        exact ⟨HT.out.1, HT.out.2.1, rfl⟩
      have hS0 := hS.1
      clear hS HN HT
      generalize l.getD k 0 = x at *
      by_cases hq : (2 : Int) ^ k < 2 * (S + x)
      · have HR : Hid _ := HA.out _ rfl hq
        clear HA HB
        go_wp2
        go_round
        case rel => exact ⟨k + 1, by go_num, by omega, _, _, _, rfl, rfl, rfl, HR⟩
        case measure => simp [intOf]; omega
      · have HR : Hid _ := HB.out _ rfl hq
        clear HA HB
        go_wp2
        go_round
        case rel => exact ⟨k + 1, by go_num, by omega, _, _, _, rfl, rfl, rfl, HR⟩
        case measure => simp [intOf]; omega
    · obtain rfl : k = 17 := by omega
      go_wp2
      go_ret3
      exact ⟨ret3 HT.out.1 HT.out.2.1 rfl, rfl⟩

set_option maxHeartbeats 1000000 in
theorem choose_bad (l : List Int) (v : Value) (w : World) (h : Ints w.heap.size w v l) (hok : okC l = false) :
    Calls Try.prog 12 #[v] w fun e w' => e = .returned (.tuple #[.int .i64 0, .int .i64 0, .int .i64 2]) ∧ w' = w := by
  have C1 := are_any l v w h
  rw [hok] at C1
  obtain ⟨a, cap, rfl, hcap, h⟩ := h
  clear h hcap hok
  generalize l.length = L at *
  go_enter Try.func12, Try.ntmps12
  go_wp2_with (go_at_call 35; refine C1.mono ?_; rintro e w' ⟨rfl, rfl⟩)
  go_ret3
  exact ⟨rfl, rfl⟩

theorem choose_any (l : List Int) (v : Value) (w : World) (h : Ints w.heap.size w v l) :
    Calls Try.prog 12 #[v] w fun e w' => e = .returned (.tuple #[.int .i64 (chA' l), .int .i64 (chN' l), .int .i64 (chE l)]) ∧ w' = w := by
  unfold chA' chN' chE
  cases hok : okC l
  · exact choose_bad l v w h hok
  · exact choose_ok l v w h hok

end Go.Proofs.Yteknjkofmkigoab
