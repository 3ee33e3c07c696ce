/- Code points and their encodings have one order; the walk of the law RunesOrder. -/
import Derived.Test.YtoecfpedpibfiaaFix
namespace Go.Proofs.Ytoecfpedpibfiaa
open Go.RowKit

/-- The bytes of an encoding, as numbers. -/
def encL (r : Nat) : List Nat :=
  if r < 128 then [r]
  else if r < 2048 then [192 + r / 64, 128 + r % 64]
  else if r < 65536 then [224 + r / 4096, 128 + r / 64 % 64, 128 + r % 64]
  else [240 + r / 262144, 128 + r / 4096 % 64, 128 + r / 64 % 64, 128 + r % 64]
def lessL : List Nat → List Nat → Bool
  | _, [] => false
  | [], _ :: _ => true
  | a :: x, b :: y => decide (a < b) || (decide (a = b) && lessL x y)

theorem encB_iff (r : Int) : encB r = true ↔ 0 ≤ r ∧ r ≤ 1114111 ∧ (r < 55296 ∨ 57343 < r) := by simp [encB]
theorem encB_valid (r : Int) (h : encB r = true) : Utf8.valid r = true := by
  rw [encB_iff] at h
  simp [Utf8.valid]; omega

theorem encode_list (r : Int) (h : encB r = true) : (Utf8.encode r).toList = (encL r.toNat).map UInt8.ofNat := by
  rw [ByteArray.toList_eq]
  unfold Utf8.encode encL
  simp only [encB_valid r h, if_true]
  split
  · rfl
  · split
    · rfl
    · split <;> rfl

theorem encL_lt (r : Nat) (h : r ≤ 1114111) : ∀ x ∈ encL r, x < 256 := by
  unfold encL
  repeat' split
  all_goals (intro x hx; simp at hx; omega)

theorem less_map (x : List Nat) : ∀ y : List Nat, (∀ a ∈ x, a < 256) → (∀ a ∈ y, a < 256) → Op.bytesLess (x.map UInt8.ofNat) (y.map UInt8.ofNat) = lessL x y := by
  induction x with
  | nil => intro y _ _; cases y <;> rfl
  | cons a x ih =>
    intro y hx hy
    cases y with
    | nil => rfl
    | cons b y =>
      have ha := hx a (by simp)
      have hb := hy b (by simp)
      have h1 : (decide (UInt8.ofNat a < UInt8.ofNat b)) = decide (a < b) := by
        rw [decide_eq_decide, UInt8.lt_iff_toNat_lt]
        simp; omega
      have h2 : (UInt8.ofNat a == UInt8.ofNat b) = decide (a = b) := by
        rw [Bool.eq_iff_iff]
        simp only [beq_iff_eq, decide_eq_true_eq]
        constructor
        · intro h
          have := congrArg UInt8.toNat h
          simp at this
          omega
        · intro h; rw [h]
      simp only [List.map_cons, Op.bytesLess, lessL]
      rw [h1, h2, ih y (fun c hc => hx c (by simp [hc])) (fun c hc => hy c (by simp [hc]))]

theorem map_inj (x : List Nat) : ∀ y : List Nat, (∀ a ∈ x, a < 256) → (∀ a ∈ y, a < 256) → x.map UInt8.ofNat = y.map UInt8.ofNat → x = y := by
  induction x with
  | nil => intro y _ _ h; cases y <;> simp_all
  | cons a x ih =>
    intro y hx hy h
    cases y with
    | nil => simp at h
    | cons b y =>
      simp only [List.map_cons, List.cons.injEq] at h
      have ha := hx a (by simp)
      have hb := hy b (by simp)
      have := congrArg UInt8.toNat h.1
      simp at this
      rw [ih y (fun c hc => hx c (by simp [hc])) (fun c hc => hy c (by simp [hc])) h.2]
      congr 1
      omega

set_option maxHeartbeats 2000000 in
theorem encL_less (a b : Nat) (ha : a ≤ 1114111) (hb : b ≤ 1114111) : lessL (encL a) (encL b) = decide (a < b) := by
  unfold encL
  repeat' split
  all_goals (rw [Bool.eq_iff_iff]; first | (simp [lessL]; done) | (simp [lessL]; omega))
set_option maxHeartbeats 2000000 in
theorem encL_inj (a b : Nat) (ha : a ≤ 1114111) (hb : b ≤ 1114111) (h : encL a = encL b) : a = b := by
  unfold encL at h
  repeat' split at h
  all_goals first | (simp at h; done) | (simp at h; omega)

theorem order1 (a b : Int) (ha : encB a = true) (hb : encB b = true) : Op.bytesLess (encS a).toList (encS b).toList = decide (a < b) := by
  have h1 := (encB_iff a).1 ha
  have h2 := (encB_iff b).1 hb
  simp only [encS, ha, hb, if_true]
  rw [encode_list a ha, encode_list b hb, less_map _ _ (encL_lt _ (by omega)) (encL_lt _ (by omega)), encL_less _ _ (by omega) (by omega), decide_eq_decide]
  omega
theorem order2 (a b : Int) (ha : encB a = true) (hb : encB b = true) : ((encS a).toList == (encS b).toList) = decide (a = b) := by
  have h1 := (encB_iff a).1 ha
  have h2 := (encB_iff b).1 hb
  simp only [encS, ha, hb, if_true]
  rw [Bool.eq_iff_iff, beq_iff_eq, decide_eq_true_eq]
  constructor
  · intro h
    rw [encode_list a ha, encode_list b hb] at h
    have := encL_inj _ _ (by omega) (by omega) (map_inj _ _ (encL_lt _ (by omega)) (encL_lt _ (by omega)) h)
    omega
  · intro h; rw [h]

theorem beq_dec (a b : Int) : ((a == b) == decide (a = b)) = true := by
  by_cases h : a = b <;> simp [h]

set_option maxHeartbeats 1000000 in
theorem order_walk (a b : Int) (w : World) : Calls Try.prog 8 #[.int .i64 a, .int .i64 b] w fun e w' => e = .returned (.bool true) ∧ Below w.heap.size w w' := by
  cases ha : encB a
  · have e1 : encS a = { data := #[] } := by simp [encS, ha]
    have e2 : encE a = 3 := by simp [encE, ha]
    go_enter Try.func8, Try.ntmps8
    go_wp2_with (first
      | (go_at_call 23; refine (encode_any _ _).mono ?_; rintro e w' ⟨rfl, rfl⟩)
      | (go_at_call 9; refine (fixed_any _).mono ?_; rintro e w' ⟨rfl, hb⟩))
    go_ret
    exact ⟨rfl, by assumption⟩
  · cases hb : encB b
    · have e1 : encE a = 0 := by simp [encE, ha]
      have e2 : encE b = 3 := by simp [encE, hb]
      go_enter Try.func8, Try.ntmps8
      go_wp2_with (first
        | (go_at_call 23; refine (encode_any _ _).mono ?_; rintro e w' ⟨rfl, rfl⟩)
        | (go_at_call 9; refine (fixed_any _).mono ?_; rintro e w' ⟨rfl, hb⟩))
      go_ret
      exact ⟨rfl, by assumption⟩
    · have e1 : encE a = 0 := by simp [encE, ha]
      have e2 : encE b = 0 := by simp [encE, hb]
      have o1 := order1 a b ha hb
      have o2 := order2 a b ha hb
      clear ha hb
      go_enter Try.func8, Try.ntmps8
      go_wp2_with (first
        | (go_at_call 23; refine (encode_any _ _).mono ?_; rintro e w' ⟨rfl, rfl⟩)
        | (go_at_call 9; refine (fixed_any _).mono ?_; rintro e w' ⟨rfl, hb⟩))
      go_ret
      exact ⟨ret_bool (beq_dec a b), by assumption⟩

#print axioms order_walk
end Go.Proofs.Ytoecfpedpibfiaa
