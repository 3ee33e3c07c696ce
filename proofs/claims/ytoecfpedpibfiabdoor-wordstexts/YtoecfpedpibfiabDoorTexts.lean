/- The walks of the reference's Read and of the law WordsTexts. -/
import Derived.Test.YtoecfpedpibfiabDoorRfmu
namespace Go.Proofs.YtoecfpedpibfiabDoor
open Go.RowKit

set_option maxHeartbeats 1000000 in
theorem rread2_any (s : ByteArray) (w : World) (hs : s.size ≤ maxLen) :
    Calls Tryd.prog 23 #[.string s] w fun e w' => e = .returned (.tuple #[.int .i64 (readN s.data.toList), .int .i64 (readE s.data.toList)]) ∧ w' = w := by
  have hs' := hs
  unfold maxLen at hs'
  have HX : Hid _ := minus_iff s
  have he : (s.extract 1 s.size).size ≤ maxLen := by
    rw [ByteArray.size_extract]; unfold maxLen; omega
  have hl : (s.extract 1 s.size).data.toList = s.data.toList.tail := by rw [Lib.extract_to_end, List.drop_one]
  have C1 := fun w => rread_any (s.extract 1 s.size) true w he
  have C2 := fun w => rread_any s false w hs
  rw [hl] at C1
  simp only [if_true, Bool.false_eq_true, if_false] at C1 C2
  clear hl
  by_cases hp : 0 < s.size
  · by_cases h45 : s[0].toNat = 45
    · have h45' : ((s[0].toNat : Int) == 45) = true := by simp; omega
      have hmi := HX.out.2 ⟨hp, h45⟩
      have e1 : readN s.data.toList = negN s.data.toList.tail := by simp [readN, hmi]
      have e2 : readE s.data.toList = numE s.data.toList.tail 9223372036854775808 := by simp [readE, hmi]
      rw [e1, e2]
      clear hmi e1 e2 h45
      go_enter Tryd.func23, Tryd.ntmps23
      go_wp2_with (go_at_call 32; refine (C1 _).mono ?_; rintro e w' ⟨rfl, rfl⟩)
      go_ret2
      exact ⟨rfl, rfl⟩
    · have h45' : ((s[0].toNat : Int) == 45) = false := by simp; omega
      have hmi : minus s.data.toList = false := by
        rw [← Bool.not_eq_true]; intro h; exact h45 (HX.out.1 h).2
      have e1 : readN s.data.toList = parN s.data.toList := by simp [readN, hmi]
      have e2 : readE s.data.toList = parE s.data.toList := by simp [readE, hmi]
      rw [e1, e2]
      clear hmi e1 e2 h45
      go_enter Tryd.func23, Tryd.ntmps23
      go_wp2_with (go_at_call 32; refine (C2 _).mono ?_; rintro e w' ⟨rfl, rfl⟩)
      go_ret2
      exact ⟨rfl, rfl⟩
  · have hmi : minus s.data.toList = false := by
      rw [← Bool.not_eq_true]; intro h; exact hp (HX.out.1 h).1
    have e1 : readN s.data.toList = parN s.data.toList := by simp [readN, hmi]
    have e2 : readE s.data.toList = parE s.data.toList := by simp [readE, hmi]
    rw [e1, e2]
    clear hmi e1 e2
    go_enter Tryd.func23, Tryd.ntmps23
    go_wp2_with (go_at_call 32; refine (C2 _).mono ?_; rintro e w' ⟨rfl, rfl⟩)
    go_ret2
    exact ⟨rfl, rfl⟩

theorem itoaS_size (n : Int) (h0 : -9223372036854775808 ≤ n) (h1 : n ≤ 9223372036854775807) : (itoaS n).size ≤ 20 := by
  have e : (itoaS n).size = (Lib.itoa n).length := by simp [itoaS, ByteArray.size]
  rw [e]
  unfold Lib.itoa
  split
  · have := digs_len10 18 n.natAbs (by omega)
    simp only [List.length_cons]; omega
  · have := digs_len10 18 n.toNat (by omega)
    omega

theorem read_itoa (n : Int) (h0 : -9223372036854775808 ≤ n) (h1 : n ≤ 9223372036854775807) : readN (itoaS n).data.toList = n ∧ readE (itoaS n).data.toList = 0 := by
  have e : (itoaS n).data.toList = Lib.itoa n := by simp [itoaS]
  rw [e]
  unfold Lib.itoa
  split
  · rename_i h
    have hm : minus (45 :: Lib.decDigits n.natAbs) = true := rfl
    obtain ⟨e1, e2⟩ := num_dec _ 9223372036854775808 (digs_all n.natAbs) (digs_ne n.natAbs)
    unfold readN readE negN
    rw [if_pos hm, if_pos hm, List.tail_cons, e1, e2, digs_val, if_neg (by omega), if_neg (by omega)]
    exact ⟨by unfold wrap64; omega, rfl⟩
  · rename_i h
    have hm : minus (Lib.decDigits n.toNat) = false := by
      have ha := digs_all n.toNat
      cases hd : Lib.decDigits n.toNat with
      | nil => rfl
      | cons a l =>
        rw [hd] at ha
        simp only [allDec, List.all_cons, Bool.and_eq_true, decide_eq_true_eq] at ha
        simp only [minus, decide_eq_false_iff_not]
        rintro rfl
        have := ha.1
        simp at this
    obtain ⟨e1, e2⟩ := num_dec _ 9223372036854775807 (digs_all n.toNat) (digs_ne n.toNat)
    unfold readN readE parN parE
    rw [hm]
    simp only [Bool.false_eq_true, if_false]
    rw [e1, e2, digs_val, if_neg (by omega), if_neg (by omega)]
    exact ⟨by unfold wrap64; omega, rfl⟩

set_option maxHeartbeats 2000000 in
theorem texts_walk (s : ByteArray) (n : Int) (w : World) (hs : s.size ≤ maxLen) (h0 : -9223372036854775808 ≤ n) (h1 : n ≤ 9223372036854775807)
    (htab : Lib.TabIs Tryd.prog w "internal/strconv.uint64pow10" .u64 Lib.pow10Tab) : Calls Tryd.prog 5 #[.string s, .int .i64 n] w fun e w' => e = .returned (.bool true) ∧ Below w.heap.size w w' := by
  have hz : (itoaS n).size ≤ maxLen := by have := itoaS_size n h0 h1; unfold maxLen; omega
  have C1 := fun w => read_any (itoaS n) w hz
  rw [(read_itoa n h0 h1).1, (read_itoa n h0 h1).2] at C1
  have C2 := fun w => read_any s w hs
  have H0 : Hid _ := h0
  have H1 : Hid _ := h1
  have HS : Hid _ := hs
  clear h0 h1 hs hz
  go_enter Tryd.func5, Tryd.ntmps5
  go_wp2_with (first
    | (go_at_call 18; refine (parse_any _ _ HS.out).mono ?_; rintro e w' ⟨rfl, rfl⟩)
    | (go_at_call 19; refine (rparse_any _ _ HS.out).mono ?_; rintro e w' ⟨rfl, rfl⟩)
    | (go_at_call 10; refine (fixed_any _ htab).mono ?_; rintro e w1 ⟨rfl, hb1⟩; have htab1 := tab_below htab hb1)
    | (go_at_call 20; refine (format_any _ _ H0.out H1.out (by assumption)).mono ?_; rintro e w2 ⟨rfl, hb2⟩; have htab2 := tab_below htab1 hb2)
    | (go_at_call 21; refine (rfmt_any _ _ H0.out H1.out).mono ?_; rintro e w3 ⟨rfl, hb3⟩; have htab3 := tab_below htab2 hb3)
    | (go_at_call 23; refine (rread2_any _ _ HS.out).mono ?_; rintro e w' ⟨rfl, rfl⟩))
  refine (C2 _).mono ?_
  rintro e w' ⟨rfl, rfl⟩
  go_wp2_with (first
    | (go_at_call 23; refine (rread2_any _ _ HS.out).mono ?_; rintro e w' ⟨rfl, rfl⟩)
    | (go_at_call 20; refine (format_any _ _ H0.out H1.out (by assumption)).mono ?_; rintro e w4 ⟨rfl, hb4⟩))
  refine (C1 _).mono ?_
  rintro e w' ⟨rfl, rfl⟩
  go_wp2
  go_ret
  exact ⟨rfl, (((hb1.trans (hb2.mono hb1.size)).trans (hb3.mono (Nat.le_trans hb1.size hb2.size)))).trans (hb4.mono (Nat.le_trans hb1.size (Nat.le_trans hb2.size hb3.size)))⟩

#print axioms texts_walk
end Go.Proofs.YtoecfpedpibfiabDoor
