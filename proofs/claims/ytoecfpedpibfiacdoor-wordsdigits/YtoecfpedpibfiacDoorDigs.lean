/- The walk of the law WordsDigits. -/
import Derived.Test.YtoecfpedpibfiacDoorRead
namespace Go.Proofs.YtoecfpedpibfiacDoor
open Go.RowKit

theorem digs_len10 (k : Nat) : ∀ u, u < 10 ^ (k + 1) → (Lib.decDigits u).length ≤ k + 1 := by
  induction k with
  | zero =>
    intro u hu
    rw [digs_unfold, if_pos (by simpa using hu)]; simp
  | succ k ih =>
    intro u hu
    rw [digs_unfold]
    split
    · simp
    · have := ih (u / 10) (by rw [Nat.pow_succ] at hu; omega)
      simp only [List.length_append, List.length_cons, List.length_nil]
      omega

theorem itoaS_pos (n : Int) (h : 0 ≤ n) : itoaS n = ⟨(Lib.decDigits n.toNat).toArray⟩ := by
  unfold itoaS Lib.itoa; rw [if_neg (by omega)]
theorem itoaS_size (n : Int) (h : 0 ≤ n) (h1 : n ≤ 9223372036854775807) : (itoaS n).size ≤ 19 := by
  rw [itoaS_pos n h]
  have := digs_len10 18 n.toNat (by omega)
  simpa [ByteArray.size] using this
theorem itoaS_list (n : Int) (h : 0 ≤ n) : (itoaS n).data.toList = Lib.decDigits n.toNat := by rw [itoaS_pos n h]

/-- A text of digits behind others. -/
theorem dv_app (a b : List UInt8) : ∀ m : Nat, (a ++ b).foldl (fun m c => m * 10 + (dgV (c : UInt8).toNat).toNat) m = b.foldl (fun m c => m * 10 + (dgV (c : UInt8).toNat).toNat) (a.foldl (fun m c => m * 10 + (dgV (c : UInt8).toNat).toNat) m) := by
  intro m; rw [List.foldl_append]

theorem par_zeros (n : Int) (h : 0 ≤ n) (h1 : n ≤ 9223372036854775807) : parN (({ data := #[48, 48, 48] } : ByteArray) ++ itoaS n).data.toList = n ∧ parE (({ data := #[48, 48, 48] } : ByteArray) ++ itoaS n).data.toList = 0 := by
  have hl : (({ data := #[48, 48, 48] } : ByteArray) ++ itoaS n).data.toList = [48, 48, 48] ++ Lib.decDigits n.toNat := by
    rw [ByteArray.data_append, Array.toList_append, itoaS_list n h]
  have ha : allDec ([48, 48, 48] ++ Lib.decDigits n.toNat) = true := by
    have := digs_all n.toNat
    unfold allDec at this ⊢
    rw [List.all_append, this]; rfl
  have hv : dv ([48, 48, 48] ++ Lib.decDigits n.toNat) = n.toNat := by
    have := digs_val n.toNat
    unfold dv at this ⊢
    rw [dv_app]
    exact this
  obtain ⟨e1, e2⟩ := num_dec _ 9223372036854775807 ha rfl
  rw [hl]
  unfold parN parE
  rw [e1, e2, hv, if_neg (by omega), if_neg (by omega)]
  exact ⟨by rw [wrap64_id _ (by omega) (by omega)]; omega, rfl⟩

theorem read_minus (n : Int) (h : 0 ≤ n) (h1 : n ≤ 9223372036854775807) : readN (({ data := #[45] } : ByteArray) ++ itoaS n).data.toList = -n ∧ readE (({ data := #[45] } : ByteArray) ++ itoaS n).data.toList = 0 := by
  have hl : (({ data := #[45] } : ByteArray) ++ itoaS n).data.toList = 45 :: Lib.decDigits n.toNat := by
    rw [ByteArray.data_append, Array.toList_append, itoaS_list n h]; rfl
  have hm : minus (45 :: Lib.decDigits n.toNat) = true := rfl
  obtain ⟨e1, e2⟩ := num_dec _ 9223372036854775808 (digs_all n.toNat) (digs_ne n.toNat)
  rw [hl]
  unfold readN readE negN
  rw [if_pos hm, if_pos hm, List.tail_cons, e1, e2, digs_val, if_neg (by omega), if_neg (by omega)]
  refine ⟨?_, rfl⟩
  rw [wrap64_id (n.toNat : Int) (by omega) (by omega), wrap64_id _ (by omega) (by omega)]
  omega

theorem par_more (n d : Int) (h : 0 ≤ n) (h1 : n ≤ 9223372036854775807) (hd0 : 0 ≤ d) (hd1 : d ≤ 9) :
    parN (itoaS n ++ itoaS d).data.toList = (if 9223372036854775807 < 10 * n + d then 0 else 10 * n + d) ∧ parE (itoaS n ++ itoaS d).data.toList = (if 9223372036854775807 < 10 * n + d then 14 else 0) := by
  have e : Lib.decDigits d.toNat = [UInt8.ofNat (48 + d.toNat)] := by rw [digs_unfold, if_pos (by omega)]
  have hl : (itoaS n ++ itoaS d).data.toList = Lib.decDigits n.toNat ++ [UInt8.ofNat (48 + d.toNat)] := by
    rw [ByteArray.data_append, Array.toList_append, itoaS_list n h, itoaS_list d hd0, e]
  obtain ⟨o1, o2⟩ := dig_ok d.toNat (by omega)
  have ha : allDec (Lib.decDigits n.toNat ++ [UInt8.ofNat (48 + d.toNat)]) = true := by
    rw [allDec_snoc, digs_all, decide_eq_true o1]; rfl
  have hv : dv (Lib.decDigits n.toNat ++ [UInt8.ofNat (48 + d.toNat)]) = n.toNat * 10 + d.toNat := by rw [dv_snoc, digs_val, o2]
  obtain ⟨e1, e2⟩ := num_dec _ 9223372036854775807 ha (by simp)
  rw [hl]
  unfold parN parE
  have hz : ((n.toNat * 10 + d.toNat : Nat) : Int) = 10 * n + d := by omega
  rw [e1, e2, hv, hz]
  by_cases hb : 9223372036854775807 < 10 * n + d
  · simp only [if_pos hb]
    exact ⟨by unfold wrap64; omega, trivial⟩
  · simp only [if_neg hb]
    exact ⟨wrap64_id _ (by omega) (by omega), trivial⟩

set_option maxHeartbeats 4000000 in
theorem digits_core (n0 n d : Int) (w : World) (hn : (0 ≤ n0 ∧ n0 = n) ∨ (n0 < 0 ∧ wrap64 (-(wrap64 (n0 + 1))) = n)) (hn0 : 0 ≤ n) (hn1 : n ≤ 9223372036854775807) (hd0 : 0 ≤ d) (hd1 : d ≤ 9) (dd : Int) (hdd : wrap64 ((IntKind.u64.wrap dd).tmod 10) = d)
    (htab : Lib.TabIs Tryd.prog w "internal/strconv.uint64pow10" .u64 Lib.pow10Tab) :
    Calls Tryd.prog 3 #[.int .i64 n0, .int .i64 dd] w fun e w' => e = .returned (.bool true) ∧ Below w.heap.size w w' := by
  obtain ⟨p1, p2⟩ := par_zeros n hn0 hn1
  obtain ⟨p3, p4⟩ := read_minus n hn0 hn1
  obtain ⟨p5, p6⟩ := par_more n d hn0 hn1 hd0 hd1
  have z1 := itoaS_size n hn0 hn1
  have z2 := itoaS_size d hd0 (by omega)
  have s1 : (({ data := #[48, 48, 48] } : ByteArray) ++ itoaS n).size ≤ maxLen := by rw [ByteArray.size_append]; unfold maxLen; show 3 + _ ≤ _; omega
  have s2 : (({ data := #[45] } : ByteArray) ++ itoaS n).size ≤ maxLen := by rw [ByteArray.size_append]; unfold maxLen; show 1 + _ ≤ _; omega
  have s3 : (itoaS n ++ itoaS d).size ≤ maxLen := by rw [ByteArray.size_append]; unfold maxLen; omega
  have C1 := fun w => parse_any _ w s1
  have C2 := fun w => read_any _ w s2
  have C3 := fun w => parse_any _ w s3
  rw [p1, p2] at C1
  rw [p3, p4] at C2
  rw [p5, p6] at C3
  clear p1 p2 p3 p4 p5 p6 s1 s2 s3
  by_cases hbig : 9223372036854775807 < 10 * n + d
  · simp only [if_pos hbig] at C3
    have hq : (9223372036854775807 - d) / 10 < n := by omega
    rcases hn with ⟨hna, rfl⟩ | ⟨hna, hnb⟩
    all_goals
      go_enter Tryd.func3, Tryd.ntmps3
      go_wp2_with (first
        | (go_at_call 5; refine (fixed_any _ htab).mono ?_; rintro e w1 ⟨rfl, hb1⟩; have htab1 := tab_below htab hb1)
        | (go_at_call 8; refine (format_any _ _ (by omega) (by omega) (by assumption)).mono ?_; rintro e w2 ⟨rfl, hb2⟩; have htab2 := tab_below htab1 hb2)
        | (go_at_call 6; go_in)
        | (go_at_call 7; go_in))
      refine (C1 _).mono ?_
      rintro e w' ⟨rfl, rfl⟩
      go_wp2_with (first
        | (go_at_call 10; refine (C2 _).mono ?_; rintro e w' ⟨rfl, rfl⟩)
        | (go_at_call 8; refine (format_any _ _ (by omega) (by omega) (by assumption)).mono ?_; rintro e w3 ⟨rfl, hb3⟩))
      refine (C3 _).mono ?_
      rintro e w' ⟨rfl, rfl⟩
      go_wp2
      go_ret
      exact ⟨rfl, (hb1.trans (hb2.mono hb1.size)).trans (hb3.mono (Nat.le_trans hb1.size hb2.size))⟩
  · simp only [if_neg hbig] at C3
    have hq : ¬ (9223372036854775807 - d) / 10 < n := by omega
    rcases hn with ⟨hna, rfl⟩ | ⟨hna, hnb⟩
    all_goals
      go_enter Tryd.func3, Tryd.ntmps3
      go_wp2_with (first
        | (go_at_call 5; refine (fixed_any _ htab).mono ?_; rintro e w1 ⟨rfl, hb1⟩; have htab1 := tab_below htab hb1)
        | (go_at_call 8; refine (format_any _ _ (by omega) (by omega) (by assumption)).mono ?_; rintro e w2 ⟨rfl, hb2⟩; have htab2 := tab_below htab1 hb2)
        | (go_at_call 6; go_in)
        | (go_at_call 7; go_in))
      refine (C1 _).mono ?_
      rintro e w' ⟨rfl, rfl⟩
      go_wp2_with (first
        | (go_at_call 10; refine (C2 _).mono ?_; rintro e w' ⟨rfl, rfl⟩)
        | (go_at_call 8; refine (format_any _ _ (by omega) (by omega) (by assumption)).mono ?_; rintro e w3 ⟨rfl, hb3⟩))
      refine (C3 _).mono ?_
      rintro e w' ⟨rfl, rfl⟩
      go_wp2
      go_ret
      exact ⟨rfl, (hb1.trans (hb2.mono hb1.size)).trans (hb3.mono (Nat.le_trans hb1.size hb2.size))⟩

theorem digits_walk (n d : Int) (w : World) (h0 : -9223372036854775808 ≤ n) (h1 : n ≤ 9223372036854775807) (htab : Lib.TabIs Tryd.prog w "internal/strconv.uint64pow10" .u64 Lib.pow10Tab) :
    Calls Tryd.prog 3 #[.int .i64 n, .int .i64 d] w fun e w' => e = .returned (.bool true) ∧ Below w.heap.size w w' := by
  have g1 : 0 ≤ IntKind.u64.wrap d := by rw [IntKind.wrap_u64]; omega
  have g2 : (IntKind.u64.wrap d).tmod 10 = IntKind.u64.wrap d % 10 := Int.tmod_eq_emod_of_nonneg g1
  have hd : wrap64 ((IntKind.u64.wrap d).tmod 10) = IntKind.u64.wrap d % 10 := by rw [g2]; unfold wrap64; omega
  by_cases hn : 0 ≤ n
  · exact digits_core n n _ w (.inl ⟨hn, rfl⟩) hn h1 (by omega) (by omega) d hd htab
  · exact digits_core n _ _ w (.inr ⟨by omega, rfl⟩) (by unfold wrap64; omega) (by unfold wrap64; omega) (by omega) (by omega) d hd htab

#print axioms digits_walk
end Go.Proofs.YtoecfpedpibfiacDoor
