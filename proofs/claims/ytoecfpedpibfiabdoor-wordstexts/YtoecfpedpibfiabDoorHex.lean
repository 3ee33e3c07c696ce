/- The walks of digit, hexadecimal and decimal: what each answers, as plain functions of the bytes. -/
import Derived.Test.YtoecfpedpibfiabDoorArith
import Derived.Test.YtoecfpedpibfiabDoorRows
import Derived.WalkKit
import Derived.WalkSpells
import Derived.WalkLawsBesides
namespace Go.Proofs.YtoecfpedpibfiabDoor
open Go.RowKit

def dgV (c : Int) : Int := if 48 ≤ c ∧ c ≤ 57 then c - 48 else if 97 ≤ c ∧ c ≤ 102 then c - 87 else if 65 ≤ c ∧ c ≤ 70 then c - 55 else 0
def dgB (c : Int) : Bool := decide (48 ≤ c ∧ c ≤ 57) || decide (97 ≤ c ∧ c ≤ 102) || decide (65 ≤ c ∧ c ≤ 70)
theorem dgV_bound (c : Int) : 0 ≤ dgV c ∧ dgV c ≤ 15 := by unfold dgV; repeat' split; all_goals omega

/-- The number of hexadecimal digits, modulo 2^64; are they all digits? -/
def hv (l : List UInt8) : Int := l.foldl (fun m c => (m * 16 + dgV c.toNat) % 18446744073709551616) 0
def allHex (l : List UInt8) : Bool := l.all fun c => dgB c.toNat
def hexE (l : List UInt8) : Int := if l.isEmpty || !allHex l then 4 else 0
def hexN (l : List UInt8) : Int := if l.isEmpty || !allHex l then 0 else hv l

/-- The number of decimal digits; are they all digits? -/
def dv (l : List UInt8) : Nat := l.foldl (fun m c => m * 10 + (dgV c.toNat).toNat) 0
def allDec (l : List UInt8) : Bool := l.all fun c => decide (48 ≤ (c.toNat : Int) ∧ (c.toNat : Int) ≤ 57)
def decE (l : List UInt8) (most : Int) : Int := if l.isEmpty || !allDec l then 4 else if most < dv l then 14 else 0
def decN (l : List UInt8) (most : Int) : Int := if l.isEmpty || !allDec l then 0 else if most < dv l then 0 else dv l

theorem take_snoc (s : ByteArray) (k : Nat) (h : k < s.size) : s.data.toList.take (k + 1) = s.data.toList.take k ++ [s[k]] := by
  rw [List.take_succ_eq_append_getElem (by simpa using h)]; rfl
theorem take_all (s : ByteArray) (k : Nat) (h : ¬ k < s.size) : s.data.toList.take k = s.data.toList := List.take_of_length_le (by simp; omega)
theorem hv_snoc (l : List UInt8) (c : UInt8) : hv (l ++ [c]) = (hv l * 16 + dgV c.toNat) % 18446744073709551616 := by simp [hv]
theorem hv_bound (l : List UInt8) : 0 ≤ hv l ∧ hv l ≤ 18446744073709551615 := by
  rcases List.eq_nil_or_concat l with h | ⟨l', c, rfl⟩
  · subst h; simp [hv]
  · rw [List.concat_eq_append, hv_snoc]; omega
theorem allHex_snoc (l : List UInt8) (c : UInt8) : allHex (l ++ [c]) = (allHex l && dgB c.toNat) := by simp [allHex]
theorem dv_snoc (l : List UInt8) (c : UInt8) : dv (l ++ [c]) = dv l * 10 + (dgV c.toNat).toNat := by simp [dv]
theorem allDec_snoc (l : List UInt8) (c : UInt8) : allDec (l ++ [c]) = (allDec l && decide (48 ≤ (c.toNat : Int) ∧ (c.toNat : Int) ≤ 57)) := by simp [allDec]
theorem mem_at (s : ByteArray) (k : Nat) (h : k < s.size) : s[k] ∈ s.data.toList := Array.getElem_mem_toList (xs := s.data) h
theorem not_all {s : ByteArray} {k : Nat} (h : k < s.size) {p : UInt8 → Bool} (hp : p s[k] = false) : s.data.toList.all p = false := by
  rw [List.all_eq_false]
  exact ⟨_, mem_at s k h, by simp [hp]⟩
theorem empty_data {s : ByteArray} (h : s.toList.isEmpty = false) : s.data.toList.isEmpty = false := by rw [← ByteArray.toList_eq]; exact h

theorem ret_ub {a b : Int} {c d : Bool} (h : a = b) (h' : c = d) : Ending.returned (.tuple #[.int .u64 a, .bool c]) = .returned (.tuple #[.int .u64 b, .bool d]) := by rw [h, h']
theorem ret_ui {a b c d : Int} (h : a = b) (h' : c = d) : Ending.returned (.tuple #[.int .u64 a, .int .i64 c]) = .returned (.tuple #[.int .u64 b, .int .i64 d]) := by rw [h, h']

set_option maxHeartbeats 400000 in
theorem digit_any (c : Int) (w : World) (h0 : 0 ≤ c) (h1 : c ≤ 255) : Calls Tryd.prog 39 #[.int .u8 c] w fun e w' => e = .returned (.tuple #[.int .u64 (dgV c), .bool (dgB c)]) ∧ w' = w := by
  go_enter Tryd.func39, Tryd.ntmps39
  go_wp2
  all_goals go_ret2
  all_goals (refine ⟨ret_ub ?_ ?_, rfl⟩)
  all_goals first | (unfold dgV; (repeat' split) <;> omega) | (symm; simp [dgB]; omega)

set_option maxHeartbeats 400000 in
theorem hex_none (s : ByteArray) (w : World) (hne : s.toList.isEmpty = true) : Calls Tryd.prog 35 #[.string s] w fun e w' => e = .returned (.tuple #[.int .u64 0, .int .i64 4]) ∧ w' = w := by
  go_enter Tryd.func35, Tryd.ntmps35
  go_wp2
  go_ret2
  exact ⟨rfl, rfl⟩

set_option maxHeartbeats 400000 in
theorem hex_some (s : ByteArray) (w : World) (hs : s.size ≤ maxLen) (hne : s.toList.isEmpty = false) : Calls Tryd.prog 35 #[.string s] w fun e w' => e = .returned (.tuple #[.int .u64 (hexN s.data.toList), .int .i64 (hexE s.data.toList)]) ∧ w' = w := by
  unfold maxLen at hs
  go_enter Tryd.func35, Tryd.ntmps35
  go_wp2
  go_loop [4, 12] (fun n i => ∃ k : Nat, k ≤ s.size ∧ i = .int .i64 k ∧ Hid (allHex (s.data.toList.take k) = true) ∧ ∃ m : Int, 0 ≤ m ∧ m ≤ 18446744073709551615 ∧ Hid (m = hv (s.data.toList.take k)) ∧ n = .int .u64 m) (fun _ i => s.size - (intOf i).toNat)
  case atStart => exact ⟨0, Nat.zero_le _, rfl, by simp [allHex, Hid], 0, by omega, by omega, by simp [hv, Hid], rfl⟩
  case round =>
    obtain ⟨k, hk, rfl, hA, m, hm0, hm1, hM, rfl⟩ := hrel
    by_cases hlt : k < s.size
    · cases hd : dgB s[k].toNat
      · have hx : allHex s.data.toList = false := not_all hlt hd
        have HX : Hid (allHex s.data.toList = false) := hx
        clear hx
        go_wp2_with (go_at_call 39; refine (digit_any _ _ (by omega) (by have := s[k].toNat_lt; omega)).mono ?_; rintro e w' ⟨rfl, rfl⟩)
        go_ret2
        exact ⟨ret_ui (by simp [hexN, HX.out]) (by simp [hexE, HX.out]), rfl⟩
      · have hb := dgV_bound s[k].toNat
        have HS : Hid (hv (s.data.toList.take (k + 1)) = (m * 16 + dgV s[k].toNat) % 18446744073709551616) := by
          show _ = _
          rw [take_snoc s k hlt, hv_snoc, ← hM.out]
        have HA : Hid (allHex (s.data.toList.take (k + 1)) = true) := by
          show _ = _
          rw [take_snoc s k hlt, allHex_snoc, hA.out, hd]; rfl
        go_wp2_with (go_at_call 39; refine (digit_any _ _ (by omega) (by have := s[k].toNat_lt; omega)).mono ?_; rintro e w' ⟨rfl, rfl⟩)
        go_round
        case rel =>
          refine ⟨k + 1, by omega, by go_num, HA, _, ?_, ?_, ?_, rfl⟩
          · rw [IntKind.wrap_u64]; omega
          · rw [IntKind.wrap_u64]; omega
          · show _ = _
            rw [HS.out]; simp only [IntKind.wrap_u64]; omega
        case measure => simp [intOf]; omega
    · have HT := take_all s k hlt
      rw [HT] at hA hM
      clear HT
      go_wp2
      go_ret2
      exact ⟨ret_ui (by rw [hM.out]; simp [hexN, hA.out, empty_data hne]) (by simp [hexE, hA.out, empty_data hne]), rfl⟩

theorem hex_any (s : ByteArray) (w : World) (hs : s.size ≤ maxLen) : Calls Tryd.prog 35 #[.string s] w fun e w' => e = .returned (.tuple #[.int .u64 (hexN s.data.toList), .int .i64 (hexE s.data.toList)]) ∧ w' = w := by
  cases h : s.toList.isEmpty
  · exact hex_some s w hs h
  · have h' : s.data.toList.isEmpty = true := by rw [← ByteArray.toList_eq]; exact h
    have e1 : hexN s.data.toList = 0 := by simp [hexN, h']
    have e2 : hexE s.data.toList = 4 := by simp [hexE, h']
    rw [e1, e2]
    exact hex_none s w h

#print axioms hex_any
end Go.Proofs.YtoecfpedpibfiabDoor
