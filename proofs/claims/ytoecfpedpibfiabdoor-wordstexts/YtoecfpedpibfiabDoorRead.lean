/- The walk of Read; the digits that the library writes, read again. -/
import Derived.Test.YtoecfpedpibfiabDoorFix
import Derived.Lib.ItoaNum
namespace Go.Proofs.YtoecfpedpibfiabDoor
open Go.RowKit

def negN (l : List UInt8) : Int := wrap64 (-(wrap64 (numN l 9223372036854775808)))
def minus (l : List UInt8) : Bool := match l with | a :: _ => decide (a = 45) | [] => false
def readN (l : List UInt8) : Int := if minus l then negN l.tail else parN l
def readE (l : List UInt8) : Int := if minus l then numE l.tail 9223372036854775808 else parE l

theorem minus_iff (s : ByteArray) : minus s.data.toList = true ↔ ∃ h : 0 < s.size, (s[0]'h).toNat = 45 := by
  obtain ⟨⟨l⟩⟩ := s
  match l with
  | [] => exact ⟨fun h => by simp [minus] at h, fun ⟨h, _⟩ => absurd h (by show ¬ 0 < 0; omega)⟩
  | a :: t =>
    have e0 : (⟨⟨a :: t⟩⟩ : ByteArray)[0]'(by simp [ByteArray.size]) = a := rfl
    simp only [minus, decide_eq_true_eq]
    constructor
    · rintro rfl; exact ⟨by simp [ByteArray.size], rfl⟩
    · rintro ⟨_, h⟩
      rw [e0] at h
      exact UInt8.toNat_inj.1 h

set_option maxHeartbeats 1000000 in
theorem read_any (s : ByteArray) (w : World) (hs : s.size ≤ maxLen) :
    Calls Tryd.prog 22 #[.string s] w fun e w' => e = .returned (.tuple #[.int .i64 (readN s.data.toList), .int .i64 (readE s.data.toList)]) ∧ w' = w := by
  have hs' := hs
  unfold maxLen at hs'
  have HX : Hid _ := minus_iff s
  have he : (s.extract 1 s.size).size ≤ maxLen := by
    rw [ByteArray.size_extract]; unfold maxLen; omega
  have HE : Hid (s.data.toList.tail.take (s.size - 1) = s.data.toList.tail) := List.take_of_length_le (by simp)
  cases hm : s.toList.isEmpty
  · have hp : 0 < s.size := by
      rw [ByteArray.toList_eq] at hm
      rcases Nat.eq_zero_or_pos s.size with h | h
      · have : s.data.toList = [] := List.eq_nil_of_length_eq_zero (by simpa using h)
        rw [this] at hm; simp at hm
      · exact h
    by_cases h45 : s[0].toNat = 45
    · have h45' : ((s[0].toNat : Int) != 45) = false := by simp; omega
      have hmi := HX.out.2 ⟨hp, h45⟩
      have HM : Hid _ := hmi
      clear hmi
      go_enter Tryd.func22, Tryd.ntmps22
      go_wp2_with (first | (go_at_call 18; refine (parse_any _ _ hs).mono ?_; rintro e w' ⟨rfl, rfl⟩) | (go_at_call 31; refine (numeral_any _ _ _ he (by omega) (by omega)).mono ?_; rintro e w' ⟨rfl, rfl⟩) | go_in)
      go_ret2
      exact ⟨ret2 (by rw [HE.out]; simp [readN, HM.out, negN]) (by rw [HE.out]; simp [readE, HM.out]), rfl⟩
    · have h45' : ((s[0].toNat : Int) != 45) = true := by simp; omega
      have hmi : minus s.data.toList = false := by
        rw [← Bool.not_eq_true]; intro h; exact h45 (HX.out.1 h).2
      have e1 : readN s.data.toList = parN s.data.toList := by simp [readN, hmi]
      have e2 : readE s.data.toList = parE s.data.toList := by simp [readE, hmi]
      rw [e1, e2]
      clear hmi e1 e2
      go_enter Tryd.func22, Tryd.ntmps22
      go_wp2_with (first | (go_at_call 18; refine (parse_any _ _ hs).mono ?_; rintro e w' ⟨rfl, rfl⟩))
      go_ret2
      exact ⟨rfl, rfl⟩
  · have hmi : minus s.data.toList = false := by
      rw [ByteArray.toList_eq] at hm
      have : s.data.toList = [] := List.isEmpty_iff.1 hm
      rw [this]; rfl
    have e1 : readN s.data.toList = parN s.data.toList := by simp [readN, hmi]
    have e2 : readE s.data.toList = parE s.data.toList := by simp [readE, hmi]
    rw [e1, e2]
    clear hmi e1 e2
    go_enter Tryd.func22, Tryd.ntmps22
    go_wp2_with (first | (go_at_call 18; refine (parse_any _ _ hs).mono ?_; rintro e w' ⟨rfl, rfl⟩))
    go_ret2
    exact ⟨rfl, rfl⟩

#print axioms read_any

/-! ### the digits that the library writes -/
theorem digs_unfold (u : Nat) : Lib.decDigits u = if u < 10 then [UInt8.ofNat (48 + u)] else Lib.decDigits (u / 10) ++ [UInt8.ofNat (48 + u % 10)] := by
  rw [Lib.decDigits]; simp

theorem dig_ok (d : Nat) (h : d < 10) : (48 ≤ ((UInt8.ofNat (48 + d)).toNat : Int) ∧ ((UInt8.ofNat (48 + d)).toNat : Int) ≤ 57) ∧ (dgV (UInt8.ofNat (48 + d)).toNat).toNat = d := by
  have e : (UInt8.ofNat (48 + d)).toNat = 48 + d := by simp; omega
  rw [e]
  refine ⟨by omega, ?_⟩
  rw [(dec_val _ (by omega)).2]
  omega

theorem digs_all (u : Nat) : allDec (Lib.decDigits u) = true := by
  rw [digs_unfold]
  split
  · rename_i h
    simp only [allDec, List.all_cons, List.all_nil, Bool.and_true]
    exact decide_eq_true (dig_ok u h).1
  · rw [allDec_snoc, digs_all (u / 10), decide_eq_true (dig_ok (u % 10) (by omega)).1]; rfl
termination_by u
decreasing_by omega

theorem digs_val (u : Nat) : dv (Lib.decDigits u) = u := by
  rw [digs_unfold]
  split
  · rename_i h
    simp only [dv, List.foldl_cons, List.foldl_nil, Nat.zero_mul, Nat.zero_add]
    exact (dig_ok u h).2
  · rw [dv_snoc, digs_val (u / 10), (dig_ok (u % 10) (by omega)).2]; omega
termination_by u
decreasing_by omega

theorem digs_ne (u : Nat) : (Lib.decDigits u).isEmpty = false := by
  rw [digs_unfold]; split <;> simp

theorem digs_len (u : Nat) : (Lib.decDigits u).length ≤ u + 1 := by
  rw [digs_unfold]
  split
  · simp
  · have := digs_len (u / 10)
    simp only [List.length_append, List.length_cons, List.length_nil]
    omega
termination_by u
decreasing_by omega

/-- Decimal digits do not open as a hexadecimal numeral. -/
theorem hexP_dec (l : List UInt8) (h : allDec l = true) : hexP l = false := by
  match l with
  | [] => rfl
  | [_] => rfl
  | a :: b :: t =>
    simp only [allDec, List.all_cons, Bool.and_eq_true, decide_eq_true_eq] at h
    have hb := h.2.1
    simp only [hexP, Bool.and_eq_false_iff, Bool.or_eq_false_iff, decide_eq_false_iff_not]
    right
    constructor
    · rintro rfl; simp at hb
    · rintro rfl; simp at hb

theorem num_dec (l : List UInt8) (most : Int) (h : allDec l = true) (hn : l.isEmpty = false) : numN l most = (if most < dv l then 0 else (dv l : Int)) ∧ numE l most = (if most < dv l then 14 else 0) := by
  have hx := hexP_dec l h
  simp [numN, numE, hx, decN, decE, h, hn]

end Go.Proofs.YtoecfpedpibfiabDoor
