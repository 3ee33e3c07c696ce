/- The walks of decimal, numeral, Parse and Read: what each answers, as plain functions of the bytes. -/
import Derived.Test.YtoecfpedpibfiabDoorHex
import Derived.Lib.IndexBytes
namespace Go.Proofs.YtoecfpedpibfiabDoor
open Go.RowKit

theorem dec_val (c : Int) (h : 48 ≤ c ∧ c ≤ 57) : dgB c = true ∧ dgV c = c - 48 := by
  constructor
  · simp [dgB, h]
  · simp [dgV, h]

set_option maxHeartbeats 400000 in
theorem dec_none (s : ByteArray) (most : Int) (w : World) (hne : s.toList.isEmpty = true) : Calls Tryd.prog 36 #[.string s, .int .u64 most] w fun e w' => e = .returned (.tuple #[.int .u64 0, .int .i64 4]) ∧ w' = w := by
  go_enter Tryd.func36, Tryd.ntmps36
  go_wp2
  go_ret2
  exact ⟨rfl, rfl⟩

/-- What the loop holds behind k digits: the number, or that it has been too great. -/
def DecAt (l : List UInt8) (most m : Int) (big : Bool) : Prop := (big = false → m = dv l ∧ m ≤ most) ∧ (big = true → most < dv l)

theorem decAt_step (l : List UInt8) (c : UInt8) (most m : Int) (big : Bool) (h : DecAt l most m big) (hd : 48 ≤ (c.toNat : Int) ∧ (c.toNat : Int) ≤ 57) (hm : 0 ≤ m) (hmost : most ≤ 9223372036854775808) (hlo : 9 ≤ most) :
    DecAt (l ++ [c]) most (IntKind.u64.wrap (IntKind.u64.wrap (m * 10) + ((c.toNat : Int) - 48))) (big || decide ((most - ((c.toNat : Int) - 48)) / 10 < m)) := by
  obtain ⟨h1, h2⟩ := h
  have e := dv_snoc l c
  rw [(dec_val _ hd).2] at e
  constructor
  · intro hb
    simp only [Bool.or_eq_false_iff, decide_eq_false_iff_not] at hb
    obtain ⟨rfl, hle⟩ := h1 hb.1
    have h3 : (dv l : Int) * 10 + ((c.toNat : Int) - 48) ≤ most := by omega
    have h4 : ((dv l : Int) * 10) % 18446744073709551616 = (dv l : Int) * 10 := by omega
    have h5 : ((dv l : Int) * 10 + ((c.toNat : Int) - 48)) % 18446744073709551616 = (dv l : Int) * 10 + ((c.toNat : Int) - 48) := by omega
    simp only [IntKind.wrap_u64, h4, h5]
    rw [e]
    exact ⟨by omega, h3⟩
  · intro hb
    simp only [Bool.or_eq_true, decide_eq_true_eq] at hb
    rw [e]
    rcases hb with hb | hb
    · have := h2 hb; omega
    · cases big with
      | false => obtain ⟨rfl, hle⟩ := h1 rfl; omega
      | true => have := h2 rfl; omega

set_option maxHeartbeats 1000000 in
theorem dec_some (s : ByteArray) (most : Int) (w : World) (hs : s.size ≤ maxLen) (hne : s.toList.isEmpty = false) (hlo : 9 ≤ most) (hmost : most ≤ 9223372036854775808) :
    Calls Tryd.prog 36 #[.string s, .int .u64 most] w fun e w' => e = .returned (.tuple #[.int .u64 (decN s.data.toList most), .int .i64 (decE s.data.toList most)]) ∧ w' = w := by
  unfold maxLen at hs
  go_enter Tryd.func36, Tryd.ntmps36
  go_wp2
  go_loop [6, 7, 15] (fun n b i => ∃ k : Nat, k ≤ s.size ∧ i = .int .i64 k ∧ Hid (allDec (s.data.toList.take k) = true) ∧ ∃ (m : Int) (big : Bool), 0 ≤ m ∧ m ≤ 18446744073709551615 ∧ Hid (DecAt (s.data.toList.take k) most m big) ∧ n = .int .u64 m ∧ b = .bool big) (fun _ _ i => s.size - (intOf i).toNat)
  case atStart => exact ⟨0, Nat.zero_le _, rfl, by simp [allDec, Hid], 0, false, by omega, by omega, by simp [dv, DecAt, Hid]; omega, rfl, rfl⟩
  case round =>
    obtain ⟨k, hk, rfl, hA, m, big, hm0, hm1, hM, rfl, rfl⟩ := hrel
    by_cases hlt : k < s.size
    · by_cases hd : 48 ≤ (s[k].toNat : Int) ∧ (s[k].toNat : Int) ≤ 57
      · have HS := decAt_step _ s[k] most m big hM.out hd hm0 hmost hlo
        rw [← take_snoc s k hlt] at HS
        have HS' : Hid (DecAt (s.data.toList.take (k + 1)) most (IntKind.u64.wrap (IntKind.u64.wrap (m * 10) + ((s[k].toNat : Int) - 48))) (big || decide ((most - ((s[k].toNat : Int) - 48)) / 10 < m))) := HS
        have HA : Hid (allDec (s.data.toList.take (k + 1)) = true) := by
          show _ = _
          rw [take_snoc s k hlt, allDec_snoc, hA.out, decide_eq_true hd]; rfl
        obtain ⟨hv1, hv2⟩ := dec_val _ hd
        obtain ⟨hd1, hd2⟩ := hd
        clear HS hA hM
        have hfit : 0 ≤ IntKind.u64.wrap (IntKind.u64.wrap (m * 10) + ((s[k].toNat : Int) - 48)) ∧ IntKind.u64.wrap (IntKind.u64.wrap (m * 10) + ((s[k].toNat : Int) - 48)) ≤ 18446744073709551615 := by
          generalize IntKind.u64.wrap (m * 10) + ((s[k].toNat : Int) - 48) = z
          rw [IntKind.wrap_u64]; omega
        have HF : Hid _ := hfit
        clear hfit
        cases big
        all_goals
          go_wp2_with (go_at_call 39; refine (digit_any _ _ (by omega) (by have := s[k].toNat_lt; omega)).mono ?_; rintro e w' ⟨rfl, rfl⟩)
          go_round
          case rel => exact ⟨k + 1, by omega, by go_num, HA, _, _, HF.out.1, HF.out.2, by simpa using HS', rfl, rfl⟩
          case measure => simp [intOf]; omega
      · have hx : allDec s.data.toList = false := not_all hlt (decide_eq_false hd)
        have HX : Hid (allDec s.data.toList = false) := hx
        clear hx hA hM
        have hv : dgB s[k].toNat = false ∨ 9 < dgV s[k].toNat := by
          generalize (s[k].toNat : Int) = c at hd
          by_cases h : dgB c = true
          · right
            simp [dgB] at h
            unfold dgV
            repeat' split
            all_goals omega
          · left; simpa using h
        have HD : Hid (¬ (48 ≤ (s[k].toNat : Int) ∧ (s[k].toNat : Int) ≤ 57)) := hd
        clear hd
        rcases hv with hv | hv
        · go_wp2_with (go_at_call 39; refine (digit_any _ _ (by omega) (by have := s[k].toNat_lt; omega)).mono ?_; rintro e w' ⟨rfl, rfl⟩)
          go_ret2
          exact ⟨ret_ui (by simp [decN, HX.out]) (by simp [decE, HX.out]), rfl⟩
        · cases hb : dgB s[k].toNat
          all_goals
            go_wp2_with (go_at_call 39; refine (digit_any _ _ (by omega) (by have := s[k].toNat_lt; omega)).mono ?_; rintro e w' ⟨rfl, rfl⟩)
            go_ret2
            exact ⟨ret_ui (by simp [decN, HX.out]) (by simp [decE, HX.out]), rfl⟩
    · have HT := take_all s k hlt
      rw [HT] at hA hM
      clear HT
      cases big
      · go_wp2
        go_ret2
        obtain ⟨rfl, hle⟩ := hM.out.1 rfl
        exact ⟨ret_ui (by simp [decN, hA.out, empty_data hne]; omega) (by simp [decE, hA.out, empty_data hne]; omega), rfl⟩
      · go_wp2
        go_ret2
        have hlt := hM.out.2 rfl
        exact ⟨ret_ui (by simp [decN, hA.out, empty_data hne]; omega) (by simp [decE, hA.out, empty_data hne]; omega), rfl⟩

theorem dec_any (s : ByteArray) (most : Int) (w : World) (hs : s.size ≤ maxLen) (hlo : 9 ≤ most) (hmost : most ≤ 9223372036854775808) :
    Calls Tryd.prog 36 #[.string s, .int .u64 most] w fun e w' => e = .returned (.tuple #[.int .u64 (decN s.data.toList most), .int .i64 (decE s.data.toList most)]) ∧ w' = w := by
  cases h : s.toList.isEmpty
  · exact dec_some s most w hs h hlo hmost
  · have h' : s.data.toList.isEmpty = true := by rw [← ByteArray.toList_eq]; exact h
    have e1 : decN s.data.toList most = 0 := by simp [decN, h']
    have e2 : decE s.data.toList most = 4 := by simp [decE, h']
    rw [e1, e2]
    exact dec_none s most w h

/-! ### numeral -/
/-- Does the text open as a hexadecimal numeral? -/
def hexP (l : List UInt8) : Bool := match l with | a :: b :: _ => decide (a = 48) && (decide (b = 120) || decide (b = 88)) | _ => false
def numN (l : List UInt8) (most : Int) : Int := if hexP l then hexN (l.drop 2) else decN l most
def numE (l : List UInt8) (most : Int) : Int := if hexP l then hexE (l.drop 2) else decE l most

theorem hexP_iff (s : ByteArray) : hexP s.data.toList = true ↔ ∃ h : 2 ≤ s.size, (s[0]'(by omega)).toNat = 48 ∧ ((s[1]'(by omega)).toNat = 120 ∨ (s[1]'(by omega)).toNat = 88) := by
  obtain ⟨⟨l⟩⟩ := s
  match l with
  | [] => exact ⟨fun h => by simp [hexP] at h, fun ⟨h, _⟩ => absurd h (by show ¬ 2 ≤ 0; omega)⟩
  | [a] => exact ⟨fun h => by simp [hexP] at h, fun ⟨h, _⟩ => absurd h (by show ¬ 2 ≤ 1; omega)⟩
  | a :: b :: t =>
    have e : ∀ (x : UInt8) (n : Nat) (hn : n < 256), (x.toNat = n) ↔ x = UInt8.ofNat n := fun x n hn => ⟨fun h => by apply UInt8.toNat_inj.1; simp [h]; omega, fun h => by subst h; simp; omega⟩
    have e0 : (⟨⟨a :: b :: t⟩⟩ : ByteArray)[0]'(by simp [ByteArray.size]) = a := rfl
    have e1 : (⟨⟨a :: b :: t⟩⟩ : ByteArray)[1]'(by simp [ByteArray.size]) = b := rfl
    simp only [hexP, Bool.and_eq_true, Bool.or_eq_true, decide_eq_true_eq]
    constructor
    · rintro ⟨rfl, rfl | rfl⟩
      · exact ⟨by simp [ByteArray.size], rfl, .inl rfl⟩
      · exact ⟨by simp [ByteArray.size], rfl, .inr rfl⟩
    · rintro ⟨_, h0, h1⟩
      rw [e0] at h0
      rw [e1] at h1
      exact ⟨(e a 48 (by omega)).1 h0, h1.imp (e b 120 (by omega)).1 (e b 88 (by omega)).1⟩

set_option maxHeartbeats 1000000 in
theorem numeral_any (s : ByteArray) (most : Int) (w : World) (hs : s.size ≤ maxLen) (hlo : 9 ≤ most) (hmost : most ≤ 9223372036854775808) :
    Calls Tryd.prog 31 #[.string s, .int .u64 most] w fun e w' => e = .returned (.tuple #[.int .u64 (numN s.data.toList most), .int .i64 (numE s.data.toList most)]) ∧ w' = w := by
  have hs' := hs
  unfold maxLen at hs'
  have HX : Hid _ := hexP_iff s
  have he : (s.extract 2 s.size).size ≤ maxLen := by
    rw [ByteArray.size_extract]; unfold maxLen; omega
  have HE : Hid ((s.data.toList.drop 2).take (s.size - 2) = s.data.toList.drop 2) := List.take_of_length_le (by simp)
  by_cases h2 : 2 ≤ s.size
  · go_enter Tryd.func31, Tryd.ntmps31
    go_wp2_with (first | (go_at_call 36; refine (dec_any _ _ _ hs hlo hmost).mono ?_; rintro e w' ⟨rfl, rfl⟩) | (go_at_call 35; refine (hex_any _ _ he).mono ?_; rintro e w' ⟨rfl, rfl⟩))
    · go_ret2
      have hp := HX.out.2 ⟨h2, by omega, .inl (by omega)⟩
      exact ⟨ret_ui (by rw [HE.out]; simp [numN, hp]) (by rw [HE.out]; simp [numE, hp]), rfl⟩
    · go_ret2
      have h6 : ((s[1].toNat : Int) == 120) = true ∨ ((s[1].toNat : Int) == 88) = true := by assumption
      have hp := HX.out.2 ⟨h2, by omega, by simp only [beq_iff_eq] at h6; omega⟩
      exact ⟨ret_ui (by rw [HE.out]; simp [numN, hp]) (by rw [HE.out]; simp [numE, hp]), rfl⟩
    · go_ret2
      have h6 : ((s[1].toNat : Int) == 120) = false ∧ ((s[1].toNat : Int) == 88) = false := by assumption
      have hp : hexP s.data.toList = false := by
        rw [← Bool.not_eq_true]
        intro h
        obtain ⟨_, q0, q1⟩ := HX.out.1 h
        simp only [beq_eq_false_iff_ne] at h6
        omega
      exact ⟨ret_ui (by simp [numN, hp]) (by simp [numE, hp]), rfl⟩
    · go_ret2
      have hp : hexP s.data.toList = false := by
        rw [← Bool.not_eq_true]
        intro h
        obtain ⟨_, q0, q1⟩ := HX.out.1 h
        omega
      exact ⟨ret_ui (by simp [numN, hp]) (by simp [numE, hp]), rfl⟩
  · have hp : hexP s.data.toList = false := by
      rw [← Bool.not_eq_true]
      intro h
      exact h2 (HX.out.1 h).1
    have e1 : numN s.data.toList most = decN s.data.toList most := by simp [numN, hp]
    have e2 : numE s.data.toList most = decE s.data.toList most := by simp [numE, hp]
    rw [e1, e2]
    clear e1 e2 hp HX
    go_enter Tryd.func31, Tryd.ntmps31
    go_wp2_with (go_at_call 36; refine (dec_any _ _ _ hs hlo hmost).mono ?_; rintro e w' ⟨rfl, rfl⟩)
    go_ret2
    exact ⟨rfl, rfl⟩

/-! ### Parse and Read -/
def parN (l : List UInt8) : Int := wrap64 (numN l 9223372036854775807)
def parE (l : List UInt8) : Int := numE l 9223372036854775807

set_option maxHeartbeats 400000 in
theorem parse_any (s : ByteArray) (w : World) (hs : s.size ≤ maxLen) :
    Calls Tryd.prog 18 #[.string s] w fun e w' => e = .returned (.tuple #[.int .i64 (parN s.data.toList), .int .i64 (parE s.data.toList)]) ∧ w' = w := by
  go_enter Tryd.func18, Tryd.ntmps18
  go_wp2_with (go_at_call 31; refine (numeral_any _ _ _ hs (by omega) (by omega)).mono ?_; rintro e w' ⟨rfl, rfl⟩)
  go_ret2
  exact ⟨rfl, rfl⟩

#print axioms parse_any
end Go.Proofs.YtoecfpedpibfiabDoor
