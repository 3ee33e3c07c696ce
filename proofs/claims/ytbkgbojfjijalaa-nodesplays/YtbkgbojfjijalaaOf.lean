/- Plain facts on the hash of a text, and the walks of Of, the program's and the reference's. -/
import Derived.Test.YtbkgbojfjijalaaProg
import Derived.WalkKit
import Derived.WalkSpells
import Derived.Below
import Derived.Laws.BitsAllLaws
import Derived.Tactics
import Derived.Tactics2
import Derived.LoopTactic
namespace Go.Proofs.Ytbkgbojfjijalaa
open Go.RowKit

theorem i64_xor_nat (a b : Nat) (ha : a < 4294967296) (hb : b < 4294967296) : bits .xor .i64 (a : Int) (b : Int) = ((a ^^^ b : Nat) : Int) := by
  have hx : a ^^^ b < 2 ^ 32 := Nat.xor_lt_two_pow (by omega) (by omega)
  show IntKind.i64.wrap ((BitVec.ofInt 64 (a : Int) ^^^ BitVec.ofInt 64 (b : Int)).toNat : Int) = _
  rw [BitVec.toNat_xor, ofInt_u64 a (by omega), ofInt_u64 b (by omega), IntKind.wrap_i64]
  omega

/-- One byte more. -/
def fnv1 (h : Nat) (b : UInt8) : Nat := ((h ^^^ b.toNat) * 16777619) % 4294967296
def fnv (l : List UInt8) : Nat := l.foldl fnv1 2166136261
theorem fold_snoc (l : List UInt8) (c : UInt8) (h : Nat) : (l ++ [c]).foldl fnv1 h = fnv1 (l.foldl fnv1 h) c := by rw [List.foldl_append, List.foldl_cons, List.foldl_nil]
theorem fnv_snoc (l : List UInt8) (c : UInt8) : fnv (l ++ [c]) = fnv1 (fnv l) c := fold_snoc l c _
theorem fold_lt (l : List UInt8) : ∀ h, h < 4294967296 → l.foldl fnv1 h < 4294967296 := by
  induction l with
  | nil => intro h hh; exact hh
  | cons c l ih => intro h _; rw [List.foldl_cons]; exact ih _ (by unfold fnv1; exact Nat.mod_lt _ (Nat.zero_lt_succ _))
theorem start_lt : 2166136261 < 4294967296 := Nat.lt_of_sub_pos (show 0 < 2128831035 from Nat.zero_lt_succ _)
theorem fnv_lt (l : List UInt8) : fnv l < 4294967296 := fold_lt l _ start_lt
theorem take_snoc (s : ByteArray) (k : Nat) (h : k < s.size) : s.data.toList.take (k + 1) = s.data.toList.take k ++ [s[k]] := by
  rw [List.take_add_one]
  congr 1
  have : s.data.toList[k]? = some s[k] := by
    have h2 : k < s.data.toList.length := by simpa using h
    rw [List.getElem?_eq_getElem h2]; rfl
  rw [this]; rfl
theorem take_all (s : ByteArray) (k : Nat) (h : ¬ k < s.size) : s.data.toList.take k = s.data.toList := by
  apply List.take_of_length_le
  have : s.data.toList.length = s.size := by simp
  omega
theorem ret1 {a b : Int} (h : a = b) : Ending.returned (.int .i64 a) = .returned (.int .i64 b) := by rw [h]

theorem step_u32 (h : Nat) (b : UInt8) (hh : h < 4294967296) : bits .xor .u32 (h : Int) (((b.toNat : Nat) : Int) % 4294967296) * 16777619 % 4294967296 = ((fnv1 h b : Nat) : Int) := by
  have hb := b.toNat_lt
  have e : ((b.toNat : Nat) : Int) % 4294967296 = ((b.toNat : Nat) : Int) := by omega
  rw [e, u32_xor_nat h b.toNat hh (by omega)]
  unfold fnv1
  omega
theorem step_i64 (h : Nat) (b : UInt8) (hh : h < 4294967296) : (wrap64 (bits .xor .i64 (h : Int) (wrap64 ((b.toNat : Nat) : Int)) * 16777619)).tmod 4294967296 = ((fnv1 h b : Nat) : Int) := by
  have hb := b.toNat_lt
  have hx : h ^^^ b.toNat < 2 ^ 32 := Nat.xor_lt_two_pow (by omega) (by omega)
  have e : wrap64 ((b.toNat : Nat) : Int) = ((b.toNat : Nat) : Int) := by unfold wrap64; omega
  rw [e, i64_xor_nat h b.toNat hh (by omega)]
  have e2 : wrap64 (((h ^^^ b.toNat : Nat) : Int) * 16777619) = ((h ^^^ b.toNat : Nat) : Int) * 16777619 := by unfold wrap64; omega
  rw [e2, Int.tmod_eq_emod_of_nonneg (by omega)]
  unfold fnv1; omega

set_option maxHeartbeats 1000000 in
theorem of_any (s : ByteArray) (w : World) (hs : s.size ≤ 9223372036854775807) :
    Calls Try.prog 39 #[.string s] w fun e w' => e = .returned (.int .i64 (fnv s.data.toList)) ∧ w' = w := by
  go_enter Try.func39, Try.ntmps39
  go_wp2
  go_loop [3, 7] (fun h i => ∃ k : Nat, k ≤ s.size ∧ i = .int .i64 k ∧ ∃ m : Nat, h = .int .u32 (m : Nat) ∧ Hid (m = fnv (s.data.toList.take k))) (fun _ i => s.size - (intOf i).toNat)
  case atStart => exact ⟨0, Nat.zero_le _, rfl, 2166136261, rfl, rfl⟩
  case round =>
    obtain ⟨k, hk, rfl, m, rfl, HM⟩ := hrel
    by_cases hlt : k < s.size
    · have hm : m < 4294967296 := by rw [HM.out]; exact fnv_lt _
      have h1 : Hid _ := step_u32 m s[k] hm
      have HM2 : Hid (fnv1 m s[k] = fnv (s.data.toList.take (k + 1))) := by
        show _ = _
        rw [take_snoc s k hlt, fnv_snoc, HM.out]
      clear HM
      go_wp2
      go_round
      case rel => exact ⟨k + 1, by omega, by go_num, fnv1 m s[k], congrArg (Value.int .u32) h1.out, HM2⟩
      case measure => simp [intOf]; omega
    · have HT := take_all s k hlt
      rw [HT] at HM
      have hm : m < 4294967296 := by rw [HM.out]; exact fnv_lt _
      clear HT
      go_wp2
      go_ret
      exact ⟨ret1 (by rw [HM.out]), rfl⟩

set_option maxHeartbeats 1000000 in
theorem rof_any (s : ByteArray) (w : World) (hs : s.size ≤ 9223372036854775807) :
    Calls Try.prog 44 #[.string s] w fun e w' => e = .returned (.int .i64 (fnv s.data.toList)) ∧ w' = w := by
  go_enter Try.func44, Try.ntmps44
  go_wp2
  go_loop [3, 4] (fun h i => ∃ k : Nat, k ≤ s.size ∧ i = .int .i64 k ∧ ∃ m : Nat, h = .int .i64 (m : Nat) ∧ Hid (m = fnv (s.data.toList.take k))) (fun _ i => s.size - (intOf i).toNat)
  case atStart => exact ⟨0, Nat.zero_le _, rfl, 2166136261, rfl, rfl⟩
  case round =>
    obtain ⟨k, hk, rfl, m, rfl, HM⟩ := hrel
    by_cases hlt : k < s.size
    · have hm : m < 4294967296 := by rw [HM.out]; exact fnv_lt _
      have h1 : Hid _ := step_i64 m s[k] hm
      have HM2 : Hid (fnv1 m s[k] = fnv (s.data.toList.take (k + 1))) := by
        show _ = _
        rw [take_snoc s k hlt, fnv_snoc, HM.out]
      clear HM
      go_wp2
      go_round
      case rel => exact ⟨k + 1, by omega, by go_num, fnv1 m s[k], congrArg (Value.int .i64) h1.out, HM2⟩
      case measure => simp [intOf]; omega
    · have HT := take_all s k hlt
      rw [HT] at HM
      have hm : m < 4294967296 := by rw [HM.out]; exact fnv_lt _
      clear HT
      go_wp2
      go_ret
      exact ⟨ret1 (by rw [HM.out]), rfl⟩

end Go.Proofs.Ytbkgbojfjijalaa
