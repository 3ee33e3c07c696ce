/- The walks of Log2, Format and of 'fixed', the answers that the document fixes. -/
import Derived.Test.YtoecfpedpibfiabDoorDiv
import Derived.Test.YtoecfpedpibfiabDoorDec
import Derived.Test.YtoecfpedpibfiabDoorShelf
import Derived.Lib.AppendIntMem
namespace Go.Proofs.YtoecfpedpibfiabDoor
open Go.RowKit

def lg (n : Int) : Int := if n < 1 then -1 else Lib.bitLen (n.toNat - 1)

set_option maxHeartbeats 400000 in
theorem log2_any (n : Int) (w : World) (h1 : n ≤ 9223372036854775807) : Calls Tryd.prog 26 #[.int .i64 n] w fun e w' => e = .returned (.int .i64 (lg n)) ∧ w' = w := by
  by_cases h : n < 1
  · have hl : lg n = -1 := by simp [lg, h]
    rw [hl]
    clear hl
    go_enter Tryd.func26, Tryd.ntmps26
    go_wp2
    go_ret
    exact ⟨rfl, rfl⟩
  · have hl : lg n = Lib.bitLen (n.toNat - 1) := by simp [lg, h]
    rw [hl]
    clear hl
    go_enter Tryd.func26, Tryd.ntmps26
    go_wp2_with (go_at_call 34; refine (Tryd.bits_Len64 _ _ (by omega) (by omega)).mono ?_; rintro e w' ⟨rfl, rfl⟩)
    go_ret
    exact ⟨rfl, rfl⟩

/-- The string of a number's digits. -/
def itoaS (n : Int) : ByteArray := ⟨(Lib.itoa n).toArray⟩

set_option maxHeartbeats 400000 in
theorem format_any (n : Int) (w : World) (h0 : -9223372036854775808 ≤ n) (h1 : n ≤ 9223372036854775807) (htab : Lib.TabIs Tryd.prog w "internal/strconv.uint64pow10" .u64 Lib.pow10Tab) :
    Calls Tryd.prog 20 #[.int .i64 n] w fun e w' => e = .returned (.string (itoaS n)) ∧ Below w.heap.size w w' := by
  go_enter Tryd.func20, Tryd.ntmps20
  go_wp2_with (go_at_call 33; refine (Tryd.strconv_Itoa _ h0 h1 _ htab).mono ?_; rintro e w' ⟨rfl, k, os, rfl⟩)
  go_ret
  exact ⟨rfl, Lib.below_grow _ _ (Nat.le_refl _) _ _⟩

theorem qd_7 : qd (-7) 2 = -4 := by simp [qd, apB, wrap64]
theorem itoa_12 : itoaS (-12) = { data := #[45, 49, 50] } := by simp [itoaS, Lib.itoa, Lib.decDigits]
theorem lg_3 : lg 3 = 2 := by decide +kernel
theorem par_f : parN [48, 120, 102, 102, 102, 102, 102, 102, 102, 102, 102, 102, 102, 102, 102, 102, 102, 102] = -1 ∧ parE [48, 120, 102, 102, 102, 102, 102, 102, 102, 102, 102, 102, 102, 102, 102, 102, 102, 102] = 0 := by decide +kernel

theorem tab_below {w w' : World} (h : Lib.TabIs Tryd.prog w "internal/strconv.uint64pow10" .u64 Lib.pow10Tab) (hb : Below w.heap.size w w') : Lib.TabIs Tryd.prog w' "internal/strconv.uint64pow10" .u64 Lib.pow10Tab := Lib.tabBelow_of_tabIs h w' hb

set_option maxHeartbeats 1000000 in
theorem fixed_any (w : World) (htab : Lib.TabIs Tryd.prog w "internal/strconv.uint64pow10" .u64 Lib.pow10Tab) : Calls Tryd.prog 10 #[] w fun e w' => e = .returned (.bool true) ∧ Below w.heap.size w w' := by
  have h1 := qd_7
  have h2 := par_f.1
  have h3 := par_f.2
  have h4 := itoa_12
  have h5 := lg_3
  have h6 : ez 2 = 0 := rfl
  go_enter Tryd.func10, Tryd.ntmps10
  go_wp2_with (first
    | (go_at_call 8; refine (div_any _ _ _).mono ?_; rintro e w' ⟨rfl, rfl⟩)
    | (go_at_call 18; refine (parse_any _ _ (by decide)).mono ?_; rintro e w' ⟨rfl, rfl⟩)
    | (go_at_call 20; refine (format_any _ _ (by omega) (by omega) htab).mono ?_; rintro e w' ⟨rfl, hb⟩)
    | (go_at_call 26; refine (log2_any _ _ (by omega)).mono ?_; rintro e w' ⟨rfl, rfl⟩)
    | go_in)
  · go_ret
    exact ⟨rfl, by assumption⟩
  · rename_i hn
    exact absurd (show wrap64 9223372036854775808 = -9223372036854775808 by unfold wrap64; omega) hn

#print axioms fixed_any

end Go.Proofs.YtoecfpedpibfiabDoor
