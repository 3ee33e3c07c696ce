/- The walk of Format: the library's decimal text. -/
import Derived.Test.YtimmoecjfkacpaaDoorBase
import Derived.Test.YtimmoecjfkacpaaDoorShelf
import Derived.Lib.AppendIntMem
namespace Go.Proofs.YtimmoecjfkacpaaDoor
open Go.RowKit

theorem digs_unfold (u : Nat) : Lib.decDigits u = if u < 10 then [UInt8.ofNat (48 + u)] else Lib.decDigits (u / 10) ++ [UInt8.ofNat (48 + u % 10)] := by
  rw [Lib.decDigits]; simp
theorem digs_ne (u : Nat) : (Lib.decDigits u).isEmpty = false := by
  rw [digs_unfold]; split <;> simp

/-- The string of a number's digits. -/
def itoaS (n : Int) : ByteArray := ⟨(Lib.itoa n).toArray⟩

set_option maxHeartbeats 400000 in
theorem format_any (n : Int) (w : World) (h0 : -9223372036854775808 ≤ n) (h1 : n ≤ 9223372036854775807) (htab : Lib.TabIs Tryd.prog w "internal/strconv.uint64pow10" .u64 Lib.pow10Tab) :
    Calls Tryd.prog 45 #[.int .i64 n] w fun e w' => e = .returned (.string (itoaS n)) ∧ Below w.heap.size w w' := by
  go_enter Tryd.func45, Tryd.ntmps45
  go_wp2_with (go_at_call 49; refine (Tryd.strconv_Itoa _ h0 h1 _ htab).mono ?_; rintro e w' ⟨rfl, k, os, rfl⟩)
  go_ret
  exact ⟨rfl, Lib.below_grow _ _ (Nat.le_refl _) _ _⟩

theorem tab_below {w w' : World} (h : Lib.TabIs Tryd.prog w "internal/strconv.uint64pow10" .u64 Lib.pow10Tab) (hb : Below w.heap.size w w') : Lib.TabIs Tryd.prog w' "internal/strconv.uint64pow10" .u64 Lib.pow10Tab := Lib.tabBelow_of_tabIs h w' hb

end Go.Proofs.YtimmoecjfkacpaaDoor
