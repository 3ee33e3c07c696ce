/- The walks of the laws UtflibOffsets and UtflibCounts. -/
import Derived.Test.YtbgbhogcjaodkaaCg06
import Derived.Test.YtbgbhogcjaodkaaCg10
import Derived.Test.YtbgbhogcjaodkaaCg11
namespace Go.Proofs.Ytbgbhogcjaodkaa
open Go.RowKit

set_option maxRecDepth 20000 in
set_option maxHeartbeats 2000000 in
theorem offsets_walk (s : ByteArray) (n i : Int) (w : World) (hs : s.size ≤ 140737488351232) (h3 : -9223372036854775808 ≤ n) (h4 : n ≤ 9223372036854775807) (h1 : -9223372036854775808 ≤ i) (h2 : i ≤ 9223372036854775807) :
    Calls Try.prog 5 #[.string s, .int .i64 n, .int .i64 i] w fun e w' => e = .returned (.bool true) ∧ Below w.heap.size w w' := by
  have C1 := fun W => offset_any s n i W hs h1 h2 h3 h4
  have C2 := fun W => roffset_any s n i W hs h1 h2 h3 h4
  have C3 := fixed_any
  have C4 := fun W => step_any s i W hs
  have C5 := fun W => rstep_any s i W hs
  unfold oR at C1 C2
  unfold stV at C4 C5
  generalize ofs s n i = O at *
  generalize stR s i = S at *
  obtain ⟨o1, o2, o3⟩ := O
  obtain ⟨s1, s2, s3, s4⟩ := S
  have HB : Hid (Below w.heap.size w w) := Below.refl _ _
  clear hs h1 h2 h3 h4
  cases o2 <;> cases s3 <;>
    (go_enter Try.func5, Try.ntmps5
     go_wp2_with (first
      | (go_at_call 17; refine (C1 _).mono ?_; rintro e w3 ⟨rfl, h3⟩; subst w3)
      | (go_at_call 18; refine (C2 _).mono ?_; rintro e w3 ⟨rfl, h3⟩; subst w3)
      | (go_at_call 13; refine (C3 _).mono ?_; rintro e w1 ⟨rfl, h1⟩; have HB : Hid (Below w.heap.size w w1) := (bthen HB.out HB.out.size h1))
      | (go_at_call 19; refine (C4 _).mono ?_; rintro e w1 ⟨rfl, h1⟩; have HB : Hid (Below w.heap.size w w1) := (bthen HB.out HB.out.size h1))
      | (go_at_call 20; refine (C5 _).mono ?_; rintro e w1 ⟨rfl, h1⟩; have HB : Hid (Below w.heap.size w w1) := (bthen HB.out HB.out.size h1)))
     go_ret
     exact ⟨rfl, HB.out⟩)
end Go.Proofs.Ytbgbhogcjaodkaa
