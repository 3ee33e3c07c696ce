/- The walk of the law CensusSizes. -/
import Derived.Test.YteknjkofmkigoaaApp
import Derived.Test.YteknjkofmkigoaaRsiz
namespace Go.Proofs.Yteknjkofmkigoaa
open Go.RowKit

set_option maxHeartbeats 1000000 in
theorem sizes_walk (l : List Int) (o : Int) (v : Value) (w : World) (h : Ints w.heap.size w v l) (hf : Fit l) (hbig : l.length ≤ 9223372036854775807) :
    Calls Try.prog 5 #[v, .int .i64 o] w fun e w' => e = .returned (.bool true) ∧ Below w.heap.size w w' := by
  have hlen := fewLen l
  have hf3 := hf.take 3000
  have D1 := fun W (hb : Below w.heap.size w W) => few_any l v W (h.go hb) hbig
  clear h hbig hf
  generalize l.take 3000 = m at *
  go_enter Try.func5, Try.ntmps5
  go_wp2_with fail
  have b2 : Below w.heap.size w (w.alloc (.cells #[] 3)) := balloc _ _
  refine (D1 _ b2).mono ?_
  rintro e w2 ⟨v2, rfl, rfl, i2⟩
  obtain ⟨v3, w3, hr, ho, b3⟩ := app_copy m v2 w i2 (by omega)
  have E1 := sizes_any m o v3 w3 (ints_own ho) hf3 (by omega)
  have D2 := D1 w3 b3
  clear i2 ho b2
  go_wp2_with (at_builtin; refine wp_app rfl _ _ 22 rfl 22 rfl _ _ rfl rfl hr ?_)
  refine E1.mono ?_
  rintro e w4 ⟨rfl, b4⟩
  have b5 := bthen b3 b3.size b4
  have D3 := D1 w4 b5
  clear E1 D2 hr b4 b3
  go_wp2_with fail
  refine D3.mono ?_
  rintro e w5 ⟨v5, rfl, rfl, i5⟩
  have E2 := rsizes_any m o v5 w5 i5 hf3 (by omega)
  clear D3 i5 D1
  generalize szA m o = A at *
  generalize szH m o = H at *
  generalize szE m o = E at *
  go_wp2_with fail
  refine E2.mono ?_
  rintro e w6 ⟨rfl, b6⟩
  have b7 := bthen b5 b5.size b6
  clear E2 b6 b5
  go_wp2_with fail
  refine (fixed_any w6).mono ?_
  rintro e w8 ⟨rfl, b8⟩
  go_wp2_with fail
  go_ret
  exact ⟨rfl, bthen b7 b7.size b8⟩

end Go.Proofs.Yteknjkofmkigoaa
