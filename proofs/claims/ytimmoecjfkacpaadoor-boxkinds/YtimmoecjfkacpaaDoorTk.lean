/- The walks of take, show and putBoth, and of Round, Truth, Type and Show. -/
import Derived.Test.YtimmoecjfkacpaaDoorTas
import Derived.Test.YtimmoecjfkacpaaDoorRfmu
namespace Go.Proofs.YtimmoecjfkacpaaDoor
open Go.RowKit

abbrev Tab (w : World) : Prop := Lib.TabIs Tryd.prog w "internal/strconv.uint64pow10" .u64 Lib.pow10Tab

set_option maxHeartbeats 1000000 in
theorem take_any (b : Bx) (w : World) : Calls Tryd.prog 31 #[b.box] w fun e w' => e = .returned b.val ∧ w' = w.alloc b.blk := by
  have e55 := n55
  have e56 := n56
  have e57 := n57
  have e58 := n58
  have e59 := n59
  have e60 := n60
  have f55 := y55
  have f56 := y56
  have f57 := y57
  have f58 := y58
  have f59 := y59
  have f60 := y60
  unfold Bx.val Bx.blk
  rcases b with _ | (_ | _) | _ | _ | _ | _ | _
  all_goals
    simp only [Bx.kind, Bx.num, Bx.txt, Bx.box, bi, if_true, Bool.false_eq_true, if_false]
    go_enter Tryd.func31, Tryd.ntmps31
    go_wp2
    refine bodyPost_ret (v := vl _ _ _) (by simp [results, Tryd.results31, go_sem]) rfl ⟨rfl, rfl⟩

def Bx.shw : Bx → ByteArray
  | .nil => ⟨#[110, 105, 108]⟩
  | .bool true => ⟨#[116, 114, 117, 101]⟩
  | .bool false => ⟨#[102, 97, 108, 115, 101]⟩
  | .int n => itoaS n
  | .str s => s
  | .tab n => ⟨#[116, 97, 98, 108, 101, 58, 32]⟩ ++ itoaS n
  | .fn n => ⟨#[102, 117, 110, 99, 116, 105, 111, 110, 58, 32]⟩ ++ itoaS n
  | .lib n => ⟨#[98, 117, 105, 108, 116, 105, 110, 58, 32]⟩ ++ itoaS n

set_option maxRecDepth 20000 in
set_option maxHeartbeats 1000000 in
theorem show_any (b : Bx) (hb : b.ok) (w : World) (htab : Tab w) : Calls Tryd.prog 32 #[b.box] w fun e w' => e = .returned (.string b.shw) ∧ Below w.heap.size w w' := by
  have e55 := n55
  have e56 := n56
  have e57 := n57
  have e58 := n58
  have e59 := n59
  have e60 := n60
  have f55 := y55
  have f56 := y56
  have f57 := y57
  have f58 := y58
  have f59 := y59
  have f60 := y60
  rcases b with _ | (_ | _) | n | _ | n | n | n
  · simp only [Bx.box, Bx.shw]
    go_enter Tryd.func32, Tryd.ntmps32
    go_wp2
    go_ret
    exact ⟨rfl, Below.refl _ _⟩
  · simp only [Bx.box, Bx.shw]
    go_enter Tryd.func32, Tryd.ntmps32
    go_wp2
    go_ret
    exact ⟨rfl, Below.refl _ _⟩
  · simp only [Bx.box, Bx.shw]
    go_enter Tryd.func32, Tryd.ntmps32
    go_wp2
    go_ret
    exact ⟨rfl, Below.refl _ _⟩
  · have C := fun w h => format_any n w hb.1 hb.2 h
    simp only [Bx.box, Bx.shw]
    generalize itoaS n = t at *
    go_enter Tryd.func32, Tryd.ntmps32
    go_wp2_with (go_at_call 45; refine (C _ htab).mono ?_; rintro e w' ⟨rfl, hb⟩)
    go_ret
    exact ⟨rfl, by assumption⟩
  · simp only [Bx.box, Bx.shw]
    go_enter Tryd.func32, Tryd.ntmps32
    go_wp2
    go_ret
    exact ⟨rfl, Below.refl _ _⟩
  all_goals
    have C := fun w h => format_any n w (by have := hb.1; omega) hb.2 h
    have hsz := itoaS_size n (by have := hb.1; omega) hb.2
    simp only [Bx.box, Bx.shw]
    generalize itoaS n = t at *
    go_enter Tryd.func32, Tryd.ntmps32
    go_wp2_with (go_at_call 45; refine (C _ htab).mono ?_; rintro e w' ⟨rfl, hb⟩)
    go_ret
    exact ⟨rfl, by assumption⟩

end Go.Proofs.YtimmoecjfkacpaaDoor
