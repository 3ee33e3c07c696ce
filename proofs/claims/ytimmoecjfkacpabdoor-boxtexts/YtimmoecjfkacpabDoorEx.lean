/- The walks of Round, Truth, Type and Show. -/
import Derived.Test.YtimmoecjfkacpabDoorTk
namespace Go.Proofs.YtimmoecjfkacpabDoor
open Go.RowKit

theorem tab_keep {w w' : World} (h : Tab w) (hb : Below w.heap.size w w') : Tab w' := tab_below h hb

def Bx.tru : Bx → Bool
  | .nil => false
  | .bool b => b
  | _ => true
def Bx.tyn : Bx → ByteArray
  | .nil => ⟨#[110, 105, 108]⟩
  | .bool _ => ⟨#[98, 111, 111, 108, 101, 97, 110]⟩
  | .int _ => ⟨#[110, 117, 109, 98, 101, 114]⟩
  | .str _ => ⟨#[115, 116, 114, 105, 110, 103]⟩
  | .tab _ => ⟨#[116, 97, 98, 108, 101]⟩
  | .fn _ => ⟨#[102, 117, 110, 99, 116, 105, 111, 110]⟩
  | .lib _ => ⟨#[102, 117, 110, 99, 116, 105, 111, 110]⟩

set_option maxHeartbeats 1000000 in
theorem show_ok (b : Bx) (hb : b.ok) (w : World) (htab : Tab w) : Calls Tryd.prog 5 #[b.val] w fun e w' => e = .returned (.tuple #[.string b.shw, .int .i64 0]) ∧ Below w.heap.size w w' := by
  have C1 := put_ok b hb
  have C2 := show_any b hb
  clear hb
  unfold Bx.val Bx.blk at *
  have ht := tab_keep htab (b3 w (vb b.kind b.num b.txt) (vb b.kind b.num b.txt) (vb b.kind b.num b.txt))
  have HT : Hid _ := ht
  clear ht htab
  unfold vl vb at *
  go_enter Tryd.func5, Tryd.ntmps5
  go_wp2_with (first | (go_at_call 12; refine (C1 _).mono ?_; rintro e w' ⟨rfl, rfl⟩) | (go_at_call 13; refine (C2 _ HT.out).mono ?_; rintro e w' ⟨rfl, hb⟩))
  go_ret2
  exact ⟨rfl, bthen (b3 _ _ _ _) (by simp; omega) (by assumption)⟩

set_option maxHeartbeats 1000000 in
theorem show_bad (k n : Int) (s : ByteArray) (h : inF k n s = false) (w : World) : Calls Tryd.prog 5 #[vl k n s] w fun e w' => e = .returned (.tuple #[.string ⟨#[]⟩, .int .i64 2]) ∧ Below w.heap.size w w' := by
  have C1 := put_bad k n s h
  clear h
  unfold vl vb at *
  go_enter Tryd.func5, Tryd.ntmps5
  go_wp2_with (go_at_call 12; refine (C1 _).mono ?_; rintro e w' ⟨rfl, rfl⟩)
  go_ret2
  refine ⟨rfl, ?_⟩
  repeat (first | exact Below.refl _ _ | refine Below.alloc ?_ (by simp; try omega) _)

end Go.Proofs.YtimmoecjfkacpabDoor
