/- The walks of Round, Truth, Type and Show. -/
import Derived.Test.YtimmoecjfkacpaaDoorTk
namespace Go.Proofs.YtimmoecjfkacpaaDoor
open Go.RowKit

theorem tab_keep {w w' : World} (h : Tab w) (hb : Below w.heap.size w w') : Tab w' := tab_below h hb

set_option maxHeartbeats 1000000 in
theorem round_ok (b : Bx) (hb : b.ok) (w : World) : Calls Tryd.prog 10 #[b.val] w fun e w' => e = .returned (.tuple #[b.val, .int .i64 0]) ∧ Below w.heap.size w w' := by
  have C1 := put_ok b hb
  have C2 := take_any b
  clear hb
  unfold Bx.val Bx.blk vl vb at *
  go_enter Tryd.func10, Tryd.ntmps10
  go_wp2_with (first | (go_at_call 30; refine (C1 _).mono ?_; rintro e w' ⟨rfl, rfl⟩) | (go_at_call 31; refine (C2 _).mono ?_; rintro e w' ⟨rfl, rfl⟩))
  refine bodyPost_ret (v := .tuple #[vl b.kind b.num b.txt, .int .i64 0]) (by simp [results, Tryd.results10, go_sem]) rfl ⟨rfl, ?_⟩
  repeat (first | exact Below.refl _ _ | refine Below.alloc ?_ (by simp; try omega) _)

set_option maxHeartbeats 1000000 in
theorem round_bad (k n : Int) (s : ByteArray) (h : inF k n s = false) (w : World) : Calls Tryd.prog 10 #[vl k n s] w fun e w' => e = .returned (.tuple #[vl 0 0 ⟨#[]⟩, .int .i64 2]) ∧ Below w.heap.size w w' := by
  have C1 := put_bad k n s h
  clear h
  unfold vl vb at *
  go_enter Tryd.func10, Tryd.ntmps10
  go_wp2_with (go_at_call 30; refine (C1 _).mono ?_; rintro e w' ⟨rfl, rfl⟩)
  refine bodyPost_ret (v := .tuple #[vl 0 0 ⟨#[]⟩, .int .i64 2]) (by simp [results, Tryd.results10, go_sem]) rfl ⟨rfl, ?_⟩
  repeat (first | exact Below.refl _ _ | refine Below.alloc ?_ (by simp; try omega) _)

def Bx.tru : Bx → Bool
  | .nil => false
  | .bool b => b
  | _ => true
def Bx.tyn : Bx → ByteArray
  | .nil => ⟨#[110, 105, 108]⟩
  | .bool _ => ⟨#[98, 111, 111, 108, 101, 97, 110]⟩
  | .int _ => ⟨#[110, 117, 109, 98, 101, 114]⟩
  | .str _ => ⟨#[115, 116, 114, 105, 110, 103]⟩
  | .tab _ => ⟨#[116, 97, 98, 108, 101]⟩
  | .fn _ => ⟨#[102, 117, 110, 99, 116, 105, 111, 110]⟩
  | .lib _ => ⟨#[102, 117, 110, 99, 116, 105, 111, 110]⟩

set_option maxHeartbeats 1000000 in
theorem truth_ok (b : Bx) (hb : b.ok) (w : World) : Calls Tryd.prog 11 #[b.val] w fun e w' => e = .returned (.tuple #[.bool b.tru, .int .i64 0]) ∧ Below w.heap.size w w' := by
  have C1 := put_ok b hb
  have e54 := n54
  have e55 := n55
  have f54 := y54
  have f55 := y55
  clear hb
  unfold Bx.val Bx.blk vl vb at *
  rcases b with _ | _ | _ | _ | _ | _ | _
  all_goals
    simp only [Bx.kind, Bx.num, Bx.txt, Bx.box, Bx.tru] at C1 ⊢
    go_enter Tryd.func11, Tryd.ntmps11
    go_wp2_with (go_at_call 30; refine (C1 _).mono ?_; rintro e w' ⟨rfl, rfl⟩)
    go_ret2
    refine ⟨rfl, ?_⟩
    repeat (first | exact Below.refl _ _ | refine Below.alloc ?_ (by simp; try omega) _)

set_option maxHeartbeats 1000000 in
theorem truth_bad (k n : Int) (s : ByteArray) (h : inF k n s = false) (w : World) : Calls Tryd.prog 11 #[vl k n s] w fun e w' => e = .returned (.tuple #[.bool false, .int .i64 2]) ∧ Below w.heap.size w w' := by
  have C1 := put_bad k n s h
  clear h
  unfold vl vb at *
  go_enter Tryd.func11, Tryd.ntmps11
  go_wp2_with (go_at_call 30; refine (C1 _).mono ?_; rintro e w' ⟨rfl, rfl⟩)
  go_ret2
  refine ⟨rfl, ?_⟩
  repeat (first | exact Below.refl _ _ | refine Below.alloc ?_ (by simp; try omega) _)

set_option maxHeartbeats 1000000 in
theorem type_ok (b : Bx) (hb : b.ok) (w : World) : Calls Tryd.prog 12 #[b.val] w fun e w' => e = .returned (.tuple #[.string b.tyn, .int .i64 0]) ∧ Below w.heap.size w w' := by
  have C1 := put_ok b hb
  have e55 := n55
  have e56 := n56
  have e57 := n57
  have e58 := n58
  have e59 := n59
  have e60 := n60
  have f55 := y55
  have f56 := y56
  have f57 := y57
  have f58 := y58
  have f59 := y59
  have f60 := y60
  clear hb
  unfold Bx.val Bx.blk vl vb at *
  rcases b with _ | _ | _ | _ | _ | _ | _
  all_goals
    simp only [Bx.kind, Bx.num, Bx.txt, Bx.box, Bx.tyn] at C1 ⊢
    go_enter Tryd.func12, Tryd.ntmps12
    go_wp2_with (go_at_call 30; refine (C1 _).mono ?_; rintro e w' ⟨rfl, rfl⟩)
    go_ret2
    refine ⟨rfl, ?_⟩
    repeat (first | exact Below.refl _ _ | refine Below.alloc ?_ (by simp; try omega) _)

set_option maxHeartbeats 1000000 in
theorem type_bad (k n : Int) (s : ByteArray) (h : inF k n s = false) (w : World) : Calls Tryd.prog 12 #[vl k n s] w fun e w' => e = .returned (.tuple #[.string ⟨#[]⟩, .int .i64 2]) ∧ Below w.heap.size w w' := by
  have C1 := put_bad k n s h
  clear h
  unfold vl vb at *
  go_enter Tryd.func12, Tryd.ntmps12
  go_wp2_with (go_at_call 30; refine (C1 _).mono ?_; rintro e w' ⟨rfl, rfl⟩)
  go_ret2
  refine ⟨rfl, ?_⟩
  repeat (first | exact Below.refl _ _ | refine Below.alloc ?_ (by simp; try omega) _)

set_option maxHeartbeats 1000000 in
theorem show_ok (b : Bx) (hb : b.ok) (w : World) (htab : Tab w) : Calls Tryd.prog 13 #[b.val] w fun e w' => e = .returned (.tuple #[.string b.shw, .int .i64 0]) ∧ Below w.heap.size w w' := by
  have C1 := put_ok b hb
  have C2 := show_any b hb
  clear hb
  unfold Bx.val Bx.blk at *
  have ht := tab_keep htab (b3 w (vb b.kind b.num b.txt) (vb b.kind b.num b.txt) (vb b.kind b.num b.txt))
  have HT : Hid _ := ht
  clear ht htab
  unfold vl vb at *
  go_enter Tryd.func13, Tryd.ntmps13
  go_wp2_with (first | (go_at_call 30; refine (C1 _).mono ?_; rintro e w' ⟨rfl, rfl⟩) | (go_at_call 32; refine (C2 _ HT.out).mono ?_; rintro e w' ⟨rfl, hb⟩))
  go_ret2
  exact ⟨rfl, bthen (b3 _ _ _ _) (by simp; omega) (by assumption)⟩

set_option maxHeartbeats 1000000 in
theorem show_bad (k n : Int) (s : ByteArray) (h : inF k n s = false) (w : World) : Calls Tryd.prog 13 #[vl k n s] w fun e w' => e = .returned (.tuple #[.string ⟨#[]⟩, .int .i64 2]) ∧ Below w.heap.size w w' := by
  have C1 := put_bad k n s h
  clear h
  unfold vl vb at *
  go_enter Tryd.func13, Tryd.ntmps13
  go_wp2_with (go_at_call 30; refine (C1 _).mono ?_; rintro e w' ⟨rfl, rfl⟩)
  go_ret2
  refine ⟨rfl, ?_⟩
  repeat (first | exact Below.refl _ _ | refine Below.alloc ?_ (by simp; try omega) _)

end Go.Proofs.YtimmoecjfkacpaaDoor
