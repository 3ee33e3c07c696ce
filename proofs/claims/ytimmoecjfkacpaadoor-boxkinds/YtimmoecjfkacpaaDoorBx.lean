/- The values in form, their boxes, and the walks of put, take and as. -/
import Derived.Test.YtimmoecjfkacpaaDoorChk
namespace Go.Proofs.YtimmoecjfkacpaaDoor
open Go.RowKit

/-- A value in form. -/
inductive Bx where
  | nil
  | bool (b : Bool)
  | int (n : Int)
  | str (s : ByteArray)
  | tab (n : Int)
  | fn (n : Int)
  | lib (n : Int)

def bi (b : Bool) : Int := if b then 1 else 0
def Bx.kind : Bx → Int
  | .nil => 0
  | .bool _ => 1
  | .int _ => 2
  | .str _ => 3
  | .tab _ => 4
  | .fn _ => 5
  | .lib _ => 6
def Bx.num : Bx → Int
  | .nil => 0
  | .bool b => bi b
  | .int n => n
  | .str _ => 0
  | .tab n => n
  | .fn n => n
  | .lib n => n
def Bx.txt : Bx → ByteArray
  | .str s => s
  | _ => ⟨#[]⟩
def Bx.val (b : Bx) : Value := vl b.kind b.num b.txt
def Bx.blk (b : Bx) : Obj := vb b.kind b.num b.txt
def Bx.box : Bx → Value
  | .nil => .iface 54 (.agg #[])
  | .bool b => .iface 55 (.bool b)
  | .int n => .iface 56 (.int .i64 n)
  | .str s => .iface 57 (.string s)
  | .tab n => .iface 58 (.int .i64 n)
  | .fn n => .iface 59 (.int .i64 n)
  | .lib n => .iface 60 (.int .i64 n)
def Bx.ok : Bx → Prop
  | .nil => True
  | .bool _ => True
  | .int n => -9223372036854775808 ≤ n ∧ n ≤ 9223372036854775807
  | .str s => s.size ≤ 10000
  | .tab n => 1 ≤ n ∧ n ≤ 9223372036854775807
  | .fn n => 1 ≤ n ∧ n ≤ 9223372036854775807
  | .lib n => 1 ≤ n ∧ n ≤ 9223372036854775807

theorem empty_of (s : ByteArray) (h : s.toList.isEmpty = true) : s = ⟨#[]⟩ := by
  have h1 : s.toList = [] := List.isEmpty_iff.1 h
  have h2 : s.data.toList = [] := by rw [← ByteArray.toList_eq]; exact h1
  cases s with
  | mk d => cases d with
    | mk l => simp at h2; subst h2; rfl

theorem form_of (k n : Int) (s : ByteArray) (h0 : -9223372036854775808 ≤ n) (h1 : n ≤ 9223372036854775807) (h : inF k n s = true) : ∃ b : Bx, b.ok ∧ k = b.kind ∧ n = b.num ∧ s = b.txt := by
  unfold inF at h
  by_cases k0 : k = 0
  · simp [k0] at h; exact ⟨.nil, trivial, k0, h.1, empty_of s (by simpa using h.2)⟩
  · rw [if_neg k0] at h
    by_cases k1 : k = 1
    · simp [k1] at h
      rcases h.1 with h2 | h2
      · exact ⟨.bool false, trivial, k1, h2, empty_of s (by simpa using h.2)⟩
      · exact ⟨.bool true, trivial, k1, h2, empty_of s (by simpa using h.2)⟩
    · rw [if_neg k1] at h
      by_cases k2 : k = 2
      · simp [k2] at h; exact ⟨.int n, ⟨h0, h1⟩, k2, rfl, empty_of s (by simpa using h)⟩
      · rw [if_neg k2] at h
        by_cases k3 : k = 3
        · simp [k3] at h; exact ⟨.str s, by (show s.size ≤ 10000; omega), k3, h.1, rfl⟩
        · rw [if_neg k3] at h
          by_cases k4 : k = 4 ∨ k = 5 ∨ k = 6
          · rw [if_pos k4] at h
            simp at h
            have he := empty_of s (by simpa using h.2)
            rcases k4 with k4 | k4 | k4
            · exact ⟨.tab n, ⟨h.1, h1⟩, k4, rfl, he⟩
            · exact ⟨.fn n, ⟨h.1, h1⟩, k4, rfl, he⟩
            · exact ⟨.lib n, ⟨h.1, h1⟩, k4, rfl, he⟩
          · rw [if_neg k4] at h; cases h
theorem ok_form (b : Bx) (h : b.ok) : inF b.kind b.num b.txt = true := by
  cases b with
  | bool x => cases x <;> simp [inF, Bx.kind, Bx.num, Bx.txt, bi]
  | str s => have h2 : (s.size : Int) ≤ 10000 := (by have : s.size ≤ 10000 := h; omega); simp [inF, Bx.kind, Bx.num, Bx.txt, h2]
  | tab n => have h2 : 1 ≤ n := h.1; simp [inF, Bx.kind, Bx.num, Bx.txt, h2]
  | fn n => have h2 : 1 ≤ n := h.1; simp [inF, Bx.kind, Bx.num, Bx.txt, h2]
  | lib n => have h2 : 1 ≤ n := h.1; simp [inF, Bx.kind, Bx.num, Bx.txt, h2]
  | _ => simp [inF, Bx.kind, Bx.num, Bx.txt]

set_option maxHeartbeats 1000000 in
theorem put_ok (b : Bx) (hb : b.ok) (w : World) : Calls Tryd.prog 30 #[b.val] w fun e w' => e = .returned (.tuple #[b.box, .int .i64 0]) ∧ w' = (w.alloc b.blk).alloc b.blk := by
  have C1 := check_any b.kind b.num b.txt
  have hc : chk b.kind b.num b.txt = 0 := by simp [chk, ok_form b hb]
  rw [hc] at C1
  clear hc hb
  unfold Bx.val Bx.blk
  rcases b with _ | (_ | _) | _ | _ | _ | _ | _
  all_goals
    simp only [Bx.kind, Bx.num, Bx.txt, Bx.box, bi, if_true, Bool.false_eq_true, if_false] at C1 ⊢
    go_enter Tryd.func30, Tryd.ntmps30
    go_wp2_with (go_at_call 15; refine (C1 _).mono ?_; rintro e w' ⟨rfl, rfl⟩)
    go_ret2
    exact ⟨rfl, rfl⟩

set_option maxHeartbeats 1000000 in
theorem put_bad (k n : Int) (s : ByteArray) (h : inF k n s = false) (w : World) : Calls Tryd.prog 30 #[vl k n s] w fun e w' => e = .returned (.tuple #[.nilIface, .int .i64 2]) ∧ w' = (w.alloc (vb k n s)).alloc (vb k n s) := by
  have C1 := check_any k n s
  have hc : chk k n s = 2 := by simp [chk, h]
  rw [hc] at C1
  clear hc h
  go_enter Tryd.func30, Tryd.ntmps30
  go_wp2_with (go_at_call 15; refine (C1 _).mono ?_; rintro e w' ⟨rfl, rfl⟩)
  go_ret2
  exact ⟨rfl, rfl⟩

end Go.Proofs.YtimmoecjfkacpaaDoor
