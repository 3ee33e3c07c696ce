/- Equality of two values as plain data, and of their texts. -/
import Derived.Test.YtimmoecjfkacpabDoorTas
import Derived.Test.YtimmoecjfkacpabDoorRfmu
namespace Go.Proofs.YtimmoecjfkacpabDoor
open Go.RowKit

theorem list_eq (s t : ByteArray) : s.toList = t.toList ↔ s = t := by
  rw [ByteArray.toList_eq, ByteArray.toList_eq]
  constructor
  · intro h
    cases s with
    | mk d => cases t with
      | mk e => exact congrArg ByteArray.mk (Array.toList_inj.1 h)
  · intro h; rw [h]
theorem eqVal (k n : Int) (s : ByteArray) (k' n' : Int) (s' : ByteArray) (w : World) : (binOp .eql 23 (vl k n s) (vl k' n' s')).run Tryd.prog w = .ok (.bool (decide (k = k' ∧ n = n' ∧ s = s'))) w := by
  unfold vl
  go_simp
  simp only [list_eq]
  by_cases h1 : k = k'
  · by_cases h2 : n = n'
    · by_cases h3 : s = s'
      · simp [h1, h2, h3]
      · simp [h1, h2, h3]
    · simp [h2]
  · simp [h1]
theorem eqStr (s t : ByteArray) (w : World) : (binOp .eql 9 (.string s) (.string t)).run Tryd.prog w = .ok (.bool (decide (s = t))) w := by
  go_simp
  by_cases h : s = t
  · subst h; simp
  · have : ¬ s.toList = t.toList := fun e => h ((list_eq s t).1 e)
    simp [h, this]

/-- What the digits are worth. -/
def dval (l : List UInt8) : Nat := l.foldl (fun m c => m * 10 + (c.toNat - 48)) 0
theorem dval_snoc (l : List UInt8) (c : UInt8) : dval (l ++ [c]) = dval l * 10 + (c.toNat - 48) := by simp [dval]
theorem dval_dec (u : Nat) : dval (Lib.decDigits u) = u := by
  rw [digs_unfold]
  split
  · rename_i h
    have e : (UInt8.ofNat (48 + u)).toNat = 48 + u := by simp; omega
    simp only [dval, List.foldl_cons, List.foldl_nil, e]; omega
  · have e : (UInt8.ofNat (48 + u % 10)).toNat = 48 + u % 10 := by simp; omega
    rw [dval_snoc, dval_dec (u / 10), e]; omega
termination_by u
decreasing_by omega
theorem dec_inj (u v : Nat) (h : Lib.decDigits u = Lib.decDigits v) : u = v := by rw [← dval_dec u, ← dval_dec v, h]
theorem dec_head (u : Nat) (l : List UInt8) : Lib.decDigits u ≠ 45 :: l := by
  intro h
  have : ∀ u, ∀ c ∈ Lib.decDigits u, 48 ≤ c.toNat := by
    intro u
    induction u using Nat.strongRecOn with
    | _ u ih =>
      rw [digs_unfold]
      split
      · rename_i h; intro c hc; simp at hc; subst hc; simp; omega
      · intro c hc
        rw [List.mem_append] at hc
        rcases hc with hc | hc
        · exact ih (u / 10) (by omega) c hc
        · simp at hc; subst hc; simp; omega
  have := this u 45 (by rw [h]; simp)
  simp at this
theorem itoa_inj (x y : Int) (h : itoaS x = itoaS y) : x = y := by
  have h2 : Lib.itoa x = Lib.itoa y := by
    have := congrArg (fun b : ByteArray => b.data.toList) h
    simpa [itoaS] using this
  unfold Lib.itoa at h2
  split at h2 <;> split at h2
  · injection h2 with _ h3
    have := dec_inj _ _ h3; omega
  · exact absurd h2.symm (dec_head _ _)
  · exact absurd h2 (dec_head _ _)
  · have := dec_inj _ _ h2; omega

theorem app_inj (p a b : ByteArray) (h : p ++ a = p ++ b) : a = b := by
  have := congrArg (fun x : ByteArray => x.data.toList) h
  simp at this
  cases a with
  | mk d => cases b with
    | mk e => exact congrArg ByteArray.mk (Array.toList_inj.1 (by simpa using this))

end Go.Proofs.YtimmoecjfkacpabDoor
