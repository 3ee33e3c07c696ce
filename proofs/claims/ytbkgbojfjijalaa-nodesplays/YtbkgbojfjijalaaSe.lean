/- How two structs are compared. -/
import Derived.Test.YtbkgbojfjijalaaFi
namespace Go.Proofs.Ytbkgbojfjijalaa
open Go.RowKit
theorem under32 : Try.prog.underlying 32 = some (.struct (Try.prog.fieldsOf 32)) := by kernel_rfl
theorem stood32 : Try.prog.stoodInHeld 32 = false := by kernel_rfl
theorem guard32 : Try.prog.eqGuardType Try.prog.depth 32 = false := by kernel_rfl
theorem under54 : Try.prog.underlying 54 = some (.struct (Try.prog.fieldsOf 54)) := by kernel_rfl
theorem stood54 : Try.prog.stoodInHeld 54 = false := by kernel_rfl
theorem guard54 : Try.prog.eqGuardType Try.prog.depth 54 = false := by kernel_rfl
theorem bytes_iff {s s' : ByteArray} : s.toList = s'.toList ↔ s = s' := by
  rw [ByteArray.toList_eq, ByteArray.toList_eq]
  constructor
  · intro h
    obtain ⟨⟨x⟩⟩ := s
    obtain ⟨⟨y⟩⟩ := s'
    simp at h
    rw [h]
  · intro h; rw [h]
theorem eql32 (k n k' n' : Int) (s s' : ByteArray) (W : World) : (binOp .eql 32 (vl k n s) (vl k' n' s')).run Try.prog W = .ok (.bool (decide ((k, n, s) = (k', n', s')))) W := by
  unfold vl
  rw [run_eql_struct, run_equalIn_agg W _ _ _ _ under32 stood32]
  simp [go_sem, bytes_iff]
  by_cases h1 : k = k' <;> by_cases h2 : n = n' <;> by_cases h3 : s = s' <;> simp [h1, h2, h3]
theorem neq32 (k n k' n' : Int) (s s' : ByteArray) (W : World) : (binOp .neq 32 (vl k n s) (vl k' n' s')).run Try.prog W = .ok (.bool (!decide ((k, n, s) = (k', n', s')))) W := by
  unfold vl
  rw [run_neq_struct, run_equalIn_agg W _ _ _ _ under32 stood32]
  simp [go_sem, bytes_iff]
  by_cases h1 : k = k' <;> by_cases h2 : n = n' <;> by_cases h3 : s = s' <;> simp [h1, h2, h3]
abbrev vn (k x : V) (l : Int) : Value := .agg #[.int .i64 k.1, .int .i64 k.2.1, .string k.2.2, .int .i64 x.1, .int .i64 x.2.1, .string x.2.2, .int .i64 l]
theorem neq54 (k x k' x' : V) (l l' : Int) (W : World) : (binOp .neq 54 (vn k x l) (vn k' x' l')).run Try.prog W = .ok (.bool (!decide (k = k' ∧ x = x' ∧ l = l'))) W := by
  unfold vn
  obtain ⟨k0, k1, k2⟩ := k
  obtain ⟨x0, x1, x2⟩ := x
  obtain ⟨y0, y1, y2⟩ := k'
  obtain ⟨z0, z1, z2⟩ := x'
  rw [run_neq_struct, run_equalIn_agg W _ _ _ _ under54 stood54]
  simp [go_sem, bytes_iff]
  split <;> rename_i h <;> simp [h]
  split <;> rename_i h <;> simp [h]
  split <;> rename_i h <;> simp [h]
  split <;> rename_i h <;> simp [h]
  split <;> rename_i h <;> simp [h]
  split <;> rename_i h <;> simp [h]
  split <;> rename_i h <;> simp [h]
theorem field0 (k x : V) (l : Int) (W : World) : (Instr.field 54 (vn k x l) 0).run Try.prog W = .ok (vl k.1 k.2.1 k.2.2) W := by kernel_rfl
theorem field1 (k x : V) (l : Int) (W : World) : (Instr.field 54 (vn k x l) 1).run Try.prog W = .ok (vl x.1 x.2.1 x.2.2) W := by kernel_rfl
theorem field2 (k x : V) (l : Int) (W : World) : (Instr.field 54 (vn k x l) 2).run Try.prog W = .ok (.int .i64 l) W := by kernel_rfl
end Go.Proofs.Ytbkgbojfjijalaa
