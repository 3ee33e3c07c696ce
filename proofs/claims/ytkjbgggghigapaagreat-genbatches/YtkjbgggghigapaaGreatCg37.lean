import Derived.Test.YtkjbgggghigapaaGreatCg32
namespace Go.Proofs.YtkjbgggghigapaaGreat
set_option maxRecDepth 100000
theorem bt_8 (lf : Int → Int → Int) (S U : Nat) : btO lf S U 8 = true:=by kernel_rfl
theorem bt_18 (lf : Int → Int → Int) (S U : Nat) : btO lf S U 18 = true:=by kernel_rfl
theorem bt_28 (lf : Int → Int → Int) (S U : Nat) : btO lf S U 28 = true:=by kernel_rfl
theorem bt_38 (lf : Int → Int → Int) (S U : Nat) : btO lf S U 38 = true:=by kernel_rfl
theorem bt_48 (lf : Int → Int → Int) (S U : Nat) : btO lf S U 48 = true:=by kernel_rfl
theorem bt_58 (lf : Int → Int → Int) (S U : Nat) : btO lf S U 58 = true:=by kernel_rfl
theorem bt_68 (lf : Int → Int → Int) (S U : Nat) : btO lf S U 68 = true:=by kernel_rfl
theorem bt_78 (lf : Int → Int → Int) (S U : Nat) : btO lf S U 78 = true:=by kernel_rfl
theorem bt_88 (lf : Int → Int → Int) (S U : Nat) : btO lf S U 88 = true:=by kernel_rfl
theorem bt_98 (lf : Int → Int → Int) (S U : Nat) : btO lf S U 98 = true:=by kernel_rfl
theorem bt_108 (lf : Int → Int → Int) (S U : Nat) : btO lf S U 108 = true:=by kernel_rfl
theorem bt_118 (lf : Int → Int → Int) (S U : Nat) : btO lf S U 118 = true:=by kernel_rfl
theorem bt_128 (lf : Int → Int → Int) (S U : Nat) : btO lf S U 128 = true:=by kernel_rfl
theorem bt_138 (lf : Int → Int → Int) (S U : Nat) : btO lf S U 138 = true:=by kernel_rfl
theorem bt_148 (lf : Int → Int → Int) (S U : Nat) : btO lf S U 148 = true:=by kernel_rfl
theorem bt_158 (lf : Int → Int → Int) (S U : Nat) : btO lf S U 158 = true:=by kernel_rfl
theorem bt_168 (lf : Int → Int → Int) (S U : Nat) : btO lf S U 168 = true:=by kernel_rfl
theorem bt_178 (lf : Int → Int → Int) (S U : Nat) : btO lf S U 178 = true:=by kernel_rfl
theorem bt_188 (lf : Int → Int → Int) (S U : Nat) : btO lf S U 188 = true:=by kernel_rfl
theorem bt_198 (lf : Int → Int → Int) (S U : Nat) : btO lf S U 198 = true:=by kernel_rfl
theorem btr_8 (lf : Int → Int → Int) (S U : Nat) : ∀ q : Nat,10 * q + 8 ≤ 200 → btO lf S U (10 * q + 8) = true
  | 0,_=>bt_8 lf S U
  | 1,_=>bt_18 lf S U
  | 2,_=>bt_28 lf S U
  | 3,_=>bt_38 lf S U
  | 4,_=>bt_48 lf S U
  | 5,_=>bt_58 lf S U
  | 6,_=>bt_68 lf S U
  | 7,_=>bt_78 lf S U
  | 8,_=>bt_88 lf S U
  | 9,_=>bt_98 lf S U
  | 10,_=>bt_108 lf S U
  | 11,_=>bt_118 lf S U
  | 12,_=>bt_128 lf S U
  | 13,_=>bt_138 lf S U
  | 14,_=>bt_148 lf S U
  | 15,_=>bt_158 lf S U
  | 16,_=>bt_168 lf S U
  | 17,_=>bt_178 lf S U
  | 18,_=>bt_188 lf S U
  | 19,_=>bt_198 lf S U
  | q + 20,h=>absurd h (by omega)
end Go.Proofs.YtkjbgggghigapaaGreat


namespace Go.Proofs.YtkjbgggghigapaaGreat
set_option maxRecDepth 100000
theorem bt_9 (lf : Int → Int → Int) (S U : Nat) : btO lf S U 9 = true:=by kernel_rfl
theorem bt_19 (lf : Int → Int → Int) (S U : Nat) : btO lf S U 19 = true:=by kernel_rfl
theorem bt_29 (lf : Int → Int → Int) (S U : Nat) : btO lf S U 29 = true:=by kernel_rfl
theorem bt_39 (lf : Int → Int → Int) (S U : Nat) : btO lf S U 39 = true:=by kernel_rfl
theorem bt_49 (lf : Int → Int → Int) (S U : Nat) : btO lf S U 49 = true:=by kernel_rfl
theorem bt_59 (lf : Int → Int → Int) (S U : Nat) : btO lf S U 59 = true:=by kernel_rfl
theorem bt_69 (lf : Int → Int → Int) (S U : Nat) : btO lf S U 69 = true:=by kernel_rfl
theorem bt_79 (lf : Int → Int → Int) (S U : Nat) : btO lf S U 79 = true:=by kernel_rfl
theorem bt_89 (lf : Int → Int → Int) (S U : Nat) : btO lf S U 89 = true:=by kernel_rfl
theorem bt_99 (lf : Int → Int → Int) (S U : Nat) : btO lf S U 99 = true:=by kernel_rfl
theorem bt_109 (lf : Int → Int → Int) (S U : Nat) : btO lf S U 109 = true:=by kernel_rfl
theorem bt_119 (lf : Int → Int → Int) (S U : Nat) : btO lf S U 119 = true:=by kernel_rfl
theorem bt_129 (lf : Int → Int → Int) (S U : Nat) : btO lf S U 129 = true:=by kernel_rfl
theorem bt_139 (lf : Int → Int → Int) (S U : Nat) : btO lf S U 139 = true:=by kernel_rfl
theorem bt_149 (lf : Int → Int → Int) (S U : Nat) : btO lf S U 149 = true:=by kernel_rfl
theorem bt_159 (lf : Int → Int → Int) (S U : Nat) : btO lf S U 159 = true:=by kernel_rfl
theorem bt_169 (lf : Int → Int → Int) (S U : Nat) : btO lf S U 169 = true:=by kernel_rfl
theorem bt_179 (lf : Int → Int → Int) (S U : Nat) : btO lf S U 179 = true:=by kernel_rfl
theorem bt_189 (lf : Int → Int → Int) (S U : Nat) : btO lf S U 189 = true:=by kernel_rfl
theorem bt_199 (lf : Int → Int → Int) (S U : Nat) : btO lf S U 199 = true:=by kernel_rfl
theorem btr_9 (lf : Int → Int → Int) (S U : Nat) : ∀ q : Nat,10 * q + 9 ≤ 200 → btO lf S U (10 * q + 9) = true
  | 0,_=>bt_9 lf S U
  | 1,_=>bt_19 lf S U
  | 2,_=>bt_29 lf S U
  | 3,_=>bt_39 lf S U
  | 4,_=>bt_49 lf S U
  | 5,_=>bt_59 lf S U
  | 6,_=>bt_69 lf S U
  | 7,_=>bt_79 lf S U
  | 8,_=>bt_89 lf S U
  | 9,_=>bt_99 lf S U
  | 10,_=>bt_109 lf S U
  | 11,_=>bt_119 lf S U
  | 12,_=>bt_129 lf S U
  | 13,_=>bt_139 lf S U
  | 14,_=>bt_149 lf S U
  | 15,_=>bt_159 lf S U
  | 16,_=>bt_169 lf S U
  | 17,_=>bt_179 lf S U
  | 18,_=>bt_189 lf S U
  | 19,_=>bt_199 lf S U
  | q + 20,h=>absurd h (by omega)
end Go.Proofs.YtkjbgggghigapaaGreat
