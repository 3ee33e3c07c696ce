import Derived.Test.YtkjbgggghigapaaGreatCg32
namespace Go.Proofs.YtkjbgggghigapaaGreat
set_option maxRecDepth 100000
theorem bt_2 (lf : Int → Int → Int) (S U : Nat) : btO lf S U 2 = true:=by kernel_rfl
theorem bt_12 (lf : Int → Int → Int) (S U : Nat) : btO lf S U 12 = true:=by kernel_rfl
theorem bt_22 (lf : Int → Int → Int) (S U : Nat) : btO lf S U 22 = true:=by kernel_rfl
theorem bt_32 (lf : Int → Int → Int) (S U : Nat) : btO lf S U 32 = true:=by kernel_rfl
theorem bt_42 (lf : Int → Int → Int) (S U : Nat) : btO lf S U 42 = true:=by kernel_rfl
theorem bt_52 (lf : Int → Int → Int) (S U : Nat) : btO lf S U 52 = true:=by kernel_rfl
theorem bt_62 (lf : Int → Int → Int) (S U : Nat) : btO lf S U 62 = true:=by kernel_rfl
theorem bt_72 (lf : Int → Int → Int) (S U : Nat) : btO lf S U 72 = true:=by kernel_rfl
theorem bt_82 (lf : Int → Int → Int) (S U : Nat) : btO lf S U 82 = true:=by kernel_rfl
theorem bt_92 (lf : Int → Int → Int) (S U : Nat) : btO lf S U 92 = true:=by kernel_rfl
theorem bt_102 (lf : Int → Int → Int) (S U : Nat) : btO lf S U 102 = true:=by kernel_rfl
theorem bt_112 (lf : Int → Int → Int) (S U : Nat) : btO lf S U 112 = true:=by kernel_rfl
theorem bt_122 (lf : Int → Int → Int) (S U : Nat) : btO lf S U 122 = true:=by kernel_rfl
theorem bt_132 (lf : Int → Int → Int) (S U : Nat) : btO lf S U 132 = true:=by kernel_rfl
theorem bt_142 (lf : Int → Int → Int) (S U : Nat) : btO lf S U 142 = true:=by kernel_rfl
theorem bt_152 (lf : Int → Int → Int) (S U : Nat) : btO lf S U 152 = true:=by kernel_rfl
theorem bt_162 (lf : Int → Int → Int) (S U : Nat) : btO lf S U 162 = true:=by kernel_rfl
theorem bt_172 (lf : Int → Int → Int) (S U : Nat) : btO lf S U 172 = true:=by kernel_rfl
theorem bt_182 (lf : Int → Int → Int) (S U : Nat) : btO lf S U 182 = true:=by kernel_rfl
theorem bt_192 (lf : Int → Int → Int) (S U : Nat) : btO lf S U 192 = true:=by kernel_rfl
theorem btr_2 (lf : Int → Int → Int) (S U : Nat) : ∀ q : Nat,10 * q + 2 ≤ 200 → btO lf S U (10 * q + 2) = true
  | 0,_=>bt_2 lf S U
  | 1,_=>bt_12 lf S U
  | 2,_=>bt_22 lf S U
  | 3,_=>bt_32 lf S U
  | 4,_=>bt_42 lf S U
  | 5,_=>bt_52 lf S U
  | 6,_=>bt_62 lf S U
  | 7,_=>bt_72 lf S U
  | 8,_=>bt_82 lf S U
  | 9,_=>bt_92 lf S U
  | 10,_=>bt_102 lf S U
  | 11,_=>bt_112 lf S U
  | 12,_=>bt_122 lf S U
  | 13,_=>bt_132 lf S U
  | 14,_=>bt_142 lf S U
  | 15,_=>bt_152 lf S U
  | 16,_=>bt_162 lf S U
  | 17,_=>bt_172 lf S U
  | 18,_=>bt_182 lf S U
  | 19,_=>bt_192 lf S U
  | q + 20,h=>absurd h (by omega)
end Go.Proofs.YtkjbgggghigapaaGreat


namespace Go.Proofs.YtkjbgggghigapaaGreat
set_option maxRecDepth 100000
theorem bt_3 (lf : Int → Int → Int) (S U : Nat) : btO lf S U 3 = true:=by kernel_rfl
theorem bt_13 (lf : Int → Int → Int) (S U : Nat) : btO lf S U 13 = true:=by kernel_rfl
theorem bt_23 (lf : Int → Int → Int) (S U : Nat) : btO lf S U 23 = true:=by kernel_rfl
theorem bt_33 (lf : Int → Int → Int) (S U : Nat) : btO lf S U 33 = true:=by kernel_rfl
theorem bt_43 (lf : Int → Int → Int) (S U : Nat) : btO lf S U 43 = true:=by kernel_rfl
theorem bt_53 (lf : Int → Int → Int) (S U : Nat) : btO lf S U 53 = true:=by kernel_rfl
theorem bt_63 (lf : Int → Int → Int) (S U : Nat) : btO lf S U 63 = true:=by kernel_rfl
theorem bt_73 (lf : Int → Int → Int) (S U : Nat) : btO lf S U 73 = true:=by kernel_rfl
theorem bt_83 (lf : Int → Int → Int) (S U : Nat) : btO lf S U 83 = true:=by kernel_rfl
theorem bt_93 (lf : Int → Int → Int) (S U : Nat) : btO lf S U 93 = true:=by kernel_rfl
theorem bt_103 (lf : Int → Int → Int) (S U : Nat) : btO lf S U 103 = true:=by kernel_rfl
theorem bt_113 (lf : Int → Int → Int) (S U : Nat) : btO lf S U 113 = true:=by kernel_rfl
theorem bt_123 (lf : Int → Int → Int) (S U : Nat) : btO lf S U 123 = true:=by kernel_rfl
theorem bt_133 (lf : Int → Int → Int) (S U : Nat) : btO lf S U 133 = true:=by kernel_rfl
theorem bt_143 (lf : Int → Int → Int) (S U : Nat) : btO lf S U 143 = true:=by kernel_rfl
theorem bt_153 (lf : Int → Int → Int) (S U : Nat) : btO lf S U 153 = true:=by kernel_rfl
theorem bt_163 (lf : Int → Int → Int) (S U : Nat) : btO lf S U 163 = true:=by kernel_rfl
theorem bt_173 (lf : Int → Int → Int) (S U : Nat) : btO lf S U 173 = true:=by kernel_rfl
theorem bt_183 (lf : Int → Int → Int) (S U : Nat) : btO lf S U 183 = true:=by kernel_rfl
theorem bt_193 (lf : Int → Int → Int) (S U : Nat) : btO lf S U 193 = true:=by kernel_rfl
theorem btr_3 (lf : Int → Int → Int) (S U : Nat) : ∀ q : Nat,10 * q + 3 ≤ 200 → btO lf S U (10 * q + 3) = true
  | 0,_=>bt_3 lf S U
  | 1,_=>bt_13 lf S U
  | 2,_=>bt_23 lf S U
  | 3,_=>bt_33 lf S U
  | 4,_=>bt_43 lf S U
  | 5,_=>bt_53 lf S U
  | 6,_=>bt_63 lf S U
  | 7,_=>bt_73 lf S U
  | 8,_=>bt_83 lf S U
  | 9,_=>bt_93 lf S U
  | 10,_=>bt_103 lf S U
  | 11,_=>bt_113 lf S U
  | 12,_=>bt_123 lf S U
  | 13,_=>bt_133 lf S U
  | 14,_=>bt_143 lf S U
  | 15,_=>bt_153 lf S U
  | 16,_=>bt_163 lf S U
  | 17,_=>bt_173 lf S U
  | 18,_=>bt_183 lf S U
  | 19,_=>bt_193 lf S U
  | q + 20,h=>absurd h (by omega)
end Go.Proofs.YtkjbgggghigapaaGreat
