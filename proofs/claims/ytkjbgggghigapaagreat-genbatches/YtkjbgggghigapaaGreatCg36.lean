import Derived.Test.YtkjbgggghigapaaGreatCg32
namespace Go.Proofs.YtkjbgggghigapaaGreat
set_option maxRecDepth 100000
theorem bt_6 (lf : Int → Int → Int) (S U : Nat) : btO lf S U 6 = true:=by kernel_rfl
theorem bt_16 (lf : Int → Int → Int) (S U : Nat) : btO lf S U 16 = true:=by kernel_rfl
theorem bt_26 (lf : Int → Int → Int) (S U : Nat) : btO lf S U 26 = true:=by kernel_rfl
theorem bt_36 (lf : Int → Int → Int) (S U : Nat) : btO lf S U 36 = true:=by kernel_rfl
theorem bt_46 (lf : Int → Int → Int) (S U : Nat) : btO lf S U 46 = true:=by kernel_rfl
theorem bt_56 (lf : Int → Int → Int) (S U : Nat) : btO lf S U 56 = true:=by kernel_rfl
theorem bt_66 (lf : Int → Int → Int) (S U : Nat) : btO lf S U 66 = true:=by kernel_rfl
theorem bt_76 (lf : Int → Int → Int) (S U : Nat) : btO lf S U 76 = true:=by kernel_rfl
theorem bt_86 (lf : Int → Int → Int) (S U : Nat) : btO lf S U 86 = true:=by kernel_rfl
theorem bt_96 (lf : Int → Int → Int) (S U : Nat) : btO lf S U 96 = true:=by kernel_rfl
theorem bt_106 (lf : Int → Int → Int) (S U : Nat) : btO lf S U 106 = true:=by kernel_rfl
theorem bt_116 (lf : Int → Int → Int) (S U : Nat) : btO lf S U 116 = true:=by kernel_rfl
theorem bt_126 (lf : Int → Int → Int) (S U : Nat) : btO lf S U 126 = true:=by kernel_rfl
theorem bt_136 (lf : Int → Int → Int) (S U : Nat) : btO lf S U 136 = true:=by kernel_rfl
theorem bt_146 (lf : Int → Int → Int) (S U : Nat) : btO lf S U 146 = true:=by kernel_rfl
theorem bt_156 (lf : Int → Int → Int) (S U : Nat) : btO lf S U 156 = true:=by kernel_rfl
theorem bt_166 (lf : Int → Int → Int) (S U : Nat) : btO lf S U 166 = true:=by kernel_rfl
theorem bt_176 (lf : Int → Int → Int) (S U : Nat) : btO lf S U 176 = true:=by kernel_rfl
theorem bt_186 (lf : Int → Int → Int) (S U : Nat) : btO lf S U 186 = true:=by kernel_rfl
theorem bt_196 (lf : Int → Int → Int) (S U : Nat) : btO lf S U 196 = true:=by kernel_rfl
theorem btr_6 (lf : Int → Int → Int) (S U : Nat) : ∀ q : Nat,10 * q + 6 ≤ 200 → btO lf S U (10 * q + 6) = true
  | 0,_=>bt_6 lf S U
  | 1,_=>bt_16 lf S U
  | 2,_=>bt_26 lf S U
  | 3,_=>bt_36 lf S U
  | 4,_=>bt_46 lf S U
  | 5,_=>bt_56 lf S U
  | 6,_=>bt_66 lf S U
  | 7,_=>bt_76 lf S U
  | 8,_=>bt_86 lf S U
  | 9,_=>bt_96 lf S U
  | 10,_=>bt_106 lf S U
  | 11,_=>bt_116 lf S U
  | 12,_=>bt_126 lf S U
  | 13,_=>bt_136 lf S U
  | 14,_=>bt_146 lf S U
  | 15,_=>bt_156 lf S U
  | 16,_=>bt_166 lf S U
  | 17,_=>bt_176 lf S U
  | 18,_=>bt_186 lf S U
  | 19,_=>bt_196 lf S U
  | q + 20,h=>absurd h (by omega)
end Go.Proofs.YtkjbgggghigapaaGreat


namespace Go.Proofs.YtkjbgggghigapaaGreat
set_option maxRecDepth 100000
theorem bt_7 (lf : Int → Int → Int) (S U : Nat) : btO lf S U 7 = true:=by kernel_rfl
theorem bt_17 (lf : Int → Int → Int) (S U : Nat) : btO lf S U 17 = true:=by kernel_rfl
theorem bt_27 (lf : Int → Int → Int) (S U : Nat) : btO lf S U 27 = true:=by kernel_rfl
theorem bt_37 (lf : Int → Int → Int) (S U : Nat) : btO lf S U 37 = true:=by kernel_rfl
theorem bt_47 (lf : Int → Int → Int) (S U : Nat) : btO lf S U 47 = true:=by kernel_rfl
theorem bt_57 (lf : Int → Int → Int) (S U : Nat) : btO lf S U 57 = true:=by kernel_rfl
theorem bt_67 (lf : Int → Int → Int) (S U : Nat) : btO lf S U 67 = true:=by kernel_rfl
theorem bt_77 (lf : Int → Int → Int) (S U : Nat) : btO lf S U 77 = true:=by kernel_rfl
theorem bt_87 (lf : Int → Int → Int) (S U : Nat) : btO lf S U 87 = true:=by kernel_rfl
theorem bt_97 (lf : Int → Int → Int) (S U : Nat) : btO lf S U 97 = true:=by kernel_rfl
theorem bt_107 (lf : Int → Int → Int) (S U : Nat) : btO lf S U 107 = true:=by kernel_rfl
theorem bt_117 (lf : Int → Int → Int) (S U : Nat) : btO lf S U 117 = true:=by kernel_rfl
theorem bt_127 (lf : Int → Int → Int) (S U : Nat) : btO lf S U 127 = true:=by kernel_rfl
theorem bt_137 (lf : Int → Int → Int) (S U : Nat) : btO lf S U 137 = true:=by kernel_rfl
theorem bt_147 (lf : Int → Int → Int) (S U : Nat) : btO lf S U 147 = true:=by kernel_rfl
theorem bt_157 (lf : Int → Int → Int) (S U : Nat) : btO lf S U 157 = true:=by kernel_rfl
theorem bt_167 (lf : Int → Int → Int) (S U : Nat) : btO lf S U 167 = true:=by kernel_rfl
theorem bt_177 (lf : Int → Int → Int) (S U : Nat) : btO lf S U 177 = true:=by kernel_rfl
theorem bt_187 (lf : Int → Int → Int) (S U : Nat) : btO lf S U 187 = true:=by kernel_rfl
theorem bt_197 (lf : Int → Int → Int) (S U : Nat) : btO lf S U 197 = true:=by kernel_rfl
theorem btr_7 (lf : Int → Int → Int) (S U : Nat) : ∀ q : Nat,10 * q + 7 ≤ 200 → btO lf S U (10 * q + 7) = true
  | 0,_=>bt_7 lf S U
  | 1,_=>bt_17 lf S U
  | 2,_=>bt_27 lf S U
  | 3,_=>bt_37 lf S U
  | 4,_=>bt_47 lf S U
  | 5,_=>bt_57 lf S U
  | 6,_=>bt_67 lf S U
  | 7,_=>bt_77 lf S U
  | 8,_=>bt_87 lf S U
  | 9,_=>bt_97 lf S U
  | 10,_=>bt_107 lf S U
  | 11,_=>bt_117 lf S U
  | 12,_=>bt_127 lf S U
  | 13,_=>bt_137 lf S U
  | 14,_=>bt_147 lf S U
  | 15,_=>bt_157 lf S U
  | 16,_=>bt_167 lf S U
  | 17,_=>bt_177 lf S U
  | 18,_=>bt_187 lf S U
  | 19,_=>bt_197 lf S U
  | q + 20,h=>absurd h (by omega)
end Go.Proofs.YtkjbgggghigapaaGreat
