import Derived.Test.YtkjbgggghigapaaGreatCg32
namespace Go.Proofs.YtkjbgggghigapaaGreat
set_option maxRecDepth 100000
theorem bt_4 (lf : Int → Int → Int) (S U : Nat) : btO lf S U 4 = true:=by kernel_rfl
theorem bt_14 (lf : Int → Int → Int) (S U : Nat) : btO lf S U 14 = true:=by kernel_rfl
theorem bt_24 (lf : Int → Int → Int) (S U : Nat) : btO lf S U 24 = true:=by kernel_rfl
theorem bt_34 (lf : Int → Int → Int) (S U : Nat) : btO lf S U 34 = true:=by kernel_rfl
theorem bt_44 (lf : Int → Int → Int) (S U : Nat) : btO lf S U 44 = true:=by kernel_rfl
theorem bt_54 (lf : Int → Int → Int) (S U : Nat) : btO lf S U 54 = true:=by kernel_rfl
theorem bt_64 (lf : Int → Int → Int) (S U : Nat) : btO lf S U 64 = true:=by kernel_rfl
theorem bt_74 (lf : Int → Int → Int) (S U : Nat) : btO lf S U 74 = true:=by kernel_rfl
theorem bt_84 (lf : Int → Int → Int) (S U : Nat) : btO lf S U 84 = true:=by kernel_rfl
theorem bt_94 (lf : Int → Int → Int) (S U : Nat) : btO lf S U 94 = true:=by kernel_rfl
theorem bt_104 (lf : Int → Int → Int) (S U : Nat) : btO lf S U 104 = true:=by kernel_rfl
theorem bt_114 (lf : Int → Int → Int) (S U : Nat) : btO lf S U 114 = true:=by kernel_rfl
theorem bt_124 (lf : Int → Int → Int) (S U : Nat) : btO lf S U 124 = true:=by kernel_rfl
theorem bt_134 (lf : Int → Int → Int) (S U : Nat) : btO lf S U 134 = true:=by kernel_rfl
theorem bt_144 (lf : Int → Int → Int) (S U : Nat) : btO lf S U 144 = true:=by kernel_rfl
theorem bt_154 (lf : Int → Int → Int) (S U : Nat) : btO lf S U 154 = true:=by kernel_rfl
theorem bt_164 (lf : Int → Int → Int) (S U : Nat) : btO lf S U 164 = true:=by kernel_rfl
theorem bt_174 (lf : Int → Int → Int) (S U : Nat) : btO lf S U 174 = true:=by kernel_rfl
theorem bt_184 (lf : Int → Int → Int) (S U : Nat) : btO lf S U 184 = true:=by kernel_rfl
theorem bt_194 (lf : Int → Int → Int) (S U : Nat) : btO lf S U 194 = true:=by kernel_rfl
theorem btr_4 (lf : Int → Int → Int) (S U : Nat) : ∀ q : Nat,10 * q + 4 ≤ 200 → btO lf S U (10 * q + 4) = true
  | 0,_=>bt_4 lf S U
  | 1,_=>bt_14 lf S U
  | 2,_=>bt_24 lf S U
  | 3,_=>bt_34 lf S U
  | 4,_=>bt_44 lf S U
  | 5,_=>bt_54 lf S U
  | 6,_=>bt_64 lf S U
  | 7,_=>bt_74 lf S U
  | 8,_=>bt_84 lf S U
  | 9,_=>bt_94 lf S U
  | 10,_=>bt_104 lf S U
  | 11,_=>bt_114 lf S U
  | 12,_=>bt_124 lf S U
  | 13,_=>bt_134 lf S U
  | 14,_=>bt_144 lf S U
  | 15,_=>bt_154 lf S U
  | 16,_=>bt_164 lf S U
  | 17,_=>bt_174 lf S U
  | 18,_=>bt_184 lf S U
  | 19,_=>bt_194 lf S U
  | q + 20,h=>absurd h (by omega)
end Go.Proofs.YtkjbgggghigapaaGreat


namespace Go.Proofs.YtkjbgggghigapaaGreat
set_option maxRecDepth 100000
theorem bt_5 (lf : Int → Int → Int) (S U : Nat) : btO lf S U 5 = true:=by kernel_rfl
theorem bt_15 (lf : Int → Int → Int) (S U : Nat) : btO lf S U 15 = true:=by kernel_rfl
theorem bt_25 (lf : Int → Int → Int) (S U : Nat) : btO lf S U 25 = true:=by kernel_rfl
theorem bt_35 (lf : Int → Int → Int) (S U : Nat) : btO lf S U 35 = true:=by kernel_rfl
theorem bt_45 (lf : Int → Int → Int) (S U : Nat) : btO lf S U 45 = true:=by kernel_rfl
theorem bt_55 (lf : Int → Int → Int) (S U : Nat) : btO lf S U 55 = true:=by kernel_rfl
theorem bt_65 (lf : Int → Int → Int) (S U : Nat) : btO lf S U 65 = true:=by kernel_rfl
theorem bt_75 (lf : Int → Int → Int) (S U : Nat) : btO lf S U 75 = true:=by kernel_rfl
theorem bt_85 (lf : Int → Int → Int) (S U : Nat) : btO lf S U 85 = true:=by kernel_rfl
theorem bt_95 (lf : Int → Int → Int) (S U : Nat) : btO lf S U 95 = true:=by kernel_rfl
theorem bt_105 (lf : Int → Int → Int) (S U : Nat) : btO lf S U 105 = true:=by kernel_rfl
theorem bt_115 (lf : Int → Int → Int) (S U : Nat) : btO lf S U 115 = true:=by kernel_rfl
theorem bt_125 (lf : Int → Int → Int) (S U : Nat) : btO lf S U 125 = true:=by kernel_rfl
theorem bt_135 (lf : Int → Int → Int) (S U : Nat) : btO lf S U 135 = true:=by kernel_rfl
theorem bt_145 (lf : Int → Int → Int) (S U : Nat) : btO lf S U 145 = true:=by kernel_rfl
theorem bt_155 (lf : Int → Int → Int) (S U : Nat) : btO lf S U 155 = true:=by kernel_rfl
theorem bt_165 (lf : Int → Int → Int) (S U : Nat) : btO lf S U 165 = true:=by kernel_rfl
theorem bt_175 (lf : Int → Int → Int) (S U : Nat) : btO lf S U 175 = true:=by kernel_rfl
theorem bt_185 (lf : Int → Int → Int) (S U : Nat) : btO lf S U 185 = true:=by kernel_rfl
theorem bt_195 (lf : Int → Int → Int) (S U : Nat) : btO lf S U 195 = true:=by kernel_rfl
theorem btr_5 (lf : Int → Int → Int) (S U : Nat) : ∀ q : Nat,10 * q + 5 ≤ 200 → btO lf S U (10 * q + 5) = true
  | 0,_=>bt_5 lf S U
  | 1,_=>bt_15 lf S U
  | 2,_=>bt_25 lf S U
  | 3,_=>bt_35 lf S U
  | 4,_=>bt_45 lf S U
  | 5,_=>bt_55 lf S U
  | 6,_=>bt_65 lf S U
  | 7,_=>bt_75 lf S U
  | 8,_=>bt_85 lf S U
  | 9,_=>bt_95 lf S U
  | 10,_=>bt_105 lf S U
  | 11,_=>bt_115 lf S U
  | 12,_=>bt_125 lf S U
  | 13,_=>bt_135 lf S U
  | 14,_=>bt_145 lf S U
  | 15,_=>bt_155 lf S U
  | 16,_=>bt_165 lf S U
  | 17,_=>bt_175 lf S U
  | 18,_=>bt_185 lf S U
  | 19,_=>bt_195 lf S U
  | q + 20,h=>absurd h (by omega)
end Go.Proofs.YtkjbgggghigapaaGreat
