import Derived.Test.YtkjbgggghigapaaGreatCg32
namespace Go.Proofs.YtkjbgggghigapaaGreat
set_option maxRecDepth 100000
theorem bt_0 (lf : Int → Int → Int) (S U : Nat) : btO lf S U 0 = true:=by kernel_rfl
theorem bt_10 (lf : Int → Int → Int) (S U : Nat) : btO lf S U 10 = true:=by kernel_rfl
theorem bt_20 (lf : Int → Int → Int) (S U : Nat) : btO lf S U 20 = true:=by kernel_rfl
theorem bt_30 (lf : Int → Int → Int) (S U : Nat) : btO lf S U 30 = true:=by kernel_rfl
theorem bt_40 (lf : Int → Int → Int) (S U : Nat) : btO lf S U 40 = true:=by kernel_rfl
theorem bt_50 (lf : Int → Int → Int) (S U : Nat) : btO lf S U 50 = true:=by kernel_rfl
theorem bt_60 (lf : Int → Int → Int) (S U : Nat) : btO lf S U 60 = true:=by kernel_rfl
theorem bt_70 (lf : Int → Int → Int) (S U : Nat) : btO lf S U 70 = true:=by kernel_rfl
theorem bt_80 (lf : Int → Int → Int) (S U : Nat) : btO lf S U 80 = true:=by kernel_rfl
theorem bt_90 (lf : Int → Int → Int) (S U : Nat) : btO lf S U 90 = true:=by kernel_rfl
theorem bt_100 (lf : Int → Int → Int) (S U : Nat) : btO lf S U 100 = true:=by kernel_rfl
theorem bt_110 (lf : Int → Int → Int) (S U : Nat) : btO lf S U 110 = true:=by kernel_rfl
theorem bt_120 (lf : Int → Int → Int) (S U : Nat) : btO lf S U 120 = true:=by kernel_rfl
theorem bt_130 (lf : Int → Int → Int) (S U : Nat) : btO lf S U 130 = true:=by kernel_rfl
theorem bt_140 (lf : Int → Int → Int) (S U : Nat) : btO lf S U 140 = true:=by kernel_rfl
theorem bt_150 (lf : Int → Int → Int) (S U : Nat) : btO lf S U 150 = true:=by kernel_rfl
theorem bt_160 (lf : Int → Int → Int) (S U : Nat) : btO lf S U 160 = true:=by kernel_rfl
theorem bt_170 (lf : Int → Int → Int) (S U : Nat) : btO lf S U 170 = true:=by kernel_rfl
theorem bt_180 (lf : Int → Int → Int) (S U : Nat) : btO lf S U 180 = true:=by kernel_rfl
theorem bt_190 (lf : Int → Int → Int) (S U : Nat) : btO lf S U 190 = true:=by kernel_rfl
theorem bt_200 (lf : Int → Int → Int) (S U : Nat) : btO lf S U 200 = true:=by kernel_rfl
theorem btr_0 (lf : Int → Int → Int) (S U : Nat) : ∀ q : Nat,10 * q + 0 ≤ 200 → btO lf S U (10 * q + 0) = true
  | 0,_=>bt_0 lf S U
  | 1,_=>bt_10 lf S U
  | 2,_=>bt_20 lf S U
  | 3,_=>bt_30 lf S U
  | 4,_=>bt_40 lf S U
  | 5,_=>bt_50 lf S U
  | 6,_=>bt_60 lf S U
  | 7,_=>bt_70 lf S U
  | 8,_=>bt_80 lf S U
  | 9,_=>bt_90 lf S U
  | 10,_=>bt_100 lf S U
  | 11,_=>bt_110 lf S U
  | 12,_=>bt_120 lf S U
  | 13,_=>bt_130 lf S U
  | 14,_=>bt_140 lf S U
  | 15,_=>bt_150 lf S U
  | 16,_=>bt_160 lf S U
  | 17,_=>bt_170 lf S U
  | 18,_=>bt_180 lf S U
  | 19,_=>bt_190 lf S U
  | 20,_=>bt_200 lf S U
  | q + 21,h=>absurd h (by omega)
end Go.Proofs.YtkjbgggghigapaaGreat


namespace Go.Proofs.YtkjbgggghigapaaGreat
set_option maxRecDepth 100000
theorem bt_1 (lf : Int → Int → Int) (S U : Nat) : btO lf S U 1 = true:=by kernel_rfl
theorem bt_11 (lf : Int → Int → Int) (S U : Nat) : btO lf S U 11 = true:=by kernel_rfl
theorem bt_21 (lf : Int → Int → Int) (S U : Nat) : btO lf S U 21 = true:=by kernel_rfl
theorem bt_31 (lf : Int → Int → Int) (S U : Nat) : btO lf S U 31 = true:=by kernel_rfl
theorem bt_41 (lf : Int → Int → Int) (S U : Nat) : btO lf S U 41 = true:=by kernel_rfl
theorem bt_51 (lf : Int → Int → Int) (S U : Nat) : btO lf S U 51 = true:=by kernel_rfl
theorem bt_61 (lf : Int → Int → Int) (S U : Nat) : btO lf S U 61 = true:=by kernel_rfl
theorem bt_71 (lf : Int → Int → Int) (S U : Nat) : btO lf S U 71 = true:=by kernel_rfl
theorem bt_81 (lf : Int → Int → Int) (S U : Nat) : btO lf S U 81 = true:=by kernel_rfl
theorem bt_91 (lf : Int → Int → Int) (S U : Nat) : btO lf S U 91 = true:=by kernel_rfl
theorem bt_101 (lf : Int → Int → Int) (S U : Nat) : btO lf S U 101 = true:=by kernel_rfl
theorem bt_111 (lf : Int → Int → Int) (S U : Nat) : btO lf S U 111 = true:=by kernel_rfl
theorem bt_121 (lf : Int → Int → Int) (S U : Nat) : btO lf S U 121 = true:=by kernel_rfl
theorem bt_131 (lf : Int → Int → Int) (S U : Nat) : btO lf S U 131 = true:=by kernel_rfl
theorem bt_141 (lf : Int → Int → Int) (S U : Nat) : btO lf S U 141 = true:=by kernel_rfl
theorem bt_151 (lf : Int → Int → Int) (S U : Nat) : btO lf S U 151 = true:=by kernel_rfl
theorem bt_161 (lf : Int → Int → Int) (S U : Nat) : btO lf S U 161 = true:=by kernel_rfl
theorem bt_171 (lf : Int → Int → Int) (S U : Nat) : btO lf S U 171 = true:=by kernel_rfl
theorem bt_181 (lf : Int → Int → Int) (S U : Nat) : btO lf S U 181 = true:=by kernel_rfl
theorem bt_191 (lf : Int → Int → Int) (S U : Nat) : btO lf S U 191 = true:=by kernel_rfl
theorem btr_1 (lf : Int → Int → Int) (S U : Nat) : ∀ q : Nat,10 * q + 1 ≤ 200 → btO lf S U (10 * q + 1) = true
  | 0,_=>bt_1 lf S U
  | 1,_=>bt_11 lf S U
  | 2,_=>bt_21 lf S U
  | 3,_=>bt_31 lf S U
  | 4,_=>bt_41 lf S U
  | 5,_=>bt_51 lf S U
  | 6,_=>bt_61 lf S U
  | 7,_=>bt_71 lf S U
  | 8,_=>bt_81 lf S U
  | 9,_=>bt_91 lf S U
  | 10,_=>bt_101 lf S U
  | 11,_=>bt_111 lf S U
  | 12,_=>bt_121 lf S U
  | 13,_=>bt_131 lf S U
  | 14,_=>bt_141 lf S U
  | 15,_=>bt_151 lf S U
  | 16,_=>bt_161 lf S U
  | 17,_=>bt_171 lf S U
  | 18,_=>bt_181 lf S U
  | 19,_=>bt_191 lf S U
  | q + 20,h=>absurd h (by omega)
end Go.Proofs.YtkjbgggghigapaaGreat
