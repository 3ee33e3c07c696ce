import Derived.Test.YtlgkfhipobdcfaaGreatDoorCg43
namespace Go.Proofs.YtlgkfhipobdcfaaGreatDoor
open Go.RowKit
def RAt (s : ByteArray) (p : Nat) (w : World) (W R : Int) : Prop :=
  Calls Tryz.prog 36 #[.string s,.int .i64 p] w fun e w'=>e = .returned (.agg #[.int .i64 p,.int .i64 W,.int .i64 R]) ∧ Below w.heap.size w w'
theorem get_in (s : ByteArray) (p : Nat) (h : p < s.size) : (s.get! p).toNat = s[p].toNat:=by
  have : s.get! p = s[p]:=by simp [ByteArray.get!,getElem!_pos,h];rfl
  rw [this]
theorem rat_fin (s : ByteArray) (p : Nat) (w : World) (R W : Nat) (hd : Lib.decodeN (s.size - p) (s.get! p).toNat (s.get! (p + 1)).toNat (s.get! (p + 2)).toNat (s.get! (p + 3)).toNat = (R,W)) (h : RAt s p w W R) : RAt s p w (wd s p) (rn s p):=by
  have e : Utf8.decode s p = (R,W):=by rw [Lib.decode_at];exact hd
  unfold wd rn
  rw [e]
  exact h
theorem encB_no (r : Int) : encB r = false ↔ ¬ (0 ≤ r ∧ r ≤ 1114111 ∧ (r < 55296 ∨ 57343 < r)):=by rw [← encB_iff];simp
set_option maxHeartbeats 4000000 in
theorem ruat_any (s : ByteArray) (p : Nat) (w : World) (hp : p < s.size) (hs : s.size ≤ 1048576) : RAt s p w (wd s p) (rn s p):=by
  have g0:=get_in s p hp
  have l0:=byte_lt s p
  have l1:=byte_lt s (p + 1)
  have l2:=byte_lt s (p + 2)
  have l3:=byte_lt s (p + 3)
  generalize h0 : (s.get! p).toNat = n0 at *
  generalize h1 : (s.get! (p + 1)).toNat = n1 at *
  generalize h2 : (s.get! (p + 2)).toNat = n2 at *
  generalize h3 : (s.get! (p + 3)).toNat = n3 at *
  have e0 : (s[p].toNat : Int) = n0:=by omega
  have e1 : ∀ h : p + 1 < s.size,(s[p + 1].toNat : Int) = n1:=fun h=>by have:=get_in s (p + 1) h;omega
  have e2 : ∀ h : p + 2 < s.size,(s[p + 2].toNat : Int) = n2:=fun h=>by have:=get_in s (p + 2) h;omega
  have e3 : ∀ h : p + 3 < s.size,(s[p + 3].toNat : Int) = n3:=fun h=>by have:=get_in s (p + 3) h;omega
  have fin : ∀ R W : Nat,Lib.decodeN (s.size - p) n0 n1 n2 n3 = (R,W) → RAt s p w W R → RAt s p w (wd s p) (rn s p):=fun R W hd h=>rat_fin s p w R W (by rw [h0,h1,h2,h3];exact hd) h
  have bad : (∀ q,Lib.decodeN (s.size - p) n0 n1 n2 n3 = q → q = (65533,1)) → RAt s p w 1 65533 → RAt s p w (wd s p) (rn s p):=fun hd h=>fin 65533 1 (hd _ rfl) h
  by_cases c1 : n0 < 128
  · exact fin n0 1 (by unfold Lib.decodeN;rw [if_pos c1]) (at_one s p w hp hs n0 e0 (by omega) (by omega) (by omega))
  by_cases c2 : n0 < 192
  · exact fin 65533 1 (by unfold Lib.decodeN;rw [if_neg c1,if_neg (by omega),if_neg (by omega),if_neg (by omega)]) (at_none1 s p w hp hs n0 e0 (by omega) (by omega) (by omega) (by omega))
  by_cases c3 : n0 < 224
  · have D : Lib.decodeN (s.size - p) n0 n1 n2 n3 = if 2 ≤ s.size - p ∧ 128 ≤ n1 ∧ n1 < 192 then (if n0 % 32 * 64 + n1 % 64 ≥ 128 then (n0 % 32 * 64 + n1 % 64,2) else (65533,1)) else (65533,1):=by
      unfold Lib.decodeN
      rw [if_neg c1]
      by_cases h : 2 ≤ s.size - p ∧ 128 ≤ n1 ∧ n1 < 192
      · rw [if_pos (by omega),if_pos h]
      · rw [if_neg (by omega),if_neg h,if_neg (by omega),if_neg (by omega)]
    by_cases hk : 2 ≤ s.size - p
    · have e1':=e1 (by omega)
      by_cases x1 : n1 < 128
      · exact fin 65533 1 (by rw [D,if_neg (by omega)]) (at_bad2_1_lo s p w hp hs n0 e0 (by omega) (by omega) (by omega) (by omega) hk n1 e1' (by omega) (by omega) (by omega))
      by_cases x2 : 192 ≤ n1
      · exact fin 65533 1 (by rw [D,if_neg (by omega)]) (at_bad2_1_hi s p w hp hs n0 e0 (by omega) (by omega) (by omega) (by omega) hk n1 e1' (by omega) (by omega) (by omega))
      rw [if_pos (by omega)] at D
      by_cases y : n0 % 32 * 64 + n1 % 64 ≥ 128
      · rw [if_pos y] at D
        exact fin _ _ D (at_ok2 s p w hp hs n0 e0 (by omega) (by omega) (by omega) (by omega) hk n1 e1' (by omega) (by omega) (by omega) (by omega) _ (by omega) (by rw [encB_iff];omega) (by unfold byN;rw [if_neg (by omega),if_pos (by omega)]))
      · rw [if_neg y] at D
        exact fin _ _ D (at_nb2 s p w hp hs n0 e0 (by omega) (by omega) (by omega) (by omega) hk n1 e1' (by omega) (by omega) (by omega) (by omega) _ rfl (by rw [encB_iff];omega) (by unfold byN;rw [if_pos (by omega)];rfl))
    · exact fin 65533 1 (by rw [D,if_neg (by omega)]) (at_short2 s p w hp hs n0 e0 (by omega) (by omega) (by omega) (by omega) (by omega))
  by_cases c4 : n0 < 240
  · have D : Lib.decodeN (s.size - p) n0 n1 n2 n3 = if 3 ≤ s.size - p ∧ (128 ≤ n1 ∧ n1 < 192) ∧ (128 ≤ n2 ∧ n2 < 192) then (if n0 % 16 * 4096 + n1 % 64 * 64 + n2 % 64 ≥ 2048 ∧ (n0 % 16 * 4096 + n1 % 64 * 64 + n2 % 64 < 55296 ∨ (57344 ≤ n0 % 16 * 4096 + n1 % 64 * 64 + n2 % 64 ∧ n0 % 16 * 4096 + n1 % 64 * 64 + n2 % 64 ≤ 1114111)) then (n0 % 16 * 4096 + n1 % 64 * 64 + n2 % 64,3) else (65533,1)) else (65533,1):=by
      unfold Lib.decodeN
      rw [if_neg c1,if_neg (by omega)]
      by_cases h : 3 ≤ s.size - p ∧ (128 ≤ n1 ∧ n1 < 192) ∧ (128 ≤ n2 ∧ n2 < 192)
      · rw [if_pos (by omega),if_pos h]
      · rw [if_neg (by omega),if_neg h,if_neg (by omega)]
    by_cases hk : 3 ≤ s.size - p
    · have e1':=e1 (by omega)
      have e2':=e2 (by omega)
      by_cases x1 : n1 < 128
      · exact fin 65533 1 (by rw [D,if_neg (by omega)]) (at_bad3_1_lo s p w hp hs n0 e0 (by omega) (by omega) (by omega) (by omega) hk n1 e1' (by omega) (by omega) (by omega))
      by_cases x2 : 192 ≤ n1
      · exact fin 65533 1 (by rw [D,if_neg (by omega)]) (at_bad3_1_hi s p w hp hs n0 e0 (by omega) (by omega) (by omega) (by omega) hk n1 e1' (by omega) (by omega) (by omega))
      by_cases x3 : n2 < 128
      · exact fin 65533 1 (by rw [D,if_neg (by omega)]) (at_bad3_2_lo s p w hp hs n0 e0 (by omega) (by omega) (by omega) (by omega) hk n1 e1' (by omega) (by omega) (by omega) (by omega) n2 e2' (by omega) (by omega) (by omega))
      by_cases x4 : 192 ≤ n2
      · exact fin 65533 1 (by rw [D,if_neg (by omega)]) (at_bad3_2_hi s p w hp hs n0 e0 (by omega) (by omega) (by omega) (by omega) hk n1 e1' (by omega) (by omega) (by omega) (by omega) n2 e2' (by omega) (by omega) (by omega))
      rw [if_pos (by omega)] at D
      by_cases y : n0 % 16 * 4096 + n1 % 64 * 64 + n2 % 64 ≥ 2048 ∧ (n0 % 16 * 4096 + n1 % 64 * 64 + n2 % 64 < 55296 ∨ (57344 ≤ n0 % 16 * 4096 + n1 % 64 * 64 + n2 % 64 ∧ n0 % 16 * 4096 + n1 % 64 * 64 + n2 % 64 ≤ 1114111))
      · rw [if_pos y] at D
        exact fin _ _ D (at_ok3 s p w hp hs n0 e0 (by omega) (by omega) (by omega) (by omega) hk n1 e1' (by omega) (by omega) (by omega) (by omega) n2 e2' (by omega) (by omega) (by omega) (by omega) _ (by omega) (by rw [encB_iff];omega) (by unfold byN;rw [if_neg (by omega),if_neg (by omega),if_pos (by omega)]))
      · rw [if_neg y] at D
        by_cases z : n0 % 16 * 4096 + n1 % 64 * 64 + n2 % 64 ≥ 2048
        · exact fin _ _ D (at_ng3 s p w hp hs n0 e0 (by omega) (by omega) (by omega) (by omega) hk n1 e1' (by omega) (by omega) (by omega) (by omega) n2 e2' (by omega) (by omega) (by omega) (by omega) _ rfl (by rw [encB_no];omega))
        · exact fin _ _ D (at_nb3 s p w hp hs n0 e0 (by omega) (by omega) (by omega) (by omega) hk n1 e1' (by omega) (by omega) (by omega) (by omega) n2 e2' (by omega) (by omega) (by omega) (by omega) _ rfl (by rw [encB_iff];omega) (by unfold byN;(repeat' split) <;> first | rfl | (exfalso;omega)))
    · exact fin 65533 1 (by rw [D,if_neg (by omega)]) (at_short3 s p w hp hs n0 e0 (by omega) (by omega) (by omega) (by omega) (by omega))
  by_cases c5 : n0 < 248
  · have D : Lib.decodeN (s.size - p) n0 n1 n2 n3 = if 4 ≤ s.size - p ∧ (128 ≤ n1 ∧ n1 < 192) ∧ (128 ≤ n2 ∧ n2 < 192) ∧ (128 ≤ n3 ∧ n3 < 192) then (if n0 % 8 * 262144 + n1 % 64 * 4096 + n2 % 64 * 64 + n3 % 64 ≥ 65536 ∧ n0 % 8 * 262144 + n1 % 64 * 4096 + n2 % 64 * 64 + n3 % 64 ≤ 1114111 then (n0 % 8 * 262144 + n1 % 64 * 4096 + n2 % 64 * 64 + n3 % 64,4) else (65533,1)) else (65533,1):=by
      unfold Lib.decodeN
      rw [if_neg c1,if_neg (by omega),if_neg (by omega)]
      by_cases h : 4 ≤ s.size - p ∧ (128 ≤ n1 ∧ n1 < 192) ∧ (128 ≤ n2 ∧ n2 < 192) ∧ (128 ≤ n3 ∧ n3 < 192)
      · rw [if_pos (by omega),if_pos h]
        by_cases q : n0 % 8 * 262144 + n1 % 64 * 4096 + n2 % 64 * 64 + n3 % 64 ≥ 65536 ∧ n0 % 8 * 262144 + n1 % 64 * 4096 + n2 % 64 * 64 + n3 % 64 ≤ 1114111
        · rw [if_pos (by omega),if_pos q]
        · rw [if_neg (by omega),if_neg q]
      · rw [if_neg (by omega),if_neg h]
    by_cases hk : 4 ≤ s.size - p
    · have e1':=e1 (by omega)
      have e2':=e2 (by omega)
      have e3':=e3 (by omega)
      by_cases x1 : n1 < 128
      · exact fin 65533 1 (by rw [D,if_neg (by omega)]) (at_bad4_1_lo s p w hp hs n0 e0 (by omega) (by omega) (by omega) (by omega) hk n1 e1' (by omega) (by omega) (by omega))
      by_cases x2 : 192 ≤ n1
      · exact fin 65533 1 (by rw [D,if_neg (by omega)]) (at_bad4_1_hi s p w hp hs n0 e0 (by omega) (by omega) (by omega) (by omega) hk n1 e1' (by omega) (by omega) (by omega))
      by_cases x3 : n2 < 128
      · exact fin 65533 1 (by rw [D,if_neg (by omega)]) (at_bad4_2_lo s p w hp hs n0 e0 (by omega) (by omega) (by omega) (by omega) hk n1 e1' (by omega) (by omega) (by omega) (by omega) n2 e2' (by omega) (by omega) (by omega))
      by_cases x4 : 192 ≤ n2
      · exact fin 65533 1 (by rw [D,if_neg (by omega)]) (at_bad4_2_hi s p w hp hs n0 e0 (by omega) (by omega) (by omega) (by omega) hk n1 e1' (by omega) (by omega) (by omega) (by omega) n2 e2' (by omega) (by omega) (by omega))
      by_cases x5 : n3 < 128
      · exact fin 65533 1 (by rw [D,if_neg (by omega)]) (at_bad4_3_lo s p w hp hs n0 e0 (by omega) (by omega) (by omega) (by omega) hk n1 e1' (by omega) (by omega) (by omega) (by omega) n2 e2' (by omega) (by omega) (by omega) (by omega) n3 e3' (by omega) (by omega) (by omega))
      by_cases x6 : 192 ≤ n3
      · exact fin 65533 1 (by rw [D,if_neg (by omega)]) (at_bad4_3_hi s p w hp hs n0 e0 (by omega) (by omega) (by omega) (by omega) hk n1 e1' (by omega) (by omega) (by omega) (by omega) n2 e2' (by omega) (by omega) (by omega) (by omega) n3 e3' (by omega) (by omega) (by omega))
      rw [if_pos (by omega)] at D
      by_cases y : n0 % 8 * 262144 + n1 % 64 * 4096 + n2 % 64 * 64 + n3 % 64 ≥ 65536 ∧ n0 % 8 * 262144 + n1 % 64 * 4096 + n2 % 64 * 64 + n3 % 64 ≤ 1114111
      · rw [if_pos y] at D
        exact fin _ _ D (at_ok4 s p w hp hs n0 e0 (by omega) (by omega) (by omega) (by omega) hk n1 e1' (by omega) (by omega) (by omega) (by omega) n2 e2' (by omega) (by omega) (by omega) (by omega) n3 e3' (by omega) (by omega) (by omega) (by omega) _ (by omega) (by rw [encB_iff];omega) (by unfold byN;rw [if_neg (by omega),if_neg (by omega),if_neg (by omega)]))
      · rw [if_neg y] at D
        cases hg : encB (((((n0 : Int) - 240) * 64 + n1 - 128) * 64 + n2 - 128) * 64 + n3 - 128)
        · exact fin _ _ D (at_ng4 s p w hp hs n0 e0 (by omega) (by omega) (by omega) (by omega) hk n1 e1' (by omega) (by omega) (by omega) (by omega) n2 e2' (by omega) (by omega) (by omega) (by omega) n3 e3' (by omega) (by omega) (by omega) (by omega) _ rfl hg)
        · have hg2:=(encB_iff _).1 hg
          exact fin _ _ D (at_nb4 s p w hp hs n0 e0 (by omega) (by omega) (by omega) (by omega) hk n1 e1' (by omega) (by omega) (by omega) (by omega) n2 e2' (by omega) (by omega) (by omega) (by omega) n3 e3' (by omega) (by omega) (by omega) (by omega) _ rfl hg (by unfold byN;(repeat' split) <;> first | rfl | (exfalso;omega)))
    · exact fin 65533 1 (by rw [D,if_neg (by omega)]) (at_short4 s p w hp hs n0 e0 (by omega) (by omega) (by omega) (by omega) (by omega))
  · exact fin 65533 1 (by unfold Lib.decodeN;rw [if_neg c1,if_neg (by omega),if_neg (by omega),if_neg (by omega)]) (at_none2 s p w hp hs n0 e0 (by omega) (by omega) (by omega))
end Go.Proofs.YtlgkfhipobdcfaaGreatDoor
