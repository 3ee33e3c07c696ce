/- The reference's At answers the rune that the text's own range finds. -/
import Derived.Test.YtbgbhogcjaodkaaCg07
import Derived.Test.YtbgbhogcjaodkaaCg00
namespace Go.Proofs.Ytbgbhogcjaodkaa
open Go.RowKit

/-- A rune as the reference hands it on. -/
def RAt (s : ByteArray) (p : Nat) (w : World) (W R : Int) : Prop :=
  Calls Try.prog 29 #[.string s, .int .i64 p] w fun e w' => e = .returned (.agg #[.int .i64 p, .int .i64 W, .int .i64 R]) ∧ Below w.heap.size w w'

theorem get_in (s : ByteArray) (p : Nat) (h : p < s.size) : (s.get! p).toNat = s[p].toNat := by
  have : s.get! p = s[p] := by simp [ByteArray.get!, getElem!_pos, h]; rfl
  rw [this]

theorem rat_fin (s : ByteArray) (p : Nat) (w : World) (R W : Nat) (hd : Lib.decodeN (s.size - p) (s.get! p).toNat (s.get! (p + 1)).toNat (s.get! (p + 2)).toNat (s.get! (p + 3)).toNat = (R, W)) (h : RAt s p w W R) : RAt s p w (wd s p) (rn s p) := by
  have e : Utf8.decode s p = (R, W) := by rw [Lib.decode_at]; exact hd
  unfold wd rn
  rw [e]
  exact h

theorem byN_iff (r : Int) (k : Int) : byN r = k ↔ (if r < 128 then 1 else if r < 2048 then 2 else if r < 65536 then 3 else 4 : Int) = k := by unfold byN; exact Iff.rfl
theorem encB_no (r : Int) : encB r = false ↔ ¬ (0 ≤ r ∧ r ≤ 1114111 ∧ (r < 55296 ∨ 57343 < r)) := by rw [← encB_iff]; simp

set_option maxHeartbeats 4000000 in
theorem rat_any (s : ByteArray) (p : Nat) (w : World) (hp : p < s.size) (hs : s.size ≤ 140737488351232) : RAt s p w (wd s p) (rn s p) := by
  have g0 := get_in s p hp
  have l0 := byte_lt s p
  have l1 := byte_lt s (p + 1)
  have l2 := byte_lt s (p + 2)
  have l3 := byte_lt s (p + 3)
  generalize h0 : (s.get! p).toNat = n0 at *
  generalize h1 : (s.get! (p + 1)).toNat = n1 at *
  generalize h2 : (s.get! (p + 2)).toNat = n2 at *
  generalize h3 : (s.get! (p + 3)).toNat = n3 at *
  have e0 : (s[p].toNat : Int) = n0 := by omega
  have e1 : ∀ h : p + 1 < s.size, (s[p + 1].toNat : Int) = n1 := fun h => by have := get_in s (p + 1) h; omega
  have e2 : ∀ h : p + 2 < s.size, (s[p + 2].toNat : Int) = n2 := fun h => by have := get_in s (p + 2) h; omega
  have e3 : ∀ h : p + 3 < s.size, (s[p + 3].toNat : Int) = n3 := fun h => by have := get_in s (p + 3) h; omega
  have fin : ∀ R W : Nat, Lib.decodeN (s.size - p) n0 n1 n2 n3 = (R, W) → RAt s p w W R → RAt s p w (wd s p) (rn s p) := fun R W hd h => rat_fin s p w R W (by rw [h0, h1, h2, h3]; exact hd) h
  have bad : (∀ q, Lib.decodeN (s.size - p) n0 n1 n2 n3 = q → q = (65533, 1)) → RAt s p w 1 65533 → RAt s p w (wd s p) (rn s p) := fun hd h => fin 65533 1 (hd _ rfl) h
  by_cases c1 : n0 < 128
  · exact fin n0 1 (by unfold Lib.decodeN; rw [if_pos c1]) (at_one s p w hp hs n0 e0 (by omega) (by omega) (by omega))
  by_cases c2 : n0 < 192
  · exact fin 65533 1 (by unfold Lib.decodeN; rw [if_neg c1, if_neg (by omega), if_neg (by omega), if_neg (by omega)]) (at_none1 s p w hp hs n0 e0 (by omega) (by omega) (by omega) (by omega))
  by_cases c3 : n0 < 224
  · have D : Lib.decodeN (s.size - p) n0 n1 n2 n3 = if 2 ≤ s.size - p ∧ 128 ≤ n1 ∧ n1 < 192 then (if n0 % 32 * 64 + n1 % 64 ≥ 128 then (n0 % 32 * 64 + n1 % 64, 2) else (65533, 1)) else (65533, 1) := by
      unfold Lib.decodeN
      rw [if_neg c1]
      by_cases h : 2 ≤ s.size - p ∧ 128 ≤ n1 ∧ n1 < 192
      · rw [if_pos (by omega), if_pos h]
      · rw [if_neg (by omega), if_neg h, if_neg (by omega), if_neg (by omega)]
    by_cases hk : 2 ≤ s.size - p
    · have e1' := e1 (by omega)
      by_cases x1 : n1 < 128
      · exact fin 65533 1 (by rw [D, if_neg (by omega)]) (at_bad2_1_lo s p w hp hs n0 e0 (by omega) (by omega) (by omega) (by omega) hk n1 e1' (by omega) (by omega) (by omega))
      by_cases x2 : 192 ≤ n1
      · exact fin 65533 1 (by rw [D, if_neg (by omega)]) (at_bad2_1_hi s p w hp hs n0 e0 (by omega) (by omega) (by omega) (by omega) hk n1 e1' (by omega) (by omega) (by omega))
      rw [if_pos (by omega)] at D
      by_cases y : n0 % 32 * 64 + n1 % 64 ≥ 128
      · rw [if_pos y] at D
        exact fin _ _ D (at_ok2 s p w hp hs n0 e0 (by omega) (by omega) (by omega) (by omega) hk n1 e1' (by omega) (by omega) (by omega) (by omega) _ (by omega) (by rw [encB_iff]; omega) (by unfold byN; rw [if_neg (by omega), if_pos (by omega)]))
      · rw [if_neg y] at D
        exact fin _ _ D (at_nb2 s p w hp hs n0 e0 (by omega) (by omega) (by omega) (by omega) hk n1 e1' (by omega) (by omega) (by omega) (by omega) _ rfl (by rw [encB_iff]; omega) (by unfold byN; rw [if_pos (by omega)]; rfl))
    · exact fin 65533 1 (by rw [D, if_neg (by omega)]) (at_short2 s p w hp hs n0 e0 (by omega) (by omega) (by omega) (by omega) (by omega))
  by_cases c4 : n0 < 240
  · have D : Lib.decodeN (s.size - p) n0 n1 n2 n3 = if 3 ≤ s.size - p ∧ (128 ≤ n1 ∧ n1 < 192) ∧ (128 ≤ n2 ∧ n2 < 192) then (if n0 % 16 * 4096 + n1 % 64 * 64 + n2 % 64 ≥ 2048 ∧ (n0 % 16 * 4096 + n1 % 64 * 64 + n2 % 64 < 55296 ∨ (57344 ≤ n0 % 16 * 4096 + n1 % 64 * 64 + n2 % 64 ∧ n0 % 16 * 4096 + n1 % 64 * 64 + n2 % 64 ≤ 1114111)) then (n0 % 16 * 4096 + n1 % 64 * 64 + n2 % 64, 3) else (65533, 1)) else (65533, 1) := by
      unfold Lib.decodeN
      rw [if_neg c1, if_neg (by omega)]
      by_cases h : 3 ≤ s.size - p ∧ (128 ≤ n1 ∧ n1 < 192) ∧ (128 ≤ n2 ∧ n2 < 192)
      · rw [if_pos (by omega), if_pos h]
      · rw [if_neg (by omega), if_neg h, if_neg (by omega)]
    by_cases hk : 3 ≤ s.size - p
    · have e1' := e1 (by omega)
      have e2' := e2 (by omega)
      by_cases x1 : n1 < 128
      · exact fin 65533 1 (by rw [D, if_neg (by omega)]) (at_bad3_1_lo s p w hp hs n0 e0 (by omega) (by omega) (by omega) (by omega) hk n1 e1' (by omega) (by omega) (by omega))
      by_cases x2 : 192 ≤ n1
      · exact fin 65533 1 (by rw [D, if_neg (by omega)]) (at_bad3_1_hi s p w hp hs n0 e0 (by omega) (by omega) (by omega) (by omega) hk n1 e1' (by omega) (by omega) (by omega))
      by_cases x3 : n2 < 128
      · exact fin 65533 1 (by rw [D, if_neg (by omega)]) (at_bad3_2_lo s p w hp hs n0 e0 (by omega) (by omega) (by omega) (by omega) hk n1 e1' (by omega) (by omega) (by omega) (by omega) n2 e2' (by omega) (by omega) (by omega))
      by_cases x4 : 192 ≤ n2
      · exact fin 65533 1 (by rw [D, if_neg (by omega)]) (at_bad3_2_hi s p w hp hs n0 e0 (by omega) (by omega) (by omega) (by omega) hk n1 e1' (by omega) (by omega) (by omega) (by omega) n2 e2' (by omega) (by omega) (by omega))
      rw [if_pos (by omega)] at D
      by_cases y : n0 % 16 * 4096 + n1 % 64 * 64 + n2 % 64 ≥ 2048 ∧ (n0 % 16 * 4096 + n1 % 64 * 64 + n2 % 64 < 55296 ∨ (57344 ≤ n0 % 16 * 4096 + n1 % 64 * 64 + n2 % 64 ∧ n0 % 16 * 4096 + n1 % 64 * 64 + n2 % 64 ≤ 1114111))
      · rw [if_pos y] at D
        exact fin _ _ D (at_ok3 s p w hp hs n0 e0 (by omega) (by omega) (by omega) (by omega) hk n1 e1' (by omega) (by omega) (by omega) (by omega) n2 e2' (by omega) (by omega) (by omega) (by omega) _ (by omega) (by rw [encB_iff]; omega) (by unfold byN; rw [if_neg (by omega), if_neg (by omega), if_pos (by omega)]))
      · rw [if_neg y] at D
        by_cases z : n0 % 16 * 4096 + n1 % 64 * 64 + n2 % 64 ≥ 2048
        · exact fin _ _ D (at_ng3 s p w hp hs n0 e0 (by omega) (by omega) (by omega) (by omega) hk n1 e1' (by omega) (by omega) (by omega) (by omega) n2 e2' (by omega) (by omega) (by omega) (by omega) _ rfl (by rw [encB_no]; omega))
        · exact fin _ _ D (at_nb3 s p w hp hs n0 e0 (by omega) (by omega) (by omega) (by omega) hk n1 e1' (by omega) (by omega) (by omega) (by omega) n2 e2' (by omega) (by omega) (by omega) (by omega) _ rfl (by rw [encB_iff]; omega) (by unfold byN; (repeat' split) <;> first | rfl | (exfalso; omega)))
    · exact fin 65533 1 (by rw [D, if_neg (by omega)]) (at_short3 s p w hp hs n0 e0 (by omega) (by omega) (by omega) (by omega) (by omega))
  by_cases c5 : n0 < 248
  · have D : Lib.decodeN (s.size - p) n0 n1 n2 n3 = if 4 ≤ s.size - p ∧ (128 ≤ n1 ∧ n1 < 192) ∧ (128 ≤ n2 ∧ n2 < 192) ∧ (128 ≤ n3 ∧ n3 < 192) then (if n0 % 8 * 262144 + n1 % 64 * 4096 + n2 % 64 * 64 + n3 % 64 ≥ 65536 ∧ n0 % 8 * 262144 + n1 % 64 * 4096 + n2 % 64 * 64 + n3 % 64 ≤ 1114111 then (n0 % 8 * 262144 + n1 % 64 * 4096 + n2 % 64 * 64 + n3 % 64, 4) else (65533, 1)) else (65533, 1) := by
      unfold Lib.decodeN
      rw [if_neg c1, if_neg (by omega), if_neg (by omega)]
      by_cases h : 4 ≤ s.size - p ∧ (128 ≤ n1 ∧ n1 < 192) ∧ (128 ≤ n2 ∧ n2 < 192) ∧ (128 ≤ n3 ∧ n3 < 192)
      · rw [if_pos (by omega), if_pos h]
        by_cases q : n0 % 8 * 262144 + n1 % 64 * 4096 + n2 % 64 * 64 + n3 % 64 ≥ 65536 ∧ n0 % 8 * 262144 + n1 % 64 * 4096 + n2 % 64 * 64 + n3 % 64 ≤ 1114111
        · rw [if_pos (by omega), if_pos q]
        · rw [if_neg (by omega), if_neg q]
      · rw [if_neg (by omega), if_neg h]
    by_cases hk : 4 ≤ s.size - p
    · have e1' := e1 (by omega)
      have e2' := e2 (by omega)
      have e3' := e3 (by omega)
      by_cases x1 : n1 < 128
      · exact fin 65533 1 (by rw [D, if_neg (by omega)]) (at_bad4_1_lo s p w hp hs n0 e0 (by omega) (by omega) (by omega) (by omega) hk n1 e1' (by omega) (by omega) (by omega))
      by_cases x2 : 192 ≤ n1
      · exact fin 65533 1 (by rw [D, if_neg (by omega)]) (at_bad4_1_hi s p w hp hs n0 e0 (by omega) (by omega) (by omega) (by omega) hk n1 e1' (by omega) (by omega) (by omega))
      by_cases x3 : n2 < 128
      · exact fin 65533 1 (by rw [D, if_neg (by omega)]) (at_bad4_2_lo s p w hp hs n0 e0 (by omega) (by omega) (by omega) (by omega) hk n1 e1' (by omega) (by omega) (by omega) (by omega) n2 e2' (by omega) (by omega) (by omega))
      by_cases x4 : 192 ≤ n2
      · exact fin 65533 1 (by rw [D, if_neg (by omega)]) (at_bad4_2_hi s p w hp hs n0 e0 (by omega) (by omega) (by omega) (by omega) hk n1 e1' (by omega) (by omega) (by omega) (by omega) n2 e2' (by omega) (by omega) (by omega))
      by_cases x5 : n3 < 128
      · exact fin 65533 1 (by rw [D, if_neg (by omega)]) (at_bad4_3_lo s p w hp hs n0 e0 (by omega) (by omega) (by omega) (by omega) hk n1 e1' (by omega) (by omega) (by omega) (by omega) n2 e2' (by omega) (by omega) (by omega) (by omega) n3 e3' (by omega) (by omega) (by omega))
      by_cases x6 : 192 ≤ n3
      · exact fin 65533 1 (by rw [D, if_neg (by omega)]) (at_bad4_3_hi s p w hp hs n0 e0 (by omega) (by omega) (by omega) (by omega) hk n1 e1' (by omega) (by omega) (by omega) (by omega) n2 e2' (by omega) (by omega) (by omega) (by omega) n3 e3' (by omega) (by omega) (by omega))
      rw [if_pos (by omega)] at D
      by_cases y : n0 % 8 * 262144 + n1 % 64 * 4096 + n2 % 64 * 64 + n3 % 64 ≥ 65536 ∧ n0 % 8 * 262144 + n1 % 64 * 4096 + n2 % 64 * 64 + n3 % 64 ≤ 1114111
      · rw [if_pos y] at D
        exact fin _ _ D (at_ok4 s p w hp hs n0 e0 (by omega) (by omega) (by omega) (by omega) hk n1 e1' (by omega) (by omega) (by omega) (by omega) n2 e2' (by omega) (by omega) (by omega) (by omega) n3 e3' (by omega) (by omega) (by omega) (by omega) _ (by omega) (by rw [encB_iff]; omega) (by unfold byN; rw [if_neg (by omega), if_neg (by omega), if_neg (by omega)]))
      · rw [if_neg y] at D
        cases hg : encB (((((n0 : Int) - 240) * 64 + n1 - 128) * 64 + n2 - 128) * 64 + n3 - 128)
        · exact fin _ _ D (at_ng4 s p w hp hs n0 e0 (by omega) (by omega) (by omega) (by omega) hk n1 e1' (by omega) (by omega) (by omega) (by omega) n2 e2' (by omega) (by omega) (by omega) (by omega) n3 e3' (by omega) (by omega) (by omega) (by omega) _ rfl hg)
        · have hg2 := (encB_iff _).1 hg
          exact fin _ _ D (at_nb4 s p w hp hs n0 e0 (by omega) (by omega) (by omega) (by omega) hk n1 e1' (by omega) (by omega) (by omega) (by omega) n2 e2' (by omega) (by omega) (by omega) (by omega) n3 e3' (by omega) (by omega) (by omega) (by omega) _ rfl hg (by unfold byN; (repeat' split) <;> first | rfl | (exfalso; omega)))
    · exact fin 65533 1 (by rw [D, if_neg (by omega)]) (at_short4 s p w hp hs n0 e0 (by omega) (by omega) (by omega) (by omega) (by omega))
  · exact fin 65533 1 (by unfold Lib.decodeN; rw [if_neg c1, if_neg (by omega), if_neg (by omega), if_neg (by omega)]) (at_none2 s p w hp hs n0 e0 (by omega) (by omega) (by omega))

#print axioms rat_any
end Go.Proofs.Ytbgbhogcjaodkaa

/- The walks of the reference's List and Bad. -/
namespace Go.Proofs.Ytbgbhogcjaodkaa
open Go.RowKit

theorem Try.info48 : (Try.prog.info? 48).map (fun i => (i.zero, i.size, i.bytes)) = some (some (.agg #[.int .i64 0, .int .i64 0, .int .i64 0]), 3, 24) := by kernel_rfl

theorem cells_get (L : List Rn) : ∀ (k : Nat) (hk : k < L.length), (cellsOf L)[k * 3]? = some (.int .i64 L[k].1) ∧ (cellsOf L)[k * 3 + 1]? = some (.int .i64 L[k].2.1) ∧ (cellsOf L)[k * 3 + 2]? = some (.int .i64 L[k].2.2) := by
  induction L with
  | nil => intro k hk; simp at hk
  | cons r L ih =>
    intro k hk
    have e : cellsOf (r :: L) = [.int .i64 r.1, .int .i64 r.2.1, .int .i64 r.2.2] ++ cellsOf L := by simp [cellsOf]
    rw [e]
    cases k with
    | zero => simp
    | succ k =>
      have := ih k (by simpa using hk)
      have e3 : (k + 1) * 3 = k * 3 + 3 := by omega
      rw [e3]
      simpa using this
theorem own_below {w w' : World} {base : Nat} {e : TypeId} {size : Nat} {v : Value} {n : Nat} {xs : List Value} (h : w.ownsRow base e size v n xs) (hb : Below w.heap.size w w') : w'.ownsRow base e size v n xs := by
  have hlt := h.lt
  refine ⟨h.1, ?_⟩
  rcases h.2 with h2 | ⟨g, cap, cur, rfl, h2, h3, r⟩
  · exact .inl h2
  · exact .inr ⟨g, cap, cur, rfl, h2, (hb.block g (hlt g rfl).2).trans h3, r⟩

set_option maxHeartbeats 2000000 in
theorem rlist_any (s : ByteArray) (w : World) (hs : s.size ≤ 1048576) : Calls Try.prog 24 #[.string s] w fun e w' => ∃ v, e = .returned v ∧ w'.ownsRow w.heap.size 48 3 v (rest s 0).length (cellsOf (rest s 0)) ∧ Below w.heap.size w w' := by
  obtain ⟨i0, hi, hz0, hz1, hz2⟩ := info_parts Try.info48
  have HRL : Hid _ := rest_len s 0
  go_enter Try.func24, Try.ntmps24
  go_wp2
  go_loopw [3, 4] (fun v i wr => ∃ (p : Nat) (done : List Rn), i = .int .i64 p ∧ p ≤ s.size ∧ Hid (rest s 0 = done ++ rest s p) ∧ wr.ownsRow w.heap.size 48 3 v done.length (cellsOf done) ∧ Below w.heap.size w wr) (fun _ i _ => s.size - (intOf i).toNat)
  case atStart => exact ⟨0, [], rfl, by omega, rfl, World.ownsRow_nil _ _ _ _, Below.refl _ _⟩
  case round =>
    obtain ⟨p, done, rfl, hp, HR, hown, hbw⟩ := hrel
    by_cases hlt : p < s.size
    · have hlt' : (p : Int) < (s.size : Int) := by omega
      have hw1 := wd_pos s p
      have hw2 := wd_le s p hlt
      have hre := rest_at s p hlt
      have HR2 : Hid (rest s 0 = (done ++ [(p, wd s p, rn s p)]) ++ rest s (p + wd s p)) := by
        show _ = _; rw [HR.out, hre]; simp
      have hlen : done.length < 1048577 := by have h1 := congrArg List.length HR.out; have h2 := HRL.out; simp only [List.length_append] at h1; omega
      have C : ∀ W, Calls Try.prog 29 #[.string s, .int .i64 p] W fun e w' => e = .returned (.agg #[.int .i64 p, .int .i64 (wd s p), .int .i64 (rn s p)]) ∧ Below W.heap.size W w' := fun W => rat_any s p W hlt (by omega)
      obtain ⟨D, hD⟩ : ∃ D, wd s p = D := ⟨_, rfl⟩
      obtain ⟨R, hR⟩ : ∃ R, rn s p = R := ⟨_, rfl⟩
      rw [hD, hR] at C HR2
      rw [hD] at hw1 hw2
      clear hre HR hD hR
      obtain ⟨a0, c0, rfl⟩ := slice_shape hown
      go_wp2_with (first
        | (go_at_call 29; refine (C _).mono ?_; rintro e w1 ⟨rfl, hb1⟩; have hown1 := own_below hown hb1)
        | (at_builtin; refine wpList_append_own _ rfl _ _ 46 rfl w.heap.size 48 i0 (.agg #[.int .i64 0, .int .i64 0, .int .i64 0]) 3 24 Try.underlying46 hi hz0 hz1 hz2 rfl (by decide) _ _ _ rfl ((hown1.alloc _).alloc _) ⟨w1.heap.size + 1, 0, none⟩ 1 1 [.int .i64 p, .int .i64 D, .int .i64 R] rfl rfl ?c1 ?c2 ?c3 ?c4 ?c5 ?_))
      case c1 =>
        intro j u hj
        match j, hj with
        | 0, hj => simp at hj; subst hj; simp [Addr.add]
        | 1, hj => simp at hj; subst hj; simp [Addr.add]
        | 2, hj => simp at hj; subst hj; simp [Addr.add]
      case c2 => intro u hu; simp at hu; rcases hu with rfl | rfl | rfl <;> rfl
      case c3 => unfold maxLen; omega
      case c4 => omega
      case c5 => have := hbw.size; have := hb1.size; simp; omega
      intro v' w2 hown' hgrow _
      have hbw2 : Below w.heap.size w w2 := (bel_new (bel_new (bel_on hbw hb1) _) _).grown hgrow (by have := hbw.size; have := hb1.size; simp; omega) (fun k hk => (hown1.lt k hk).1)
      have hne : some w1.heap.size ≠ (Value.slice a0 done.length c0).ownBlock := fun h => by
        have := (hown1.lt _ h.symm).2
        omega
      have hbl := hgrow.block w1.heap.size (by simp; omega) hne
      have k1 : w2.cell? ⟨w1.heap.size, 1, none⟩ = some (.int .i64 D) := (World.cell?_of_block hbl).trans (alloc_cell (by simp) (new_cell w1 [.int .i64 p, .int .i64 D, .int .i64 R] 48 1 _ rfl).1 _)
      have hcs : cellsOf done ++ [.int .i64 p, .int .i64 D, .int .i64 R] = cellsOf (done ++ [(p, D, R)]) := by rw [cellsOf_snoc]
      rw [hcs] at hown'
      clear hgrow hown hown1 hbw hb1 hbl hne hcs
      go_wp2
      go_roundw
      case rel => exact ⟨p + D, done ++ [(p, D, R)], by go_num, by omega, HR2, by simpa using hown', hbw2⟩
      case measure => simp [intOf]; omega
    · have hlt' : ¬ (p : Int) < (s.size : Int) := by omega
      have hre := rest_end s p hlt
      have HR2 : Hid (rest s 0 = done) := by show _ = _; rw [HR.out, hre]; simp
      clear hre HR
      go_wp2
      go_ret
      exact ⟨_, rfl, by rw [HR2.out]; exact hown, hbw⟩

set_option maxHeartbeats 2000000 in
theorem rbad_any (s : ByteArray) (w : World) (hs : s.size ≤ 1048576) : Calls Try.prog 21 #[.string s] w fun e w' => e = .returned (.int .i64 (badOf (rest s 0))) ∧ Below w.heap.size w w' := by
  have HL := rlist_any s w hs
  obtain ⟨L, hL⟩ : ∃ L, rest s 0 = L := ⟨_, rfl⟩
  have hlen : L.length ≤ 1048576 := by rw [← hL]; have := rest_len s 0; omega
  rw [hL] at HL ⊢
  clear hL
  go_enter Try.func21, Try.ntmps21
  go_wp2_with (go_at_call 24; refine HL.mono ?_; rintro e w1 ⟨v, rfl, hown, hb1⟩; obtain ⟨a0, c0, rfl⟩ := slice_shape hown)
  go_loop [4] (fun i => ∃ k : Nat, k ≤ L.length ∧ i = .int .i64 k ∧ Hid ((L.take k).find? isBad = none)) (fun i => L.length - (intOf i).toNat)
  case atStart => exact ⟨0, by omega, rfl, rfl⟩
  case round =>
    obtain ⟨k, hk, rfl, HF⟩ := hrel
    by_cases hlt : k < L.length
    · obtain ⟨g, cap, hv, hg, hg2, hcap, hcell⟩ := row_cells hown (by omega)
      simp only [Value.slice.injEq] at hv
      obtain ⟨rfl, _, rfl⟩ := hv
      have hlt' : (k : Int) < (L.length : Int) := by omega
      obtain ⟨q1, q2, q3⟩ := cells_get L k hlt
      obtain ⟨r, hr⟩ : ∃ r, L[k] = r := ⟨_, rfl⟩
      have HT : Hid (L.take (k + 1) = L.take k ++ [r]) := by show _ = _; rw [List.take_succ_eq_append_getElem hlt, hr]
      have HB : Hid (isBad r = true → L.find? isBad = some r) := fun hbad => by
        have e : L = L.take k ++ r :: L.drop (k + 1) := by rw [← hr, ← List.drop_eq_getElem_cons hlt, List.take_append_drop]
        rw [e, List.find?_append, HF.out]
        simp [hbad]
      rw [hr] at q1 q2 q3
      have d1 := hcell _ _ q1
      have d2 := hcell _ _ q2
      have d3 := hcell _ _ q3
      clear hcell q1 q2 q3 hr
      obtain ⟨x, y, z⟩ := r
      obtain ⟨Y, hY⟩ : ∃ Y : Int, (y : Int) = Y := ⟨_, rfl⟩
      obtain ⟨Z, hZ⟩ : ∃ Z : Int, (z : Int) = Z := ⟨_, rfl⟩
      simp only at d1 d2 d3
      rw [hY] at d2
      rw [hZ] at d3
      have HY : Hid _ := hY
      have HZ : Hid _ := hZ
      clear hY hZ
      by_cases c1 : Z = 65533
      · subst c1
        by_cases c2 : Y = 1
        · subst c2
          have hbad : isBad (x, y, z) = true := by
            have h1 := HY.out; have h2 := HZ.out
            simp [isBad]; omega
          have HE : Hid (badOf L = x) := by show _ = _; unfold badOf; rw [HB.out hbad]
          go_wp2
          go_ret
          exact ⟨ret1 HE.out.symm, by assumption⟩
        · have c2' : (Y == 1) = false := by simpa using c2
          have hbad : isBad (x, y, z) = false := by
            have h1 := HY.out
            simp [isBad]; omega
          have HF2 : Hid ((L.take (k + 1)).find? isBad = none) := by show _ = _; rw [HT.out, List.find?_append, HF.out]; simp [hbad]
          go_wp2
          go_round
          case rel => exact ⟨k + 1, by omega, by go_num, HF2⟩
          case measure => simp [intOf]; omega
      · have c1' : (Z == 65533) = false := by simpa using c1
        have hbad : isBad (x, y, z) = false := by
          have h1 := HZ.out
          simp [isBad]; omega
        have HF2 : Hid ((L.take (k + 1)).find? isBad = none) := by show _ = _; rw [HT.out, List.find?_append, HF.out]; simp [hbad]
        go_wp2
        go_round
        case rel => exact ⟨k + 1, by omega, by go_num, HF2⟩
        case measure => simp [intOf]; omega
    · have hlt' : ¬ (k : Int) < (L.length : Int) := by omega
      have hke : L.take k = L := List.take_of_length_le (by omega)
      rw [hke] at HF
      have HE : Hid (badOf L = -1) := by show _ = _; unfold badOf; rw [HF.out]
      clear hke
      go_wp2
      go_ret
      exact ⟨ret1 HE.out.symm, by assumption⟩

#print axioms rlist_any
#print axioms rbad_any
end Go.Proofs.Ytbgbhogcjaodkaa
