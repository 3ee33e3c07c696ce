import Derived.Test.YtlgkfhipobdcfaaGreatDoorCg04
namespace Go.Proofs.YtlgkfhipobdcfaaGreatDoor
open Go.RowKit
set_option maxHeartbeats 1000000 in
theorem at_one (s : ByteArray) (p : Nat) (w : World) (hp : p < s.size) (_hs : s.size ≤ 1048576) (b0 : Int) (e0 : (s[p].toNat : Int) = b0) (_h0 : 0 ≤ b0) (_h1 : b0 ≤ 255) (h : b0 < 128) : Calls Tryz.prog 36 #[.string s,.int .i64 p] w fun e w'=>e = .returned (.agg #[.int .i64 p,.int .i64 1,.int .i64 b0]) ∧ Below w.heap.size w w':=by
  have hg : encB b0 = true:=by rw [encB_iff];omega
  have hb : byN b0 = 1:=by unfold byN;rw [if_pos h]
  go_enter Tryz.func36,Tryz.ntmps36
  go_wp2_with (first | (go_at_call 68;refine (good_any _ _).mono ?_;rintro e w' ⟨rfl,rfl⟩) | (go_at_call 69;refine (bytes_any _ _).mono ?_;rintro e w' ⟨rfl,rfl⟩))
  refine wp_loop_rounds 1 ?_
  rw [rounds_succ]
  go_wp2_with (first | (go_at_call 68;refine (good_any _ _).mono ?_;rintro e w' ⟨rfl,rfl⟩) | (go_at_call 69;refine (bytes_any _ _).mono ?_;rintro e w' ⟨rfl,rfl⟩))
  exact bodyPost_ret (v:=.agg #[.int .i64 p,.int .i64 1,.int .i64 b0]) (by simp [results,Tryz.results36,go_sem]) rfl ⟨rfl,(Below.refl _ _).alloc (Nat.le_refl _) _⟩
set_option maxHeartbeats 1000000 in
theorem at_none1 (s : ByteArray) (p : Nat) (w : World) (hp : p < s.size) (_hs : s.size ≤ 1048576) (b0 : Int) (e0 : (s[p].toNat : Int) = b0) (_h0 : 0 ≤ b0) (_h1 : b0 ≤ 255) (_h : 128 ≤ b0) (_h' : b0 < 192) : Calls Tryz.prog 36 #[.string s,.int .i64 p] w fun e w'=>e = .returned (.agg #[.int .i64 p,.int .i64 1,.int .i64 65533]) ∧ Below w.heap.size w w':=by
  go_enter Tryz.func36,Tryz.ntmps36
  go_wp2_with (first | (go_at_call 68;refine (good_any _ _).mono ?_;rintro e w' ⟨rfl,rfl⟩) | (go_at_call 69;refine (bytes_any _ _).mono ?_;rintro e w' ⟨rfl,rfl⟩))
  exact bodyPost_ret (v:=.agg #[.int .i64 p,.int .i64 1,.int .i64 65533]) (by simp [results,Tryz.results36,go_sem]) rfl ⟨rfl,(Below.refl _ _).alloc (Nat.le_refl _) _⟩
set_option maxHeartbeats 1000000 in
theorem at_none2 (s : ByteArray) (p : Nat) (w : World) (hp : p < s.size) (_hs : s.size ≤ 1048576) (b0 : Int) (e0 : (s[p].toNat : Int) = b0) (_h0 : 0 ≤ b0) (_h1 : b0 ≤ 255) (_h : 248 ≤ b0) : Calls Tryz.prog 36 #[.string s,.int .i64 p] w fun e w'=>e = .returned (.agg #[.int .i64 p,.int .i64 1,.int .i64 65533]) ∧ Below w.heap.size w w':=by
  go_enter Tryz.func36,Tryz.ntmps36
  go_wp2_with (first | (go_at_call 68;refine (good_any _ _).mono ?_;rintro e w' ⟨rfl,rfl⟩) | (go_at_call 69;refine (bytes_any _ _).mono ?_;rintro e w' ⟨rfl,rfl⟩))
  exact bodyPost_ret (v:=.agg #[.int .i64 p,.int .i64 1,.int .i64 65533]) (by simp [results,Tryz.results36,go_sem]) rfl ⟨rfl,(Below.refl _ _).alloc (Nat.le_refl _) _⟩
set_option maxHeartbeats 1000000 in
theorem at_short2 (s : ByteArray) (p : Nat) (w : World) (hp : p < s.size) (_hs : s.size ≤ 1048576) (b0 : Int) (e0 : (s[p].toNat : Int) = b0) (_h0 : 0 ≤ b0) (_h1 : b0 ≤ 255) (_h : 192 ≤ b0) (_h' : b0 < 224) (hk : s.size - p < 2) : Calls Tryz.prog 36 #[.string s,.int .i64 p] w fun e w'=>e = .returned (.agg #[.int .i64 p,.int .i64 1,.int .i64 65533]) ∧ Below w.heap.size w w':=by
  have hk' : (s.size : Int) - (p : Int) < 2:=by omega
  go_enter Tryz.func36,Tryz.ntmps36
  go_wp2_with (first | (go_at_call 68;refine (good_any _ _).mono ?_;rintro e w' ⟨rfl,rfl⟩) | (go_at_call 69;refine (bytes_any _ _).mono ?_;rintro e w' ⟨rfl,rfl⟩))
  refine wp_loop_rounds 1 ?_
  rw [rounds_succ]
  go_wp2_with (first | (go_at_call 68;refine (good_any _ _).mono ?_;rintro e w' ⟨rfl,rfl⟩) | (go_at_call 69;refine (bytes_any _ _).mono ?_;rintro e w' ⟨rfl,rfl⟩))
  exact bodyPost_ret (v:=.agg #[.int .i64 p,.int .i64 1,.int .i64 65533]) (by simp [results,Tryz.results36,go_sem]) rfl ⟨rfl,(Below.refl _ _).alloc (Nat.le_refl _) _⟩
set_option maxHeartbeats 1000000 in
theorem at_bad2_1_lo (s : ByteArray) (p : Nat) (w : World) (hp : p < s.size) (_hs : s.size ≤ 1048576) (b0 : Int) (e0 : (s[p].toNat : Int) = b0) (_h0 : 0 ≤ b0) (_h1 : b0 ≤ 255) (_h : 192 ≤ b0) (_h' : b0 < 224) (hk : 2 ≤ s.size - p) (b1 : Int) (e1 : ((s[p + 1]'(by omega)).toNat : Int) = b1) (_f1 : 0 ≤ b1) (_g1 : b1 ≤ 255) (_hx : b1 < 128) : Calls Tryz.prog 36 #[.string s,.int .i64 p] w fun e w'=>e = .returned (.agg #[.int .i64 p,.int .i64 1,.int .i64 65533]) ∧ Below w.heap.size w w':=by
  have hk' : (2 : Int) ≤ (s.size : Int) - (p : Int):=by omega
  have z1 : p + 1 < s.size:=by omega
  go_enter Tryz.func36,Tryz.ntmps36
  go_wp2_with (first | (go_at_call 68;refine (good_any _ _).mono ?_;rintro e w' ⟨rfl,rfl⟩) | (go_at_call 69;refine (bytes_any _ _).mono ?_;rintro e w' ⟨rfl,rfl⟩))
  refine wp_loop_rounds 1 ?_
  rw [rounds_succ]
  go_wp2_with (first | (go_at_call 68;refine (good_any _ _).mono ?_;rintro e w' ⟨rfl,rfl⟩) | (go_at_call 69;refine (bytes_any _ _).mono ?_;rintro e w' ⟨rfl,rfl⟩))
  exact bodyPost_ret (v:=.agg #[.int .i64 p,.int .i64 1,.int .i64 65533]) (by simp [results,Tryz.results36,go_sem]) rfl ⟨rfl,(Below.refl _ _).alloc (Nat.le_refl _) _⟩
set_option maxHeartbeats 1000000 in
theorem at_bad2_1_hi (s : ByteArray) (p : Nat) (w : World) (hp : p < s.size) (_hs : s.size ≤ 1048576) (b0 : Int) (e0 : (s[p].toNat : Int) = b0) (_h0 : 0 ≤ b0) (_h1 : b0 ≤ 255) (_h : 192 ≤ b0) (_h' : b0 < 224) (hk : 2 ≤ s.size - p) (b1 : Int) (e1 : ((s[p + 1]'(by omega)).toNat : Int) = b1) (_f1 : 0 ≤ b1) (_g1 : b1 ≤ 255) (_hx : 192 ≤ b1) : Calls Tryz.prog 36 #[.string s,.int .i64 p] w fun e w'=>e = .returned (.agg #[.int .i64 p,.int .i64 1,.int .i64 65533]) ∧ Below w.heap.size w w':=by
  have hk' : (2 : Int) ≤ (s.size : Int) - (p : Int):=by omega
  have z1 : p + 1 < s.size:=by omega
  go_enter Tryz.func36,Tryz.ntmps36
  go_wp2_with (first | (go_at_call 68;refine (good_any _ _).mono ?_;rintro e w' ⟨rfl,rfl⟩) | (go_at_call 69;refine (bytes_any _ _).mono ?_;rintro e w' ⟨rfl,rfl⟩))
  refine wp_loop_rounds 1 ?_
  rw [rounds_succ]
  go_wp2_with (first | (go_at_call 68;refine (good_any _ _).mono ?_;rintro e w' ⟨rfl,rfl⟩) | (go_at_call 69;refine (bytes_any _ _).mono ?_;rintro e w' ⟨rfl,rfl⟩))
  exact bodyPost_ret (v:=.agg #[.int .i64 p,.int .i64 1,.int .i64 65533]) (by simp [results,Tryz.results36,go_sem]) rfl ⟨rfl,(Below.refl _ _).alloc (Nat.le_refl _) _⟩
set_option maxHeartbeats 1000000 in
theorem at_ok2 (s : ByteArray) (p : Nat) (w : World) (hp : p < s.size) (_hs : s.size ≤ 1048576) (b0 : Int) (e0 : (s[p].toNat : Int) = b0) (_h0 : 0 ≤ b0) (_h1 : b0 ≤ 255) (_h : 192 ≤ b0) (_h' : b0 < 224) (hk : 2 ≤ s.size - p) (b1 : Int) (e1 : ((s[p + 1]'(by omega)).toNat : Int) = b1) (_f1 : 0 ≤ b1) (_g1 : b1 ≤ 255) (_c1 : 128 ≤ b1) (_d1 : b1 < 192) (r : Int) (hr : (b0 - 192) * 64 + b1 - 128 = r) (hg : encB r = true) (hb : byN r = 2) : Calls Tryz.prog 36 #[.string s,.int .i64 p] w fun e w'=>e = .returned (.agg #[.int .i64 p,.int .i64 2,.int .i64 r]) ∧ Below w.heap.size w w':=by
  have hk' : (2 : Int) ≤ (s.size : Int) - (p : Int):=by omega
  have z1 : p + 1 < s.size:=by omega
  go_enter Tryz.func36,Tryz.ntmps36
  go_wp2_with (first | (go_at_call 68;refine (good_any _ _).mono ?_;rintro e w' ⟨rfl,rfl⟩) | (go_at_call 69;refine (bytes_any _ _).mono ?_;rintro e w' ⟨rfl,rfl⟩))
  refine wp_loop_rounds 2 ?_
  rw [rounds_succ]
  go_wp2_with (first | (go_at_call 68;refine (good_any _ _).mono ?_;rintro e w' ⟨rfl,rfl⟩) | (go_at_call 69;refine (bytes_any _ _).mono ?_;rintro e w' ⟨rfl,rfl⟩))
  rw [rounds_succ]
  go_wp2_with (first | (go_at_call 68;refine (good_any _ _).mono ?_;rintro e w' ⟨rfl,rfl⟩) | (go_at_call 69;refine (bytes_any _ _).mono ?_;rintro e w' ⟨rfl,rfl⟩))
  exact bodyPost_ret (v:=.agg #[.int .i64 p,.int .i64 2,.int .i64 r]) (by simp [results,Tryz.results36,go_sem]) rfl ⟨rfl,(Below.refl _ _).alloc (Nat.le_refl _) _⟩
set_option maxHeartbeats 1000000 in
theorem at_nb2 (s : ByteArray) (p : Nat) (w : World) (hp : p < s.size) (_hs : s.size ≤ 1048576) (b0 : Int) (e0 : (s[p].toNat : Int) = b0) (_h0 : 0 ≤ b0) (_h1 : b0 ≤ 255) (_h : 192 ≤ b0) (_h' : b0 < 224) (hk : 2 ≤ s.size - p) (b1 : Int) (e1 : ((s[p + 1]'(by omega)).toNat : Int) = b1) (_f1 : 0 ≤ b1) (_g1 : b1 ≤ 255) (_c1 : 128 ≤ b1) (_d1 : b1 < 192) (r : Int) (hr : (b0 - 192) * 64 + b1 - 128 = r) (hg : encB r = true) (hb : (byN r == 2) = false) : Calls Tryz.prog 36 #[.string s,.int .i64 p] w fun e w'=>e = .returned (.agg #[.int .i64 p,.int .i64 1,.int .i64 65533]) ∧ Below w.heap.size w w':=by
  have hk' : (2 : Int) ≤ (s.size : Int) - (p : Int):=by omega
  have z1 : p + 1 < s.size:=by omega
  go_enter Tryz.func36,Tryz.ntmps36
  go_wp2_with (first | (go_at_call 68;refine (good_any _ _).mono ?_;rintro e w' ⟨rfl,rfl⟩) | (go_at_call 69;refine (bytes_any _ _).mono ?_;rintro e w' ⟨rfl,rfl⟩))
  refine wp_loop_rounds 2 ?_
  rw [rounds_succ]
  go_wp2_with (first | (go_at_call 68;refine (good_any _ _).mono ?_;rintro e w' ⟨rfl,rfl⟩) | (go_at_call 69;refine (bytes_any _ _).mono ?_;rintro e w' ⟨rfl,rfl⟩))
  rw [rounds_succ]
  go_wp2_with (first | (go_at_call 68;refine (good_any _ _).mono ?_;rintro e w' ⟨rfl,rfl⟩) | (go_at_call 69;refine (bytes_any _ _).mono ?_;rintro e w' ⟨rfl,rfl⟩))
  exact bodyPost_ret (v:=.agg #[.int .i64 p,.int .i64 1,.int .i64 65533]) (by simp [results,Tryz.results36,go_sem]) rfl ⟨rfl,(Below.refl _ _).alloc (Nat.le_refl _) _⟩
set_option maxHeartbeats 1000000 in
theorem at_short3 (s : ByteArray) (p : Nat) (w : World) (hp : p < s.size) (_hs : s.size ≤ 1048576) (b0 : Int) (e0 : (s[p].toNat : Int) = b0) (_h0 : 0 ≤ b0) (_h1 : b0 ≤ 255) (_h : 224 ≤ b0) (_h' : b0 < 240) (hk : s.size - p < 3) : Calls Tryz.prog 36 #[.string s,.int .i64 p] w fun e w'=>e = .returned (.agg #[.int .i64 p,.int .i64 1,.int .i64 65533]) ∧ Below w.heap.size w w':=by
  have hk' : (s.size : Int) - (p : Int) < 3:=by omega
  go_enter Tryz.func36,Tryz.ntmps36
  go_wp2_with (first | (go_at_call 68;refine (good_any _ _).mono ?_;rintro e w' ⟨rfl,rfl⟩) | (go_at_call 69;refine (bytes_any _ _).mono ?_;rintro e w' ⟨rfl,rfl⟩))
  refine wp_loop_rounds 1 ?_
  rw [rounds_succ]
  go_wp2_with (first | (go_at_call 68;refine (good_any _ _).mono ?_;rintro e w' ⟨rfl,rfl⟩) | (go_at_call 69;refine (bytes_any _ _).mono ?_;rintro e w' ⟨rfl,rfl⟩))
  exact bodyPost_ret (v:=.agg #[.int .i64 p,.int .i64 1,.int .i64 65533]) (by simp [results,Tryz.results36,go_sem]) rfl ⟨rfl,(Below.refl _ _).alloc (Nat.le_refl _) _⟩
set_option maxHeartbeats 1000000 in
theorem at_bad3_1_lo (s : ByteArray) (p : Nat) (w : World) (hp : p < s.size) (_hs : s.size ≤ 1048576) (b0 : Int) (e0 : (s[p].toNat : Int) = b0) (_h0 : 0 ≤ b0) (_h1 : b0 ≤ 255) (_h : 224 ≤ b0) (_h' : b0 < 240) (hk : 3 ≤ s.size - p) (b1 : Int) (e1 : ((s[p + 1]'(by omega)).toNat : Int) = b1) (_f1 : 0 ≤ b1) (_g1 : b1 ≤ 255) (_hx : b1 < 128) : Calls Tryz.prog 36 #[.string s,.int .i64 p] w fun e w'=>e = .returned (.agg #[.int .i64 p,.int .i64 1,.int .i64 65533]) ∧ Below w.heap.size w w':=by
  have hk' : (3 : Int) ≤ (s.size : Int) - (p : Int):=by omega
  have z1 : p + 1 < s.size:=by omega
  have z2 : p + 2 < s.size:=by omega
  go_enter Tryz.func36,Tryz.ntmps36
  go_wp2_with (first | (go_at_call 68;refine (good_any _ _).mono ?_;rintro e w' ⟨rfl,rfl⟩) | (go_at_call 69;refine (bytes_any _ _).mono ?_;rintro e w' ⟨rfl,rfl⟩))
  refine wp_loop_rounds 1 ?_
  rw [rounds_succ]
  go_wp2_with (first | (go_at_call 68;refine (good_any _ _).mono ?_;rintro e w' ⟨rfl,rfl⟩) | (go_at_call 69;refine (bytes_any _ _).mono ?_;rintro e w' ⟨rfl,rfl⟩))
  exact bodyPost_ret (v:=.agg #[.int .i64 p,.int .i64 1,.int .i64 65533]) (by simp [results,Tryz.results36,go_sem]) rfl ⟨rfl,(Below.refl _ _).alloc (Nat.le_refl _) _⟩
set_option maxHeartbeats 1000000 in
theorem at_bad3_1_hi (s : ByteArray) (p : Nat) (w : World) (hp : p < s.size) (_hs : s.size ≤ 1048576) (b0 : Int) (e0 : (s[p].toNat : Int) = b0) (_h0 : 0 ≤ b0) (_h1 : b0 ≤ 255) (_h : 224 ≤ b0) (_h' : b0 < 240) (hk : 3 ≤ s.size - p) (b1 : Int) (e1 : ((s[p + 1]'(by omega)).toNat : Int) = b1) (_f1 : 0 ≤ b1) (_g1 : b1 ≤ 255) (_hx : 192 ≤ b1) : Calls Tryz.prog 36 #[.string s,.int .i64 p] w fun e w'=>e = .returned (.agg #[.int .i64 p,.int .i64 1,.int .i64 65533]) ∧ Below w.heap.size w w':=by
  have hk' : (3 : Int) ≤ (s.size : Int) - (p : Int):=by omega
  have z1 : p + 1 < s.size:=by omega
  have z2 : p + 2 < s.size:=by omega
  go_enter Tryz.func36,Tryz.ntmps36
  go_wp2_with (first | (go_at_call 68;refine (good_any _ _).mono ?_;rintro e w' ⟨rfl,rfl⟩) | (go_at_call 69;refine (bytes_any _ _).mono ?_;rintro e w' ⟨rfl,rfl⟩))
  refine wp_loop_rounds 1 ?_
  rw [rounds_succ]
  go_wp2_with (first | (go_at_call 68;refine (good_any _ _).mono ?_;rintro e w' ⟨rfl,rfl⟩) | (go_at_call 69;refine (bytes_any _ _).mono ?_;rintro e w' ⟨rfl,rfl⟩))
  exact bodyPost_ret (v:=.agg #[.int .i64 p,.int .i64 1,.int .i64 65533]) (by simp [results,Tryz.results36,go_sem]) rfl ⟨rfl,(Below.refl _ _).alloc (Nat.le_refl _) _⟩
set_option maxHeartbeats 1000000 in
theorem at_bad3_2_lo (s : ByteArray) (p : Nat) (w : World) (hp : p < s.size) (_hs : s.size ≤ 1048576) (b0 : Int) (e0 : (s[p].toNat : Int) = b0) (_h0 : 0 ≤ b0) (_h1 : b0 ≤ 255) (_h : 224 ≤ b0) (_h' : b0 < 240) (hk : 3 ≤ s.size - p) (b1 : Int) (e1 : ((s[p + 1]'(by omega)).toNat : Int) = b1) (_f1 : 0 ≤ b1) (_g1 : b1 ≤ 255) (_c1 : 128 ≤ b1) (_d1 : b1 < 192) (b2 : Int) (e2 : ((s[p + 2]'(by omega)).toNat : Int) = b2) (_f2 : 0 ≤ b2) (_g2 : b2 ≤ 255) (_hx : b2 < 128) : Calls Tryz.prog 36 #[.string s,.int .i64 p] w fun e w'=>e = .returned (.agg #[.int .i64 p,.int .i64 1,.int .i64 65533]) ∧ Below w.heap.size w w':=by
  have hk' : (3 : Int) ≤ (s.size : Int) - (p : Int):=by omega
  have z1 : p + 1 < s.size:=by omega
  have z2 : p + 2 < s.size:=by omega
  go_enter Tryz.func36,Tryz.ntmps36
  go_wp2_with (first | (go_at_call 68;refine (good_any _ _).mono ?_;rintro e w' ⟨rfl,rfl⟩) | (go_at_call 69;refine (bytes_any _ _).mono ?_;rintro e w' ⟨rfl,rfl⟩))
  refine wp_loop_rounds 2 ?_
  rw [rounds_succ]
  go_wp2_with (first | (go_at_call 68;refine (good_any _ _).mono ?_;rintro e w' ⟨rfl,rfl⟩) | (go_at_call 69;refine (bytes_any _ _).mono ?_;rintro e w' ⟨rfl,rfl⟩))
  rw [rounds_succ]
  go_wp2_with (first | (go_at_call 68;refine (good_any _ _).mono ?_;rintro e w' ⟨rfl,rfl⟩) | (go_at_call 69;refine (bytes_any _ _).mono ?_;rintro e w' ⟨rfl,rfl⟩))
  exact bodyPost_ret (v:=.agg #[.int .i64 p,.int .i64 1,.int .i64 65533]) (by simp [results,Tryz.results36,go_sem]) rfl ⟨rfl,(Below.refl _ _).alloc (Nat.le_refl _) _⟩
set_option maxHeartbeats 1000000 in
theorem at_bad3_2_hi (s : ByteArray) (p : Nat) (w : World) (hp : p < s.size) (_hs : s.size ≤ 1048576) (b0 : Int) (e0 : (s[p].toNat : Int) = b0) (_h0 : 0 ≤ b0) (_h1 : b0 ≤ 255) (_h : 224 ≤ b0) (_h' : b0 < 240) (hk : 3 ≤ s.size - p) (b1 : Int) (e1 : ((s[p + 1]'(by omega)).toNat : Int) = b1) (_f1 : 0 ≤ b1) (_g1 : b1 ≤ 255) (_c1 : 128 ≤ b1) (_d1 : b1 < 192) (b2 : Int) (e2 : ((s[p + 2]'(by omega)).toNat : Int) = b2) (_f2 : 0 ≤ b2) (_g2 : b2 ≤ 255) (_hx : 192 ≤ b2) : Calls Tryz.prog 36 #[.string s,.int .i64 p] w fun e w'=>e = .returned (.agg #[.int .i64 p,.int .i64 1,.int .i64 65533]) ∧ Below w.heap.size w w':=by
  have hk' : (3 : Int) ≤ (s.size : Int) - (p : Int):=by omega
  have z1 : p + 1 < s.size:=by omega
  have z2 : p + 2 < s.size:=by omega
  go_enter Tryz.func36,Tryz.ntmps36
  go_wp2_with (first | (go_at_call 68;refine (good_any _ _).mono ?_;rintro e w' ⟨rfl,rfl⟩) | (go_at_call 69;refine (bytes_any _ _).mono ?_;rintro e w' ⟨rfl,rfl⟩))
  refine wp_loop_rounds 2 ?_
  rw [rounds_succ]
  go_wp2_with (first | (go_at_call 68;refine (good_any _ _).mono ?_;rintro e w' ⟨rfl,rfl⟩) | (go_at_call 69;refine (bytes_any _ _).mono ?_;rintro e w' ⟨rfl,rfl⟩))
  rw [rounds_succ]
  go_wp2_with (first | (go_at_call 68;refine (good_any _ _).mono ?_;rintro e w' ⟨rfl,rfl⟩) | (go_at_call 69;refine (bytes_any _ _).mono ?_;rintro e w' ⟨rfl,rfl⟩))
  exact bodyPost_ret (v:=.agg #[.int .i64 p,.int .i64 1,.int .i64 65533]) (by simp [results,Tryz.results36,go_sem]) rfl ⟨rfl,(Below.refl _ _).alloc (Nat.le_refl _) _⟩
set_option maxHeartbeats 1000000 in
theorem at_ok3 (s : ByteArray) (p : Nat) (w : World) (hp : p < s.size) (_hs : s.size ≤ 1048576) (b0 : Int) (e0 : (s[p].toNat : Int) = b0) (_h0 : 0 ≤ b0) (_h1 : b0 ≤ 255) (_h : 224 ≤ b0) (_h' : b0 < 240) (hk : 3 ≤ s.size - p) (b1 : Int) (e1 : ((s[p + 1]'(by omega)).toNat : Int) = b1) (_f1 : 0 ≤ b1) (_g1 : b1 ≤ 255) (_c1 : 128 ≤ b1) (_d1 : b1 < 192) (b2 : Int) (e2 : ((s[p + 2]'(by omega)).toNat : Int) = b2) (_f2 : 0 ≤ b2) (_g2 : b2 ≤ 255) (_c2 : 128 ≤ b2) (_d2 : b2 < 192) (r : Int) (hr : ((b0 - 224) * 64 + b1 - 128) * 64 + b2 - 128 = r) (hg : encB r = true) (hb : byN r = 3) : Calls Tryz.prog 36 #[.string s,.int .i64 p] w fun e w'=>e = .returned (.agg #[.int .i64 p,.int .i64 3,.int .i64 r]) ∧ Below w.heap.size w w':=by
  have hk' : (3 : Int) ≤ (s.size : Int) - (p : Int):=by omega
  have z1 : p + 1 < s.size:=by omega
  have z2 : p + 2 < s.size:=by omega
  go_enter Tryz.func36,Tryz.ntmps36
  go_wp2_with (first | (go_at_call 68;refine (good_any _ _).mono ?_;rintro e w' ⟨rfl,rfl⟩) | (go_at_call 69;refine (bytes_any _ _).mono ?_;rintro e w' ⟨rfl,rfl⟩))
  refine wp_loop_rounds 3 ?_
  rw [rounds_succ]
  go_wp2_with (first | (go_at_call 68;refine (good_any _ _).mono ?_;rintro e w' ⟨rfl,rfl⟩) | (go_at_call 69;refine (bytes_any _ _).mono ?_;rintro e w' ⟨rfl,rfl⟩))
  rw [rounds_succ]
  go_wp2_with (first | (go_at_call 68;refine (good_any _ _).mono ?_;rintro e w' ⟨rfl,rfl⟩) | (go_at_call 69;refine (bytes_any _ _).mono ?_;rintro e w' ⟨rfl,rfl⟩))
  rw [rounds_succ]
  go_wp2_with (first | (go_at_call 68;refine (good_any _ _).mono ?_;rintro e w' ⟨rfl,rfl⟩) | (go_at_call 69;refine (bytes_any _ _).mono ?_;rintro e w' ⟨rfl,rfl⟩))
  exact bodyPost_ret (v:=.agg #[.int .i64 p,.int .i64 3,.int .i64 r]) (by simp [results,Tryz.results36,go_sem]) rfl ⟨rfl,(Below.refl _ _).alloc (Nat.le_refl _) _⟩
set_option maxHeartbeats 1000000 in
theorem at_ng3 (s : ByteArray) (p : Nat) (w : World) (hp : p < s.size) (_hs : s.size ≤ 1048576) (b0 : Int) (e0 : (s[p].toNat : Int) = b0) (_h0 : 0 ≤ b0) (_h1 : b0 ≤ 255) (_h : 224 ≤ b0) (_h' : b0 < 240) (hk : 3 ≤ s.size - p) (b1 : Int) (e1 : ((s[p + 1]'(by omega)).toNat : Int) = b1) (_f1 : 0 ≤ b1) (_g1 : b1 ≤ 255) (_c1 : 128 ≤ b1) (_d1 : b1 < 192) (b2 : Int) (e2 : ((s[p + 2]'(by omega)).toNat : Int) = b2) (_f2 : 0 ≤ b2) (_g2 : b2 ≤ 255) (_c2 : 128 ≤ b2) (_d2 : b2 < 192) (r : Int) (hr : ((b0 - 224) * 64 + b1 - 128) * 64 + b2 - 128 = r) (hg : encB r = false) : Calls Tryz.prog 36 #[.string s,.int .i64 p] w fun e w'=>e = .returned (.agg #[.int .i64 p,.int .i64 1,.int .i64 65533]) ∧ Below w.heap.size w w':=by
  have hk' : (3 : Int) ≤ (s.size : Int) - (p : Int):=by omega
  have z1 : p + 1 < s.size:=by omega
  have z2 : p + 2 < s.size:=by omega
  go_enter Tryz.func36,Tryz.ntmps36
  go_wp2_with (first | (go_at_call 68;refine (good_any _ _).mono ?_;rintro e w' ⟨rfl,rfl⟩) | (go_at_call 69;refine (bytes_any _ _).mono ?_;rintro e w' ⟨rfl,rfl⟩))
  refine wp_loop_rounds 3 ?_
  rw [rounds_succ]
  go_wp2_with (first | (go_at_call 68;refine (good_any _ _).mono ?_;rintro e w' ⟨rfl,rfl⟩) | (go_at_call 69;refine (bytes_any _ _).mono ?_;rintro e w' ⟨rfl,rfl⟩))
  rw [rounds_succ]
  go_wp2_with (first | (go_at_call 68;refine (good_any _ _).mono ?_;rintro e w' ⟨rfl,rfl⟩) | (go_at_call 69;refine (bytes_any _ _).mono ?_;rintro e w' ⟨rfl,rfl⟩))
  rw [rounds_succ]
  go_wp2_with (first | (go_at_call 68;refine (good_any _ _).mono ?_;rintro e w' ⟨rfl,rfl⟩) | (go_at_call 69;refine (bytes_any _ _).mono ?_;rintro e w' ⟨rfl,rfl⟩))
  exact bodyPost_ret (v:=.agg #[.int .i64 p,.int .i64 1,.int .i64 65533]) (by simp [results,Tryz.results36,go_sem]) rfl ⟨rfl,(Below.refl _ _).alloc (Nat.le_refl _) _⟩
set_option maxHeartbeats 1000000 in
theorem at_nb3 (s : ByteArray) (p : Nat) (w : World) (hp : p < s.size) (_hs : s.size ≤ 1048576) (b0 : Int) (e0 : (s[p].toNat : Int) = b0) (_h0 : 0 ≤ b0) (_h1 : b0 ≤ 255) (_h : 224 ≤ b0) (_h' : b0 < 240) (hk : 3 ≤ s.size - p) (b1 : Int) (e1 : ((s[p + 1]'(by omega)).toNat : Int) = b1) (_f1 : 0 ≤ b1) (_g1 : b1 ≤ 255) (_c1 : 128 ≤ b1) (_d1 : b1 < 192) (b2 : Int) (e2 : ((s[p + 2]'(by omega)).toNat : Int) = b2) (_f2 : 0 ≤ b2) (_g2 : b2 ≤ 255) (_c2 : 128 ≤ b2) (_d2 : b2 < 192) (r : Int) (hr : ((b0 - 224) * 64 + b1 - 128) * 64 + b2 - 128 = r) (hg : encB r = true) (hb : (byN r == 3) = false) : Calls Tryz.prog 36 #[.string s,.int .i64 p] w fun e w'=>e = .returned (.agg #[.int .i64 p,.int .i64 1,.int .i64 65533]) ∧ Below w.heap.size w w':=by
  have hk' : (3 : Int) ≤ (s.size : Int) - (p : Int):=by omega
  have z1 : p + 1 < s.size:=by omega
  have z2 : p + 2 < s.size:=by omega
  go_enter Tryz.func36,Tryz.ntmps36
  go_wp2_with (first | (go_at_call 68;refine (good_any _ _).mono ?_;rintro e w' ⟨rfl,rfl⟩) | (go_at_call 69;refine (bytes_any _ _).mono ?_;rintro e w' ⟨rfl,rfl⟩))
  refine wp_loop_rounds 3 ?_
  rw [rounds_succ]
  go_wp2_with (first | (go_at_call 68;refine (good_any _ _).mono ?_;rintro e w' ⟨rfl,rfl⟩) | (go_at_call 69;refine (bytes_any _ _).mono ?_;rintro e w' ⟨rfl,rfl⟩))
  rw [rounds_succ]
  go_wp2_with (first | (go_at_call 68;refine (good_any _ _).mono ?_;rintro e w' ⟨rfl,rfl⟩) | (go_at_call 69;refine (bytes_any _ _).mono ?_;rintro e w' ⟨rfl,rfl⟩))
  rw [rounds_succ]
  go_wp2_with (first | (go_at_call 68;refine (good_any _ _).mono ?_;rintro e w' ⟨rfl,rfl⟩) | (go_at_call 69;refine (bytes_any _ _).mono ?_;rintro e w' ⟨rfl,rfl⟩))
  exact bodyPost_ret (v:=.agg #[.int .i64 p,.int .i64 1,.int .i64 65533]) (by simp [results,Tryz.results36,go_sem]) rfl ⟨rfl,(Below.refl _ _).alloc (Nat.le_refl _) _⟩
set_option maxHeartbeats 1000000 in
theorem at_short4 (s : ByteArray) (p : Nat) (w : World) (hp : p < s.size) (_hs : s.size ≤ 1048576) (b0 : Int) (e0 : (s[p].toNat : Int) = b0) (_h0 : 0 ≤ b0) (_h1 : b0 ≤ 255) (_h : 240 ≤ b0) (_h' : b0 < 248) (hk : s.size - p < 4) : Calls Tryz.prog 36 #[.string s,.int .i64 p] w fun e w'=>e = .returned (.agg #[.int .i64 p,.int .i64 1,.int .i64 65533]) ∧ Below w.heap.size w w':=by
  have hk' : (s.size : Int) - (p : Int) < 4:=by omega
  go_enter Tryz.func36,Tryz.ntmps36
  go_wp2_with (first | (go_at_call 68;refine (good_any _ _).mono ?_;rintro e w' ⟨rfl,rfl⟩) | (go_at_call 69;refine (bytes_any _ _).mono ?_;rintro e w' ⟨rfl,rfl⟩))
  refine wp_loop_rounds 1 ?_
  rw [rounds_succ]
  go_wp2_with (first | (go_at_call 68;refine (good_any _ _).mono ?_;rintro e w' ⟨rfl,rfl⟩) | (go_at_call 69;refine (bytes_any _ _).mono ?_;rintro e w' ⟨rfl,rfl⟩))
  exact bodyPost_ret (v:=.agg #[.int .i64 p,.int .i64 1,.int .i64 65533]) (by simp [results,Tryz.results36,go_sem]) rfl ⟨rfl,(Below.refl _ _).alloc (Nat.le_refl _) _⟩
set_option maxHeartbeats 1000000 in
theorem at_bad4_1_lo (s : ByteArray) (p : Nat) (w : World) (hp : p < s.size) (_hs : s.size ≤ 1048576) (b0 : Int) (e0 : (s[p].toNat : Int) = b0) (_h0 : 0 ≤ b0) (_h1 : b0 ≤ 255) (_h : 240 ≤ b0) (_h' : b0 < 248) (hk : 4 ≤ s.size - p) (b1 : Int) (e1 : ((s[p + 1]'(by omega)).toNat : Int) = b1) (_f1 : 0 ≤ b1) (_g1 : b1 ≤ 255) (_hx : b1 < 128) : Calls Tryz.prog 36 #[.string s,.int .i64 p] w fun e w'=>e = .returned (.agg #[.int .i64 p,.int .i64 1,.int .i64 65533]) ∧ Below w.heap.size w w':=by
  have hk' : (4 : Int) ≤ (s.size : Int) - (p : Int):=by omega
  have z1 : p + 1 < s.size:=by omega
  have z2 : p + 2 < s.size:=by omega
  have z3 : p + 3 < s.size:=by omega
  go_enter Tryz.func36,Tryz.ntmps36
  go_wp2_with (first | (go_at_call 68;refine (good_any _ _).mono ?_;rintro e w' ⟨rfl,rfl⟩) | (go_at_call 69;refine (bytes_any _ _).mono ?_;rintro e w' ⟨rfl,rfl⟩))
  refine wp_loop_rounds 1 ?_
  rw [rounds_succ]
  go_wp2_with (first | (go_at_call 68;refine (good_any _ _).mono ?_;rintro e w' ⟨rfl,rfl⟩) | (go_at_call 69;refine (bytes_any _ _).mono ?_;rintro e w' ⟨rfl,rfl⟩))
  exact bodyPost_ret (v:=.agg #[.int .i64 p,.int .i64 1,.int .i64 65533]) (by simp [results,Tryz.results36,go_sem]) rfl ⟨rfl,(Below.refl _ _).alloc (Nat.le_refl _) _⟩
set_option maxHeartbeats 1000000 in
theorem at_bad4_1_hi (s : ByteArray) (p : Nat) (w : World) (hp : p < s.size) (_hs : s.size ≤ 1048576) (b0 : Int) (e0 : (s[p].toNat : Int) = b0) (_h0 : 0 ≤ b0) (_h1 : b0 ≤ 255) (_h : 240 ≤ b0) (_h' : b0 < 248) (hk : 4 ≤ s.size - p) (b1 : Int) (e1 : ((s[p + 1]'(by omega)).toNat : Int) = b1) (_f1 : 0 ≤ b1) (_g1 : b1 ≤ 255) (_hx : 192 ≤ b1) : Calls Tryz.prog 36 #[.string s,.int .i64 p] w fun e w'=>e = .returned (.agg #[.int .i64 p,.int .i64 1,.int .i64 65533]) ∧ Below w.heap.size w w':=by
  have hk' : (4 : Int) ≤ (s.size : Int) - (p : Int):=by omega
  have z1 : p + 1 < s.size:=by omega
  have z2 : p + 2 < s.size:=by omega
  have z3 : p + 3 < s.size:=by omega
  go_enter Tryz.func36,Tryz.ntmps36
  go_wp2_with (first | (go_at_call 68;refine (good_any _ _).mono ?_;rintro e w' ⟨rfl,rfl⟩) | (go_at_call 69;refine (bytes_any _ _).mono ?_;rintro e w' ⟨rfl,rfl⟩))
  refine wp_loop_rounds 1 ?_
  rw [rounds_succ]
  go_wp2_with (first | (go_at_call 68;refine (good_any _ _).mono ?_;rintro e w' ⟨rfl,rfl⟩) | (go_at_call 69;refine (bytes_any _ _).mono ?_;rintro e w' ⟨rfl,rfl⟩))
  exact bodyPost_ret (v:=.agg #[.int .i64 p,.int .i64 1,.int .i64 65533]) (by simp [results,Tryz.results36,go_sem]) rfl ⟨rfl,(Below.refl _ _).alloc (Nat.le_refl _) _⟩
set_option maxHeartbeats 1000000 in
theorem at_bad4_2_lo (s : ByteArray) (p : Nat) (w : World) (hp : p < s.size) (_hs : s.size ≤ 1048576) (b0 : Int) (e0 : (s[p].toNat : Int) = b0) (_h0 : 0 ≤ b0) (_h1 : b0 ≤ 255) (_h : 240 ≤ b0) (_h' : b0 < 248) (hk : 4 ≤ s.size - p) (b1 : Int) (e1 : ((s[p + 1]'(by omega)).toNat : Int) = b1) (_f1 : 0 ≤ b1) (_g1 : b1 ≤ 255) (_c1 : 128 ≤ b1) (_d1 : b1 < 192) (b2 : Int) (e2 : ((s[p + 2]'(by omega)).toNat : Int) = b2) (_f2 : 0 ≤ b2) (_g2 : b2 ≤ 255) (_hx : b2 < 128) : Calls Tryz.prog 36 #[.string s,.int .i64 p] w fun e w'=>e = .returned (.agg #[.int .i64 p,.int .i64 1,.int .i64 65533]) ∧ Below w.heap.size w w':=by
  have hk' : (4 : Int) ≤ (s.size : Int) - (p : Int):=by omega
  have z1 : p + 1 < s.size:=by omega
  have z2 : p + 2 < s.size:=by omega
  have z3 : p + 3 < s.size:=by omega
  go_enter Tryz.func36,Tryz.ntmps36
  go_wp2_with (first | (go_at_call 68;refine (good_any _ _).mono ?_;rintro e w' ⟨rfl,rfl⟩) | (go_at_call 69;refine (bytes_any _ _).mono ?_;rintro e w' ⟨rfl,rfl⟩))
  refine wp_loop_rounds 2 ?_
  rw [rounds_succ]
  go_wp2_with (first | (go_at_call 68;refine (good_any _ _).mono ?_;rintro e w' ⟨rfl,rfl⟩) | (go_at_call 69;refine (bytes_any _ _).mono ?_;rintro e w' ⟨rfl,rfl⟩))
  rw [rounds_succ]
  go_wp2_with (first | (go_at_call 68;refine (good_any _ _).mono ?_;rintro e w' ⟨rfl,rfl⟩) | (go_at_call 69;refine (bytes_any _ _).mono ?_;rintro e w' ⟨rfl,rfl⟩))
  exact bodyPost_ret (v:=.agg #[.int .i64 p,.int .i64 1,.int .i64 65533]) (by simp [results,Tryz.results36,go_sem]) rfl ⟨rfl,(Below.refl _ _).alloc (Nat.le_refl _) _⟩
set_option maxHeartbeats 1000000 in
theorem at_bad4_2_hi (s : ByteArray) (p : Nat) (w : World) (hp : p < s.size) (_hs : s.size ≤ 1048576) (b0 : Int) (e0 : (s[p].toNat : Int) = b0) (_h0 : 0 ≤ b0) (_h1 : b0 ≤ 255) (_h : 240 ≤ b0) (_h' : b0 < 248) (hk : 4 ≤ s.size - p) (b1 : Int) (e1 : ((s[p + 1]'(by omega)).toNat : Int) = b1) (_f1 : 0 ≤ b1) (_g1 : b1 ≤ 255) (_c1 : 128 ≤ b1) (_d1 : b1 < 192) (b2 : Int) (e2 : ((s[p + 2]'(by omega)).toNat : Int) = b2) (_f2 : 0 ≤ b2) (_g2 : b2 ≤ 255) (_hx : 192 ≤ b2) : Calls Tryz.prog 36 #[.string s,.int .i64 p] w fun e w'=>e = .returned (.agg #[.int .i64 p,.int .i64 1,.int .i64 65533]) ∧ Below w.heap.size w w':=by
  have hk' : (4 : Int) ≤ (s.size : Int) - (p : Int):=by omega
  have z1 : p + 1 < s.size:=by omega
  have z2 : p + 2 < s.size:=by omega
  have z3 : p + 3 < s.size:=by omega
  go_enter Tryz.func36,Tryz.ntmps36
  go_wp2_with (first | (go_at_call 68;refine (good_any _ _).mono ?_;rintro e w' ⟨rfl,rfl⟩) | (go_at_call 69;refine (bytes_any _ _).mono ?_;rintro e w' ⟨rfl,rfl⟩))
  refine wp_loop_rounds 2 ?_
  rw [rounds_succ]
  go_wp2_with (first | (go_at_call 68;refine (good_any _ _).mono ?_;rintro e w' ⟨rfl,rfl⟩) | (go_at_call 69;refine (bytes_any _ _).mono ?_;rintro e w' ⟨rfl,rfl⟩))
  rw [rounds_succ]
  go_wp2_with (first | (go_at_call 68;refine (good_any _ _).mono ?_;rintro e w' ⟨rfl,rfl⟩) | (go_at_call 69;refine (bytes_any _ _).mono ?_;rintro e w' ⟨rfl,rfl⟩))
  exact bodyPost_ret (v:=.agg #[.int .i64 p,.int .i64 1,.int .i64 65533]) (by simp [results,Tryz.results36,go_sem]) rfl ⟨rfl,(Below.refl _ _).alloc (Nat.le_refl _) _⟩
set_option maxHeartbeats 1000000 in
theorem at_bad4_3_lo (s : ByteArray) (p : Nat) (w : World) (hp : p < s.size) (_hs : s.size ≤ 1048576) (b0 : Int) (e0 : (s[p].toNat : Int) = b0) (_h0 : 0 ≤ b0) (_h1 : b0 ≤ 255) (_h : 240 ≤ b0) (_h' : b0 < 248) (hk : 4 ≤ s.size - p) (b1 : Int) (e1 : ((s[p + 1]'(by omega)).toNat : Int) = b1) (_f1 : 0 ≤ b1) (_g1 : b1 ≤ 255) (_c1 : 128 ≤ b1) (_d1 : b1 < 192) (b2 : Int) (e2 : ((s[p + 2]'(by omega)).toNat : Int) = b2) (_f2 : 0 ≤ b2) (_g2 : b2 ≤ 255) (_c2 : 128 ≤ b2) (_d2 : b2 < 192) (b3 : Int) (e3 : ((s[p + 3]'(by omega)).toNat : Int) = b3) (_f3 : 0 ≤ b3) (_g3 : b3 ≤ 255) (_hx : b3 < 128) : Calls Tryz.prog 36 #[.string s,.int .i64 p] w fun e w'=>e = .returned (.agg #[.int .i64 p,.int .i64 1,.int .i64 65533]) ∧ Below w.heap.size w w':=by
  have hk' : (4 : Int) ≤ (s.size : Int) - (p : Int):=by omega
  have z1 : p + 1 < s.size:=by omega
  have z2 : p + 2 < s.size:=by omega
  have z3 : p + 3 < s.size:=by omega
  go_enter Tryz.func36,Tryz.ntmps36
  go_wp2_with (first | (go_at_call 68;refine (good_any _ _).mono ?_;rintro e w' ⟨rfl,rfl⟩) | (go_at_call 69;refine (bytes_any _ _).mono ?_;rintro e w' ⟨rfl,rfl⟩))
  refine wp_loop_rounds 3 ?_
  rw [rounds_succ]
  go_wp2_with (first | (go_at_call 68;refine (good_any _ _).mono ?_;rintro e w' ⟨rfl,rfl⟩) | (go_at_call 69;refine (bytes_any _ _).mono ?_;rintro e w' ⟨rfl,rfl⟩))
  rw [rounds_succ]
  go_wp2_with (first | (go_at_call 68;refine (good_any _ _).mono ?_;rintro e w' ⟨rfl,rfl⟩) | (go_at_call 69;refine (bytes_any _ _).mono ?_;rintro e w' ⟨rfl,rfl⟩))
  rw [rounds_succ]
  go_wp2_with (first | (go_at_call 68;refine (good_any _ _).mono ?_;rintro e w' ⟨rfl,rfl⟩) | (go_at_call 69;refine (bytes_any _ _).mono ?_;rintro e w' ⟨rfl,rfl⟩))
  exact bodyPost_ret (v:=.agg #[.int .i64 p,.int .i64 1,.int .i64 65533]) (by simp [results,Tryz.results36,go_sem]) rfl ⟨rfl,(Below.refl _ _).alloc (Nat.le_refl _) _⟩
set_option maxHeartbeats 1000000 in
theorem at_bad4_3_hi (s : ByteArray) (p : Nat) (w : World) (hp : p < s.size) (_hs : s.size ≤ 1048576) (b0 : Int) (e0 : (s[p].toNat : Int) = b0) (_h0 : 0 ≤ b0) (_h1 : b0 ≤ 255) (_h : 240 ≤ b0) (_h' : b0 < 248) (hk : 4 ≤ s.size - p) (b1 : Int) (e1 : ((s[p + 1]'(by omega)).toNat : Int) = b1) (_f1 : 0 ≤ b1) (_g1 : b1 ≤ 255) (_c1 : 128 ≤ b1) (_d1 : b1 < 192) (b2 : Int) (e2 : ((s[p + 2]'(by omega)).toNat : Int) = b2) (_f2 : 0 ≤ b2) (_g2 : b2 ≤ 255) (_c2 : 128 ≤ b2) (_d2 : b2 < 192) (b3 : Int) (e3 : ((s[p + 3]'(by omega)).toNat : Int) = b3) (_f3 : 0 ≤ b3) (_g3 : b3 ≤ 255) (_hx : 192 ≤ b3) : Calls Tryz.prog 36 #[.string s,.int .i64 p] w fun e w'=>e = .returned (.agg #[.int .i64 p,.int .i64 1,.int .i64 65533]) ∧ Below w.heap.size w w':=by
  have hk' : (4 : Int) ≤ (s.size : Int) - (p : Int):=by omega
  have z1 : p + 1 < s.size:=by omega
  have z2 : p + 2 < s.size:=by omega
  have z3 : p + 3 < s.size:=by omega
  go_enter Tryz.func36,Tryz.ntmps36
  go_wp2_with (first | (go_at_call 68;refine (good_any _ _).mono ?_;rintro e w' ⟨rfl,rfl⟩) | (go_at_call 69;refine (bytes_any _ _).mono ?_;rintro e w' ⟨rfl,rfl⟩))
  refine wp_loop_rounds 3 ?_
  rw [rounds_succ]
  go_wp2_with (first | (go_at_call 68;refine (good_any _ _).mono ?_;rintro e w' ⟨rfl,rfl⟩) | (go_at_call 69;refine (bytes_any _ _).mono ?_;rintro e w' ⟨rfl,rfl⟩))
  rw [rounds_succ]
  go_wp2_with (first | (go_at_call 68;refine (good_any _ _).mono ?_;rintro e w' ⟨rfl,rfl⟩) | (go_at_call 69;refine (bytes_any _ _).mono ?_;rintro e w' ⟨rfl,rfl⟩))
  rw [rounds_succ]
  go_wp2_with (first | (go_at_call 68;refine (good_any _ _).mono ?_;rintro e w' ⟨rfl,rfl⟩) | (go_at_call 69;refine (bytes_any _ _).mono ?_;rintro e w' ⟨rfl,rfl⟩))
  exact bodyPost_ret (v:=.agg #[.int .i64 p,.int .i64 1,.int .i64 65533]) (by simp [results,Tryz.results36,go_sem]) rfl ⟨rfl,(Below.refl _ _).alloc (Nat.le_refl _) _⟩
set_option maxHeartbeats 1000000 in
theorem at_ok4 (s : ByteArray) (p : Nat) (w : World) (hp : p < s.size) (_hs : s.size ≤ 1048576) (b0 : Int) (e0 : (s[p].toNat : Int) = b0) (_h0 : 0 ≤ b0) (_h1 : b0 ≤ 255) (_h : 240 ≤ b0) (_h' : b0 < 248) (hk : 4 ≤ s.size - p) (b1 : Int) (e1 : ((s[p + 1]'(by omega)).toNat : Int) = b1) (_f1 : 0 ≤ b1) (_g1 : b1 ≤ 255) (_c1 : 128 ≤ b1) (_d1 : b1 < 192) (b2 : Int) (e2 : ((s[p + 2]'(by omega)).toNat : Int) = b2) (_f2 : 0 ≤ b2) (_g2 : b2 ≤ 255) (_c2 : 128 ≤ b2) (_d2 : b2 < 192) (b3 : Int) (e3 : ((s[p + 3]'(by omega)).toNat : Int) = b3) (_f3 : 0 ≤ b3) (_g3 : b3 ≤ 255) (_c3 : 128 ≤ b3) (_d3 : b3 < 192) (r : Int) (hr : (((b0 - 240) * 64 + b1 - 128) * 64 + b2 - 128) * 64 + b3 - 128 = r) (hg : encB r = true) (hb : byN r = 4) : Calls Tryz.prog 36 #[.string s,.int .i64 p] w fun e w'=>e = .returned (.agg #[.int .i64 p,.int .i64 4,.int .i64 r]) ∧ Below w.heap.size w w':=by
  have hk' : (4 : Int) ≤ (s.size : Int) - (p : Int):=by omega
  have z1 : p + 1 < s.size:=by omega
  have z2 : p + 2 < s.size:=by omega
  have z3 : p + 3 < s.size:=by omega
  go_enter Tryz.func36,Tryz.ntmps36
  go_wp2_with (first | (go_at_call 68;refine (good_any _ _).mono ?_;rintro e w' ⟨rfl,rfl⟩) | (go_at_call 69;refine (bytes_any _ _).mono ?_;rintro e w' ⟨rfl,rfl⟩))
  refine wp_loop_rounds 4 ?_
  rw [rounds_succ]
  go_wp2_with (first | (go_at_call 68;refine (good_any _ _).mono ?_;rintro e w' ⟨rfl,rfl⟩) | (go_at_call 69;refine (bytes_any _ _).mono ?_;rintro e w' ⟨rfl,rfl⟩))
  rw [rounds_succ]
  go_wp2_with (first | (go_at_call 68;refine (good_any _ _).mono ?_;rintro e w' ⟨rfl,rfl⟩) | (go_at_call 69;refine (bytes_any _ _).mono ?_;rintro e w' ⟨rfl,rfl⟩))
  rw [rounds_succ]
  go_wp2_with (first | (go_at_call 68;refine (good_any _ _).mono ?_;rintro e w' ⟨rfl,rfl⟩) | (go_at_call 69;refine (bytes_any _ _).mono ?_;rintro e w' ⟨rfl,rfl⟩))
  rw [rounds_succ]
  go_wp2_with (first | (go_at_call 68;refine (good_any _ _).mono ?_;rintro e w' ⟨rfl,rfl⟩) | (go_at_call 69;refine (bytes_any _ _).mono ?_;rintro e w' ⟨rfl,rfl⟩))
  exact bodyPost_ret (v:=.agg #[.int .i64 p,.int .i64 4,.int .i64 r]) (by simp [results,Tryz.results36,go_sem]) rfl ⟨rfl,(Below.refl _ _).alloc (Nat.le_refl _) _⟩
set_option maxHeartbeats 1000000 in
theorem at_ng4 (s : ByteArray) (p : Nat) (w : World) (hp : p < s.size) (_hs : s.size ≤ 1048576) (b0 : Int) (e0 : (s[p].toNat : Int) = b0) (_h0 : 0 ≤ b0) (_h1 : b0 ≤ 255) (_h : 240 ≤ b0) (_h' : b0 < 248) (hk : 4 ≤ s.size - p) (b1 : Int) (e1 : ((s[p + 1]'(by omega)).toNat : Int) = b1) (_f1 : 0 ≤ b1) (_g1 : b1 ≤ 255) (_c1 : 128 ≤ b1) (_d1 : b1 < 192) (b2 : Int) (e2 : ((s[p + 2]'(by omega)).toNat : Int) = b2) (_f2 : 0 ≤ b2) (_g2 : b2 ≤ 255) (_c2 : 128 ≤ b2) (_d2 : b2 < 192) (b3 : Int) (e3 : ((s[p + 3]'(by omega)).toNat : Int) = b3) (_f3 : 0 ≤ b3) (_g3 : b3 ≤ 255) (_c3 : 128 ≤ b3) (_d3 : b3 < 192) (r : Int) (hr : (((b0 - 240) * 64 + b1 - 128) * 64 + b2 - 128) * 64 + b3 - 128 = r) (hg : encB r = false) : Calls Tryz.prog 36 #[.string s,.int .i64 p] w fun e w'=>e = .returned (.agg #[.int .i64 p,.int .i64 1,.int .i64 65533]) ∧ Below w.heap.size w w':=by
  have hk' : (4 : Int) ≤ (s.size : Int) - (p : Int):=by omega
  have z1 : p + 1 < s.size:=by omega
  have z2 : p + 2 < s.size:=by omega
  have z3 : p + 3 < s.size:=by omega
  go_enter Tryz.func36,Tryz.ntmps36
  go_wp2_with (first | (go_at_call 68;refine (good_any _ _).mono ?_;rintro e w' ⟨rfl,rfl⟩) | (go_at_call 69;refine (bytes_any _ _).mono ?_;rintro e w' ⟨rfl,rfl⟩))
  refine wp_loop_rounds 4 ?_
  rw [rounds_succ]
  go_wp2_with (first | (go_at_call 68;refine (good_any _ _).mono ?_;rintro e w' ⟨rfl,rfl⟩) | (go_at_call 69;refine (bytes_any _ _).mono ?_;rintro e w' ⟨rfl,rfl⟩))
  rw [rounds_succ]
  go_wp2_with (first | (go_at_call 68;refine (good_any _ _).mono ?_;rintro e w' ⟨rfl,rfl⟩) | (go_at_call 69;refine (bytes_any _ _).mono ?_;rintro e w' ⟨rfl,rfl⟩))
  rw [rounds_succ]
  go_wp2_with (first | (go_at_call 68;refine (good_any _ _).mono ?_;rintro e w' ⟨rfl,rfl⟩) | (go_at_call 69;refine (bytes_any _ _).mono ?_;rintro e w' ⟨rfl,rfl⟩))
  rw [rounds_succ]
  go_wp2_with (first | (go_at_call 68;refine (good_any _ _).mono ?_;rintro e w' ⟨rfl,rfl⟩) | (go_at_call 69;refine (bytes_any _ _).mono ?_;rintro e w' ⟨rfl,rfl⟩))
  exact bodyPost_ret (v:=.agg #[.int .i64 p,.int .i64 1,.int .i64 65533]) (by simp [results,Tryz.results36,go_sem]) rfl ⟨rfl,(Below.refl _ _).alloc (Nat.le_refl _) _⟩
set_option maxHeartbeats 1000000 in
theorem at_nb4 (s : ByteArray) (p : Nat) (w : World) (hp : p < s.size) (_hs : s.size ≤ 1048576) (b0 : Int) (e0 : (s[p].toNat : Int) = b0) (_h0 : 0 ≤ b0) (_h1 : b0 ≤ 255) (_h : 240 ≤ b0) (_h' : b0 < 248) (hk : 4 ≤ s.size - p) (b1 : Int) (e1 : ((s[p + 1]'(by omega)).toNat : Int) = b1) (_f1 : 0 ≤ b1) (_g1 : b1 ≤ 255) (_c1 : 128 ≤ b1) (_d1 : b1 < 192) (b2 : Int) (e2 : ((s[p + 2]'(by omega)).toNat : Int) = b2) (_f2 : 0 ≤ b2) (_g2 : b2 ≤ 255) (_c2 : 128 ≤ b2) (_d2 : b2 < 192) (b3 : Int) (e3 : ((s[p + 3]'(by omega)).toNat : Int) = b3) (_f3 : 0 ≤ b3) (_g3 : b3 ≤ 255) (_c3 : 128 ≤ b3) (_d3 : b3 < 192) (r : Int) (hr : (((b0 - 240) * 64 + b1 - 128) * 64 + b2 - 128) * 64 + b3 - 128 = r) (hg : encB r = true) (hb : (byN r == 4) = false) : Calls Tryz.prog 36 #[.string s,.int .i64 p] w fun e w'=>e = .returned (.agg #[.int .i64 p,.int .i64 1,.int .i64 65533]) ∧ Below w.heap.size w w':=by
  have hk' : (4 : Int) ≤ (s.size : Int) - (p : Int):=by omega
  have z1 : p + 1 < s.size:=by omega
  have z2 : p + 2 < s.size:=by omega
  have z3 : p + 3 < s.size:=by omega
  go_enter Tryz.func36,Tryz.ntmps36
  go_wp2_with (first | (go_at_call 68;refine (good_any _ _).mono ?_;rintro e w' ⟨rfl,rfl⟩) | (go_at_call 69;refine (bytes_any _ _).mono ?_;rintro e w' ⟨rfl,rfl⟩))
  refine wp_loop_rounds 4 ?_
  rw [rounds_succ]
  go_wp2_with (first | (go_at_call 68;refine (good_any _ _).mono ?_;rintro e w' ⟨rfl,rfl⟩) | (go_at_call 69;refine (bytes_any _ _).mono ?_;rintro e w' ⟨rfl,rfl⟩))
  rw [rounds_succ]
  go_wp2_with (first | (go_at_call 68;refine (good_any _ _).mono ?_;rintro e w' ⟨rfl,rfl⟩) | (go_at_call 69;refine (bytes_any _ _).mono ?_;rintro e w' ⟨rfl,rfl⟩))
  rw [rounds_succ]
  go_wp2_with (first | (go_at_call 68;refine (good_any _ _).mono ?_;rintro e w' ⟨rfl,rfl⟩) | (go_at_call 69;refine (bytes_any _ _).mono ?_;rintro e w' ⟨rfl,rfl⟩))
  rw [rounds_succ]
  go_wp2_with (first | (go_at_call 68;refine (good_any _ _).mono ?_;rintro e w' ⟨rfl,rfl⟩) | (go_at_call 69;refine (bytes_any _ _).mono ?_;rintro e w' ⟨rfl,rfl⟩))
  exact bodyPost_ret (v:=.agg #[.int .i64 p,.int .i64 1,.int .i64 65533]) (by simp [results,Tryz.results36,go_sem]) rfl ⟨rfl,(Below.refl _ _).alloc (Nat.le_refl _) _⟩
end Go.Proofs.YtlgkfhipobdcfaaGreatDoor
