/- The walk of the law UtflibBack. -/
import Derived.Test.YtbgbhogcjaodkaaCg15
import Derived.Test.YtbgbhogcjaodkaaCg06
import Derived.Test.YtbgbhogcjaodkaaCg08
namespace Go.Proofs.Ytbgbhogcjaodkaa
open Go.RowKit

theorem en_take_le {x : ByteArray} (n : Nat) : en 0 ((rest x 0).take n) ≤ x.size := en_le x _ ((rest x 0).drop n) 0 (Nat.zero_le _) (List.take_append_drop n _).symm
theorem good_take {x : ByteArray} (hg : Good x 0) (n : Nat) : inn x (en 0 ((rest x 0).take n) + 1) = false := by
  have e := rest_en x ((rest x 0).take n) ((rest x 0).drop n) 0 (List.take_append_drop n _).symm
  refine Good.first (p := en 0 ((rest x 0).take n)) (fun r hr => ?_) (en_take_le n)
  rw [← e] at hr
  exact hg r (List.mem_of_mem_drop hr)
theorem ofs_back {x : ByteArray} (hg : Good x 0) {k : Nat} (hk : 1 ≤ k) : ofs x (-(k : Int)) ((x.size : Int) + 1) = if k ≤ (rest x 0).length then (((en 0 ((rest x 0).take ((rest x 0).length - k)) + 1 : Nat) : Int), true, 0) else (0, false, 0) := by
  have e : mt x.size ((x.size : Int) + 1) = ((x.size + 1 : Nat) : Int) := by unfold mt; rw [if_pos (by omega)]; rfl
  have q := bwd_good hg (rest x 0).length (rest x 0) [] k rfl (by simp)
  rw [en_all x 0 (Nat.zero_le _)] at q
  unfold ofs
  rw [e, if_neg (by omega), if_neg (by omega), show ((x.size + 1 : Nat) : Int).toNat = x.size + 1 by omega, if_neg (by rw [inn_end]; simp), if_neg (by omega), show (-(-(k : Int))).toNat = k by omega, q]
  by_cases h : k ≤ (rest x 0).length
  · rw [if_pos h, if_pos h]; rfl
  · rw [if_neg h, if_neg h]
    obtain ⟨d, hd⟩ : ∃ d, k - (rest x 0).length = d + 1 := ⟨k - (rest x 0).length - 1, by omega⟩
    rw [hd, fin_1]
theorem ofs_fwd {x : ByteArray} (hg : Good x 0) (n : Nat) (h : n ≤ (rest x 0).length) : ofs x ((n : Int) + 1) 1 = (((en 0 ((rest x 0).take n) + 1 : Nat) : Int), true, 0) := by
  have e : mt x.size 1 = ((1 : Nat) : Int) := by unfold mt; rw [if_pos (by omega)]; rfl
  have q := fwd_good (rest x 0) 0 n rfl (Nat.zero_le _) hg
  have f := hg.first (Nat.zero_le _)
  unfold ofs
  rw [e, if_neg (by omega), if_neg (by omega), show ((1 : Nat) : Int).toNat = 0 + 1 by omega, if_neg (by rw [f]; simp), if_pos (by omega), show ((n : Int) + 1 - 1).toNat = n by omega, q, if_pos h]
  rfl
theorem ofs_beh {x : ByteArray} (hg : Good x 0) (n : Nat) (h : (rest x 0).length < n) : ofs x ((n : Int) + 1) 1 = (0, false, 0) := by
  have e : mt x.size 1 = ((1 : Nat) : Int) := by unfold mt; rw [if_pos (by omega)]; rfl
  have q := fwd_good (rest x 0) 0 n rfl (Nat.zero_le _) hg
  have f := hg.first (Nat.zero_le _)
  unfold ofs
  rw [e, if_neg (by omega), if_neg (by omega), show ((1 : Nat) : Int).toNat = 0 + 1 by omega, if_neg (by rw [f]; simp), if_pos (by omega), show ((n : Int) + 1 - 1).toNat = n by omega, q, if_neg (by omega)]
  obtain ⟨d, hd⟩ : ∃ d, n - (rest x 0).length = d + 1 := ⟨n - (rest x 0).length - 1, by omega⟩
  rw [hd, fin_1]
theorem ofs_zero {x : ByteArray} {p : Nat} (hp : p ≤ x.size) (hf : inn x (p + 1) = false) : ofs x 0 ((p + 1 : Nat) : Int) = (((p + 1 : Nat) : Int), true, 0) := by
  have e : mt x.size ((p + 1 : Nat) : Int) = ((p + 1 : Nat) : Int) := by unfold mt; rw [if_pos (by omega)]
  unfold ofs
  rw [e, if_neg (by omega), if_pos rfl, show ((p + 1 : Nat) : Int).toNat = p + 1 by omega]
  cases p with
  | zero => rw [bk, if_neg (by omega)]
  | succ q => rw [bk, if_neg (by rw [hf]; simp)]
theorem wrap_small {x : Int} (h : -9223372036854775808 ≤ x) (h' : x ≤ 9223372036854775807) : IntKind.i64.wrap x = x := by rw [IntKind.wrap_i64]; omega
theorem wrap_smallU {x : Int} (h : 0 ≤ x) (h' : x ≤ 9223372036854775807) : IntKind.u64.wrap x = x := by rw [IntKind.wrap_u64]; omega
theorem back_num (k : Int) (m : Nat) (hm : m ≤ 300) : ∃ U q : Nat, q < m + 1 ∧ Hid (IntKind.u64.wrap k = (U : Int) ∧ IntKind.i64.wrap ((m : Int) + 1) = (m : Int) + 1 ∧ IntKind.u64.wrap ((m : Int) + 1) = (m : Int) + 1 ∧ Int.tmod (U : Int) ((m : Int) + 1) = (q : Int) ∧ IntKind.u64.wrap (q : Int) = (q : Int) ∧ IntKind.i64.wrap (q : Int) = (q : Int) ∧
    IntKind.i64.wrap (1 + (q : Int)) = ((q + 1 : Nat) : Int) ∧ IntKind.i64.wrap (-((q + 1 : Nat) : Int)) = -((q + 1 : Nat) : Int) ∧ ((m : Int) + 1 == 0) = false ∧ (q + 1 ≤ m → IntKind.i64.wrap ((m : Int) + 1 - ((q + 1 : Nat) : Int)) = ((m - (q + 1) : Nat) : Int) + 1)) := by
  have hU : 0 ≤ IntKind.u64.wrap k := by rw [IntKind.wrap_u64]; omega
  have hlt := Nat.mod_lt (IntKind.u64.wrap k).toNat (show 0 < m + 1 by omega)
  refine ⟨(IntKind.u64.wrap k).toNat, (IntKind.u64.wrap k).toNat % (m + 1), hlt, show _ ∧ _ from ⟨by omega, wrap_small (by omega) (by omega), wrap_smallU (by omega) (by omega), ?_, ?_, ?_, ?_, ?_, ?_, ?_⟩⟩
  · rw [Int.tmod_eq_emod_of_nonneg (by omega)]; rfl
  all_goals generalize (IntKind.u64.wrap k).toNat % (m + 1) = q at hlt
  · exact wrap_smallU (by omega) (by omega)
  · exact wrap_small (by omega) (by omega)
  · rw [wrap_small (by omega) (by omega)]; omega
  · exact wrap_small (by omega) (by omega)
  · simp; omega
  · intro h; rw [wrap_small (by omega) (by omega)]; omega
theorem rest_le (x : ByteArray) : (rest x 0).length ≤ x.size := by
  have := rest_len x 0
  omega
set_option maxRecDepth 20000 in
set_option maxHeartbeats 2000000 in
theorem back_0 (s : ByteArray) (k : Int) (w : World) (h300 : s.size ≤ 300) (hbd : badOf (rest s 0) < 0) (hg : Good s 0) (_hx : s.size ≤ 300) :
    Calls Try.prog 7 #[.string s, .int .i64 k] w fun e w' => e = .returned (.bool true) ∧ Below w.heap.size w w' := by
  have C0 := fixed_any
  have h3 : ¬ (300 : Int) < (s.size : Int) := by omega
  have C1 := fun W => rbad_any s W (by omega)
  obtain ⟨Bd, hBd⟩ : ∃ Bd, badOf (rest s 0) = Bd := ⟨_, rfl⟩
  rw [hBd] at C1 hbd
  have hK0 : ¬ (0 : Int) ≤ Bd := by omega
  clear hBd

  have C2 := fun W => count_any s W (by omega)
  have CO : ∀ n i W, -9223372036854775808 ≤ i → i ≤ 9223372036854775807 → -9223372036854775808 ≤ n → n ≤ 9223372036854775807 → Calls Try.prog 17 #[.string s, .int .i64 n, .int .i64 i] W fun e w' => e = oR (ofs s n i) ∧ w' = W := fun n i W a b c d => offset_any s n i W (by omega) a b c d
  have hml := rest_le s
  have FB : ∀ k : Nat, 1 ≤ k → _ := fun k hk => ofs_back hg hk
  have FF : ∀ n : Nat, n ≤ (rest s 0).length → _ := fun n hn => ofs_fwd hg n hn
  have FZ : ∀ n : Nat, ofs s 0 ((en 0 ((rest s 0).take n) + 1 : Nat) : Int) = (((en 0 ((rest s 0).take n) + 1 : Nat) : Int), true, 0) := fun n => ofs_zero (en_take_le n) (good_take hg n)
  have FL : ∀ n : Nat, en 0 ((rest s 0).take n) ≤ s.size := fun n => en_take_le n
  obtain ⟨m, hm⟩ : ∃ m, (rest s 0).length = m := ⟨_, rfl⟩
  rw [hm] at C2 hml FB FF
  generalize (rest s 0) = L at *
  obtain ⟨U, q, hlt, HN⟩ := back_num k m (by omega)
  have H8 : Hid (IntKind.i64.wrap ((s.size : Int) + 1) = (s.size : Int) + 1) := wrap_small (by omega) (by omega)
  have O1 := fun W => CO (-((q + 1 : Nat) : Int)) ((s.size : Int) + 1) W (by omega) (by omega) (by omega) (by omega)
  rw [FB (q + 1) (by omega)] at O1
  have HB : Hid (Below w.heap.size w w) := Below.refl _ _
  have HM : Hid (L.length = m) := hm
  clear hm hg
  by_cases hgt : q + 1 ≤ m
  · rw [if_pos hgt] at O1
    have hgt' : ¬ (m : Int) < ((q + 1 : Nat) : Int) := by omega
    have O2 := fun W => CO (((m - (q + 1) : Nat) : Int) + 1) 1 W (by omega) (by omega) (by omega) (by omega)
    rw [FF (m - (q + 1)) (by omega)] at O2
    have O3 := fun W => CO 0 ((en 0 (L.take (m - (q + 1))) + 1 : Nat) : Int) W (by omega) (by have := FL (m - (q + 1)); omega) (by omega) (by omega)
    rw [FZ] at O3
    clear FB FF FZ FL CO
    unfold oR at O1 O2 O3
    obtain ⟨hU, w1, w2, w3, w4, w5, w6, w7, hq0, w9a⟩ := HN.out
    have w9 := w9a hgt
    have w8 := H8.out
    clear w9a
    generalize ((en 0 (L.take (m - (q + 1))) + 1 : Nat) : Int) = P at *
    generalize ((m - (q + 1) : Nat) : Int) + 1 = D at *
    generalize ((q + 1 : Nat) : Int) = Q at *
    go_enter Try.func7, Try.ntmps7
    go_wp2_with (first
      | (go_at_call 13; refine (C0 _).mono ?_; rintro e w1 ⟨rfl, h1⟩; have HB : Hid (Below w.heap.size w w1) := (bthen HB.out HB.out.size h1))
      | (go_at_call 21; refine (C1 _).mono ?_; rintro e w1 ⟨rfl, h1⟩; have HB : Hid (Below w.heap.size w w1) := (bthen HB.out HB.out.size h1))
      | (go_at_call 23; refine (C2 _).mono ?_; rintro e w1 ⟨rfl, h1⟩; have HB : Hid (Below w.heap.size w w1) := (bthen HB.out HB.out.size h1)))
    refine (O1 _).mono ?_
    rintro e wx ⟨rfl, hwx⟩
    subst wx
    go_wp2_with fail
    refine (O2 _).mono ?_
    rintro e wx ⟨rfl, hwx⟩
    subst wx
    go_wp2_with fail
    refine (O3 _).mono ?_
    rintro e wx ⟨rfl, hwx⟩
    subst wx
    go_wp2
    go_ret
    exact ⟨rfl, HB.out⟩
  · rw [if_neg hgt] at O1
    have hgt' : (m : Int) < ((q + 1 : Nat) : Int) := by omega
    clear FB FF FZ FL CO
    unfold oR at O1
    obtain ⟨hU, w1, w2, w3, w4, w5, w6, w7, hq0, w9a⟩ := HN.out
    have w8 := H8.out
    clear w9a
    generalize ((q + 1 : Nat) : Int) = Q at *
    go_enter Try.func7, Try.ntmps7
    go_wp2_with (first
      | (go_at_call 13; refine (C0 _).mono ?_; rintro e w1 ⟨rfl, h1⟩; have HB : Hid (Below w.heap.size w w1) := (bthen HB.out HB.out.size h1))
      | (go_at_call 21; refine (C1 _).mono ?_; rintro e w1 ⟨rfl, h1⟩; have HB : Hid (Below w.heap.size w w1) := (bthen HB.out HB.out.size h1))
      | (go_at_call 23; refine (C2 _).mono ?_; rintro e w1 ⟨rfl, h1⟩; have HB : Hid (Below w.heap.size w w1) := (bthen HB.out HB.out.size h1)))
    refine (O1 _).mono ?_
    rintro e wx ⟨rfl, hwx⟩
    subst wx
    go_wp2
    go_ret
    exact ⟨rfl, HB.out⟩
set_option maxRecDepth 20000 in
set_option maxHeartbeats 2000000 in
theorem back_1 (s : ByteArray) (k : Int) (w : World) (h300 : s.size ≤ 300) (K : Nat) (hK : badOf (rest s 0) = (K : Int)) (hg : Good (s.extract 0 K) 0) (hx : (s.extract 0 K).size ≤ 300) :
    Calls Try.prog 7 #[.string s, .int .i64 k] w fun e w' => e = .returned (.bool true) ∧ Below w.heap.size w w' := by
  have C0 := fixed_any
  have h3 : ¬ (300 : Int) < (s.size : Int) := by omega
  have C1 := fun W => rbad_any s W (by omega)
  rw [hK] at C1
  have hKs : (K : Int) ≤ (s.size : Int) := by have := (good_cut hK).2; omega
  have hK0 : (0 : Int) ≤ (K : Int) := by omega
  obtain ⟨x, hxe⟩ : ∃ x, s.extract 0 K = x := ⟨_, rfl⟩
  rw [hxe] at hg hx
  have C2 := fun W => count_any x W (by omega)
  have CO : ∀ n i W, -9223372036854775808 ≤ i → i ≤ 9223372036854775807 → -9223372036854775808 ≤ n → n ≤ 9223372036854775807 → Calls Try.prog 17 #[.string x, .int .i64 n, .int .i64 i] W fun e w' => e = oR (ofs x n i) ∧ w' = W := fun n i W a b c d => offset_any x n i W (by omega) a b c d
  have hml := rest_le x
  have FB : ∀ k : Nat, 1 ≤ k → _ := fun k hk => ofs_back hg hk
  have FF : ∀ n : Nat, n ≤ (rest x 0).length → _ := fun n hn => ofs_fwd hg n hn
  have FZ : ∀ n : Nat, ofs x 0 ((en 0 ((rest x 0).take n) + 1 : Nat) : Int) = (((en 0 ((rest x 0).take n) + 1 : Nat) : Int), true, 0) := fun n => ofs_zero (en_take_le n) (good_take hg n)
  have FL : ∀ n : Nat, en 0 ((rest x 0).take n) ≤ x.size := fun n => en_take_le n
  obtain ⟨m, hm⟩ : ∃ m, (rest x 0).length = m := ⟨_, rfl⟩
  rw [hm] at C2 hml FB FF
  generalize (rest x 0) = L at *
  obtain ⟨U, q, hlt, HN⟩ := back_num k m (by omega)
  have H8 : Hid (IntKind.i64.wrap ((x.size : Int) + 1) = (x.size : Int) + 1) := wrap_small (by omega) (by omega)
  have O1 := fun W => CO (-((q + 1 : Nat) : Int)) ((x.size : Int) + 1) W (by omega) (by omega) (by omega) (by omega)
  rw [FB (q + 1) (by omega)] at O1
  have HB : Hid (Below w.heap.size w w) := Below.refl _ _
  have HM : Hid (L.length = m) := hm
  clear hm hg
  by_cases hgt : q + 1 ≤ m
  · rw [if_pos hgt] at O1
    have hgt' : ¬ (m : Int) < ((q + 1 : Nat) : Int) := by omega
    have O2 := fun W => CO (((m - (q + 1) : Nat) : Int) + 1) 1 W (by omega) (by omega) (by omega) (by omega)
    rw [FF (m - (q + 1)) (by omega)] at O2
    have O3 := fun W => CO 0 ((en 0 (L.take (m - (q + 1))) + 1 : Nat) : Int) W (by omega) (by have := FL (m - (q + 1)); omega) (by omega) (by omega)
    rw [FZ] at O3
    clear FB FF FZ FL CO
    unfold oR at O1 O2 O3
    obtain ⟨hU, w1, w2, w3, w4, w5, w6, w7, hq0, w9a⟩ := HN.out
    have w9 := w9a hgt
    have w8 := H8.out
    clear w9a
    generalize ((en 0 (L.take (m - (q + 1))) + 1 : Nat) : Int) = P at *
    generalize ((m - (q + 1) : Nat) : Int) + 1 = D at *
    generalize ((q + 1 : Nat) : Int) = Q at *
    go_enter Try.func7, Try.ntmps7
    go_wp2_with (first
      | (go_at_call 13; refine (C0 _).mono ?_; rintro e w1 ⟨rfl, h1⟩; have HB : Hid (Below w.heap.size w w1) := (bthen HB.out HB.out.size h1))
      | (go_at_call 21; refine (C1 _).mono ?_; rintro e w1 ⟨rfl, h1⟩; have HB : Hid (Below w.heap.size w w1) := (bthen HB.out HB.out.size h1))
      | (go_at_call 23; refine (C2 _).mono ?_; rintro e w1 ⟨rfl, h1⟩; have HB : Hid (Below w.heap.size w w1) := (bthen HB.out HB.out.size h1)))
    refine (O1 _).mono ?_
    rintro e wx ⟨rfl, hwx⟩
    subst wx
    go_wp2_with fail
    refine (O2 _).mono ?_
    rintro e wx ⟨rfl, hwx⟩
    subst wx
    go_wp2_with fail
    refine (O3 _).mono ?_
    rintro e wx ⟨rfl, hwx⟩
    subst wx
    go_wp2
    go_ret
    exact ⟨rfl, HB.out⟩
  · rw [if_neg hgt] at O1
    have hgt' : (m : Int) < ((q + 1 : Nat) : Int) := by omega
    clear FB FF FZ FL CO
    unfold oR at O1
    obtain ⟨hU, w1, w2, w3, w4, w5, w6, w7, hq0, w9a⟩ := HN.out
    have w8 := H8.out
    clear w9a
    generalize ((q + 1 : Nat) : Int) = Q at *
    go_enter Try.func7, Try.ntmps7
    go_wp2_with (first
      | (go_at_call 13; refine (C0 _).mono ?_; rintro e w1 ⟨rfl, h1⟩; have HB : Hid (Below w.heap.size w w1) := (bthen HB.out HB.out.size h1))
      | (go_at_call 21; refine (C1 _).mono ?_; rintro e w1 ⟨rfl, h1⟩; have HB : Hid (Below w.heap.size w w1) := (bthen HB.out HB.out.size h1))
      | (go_at_call 23; refine (C2 _).mono ?_; rintro e w1 ⟨rfl, h1⟩; have HB : Hid (Below w.heap.size w w1) := (bthen HB.out HB.out.size h1)))
    refine (O1 _).mono ?_
    rintro e wx ⟨rfl, hwx⟩
    subst wx
    go_wp2
    go_ret
    exact ⟨rfl, HB.out⟩
set_option maxRecDepth 20000 in
set_option maxHeartbeats 2000000 in
theorem back_2 (s : ByteArray) (k : Int) (w : World) (h300 : 300 < s.size) (hbd : badOf (rest (s.extract 0 300) 0) < 0) (hg : Good (s.extract 0 300) 0) (hx : (s.extract 0 300).size ≤ 300) :
    Calls Try.prog 7 #[.string s, .int .i64 k] w fun e w' => e = .returned (.bool true) ∧ Below w.heap.size w w' := by
  have C0 := fixed_any
  have h3 : (300 : Int) < (s.size : Int) := by omega
  have C1 := fun W => rbad_any (s.extract 0 300) W (by simp [ByteArray.size_extract]; omega)
  obtain ⟨Bd, hBd⟩ : ∃ Bd, badOf (rest (s.extract 0 300) 0) = Bd := ⟨_, rfl⟩
  rw [hBd] at C1 hbd
  have hK0 : ¬ (0 : Int) ≤ Bd := by omega
  clear hBd
  obtain ⟨y, hy⟩ : ∃ y, s.extract 0 300 = y := ⟨_, rfl⟩
  rw [hy] at C1 hg hx
  have C2 := fun W => count_any y W (by omega)
  have CO : ∀ n i W, -9223372036854775808 ≤ i → i ≤ 9223372036854775807 → -9223372036854775808 ≤ n → n ≤ 9223372036854775807 → Calls Try.prog 17 #[.string y, .int .i64 n, .int .i64 i] W fun e w' => e = oR (ofs y n i) ∧ w' = W := fun n i W a b c d => offset_any y n i W (by omega) a b c d
  have hml := rest_le y
  have FB : ∀ k : Nat, 1 ≤ k → _ := fun k hk => ofs_back hg hk
  have FF : ∀ n : Nat, n ≤ (rest y 0).length → _ := fun n hn => ofs_fwd hg n hn
  have FZ : ∀ n : Nat, ofs y 0 ((en 0 ((rest y 0).take n) + 1 : Nat) : Int) = (((en 0 ((rest y 0).take n) + 1 : Nat) : Int), true, 0) := fun n => ofs_zero (en_take_le n) (good_take hg n)
  have FL : ∀ n : Nat, en 0 ((rest y 0).take n) ≤ y.size := fun n => en_take_le n
  obtain ⟨m, hm⟩ : ∃ m, (rest y 0).length = m := ⟨_, rfl⟩
  rw [hm] at C2 hml FB FF
  generalize (rest y 0) = L at *
  obtain ⟨U, q, hlt, HN⟩ := back_num k m (by omega)
  have H8 : Hid (IntKind.i64.wrap ((y.size : Int) + 1) = (y.size : Int) + 1) := wrap_small (by omega) (by omega)
  have O1 := fun W => CO (-((q + 1 : Nat) : Int)) ((y.size : Int) + 1) W (by omega) (by omega) (by omega) (by omega)
  rw [FB (q + 1) (by omega)] at O1
  have HB : Hid (Below w.heap.size w w) := Below.refl _ _
  have HM : Hid (L.length = m) := hm
  clear hm hg
  by_cases hgt : q + 1 ≤ m
  · rw [if_pos hgt] at O1
    have hgt' : ¬ (m : Int) < ((q + 1 : Nat) : Int) := by omega
    have O2 := fun W => CO (((m - (q + 1) : Nat) : Int) + 1) 1 W (by omega) (by omega) (by omega) (by omega)
    rw [FF (m - (q + 1)) (by omega)] at O2
    have O3 := fun W => CO 0 ((en 0 (L.take (m - (q + 1))) + 1 : Nat) : Int) W (by omega) (by have := FL (m - (q + 1)); omega) (by omega) (by omega)
    rw [FZ] at O3
    clear FB FF FZ FL CO
    unfold oR at O1 O2 O3
    obtain ⟨hU, w1, w2, w3, w4, w5, w6, w7, hq0, w9a⟩ := HN.out
    have w9 := w9a hgt
    have w8 := H8.out
    clear w9a
    generalize ((en 0 (L.take (m - (q + 1))) + 1 : Nat) : Int) = P at *
    generalize ((m - (q + 1) : Nat) : Int) + 1 = D at *
    generalize ((q + 1 : Nat) : Int) = Q at *
    go_enter Try.func7, Try.ntmps7
    go_wp2_with (first
      | (go_at_call 13; refine (C0 _).mono ?_; rintro e w1 ⟨rfl, h1⟩; have HB : Hid (Below w.heap.size w w1) := (bthen HB.out HB.out.size h1))
      | (go_at_call 21; refine (C1 _).mono ?_; rintro e w1 ⟨rfl, h1⟩; have HB : Hid (Below w.heap.size w w1) := (bthen HB.out HB.out.size h1))
      | (go_at_call 23; refine (C2 _).mono ?_; rintro e w1 ⟨rfl, h1⟩; have HB : Hid (Below w.heap.size w w1) := (bthen HB.out HB.out.size h1)))
    refine (O1 _).mono ?_
    rintro e wx ⟨rfl, hwx⟩
    subst wx
    go_wp2_with fail
    refine (O2 _).mono ?_
    rintro e wx ⟨rfl, hwx⟩
    subst wx
    go_wp2_with fail
    refine (O3 _).mono ?_
    rintro e wx ⟨rfl, hwx⟩
    subst wx
    go_wp2
    go_ret
    exact ⟨rfl, HB.out⟩
  · rw [if_neg hgt] at O1
    have hgt' : (m : Int) < ((q + 1 : Nat) : Int) := by omega
    clear FB FF FZ FL CO
    unfold oR at O1
    obtain ⟨hU, w1, w2, w3, w4, w5, w6, w7, hq0, w9a⟩ := HN.out
    have w8 := H8.out
    clear w9a
    generalize ((q + 1 : Nat) : Int) = Q at *
    go_enter Try.func7, Try.ntmps7
    go_wp2_with (first
      | (go_at_call 13; refine (C0 _).mono ?_; rintro e w1 ⟨rfl, h1⟩; have HB : Hid (Below w.heap.size w w1) := (bthen HB.out HB.out.size h1))
      | (go_at_call 21; refine (C1 _).mono ?_; rintro e w1 ⟨rfl, h1⟩; have HB : Hid (Below w.heap.size w w1) := (bthen HB.out HB.out.size h1))
      | (go_at_call 23; refine (C2 _).mono ?_; rintro e w1 ⟨rfl, h1⟩; have HB : Hid (Below w.heap.size w w1) := (bthen HB.out HB.out.size h1)))
    refine (O1 _).mono ?_
    rintro e wx ⟨rfl, hwx⟩
    subst wx
    go_wp2
    go_ret
    exact ⟨rfl, HB.out⟩
set_option maxRecDepth 20000 in
set_option maxHeartbeats 2000000 in
theorem back_3 (s : ByteArray) (k : Int) (w : World) (h300 : 300 < s.size) (K : Nat) (hK : badOf (rest (s.extract 0 300) 0) = (K : Int)) (hg : Good ((s.extract 0 300).extract 0 K) 0) (hx : ((s.extract 0 300).extract 0 K).size ≤ 300) :
    Calls Try.prog 7 #[.string s, .int .i64 k] w fun e w' => e = .returned (.bool true) ∧ Below w.heap.size w w' := by
  have C0 := fixed_any
  have h3 : (300 : Int) < (s.size : Int) := by omega
  have C1 := fun W => rbad_any (s.extract 0 300) W (by simp [ByteArray.size_extract]; omega)
  rw [hK] at C1
  have hKs : (K : Int) ≤ ((s.extract 0 300).size : Int) := by have := (good_cut hK).2; omega
  have hK0 : (0 : Int) ≤ (K : Int) := by omega
  obtain ⟨y, hy⟩ : ∃ y, s.extract 0 300 = y := ⟨_, rfl⟩
  rw [hy] at C1 hg hx hKs
  clear hK
  obtain ⟨x, hxe⟩ : ∃ x, y.extract 0 K = x := ⟨_, rfl⟩
  rw [hxe] at hg hx
  have C2 := fun W => count_any x W (by omega)
  have CO : ∀ n i W, -9223372036854775808 ≤ i → i ≤ 9223372036854775807 → -9223372036854775808 ≤ n → n ≤ 9223372036854775807 → Calls Try.prog 17 #[.string x, .int .i64 n, .int .i64 i] W fun e w' => e = oR (ofs x n i) ∧ w' = W := fun n i W a b c d => offset_any x n i W (by omega) a b c d
  have hml := rest_le x
  have FB : ∀ k : Nat, 1 ≤ k → _ := fun k hk => ofs_back hg hk
  have FF : ∀ n : Nat, n ≤ (rest x 0).length → _ := fun n hn => ofs_fwd hg n hn
  have FZ : ∀ n : Nat, ofs x 0 ((en 0 ((rest x 0).take n) + 1 : Nat) : Int) = (((en 0 ((rest x 0).take n) + 1 : Nat) : Int), true, 0) := fun n => ofs_zero (en_take_le n) (good_take hg n)
  have FL : ∀ n : Nat, en 0 ((rest x 0).take n) ≤ x.size := fun n => en_take_le n
  obtain ⟨m, hm⟩ : ∃ m, (rest x 0).length = m := ⟨_, rfl⟩
  rw [hm] at C2 hml FB FF
  generalize (rest x 0) = L at *
  obtain ⟨U, q, hlt, HN⟩ := back_num k m (by omega)
  have H8 : Hid (IntKind.i64.wrap ((x.size : Int) + 1) = (x.size : Int) + 1) := wrap_small (by omega) (by omega)
  have O1 := fun W => CO (-((q + 1 : Nat) : Int)) ((x.size : Int) + 1) W (by omega) (by omega) (by omega) (by omega)
  rw [FB (q + 1) (by omega)] at O1
  have HB : Hid (Below w.heap.size w w) := Below.refl _ _
  have HM : Hid (L.length = m) := hm
  clear hm hg
  by_cases hgt : q + 1 ≤ m
  · rw [if_pos hgt] at O1
    have hgt' : ¬ (m : Int) < ((q + 1 : Nat) : Int) := by omega
    have O2 := fun W => CO (((m - (q + 1) : Nat) : Int) + 1) 1 W (by omega) (by omega) (by omega) (by omega)
    rw [FF (m - (q + 1)) (by omega)] at O2
    have O3 := fun W => CO 0 ((en 0 (L.take (m - (q + 1))) + 1 : Nat) : Int) W (by omega) (by have := FL (m - (q + 1)); omega) (by omega) (by omega)
    rw [FZ] at O3
    clear FB FF FZ FL CO
    unfold oR at O1 O2 O3
    obtain ⟨hU, w1, w2, w3, w4, w5, w6, w7, hq0, w9a⟩ := HN.out
    have w9 := w9a hgt
    have w8 := H8.out
    clear w9a
    generalize ((en 0 (L.take (m - (q + 1))) + 1 : Nat) : Int) = P at *
    generalize ((m - (q + 1) : Nat) : Int) + 1 = D at *
    generalize ((q + 1 : Nat) : Int) = Q at *
    go_enter Try.func7, Try.ntmps7
    go_wp2_with (first
      | (go_at_call 13; refine (C0 _).mono ?_; rintro e w1 ⟨rfl, h1⟩; have HB : Hid (Below w.heap.size w w1) := (bthen HB.out HB.out.size h1))
      | (go_at_call 21; refine (C1 _).mono ?_; rintro e w1 ⟨rfl, h1⟩; have HB : Hid (Below w.heap.size w w1) := (bthen HB.out HB.out.size h1))
      | (go_at_call 23; refine (C2 _).mono ?_; rintro e w1 ⟨rfl, h1⟩; have HB : Hid (Below w.heap.size w w1) := (bthen HB.out HB.out.size h1)))
    refine (O1 _).mono ?_
    rintro e wx ⟨rfl, hwx⟩
    subst wx
    go_wp2_with fail
    refine (O2 _).mono ?_
    rintro e wx ⟨rfl, hwx⟩
    subst wx
    go_wp2_with fail
    refine (O3 _).mono ?_
    rintro e wx ⟨rfl, hwx⟩
    subst wx
    go_wp2
    go_ret
    exact ⟨rfl, HB.out⟩
  · rw [if_neg hgt] at O1
    have hgt' : (m : Int) < ((q + 1 : Nat) : Int) := by omega
    clear FB FF FZ FL CO
    unfold oR at O1
    obtain ⟨hU, w1, w2, w3, w4, w5, w6, w7, hq0, w9a⟩ := HN.out
    have w8 := H8.out
    clear w9a
    generalize ((q + 1 : Nat) : Int) = Q at *
    go_enter Try.func7, Try.ntmps7
    go_wp2_with (first
      | (go_at_call 13; refine (C0 _).mono ?_; rintro e w1 ⟨rfl, h1⟩; have HB : Hid (Below w.heap.size w w1) := (bthen HB.out HB.out.size h1))
      | (go_at_call 21; refine (C1 _).mono ?_; rintro e w1 ⟨rfl, h1⟩; have HB : Hid (Below w.heap.size w w1) := (bthen HB.out HB.out.size h1))
      | (go_at_call 23; refine (C2 _).mono ?_; rintro e w1 ⟨rfl, h1⟩; have HB : Hid (Below w.heap.size w w1) := (bthen HB.out HB.out.size h1)))
    refine (O1 _).mono ?_
    rintro e wx ⟨rfl, hwx⟩
    subst wx
    go_wp2
    go_ret
    exact ⟨rfl, HB.out⟩
theorem back_walk (s : ByteArray) (k : Int) (w : World) : Calls Try.prog 7 #[.string s, .int .i64 k] w fun e w' => e = .returned (.bool true) ∧ Below w.heap.size w w' := by
  by_cases h : s.size ≤ 300
  · by_cases hb : badOf (rest s 0) < 0
    · exact back_0 s k w h hb (nobad_good hb) h
    · have hK : badOf (rest s 0) = ((badOf (rest s 0)).toNat : Int) := by omega
      have q := good_cut hK
      exact back_1 s k w h _ hK q.1 (by simp [ByteArray.size_extract]; omega)
  · have z : (s.extract 0 300).size = 300 := by simp [ByteArray.size_extract]; omega
    by_cases hb : badOf (rest (s.extract 0 300) 0) < 0
    · exact back_2 s k w (by omega) hb (nobad_good hb) (by omega)
    · have hK : badOf (rest (s.extract 0 300) 0) = ((badOf (rest (s.extract 0 300) 0)).toNat : Int) := by omega
      have q := good_cut hK
      exact back_3 s k w (by omega) _ hK q.1 (by rw [ByteArray.size_extract]; omega)
end Go.Proofs.Ytbgbhogcjaodkaa
