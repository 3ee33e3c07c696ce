/- The walk of the reference's Encode. -/
import Derived.Test.YtlgkfhipobdcfaaGreatDoorCg01
import Derived.Laws.BytesArg
import Derived.Test.YtlgkfhipobdcfaaGreatDoorCg03
namespace Go.Proofs.YtlgkfhipobdcfaaGreatDoor
open Go.RowKit

def byN (r : Int) : Int := if r < 128 then 1 else if r < 2048 then 2 else if r < 65536 then 3 else 4
set_option maxHeartbeats 400000 in
theorem bytes_any (r : Int) (w : World) : Calls Tryz.prog 69 #[.int .i64 r] w fun e w' => e = .returned (.int .i64 (byN r)) ∧ w' = w := by
  go_enter Tryz.func69, Tryz.ntmps69
  go_wp2
  all_goals (go_ret; exact ⟨ret1 (by unfold byN; (repeat' split) <;> omega), rfl⟩)

theorem conv_new (xs : List Int) (n : Nat) (hn : xs.length = n) (W : World) : (convert 72 9 (.slice (some ⟨W.heap.size, 0, none⟩) n n)).run Tryz.prog (W.alloc (.cells (xs.map (Value.int .u8)).toArray 5)) = .ok (.string (strOfNums xs)) (W.alloc (.cells (xs.map (Value.int .u8)).toArray 5)) := by
  refine run_convert_bytes_arg _ 72 5 Tryz.underlying72 Tryz.underlying5 W.heap.size 0 n n xs hn (fun i hi => ?_) 9 Tryz.underlying9
  rw [Nat.zero_add]
  exact (new_cell W (xs.map (Value.int .u8)) 5 i _ (by simp [List.getElem?_eq_getElem (show i < xs.length by omega), List.getD])).1

set_option maxHeartbeats 1000000 in
theorem renc1 (r : Int) (w : World) (he : encB r = true) (h0 : 0 ≤ r) (h : r < 128) : Calls Tryz.prog 108 #[.int .i64 r] w fun e w' => e = .returned (.tuple #[.string (strOfNums [r]), .int .i64 0]) ∧ Below w.heap.size w w' := by
  have hn : byN r = 1 := by unfold byN; simp [h]
  have hcv := fun W => conv_new [r] 1 rfl W
  simp only [List.map_cons, List.map_nil] at hcv
  go_enter Tryz.func108, Tryz.ntmps108
  go_wp2_with (first | (go_at_call 68; refine (good_any _ _).mono ?_; rintro e w' ⟨rfl, rfl⟩) | (go_at_call 69; refine (bytes_any _ _).mono ?_; rintro e w' ⟨rfl, rfl⟩))
  go_ret2
  exact ⟨rfl, (Below.refl _ _).alloc (Nat.le_refl _) _⟩

set_option maxHeartbeats 1000000 in
theorem renc2 (r : Int) (w : World) (he : encB r = true) (h0 : 128 ≤ r) (h : r < 2048) : Calls Tryz.prog 108 #[.int .i64 r] w fun e w' => e = .returned (.tuple #[.string (strOfNums [192 + r / 64, 128 + r % 64]), .int .i64 0]) ∧ Below w.heap.size w w' := by
  have hn : byN r = 2 := by unfold byN; rw [if_neg (by omega), if_pos h]
  have hmk : ∀ w, (Instr.makeSlice 72 (.int .i64 2) (.int .i64 2)).run Tryz.prog w = .ok (.slice (some ⟨w.heap.size, 0, none⟩) 2 2) (w.alloc (.cells #[.int .u8 0, .int .u8 0] 5)) := fun _ => by kernel_rfl
  have hcv := fun a b W => conv_new [a, b] 2 rfl W
  simp only [List.map_cons, List.map_nil] at hcv
  go_enter Tryz.func108, Tryz.ntmps108
  go_wp2_with (first | (go_at_call 68; refine (good_any _ _).mono ?_; rintro e w' ⟨rfl, rfl⟩) | (go_at_call 69; refine (bytes_any _ _).mono ?_; rintro e w' ⟨rfl, rfl⟩))
  refine wp_loop_rounds 2 ?_
  rw [rounds_succ]
  go_wp2
  rw [rounds_succ]
  go_wp2
  go_ret2
  exact ⟨rfl, (Below.refl _ _).alloc (Nat.le_refl _) _⟩

set_option maxHeartbeats 1000000 in
theorem renc3 (r : Int) (w : World) (he : encB r = true) (h0 : 2048 ≤ r) (h : r < 65536) : Calls Tryz.prog 108 #[.int .i64 r] w fun e w' => e = .returned (.tuple #[.string (strOfNums [224 + r / 64 / 64, 128 + r / 64 % 64, 128 + r % 64]), .int .i64 0]) ∧ Below w.heap.size w w' := by
  have hn : byN r = 3 := by unfold byN; rw [if_neg (by omega), if_neg (by omega), if_pos h]
  have hmk : ∀ w, (Instr.makeSlice 72 (.int .i64 3) (.int .i64 3)).run Tryz.prog w = .ok (.slice (some ⟨w.heap.size, 0, none⟩) 3 3) (w.alloc (.cells #[.int .u8 0, .int .u8 0, .int .u8 0] 5)) := fun _ => by kernel_rfl
  have hcv := fun a b c W => conv_new [a, b, c] 3 rfl W
  simp only [List.map_cons, List.map_nil] at hcv
  go_enter Tryz.func108, Tryz.ntmps108
  go_wp2_with (first | (go_at_call 68; refine (good_any _ _).mono ?_; rintro e w' ⟨rfl, rfl⟩) | (go_at_call 69; refine (bytes_any _ _).mono ?_; rintro e w' ⟨rfl, rfl⟩))
  refine wp_loop_rounds 3 ?_
  rw [rounds_succ]
  go_wp2
  rw [rounds_succ]
  go_wp2
  rw [rounds_succ]
  go_wp2
  go_ret2
  exact ⟨rfl, (Below.refl _ _).alloc (Nat.le_refl _) _⟩

set_option maxHeartbeats 1000000 in
theorem renc4 (r : Int) (w : World) (he : encB r = true) (h0 : 65536 ≤ r) (h : r ≤ 1114111) : Calls Tryz.prog 108 #[.int .i64 r] w fun e w' => e = .returned (.tuple #[.string (strOfNums [240 + r / 64 / 64 / 64, 128 + r / 64 / 64 % 64, 128 + r / 64 % 64, 128 + r % 64]), .int .i64 0]) ∧ Below w.heap.size w w' := by
  have hn : byN r = 4 := by unfold byN; rw [if_neg (by omega), if_neg (by omega), if_neg (by omega)]
  have hmk : ∀ w, (Instr.makeSlice 72 (.int .i64 4) (.int .i64 4)).run Tryz.prog w = .ok (.slice (some ⟨w.heap.size, 0, none⟩) 4 4) (w.alloc (.cells #[.int .u8 0, .int .u8 0, .int .u8 0, .int .u8 0] 5)) := fun _ => by kernel_rfl
  have hcv := fun a b c d W => conv_new [a, b, c, d] 4 rfl W
  simp only [List.map_cons, List.map_nil] at hcv
  go_enter Tryz.func108, Tryz.ntmps108
  go_wp2_with (first | (go_at_call 68; refine (good_any _ _).mono ?_; rintro e w' ⟨rfl, rfl⟩) | (go_at_call 69; refine (bytes_any _ _).mono ?_; rintro e w' ⟨rfl, rfl⟩))
  refine wp_loop_rounds 4 ?_
  rw [rounds_succ]
  go_wp2
  rw [rounds_succ]
  go_wp2
  rw [rounds_succ]
  go_wp2
  rw [rounds_succ]
  go_wp2
  go_ret2
  exact ⟨rfl, (Below.refl _ _).alloc (Nat.le_refl _) _⟩

end Go.Proofs.YtlgkfhipobdcfaaGreatDoor

/- The walks of the program's escapes: what an escape stands for. -/
namespace Go.Proofs.YtlgkfhipobdcfaaGreatDoor
open Go.RowKit

theorem str_one (n : Nat) : strOfNums [(n : Int)] = ⟨#[UInt8.ofNat n]⟩ := by simp [strOfNums]

set_option maxHeartbeats 1000000 in
theorem oneByte_any (n : Nat) (w : World) (h : n ≤ 255) : Calls Tryz.prog 156 #[.int .i64 n] w fun e w' => e = .returned (.string ⟨#[UInt8.ofNat n]⟩) ∧ Below w.heap.size w w' := by
  have hcv := fun W => conv_new [(n : Int)] 1 rfl W
  simp only [List.map_cons, List.map_nil] at hcv
  rw [str_one] at hcv
  go_enter Tryz.func156, Tryz.ntmps156
  go_wp2
  go_ret
  exact ⟨rfl, (Below.refl _ _).alloc (Nat.le_refl _) _⟩

theorem ret_si' {a b : ByteArray} {c d : Int} (h : a = b) (h' : c = d) : Ending.returned (.tuple #[.string a, .int .i64 c]) = .returned (.tuple #[.string b, .int .i64 d]) := by rw [h, h']
/-- An escape's answer. -/
def ansE (x : List UInt8 × Nat) : Value := .tuple #[.string ⟨x.1.toArray⟩, .int .i64 x.2]

theorem spn_digN (s : ByteArray) : (s.extract 0 (min (spn digN s.data.toList) 3)).data.toList = dgs 3 s.data.toList := by
  rw [dgs_take]; simp

set_option maxHeartbeats 1000000 in
theorem decimal_any (s : ByteArray) (w : World) (hs : s.size ≤ maxLen) : Calls Tryz.prog 150 #[.string s] w fun e w' => e = .returned (ansE (escD s.data.toList)) ∧ Below w.heap.size w w' := by
  have hs' := hs
  unfold maxLen at hs'
  have hle := spn_le digN s.data.toList
  rw [Array.length_toList] at hle
  have hle' : spn digN s.data.toList ≤ s.size := hle
  clear hle
  have hd := spn_digN s
  obtain ⟨k, hk⟩ : ∃ k, spn digN s.data.toList = k := ⟨_, rfl⟩
  have C1 := span_any s 135 digN enters62 (fun r w hr => isDigit_any r w hr) w (by omega)
  rw [hk] at C1 hle' hd
  obtain ⟨p1, p2⟩ := par_dec (dgs 3 s.data.toList) (dgs_all _ _) (dgs_len _ _)
  obtain ⟨x, hx⟩ : ∃ x, s.extract 0 (min k 3) = x := ⟨_, rfl⟩
  rw [hx] at hd
  have hxs : x.size ≤ maxLen := by rw [← hx, ByteArray.size_extract]; unfold maxLen; omega
  have C2 := fun w => W.parse_any x w hxs
  rw [hd] at C2
  have hlen : ((dgs 3 s.data.toList).length : Int) = (min k 3 : Nat) := by
    have := congrArg List.length hd
    rw [← this, ← hx]; simp; omega
  clear hk
  have hmin : min (k : Int) 3 = ((min k 3 : Nat) : Int) := by omega
  obtain ⟨q, hq⟩ : ∃ q : Nat, min k 3 = q := ⟨_, rfl⟩
  rw [hq] at hx hlen hmin
  have hq1 : q ≤ s.size := by omega
  have hq2 : q ≤ 3 := by omega
  clear hq hd
  unfold ansE escD
  by_cases hn : dgs 3 s.data.toList = []
  · rw [p1 hn] at C2
    rw [if_pos (.inl hn)]
    clear p1 p2 hn hlen
    go_enter Tryz.func150, Tryz.ntmps150
    go_wp2_with (first | (go_at_call 85; refine C1.mono ?_; rintro e w1 ⟨rfl, hb⟩) | (go_at_call 122; refine (C2 _).mono ?_; rintro e w' ⟨rfl, rfl⟩))
    go_ret2
    exact ⟨rfl, hb⟩
  · obtain ⟨e1, e2, e3⟩ := p2 hn
    rw [e1, e2] at C2
    obtain ⟨v, hv⟩ : ∃ v, W.dv (dgs 3 s.data.toList) = v := ⟨_, rfl⟩
    rw [hv] at C2 e3 ⊢
    by_cases h255 : 255 < v
    · rw [if_pos (.inr h255)]
      clear p1 p2 hn hlen e1 e2 hv
      go_enter Tryz.func150, Tryz.ntmps150
      go_wp2_with (first | (go_at_call 85; refine C1.mono ?_; rintro e w1 ⟨rfl, hb⟩) | (go_at_call 122; refine (C2 _).mono ?_; rintro e w' ⟨rfl, rfl⟩))
      go_ret2
      exact ⟨rfl, hb⟩
    · have e4 : ((dgs 3 s.data.toList).length : Int) = q := hlen
      rw [if_neg (by intro h; rcases h with h | h; exact hn h; exact h255 h)]
      have C3 := fun w => oneByte_any v w (by omega)
      clear p1 p2 hn hlen e1 e2 hv
      go_enter Tryz.func150, Tryz.ntmps150
      go_wp2_with (first | (go_at_call 85; refine C1.mono ?_; rintro e w1 ⟨rfl, hb⟩) | (go_at_call 122; refine (C2 _).mono ?_; rintro e w' ⟨rfl, rfl⟩) | (go_at_call 156; refine (C3 _).mono ?_; rintro e w2 ⟨rfl, hb2⟩))
      go_ret2
      exact ⟨ret_si' rfl (by omega), hb.trans (hb2.mono hb.size)⟩

theorem app_data (a b : ByteArray) : (a ++ b).data.toList = a.data.toList ++ b.data.toList := by simp
theorem split3 (s : ByteArray) (h : 3 ≤ s.size) : ∃ a b t, s.data.toList.drop 1 = a :: b :: t ∧ (s.extract 1 3).data.toList = [a, b] := by
  obtain ⟨⟨l⟩⟩ := s
  match l, h with
  | c :: a :: b :: t, _ => exact ⟨a, b, t, rfl, by simp⟩

set_option maxHeartbeats 1000000 in
theorem hexa_any (s : ByteArray) (w : World) (hs : s.size ≤ maxLen) : Calls Tryz.prog 148 #[.string s] w fun e w' => e = .returned (ansE (escX (s.data.toList.drop 1))) ∧ Below w.heap.size w w' := by
  have hs' := hs
  unfold maxLen at hs'
  unfold ansE escX
  by_cases h3 : s.size < 3
  · rw [if_neg (hxs_short _ (by rw [List.length_drop, Array.length_toList]; show s.size - 1 < 2; omega))]
    go_enter Tryz.func148, Tryz.ntmps148
    go_wp2
    go_ret2
    exact ⟨rfl, Below.refl _ _⟩
  · obtain ⟨a, b, t, e1, e2⟩ := split3 s (by omega)
    rw [e1]
    have H2 := hxs_two a b t
    obtain ⟨x, hx⟩ : ∃ x, s.extract 1 3 = x := ⟨_, rfl⟩
    have hz : x.size = 2 := by rw [← hx, ByteArray.size_extract]; omega
    rw [hx] at e2
    have C2 := fun w => W.parse_any (⟨#[48, 120]⟩ ++ x) w (by rw [ByteArray.size_append, hz]; decide)
    rw [app_data, e2] at C2
    obtain ⟨p1, p2⟩ := par_hex8 [a, b] (by simp)
    simp only [List.cons_append, List.nil_append] at C2
    cases ha : W.allHex [a, b]
    · rw [p1 (.inr ha)] at C2
      rw [if_neg (fun h => by rw [H2.1 h] at ha; cases ha)]
      clear p1 p2 e1 e2 H2
      go_enter Tryz.func148, Tryz.ntmps148
      go_wp2_with (go_at_call 122; refine (C2 _).mono ?_; rintro e w' ⟨rfl, rfl⟩)
      go_ret2
      exact ⟨rfl, Below.refl _ _⟩
    · obtain ⟨q1, q2⟩ := p2 (by simp) ha
      rw [q1, q2] at C2
      rw [if_pos (H2.2 ha), hxs_two_eq a b t ha]
      have hb := hv_lt 2 [a, b] (by simp) (by simp)
      have hb0 := (W.hv_bound [a, b]).1
      obtain ⟨v, hv⟩ : ∃ v : Nat, W.hv [a, b] = v := ⟨(W.hv [a, b]).toNat, by omega⟩
      rw [hv] at C2 hb ⊢
      have C3 := fun w => oneByte_any v w (by simp at hb; omega)
      clear p1 p2 e1 e2 q1 q2 hb hb0 hv H2
      go_enter Tryz.func148, Tryz.ntmps148
      go_wp2_with (first | (go_at_call 122; refine (C2 _).mono ?_; rintro e w' ⟨rfl, rfl⟩) | (go_at_call 156; refine (C3 _).mono ?_; rintro e w2 ⟨rfl, hb2⟩))
      go_ret2
      exact ⟨ret_si' rfl rfl, hb2⟩


theorem ix_brace (v : List UInt8) : Lib.indexByte (117 :: 123 :: v) 125 = if Lib.indexByte v 125 = -1 then -1 else Lib.indexByte v 125 + 2 := by
  have h := Lib.indexByte_ge v 125
  simp only [Lib.indexByte]
  by_cases h1 : Lib.indexByte v 125 = -1
  · simp [h1]
  · simp [h1]
    split
    · omega
    · omega

set_option maxHeartbeats 2000000 in
theorem codePoint_any (s : ByteArray) (u : List UInt8) (w : World) (hs : s.size ≤ maxLen) (hu : s.data.toList = 117 :: u) : Calls Tryz.prog 149 #[.string s] w fun e w' => e = .returned (ansE (escU u)) ∧ Below w.heap.size w w' := by
  have hs' := hs
  unfold maxLen at hs'
  have CI := fun w => Tryz.strings_IndexByte s 125 w
  have CP := fun w => Tryz.strings_HasPrefix s ⟨#[117, 123]⟩ w
  have e125 : ((125 : Int).toNat.toUInt8) = 125 := by decide
  rw [e125, hu] at CI
  rw [hu] at CP
  unfold ansE escU
  by_cases h1 : u.headD 0 = 123
  · obtain ⟨v, rfl⟩ : ∃ v, u = 123 :: v := by
      cases u with
      | nil => exact absurd h1 (by decide)
      | cons a v => simp at h1; exact ⟨v, by rw [h1]⟩
    have hp : Lib.hasPrefix (117 :: 123 :: v) [117, 123] = true := by simp [Lib.hasPrefix, List.isPrefixOf]
    rw [show (⟨#[117, 123]⟩ : ByteArray).data.toList = [117, 123] from rfl, hp] at CP
    have hge := Lib.indexByte_ge v 125
    rw [ix_brace] at CI
    simp only [List.drop_succ_cons, List.drop_zero]
    by_cases h2 : Lib.indexByte v 125 = -1
    · rw [if_pos h2] at CI
      rw [if_neg (by rintro ⟨_, _, _, h⟩; rw [Nat.add_comm, List.drop_succ_cons] at h; exact no_brace v _ (Lib.indexByte_none h2 _) h)]
      clear hu h1 hp
      go_enter Tryz.func149, Tryz.ntmps149
      go_wp2_with (first | (go_at_call 138; refine (CI _).mono ?_; rintro e w' ⟨rfl, rfl⟩) | (go_at_call 84; refine (CP _).mono ?_; rintro e w' ⟨rfl, rfl⟩))
      go_ret2
      exact ⟨rfl, Below.refl _ _⟩
    · rw [if_neg h2] at CI
      obtain ⟨k, hk⟩ : ∃ k : Nat, Lib.indexByte v 125 = k := ⟨(Lib.indexByte v 125).toNat, by omega⟩
      rw [hk] at CI
      obtain ⟨b1, b2⟩ := Lib.indexByte_some hk
      by_cases h8 : 8 < k
      · rw [if_neg (by rintro ⟨_, _, _, h⟩; rw [Nat.add_comm, List.drop_succ_cons] at h; exact no_brace v _ (b2 _ (by have := hxs_len 8 v; omega)) h)]
        clear hu h1 hp hk h2 b1 b2
        go_enter Tryz.func149, Tryz.ntmps149
        go_wp2_with (first | (go_at_call 138; refine (CI _).mono ?_; rintro e w' ⟨rfl, rfl⟩) | (go_at_call 84; refine (CP _).mono ?_; rintro e w' ⟨rfl, rfl⟩))
        go_ret2
        exact ⟨rfl, Below.refl _ _⟩
      · have hkl : k < v.length := by
          rcases Nat.lt_or_ge k v.length with h | h
          · exact h
          · rw [List.getElem?_eq_none h] at b1; cases b1
        have hsz : s.size = v.length + 2 := by
          have := congrArg List.length hu
          rw [Array.length_toList] at this
          simp at this
          exact this
        obtain ⟨x, hx⟩ : ∃ x, s.extract 2 (k + 2) = x := ⟨_, rfl⟩
        have hz : x.size ≤ 8 := by rw [← hx, ByteArray.size_extract]; omega
        have hxl : x.data.toList = v.take k := by
          rw [← hx]
          have : (s.extract 2 (k + 2)).data.toList = (s.data.toList.drop 2).take k := by simp
          rw [this, hu]; rfl
        obtain ⟨p1, p2⟩ := par_hex8 (v.take k) (by rw [List.length_take]; omega)
        obtain ⟨g1, g2⟩ := hxs_brace v k (by omega) b1 b2
        have C2 := fun w => W.parse_any (⟨#[48, 120]⟩ ++ x) w (by rw [ByteArray.size_append]; unfold maxLen; have : (⟨#[48, 120]⟩ : ByteArray).size = 2 := rfl; omega)
        rw [app_data, hxl] at C2
        simp only [List.cons_append, List.nil_append] at C2
        by_cases hne : v.take k = [] ∨ W.allHex (v.take k) = false
        · rw [p1 hne] at C2
          rw [if_neg (by
            rintro ⟨_, h5, _, h⟩
            rw [Nat.add_comm, List.drop_succ_cons] at h
            rcases hne with hne | hne
            · apply h5; rw [g1 (by rw [hne]; rfl)]; exact hne
            · exact g2 hne h)]
          clear hu h1 hp hk h2 b1 b2 p1 p2 g1 g2 hxl
          go_enter Tryz.func149, Tryz.ntmps149
          go_wp2_with (first | (go_at_call 138; refine (CI _).mono ?_; rintro e w' ⟨rfl, rfl⟩) | (go_at_call 84; refine (CP _).mono ?_; rintro e w' ⟨rfl, rfl⟩) | (go_at_call 122; refine (C2 _).mono ?_; rintro e w' ⟨rfl, rfl⟩))
          go_ret2
          exact ⟨rfl, Below.refl _ _⟩
        · have hne1 : v.take k ≠ [] := fun h => hne (.inl h)
          have hne2 : W.allHex (v.take k) = true := by cases h : W.allHex (v.take k); exact absurd (.inr h) hne; rfl
          obtain ⟨q1, q2⟩ := p2 hne1 hne2
          rw [q1, q2] at C2
          rw [g1 hne2]
          have hl : (v.take k).length = k := by rw [List.length_take]; omega
          have hd : (v.drop k).headD 0 = 125 := by
            rw [List.getElem?_eq_getElem hkl] at b1
            rw [List.drop_eq_getElem_cons hkl, Option.some.inj b1]; rfl
          rw [hl]
          have hd' : ((123 :: v).drop (1 + k)).headD 0 = 125 := by rw [Nat.add_comm, List.drop_succ_cons]; exact hd
          obtain ⟨r, hr⟩ : ∃ r, W.hv (v.take k) = r := ⟨_, rfl⟩
          rw [hr] at C2 ⊢
          have C4 := fun w => encode_any r w
          cases he : encB r
          · have e1 : encE r = 3 := by simp [encE, he]
            rw [e1] at C4
            rw [if_neg (by rintro ⟨_, _, h, _⟩; exact Bool.false_ne_true h)]
            clear hu h1 hp hk h2 b1 b2 p1 p2 g1 g2 hxl q1 q2 hd hd' hl hr e1 hne
            go_enter Tryz.func149, Tryz.ntmps149
            go_wp2_with (first | (go_at_call 138; refine (CI _).mono ?_; rintro e w' ⟨rfl, rfl⟩) | (go_at_call 84; refine (CP _).mono ?_; rintro e w' ⟨rfl, rfl⟩) | (go_at_call 122; refine (C2 _).mono ?_; rintro e w' ⟨rfl, rfl⟩) | (go_at_call 157; refine (C4 _).mono ?_; rintro e w' ⟨rfl, rfl⟩))
            go_ret2
            exact ⟨rfl, Below.refl _ _⟩
          · have e1 : encE r = 0 := by simp [encE, he]
            rw [e1] at C4
            rw [if_pos ⟨h1, hne1, rfl, hd'⟩]
            clear hu h1 hp hk h2 b1 b2 p1 p2 g1 g2 hxl q1 q2 hd hd' hl hr e1 hne
            go_enter Tryz.func149, Tryz.ntmps149
            go_wp2_with (first | (go_at_call 138; refine (CI _).mono ?_; rintro e w' ⟨rfl, rfl⟩) | (go_at_call 84; refine (CP _).mono ?_; rintro e w' ⟨rfl, rfl⟩) | (go_at_call 122; refine (C2 _).mono ?_; rintro e w' ⟨rfl, rfl⟩) | (go_at_call 157; refine (C4 _).mono ?_; rintro e w' ⟨rfl, rfl⟩))
            go_ret2
            exact ⟨ret_si' rfl (by omega), Below.refl _ _⟩
  · have hp : Lib.hasPrefix (117 :: u) [117, 123] = false := by
      cases u with
      | nil => rfl
      | cons a v => simp at h1; simp [Lib.hasPrefix, List.isPrefixOf]; exact fun h => h1 h.symm
    rw [show (⟨#[117, 123]⟩ : ByteArray).data.toList = [117, 123] from rfl, hp] at CP
    rw [if_neg (fun h => h1 h.1)]
    clear hu h1 hp
    go_enter Tryz.func149, Tryz.ntmps149
    go_wp2_with (first | (go_at_call 138; refine (CI _).mono ?_; rintro e w' ⟨rfl, rfl⟩) | (go_at_call 84; refine (CP _).mono ?_; rintro e w' ⟨rfl, rfl⟩))
    go_ret2
    exact ⟨rfl, Below.refl _ _⟩

end Go.Proofs.YtlgkfhipobdcfaaGreatDoor

/- The walk of escaped: what an escape stands for, by its first byte. -/
namespace Go.Proofs.YtlgkfhipobdcfaaGreatDoor
open Go.RowKit

theorem beq_t {c n : Nat} (h : c = n) : (((c : Nat) : Int) == (n : Int)) = true := by simp [h]
theorem beq_f {c n : Nat} (h : ¬ c = n) : (((c : Nat) : Int) == (n : Int)) = false := by simp; omega

set_option maxHeartbeats 4000000 in
theorem escaped_any (s : ByteArray) (c : UInt8) (u : List UInt8) (w : World) (hs : s.size ≤ maxLen) (hl : s.data.toList = c :: u) : Calls Tryz.prog 137 #[.string s] w fun e w' => e = .returned (ansE (esc (c :: u))) ∧ Below w.heap.size w w' := by
  have hs' := hs
  unfold maxLen at hs'
  have h0 : 0 < s.size := by
    have := congrArg List.length hl
    rw [Array.length_toList] at this
    have h2 : s.data.size = s.size := rfl
    simp at this; omega
  have hc : s[0] = c := by
    have h := head_at s h0
    rw [hl] at h; exact h.symm
  have hx1 : s.extract 0 1 = ⟨#[c]⟩ := by
    apply ByteArray.ext
    apply Array.toList_inj.1
    have : (s.extract 0 1).data.toList = s.data.toList.take 1 := by simp
    rw [this, hl]; rfl
  have C1 := fun w => hexa_any s w hs
  rw [hl, List.drop_succ_cons, List.drop_zero] at C1
  have C2 := fun (h : c.toNat = 117) w => codePoint_any s u w hs (by rw [hl]; congr 1; exact (toN c 117 (by omega)).1 h)
  have C3 := fun w => decimal_any s w hs
  rw [hl] at C3
  have hcn : s[0].toNat = c.toNat := by rw [hc]
  obtain ⟨n, hn⟩ : ∃ n, s[0].toNat = n := ⟨_, rfl⟩
  rw [hn] at hcn
  simp only [esc]
  unfold ansE
  rw [← hcn] at C2 ⊢
  clear hl hc hcn
  by_cases a1 : n = 110
  · have b1 := beq_t a1
    rw [if_pos a1]
    clear a1 C1 C2 C3
    go_enter Tryz.func137, Tryz.ntmps137
    go_wp2
    go_ret2
    exact ⟨rfl, Below.refl _ _⟩
  have b1 := beq_f a1
  rw [if_neg a1]
  by_cases a2 : n = 116
  · have b2 := beq_t a2
    rw [if_pos a2]
    clear a1 a2 C1 C2 C3
    go_enter Tryz.func137, Tryz.ntmps137
    go_wp2
    go_ret2
    exact ⟨rfl, Below.refl _ _⟩
  have b2 := beq_f a2
  rw [if_neg a2]
  by_cases a3 : n = 114
  · have b3 := beq_t a3
    rw [if_pos a3]
    clear a1 a2 a3 C1 C2 C3
    go_enter Tryz.func137, Tryz.ntmps137
    go_wp2
    go_ret2
    exact ⟨rfl, Below.refl _ _⟩
  have b3 := beq_f a3
  rw [if_neg a3]
  by_cases a4 : n = 92
  · have b4 := beq_t a4
    rw [if_pos (.inl a4)]
    clear a1 a2 a3 a4 C1 C2 C3
    go_enter Tryz.func137, Tryz.ntmps137
    go_wp2
    go_ret2
    exact ⟨rfl, Below.refl _ _⟩
  have b4 := beq_f a4
  by_cases a5 : n = 34
  · have b5 := beq_t a5
    rw [if_pos (.inr (.inl a5))]
    clear a1 a2 a3 a4 a5 C1 C2 C3
    go_enter Tryz.func137, Tryz.ntmps137
    go_wp2
    go_ret2
    exact ⟨rfl, Below.refl _ _⟩
  have b5 := beq_f a5
  by_cases a6 : n = 39
  · have b6 := beq_t a6
    rw [if_pos (.inr (.inr a6))]
    clear a1 a2 a3 a4 a5 a6 C1 C2 C3
    go_enter Tryz.func137, Tryz.ntmps137
    go_wp2
    go_ret2
    exact ⟨rfl, Below.refl _ _⟩
  have b6 := beq_f a6
  rw [if_neg (by omega)]
  by_cases a7 : n = 120
  · have b7 := beq_t a7
    rw [if_pos a7]
    unfold ansE at C1
    clear a1 a2 a3 a4 a5 a6 a7 C2 C3
    go_enter Tryz.func137, Tryz.ntmps137
    go_wp2_with (go_at_call 148; refine (C1 _).mono ?_; rintro e w1 ⟨rfl, hb⟩)
    go_ret2
    exact ⟨rfl, hb⟩
  have b7 := beq_f a7
  rw [if_neg a7]
  by_cases a8 : n = 117
  · have b8 := beq_t a8
    rw [if_pos a8]
    have C2' := C2 a8
    unfold ansE at C2'
    clear a1 a2 a3 a4 a5 a6 a7 a8 C1 C2 C3
    go_enter Tryz.func137, Tryz.ntmps137
    go_wp2_with (go_at_call 149; refine (C2' _).mono ?_; rintro e w1 ⟨rfl, hb⟩)
    go_ret2
    exact ⟨rfl, hb⟩
  have b8 := beq_f a8
  rw [if_neg a8]
  unfold ansE at C3
  clear a1 a2 a3 a4 a5 a6 a7 a8 C1 C2
  go_enter Tryz.func137, Tryz.ntmps137
  go_wp2_with (go_at_call 150; refine (C3 _).mono ?_; rintro e w1 ⟨rfl, hb⟩)
  go_ret2
  exact ⟨rfl, hb⟩

end Go.Proofs.YtlgkfhipobdcfaaGreatDoor
