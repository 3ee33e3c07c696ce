/- The walks of the program's escapes: what an escape stands for. -/
import Derived.Test.YtgjeiepcbenejaaCg03
import Derived.Laws.BytesArg
import Derived.Deep.RegionHeld3
import Derived.Deep.AppendLies
import Derived.OwnWalk
import Derived.Laws.Pointers
namespace Go.Proofs.Ytgjeiepcbenejaa
open Go.RowKit

theorem str_one (n : Nat) : strOfNums [(n : Int)] = ⟨#[UInt8.ofNat n]⟩ := by simp [strOfNums]

set_option maxHeartbeats 1000000 in
theorem oneByte_any (n : Nat) (w : World) (h : n ≤ 255) : Calls Try.prog 74 #[.int .i64 n] w fun e w' => e = .returned (.string ⟨#[UInt8.ofNat n]⟩) ∧ Below w.heap.size w w' := by
  have hcv := fun W => conv_new [(n : Int)] 1 rfl W
  simp only [List.map_cons, List.map_nil] at hcv
  rw [str_one] at hcv
  go_enter Try.func74, Try.ntmps74
  go_wp2
  go_ret
  exact ⟨rfl, (Below.refl _ _).alloc (Nat.le_refl _) _⟩

theorem ret_si' {a b : ByteArray} {c d : Int} (h : a = b) (h' : c = d) : Ending.returned (.tuple #[.string a, .int .i64 c]) = .returned (.tuple #[.string b, .int .i64 d]) := by rw [h, h']
/-- An escape's answer. -/
def ansE (x : List UInt8 × Nat) : Value := .tuple #[.string ⟨x.1.toArray⟩, .int .i64 x.2]

theorem spn_digN (s : ByteArray) : (s.extract 0 (min (spn digN s.data.toList) 3)).data.toList = dgs 3 s.data.toList := by
  rw [dgs_take]; simp

set_option maxHeartbeats 1000000 in
theorem decimal_any (s : ByteArray) (w : World) (hs : s.size ≤ maxLen) : Calls Try.prog 71 #[.string s] w fun e w' => e = .returned (ansE (escD s.data.toList)) ∧ Below w.heap.size w w' := by
  have hs' := hs
  unfold maxLen at hs'
  have hle := spn_le digN s.data.toList
  rw [Array.length_toList] at hle
  have hle' : spn digN s.data.toList ≤ s.size := hle
  clear hle
  have hd := spn_digN s
  obtain ⟨k, hk⟩ : ∃ k, spn digN s.data.toList = k := ⟨_, rfl⟩
  have C1 := span_any s 62 digN enters62 (fun r w hr => isDigit_any r w hr) w (by omega)
  rw [hk] at C1 hle' hd
  obtain ⟨p1, p2⟩ := par_dec (dgs 3 s.data.toList) (dgs_all _ _) (dgs_len _ _)
  obtain ⟨x, hx⟩ : ∃ x, s.extract 0 (min k 3) = x := ⟨_, rfl⟩
  rw [hx] at hd
  have hxs : x.size ≤ maxLen := by rw [← hx, ByteArray.size_extract]; unfold maxLen; omega
  have C2 := fun w => W.parse_any x w hxs
  rw [hd] at C2
  have hlen : ((dgs 3 s.data.toList).length : Int) = (min k 3 : Nat) := by
    have := congrArg List.length hd
    rw [← this, ← hx]; simp; omega
  clear hk
  have hmin : min (k : Int) 3 = ((min k 3 : Nat) : Int) := by omega
  obtain ⟨q, hq⟩ : ∃ q : Nat, min k 3 = q := ⟨_, rfl⟩
  rw [hq] at hx hlen hmin
  have hq1 : q ≤ s.size := by omega
  have hq2 : q ≤ 3 := by omega
  clear hq hd
  unfold ansE escD
  by_cases hn : dgs 3 s.data.toList = []
  · rw [p1 hn] at C2
    rw [if_pos (.inl hn)]
    clear p1 p2 hn hlen
    go_enter Try.func71, Try.ntmps71
    go_wp2_with (first | (go_at_call 37; refine C1.mono ?_; rintro e w1 ⟨rfl, hb⟩) | (go_at_call 55; refine (C2 _).mono ?_; rintro e w' ⟨rfl, rfl⟩))
    go_ret2
    exact ⟨rfl, hb⟩
  · obtain ⟨e1, e2, e3⟩ := p2 hn
    rw [e1, e2] at C2
    obtain ⟨v, hv⟩ : ∃ v, W.dv (dgs 3 s.data.toList) = v := ⟨_, rfl⟩
    rw [hv] at C2 e3 ⊢
    by_cases h255 : 255 < v
    · rw [if_pos (.inr h255)]
      clear p1 p2 hn hlen e1 e2 hv
      go_enter Try.func71, Try.ntmps71
      go_wp2_with (first | (go_at_call 37; refine C1.mono ?_; rintro e w1 ⟨rfl, hb⟩) | (go_at_call 55; refine (C2 _).mono ?_; rintro e w' ⟨rfl, rfl⟩))
      go_ret2
      exact ⟨rfl, hb⟩
    · have e4 : ((dgs 3 s.data.toList).length : Int) = q := hlen
      rw [if_neg (by intro h; rcases h with h | h; exact hn h; exact h255 h)]
      have C3 := fun w => oneByte_any v w (by omega)
      clear p1 p2 hn hlen e1 e2 hv
      go_enter Try.func71, Try.ntmps71
      go_wp2_with (first | (go_at_call 37; refine C1.mono ?_; rintro e w1 ⟨rfl, hb⟩) | (go_at_call 55; refine (C2 _).mono ?_; rintro e w' ⟨rfl, rfl⟩) | (go_at_call 74; refine (C3 _).mono ?_; rintro e w2 ⟨rfl, hb2⟩))
      go_ret2
      exact ⟨ret_si' rfl (by omega), hb.trans (hb2.mono hb.size)⟩

theorem app_data (a b : ByteArray) : (a ++ b).data.toList = a.data.toList ++ b.data.toList := by simp
theorem split3 (s : ByteArray) (h : 3 ≤ s.size) : ∃ a b t, s.data.toList.drop 1 = a :: b :: t ∧ (s.extract 1 3).data.toList = [a, b] := by
  obtain ⟨⟨l⟩⟩ := s
  match l, h with
  | c :: a :: b :: t, _ => exact ⟨a, b, t, rfl, by simp⟩

set_option maxHeartbeats 1000000 in
theorem hexa_any (s : ByteArray) (w : World) (hs : s.size ≤ maxLen) : Calls Try.prog 69 #[.string s] w fun e w' => e = .returned (ansE (escX (s.data.toList.drop 1))) ∧ Below w.heap.size w w' := by
  have hs' := hs
  unfold maxLen at hs'
  unfold ansE escX
  by_cases h3 : s.size < 3
  · rw [if_neg (hxs_short _ (by rw [List.length_drop, Array.length_toList]; show s.size - 1 < 2; omega))]
    go_enter Try.func69, Try.ntmps69
    go_wp2
    go_ret2
    exact ⟨rfl, Below.refl _ _⟩
  · obtain ⟨a, b, t, e1, e2⟩ := split3 s (by omega)
    rw [e1]
    have H2 := hxs_two a b t
    obtain ⟨x, hx⟩ : ∃ x, s.extract 1 3 = x := ⟨_, rfl⟩
    have hz : x.size = 2 := by rw [← hx, ByteArray.size_extract]; omega
    rw [hx] at e2
    have C2 := fun w => W.parse_any (⟨#[48, 120]⟩ ++ x) w (by rw [ByteArray.size_append, hz]; decide)
    rw [app_data, e2] at C2
    obtain ⟨p1, p2⟩ := par_hex8 [a, b] (by simp)
    simp only [List.cons_append, List.nil_append] at C2
    cases ha : W.allHex [a, b]
    · rw [p1 (.inr ha)] at C2
      rw [if_neg (fun h => by rw [H2.1 h] at ha; cases ha)]
      clear p1 p2 e1 e2 H2
      go_enter Try.func69, Try.ntmps69
      go_wp2_with (go_at_call 55; refine (C2 _).mono ?_; rintro e w' ⟨rfl, rfl⟩)
      go_ret2
      exact ⟨rfl, Below.refl _ _⟩
    · obtain ⟨q1, q2⟩ := p2 (by simp) ha
      rw [q1, q2] at C2
      rw [if_pos (H2.2 ha), hxs_two_eq a b t ha]
      have hb := hv_lt 2 [a, b] (by simp) (by simp)
      have hb0 := (W.hv_bound [a, b]).1
      obtain ⟨v, hv⟩ : ∃ v : Nat, W.hv [a, b] = v := ⟨(W.hv [a, b]).toNat, by omega⟩
      rw [hv] at C2 hb ⊢
      have C3 := fun w => oneByte_any v w (by simp at hb; omega)
      clear p1 p2 e1 e2 q1 q2 hb hb0 hv H2
      go_enter Try.func69, Try.ntmps69
      go_wp2_with (first | (go_at_call 55; refine (C2 _).mono ?_; rintro e w' ⟨rfl, rfl⟩) | (go_at_call 74; refine (C3 _).mono ?_; rintro e w2 ⟨rfl, hb2⟩))
      go_ret2
      exact ⟨ret_si' rfl rfl, hb2⟩


theorem ix_brace (v : List UInt8) : Lib.indexByte (117 :: 123 :: v) 125 = if Lib.indexByte v 125 = -1 then -1 else Lib.indexByte v 125 + 2 := by
  have h := Lib.indexByte_ge v 125
  simp only [Lib.indexByte]
  by_cases h1 : Lib.indexByte v 125 = -1
  · simp [h1]
  · simp [h1]
    split
    · omega
    · omega

set_option maxHeartbeats 2000000 in
theorem codePoint_any (s : ByteArray) (u : List UInt8) (w : World) (hs : s.size ≤ maxLen) (hu : s.data.toList = 117 :: u) : Calls Try.prog 70 #[.string s] w fun e w' => e = .returned (ansE (escU u)) ∧ Below w.heap.size w w' := by
  have hs' := hs
  unfold maxLen at hs'
  have CI := fun w => Try.strings_IndexByte s 125 w
  have CP := fun w => Try.strings_HasPrefix s ⟨#[117, 123]⟩ w
  have e125 : ((125 : Int).toNat.toUInt8) = 125 := by decide
  rw [e125, hu] at CI
  rw [hu] at CP
  unfold ansE escU
  by_cases h1 : u.headD 0 = 123
  · obtain ⟨v, rfl⟩ : ∃ v, u = 123 :: v := by
      cases u with
      | nil => exact absurd h1 (by decide)
      | cons a v => simp at h1; exact ⟨v, by rw [h1]⟩
    have hp : Lib.hasPrefix (117 :: 123 :: v) [117, 123] = true := by simp [Lib.hasPrefix, List.isPrefixOf]
    rw [show (⟨#[117, 123]⟩ : ByteArray).data.toList = [117, 123] from rfl, hp] at CP
    have hge := Lib.indexByte_ge v 125
    rw [ix_brace] at CI
    simp only [List.drop_succ_cons, List.drop_zero]
    by_cases h2 : Lib.indexByte v 125 = -1
    · rw [if_pos h2] at CI
      rw [if_neg (by rintro ⟨_, _, _, h⟩; rw [Nat.add_comm, List.drop_succ_cons] at h; exact no_brace v _ (Lib.indexByte_none h2 _) h)]
      clear hu h1 hp
      go_enter Try.func70, Try.ntmps70
      go_wp2_with (first | (go_at_call 65; refine (CI _).mono ?_; rintro e w' ⟨rfl, rfl⟩) | (go_at_call 36; refine (CP _).mono ?_; rintro e w' ⟨rfl, rfl⟩))
      go_ret2
      exact ⟨rfl, Below.refl _ _⟩
    · rw [if_neg h2] at CI
      obtain ⟨k, hk⟩ : ∃ k : Nat, Lib.indexByte v 125 = k := ⟨(Lib.indexByte v 125).toNat, by omega⟩
      rw [hk] at CI
      obtain ⟨b1, b2⟩ := Lib.indexByte_some hk
      by_cases h8 : 8 < k
      · rw [if_neg (by rintro ⟨_, _, _, h⟩; rw [Nat.add_comm, List.drop_succ_cons] at h; exact no_brace v _ (b2 _ (by have := hxs_len 8 v; omega)) h)]
        clear hu h1 hp hk h2 b1 b2
        go_enter Try.func70, Try.ntmps70
        go_wp2_with (first | (go_at_call 65; refine (CI _).mono ?_; rintro e w' ⟨rfl, rfl⟩) | (go_at_call 36; refine (CP _).mono ?_; rintro e w' ⟨rfl, rfl⟩))
        go_ret2
        exact ⟨rfl, Below.refl _ _⟩
      · have hkl : k < v.length := by
          rcases Nat.lt_or_ge k v.length with h | h
          · exact h
          · rw [List.getElem?_eq_none h] at b1; cases b1
        have hsz : s.size = v.length + 2 := by
          have := congrArg List.length hu
          rw [Array.length_toList] at this
          simp at this
          exact this
        obtain ⟨x, hx⟩ : ∃ x, s.extract 2 (k + 2) = x := ⟨_, rfl⟩
        have hz : x.size ≤ 8 := by rw [← hx, ByteArray.size_extract]; omega
        have hxl : x.data.toList = v.take k := by
          rw [← hx]
          have : (s.extract 2 (k + 2)).data.toList = (s.data.toList.drop 2).take k := by simp
          rw [this, hu]; rfl
        obtain ⟨p1, p2⟩ := par_hex8 (v.take k) (by rw [List.length_take]; omega)
        obtain ⟨g1, g2⟩ := hxs_brace v k (by omega) b1 b2
        have C2 := fun w => W.parse_any (⟨#[48, 120]⟩ ++ x) w (by rw [ByteArray.size_append]; unfold maxLen; have : (⟨#[48, 120]⟩ : ByteArray).size = 2 := rfl; omega)
        rw [app_data, hxl] at C2
        simp only [List.cons_append, List.nil_append] at C2
        by_cases hne : v.take k = [] ∨ W.allHex (v.take k) = false
        · rw [p1 hne] at C2
          rw [if_neg (by
            rintro ⟨_, h5, _, h⟩
            rw [Nat.add_comm, List.drop_succ_cons] at h
            rcases hne with hne | hne
            · apply h5; rw [g1 (by rw [hne]; rfl)]; exact hne
            · exact g2 hne h)]
          clear hu h1 hp hk h2 b1 b2 p1 p2 g1 g2 hxl
          go_enter Try.func70, Try.ntmps70
          go_wp2_with (first | (go_at_call 65; refine (CI _).mono ?_; rintro e w' ⟨rfl, rfl⟩) | (go_at_call 36; refine (CP _).mono ?_; rintro e w' ⟨rfl, rfl⟩) | (go_at_call 55; refine (C2 _).mono ?_; rintro e w' ⟨rfl, rfl⟩))
          go_ret2
          exact ⟨rfl, Below.refl _ _⟩
        · have hne1 : v.take k ≠ [] := fun h => hne (.inl h)
          have hne2 : W.allHex (v.take k) = true := by cases h : W.allHex (v.take k); exact absurd (.inr h) hne; rfl
          obtain ⟨q1, q2⟩ := p2 hne1 hne2
          rw [q1, q2] at C2
          rw [g1 hne2]
          have hl : (v.take k).length = k := by rw [List.length_take]; omega
          have hd : (v.drop k).headD 0 = 125 := by
            rw [List.getElem?_eq_getElem hkl] at b1
            rw [List.drop_eq_getElem_cons hkl, Option.some.inj b1]; rfl
          rw [hl]
          have hd' : ((123 :: v).drop (1 + k)).headD 0 = 125 := by rw [Nat.add_comm, List.drop_succ_cons]; exact hd
          obtain ⟨r, hr⟩ : ∃ r, W.hv (v.take k) = r := ⟨_, rfl⟩
          rw [hr] at C2 ⊢
          have C4 := fun w => encode_any r w
          cases he : encB r
          · have e1 : encE r = 3 := by simp [encE, he]
            rw [e1] at C4
            rw [if_neg (by rintro ⟨_, _, h, _⟩; exact Bool.false_ne_true h)]
            clear hu h1 hp hk h2 b1 b2 p1 p2 g1 g2 hxl q1 q2 hd hd' hl hr e1 hne
            go_enter Try.func70, Try.ntmps70
            go_wp2_with (first | (go_at_call 65; refine (CI _).mono ?_; rintro e w' ⟨rfl, rfl⟩) | (go_at_call 36; refine (CP _).mono ?_; rintro e w' ⟨rfl, rfl⟩) | (go_at_call 55; refine (C2 _).mono ?_; rintro e w' ⟨rfl, rfl⟩) | (go_at_call 75; refine (C4 _).mono ?_; rintro e w' ⟨rfl, rfl⟩))
            go_ret2
            exact ⟨rfl, Below.refl _ _⟩
          · have e1 : encE r = 0 := by simp [encE, he]
            rw [e1] at C4
            rw [if_pos ⟨h1, hne1, rfl, hd'⟩]
            clear hu h1 hp hk h2 b1 b2 p1 p2 g1 g2 hxl q1 q2 hd hd' hl hr e1 hne
            go_enter Try.func70, Try.ntmps70
            go_wp2_with (first | (go_at_call 65; refine (CI _).mono ?_; rintro e w' ⟨rfl, rfl⟩) | (go_at_call 36; refine (CP _).mono ?_; rintro e w' ⟨rfl, rfl⟩) | (go_at_call 55; refine (C2 _).mono ?_; rintro e w' ⟨rfl, rfl⟩) | (go_at_call 75; refine (C4 _).mono ?_; rintro e w' ⟨rfl, rfl⟩))
            go_ret2
            exact ⟨ret_si' rfl (by omega), Below.refl _ _⟩
  · have hp : Lib.hasPrefix (117 :: u) [117, 123] = false := by
      cases u with
      | nil => rfl
      | cons a v => simp at h1; simp [Lib.hasPrefix, List.isPrefixOf]; exact fun h => h1 h.symm
    rw [show (⟨#[117, 123]⟩ : ByteArray).data.toList = [117, 123] from rfl, hp] at CP
    rw [if_neg (fun h => h1 h.1)]
    clear hu h1 hp
    go_enter Try.func70, Try.ntmps70
    go_wp2_with (first | (go_at_call 65; refine (CI _).mono ?_; rintro e w' ⟨rfl, rfl⟩) | (go_at_call 36; refine (CP _).mono ?_; rintro e w' ⟨rfl, rfl⟩))
    go_ret2
    exact ⟨rfl, Below.refl _ _⟩

end Go.Proofs.Ytgjeiepcbenejaa

/- The walk of escaped: what an escape stands for, by its first byte. -/
namespace Go.Proofs.Ytgjeiepcbenejaa
open Go.RowKit

theorem beq_t {c n : Nat} (h : c = n) : (((c : Nat) : Int) == (n : Int)) = true := by simp [h]
theorem beq_f {c n : Nat} (h : ¬ c = n) : (((c : Nat) : Int) == (n : Int)) = false := by simp; omega

set_option maxHeartbeats 4000000 in
theorem escaped_any (s : ByteArray) (c : UInt8) (u : List UInt8) (w : World) (hs : s.size ≤ maxLen) (hl : s.data.toList = c :: u) : Calls Try.prog 64 #[.string s] w fun e w' => e = .returned (ansE (esc (c :: u))) ∧ Below w.heap.size w w' := by
  have hs' := hs
  unfold maxLen at hs'
  have h0 : 0 < s.size := by
    have := congrArg List.length hl
    rw [Array.length_toList] at this
    have h2 : s.data.size = s.size := rfl
    simp at this; omega
  have hc : s[0] = c := by
    have h := head_at s h0
    rw [hl] at h; exact h.symm
  have hx1 : s.extract 0 1 = ⟨#[c]⟩ := by
    apply ByteArray.ext
    apply Array.toList_inj.1
    have : (s.extract 0 1).data.toList = s.data.toList.take 1 := by simp
    rw [this, hl]; rfl
  have C1 := fun w => hexa_any s w hs
  rw [hl, List.drop_succ_cons, List.drop_zero] at C1
  have C2 := fun (h : c.toNat = 117) w => codePoint_any s u w hs (by rw [hl]; congr 1; exact (toN c 117 (by omega)).1 h)
  have C3 := fun w => decimal_any s w hs
  rw [hl] at C3
  have hcn : s[0].toNat = c.toNat := by rw [hc]
  obtain ⟨n, hn⟩ : ∃ n, s[0].toNat = n := ⟨_, rfl⟩
  rw [hn] at hcn
  simp only [esc]
  unfold ansE
  rw [← hcn] at C2 ⊢
  clear hl hc hcn
  by_cases a1 : n = 110
  · have b1 := beq_t a1
    rw [if_pos a1]
    clear a1 C1 C2 C3
    go_enter Try.func64, Try.ntmps64
    go_wp2
    go_ret2
    exact ⟨rfl, Below.refl _ _⟩
  have b1 := beq_f a1
  rw [if_neg a1]
  by_cases a2 : n = 116
  · have b2 := beq_t a2
    rw [if_pos a2]
    clear a1 a2 C1 C2 C3
    go_enter Try.func64, Try.ntmps64
    go_wp2
    go_ret2
    exact ⟨rfl, Below.refl _ _⟩
  have b2 := beq_f a2
  rw [if_neg a2]
  by_cases a3 : n = 114
  · have b3 := beq_t a3
    rw [if_pos a3]
    clear a1 a2 a3 C1 C2 C3
    go_enter Try.func64, Try.ntmps64
    go_wp2
    go_ret2
    exact ⟨rfl, Below.refl _ _⟩
  have b3 := beq_f a3
  rw [if_neg a3]
  by_cases a4 : n = 92
  · have b4 := beq_t a4
    rw [if_pos (.inl a4)]
    clear a1 a2 a3 a4 C1 C2 C3
    go_enter Try.func64, Try.ntmps64
    go_wp2
    go_ret2
    exact ⟨rfl, Below.refl _ _⟩
  have b4 := beq_f a4
  by_cases a5 : n = 34
  · have b5 := beq_t a5
    rw [if_pos (.inr (.inl a5))]
    clear a1 a2 a3 a4 a5 C1 C2 C3
    go_enter Try.func64, Try.ntmps64
    go_wp2
    go_ret2
    exact ⟨rfl, Below.refl _ _⟩
  have b5 := beq_f a5
  by_cases a6 : n = 39
  · have b6 := beq_t a6
    rw [if_pos (.inr (.inr a6))]
    clear a1 a2 a3 a4 a5 a6 C1 C2 C3
    go_enter Try.func64, Try.ntmps64
    go_wp2
    go_ret2
    exact ⟨rfl, Below.refl _ _⟩
  have b6 := beq_f a6
  rw [if_neg (by omega)]
  by_cases a7 : n = 120
  · have b7 := beq_t a7
    rw [if_pos a7]
    unfold ansE at C1
    clear a1 a2 a3 a4 a5 a6 a7 C2 C3
    go_enter Try.func64, Try.ntmps64
    go_wp2_with (go_at_call 69; refine (C1 _).mono ?_; rintro e w1 ⟨rfl, hb⟩)
    go_ret2
    exact ⟨rfl, hb⟩
  have b7 := beq_f a7
  rw [if_neg a7]
  by_cases a8 : n = 117
  · have b8 := beq_t a8
    rw [if_pos a8]
    have C2' := C2 a8
    unfold ansE at C2'
    clear a1 a2 a3 a4 a5 a6 a7 a8 C1 C2 C3
    go_enter Try.func64, Try.ntmps64
    go_wp2_with (go_at_call 70; refine (C2' _).mono ?_; rintro e w1 ⟨rfl, hb⟩)
    go_ret2
    exact ⟨rfl, hb⟩
  have b8 := beq_f a8
  rw [if_neg a8]
  unfold ansE at C3
  clear a1 a2 a3 a4 a5 a6 a7 a8 C1 C2
  go_enter Try.func64, Try.ntmps64
  go_wp2_with (go_at_call 71; refine (C3 _).mono ?_; rintro e w1 ⟨rfl, hb⟩)
  go_ret2
  exact ⟨rfl, hb⟩

end Go.Proofs.Ytgjeiepcbenejaa

/- The scanner in memory: its text, its tokens; what a call leaves; the walk of add. -/
namespace Go.Proofs.Ytgjeiepcbenejaa
open Go.RowKit

set_option maxHeartbeats 400000 in
theorem clone_any (s : ByteArray) (w : World) (h : s.size ≤ 281474976710656) : Calls Try.prog 45 #[.string s] w fun e w' => e = .returned (.string s) ∧ Below w.heap.size w w' := by
  go_enter Try.func45, Try.ntmps45
  go_wp2_with (go_at_call 59; refine (Try.stringslite_Clone _ _ h).mono ?_; rintro e w1 ⟨rfl, hb⟩)
  go_ret
  exact ⟨rfl, hb⟩

/-- A call of a Go function at a step of a region that draws its order. -/
theorem step_go {ops : Array Oper} {o : Oper} {ac : Act} {K : Act → World → Prop} {Q : Exit → Act → World → Prop} {E : Prop} {W : World} (hgd : o.guard = none) (f : FuncId) (xs : Array Operand) (ats : Array TypeId)
    (ho : o.op = .call { callee := .value (.func f), args := xs, argTypes := ats }) (args : Array Value) (hx : #[] ++ xs.map ac.eval ++ #[] = args) (eg : ∀ args w, (callFunc f args).run Try.prog w = .ok (.enter f args) w)
    {R : Ending → World → Prop} (C : Calls Try.prog f args W R) (v : Value) (hv : ∀ e w', R e w' → e = .returned v) (hK : ∀ w', R (.returned v) w' → K (ac.put o.dst v) w') :
    if Region.wanted o (yielded ops ac.tmps) = true then Oper.wp Try.prog o ac W K Q else E := by
  have hw : Region.wanted o (yielded ops ac.tmps) = true := by simp [Region.wanted, hgd]
  rw [if_pos hw]
  obtain ⟨dst, op, ty, pos, after, guard⟩ := o
  simp only at ho
  subst ho
  unfold Oper.wp
  rw [execOp_call_go, hx, eg, Oper.upon_enter]
  refine C.mono fun e w' h => ?_
  obtain rfl := hv e w' h
  exact hK w' h
theorem enters45 : ∀ args w, (callFunc 45 args).run Try.prog w = .ok (.enter 45 args) w := enters_of Try.func45 (by kernel_rfl) rfl

/-- A token's cells. -/
def cellT (t : Tok) : List Value := [.int .i64 t.k, .string ⟨t.t.toArray⟩, .int .i64 t.v, .int .i64 t.p]
def cellsT (l : List Tok) : List Value := l.flatMap cellT
theorem cellsT_snoc (l : List Tok) (t : Tok) : cellsT (l ++ [t]) = cellsT l ++ cellT t := by simp [cellsT]

theorem own_below {w w' : World} {base : Nat} {e : TypeId} {size : Nat} {v : Value} {n : Nat} {xs : List Value} (h : w.ownsRow base e size v n xs) (hb : Below w.heap.size w w') : w'.ownsRow base e size v n xs := by
  refine ⟨h.1, ?_⟩
  rcases h.2 with h | ⟨g, cap, cur, h1, h2, h3, r⟩
  · exact .inl h
  · refine .inr ⟨g, cap, cur, h1, h2, ?_, r⟩
    have hg : g < w.heap.size := by
      rcases Nat.lt_or_ge g w.heap.size with hl | hl
      · exact hl
      · rw [Array.getElem?_eq_none hl] at h3; cases h3
    rw [hb.block g hg]; exact h3

/-- What a call keeps: every block below B but b. -/
structure Kp (b B : Nat) (W W' : World) : Prop where
  os : W'.os = W.os
  tape : W'.tape = W.tape
  output : W'.output = W.output
  size : W.heap.size ≤ W'.heap.size
  block : ∀ k, k < B → k ≠ b → W'.heap[k]? = W.heap[k]?
theorem Kp.refl (b B : Nat) (W : World) : Kp b B W W := ⟨rfl, rfl, rfl, Nat.le_refl _, fun _ _ _ => rfl⟩
theorem Kp.trans {b B : Nat} {x y z : World} (h : Kp b B x y) (k : Kp b B y z) : Kp b B x z :=
  ⟨k.os.trans h.os, k.tape.trans h.tape, k.output.trans h.output, Nat.le_trans h.size k.size, fun i hi hn => (k.block i hi hn).trans (h.block i hi hn)⟩
theorem Kp.of_below {b B : Nat} {x y : World} (h : Below x.heap.size x y) (hB : B ≤ x.heap.size) : Kp b B x y :=
  ⟨h.os, h.tape, h.output, h.size, fun k hk _ => h.block k (by omega)⟩
theorem Kp.below {b B : Nat} {x y : World} (h : Kp b B x y) (hb : b ≤ B) : Below b x y :=
  ⟨h.os, h.tape, h.output, h.size, fun k hk => h.block k (by omega) (by omega)⟩
theorem Kp.grown {b B : Nat} {a w w' : World} {row : Option Nat} (h : Kp b B a w) (hg : w.grownBy w' row) (hB : B ≤ w.heap.size) (hr : ∀ k, row = some k → B ≤ k) : Kp b B a w' := by
  have h2 : Below B w w' := (Below.refl B w).grown hg hB hr
  exact h.trans ⟨h2.os, h2.tape, h2.output, h2.size, fun k hk _ => h2.block k hk⟩
theorem Kp.alloc {b B : Nat} {a w : World} (h : Kp b B a w) (hB : B ≤ w.heap.size) (o : Obj) : Kp b B a (w.alloc o) := by
  have h2 : Below B w (w.alloc o) := (Below.refl B w).alloc hB o
  exact h.trans ⟨h2.os, h2.tape, h2.output, h2.size, fun k hk _ => h2.block k hk⟩
theorem Kp.drew {b B : Nat} {a w : World} (h : Kp b B a w) : Kp b B a w.drew := ⟨h.os, h.tape, h.output, h.size, h.block⟩
theorem Kp.setCell {b B o : Nat} {a w : World} (h : Kp b B a w) (u : Value) : Kp b B a (w.setCell ⟨b, o, none⟩ u) :=
  h.trans ⟨rfl, rfl, rfl, by simp, fun k _ hk => Below.heap_setCell w _ u k hk⟩

/-- The scanner at block b: its text, its tokens (a row of its own from block B on). -/
structure SC (b B : Nat) (s : ByteArray) (ts : List Tok) (W : World) : Prop where
  src : W.cell? ⟨b, 0, none⟩ = some (.string s)
  tok : ∃ v, W.cell? ⟨b, 1, none⟩ = some v ∧ W.ownsRow B 36 4 v ts.length (cellsT ts)
  free : W.frozen? ⟨b, 1, none⟩ = false
  lt : b < B ∧ B ≤ W.heap.size
theorem SC.below {b B : Nat} {s : ByteArray} {ts : List Tok} {W W' : World} (h : SC b B s ts W) (hb : Below W.heap.size W W') : SC b B s ts W' := by
  have hl : b < W.heap.size := by have := h.lt; omega
  obtain ⟨v, h1, h2⟩ := h.tok
  exact ⟨(hb.cell hl).trans h.src, ⟨v, (hb.cell hl).trans h1, own_below h2 hb⟩, (hb.frozen hl).trans h.free, h.lt.1, Nat.le_trans h.lt.2 hb.size⟩
theorem SC.iterAt {b B k : Nat} {s x : ByteArray} {p p' : Nat} {ts : List Tok} {W : World} (h : SC b B s ts W) (hk : W.heap[k]? = some (.stringIter x p)) (hb : k ≠ b) : SC b B s ts (W.iterAt k x p') := by
  obtain ⟨v, h1, h2⟩ := h.tok
  have hoth : ∀ j, j ≠ k → (W.iterAt k x p').heap[j]? = W.heap[j]? := fun j hj => Lib.iterAt_other W k j x p' hj
  refine ⟨(World.cell?_of_block (hoth b (Ne.symm hb))).trans h.src, ⟨v, (World.cell?_of_block (hoth b (Ne.symm hb))).trans h1, h2.1, ?_⟩, (World.frozen?_of_block (hoth b (Ne.symm hb))).trans h.free, h.lt.1, by rw [Lib.iterAt_size]; exact h.lt.2⟩
  rcases h2.2 with h2 | ⟨g, cap, cur, g1, g2, g3, r⟩
  · exact .inl h2
  · refine .inr ⟨g, cap, cur, g1, g2, ?_, r⟩
    rw [hoth g (fun e => by rw [e, hk] at g3; cases g3)]; exact g3

theorem Try.info36 : (Try.prog.info? 36).map (fun i => (i.zero, i.size, i.bytes)) = some (some (.agg #[.int .i64 0, .string ⟨#[]⟩, .int .i64 0, .int .i64 0]), 4, 40) := by kernel_rfl

theorem SC.added {b B n : Nat} {s : ByteArray} {ts : List Tok} {t : Tok} {W w : World} {v v' : Value} (h : SC b B s ts W) (K : Kp b B W w) (hs : w.cell? ⟨b, 0, none⟩ = some (.string s)) (hv : w.cell? ⟨b, 1, none⟩ = some v) (hf : w.frozen? ⟨b, 1, none⟩ = false)
    (hn : n = (ts ++ [t]).length) (hown : w.ownsRow B 36 4 v' n (cellsT ts ++ cellT t)) : SC b B s (ts ++ [t]) (w.setCell ⟨b, 1, none⟩ v') ∧ Kp b B W (w.setCell ⟨b, 1, none⟩ v') := by
  subst hn
  refine ⟨⟨?_, ⟨v', World.cell?_setCell_same _ _ _ hv, ?_⟩, ?_, h.lt.1, ?_⟩, K.setCell _⟩
  · rw [World.cell?_setCell_other _ _ _ _ (fun e => by injection e with e1 e2; cases e2)]; exact hs
  · rw [cellsT_snoc]; exact ownsRow_setCell_below hown (by exact h.lt.1) _
  · simpa using hf
  · rw [size_set]; exact Nat.le_trans h.lt.2 K.size
theorem Kp.undrew {b B : Nat} {a w : World} (h : Kp b B a.drew w) : Kp b B a w := ⟨h.os, h.tape, h.output, h.size, h.block⟩

set_option maxRecDepth 100000 in
set_option maxHeartbeats 3200000 in
theorem add_any (b B : Nat) (s : ByteArray) (ts : List Tok) (W : World) (h : SC b B s ts W) (k n : Int) (p q : Nat) (hp : p ≤ q) (hq : q ≤ s.size) (hs : s.size ≤ 20000) (hn : ts.length ≤ 20000) :
    Calls Try.prog 32 #[.pointer (some ⟨b, 0, none⟩), .int .i64 k, .int .i64 p, .int .i64 q, .int .i64 n] W fun e W' => e = .returned (.tuple #[]) ∧ SC b B s (ts ++ [⟨k, (s.data.toList.drop p).take (q - p), n, p⟩]) W' ∧ Kp b B W W' := by
  obtain ⟨i0, hi0, hz0, hz1, hz2⟩ := info_parts Try.info36
  obtain ⟨v, hv, hown⟩ := h.tok
  obtain ⟨a0, c0, rfl⟩ := slice_shape hown
  have hsrc := h.src
  have hfr := h.free
  obtain ⟨hbB, hBW⟩ := h.lt
  have hlt : b < W.heap.size := by omega
  have hx : Hid (s.extract p q = ⟨((s.data.toList.drop p).take (q - p)).toArray⟩) := by
    apply ByteArray.ext
    apply Array.toList_inj.1
    simp
  have hxz : (s.extract p q).size ≤ 281474976710656 := by rw [ByteArray.size_extract]; omega
  have p0 : (0 : Int) ≤ (p : Int) := Int.natCast_nonneg _
  have p1 : (p : Int) ≤ (q : Int) := by omega
  have p2 : (q : Int) ≤ (s.size : Int) := by omega
  have hne : some b ≠ (Value.slice a0 ts.length c0).ownBlock := fun e => by have := (hown.lt b e.symm).1; omega
  have hrow : ∀ j, (Value.slice a0 ts.length c0).ownBlock = some j → B ≤ j := fun j e => (hown.lt j e).1
  go_enter Try.func32, Try.ntmps32
  go_wp2_with fail
  go_region_law
    (first
      | (refine step_go (by rfl) 45 _ _ (by rfl) _ (by simp [Act.eval, Act.put]) enters45 (clone_any _ _ hxz) (.string (s.extract p q)) (fun e w' h => h.1) ?_; rintro w1 ⟨_, hb1⟩; have hown0' : w1.ownsRow B 36 4 (.slice a0 ts.length c0) ts.length (cellsT ts) := (by first | exact own_below hown hb1 | exact own_below hown.drew hb1); have hsz1 := hb1.size; have hs1a := fun o => alloc_cell (W := w1) (b := b) (by exact Nat.lt_of_lt_of_le hlt hsz1) ((hb1.cell (by exact hlt)).trans hsrc) o; have hv1 : w1.cell? ⟨b, 1, none⟩ = some (.slice a0 ts.length c0) := (hb1.cell (by exact hlt)).trans hv; have hf1 : w1.frozen? ⟨b, 1, none⟩ = false := (hb1.frozen (by exact hlt)).trans hfr; have hv1a := fun o => alloc_cell (W := w1) (b := b) (by exact Nat.lt_of_lt_of_le hlt hsz1) hv1 o; have hf1a := fun o => alloc_frozen (W := w1) (b := b) (by exact Nat.lt_of_lt_of_le hlt hsz1) hf1 o; try simp at hsz1)
      | (have hown0 := hown0'; refine step_append_lies _ (by rfl) _ _ _ (by rfl) B 36 i0 _ 4 40 Try.underlying22 hi0 hz0 hz1 hz2 rfl (by omega) (.slice a0 ts.length c0) ts.length (cellsT ts) (by rfl) (by first | exact (hown0.alloc _).drew | exact hown0.alloc _)
          ⟨w1.heap.size, 0, none⟩ 1 1 [.int .i64 k, .string (s.extract p q), .int .i64 n, .int .i64 p] (by rfl) (by rfl) (World.news_of_block (cs := #[.int .i64 k, .string (s.extract p q), .int .i64 n, .int .i64 p]) (t := 36) (fr := (0, 0)) (heap_alloc_new w1 _)) (by simp [Value.oneCell'])
          (by omega) (by unfold maxLen; omega) (by omega) (by simp; omega) (w1.heap.size + 1) (by simp) ?_; intro gg cap w2 hown1 hgrow hat hlt2; have hs2 : w2.cell? ⟨b, 0, none⟩ = some (.string s) := (hgrow.cell_far ⟨b, 0, none⟩ (by simp; omega) hne).trans (hs1a _); have hv2 : w2.cell? ⟨b, 1, none⟩ = some (.slice a0 ts.length c0) := (hgrow.cell_far ⟨b, 1, none⟩ (by simp; omega) hne).trans (hv1a _); have hf2 : w2.frozen? ⟨b, 1, none⟩ = false := (hgrow.frozen_far ⟨b, 1, none⟩ (by simp; omega) hne).trans (hf1a _)))
  all_goals
    go_wp2
    go_end0
    have K0 : Kp b B W w1 := (Kp.of_below (b := b) (B := B) hb1 (by exact hBW)).undrew
    have K2 : Kp b B W w2 := (K0.alloc (by omega) _).grown hgrow (by simp; omega) hrow
    rw [hx.out] at hown1
    exact ⟨rfl, h.added K2 hs2 hv2 hf2 (by simp) hown1⟩

end Go.Proofs.Ytgjeiepcbenejaa
