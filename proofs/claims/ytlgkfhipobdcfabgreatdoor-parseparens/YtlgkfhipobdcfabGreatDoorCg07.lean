/- The walk of take: what stands next. -/
import Derived.Test.YtlgkfhipobdcfabGreatDoorCg06
import Derived.Test.YtlgkfhipobdcfabGreatDoorCg05
namespace Go.Proofs.YtlgkfhipobdcfabGreatDoor
open Go.RowKit

/-- What a step leaves. -/
def TO (b B : Nat) (s : ByteArray) (ts : List Tok) (V : World) (p : Nat) : St → Ending → World → Prop
  | .skip n, e, W' => e = .returned (.int .i64 ((p + n : Nat) : Int)) ∧ SC b B s ts W' ∧ Kp b B V W'
  | .tok k t v n, e, W' => e = .returned (.int .i64 ((p + n : Nat) : Int)) ∧ SC b B s (ts ++ [⟨k, t, v, p⟩]) W' ∧ Kp b B V W'
  | .bad c x, e, W' => e = refu c ((p + x : Nat) : Int) ∧ Kp b B V W'

theorem stp_blank (l : List UInt8) (r : Nat) (hr : rnL l = r) (h : r = 32 ∨ r = 9 ∨ r = 10 ∨ r = 13) : stp l = .skip 1 := by
  unfold stp; rw [hr, if_pos h]
theorem stp_comment (l : List UInt8) (r : Nat) (hr : rnL l = r) (h : ¬ (r = 32 ∨ r = 9 ∨ r = 10 ∨ r = 13)) (hc : Lib.hasPrefix l [45, 45] = true) : stp l = .skip (spn (fun r => decide (r ≠ 10)) l) := by
  unfold stp; rw [hr, if_neg h, if_pos hc]
theorem stp_name (l : List UInt8) (r : Nat) (hr : rnL l = r) (h : ¬ (r = 32 ∨ r = 9 ∨ r = 10 ∨ r = 13)) (hc : Lib.hasPrefix l [45, 45] = false) (hl : letB r = true) :
    stp l = if 40 < spn inNm l then .bad 14 0 else .tok (if wordB (l.take (spn inNm l)) then 2 else 1) (l.take (spn inNm l)) 0 (spn inNm l) := by
  unfold stp; rw [hr, if_neg h, hc, if_neg (by simp), if_pos hl]
theorem stp_number (l : List UInt8) (r : Nat) (hr : rnL l = r) (h : ¬ (r = 32 ∨ r = 9 ∨ r = 10 ∨ r = 13)) (hc : Lib.hasPrefix l [45, 45] = false) (hl : letB r = false) (hd : digB r = true) :
    stp l = if W.parE (l.take (spn inNm l)) ≠ 0 then .bad (W.parE (l.take (spn inNm l))) 0 else .tok 3 (l.take (spn inNm l)) (W.parN (l.take (spn inNm l))) (spn inNm l) := by
  unfold stp; rw [hr, if_neg h, hc, if_neg (by simp), hl, if_neg (by simp), if_pos hd]
theorem stp_quote (l : List UInt8) (r : Nat) (hr : rnL l = r) (h : ¬ (r = 32 ∨ r = 9 ∨ r = 10 ∨ r = 13)) (hc : Lib.hasPrefix l [45, 45] = false) (hl : letB r = false) (hd : digB r = false) (hq : r = 39 ∨ r = 34) :
    stp l = match qt (l.headD 0) (l.drop 1) 1 [] with | .ok v n => .tok 4 v 0 n | .bad c o => .bad c o := by
  unfold stp; rw [hr, if_neg h, hc, if_neg (by simp), hl, if_neg (by simp), hd, if_neg (by simp), if_pos hq]; rfl
theorem stp_sign (l : List UInt8) (r : Nat) (hr : rnL l = r) (h : ¬ (r = 32 ∨ r = 9 ∨ r = 10 ∨ r = 13)) (hc : Lib.hasPrefix l [45, 45] = false) (hl : letB r = false) (hd : digB r = false) (hq : ¬ (r = 39 ∨ r = 34)) :
    stp l = if sgz l = 0 then .bad 4 0 else .tok 5 (l.take (sgz l)) 0 (sgz l) := by
  unfold stp; rw [hr, if_neg h, hc, if_neg (by simp), hl, if_neg (by simp), hd, if_neg (by simp), if_neg hq]

set_option maxRecDepth 20000 in
set_option maxHeartbeats 2000000 in
theorem take_blank (b B : Nat) (s : ByteArray) (ts : List Tok) (V : World) (h : SC b B s ts V) (p : Nat) (hp : p < s.size) (hs : s.size ≤ 20000) (hts : ts.length ≤ p) (r : Nat) (hr : rn s p = r) (hbl : r = 32 ∨ r = 9 ∨ r = 10 ∨ r = 13) :
    Calls Tryz.prog 27 #[.pointer (some ⟨b, 0, none⟩), .int .i64 p, .int .i32 r] V fun e W' => TO b B s ts V p (stp (LD s p)) e W' := by
  have _ := (⟨hp, hs, hts⟩ : _ ∧ _ ∧ _)
  have hsrc := h.src
  have hB := h.lt
  have hrl : r ≤ 1114111 := by rw [← hr]; exact rn_le s p
  have hrL : rnL (LD s p) = r := by rw [← hr, rn_drop]; rfl
  rw [stp_blank _ r hrL hbl]
  clear hr hrL
  rcases hbl with rfl | rfl | rfl | rfl
  all_goals
    go_enter Tryz.func27, Tryz.ntmps27
    go_wp2
    go_ret
    exact ⟨rfl, h, Kp.refl _ _ _⟩

set_option maxRecDepth 20000 in
set_option maxHeartbeats 2000000 in
theorem take_comment (b B : Nat) (s : ByteArray) (ts : List Tok) (V : World) (h : SC b B s ts V) (p : Nat) (hp : p < s.size) (hs : s.size ≤ 20000) (hts : ts.length ≤ p) (r : Nat) (hr : rn s p = r) (hbl : ¬ (r = 32 ∨ r = 9 ∨ r = 10 ∨ r = 13)) (hc : Lib.hasPrefix (LD s p) [45, 45] = true) :
    Calls Tryz.prog 27 #[.pointer (some ⟨b, 0, none⟩), .int .i64 p, .int .i32 r] V fun e W' => TO b B s ts V p (stp (LD s p)) e W' := by
  have _ := (⟨hp, hs, hts⟩ : _ ∧ _ ∧ _)
  have hsrc := h.src
  have hB := h.lt
  have hrl : r ≤ 1114111 := by rw [← hr]; exact rn_le s p
  have hrL : rnL (LD s p) = r := by rw [← hr, rn_drop]; rfl
  have b1 : ((r : Int) == 32) = false := by rw [beq_eq_false_iff_ne]; omega
  have b2 : ((r : Int) == 9) = false := by rw [beq_eq_false_iff_ne]; omega
  have b3 : ((r : Int) == 10) = false := by rw [beq_eq_false_iff_ne]; omega
  have b4 : ((r : Int) == 13) = false := by rw [beq_eq_false_iff_ne]; omega
  have CP := fun w => Tryz.strings_HasPrefix (s.extract p s.size) ⟨#[45, 45]⟩ w
  rw [ext_end, show (⟨#[45, 45]⟩ : ByteArray).data.toList = [45, 45] from rfl, hc] at CP
  rw [stp_comment _ r hrL hbl hc]
  have C1 := fun w => span_any (s.extract p s.size) 44 (fun r => decide (r ≠ 10)) enters38 (fun r w _ => inComment_any r w) w (by have := ext_size s p s.size hs; unfold maxLen at this; omega)
  rw [ext_end] at C1
  have hl := spn_le (fun r => decide (r ≠ 10)) (LD s p)
  rw [LD_len] at hl
  obtain ⟨n, hn⟩ : ∃ n, spn (fun r => decide (r ≠ 10)) (LD s p) = n := ⟨_, rfl⟩
  rw [hn] at C1 hl ⊢
  clear hr hrL hbl hc hn
  go_enter Tryz.func27, Tryz.ntmps27
  go_wp2_with (first
    | (go_at_call 42; refine (CP _).mono ?_; rintro e w' ⟨rfl, rfl⟩)
    | (go_at_call 43; refine (C1 _).mono ?_; rintro e w' ⟨rfl, h2⟩))
  go_ret
  exact ⟨rfl, h.below h2, Kp.of_below h2 hB.2⟩

set_option maxRecDepth 20000 in
set_option maxHeartbeats 2000000 in
theorem take_name (b B : Nat) (s : ByteArray) (ts : List Tok) (V : World) (h : SC b B s ts V) (p : Nat) (hp : p < s.size) (hs : s.size ≤ 20000) (hts : ts.length ≤ p) (r : Nat) (hr : rn s p = r) (hbl : ¬ (r = 32 ∨ r = 9 ∨ r = 10 ∨ r = 13)) (hc : Lib.hasPrefix (LD s p) [45, 45] = false) (hl : letB r = true) :
    Calls Tryz.prog 27 #[.pointer (some ⟨b, 0, none⟩), .int .i64 p, .int .i32 r] V fun e W' => TO b B s ts V p (stp (LD s p)) e W' := by
  have _ := (⟨hp, hs, hts⟩ : _ ∧ _ ∧ _)
  have hsrc := h.src
  have hB := h.lt
  have hrl : r ≤ 1114111 := by rw [← hr]; exact rn_le s p
  have hrL : rnL (LD s p) = r := by rw [← hr, rn_drop]; rfl
  have b1 : ((r : Int) == 32) = false := by rw [beq_eq_false_iff_ne]; omega
  have b2 : ((r : Int) == 9) = false := by rw [beq_eq_false_iff_ne]; omega
  have b3 : ((r : Int) == 10) = false := by rw [beq_eq_false_iff_ne]; omega
  have b4 : ((r : Int) == 13) = false := by rw [beq_eq_false_iff_ne]; omega
  have CP := fun w => Tryz.strings_HasPrefix (s.extract p s.size) ⟨#[45, 45]⟩ w
  rw [ext_end, show (⟨#[45, 45]⟩ : ByteArray).data.toList = [45, 45] from rfl, hc] at CP
  rw [stp_name _ r hrL hbl hc hl]
  by_cases hn : 40 < spn inNm (LD s p)
  · rw [if_pos hn]
    have CS := name_bad b B s ts V h p hp hs hn
    clear hr hrL hbl hc hn
    go_enter Tryz.func27, Tryz.ntmps27
    go_wp2_with (first
      | (go_at_call 42; refine (CP _).mono ?_; rintro e w' ⟨rfl, rfl⟩)
      | (go_at_call 45; refine (letter_any _ _).mono ?_; rintro e w' ⟨rfl, rfl⟩)
      | (go_at_call 46; refine CS.mono ?_; rintro e w' ⟨he, h2⟩; unfold refu at he; subst he))
    exact ⟨rfl, rfl, h2⟩
  · rw [if_neg hn]
    have CS := name_ok b B s ts V h p hp hs hts hn
    obtain ⟨k, hk⟩ : ∃ k : Int, (if wordB ((LD s p).take (spn inNm (LD s p))) then 2 else 1) = k := ⟨_, rfl⟩
    rw [hk] at CS ⊢
    clear hk
    clear hr hrL hbl hc hn
    go_enter Tryz.func27, Tryz.ntmps27
    go_wp2_with (first
      | (go_at_call 42; refine (CP _).mono ?_; rintro e w' ⟨rfl, rfl⟩)
      | (go_at_call 45; refine (letter_any _ _).mono ?_; rintro e w' ⟨rfl, rfl⟩)
      | (go_at_call 46; refine CS.mono ?_; rintro e w' ⟨rfl, h1, h2⟩))
    go_ret
    exact ⟨rfl, h1, h2⟩

set_option maxRecDepth 20000 in
set_option maxHeartbeats 2000000 in
theorem take_number (b B : Nat) (s : ByteArray) (ts : List Tok) (V : World) (h : SC b B s ts V) (p : Nat) (hp : p < s.size) (hs : s.size ≤ 20000) (hts : ts.length ≤ p) (r : Nat) (hr : rn s p = r) (hbl : ¬ (r = 32 ∨ r = 9 ∨ r = 10 ∨ r = 13)) (hc : Lib.hasPrefix (LD s p) [45, 45] = false) (hl : letB r = false) (hd : digB r = true) :
    Calls Tryz.prog 27 #[.pointer (some ⟨b, 0, none⟩), .int .i64 p, .int .i32 r] V fun e W' => TO b B s ts V p (stp (LD s p)) e W' := by
  have _ := (⟨hp, hs, hts⟩ : _ ∧ _ ∧ _)
  have hsrc := h.src
  have hB := h.lt
  have hrl : r ≤ 1114111 := by rw [← hr]; exact rn_le s p
  have hrL : rnL (LD s p) = r := by rw [← hr, rn_drop]; rfl
  have b1 : ((r : Int) == 32) = false := by rw [beq_eq_false_iff_ne]; omega
  have b2 : ((r : Int) == 9) = false := by rw [beq_eq_false_iff_ne]; omega
  have b3 : ((r : Int) == 10) = false := by rw [beq_eq_false_iff_ne]; omega
  have b4 : ((r : Int) == 13) = false := by rw [beq_eq_false_iff_ne]; omega
  have CP := fun w => Tryz.strings_HasPrefix (s.extract p s.size) ⟨#[45, 45]⟩ w
  rw [ext_end, show (⟨#[45, 45]⟩ : ByteArray).data.toList = [45, 45] from rfl, hc] at CP
  rw [stp_number _ r hrL hbl hc hl hd]
  obtain ⟨n, hn⟩ : ∃ n, spn inNm (LD s p) = n := ⟨_, rfl⟩
  rw [hn]
  obtain ⟨e0, he0⟩ : ∃ e0, W.parE ((LD s p).take n) = e0 := ⟨_, rfl⟩
  obtain ⟨v0, hv0⟩ : ∃ v0, W.parN ((LD s p).take n) = v0 := ⟨_, rfl⟩
  have CS := number_any b B s ts V h p hp hs hts e0 v0 n hn he0 hv0
  rw [he0, hv0]
  clear hr hrL hbl hc hn he0 hv0
  by_cases hz : e0 = 0
  · rw [if_neg (by simpa using hz)]
    go_enter Tryz.func27, Tryz.ntmps27
    go_wp2_with (first
      | (go_at_call 42; refine (CP _).mono ?_; rintro e w' ⟨rfl, rfl⟩)
      | (go_at_call 45; refine (letter_any _ _).mono ?_; rintro e w' ⟨rfl, rfl⟩)
      | (go_at_call 47; refine (digit_any _ _).mono ?_; rintro e w' ⟨rfl, rfl⟩)
      | (go_at_call 48; refine CS.mono ?_; rintro e w' ⟨_, hA⟩; obtain ⟨he, h1, h2⟩ := hA hz; subst he))
    go_ret
    exact ⟨rfl, h1, h2⟩
  · rw [if_pos hz]
    go_enter Tryz.func27, Tryz.ntmps27
    go_wp2_with (first
      | (go_at_call 42; refine (CP _).mono ?_; rintro e w' ⟨rfl, rfl⟩)
      | (go_at_call 45; refine (letter_any _ _).mono ?_; rintro e w' ⟨rfl, rfl⟩)
      | (go_at_call 47; refine (digit_any _ _).mono ?_; rintro e w' ⟨rfl, rfl⟩)
      | (go_at_call 48; refine CS.mono ?_; rintro e w' ⟨hA, _⟩; obtain ⟨he, h2⟩ := hA hz; unfold refu at he; subst he))
    exact ⟨rfl, rfl, h2⟩

set_option maxRecDepth 20000 in
set_option maxHeartbeats 2000000 in
theorem take_quote (b B : Nat) (s : ByteArray) (ts : List Tok) (V : World) (h : SC b B s ts V) (p : Nat) (hp : p < s.size) (hs : s.size ≤ 20000) (hts : ts.length ≤ p) (r : Nat) (hr : rn s p = r) (hbl : ¬ (r = 32 ∨ r = 9 ∨ r = 10 ∨ r = 13)) (hc : Lib.hasPrefix (LD s p) [45, 45] = false) (hl : letB r = false) (hd : digB r = false) (hq : r = 39 ∨ r = 34) :
    Calls Tryz.prog 27 #[.pointer (some ⟨b, 0, none⟩), .int .i64 p, .int .i32 r] V fun e W' => TO b B s ts V p (stp (LD s p)) e W' := by
  have _ := (⟨hp, hs, hts⟩ : _ ∧ _ ∧ _)
  have hsrc := h.src
  have hB := h.lt
  have hrl : r ≤ 1114111 := by rw [← hr]; exact rn_le s p
  have hrL : rnL (LD s p) = r := by rw [← hr, rn_drop]; rfl
  have b1 : ((r : Int) == 32) = false := by rw [beq_eq_false_iff_ne]; omega
  have b2 : ((r : Int) == 9) = false := by rw [beq_eq_false_iff_ne]; omega
  have b3 : ((r : Int) == 10) = false := by rw [beq_eq_false_iff_ne]; omega
  have b4 : ((r : Int) == 13) = false := by rw [beq_eq_false_iff_ne]; omega
  have CP := fun w => Tryz.strings_HasPrefix (s.extract p s.size) ⟨#[45, 45]⟩ w
  rw [ext_end, show (⟨#[45, 45]⟩ : ByteArray).data.toList = [45, 45] from rfl, hc] at CP
  rw [stp_quote _ r hrL hbl hc hl hd hq]
  obtain ⟨c, hcc⟩ := LD_cons s p hp
  have hcr : c.toNat = r := rn_head s p c _ hcc r (by omega) hr
  rw [hcc]
  simp only [List.headD_cons, List.drop_succ_cons, List.drop_zero]
  have CQ := quoted_any b B s ts V h p hp hs (by omega) c r hcr hq
  obtain ⟨R, hR⟩ : ∃ R, qt c (LD s (p + 1)) 1 [] = R := ⟨_, rfl⟩
  rw [hR] at CQ ⊢
  clear hr hrL hcc hcr hR hbl hc hl hd b1 b2 b3 b4
  have l1 : letB 39 = false := by decide
  have l2 : digB 39 = false := by decide
  have l3 : letB 34 = false := by decide
  have l4 : digB 34 = false := by decide
  rcases hq with rfl | rfl
  all_goals
    simp only [Int.cast_ofNat_Int] at CQ
    cases R with
    | ok v n =>
      go_enter Tryz.func27, Tryz.ntmps27
      go_wp2_with (first
        | (go_at_call 42; refine (CP _).mono ?_; rintro e w' ⟨rfl, rfl⟩)
        | (go_at_call 45; refine (letter_any _ _).mono ?_; rintro e w' ⟨rfl, rfl⟩)
        | (go_at_call 47; refine (digit_any _ _).mono ?_; rintro e w' ⟨rfl, rfl⟩)
        | (go_at_call 49; refine CQ.mono ?_; rintro e w' ⟨rfl, h1, h2⟩))
      go_ret
      exact ⟨rfl, h1, h2⟩
    | bad d n =>
      go_enter Tryz.func27, Tryz.ntmps27
      go_wp2_with (first
        | (go_at_call 42; refine (CP _).mono ?_; rintro e w' ⟨rfl, rfl⟩)
        | (go_at_call 45; refine (letter_any _ _).mono ?_; rintro e w' ⟨rfl, rfl⟩)
        | (go_at_call 47; refine (digit_any _ _).mono ?_; rintro e w' ⟨rfl, rfl⟩)
        | (go_at_call 49; refine CQ.mono ?_; rintro e w' ⟨he, h2⟩; unfold refu at he; subst he))
      exact ⟨rfl, rfl, h2⟩

set_option maxRecDepth 20000 in
set_option maxHeartbeats 2000000 in
theorem take_sign (b B : Nat) (s : ByteArray) (ts : List Tok) (V : World) (h : SC b B s ts V) (p : Nat) (hp : p < s.size) (hs : s.size ≤ 20000) (hts : ts.length ≤ p) (r : Nat) (hr : rn s p = r) (hbl : ¬ (r = 32 ∨ r = 9 ∨ r = 10 ∨ r = 13)) (hc : Lib.hasPrefix (LD s p) [45, 45] = false) (hl : letB r = false) (hd : digB r = false) (hq : ¬ (r = 39 ∨ r = 34)) :
    Calls Tryz.prog 27 #[.pointer (some ⟨b, 0, none⟩), .int .i64 p, .int .i32 r] V fun e W' => TO b B s ts V p (stp (LD s p)) e W' := by
  have _ := (⟨hp, hs, hts⟩ : _ ∧ _ ∧ _)
  have hsrc := h.src
  have hB := h.lt
  have hrl : r ≤ 1114111 := by rw [← hr]; exact rn_le s p
  have hrL : rnL (LD s p) = r := by rw [← hr, rn_drop]; rfl
  have b1 : ((r : Int) == 32) = false := by rw [beq_eq_false_iff_ne]; omega
  have b2 : ((r : Int) == 9) = false := by rw [beq_eq_false_iff_ne]; omega
  have b3 : ((r : Int) == 10) = false := by rw [beq_eq_false_iff_ne]; omega
  have b4 : ((r : Int) == 13) = false := by rw [beq_eq_false_iff_ne]; omega
  have CP := fun w => Tryz.strings_HasPrefix (s.extract p s.size) ⟨#[45, 45]⟩ w
  rw [ext_end, show (⟨#[45, 45]⟩ : ByteArray).data.toList = [45, 45] from rfl, hc] at CP
  rw [stp_sign _ r hrL hbl hc hl hd hq]
  have b5 : ((r : Int) == 39) = false := by rw [beq_eq_false_iff_ne]; omega
  have b6 : ((r : Int) == 34) = false := by rw [beq_eq_false_iff_ne]; omega
  obtain ⟨n, hn⟩ : ∃ n, sgz (LD s p) = n := ⟨_, rfl⟩
  have CS := sign_any b B s ts V h p hp hs hts n hn
  rw [hn]
  clear hr hrL hbl hc hq hn
  by_cases hz : n = 0
  · rw [if_pos hz]
    go_enter Tryz.func27, Tryz.ntmps27
    go_wp2_with (first
      | (go_at_call 42; refine (CP _).mono ?_; rintro e w' ⟨rfl, rfl⟩)
      | (go_at_call 45; refine (letter_any _ _).mono ?_; rintro e w' ⟨rfl, rfl⟩)
      | (go_at_call 47; refine (digit_any _ _).mono ?_; rintro e w' ⟨rfl, rfl⟩)
      | (go_at_call 50; refine CS.mono ?_; rintro e w' ⟨hA, _⟩; obtain ⟨he, h2⟩ := hA hz; unfold refu at he; subst he))
    exact ⟨rfl, rfl, h2⟩
  · rw [if_neg hz]
    go_enter Tryz.func27, Tryz.ntmps27
    go_wp2_with (first
      | (go_at_call 42; refine (CP _).mono ?_; rintro e w' ⟨rfl, rfl⟩)
      | (go_at_call 45; refine (letter_any _ _).mono ?_; rintro e w' ⟨rfl, rfl⟩)
      | (go_at_call 47; refine (digit_any _ _).mono ?_; rintro e w' ⟨rfl, rfl⟩)
      | (go_at_call 50; refine CS.mono ?_; rintro e w' ⟨_, hA⟩; obtain ⟨he, h1, h2⟩ := hA hz; subst he))
    go_ret
    exact ⟨rfl, h1, h2⟩

theorem take_any (b B : Nat) (s : ByteArray) (ts : List Tok) (V : World) (h : SC b B s ts V) (p : Nat) (hp : p < s.size) (hs : s.size ≤ 20000) (hts : ts.length ≤ p) (r : Nat) (hr : rn s p = r) :
    Calls Tryz.prog 27 #[.pointer (some ⟨b, 0, none⟩), .int .i64 p, .int .i32 r] V fun e W' => TO b B s ts V p (stp (LD s p)) e W' := by
  by_cases hbl : r = 32 ∨ r = 9 ∨ r = 10 ∨ r = 13
  · exact take_blank b B s ts V h p hp hs hts r hr hbl
  cases hc : Lib.hasPrefix (LD s p) [45, 45]
  · cases hl : letB r
    · cases hd : digB r
      · by_cases hq : r = 39 ∨ r = 34
        · exact take_quote b B s ts V h p hp hs hts r hr hbl hc hl hd hq
        · exact take_sign b B s ts V h p hp hs hts r hr hbl hc hl hd hq
      · exact take_number b B s ts V h p hp hs hts r hr hbl hc hl hd
    · exact take_name b B s ts V h p hp hs hts r hr hbl hc hl
  · exact take_comment b B s ts V h p hp hs hts r hr hbl hc

end Go.Proofs.YtlgkfhipobdcfabGreatDoor

/- Plain facts (no program in it): whatever stands next in a text ends where a rune ends. -/
namespace Go.Proofs.YtlgkfhipobdcfabGreatDoor
open Go.RowKit

/-- From byte p one comes to byte q, rune by rune. -/
inductive Ch (s : ByteArray) : Nat → Nat → Prop
  | refl (p : Nat) : Ch s p p
  | step (p q : Nat) : p < s.size → Ch s (p + wd s p) q → Ch s p q

theorem Ch.le {s : ByteArray} {p q : Nat} (h : Ch s p q) : p ≤ q := by
  induction h with
  | refl => exact Nat.le_refl _
  | step p q _ _ ih => omega
theorem Ch.trans {s : ByteArray} {p q r : Nat} (h : Ch s p q) (k : Ch s q r) : Ch s p r := by
  induction h with
  | refl => exact k
  | step p q hp _ ih => exact .step p r hp (ih k)
theorem Ch.out {s : ByteArray} {p q : Nat} (h : Ch s p q) (hn : p ≠ q) : p < s.size ∧ Ch s (p + wd s p) q := by
  cases h with
  | refl => exact absurd rfl hn
  | step _ _ hp k => exact ⟨hp, k⟩
theorem Ch.end {s : ByteArray} {p q : Nat} (h : Ch s p q) (hp : ¬ p < s.size) : q = p := by
  cases h with
  | refl => rfl
  | step _ _ h1 _ => exact absurd h1 hp

theorem ch_asc (s : ByteArray) : ∀ (n p : Nat), p + n ≤ s.size → (∀ i c, p ≤ i → i < p + n → (LD s i).head? = some c → c.toNat < 128) → Ch s p (p + n)
  | 0, p, _, _ => .refl p
  | n + 1, p, h, hx => by
    obtain ⟨c, hc⟩ := LD_cons s p (by omega)
    have h1 := hx p c (Nat.le_refl _) (by omega) (by rw [hc]; rfl)
    have hw : wd s p = 1 := by
      rw [wd_drop]
      show wdL (LD s p) = 1
      rw [hc]; exact (asc c _ h1).2
    refine .step _ _ (by omega) ?_
    rw [hw]
    have := ch_asc s n (p + 1) (by omega) (fun i c h2 h3 => hx i c (by omega) (by omega))
    have e : p + 1 + n = p + (n + 1) := by omega
    rw [e] at this
    exact this

theorem ch_spn (s : ByteArray) (f : Nat → Bool) (p : Nat) : Ch s p (p + spn f (LD s p)) := by
  by_cases h : p < s.size
  · cases hf : f (rnL (LD s p))
    · rw [spn_no f _ (LD_ne s p h) hf]; exact .refl p
    · rw [spn_yes f _ (LD_ne s p h) hf, LD_drop]
      have hw : wdL (LD s p) = wd s p := (wd_drop s p).symm
      rw [hw]
      have := ch_spn s f (p + wd s p)
      rw [Nat.add_assoc] at this
      exact .step _ _ h this
  · rw [LD_nil s p h, spn_nil]; exact .refl p
termination_by s.size - p
decreasing_by have := wd_pos s p; omega

theorem ch_qt (s : ByteArray) (q : UInt8) (hq : q.toNat < 128) (o a : Nat) (acc : List UInt8) (v : List UInt8) (n : Nat) (hoa : o < a) (h : qt q (LD s a) (a - o) acc = .ok v n) : Ch s a (o + n) := by
  by_cases ha : a < s.size
  · obtain ⟨c, hc⟩ := LD_cons s a ha
    have hwd : wd s a = wdL (LD s a) := wd_drop s a
    have hwl := wd_le s a ha
    have hwp := wd_pos s a
    rcases Nat.lt_or_ge c.toNat 128 with h1 | h1
    · have hw1 : wd s a = 1 := by rw [hwd, hc]; exact (asc c _ h1).2
      rw [hc] at h
      by_cases h10 : c.toNat = 10
      · rw [qt_nl q c _ _ _ h10] at h; cases h
      by_cases hcq : c = q
      · rw [qt_end q c _ _ _ hcq (by rw [← hcq]; exact h10)] at h
        split at h
        · cases h
        · cases h
          refine .step _ _ ha ?_
          rw [hw1]
          have e : o + (a - o + 1) = a + 1 := by omega
          rw [e]; exact .refl _
      by_cases h92 : c.toNat = 92
      · rw [qt_esc q c _ _ _ h92 (fun e => hcq (UInt8.toNat_inj.1 (by omega)))] at h
        split at h
        · cases h
        · split at h
          · cases h
          · rename_i k1 k2
            obtain ⟨t1, t2⟩ := esc_take (LD s (a + 1))
            rw [LD_len] at t1
            rw [LD_drop] at h
            have e : a - o + 1 + (esc (LD s (a + 1))).2 = a + 1 + (esc (LD s (a + 1))).2 - o := by omega
            rw [e] at h
            have ih := ch_qt s q hq o (a + 1 + (esc (LD s (a + 1))).2) _ v n (by omega) h
            refine .step _ _ ha ?_
            rw [hw1]
            refine Ch.trans (ch_asc s (esc (LD s (a + 1))).2 (a + 1) (by omega) (fun i d g1 g2 g3 => ?_)) ih
            apply t2
            have h4 : (LD s (a + 1)).drop (i - (a + 1)) = LD s i := by rw [LD_drop]; congr 1; omega
            have h6 : d ∈ ((LD s (a + 1)).take (esc (LD s (a + 1))).2).drop (i - (a + 1)) := by
              rw [List.drop_take, h4]
              cases hL : LD s i with
              | nil => rw [hL] at g3; cases g3
              | cons y z =>
                rw [hL] at g3
                have : y = d := by simpa using g3
                subst this
                obtain ⟨m, hm⟩ : ∃ m, (esc (LD s (a + 1))).2 - (i - (a + 1)) = m + 1 := ⟨(esc (LD s (a + 1))).2 - (i - (a + 1)) - 1, by omega⟩
                rw [hm]; simp
            exact List.mem_of_mem_drop h6
      · have hp := qt_pass q 1 (c :: LD s (a + 1)) (a - o) acc (by simp) (fun x hx => by
          simp at hx; subst hx; exact ⟨h10, hcq, h92⟩)
        rw [hp] at h
        simp only [List.drop_succ_cons, List.drop_zero] at h
        have e : a - o + 1 = a + 1 - o := by omega
        rw [e] at h
        have ih := ch_qt s q hq o (a + 1) _ v n (by omega) h
        refine .step _ _ ha ?_
        rw [hw1]; exact ih
    · have hb := hi_bytes c (LD s (a + 1)) h1
      rw [← hc, ← hwd] at hb
      have hp := qt_pass q (wd s a) (LD s a) (a - o) acc (by rw [LD_len]; omega) (fun x hx => by
        have := hb x hx
        exact ⟨by omega, fun e => by rw [e] at this; omega, by omega⟩)
      rw [hp, LD_drop] at h
      have e : a - o + wd s a = a + wd s a - o := by omega
      rw [e] at h
      exact .step _ _ ha (ch_qt s q hq o (a + wd s a) _ v n (by omega) h)
  · rw [LD_nil s a ha, qt_nil] at h; cases h
termination_by s.size - a
decreasing_by all_goals omega

theorem ch_sgz (s : ByteArray) (p : Nat) : Ch s p (p + sgz (LD s p)) := by
  obtain ⟨h1, h2⟩ := sgz_le (LD s p)
  rw [LD_len] at h2
  by_cases hz : sgz (LD s p) = 0
  · rw [hz]; exact .refl p
  · refine ch_asc s (sgz (LD s p)) p (by omega) (fun i c g1 g2 g3 => ?_)
    unfold sgz at g2 hz
    have h4 : (LD s p).drop (i - p) = LD s i := by rw [LD_drop]; congr 1; omega
    split at g2
    · rename_i hm
      have hmem : (LD s p).take 2 ∈ sgn2 := by simpa using hm
      have hall : ∀ x ∈ (LD s p).take 2, x.toNat < 128 := by
        simp only [sgn2, List.mem_cons, List.not_mem_nil, or_false] at hmem
        rcases hmem with e | e | e | e | e | e <;> rw [e] <;> decide
      apply hall
      have h6 : c ∈ ((LD s p).take 2).drop (i - p) := by
        rw [List.drop_take, h4]
        cases hL : LD s i with
        | nil => rw [hL] at g3; cases g3
        | cons y z =>
          rw [hL] at g3
          have : y = c := by simpa using g3
          subst this
          obtain ⟨m, hm⟩ : ∃ m, 2 - (i - p) = m + 1 := ⟨2 - (i - p) - 1, by omega⟩
          rw [hm]; simp
      exact List.mem_of_mem_drop h6
    · split at g2
      · rename_i hm
        have : i = p := by omega
        subst this
        cases hL : LD s i with
        | nil => rw [hL] at g3; cases g3
        | cons y z =>
          rw [hL] at g3 hm
          have : y = c := by simpa using g3
          subst this
          have hmem : y ∈ sgn1 := by simpa using hm
          revert hmem
          have hd : ∀ x ∈ sgn1, x.toNat < 128 := by decide
          exact hd y
      · omega

/-- Whatever stands next ends where a rune ends, and has the first rune whole. -/
theorem ch_stp (s : ByteArray) (p : Nat) (hp : p < s.size) : (∀ n, stp (LD s p) = .skip n → Ch s (p + wd s p) (p + n)) ∧ (∀ k t v n, stp (LD s p) = .tok k t v n → Ch s (p + wd s p) (p + n)) := by
  have hne := LD_ne s p hp
  have hpos := stp_pos (LD s p) hne
  have key : ∀ n, 1 ≤ n → Ch s p (p + n) → Ch s (p + wd s p) (p + n) := fun n hn h => (h.out (by omega)).2
  obtain ⟨c, hc⟩ := LD_cons s p hp
  constructor
  · intro n h
    have h1 := (hpos.1 n h).1
    refine key n h1 ?_
    unfold stp at h
    split at h
    · rename_i hb
      cases h
      have hr : rnL (LD s p) < 128 := by omega
      rw [hc] at hr
      have hw : wd s p = 1 := by
        rw [wd_drop]; show wdL (LD s p) = 1
        rw [hc]; exact (rn_lt c _ hr).2
      refine .step _ _ hp ?_
      rw [hw]; exact .refl _
    · split at h
      · cases h; exact ch_spn s _ p
      · split at h
        · split at h <;> cases h
        · split at h
          · split at h <;> cases h
          · split at h
            · split at h <;> cases h
            · split at h <;> cases h
  · intro k t v n h
    have h1 := (hpos.2 k t v n h).1
    refine key n h1 ?_
    unfold stp at h
    split at h
    · cases h
    · split at h
      · cases h
      · split at h
        · split at h
          · cases h
          · cases h; exact ch_spn s _ p
        · split at h
          · split at h
            · cases h
            · cases h; exact ch_spn s _ p
          · split at h
            · rename_i hq
              split at h
              · rename_i v' n' hqt
                cases h
                have hr : rnL (LD s p) < 128 := by omega
                have hr2 := hr
                rw [hc] at hr2
                have hcr := rn_lt c _ hr2
                rw [← hc] at hcr
                have hw : wd s p = 1 := by rw [wd_drop]; exact hcr.2
                rw [hc] at hqt
                simp only [List.headD_cons, List.drop_succ_cons, List.drop_zero] at hqt
                have e : p + 1 - p = 1 := by omega
                have := ch_qt s c (by omega) p (p + 1) [] _ _ (by omega) (by rw [e]; exact hqt)
                refine .step _ _ hp ?_
                rw [hw]; exact this
              · cases h
            · split at h
              · cases h
              · cases h; exact ch_sgz s p

end Go.Proofs.YtlgkfhipobdcfabGreatDoor

/- The walk of scan: from step to step. -/
namespace Go.Proofs.YtlgkfhipobdcfabGreatDoor
open Go.RowKit

/-- What the going through a text leaves. -/
def RO (b B : Nat) (s : ByteArray) (V : World) (N : Nat) : Res → Ending → World → Prop
  | .ok ts, e, W' => e = .returned (.tuple #[]) ∧ SC b B s ts W' ∧ Kp b N V W'
  | .bad c p, e, W' => e = refu c p ∧ Kp b N V W'

theorem Kp.mono {b B B' : Nat} {x y : World} (h : Kp b B x y) (hB : B' ≤ B) : Kp b B' x y := ⟨h.os, h.tape, h.output, h.size, fun k hk hn => h.block k (by omega) hn⟩
theorem Kp.iterAt {b B k : Nat} {x y : World} (h : Kp b B x y) (hk : B ≤ k) (s : ByteArray) (p : Nat) : Kp b B x (y.iterAt k s p) :=
  h.trans ⟨rfl, rfl, rfl, by rw [Lib.iterAt_size]; exact Nat.le_refl _, fun j hj _ => Lib.iterAt_other y k j s p (by omega)⟩

theorem SC.drew {b B : Nat} {s : ByteArray} {ts : List Tok} {W : World} (h : SC b B s ts W) : SC b B s ts W.drew := ⟨h.src, h.tok, h.free, h.lt⟩

set_option maxRecDepth 20000 in
set_option maxHeartbeats 4000000 in
theorem scan_any (b : Nat) (s : ByteArray) (V : World) (hsrc : V.cell? ⟨b, 0, none⟩ = some (.string s)) (htok : V.cell? ⟨b, 1, none⟩ = some (.slice none 0 0)) (hfr : V.frozen? ⟨b, 1, none⟩ = false) (hbV : b < V.heap.size) (hs : s.size ≤ 20000) :
    Calls Tryz.prog 17 #[.pointer (some ⟨b, 0, none⟩)] V fun e W' => RO b (V.heap.size + 1) s V V.heap.size (scn (LD s 0) 0 []) e W' := by
  obtain ⟨R, hR⟩ : ∃ R, scn (LD s 0) 0 [] = R := ⟨_, rfl⟩
  rw [hR]
  have HR0 : Hid (scn (LD s 0) 0 [] = R) := hR
  clear hR
  have hSC0 : SC b (V.heap.size + 1) s [] (V.alloc (.stringIter s 0)) :=
    ⟨alloc_cell hbV hsrc _, ⟨_, alloc_cell hbV htok _, World.ownsRow_nil _ _ _ _⟩, alloc_frozen hbV hfr _, by omega, by simp⟩
  go_enter Tryz.func17, Tryz.ntmps17
  go_wp2
  go_loopg [2] (s.size + 1) (fun gf v2 wx => ∃ (pos T : Nat) (ts : List Tok), pos ≤ s.size ∧ wx.heap[V.heap.size]? = some (.stringIter s pos) ∧ v2 = .int .i64 T ∧ Hid (Ch s pos T) ∧ SC b (V.heap.size + 1) s ts wx ∧ Kp b V.heap.size V wx ∧ ts.length ≤ T ∧ Hid (scn (LD s T) T ts = R) ∧ s.size < pos + gf)
  case atStart => exact ⟨0, 0, [], Nat.zero_le _, World.iter_heap V s 0, rfl, .refl 0, hSC0, Kp.of_below ((Below.refl _ _).alloc (Nat.le_refl _) _) (Nat.le_refl _), Nat.le_refl _, HR0, by omega⟩
  case round =>
    obtain ⟨pos, T, ts, hple, hi, rfl, hCh, hSC, hK, htl, hR, hfu⟩ := hrel
    have hpT := hCh.out.le
    by_cases hps : pos < s.size
    · obtain ⟨g', rfl⟩ : ∃ g', gk = g' + 1 := ⟨gk - 1, by omega⟩
      have hnx : ∀ ty, (Instr.next (.pointer (some ⟨V.heap.size, 0, none⟩)) true ty).run Tryz.prog wr = .ok (.tuple #[.bool true, .int .i64 pos, .int .i32 (rn s pos)]) (wr.iterAt V.heap.size s (pos + wd s pos)) := fun ty => Lib.run_next_any_at wr V.heap.size s pos ty hi hps
      have hwp := wd_pos s pos
      have hwl := wd_le s pos hps
      have hi2 := Lib.iterAt_heap wr V.heap.size s pos (pos + wd s pos) hi
      have hSC2 := hSC.iterAt (p' := pos + wd s pos) hi (by omega)
      have hK2 := hK.iterAt (Nat.le_refl _) s (pos + wd s pos)
      obtain ⟨W, hW⟩ : ∃ W, wr.iterAt V.heap.size s (pos + wd s pos) = W := ⟨_, rfl⟩
      rw [hW] at hnx hi2 hSC2 hK2
      clear hi hSC hK hW
      by_cases hsk : pos < T
      · have HC : Hid (Ch s (pos + wd s pos) T) := (hCh.out.out (by omega)).2
        clear hCh
        go_wp2
        go_roundg g'
        case measure => omega
        case rel => exact ⟨pos + wd s pos, T, ts, hwl, hi2, rfl, HC, hSC2, hK2, htl, hR, by omega⟩
      · have hTp : T = pos := by omega
        subst hTp
        have CT := take_any b (V.heap.size + 1) s ts W hSC2 T hps hs (by omega) (rn s T) rfl
        have hch := ch_stp s T hps
        have hpp := stp_pos (LD s T) (LD_ne s T hps)
        cases hst : stp (LD s T) with
        | skip n =>
          rw [hst] at CT
          have HC : Hid (Ch s (T + wd s T) (T + n)) := hch.1 n hst
          have HR : Hid (scn (LD s (T + n)) (T + n) ts = R) := by
            show _ = _
            rw [← hR.out, scn_skip (LD_ne s T hps) hst, LD_drop]
          have hnn := (hpp.1 n hst).1
          clear hch hpp hst hR hCh
          go_wp2_with (go_at_call 27; refine CT.mono ?_; rintro e w2 ⟨rfl, h1, h2⟩)
          go_roundg g'
          case measure => omega
          case rel => exact ⟨T + wd s T, T + n, ts, hwl, (h2.block _ (by omega) (by omega)).trans hi2, by go_num, HC, h1, hK2.trans (h2.mono (by omega)), by omega, HR, by omega⟩
        | tok k t v n =>
          rw [hst] at CT
          have HC : Hid (Ch s (T + wd s T) (T + n)) := hch.2 k t v n hst
          have HR : Hid (scn (LD s (T + n)) (T + n) (ts ++ [⟨k, t, v, T⟩]) = R) := by
            show _ = _
            rw [← hR.out, scn_tok (LD_ne s T hps) hst, LD_drop]
          have hnn := (hpp.2 k t v n hst).1
          clear hch hpp hst hR hCh
          go_wp2_with (go_at_call 27; refine CT.mono ?_; rintro e w2 ⟨rfl, h1, h2⟩)
          go_roundg g'
          case measure => omega
          case rel => exact ⟨T + wd s T, T + n, _, hwl, (h2.block _ (by omega) (by omega)).trans hi2, by go_num, HC, h1, hK2.trans (h2.mono (by omega)), by simp; omega, HR, by omega⟩
        | bad c x =>
          rw [hst] at CT
          have HR : Hid (R = .bad c (T + x)) := by
            show _ = _
            rw [← hR.out, scn_bad (LD_ne s T hps) hst]
          clear hch hpp hst hR hCh
          go_wp2_with (go_at_call 27; refine CT.mono ?_; rintro e w2 ⟨he, h2⟩; unfold refu at he; subst he)
          exact ⟨rfl, by rw [HR.out]; exact ⟨rfl, hK2.trans (h2.mono (by omega))⟩⟩
    · have hnx : ∀ ty, (Instr.next (.pointer (some ⟨V.heap.size, 0, none⟩)) true ty).run Tryz.prog wr = .ok (.tuple #[.bool false]) wr := fun ty => Lib.run_next_end_at wr V.heap.size s pos ty hi hps
      have hTe : T = pos := hCh.out.end hps
      subst hTe
      have hTs : T = s.size := by omega
      have HR : Hid (R = .ok (ts ++ [⟨6, [], 0, s.size⟩])) := by
        show _ = _
        rw [← hR.out, LD_nil s T hps, scn_nil, hTs]
      have CA := fun w (hw : SC b (V.heap.size + 1) s ts w) => add_any b (V.heap.size + 1) s ts w hw 6 0 s.size s.size (Nat.le_refl _) (Nat.le_refl _) hs (by omega)
      have et : (s.data.toList.drop s.size).take (s.size - s.size) = [] := by simp
      rw [et] at CA
      have hsrcW := hSC.src
      have hbw : b < wr.heap.size := by have := hSC.lt; omega
      clear hR hCh hTs et
      go_wp2_with fail
      go_region_held3 (fun w' => w'.cell? ⟨b, 0, none⟩ = some (.string s)) (first | go_keep | exact h1.src) ((go_at_call 28; refine (CA _ (by first | exact hSC | exact hSC.drew)).mono ?_; rintro e w1 ⟨rfl, h1, h2⟩))
      go_wp2
      go_end0
      rw [HR.out]
      exact ⟨rfl, h1, hK.trans ((Kp.undrew h2).mono (by omega))⟩

end Go.Proofs.YtlgkfhipobdcfabGreatDoor
