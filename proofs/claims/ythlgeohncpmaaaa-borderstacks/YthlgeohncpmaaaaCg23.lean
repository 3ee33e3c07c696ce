/- The walk of fixed: the document's first example. -/
import Derived.Test.YthlgeohncpmaaaaCg22
namespace Go.Proofs.Ythlgeohncpmaaaa
open Go.RowKit

set_option maxRecDepth 20000 in
set_option maxHeartbeats 1000000 in
theorem behind_nil (w : World) : Calls Try.prog 27 #[.pointer none, .int .i64 0] w fun e w' => e = .returned (.int .i64 0) ∧ Below w.heap.size w w' := by
  obtain ⟨B0, x0⟩ := box1 w (.pointer none) 26
  obtain ⟨W0, hW0⟩ : ∃ W0, w.alloc (.cells #[.pointer none] 26) = W0 := ⟨_, rfl⟩
  rw [hW0] at B0 x0
  have C1 := has_nil 1 W0
  have HB : Hid _ := B0
  clear B0
  go_enter Try.func27, Try.ntmps27
  go_wp2_with fail
  refine C1.mono ?_; rintro e W1 ⟨rfl, k1⟩
  have HK : Hid _ := k1
  clear C1 k1
  go_wp2_with fail
  go_ret
  exact ⟨rfl, bthen HB.out HB.out.size HK.out⟩
set_option maxRecDepth 20000 in
set_option maxHeartbeats 1000000 in
theorem len_nil (w : World) : Calls Try.prog 12 #[.pointer none] w fun e w' => e = .returned (.int .i64 0) ∧ Below w.heap.size w w' := by
  have C1 := stats_nil w
  unfold sv at C1
  go_enter Try.func12, Try.ntmps12
  go_wp2_with fail
  refine C1.mono ?_; rintro e W1 ⟨rfl, k1⟩
  have B2 := bthen k1 k1.size (b1 W1 (.cells #[.int .i64 0, .int .i64 0, .int .i64 0, .int .i64 0] 45))
  have C2 := behind_nil (W1.alloc (.cells #[.int .i64 0, .int .i64 0, .int .i64 0, .int .i64 0] 45))
  have HB : Hid _ := B2
  clear C1 k1 B2
  go_wp2_with fail
  refine C2.mono ?_; rintro e W2 ⟨rfl, k2⟩
  have HK : Hid _ := bthen HB.out HB.out.size k2
  clear C2 k2 HB
  go_wp2_with fail
  go_ret
  exact ⟨rfl, HK.out⟩
def bS0 : H.St := nS (H.newSt 400000) 0 0
def bT0 : TS := newT 0 0 (H.takeId (H.takeSt (H.newSt 400000) 4) ((0 : Nat) : Int)) (H.takeId (H.takeSt (H.takeSt (H.newSt 400000) 4) ((0 : Nat) : Int)) (3 * ((0 : Nat) : Int)))
def bnx (q : TS × H.St) (k v : V) : TS × H.St := ((tset q.1 q.2 k v).1, (tset q.1 q.2 k v).2.1)
def bq : Nat → TS × H.St
  | 0 => (bT0, bS0)
  | i + 1 => bnx (bq i) (kn ((i : Int) + 1)) (kn ((i : Int) + 1))
def bq5 := bnx (bq 4) (kn 4) nil
def bq6 : TS × H.St := ((blen bq5.1).2, bq5.2)
def bq7 := bnx bq6 (kn 2) nil
def bq8 : TS × H.St := ((blen bq7.1).2, bq7.2)
def bq9 := bnx bq8 (kn 3) nil
def bqa : TS × H.St := ((blen bq9.1).2, bq9.2)
def bqb : TS × H.St := ((bis bqa.1 1).2, bqa.2)
theorem bq_len : (blen bq5.1).1 = 3 ∧ (blen bq7.1).1 = 3 ∧ (blen bq9.1).1 = 1 ∧ bqa.1.hint = 1 ∧ (bis bqa.1 1).1 = true ∧ (bis bqb.1 2).1 = false := ⟨by kernel_rfl, by kernel_rfl, by kernel_rfl, by kernel_rfl, by kernel_rfl, by kernel_rfl⟩
theorem bq_h5 : 0 ≤ bq5.1.hint ∧ bq5.1.hint ≤ (bq5.1.p.n : Int) := ⟨of_decide_eq_true (by kernel_rfl), of_decide_eq_true (by kernel_rfl)⟩
theorem bq_h7 : 0 ≤ bq7.1.hint ∧ bq7.1.hint ≤ (bq7.1.p.n : Int) := ⟨of_decide_eq_true (by kernel_rfl), of_decide_eq_true (by kernel_rfl)⟩
theorem bq_h9 : 0 ≤ bq9.1.hint ∧ bq9.1.hint ≤ (bq9.1.p.n : Int) := ⟨of_decide_eq_true (by kernel_rfl), of_decide_eq_true (by kernel_rfl)⟩
/-- A table that was made behind the world w. -/
def Fb (w : World) (T S hb c : Nat) (q : TS × H.St) (W : World) : Prop := (∃ A b a, TT (fun g => g < w.heap.size) W T A b a S hb c q.1 q.2) ∧ Below w.heap.size w W
theorem Fb.below {w W W' : World} {T S hb c : Nat} {q : TS × H.St} (h : Fb w T S hb c q W) (k : Below W.heap.size W W') : Fb w T S hb c q W' := by
  obtain ⟨⟨A, b, a, ht⟩, hb⟩ := h
  exact ⟨⟨A, b, a, ht.below k⟩, bthen hb hb.size k⟩
theorem Fb.set {w W : World} {T S hb c : Nat} {q : TS × H.St} (h : Fb w T S hb c q W) (hc : c ≤ 700000) (k v : V) (hr : Rng k) :
    Calls Try.prog 11 #[tp T, vv k, vv v] W fun e w' => (∃ x : Int, e = .returned (.int .i64 x)) ∧ Fb w T S hb (c + 7) (bnx q k v) w' := by
  obtain ⟨⟨A, b, a, ht⟩, hb⟩ := h
  refine (tset_any ht hc k v hr).mono ?_
  rintro e w' ⟨rfl, ⟨A', b', a', h'⟩, kk⟩
  exact ⟨⟨_, rfl⟩, ⟨A', b', a', h'⟩, hb.trans (kk.below hb.size (fun g hg => hg))⟩
theorem Fb.len {w W : World} {T S hb c : Nat} {q : TS × H.St} (h : Fb w T S hb c q W) (hc : c ≤ 700000) (hh : 0 ≤ q.1.hint ∧ q.1.hint ≤ (q.1.p.n : Int)) :
    Calls Try.prog 12 #[tp T] W fun e w' => e = .returned (.int .i64 (blen q.1).1) ∧ Fb w T S hb (c + 130) ((blen q.1).2, q.2) w' := by
  obtain ⟨⟨A, b, a, ht⟩, hb⟩ := h
  refine (len_any ht hc hh).mono ?_
  rintro e w' ⟨rfl, h', kk⟩
  exact ⟨rfl, ⟨A, b, a, h'⟩, hb.trans (kk.below hb.size (fun g hg => hg))⟩
theorem Fb.is {w W : World} {T S hb c : Nat} {q : TS × H.St} (h : Fb w T S hb c q W) (hc : c ≤ 700000) (n : Int) (h0 : 0 ≤ n) (h1 : n ≤ (9223372036854775807 : Int)) :
    Calls Try.prog 15 #[tp T, .int .i64 n] W fun e w' => e = .returned (.bool (bis q.1 n).1) ∧ Fb w T S hb (c + 2) ((bis q.1 n).2, q.2) w' := by
  obtain ⟨⟨A, b, a, ht⟩, hb⟩ := h
  refine (is_any ht hc n (by omega) h1).mono ?_
  rintro e w' ⟨rfl, h', kk⟩
  exact ⟨rfl, ⟨A, b, a, h'⟩, hb.trans (kk.below hb.size (fun g hg => hg))⟩
theorem Fb.stats {w W : World} {T S hb c : Nat} {q : TS × H.St} (h : Fb w T S hb c q W) : Calls Try.prog 16 #[tp T] W fun e w' => e = .returned (ts q.1) ∧ Fb w T S hb c q w' := by
  have h' := h
  obtain ⟨⟨A, b, a, ht⟩, hb⟩ := h
  refine (stats_any ht.tm).mono ?_
  rintro e w' ⟨rfl, kk⟩
  exact ⟨rfl, h'.below kk⟩
theorem begin_fb (w : World) : Calls Try.prog 9 #[cw 0 0 (.slice none 0 0)] w fun e w' => ∃ T S hb RT, e = .returned (.tuple #[tp T, tp RT, .bool true]) ∧ Fb w T S hb 3 (bq 0) w' := by
  refine (begin_any 0 0 (.slice none 0 0) w).mono ?_
  rintro e w' ⟨T, A, b, a, S, hb, RT, t, s, rfl, tt, bw, st, et, es, ok, e1, e2⟩
  have z0 : sz 0 = 0 := by kernel_rfl
  have hn : t.p.n = 0 := by have := ok.ex; rw [z0] at this; omega
  have hz : t.p.z = 0 := by
    obtain ⟨m, hm, _, hz⟩ := ok.hy
    have hm0 : m = 0 := by rw [z0] at hm; omega
    subst hm0
    have : C.up2 ((0 : Nat) : Int) = 0 := by kernel_rfl
    rw [this] at hz; omega
  have e3 : t = bT0 := by
    rw [et, hn, hz, e1, e2, hn, hz]; rfl
  have e4 : s = bS0 := by rw [es, z0]; rfl
  rw [e3, e4] at tt
  exact ⟨T, S, hb, RT, rfl, ⟨A, b, a, tt⟩, bw⟩
set_option maxRecDepth 20000 in
set_option maxHeartbeats 4000000 in
theorem fixed_any (w : World) : Calls Try.prog 8 #[] w fun e w' => e = .returned (.bool true) ∧ Below w.heap.size w w' := by
  have C1 := begin_fb w
  have HI : Hid (∀ (n : Int) (T S hb c : Nat) (q : TS × H.St) (W : World), Fb w T S hb c q W → Calls Try.prog 14 #[.int .i64 n] W fun e w' => e = .returned (.agg #[.int .i64 2, .int .i64 n, .string ⟨#[]⟩]) ∧ Fb w T S hb c q w') := fun n T S hb c q W h => (mkI n W).mono fun e w' hh => ⟨hh.1, h.below hh.2⟩
  have HS : Hid (∀ (n m : Int) (T S hb c : Nat) (q : TS × H.St) (W : World), c ≤ 700000 → 0 ≤ n → n ≤ 10 → Fb w T S hb c q W → Calls Try.prog 11 #[.pointer (some ⟨T, 0, none⟩), .agg #[.int .i64 2, .int .i64 n, .string ⟨#[]⟩], .agg #[.int .i64 2, .int .i64 m, .string ⟨#[]⟩]] W fun e w' => (∃ x : Int, e = .returned (.int .i64 x)) ∧ Fb w T S hb (c + 7) (bnx q (kn n) (kn m)) w') := fun n m T S hb c q W hc h0 h1 h => h.set hc (kn n) (kn m) (rng_kn h0 (by omega))
  have HZ : Hid (∀ (n : Int) (T S hb c : Nat) (q : TS × H.St) (W : World), c ≤ 700000 → 0 ≤ n → n ≤ 10 → Fb w T S hb c q W → Calls Try.prog 11 #[.pointer (some ⟨T, 0, none⟩), .agg #[.int .i64 2, .int .i64 n, .string ⟨#[]⟩], .agg #[.int .i64 0, .int .i64 0, .string ⟨#[]⟩]] W fun e w' => (∃ x : Int, e = .returned (.int .i64 x)) ∧ Fb w T S hb (c + 7) (bnx q (kn n) nil) w') := fun n T S hb c q W hc h0 h1 h => h.set hc (kn n) nil (rng_kn h0 (by omega))
  have HL : Hid (∀ (T S hb c : Nat) (q : TS × H.St) (W : World), c ≤ 700000 → (0 ≤ q.1.hint ∧ q.1.hint ≤ (q.1.p.n : Int)) → Fb w T S hb c q W → Calls Try.prog 12 #[.pointer (some ⟨T, 0, none⟩)] W fun e w' => e = .returned (.int .i64 (blen q.1).1) ∧ Fb w T S hb (c + 130) ((blen q.1).2, q.2) w') := fun T S hb c q W hc hh h => h.len hc hh
  obtain ⟨l5, l7, l9, ha, i1, i2⟩ := bq_len
  unfold cw tp at C1
  go_enter Try.func8, Try.ntmps8
  go_wp2_with fail
  refine C1.mono ?_; rintro e W1 ⟨T, S, hb, RT, rfl, f1⟩
  have H0 : Hid (Fb w T S hb 3 (bq 0) W1) := f1
  clear C1 f1
  go_wp2_with fail
  go_loopw [4] (fun iw wr => ∃ m : Nat, iw = .int .i64 ((m : Int) + 1) ∧ m ≤ 4 ∧ Hid (Fb w T S hb (3 + 7 * m) (bq m) wr)) (fun iw _ => (5 - intOf iw).toNat)
  case atStart => exact ⟨0, rfl, by omega, H0⟩
  case round =>
    obtain ⟨m, rfl, hm, HR⟩ := hrel
    clear H0
    by_cases hlt : m < 4
    · have h4 : (m : Int) + 1 ≤ 4 := by omega
      have hwi : IntKind.i64.wrap ((m : Int) + 1 + 1) = (m : Int) + 1 + 1 := by rw [IntKind.wrap_i64]; omega
      have C2 := HI.out ((m : Int) + 1) _ _ _ _ _ wr HR.out
      go_wp2_with fail
      refine C2.mono ?_; rintro e W2 ⟨rfl, f2⟩
      have C3 := HI.out ((m : Int) + 1) _ _ _ _ _ W2 f2
      clear C2 f2
      go_wp2_with fail
      refine C3.mono ?_; rintro e W3 ⟨rfl, f3⟩
      have C4 := HS.out ((m : Int) + 1) ((m : Int) + 1) _ _ _ _ _ W3 (by omega) (by omega) (by omega) f3
      clear C3 f3
      go_wp2_with fail
      refine C4.mono ?_; rintro e W4 ⟨⟨x, rfl⟩, f4⟩
      have H4 : Hid _ := f4
      clear C4 f4
      go_wp2_with fail
      go_round
      case rel => exact ⟨m + 1, by go_num, by omega, by have := H4.out; rw [show 3 + 7 * m + 7 = 3 + 7 * (m + 1) by omega] at this; exact this⟩
      case measure => simp [intOf]; omega
    · obtain rfl : m = 4 := by omega
      have C2 := HI.out 4 _ _ _ _ _ wr HR.out
      go_wp2_with fail
      refine C2.mono ?_; rintro e W2 ⟨rfl, f2⟩
      have C3 := HZ.out 4 _ _ _ _ _ W2 (by omega) (by omega) (by omega) f2
      clear C2 f2
      go_wp2_with fail
      refine C3.mono ?_; rintro e W3 ⟨⟨x3, rfl⟩, f3⟩
      have C4 := HL.out T S hb _ bq5 W3 (by omega) bq_h5 f3
      rw [l5] at C4
      clear C3 f3
      go_wp2_with fail
      refine C4.mono ?_; rintro e W4 ⟨rfl, f4⟩
      have C5 := HI.out 2 _ _ _ _ _ W4 f4
      clear C4 f4
      go_wp2_with fail
      refine C5.mono ?_; rintro e W5 ⟨rfl, f5⟩
      have C6 := HZ.out 2 _ _ _ _ bq6 W5 (by omega) (by omega) (by omega) f5
      clear C5 f5
      go_wp2_with fail
      refine C6.mono ?_; rintro e W6 ⟨⟨x6, rfl⟩, f6⟩
      have C7 := HL.out T S hb _ bq7 W6 (by omega) bq_h7 f6
      rw [l7] at C7
      clear C6 f6
      go_wp2_with fail
      refine C7.mono ?_; rintro e W7 ⟨rfl, f7⟩
      have C8 := HI.out 3 _ _ _ _ _ W7 f7
      clear C7 f7
      go_wp2_with fail
      refine C8.mono ?_; rintro e W8 ⟨rfl, f8⟩
      have C9 := HZ.out 3 _ _ _ _ bq8 W8 (by omega) (by omega) (by omega) f8
      clear C8 f8
      go_wp2_with fail
      refine C9.mono ?_; rintro e W9 ⟨⟨x9, rfl⟩, f9⟩
      have Ca := HL.out T S hb _ bq9 W9 (by omega) bq_h9 f9
      rw [l9] at Ca
      clear C9 f9
      go_wp2_with fail
      refine Ca.mono ?_; rintro e Wa ⟨rfl, fa⟩
      have Cb := fa.stats
      unfold ts sv tp at Cb
      have eh : ((blen bq9.1).2).hint = 1 := ha
      rw [eh] at Cb
      clear Ca fa eh
      have hf3 := fld3
      unfold sv at hf3
      go_wp2_with fail
      refine Cb.mono ?_; rintro e Wb ⟨rfl, fb⟩
      have Cc := Fb.is (q := bqa) fb (by omega) 1 (by omega) (by omega)
      rw [i1] at Cc
      unfold tp at Cc
      clear Cb fb
      go_wp2_with fail
      refine Cc.mono ?_; rintro e Wc ⟨rfl, fc⟩
      have Cd := Fb.is (q := bqb) fc (by omega) 2 (by omega) (by omega)
      rw [i2] at Cd
      unfold tp at Cd
      clear Cc fc
      go_wp2_with fail
      refine Cd.mono ?_; rintro e Wd ⟨rfl, fd⟩
      have Ce := len_nil Wd
      have Hd : Hid _ := fd.2
      clear Cd fd
      go_wp2_with fail
      refine Ce.mono ?_; rintro e We ⟨rfl, ke⟩
      have HE : Hid _ := bthen Hd.out Hd.out.size ke
      clear Ce ke
      go_wp2_with fail
      go_ret
      exact ⟨rfl, HE.out⟩
end Go.Proofs.Ythlgeohncpmaaaa
