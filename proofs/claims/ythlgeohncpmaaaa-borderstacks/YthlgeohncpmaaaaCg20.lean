/- The walk of Len. -/
import Derived.Test.YthlgeohncpmaaaaCg19
import Derived.Test.YthlgeohncpmaaaaCg06
import Derived.Test.YthlgeohncpmaaaaCg16
import Derived.Test.YthlgeohncpmaaaaCg11
namespace Go.Proofs.Ythlgeohncpmaaaa
open Go.RowKit

set_option maxRecDepth 20000 in
set_option maxHeartbeats 1000000 in
theorem len_any {No : Nat → Prop} {w : World} {T A b a S hb c : Nat} {t : TS} {s : H.St} (h : TT No w T A b a S hb c t s) (hc : c ≤ 700000) (hh : 0 ≤ t.hint ∧ t.hint ≤ (t.p.n : Int)) :
    Calls Try.prog 12 #[tp T] w fun e w' => e = .returned (.int .i64 (blen t).1) ∧ TT No w' T A b a S hb (c + 130) (blen t).2 s ∧ Keep No w w' := by
  have C1 := stats_any h.tm
  have hle := h.ti.le
  have hlz := h.ti.rt.le
  have HT : Hid (TT No w T A b a S hb c t s) := h
  have HS : Hid (∀ W, Below w.heap.size w W → TT No (W.alloc (.cells #[.int .i64 (t.p.n : Nat), .int .i64 (t.p.z : Nat), .int .i64 (t.p.g.f : Nat), .int .i64 t.hint] 45)) T A b a S hb c t s ∧ Keep No w (W.alloc (.cells #[.int .i64 (t.p.n : Nat), .int .i64 (t.p.z : Nat), .int .i64 (t.p.g.f : Nat), .int .i64 t.hint] 45))) := fun W q => by
    have q2 := bthen q q.size (b1 W (.cells #[.int .i64 (t.p.n : Nat), .int .i64 (t.p.z : Nat), .int .i64 (t.p.g.f : Nat), .int .i64 t.hint] 45))
    exact ⟨h.below q2, Keep.of q2⟩
  unfold ts sv at C1
  unfold tp at C1 ⊢
  clear h
  by_cases hn0 : t.p.n = 0
  · have hb0 : ((t.p.n : Int) == 0) = true := by simp [hn0]
    have eb : blen t = ((beh t.p).1, { t with pr := t.pr + ((beh t.p).2 : Nat) }) := by unfold blen; rw [if_neg (fun q => q.1 hn0)]
    rw [eb]
    clear eb hn0
    go_enter Try.func12, Try.ntmps12
    go_wp2_with fail
    refine C1.mono ?_; rintro e W1 ⟨rfl, k1⟩
    obtain ⟨t2, kk2⟩ := HS.out W1 k1
    have C2 := behind_any t2 hc
    unfold tp at C2
    have HK : Hid _ := kk2
    clear C1 k1 t2 kk2
    go_wp2_with fail
    refine C2.mono ?_; rintro e W2 ⟨rfl, t3, k3⟩
    have H3 : Hid _ := And.intro t3 (HK.out.trans k3)
    clear C2 t3 k3
    go_wp2_with fail
    go_ret
    exact ⟨rfl, H3.out⟩
  · have hb0 : ((t.p.n : Int) == 0) = false := by simp [hn0]
    have CF : Hid (∀ W, TT No W T A b a S hb c t s → Calls Try.prog 26 #[.pointer (some ⟨T, 0, none⟩), .int .i64 (t.p.n : Nat)] W fun e w' => e = .returned (.bool (sl t.p t.p.n)) ∧ Below W.heap.size W w') := fun W q => filled_any q.tm hle hlz _ (by omega) (by omega)
    cases es : sl t.p t.p.n with
    | true =>
      have eb : blen t = ((beh t.p).1, { t with pr := t.pr + ((beh t.p).2 : Nat) }) := by unfold blen; rw [if_neg (by simp [es])]
      rw [eb]
      rw [es] at CF
      clear eb
      go_enter Try.func12, Try.ntmps12
      go_wp2_with fail
      refine C1.mono ?_; rintro e W1 ⟨rfl, k1⟩
      obtain ⟨t2, kk2⟩ := HS.out W1 k1
      have bx := (MapKept.heap_alloc W1 (.cells #[.int .i64 (t.p.n : Nat), .int .i64 (t.p.z : Nat), .int .i64 (t.p.g.f : Nat), .int .i64 t.hint] 45)).1
      have C2 := CF.out _ t2
      have HB1 : Hid (∀ W', Below (W1.alloc (.cells #[.int .i64 (t.p.n : Nat), .int .i64 (t.p.z : Nat), .int .i64 (t.p.g.f : Nat), .int .i64 t.hint] 45)).heap.size (W1.alloc (.cells #[.int .i64 (t.p.n : Nat), .int .i64 (t.p.z : Nat), .int .i64 (t.p.g.f : Nat), .int .i64 t.hint] 45)) W' → TT No W' T A b a S hb c t s ∧ Keep No w W' ∧ W'.cell? ⟨W1.heap.size, 0, none⟩ = some (.int .i64 (t.p.n : Nat))) := fun W' q => ⟨t2.below q, kk2.trans (Keep.of q), by rw [World.cell?_of_block (w := _) (q.block W1.heap.size (by simp))]; exact cell_of_row bx 0⟩
      clear C1 k1 t2 kk2 bx
      go_wp2_with fail
      refine C2.mono ?_; rintro e W2 ⟨rfl, k2⟩
      obtain ⟨t3, k3, x3⟩ := HB1.out W2 k2
      have C3 := behind_any t3 hc
      unfold tp at C3
      have HK : Hid _ := k3
      clear C2 k2 t3 k3
      go_wp2_with fail
      refine C3.mono ?_; rintro e W3 ⟨rfl, t4, k4⟩
      have H3 : Hid _ := And.intro t4 (HK.out.trans k4)
      clear C3 t4 k4
      go_wp2_with fail
      go_ret
      exact ⟨rfl, H3.out⟩
    | false =>
      have eb : blen t = (inAr t, tHint t (inAr t)) := by unfold blen; rw [if_pos ⟨hn0, es⟩]
      rw [eb]
      rw [es] at CF
      clear eb
      have CI : Hid (∀ W, TT No W T A b a S hb c t s → Calls Try.prog 28 #[.pointer (some ⟨T, 0, none⟩), .int .i64 (t.p.n : Nat), .int .i64 t.hint] W fun e w' => e = .returned (.int .i64 (inAr t)) ∧ Below W.heap.size W w') := fun W q => inArray_any q.tm q.ti hh hn0 es
      go_enter Try.func12, Try.ntmps12
      go_wp2_with fail
      refine C1.mono ?_; rintro e W1 ⟨rfl, k1⟩
      obtain ⟨t2, kk2⟩ := HS.out W1 k1
      have bx := (MapKept.heap_alloc W1 (.cells #[.int .i64 (t.p.n : Nat), .int .i64 (t.p.z : Nat), .int .i64 (t.p.g.f : Nat), .int .i64 t.hint] 45)).1
      have C2 := CF.out _ t2
      have HB1 : Hid (∀ W', Below (W1.alloc (.cells #[.int .i64 (t.p.n : Nat), .int .i64 (t.p.z : Nat), .int .i64 (t.p.g.f : Nat), .int .i64 t.hint] 45)).heap.size (W1.alloc (.cells #[.int .i64 (t.p.n : Nat), .int .i64 (t.p.z : Nat), .int .i64 (t.p.g.f : Nat), .int .i64 t.hint] 45)) W' → TT No W' T A b a S hb c t s ∧ Keep No w W' ∧ W'.cell? ⟨W1.heap.size, 0, none⟩ = some (.int .i64 (t.p.n : Nat)) ∧ W'.cell? ⟨W1.heap.size, 3, none⟩ = some (.int .i64 t.hint)) := fun W' q => ⟨t2.below q, kk2.trans (Keep.of q), by rw [World.cell?_of_block (w := _) (q.block W1.heap.size (by simp))]; exact cell_of_row bx 0, by rw [World.cell?_of_block (w := _) (q.block W1.heap.size (by simp))]; exact cell_of_row bx 3⟩
      clear C1 k1 t2 kk2 bx
      go_wp2_with fail
      refine C2.mono ?_; rintro e W2 ⟨rfl, k2⟩
      obtain ⟨t3, k3, x3, y3⟩ := HB1.out W2 k2
      have C3 := CI.out W2 t3
      have HK : Hid _ := And.intro t3 k3
      clear C2 k2 t3 k3
      go_wp2_with fail
      refine C3.mono ?_; rintro e W3 ⟨rfl, k4⟩
      have C4 := hint_any (HK.out.1.below k4) (inAr t)
      have HK3 : Hid (Keep No w W3) := HK.out.2.trans (Keep.of k4)
      unfold tp at C4
      clear C3 k4
      go_wp2_with fail
      refine C4.mono ?_; rintro e W4 ⟨rfl, t5, k5⟩
      have H3 : Hid _ := And.intro (t5.more (by omega : c + 1 ≤ c + 130)) (HK3.out.trans k5)
      clear C4 t5 k5
      go_wp2_with fail
      go_ret
      exact ⟨rfl, H3.out⟩
end Go.Proofs.Ythlgeohncpmaaaa

/- The walk of Is. -/
namespace Go.Proofs.Ythlgeohncpmaaaa
open Go.RowKit

set_option maxRecDepth 20000 in
set_option maxHeartbeats 1000000 in
theorem is_any {No : Nat → Prop} {w : World} {T A b a S hb c : Nat} {t : TS} {s : H.St} (h : TT No w T A b a S hb c t s) (hc : c ≤ 700000) (n : Int) (hr0 : -9223372036854775808 ≤ n) (hr1 : n ≤ (9223372036854775807 : Int)) :
    Calls Try.prog 15 #[tp T, .int .i64 n] w fun e w' => e = .returned (.bool (bis t n).1) ∧ TT No w' T A b a S hb (c + 2) (bis t n).2 s ∧ Keep No w w' := by
  have HT : Hid (TT No w T A b a S hb c t s) := h
  have HC : Hid (∀ (W : World) (t' : TS) (c' : Nat) (m : Int), 0 ≤ m → m ≤ (9223372036854775807 : Int) → c' ≤ 900000 → TT No W T A b a S hb c' t' s → Calls Try.prog 31 #[.pointer (some ⟨T, 0, none⟩), .int .i64 m] W fun e w' => e = .returned (.bool (hs t'.p m)) ∧ TT No w' T A b a S hb (c' + 1) { t' with pr := t'.pr + (rdn t'.p m : Nat) } s ∧ Keep No W w') := fun W t' c' m g0 g1 g2 q => has_any q g2 m (rng_kn g0 g1)
  unfold bis tp
  clear h
  by_cases q0 : n < 0
  · rw [if_pos q0]
    go_enter Try.func15, Try.ntmps15
    go_wp2_with fail
    go_ret
    exact ⟨rfl, HT.out.more (by omega), Keep.refl _ _⟩
  · rw [if_neg q0]
    have e0 : ({ t with pr := t.pr + ((0 : Nat) : Int) } : TS) = t := by simp
    by_cases q1 : n > 0
    · have q1' : (0 : Int) < n := q1
      rw [if_pos q1]
      have C1 := HC.out w t c n (by omega) hr1 (by omega) HT.out
      cases e1 : hs t.p n with
      | false =>
        rw [if_pos ⟨q1, rfl⟩]
        rw [e1] at C1
        go_enter Try.func15, Try.ntmps15
        go_wp2_with fail
        refine C1.mono ?_; rintro e W1 ⟨rfl, t1, k1⟩
        have H1 : Hid _ := And.intro t1 k1
        clear C1 t1 k1
        go_wp2_with fail
        go_ret
        exact ⟨rfl, H1.out.1.more (by omega), H1.out.2⟩
      | true =>
        rw [if_neg (by simp)]
        rw [e1] at C1
        by_cases q2 : n = (9223372036854775807 : Int)
        · rw [if_pos q2]
          subst q2
          go_enter Try.func15, Try.ntmps15
          go_wp2_with fail
          refine C1.mono ?_; rintro e W1 ⟨rfl, t1, k1⟩
          have H1 : Hid _ := And.intro t1 k1
          clear C1 t1 k1
          go_wp2_with fail
          go_ret
          exact ⟨rfl, H1.out.1.more (by omega), H1.out.2⟩
        · rw [if_neg q2]
          have hw : IntKind.i64.wrap (n + 1) = n + 1 := by rw [IntKind.wrap_i64]; omega
          have hq2 : (n == (9223372036854775807 : Int)) = false := by simpa using q2
          go_enter Try.func15, Try.ntmps15
          go_wp2_with fail
          refine C1.mono ?_; rintro e W1 ⟨rfl, t1, k1⟩
          have C2 := HC.out W1 _ _ (n + 1) (by omega) (by omega) (by omega) t1
          have H1 : Hid _ := k1
          clear C1 t1 k1
          go_wp2_with fail
          refine C2.mono ?_; rintro e W2 ⟨rfl, t2, k2⟩
          have H2 : Hid _ := And.intro t2 (H1.out.trans k2)
          clear C2 t2 k2
          go_wp2_with fail
          go_ret
          exact ⟨rfl, H2.out⟩
    · have e2 : n = 0 := by omega
      subst e2
      rw [if_neg (fun q => q1 q.1), if_neg (by omega), if_neg q1]
      have e3 : t.pr + ((0 : Nat) : Int) + ((rdn t.p (0 + 1) : Nat) : Int) = t.pr + ((rdn t.p 1 : Nat) : Int) := by simp
      rw [e3]
      have C1 := HC.out w t c 1 (by omega) (by omega) (by omega) HT.out
      go_enter Try.func15, Try.ntmps15
      go_wp2_with fail
      refine C1.mono ?_; rintro e W1 ⟨rfl, t1, k1⟩
      have H1 : Hid _ := And.intro t1 k1
      clear C1 t1 k1
      go_wp2_with fail
      go_ret
      exact ⟨rfl, H1.out.1.more (by omega), H1.out.2⟩
end Go.Proofs.Ythlgeohncpmaaaa

/- The walk of the reference's Ceil2. -/
namespace Go.Proofs.Ythlgeohncpmaaaa.C
open Go.RowKit

set_option maxRecDepth 20000 in
set_option maxHeartbeats 1000000 in
theorem rlog_pos (n : Int) (w : World) (h0 : 1 ≤ n) (h1 : n ≤ 9223372036854775807) : Calls Try.prog 59 #[.int .i64 n] w fun e w' => e = .returned (.int .i64 (lgN n)) ∧ w' = w := by
  have H1 : Hid (n ≤ 9223372036854775807) := h1
  clear h1
  go_enter Try.func59, Try.ntmps59
  go_wp2
  go_loop [3] (fun v => ∃ k : Nat, k ≤ 62 ∧ Hid (k = 0 ∨ 2 ^ (k - 1) < n.toNat) ∧ v = .int .i64 k) (fun v => 62 - (intOf v).toNat)
  case atStart => exact ⟨0, by omega, .inl rfl, rfl⟩
  case round =>
    obtain ⟨k, hk, HK, rfl⟩ := hrel
    have hp := pow_fit k hk
    have HP : Hid (((2 ^ k : Nat) : Int) = (2 : Int) ^ k) := pow_int k
    go_wp2
    · go_round
      case rel => exact ⟨k + 1, by omega, .inr (by have := HP.out; show 2 ^ k < _; omega), by go_num⟩
      case measure => simp [intOf]; omega
    · go_ret
      exact ⟨ret1 (by rw [← lgN_unique n k h0 H1.out (by have := HP.out; omega) HK.out]), rfl⟩
    · go_ret
      obtain rfl : k = 62 := by omega
      have h63 : n.toNat ≤ 2 ^ 63 := by have := H1.out; omega
      exact ⟨ret1 (by rw [← lgN_unique n 63 h0 H1.out h63 (.inr (by have := HP.out; show 2 ^ 62 < _; omega))]; rfl), rfl⟩
    · go_ret
      exact ⟨ret1 (by rw [← lgN_unique n k h0 H1.out (by have := HP.out; omega) HK.out]), rfl⟩
set_option maxRecDepth 20000 in
set_option maxHeartbeats 1000000 in
theorem rceil_any (n : Int) (w : World) (h0 : 0 ≤ n) (h1 : n ≤ 65536) : Calls Try.prog 41 #[.int .i64 n] w fun e w' => e = .returned (.tuple #[.int .i64 (up2 n), .int .i64 0]) ∧ w' = w := by
  unfold up2
  by_cases hz : n = 0
  · subst hz
    rw [if_pos rfl]
    go_enter Try.func41, Try.ntmps41
    go_wp2
    go_ret2
    exact ⟨rfl, rfl⟩
  · rw [if_neg hz]
    have hn : 1 ≤ n := by omega
    obtain ⟨hc, _, _, _, _, h30⟩ := cl_facts n hn (by omega)
    have HC : Hid (wrap64 (2 ^ lgN n) = cl n) := hc
    clear hc
    go_enter Try.func41, Try.ntmps41
    go_wp2_with (go_at_call 59; refine (rlog_pos _ _ hn (by omega)).mono ?_; rintro e w' ⟨rfl, rfl⟩)
    go_ret2
    exact ⟨ret2 HC.out rfl, rfl⟩
end Go.Proofs.Ythlgeohncpmaaaa.C

/- The reference's heap as the program's says; the walk of the reference's New. -/
namespace Go.Proofs.Ythlgeohncpmaaaa
open Go.RowKit

/-- The reference's heap, block S: it answers as s does. -/
def RH (No : Nat → Prop) (w : World) (S c : Nat) (s : H.St) : Prop := ∃ va r, H.Rp No w S c va r ∧ H.Sim 0 s r ∧ r.ck ≤ (c : Int)
theorem ck_take (r : H.Rs) (n : Int) : (H.rtSt r n).ck = r.ck := by unfold H.rtSt; split; rfl; split <;> rfl
theorem ck_give (r : H.Rs) (n : Int) : (H.rgSt r n).ck ≤ r.ck + 1 := by
  unfold H.rgSt
  split
  · exact Int.le_refl _
  · omega
section
variable {No No' : Nat → Prop} {w w' : World} {S c : Nat} {s : H.St}
theorem RH.below (h : RH No w S c s) (k : Below w.heap.size w w') : RH No w' S c s := by
  obtain ⟨va, r, h1, h2, h3⟩ := h
  exact ⟨va, r, h1.below k, h2, h3⟩
theorem RH.more (h : RH No w S c s) {c' : Nat} (hc : c ≤ c') : RH No w S c' s := by
  obtain ⟨va, r, h1, h2, h3⟩ := h
  exact ⟨va, r, h1.more hc, h2, by omega⟩
theorem RH.news (h : RH No w S c s) (k : Below w.heap.size w w') : RH (fun g => No g ∨ (w.heap.size ≤ g ∧ g < w'.heap.size)) w' S c s := by
  obtain ⟨va, r, h1, h2, h3⟩ := h
  refine ⟨va, r, h1.far (k.block S h1.apart.2) (fun g e => k.block g (h1.row.lt g e).2) (Nat.le_refl _) (fun g q => ?_), h2, h3⟩
  have := k.size
  rcases q with q | q
  · have := h1.nos g q
    exact ⟨by omega, fun e => h1.noS (e ▸ q), fun e => h1.nov g e q⟩
  · exact ⟨q.2, fun e => by have := h1.apart.2; omega, fun e => by have := (h1.row.lt g e).2; omega⟩
theorem RH.sub (h : RH No w S c s) (hn : ∀ g, No' g → No g) : RH No' w S c s := by
  obtain ⟨va, r, h1, h2, h3⟩ := h
  exact ⟨va, r, h1.far rfl (fun _ _ => rfl) (Nat.le_refl _) (fun g q => ⟨h1.nos g (hn g q), fun e => h1.noS (e ▸ hn g q), fun e => h1.nov g e (hn g q)⟩), h2, h3⟩
theorem RH.frame (h : RH No w S c s) (hs : w.heap.size ≤ w'.heap.size) (hb : ∀ g, g < w.heap.size → ¬ No g → w'.heap[g]? = w.heap[g]?) : RH No w' S c s := by
  obtain ⟨va, r, h1, h2, h3⟩ := h
  exact ⟨va, r, h1.far (hb S h1.apart.2 h1.noS) (fun g e => hb g (h1.row.lt g e).2 (h1.nov g e)) (Nat.le_refl _) (fun g q => ⟨Nat.lt_of_lt_of_le (h1.nos g q) hs, fun e => h1.noS (e ▸ q), fun e => h1.nov g e q⟩), h2, h3⟩
theorem RH.nos (h : RH No w S c s) : ∀ g, No g → g < w.heap.size := by
  obtain ⟨va, r, h1, h2, h3⟩ := h
  exact h1.nos
theorem RH.sets (h : RH No w S c s) {N i : Nat} (v : Value) (hN : No N) : RH No (w.setCell ⟨N, i, none⟩ v) S c s := h.frame (by simp [World.setCell]) (fun g _ hn => Below.heap_setCell _ _ _ _ (fun e => hn (by rw [e]; exact hN)))
theorem rtk (h : RH No w S c s) (hc : c ≤ 900000) (iv : H.Inv 0 s) (n : Int) :
    Calls Try.prog 42 #[.pointer (some ⟨S, 0, none⟩), .int .i64 n] w fun e w' => e = .returned (.tuple #[.int .i64 (H.takeId s n), .int .i64 (H.takeE s n)]) ∧ RH No w' S (c + 1) (H.takeSt s n) ∧ Keep No w w' := by
  obtain ⟨va, r, h1, h2, h3⟩ := h
  have hl := h2.live iv
  have h5 := iv.ok.l0
  have h6 := iv.l1
  have h7 := iv.l2
  have hlim := h2.lim
  refine (H.rtake_any h1 (by omega) (h2.ok iv) (by omega) (by omega) (by omega) n).mono ?_
  rintro e w' ⟨rfl, ⟨v', hp⟩, kk⟩
  obtain ⟨m1, m2⟩ := h2.take iv n
  exact ⟨by rw [m2, h2.E iv n], ⟨v', _, hp, m1, by rw [ck_take]; omega⟩, kh kk⟩
theorem rgv (h : RH No w S c s) (hc : c ≤ 900000) (iv : H.Inv 0 s) (id : Int) :
    Calls Try.prog 43 #[.pointer (some ⟨S, 0, none⟩), .int .i64 id] w fun e w' => e = .returned (.int .i64 (H.giveE s id)) ∧ RH No w' S (c + 1) (H.giveSt s id) ∧ Keep No w w' := by
  obtain ⟨va, r, h1, h2, h3⟩ := h
  refine (H.rgive_any h1 (by omega) h2.ck0 (by omega) id).mono ?_
  rintro e w' ⟨rfl, hp, kk⟩
  exact ⟨by rw [h2.giveE id], ⟨va, _, hp.more (by omega), h2.give iv id, by have := ck_give r id; omega⟩, kh kk⟩
theorem rlv_any (h : RH No w S c s) (hc : c ≤ 900000) (iv : H.Inv 0 s) : Calls Try.prog 60 #[.pointer (some ⟨S, 0, none⟩)] w fun e w' => e = .returned (.int .i64 s.live) ∧ w' = w := by
  obtain ⟨va, r, h1, h2, h3⟩ := h
  rw [← h2.live iv]
  exact H.rlive_any h1 (by omega) (h2.ok iv)
end
end Go.Proofs.Ythlgeohncpmaaaa
