/- The walk of put: one place has v, and then the other has u. -/
import Derived.Test.YtkmopcanaalemabGreatCg16
import Derived.Test.YtkmopcanaalemabGreatCg06
import Derived.Test.YtkmopcanaalemabGreatCg11
namespace Go.Proofs.YtkmopcanaalemabGreat
open Go.RowKit

/-- What a put answers and leaves. -/
def PuP (No : Nat → Prop) (w : World) (B : Nat) (wv : Value) (T S hb c : Nat) (d : SD) (a1 : Int) (v : V) (b1 : Int) (u : V) (e : Ending) (w' : World) : Prop :=
  e = .returned (.int .i64 (putE d a1 v b1 u)) ∧ (∃ A' b' a', So No w' B wv T A' b' a' S hb (c + 14) (putD d a1 v b1 u)) ∧ Keep (Nq No B wv) w w'
set_option maxRecDepth 20000 in
set_option maxHeartbeats 4000000 in
theorem put_any {No : Nat → Prop} {w : World} {B : Nat} {wv : Value} {T A b a S hb c : Nat} {d : SD} (h : So No w B wv T A b a S hb c d) (hc : c ≤ 600000) (i1 i2 : Int) (v u : V) (h1 : -9223372036854775808 ≤ i1) (h2 : i1 ≤ 9223372036854775807) (h3 : -9223372036854775808 ≤ i2) (h4 : i2 ≤ 9223372036854775807) :
    Calls Tryz.prog 97 #[.pointer (some ⟨B, 0, none⟩), .int .i64 i1, vv v, .int .i64 i2, vv u] w (PuP No w B wv T S hb c d i1 v i2 u) := by
  have B0 := b2 w (vb v.1 v.2.1 v.2.2) (vb u.1 u.2.1 u.2.2)
  have X1 := (Bx.made w v).below (b1 _ (vb u.1 u.2.1 u.2.2))
  have X2 := Bx.made (w.alloc (vb v.1 v.2.1 v.2.2)) u
  have eX : (w.alloc (vb v.1 v.2.1 v.2.2)).heap.size = w.heap.size + 1 := by simp
  rw [eX] at X2
  have z0 : ((w.alloc (vb v.1 v.2.1 v.2.2)).alloc (vb u.1 u.2.1 u.2.2)).heap.size = w.heap.size + 2 := by simp
  obtain ⟨W0, hW0⟩ : ∃ W0, (w.alloc (vb v.1 v.2.1 v.2.2)).alloc (vb u.1 u.2.1 u.2.2) = W0 := ⟨_, rfl⟩
  rw [hW0] at B0 X1 X2 z0
  have hs0 := h.below B0
  have tn := h.tt.news B0
  have c0 : W0.cell? ⟨B, 0, none⟩ = some (.pointer (some ⟨T, 0, none⟩)) := hs0.cell (j := 0) rfl
  obtain ⟨N2, hN2⟩ : ∃ N2, (fun g => Nq No B wv g ∨ (w.heap.size ≤ g ∧ g < W0.heap.size)) = N2 := ⟨_, rfl⟩
  have HN : Hid ((∀ g, Nq No B wv g → N2 g) ∧ N2 w.heap.size ∧ N2 (w.heap.size + 1) ∧ N2 B) := by
    subst hN2
    exact ⟨fun g q => .inl q, .inr ⟨Nat.le_refl _, by omega⟩, .inr ⟨by omega, by omega⟩, .inl (.inr (.inl rfl))⟩
  rw [hN2] at tn
  clear hN2
  have C1 := tset_any (tn.below (bdrew1 W0)) (by omega) (kn i1) v (rng_kn h1 h2)
  have HX1 : Hid (Bx W0 w.heap.size v) := X1
  have HX2 : Hid (Bx W0 (w.heap.size + 1) u) := X2
  have HS : Hid (So No W0 B wv T A b a S hb c d) := hs0
  have HK : Hid (Keep (Nq No B wv) w W0) := Keep.of B0
  have x0 := X1.c0
  have x1 := X1.c1
  have x2 := X1.c2
  obtain ⟨R1, hR1⟩ : ∃ R1, tset d.2.1 d.2.2 (kn i1) v = R1 := ⟨_, rfl⟩
  rw [hR1] at C1
  have hE : stE d i1 v = R1.2.2 := by unfold stE; rw [hR1]
  have hD : stD d i1 v = (d.1, R1.1, R1.2.1) := by unfold stD; rw [hR1]
  unfold PuP putE putD
  rw [hE, hD]
  unfold vv vl kn at C1
  unfold vv vl
  unfold vb at hW0
  clear hs0 tn X1 X2 h B0 hE hD hR1
  by_cases hE0 : R1.2.2 = 0
  · rw [if_neg (by rw [hE0]; simp), if_neg (by rw [hE0]; simp)]
    obtain ⟨R2, hR2⟩ : ∃ R2, tset R1.1 R1.2.1 (kn i2) u = R2 := ⟨_, rfl⟩
    have hE2 : stE (d.1, R1.1, R1.2.1) i2 u = R2.2.2 := by unfold stE; rw [hR2]
    have hD2 : stD (d.1, R1.1, R1.2.1) i2 u = (d.1, R2.1, R2.2.1) := by unfold stD; rw [hR2]
    rw [hE2, hD2]
    have HR2 : Hid (tset R1.1 R1.2.1 (kn i2) u = R2) := hR2
    clear hR2 hE2 hD2
    go_enter Tryz.func97, Tryz.ntmps97
    go_wp2_with fail
    refine wp_tail 7 (by kernel_rfl) (by kernel_rfl) ?_
    simp only [List.take_succ_cons, List.take_zero, List.drop_succ_cons, List.drop_zero]
    repeat still_step
    refine wpStill_nil ?_
    go_wp2_with fail
    refine C1.mono ?_
    rintro e w1 ⟨rfl, ⟨A1, b1', a1', t1⟩, k1⟩
    have K1 : Keep N2 W0 w1 := ((Keep.refl N2 W0).drew).trans k1
    have Y2 := HX2.out.kept K1 HN.out.2.2.1
    have HS1 : Hid (So No w1 B wv T A1 b1' a1' S hb (c + 7) (d.1, R1.1, R1.2.1)) := HS.out.via (K1.sub HN.out.1) (t1.sub HN.out.1)
    have HK1 : Hid (Keep (Nq No B wv) w w1) := HK.out.trans (K1.sub HN.out.1)
    have c1 : w1.cell? ⟨B, 0, none⟩ = some (.pointer (some ⟨T, 0, none⟩)) := HS1.out.cell (j := 0) rfl
    have y0 := Y2.c0
    have y1 := Y2.c1
    have y2 := Y2.c2
    have C2 := tset_any (t1.below (bdrew1 w1)) (by omega) (kn i2) u (rng_kn h3 h4)
    rw [HR2.out] at C2
    have HDD : Hid (∀ w2 A2 b2' a2', Keep N2 w1.drew w2 → TT N2 w2 T A2 b2' a2' S hb (c + 7 + 7) R2.1 R2.2.1 → So No w2 B wv T A2 b2' a2' S hb (c + 14) (d.1, R2.1, R2.2.1) ∧ Keep (Nq No B wv) w w2) := fun w2 A2 b2' a2' k2 t2 => by
      have K2 : Keep N2 w1 w2 := ((Keep.refl N2 w1).drew).trans k2
      exact ⟨HS1.out.via (K2.sub HN.out.1) (t2.sub HN.out.1), HK1.out.trans (K2.sub HN.out.1)⟩
    rw [hE0]
    unfold vv vl kn at C2
    clear C1 t1 k1 K1 Y2 HS1 HK1 HX1 HX2 HS HK x0 x1 x2 c0 hE0 HR2
    go_wp2_with fail
    refine wp_tail 7 (by kernel_rfl) (by kernel_rfl) ?_
    simp only [List.take_succ_cons, List.take_zero, List.drop_succ_cons, List.drop_zero]
    repeat still_step
    refine wpStill_nil ?_
    go_wp2_with fail
    refine C2.mono ?_
    rintro e w2 ⟨rfl, ⟨A2, b2', a2', t2⟩, k2⟩
    obtain ⟨q1, q2⟩ := HDD.out w2 A2 b2' a2' k2 t2
    have HQ : Hid (_ ∧ _) := ⟨q1, q2⟩
    clear HDD q1 q2 t2 k2 C2
    go_wp2
    go_ret
    exact ⟨rfl, ⟨A2, b2', a2', HQ.out.1⟩, HQ.out.2⟩
  · rw [if_pos hE0, if_pos hE0]
    have hE0' : (R1.2.2 != 0) = true := by simpa using hE0
    go_enter Tryz.func97, Tryz.ntmps97
    go_wp2_with fail
    refine wp_tail 7 (by kernel_rfl) (by kernel_rfl) ?_
    simp only [List.take_succ_cons, List.take_zero, List.drop_succ_cons, List.drop_zero]
    repeat still_step
    refine wpStill_nil ?_
    go_wp2_with fail
    refine C1.mono ?_
    rintro e w1 ⟨rfl, ⟨A1, b1', a1', t1⟩, k1⟩
    have K1 : Keep N2 W0 w1 := ((Keep.refl N2 W0).drew).trans k1
    have HQ : Hid (So No w1 B wv T A1 b1' a1' S hb (c + 14) (d.1, R1.1, R1.2.1) ∧ Keep (Nq No B wv) w w1) := ⟨HS.out.via (K1.sub HN.out.1) ((t1.sub HN.out.1).more (by omega)), HK.out.trans (K1.sub HN.out.1)⟩
    clear C1 t1 k1 K1 HX1 HX2 HS HK x0 x1 x2 c0 hE0
    go_wp2
    go_ret
    exact ⟨rfl, ⟨A1, b1', a1', HQ.out.1⟩, HQ.out.2⟩
end Go.Proofs.YtkmopcanaalemabGreat

/- The walk of the reference's Ceil2. -/
namespace Go.Proofs.YtkmopcanaalemabGreat.C
open Go.RowKit

set_option maxRecDepth 20000 in
set_option maxHeartbeats 1000000 in
theorem rlog_pos (n : Int) (w : World) (h0 : 1 ≤ n) (h1 : n ≤ 9223372036854775807) : Calls Tryz.prog 87 #[.int .i64 n] w fun e w' => e = .returned (.int .i64 (lgN n)) ∧ w' = w := by
  have H1 : Hid (n ≤ 9223372036854775807) := h1
  clear h1
  go_enter Tryz.func87, Tryz.ntmps87
  go_wp2
  go_loop [3] (fun v => ∃ k : Nat, k ≤ 62 ∧ Hid (k = 0 ∨ 2 ^ (k - 1) < n.toNat) ∧ v = .int .i64 k) (fun v => 62 - (intOf v).toNat)
  case atStart => exact ⟨0, by omega, .inl rfl, rfl⟩
  case round =>
    obtain ⟨k, hk, HK, rfl⟩ := hrel
    have hp := pow_fit k hk
    have HP : Hid (((2 ^ k : Nat) : Int) = (2 : Int) ^ k) := pow_int k
    go_wp2
    · go_round
      case rel => exact ⟨k + 1, by omega, .inr (by have := HP.out; show 2 ^ k < _; omega), by go_num⟩
      case measure => simp [intOf]; omega
    · go_ret
      exact ⟨ret1 (by rw [← lgN_unique n k h0 H1.out (by have := HP.out; omega) HK.out]), rfl⟩
    · go_ret
      obtain rfl : k = 62 := by omega
      have h63 : n.toNat ≤ 2 ^ 63 := by have := H1.out; omega
      exact ⟨ret1 (by rw [← lgN_unique n 63 h0 H1.out h63 (.inr (by have := HP.out; show 2 ^ 62 < _; omega))]; rfl), rfl⟩
    · go_ret
      exact ⟨ret1 (by rw [← lgN_unique n k h0 H1.out (by have := HP.out; omega) HK.out]), rfl⟩
set_option maxRecDepth 20000 in
set_option maxHeartbeats 1000000 in
theorem rceil_any (n : Int) (w : World) (h0 : 0 ≤ n) (h1 : n ≤ 65536) : Calls Tryz.prog 47 #[.int .i64 n] w fun e w' => e = .returned (.tuple #[.int .i64 (up2 n), .int .i64 0]) ∧ w' = w := by
  unfold up2
  by_cases hz : n = 0
  · subst hz
    rw [if_pos rfl]
    go_enter Tryz.func47, Tryz.ntmps47
    go_wp2
    go_ret2
    exact ⟨rfl, rfl⟩
  · rw [if_neg hz]
    have hn : 1 ≤ n := by omega
    obtain ⟨hc, _, _, _, _, h30⟩ := cl_facts n hn (by omega)
    have HC : Hid (wrap64 (2 ^ lgN n) = cl n) := hc
    clear hc
    go_enter Tryz.func47, Tryz.ntmps47
    go_wp2_with (go_at_call 87; refine (rlog_pos _ _ hn (by omega)).mono ?_; rintro e w' ⟨rfl, rfl⟩)
    go_ret2
    exact ⟨ret2 HC.out rfl, rfl⟩
end Go.Proofs.YtkmopcanaalemabGreat.C

/- The reference's heap as the program's says; the walk of the reference's New. -/
namespace Go.Proofs.YtkmopcanaalemabGreat
open Go.RowKit

/-- The reference's heap, block S: it answers as s does. -/
def RH (No : Nat → Prop) (w : World) (S c : Nat) (s : H.St) : Prop := ∃ va r, H.Rp No w S c va r ∧ H.Sim 0 s r ∧ r.ck ≤ (c : Int)
theorem ck_take (r : H.Rs) (n : Int) : (H.rtSt r n).ck = r.ck := by unfold H.rtSt; split; rfl; split <;> rfl
theorem ck_give (r : H.Rs) (n : Int) : (H.rgSt r n).ck ≤ r.ck + 1 := by
  unfold H.rgSt
  split
  · exact Int.le_refl _
  · omega
section
variable {No No' : Nat → Prop} {w w' : World} {S c : Nat} {s : H.St}
theorem RH.below (h : RH No w S c s) (k : Below w.heap.size w w') : RH No w' S c s := by
  obtain ⟨va, r, h1, h2, h3⟩ := h
  exact ⟨va, r, h1.below k, h2, h3⟩
theorem RH.more (h : RH No w S c s) {c' : Nat} (hc : c ≤ c') : RH No w S c' s := by
  obtain ⟨va, r, h1, h2, h3⟩ := h
  exact ⟨va, r, h1.more hc, h2, by omega⟩
theorem RH.news (h : RH No w S c s) (k : Below w.heap.size w w') : RH (fun g => No g ∨ (w.heap.size ≤ g ∧ g < w'.heap.size)) w' S c s := by
  obtain ⟨va, r, h1, h2, h3⟩ := h
  refine ⟨va, r, h1.far (k.block S h1.apart.2) (fun g e => k.block g (h1.row.lt g e).2) (Nat.le_refl _) (fun g q => ?_), h2, h3⟩
  have := k.size
  rcases q with q | q
  · have := h1.nos g q
    exact ⟨by omega, fun e => h1.noS (e ▸ q), fun e => h1.nov g e q⟩
  · exact ⟨q.2, fun e => by have := h1.apart.2; omega, fun e => by have := (h1.row.lt g e).2; omega⟩
theorem RH.sub (h : RH No w S c s) (hn : ∀ g, No' g → No g) : RH No' w S c s := by
  obtain ⟨va, r, h1, h2, h3⟩ := h
  exact ⟨va, r, h1.far rfl (fun _ _ => rfl) (Nat.le_refl _) (fun g q => ⟨h1.nos g (hn g q), fun e => h1.noS (e ▸ hn g q), fun e => h1.nov g e (hn g q)⟩), h2, h3⟩
theorem RH.frame (h : RH No w S c s) (hs : w.heap.size ≤ w'.heap.size) (hb : ∀ g, g < w.heap.size → ¬ No g → w'.heap[g]? = w.heap[g]?) : RH No w' S c s := by
  obtain ⟨va, r, h1, h2, h3⟩ := h
  exact ⟨va, r, h1.far (hb S h1.apart.2 h1.noS) (fun g e => hb g (h1.row.lt g e).2 (h1.nov g e)) (Nat.le_refl _) (fun g q => ⟨Nat.lt_of_lt_of_le (h1.nos g q) hs, fun e => h1.noS (e ▸ q), fun e => h1.nov g e q⟩), h2, h3⟩
theorem RH.nos (h : RH No w S c s) : ∀ g, No g → g < w.heap.size := by
  obtain ⟨va, r, h1, h2, h3⟩ := h
  exact h1.nos
theorem RH.sets (h : RH No w S c s) {N i : Nat} (v : Value) (hN : No N) : RH No (w.setCell ⟨N, i, none⟩ v) S c s := h.frame (by simp [World.setCell]) (fun g _ hn => Below.heap_setCell _ _ _ _ (fun e => hn (by rw [e]; exact hN)))
theorem rtk (h : RH No w S c s) (hc : c ≤ 900000) (iv : H.Inv 0 s) (n : Int) :
    Calls Tryz.prog 48 #[.pointer (some ⟨S, 0, none⟩), .int .i64 n] w fun e w' => e = .returned (.tuple #[.int .i64 (H.takeId s n), .int .i64 (H.takeE s n)]) ∧ RH No w' S (c + 1) (H.takeSt s n) ∧ Keep No w w' := by
  obtain ⟨va, r, h1, h2, h3⟩ := h
  have hl := h2.live iv
  have h5 := iv.ok.l0
  have h6 := iv.l1
  have h7 := iv.l2
  have hlim := h2.lim
  refine (H.rtake_any h1 (by omega) (h2.ok iv) (by omega) (by omega) (by omega) n).mono ?_
  rintro e w' ⟨rfl, ⟨v', hp⟩, kk⟩
  obtain ⟨m1, m2⟩ := h2.take iv n
  exact ⟨by rw [m2, h2.E iv n], ⟨v', _, hp, m1, by rw [ck_take]; omega⟩, kh kk⟩
theorem rgv (h : RH No w S c s) (hc : c ≤ 900000) (iv : H.Inv 0 s) (id : Int) :
    Calls Tryz.prog 49 #[.pointer (some ⟨S, 0, none⟩), .int .i64 id] w fun e w' => e = .returned (.int .i64 (H.giveE s id)) ∧ RH No w' S (c + 1) (H.giveSt s id) ∧ Keep No w w' := by
  obtain ⟨va, r, h1, h2, h3⟩ := h
  refine (H.rgive_any h1 (by omega) h2.ck0 (by omega) id).mono ?_
  rintro e w' ⟨rfl, hp, kk⟩
  exact ⟨by rw [h2.giveE id], ⟨va, _, hp.more (by omega), h2.give iv id, by have := ck_give r id; omega⟩, kh kk⟩
theorem rlv_any (h : RH No w S c s) (hc : c ≤ 900000) (iv : H.Inv 0 s) : Calls Tryz.prog 88 #[.pointer (some ⟨S, 0, none⟩)] w fun e w' => e = .returned (.int .i64 s.live) ∧ w' = w := by
  obtain ⟨va, r, h1, h2, h3⟩ := h
  rw [← h2.live iv]
  exact H.rlive_any h1 (by omega) (h2.ok iv)
end
end Go.Proofs.YtkmopcanaalemabGreat

/- The walk of the reference's New. -/
namespace Go.Proofs.YtkmopcanaalemabGreat
open Go.RowKit

set_option maxRecDepth 20000 in
set_option maxHeartbeats 2000000 in
theorem rnew_arg (w : World) (S : Nat) (x y : Int) (hb : ¬ (0 ≤ x ∧ x ≤ 65536) ∨ ¬ (0 ≤ y ∧ y ≤ 65536)) :
    Calls Tryz.prog 25 #[.pointer (some ⟨S, 0, none⟩), .int .i64 x, .int .i64 y] w fun e w' => e = .returned (.tuple #[.pointer none, .int .i64 1]) ∧ w' = w := by
  by_cases h1 : x < 0
  · clear hb
    go_enter Tryz.func25, Tryz.ntmps25
    go_wp2_with fail
    go_ret2; exact ⟨rfl, rfl⟩
  · by_cases h2 : 65536 < x
    · clear hb
      go_enter Tryz.func25, Tryz.ntmps25
      go_wp2_with fail
      go_ret2; exact ⟨rfl, rfl⟩
    · by_cases h3 : y < 0
      · clear hb
        go_enter Tryz.func25, Tryz.ntmps25
        go_wp2_with fail
        go_ret2; exact ⟨rfl, rfl⟩
      · have h4 : 65536 < y := by omega
        clear hb
        go_enter Tryz.func25, Tryz.ntmps25
        go_wp2_with fail
        go_ret2; exact ⟨rfl, rfl⟩

set_option maxRecDepth 20000 in
set_option maxHeartbeats 2000000 in
theorem rnew_cells {No : Nat → Prop} {w : World} {S c : Nat} {s : H.St} (h : RH No w S c s) (hc : c ≤ 700000) (iv : H.Inv 0 s) (x y : Nat) (hx : x ≤ 65536) (hy : y ≤ 65536) (he : H.takeE s 4 ≠ 0) :
    Calls Tryz.prog 25 #[.pointer (some ⟨S, 0, none⟩), .int .i64 (x : Nat), .int .i64 (y : Nat)] w fun e w' => e = .returned (.tuple #[.pointer none, .int .i64 (H.takeE s 4)]) ∧ RH No w' S (c + 1) s ∧ Keep No w w' := by
  have h1 : ¬ ((x : Int) < 0) := by omega
  have h2 : ¬ (65536 < (x : Int)) := by omega
  have h3 : ¬ ((y : Int) < 0) := by omega
  have h4 : ¬ (65536 < (y : Int)) := by omega
  have C3 := fun W => C.rceil_any (y : Nat) W (by omega) (by omega)
  have C4 := rtk h (by omega) iv 4
  rw [(H.takeSt_bad (.inl he)).1] at C4
  generalize H.takeE s 4 = E at *
  generalize H.takeId s 4 = I at *
  generalize C.up2 (y : Nat) = z at *
  have heb : (E != 0) = true := by simp [he]
  clear h iv he
  go_enter Tryz.func25, Tryz.ntmps25
  go_wp2_with fail
  refine (C3 _).mono ?_; rintro e w' ⟨rfl, hw'⟩; rw [hw']; clear hw'
  go_wp2_with fail
  refine C4.mono ?_; rintro e W1 ⟨rfl, hp1, kk1⟩
  have HP : Hid (RH No W1 S (c + 1) s ∧ Keep No w W1) := ⟨hp1, kk1⟩
  clear hp1 kk1
  go_wp2_with fail
  go_ret2
  exact ⟨rfl, HP.out⟩

set_option maxRecDepth 20000 in
set_option maxHeartbeats 2000000 in
theorem rnew_one {No : Nat → Prop} {w : World} {S c : Nat} {s : H.St} (h : RH No w S c s) (hc : c ≤ 700000) (iv : H.Inv 0 s) (x y : Nat) (hx : x ≤ 65536) (hy : y ≤ 65536) (he : H.takeE s 4 = 0) (he2 : H.takeE (H.takeSt s 4) (x : Nat) ≠ 0) :
    Calls Tryz.prog 25 #[.pointer (some ⟨S, 0, none⟩), .int .i64 (x : Nat), .int .i64 (y : Nat)] w fun e w' => e = .returned (.tuple #[.pointer none, .int .i64 (H.takeE (H.takeSt s 4) (x : Nat))]) ∧ RH No w' S (c + 3) (H.giveSt (H.takeSt s 4) (H.takeId s 4)) ∧ Keep No w w' := by
  have h1 : ¬ ((x : Int) < 0) := by omega
  have h2 : ¬ (65536 < (x : Int)) := by omega
  have h3 : ¬ ((y : Int) < 0) := by omega
  have h4 : ¬ (65536 < (y : Int)) := by omega
  have C3 := fun W => C.rceil_any (y : Nat) W (by omega) (by omega)
  have C4 := rtk h (by omega) iv 4
  rw [he] at C4
  have iv2 := iv.take 4
  have C5 := fun W (h' : RH No W S (c + 1) (H.takeSt s 4)) => rtk h' (by omega) iv2 (x : Nat)
  rw [(H.takeSt_bad (.inl he2)).1] at C5
  have C6 := fun W (h' : RH No W S (c + 1 + 1) (H.takeSt s 4)) => rgv h' (by omega) iv2 (H.takeId s 4)
  generalize H.takeE (H.takeSt s 4) (x : Nat) = E at *
  generalize H.takeId (H.takeSt s 4) (x : Nat) = I2 at *
  generalize H.giveE (H.takeSt s 4) (H.takeId s 4) = E3 at *
  generalize H.giveSt (H.takeSt s 4) (H.takeId s 4) = s3 at *
  generalize H.takeSt s 4 = s2 at *
  generalize H.takeId s 4 = I at *
  generalize C.up2 (y : Nat) = z at *
  have heb : (E != 0) = true := by simp [he2]
  clear h iv he he2 iv2
  go_enter Tryz.func25, Tryz.ntmps25
  go_wp2_with fail
  refine (C3 _).mono ?_; rintro e w' ⟨rfl, hw'⟩; rw [hw']; clear hw'
  go_wp2_with fail
  refine C4.mono ?_; rintro e W1 ⟨rfl, hp1, kk1⟩
  have CC := C5 W1 hp1
  have HK1 : Hid (Keep No w W1) := kk1
  clear hp1 kk1 C4 C5
  go_wp2_with fail
  refine CC.mono ?_; rintro e W2 ⟨rfl, hp2, kk2⟩
  have CD := C6 W2 hp2
  have HK2 : Hid (Keep No w W2) := HK1.out.trans kk2
  clear hp2 kk2 CC C6
  go_wp2_with fail
  refine CD.mono ?_; rintro e W3 ⟨rfl, hp3, kk3⟩
  have HP : Hid (RH No W3 S (c + 1 + 1 + 1) s3 ∧ Keep No w W3) := ⟨hp3, HK2.out.trans kk3⟩
  clear hp3 kk3 CD
  go_wp2_with fail
  go_ret2
  exact ⟨rfl, HP.out⟩

set_option maxRecDepth 20000 in
set_option maxHeartbeats 2000000 in
theorem rnew_two {No : Nat → Prop} {w : World} {S c : Nat} {s : H.St} (h : RH No w S c s) (hc : c ≤ 700000) (iv : H.Inv 0 s) (x y z : Nat) (hx : x ≤ 65536) (hy : y ≤ 65536) (hz : C.up2 (y : Nat) = (z : Nat)) (hz2 : z ≤ 65536) (he : H.takeE s 4 = 0) (he2 : H.takeE (H.takeSt s 4) (x : Nat) = 0) (he3 : H.takeE (H.takeSt (H.takeSt s 4) (x : Nat)) (3 * (z : Nat)) ≠ 0) :
    Calls Tryz.prog 25 #[.pointer (some ⟨S, 0, none⟩), .int .i64 (x : Nat), .int .i64 (y : Nat)] w fun e w' => e = .returned (.tuple #[.pointer none, .int .i64 (H.takeE (H.takeSt (H.takeSt s 4) (x : Nat)) (3 * (z : Nat)))]) ∧ RH No w' S (c + 5) (H.giveSt (H.giveSt (H.takeSt (H.takeSt s 4) (x : Nat)) (H.takeId (H.takeSt s 4) (x : Nat))) (H.takeId s 4)) ∧ Keep No w w' := by
  have h1 : ¬ ((x : Int) < 0) := by omega
  have h2 : ¬ (65536 < (x : Int)) := by omega
  have h3 : ¬ ((y : Int) < 0) := by omega
  have h4 : ¬ (65536 < (y : Int)) := by omega
  have C3 := fun W => C.rceil_any (y : Nat) W (by omega) (by omega)
  rw [hz] at C3
  have C4 := rtk h (by omega) iv 4
  rw [he] at C4
  have iv2 := iv.take 4
  have iv3 := iv2.take (x : Nat)
  have C5 := fun W (h' : RH No W S (c + 1) (H.takeSt s 4)) => rtk h' (by omega) iv2 (x : Nat)
  rw [he2] at C5
  have C6 := fun W (h' : RH No W S (c + 1 + 1) (H.takeSt (H.takeSt s 4) (x : Nat))) => rtk h' (by omega) iv3 (3 * (z : Nat))
  rw [(H.takeSt_bad (.inl he3)).1] at C6
  have C7 := fun W (h' : RH No W S (c + 1 + 1 + 1) (H.takeSt (H.takeSt s 4) (x : Nat))) => rgv h' (by omega) iv3 (H.takeId (H.takeSt s 4) (x : Nat))
  have iv4 := iv3.give (H.takeId (H.takeSt s 4) (x : Nat))
  have C8 := fun W (h' : RH No W S (c + 1 + 1 + 1 + 1) (H.giveSt (H.takeSt (H.takeSt s 4) (x : Nat)) (H.takeId (H.takeSt s 4) (x : Nat)))) => rgv h' (by omega) iv4 (H.takeId s 4)
  have hw : IntKind.i64.wrap (3 * (z : Int)) = 3 * (z : Int) := by rw [IntKind.wrap_i64]; omega
  generalize H.giveE (H.giveSt (H.takeSt (H.takeSt s 4) (x : Nat)) (H.takeId (H.takeSt s 4) (x : Nat))) (H.takeId s 4) = E5 at *
  generalize H.giveSt (H.giveSt (H.takeSt (H.takeSt s 4) (x : Nat)) (H.takeId (H.takeSt s 4) (x : Nat))) (H.takeId s 4) = s5 at *
  generalize H.giveE (H.takeSt (H.takeSt s 4) (x : Nat)) (H.takeId (H.takeSt s 4) (x : Nat)) = E4 at *
  generalize H.giveSt (H.takeSt (H.takeSt s 4) (x : Nat)) (H.takeId (H.takeSt s 4) (x : Nat)) = s4 at *
  generalize H.takeE (H.takeSt (H.takeSt s 4) (x : Nat)) (3 * (z : Nat)) = E at *
  generalize H.takeId (H.takeSt (H.takeSt s 4) (x : Nat)) (3 * (z : Nat)) = I3 at *
  generalize H.takeSt (H.takeSt s 4) (x : Nat) = s3 at *
  generalize H.takeId (H.takeSt s 4) (x : Nat) = I2 at *
  generalize H.takeSt s 4 = s2 at *
  generalize H.takeId s 4 = I at *
  have heb : (E != 0) = true := by simp [he3]
  clear h iv he he2 he3 iv2 iv3 iv4 hz
  go_enter Tryz.func25, Tryz.ntmps25
  go_wp2_with fail
  refine (C3 _).mono ?_; rintro e w' ⟨rfl, hw'⟩; rw [hw']; clear hw'
  go_wp2_with fail
  refine C4.mono ?_; rintro e W1 ⟨rfl, hp1, kk1⟩
  have CC := C5 W1 hp1
  have HK1 : Hid (Keep No w W1) := kk1
  clear hp1 kk1 C4 C5
  go_wp2_with fail
  refine CC.mono ?_; rintro e W2 ⟨rfl, hp2, kk2⟩
  have CD := C6 W2 hp2
  have HK2 : Hid (Keep No w W2) := HK1.out.trans kk2
  clear hp2 kk2 CC C6
  go_wp2_with fail
  refine CD.mono ?_; rintro e W3 ⟨rfl, hp3, kk3⟩
  have CE := C7 W3 hp3
  have HK3 : Hid (Keep No w W3) := HK2.out.trans kk3
  clear hp3 kk3 CD C7
  go_wp2_with fail
  refine CE.mono ?_; rintro e W4 ⟨rfl, hp4, kk4⟩
  have CF := C8 W4 hp4
  have HK4 : Hid (Keep No w W4) := HK3.out.trans kk4
  clear hp4 kk4 CE C8
  go_wp2_with fail
  refine CF.mono ?_; rintro e W5 ⟨rfl, hp5, kk5⟩
  have HP : Hid (RH No W5 S (c + 1 + 1 + 1 + 1 + 1) s5 ∧ Keep No w W5) := ⟨hp5, HK4.out.trans kk5⟩
  clear hp5 kk5 CF
  go_wp2_with fail
  go_ret2
  exact ⟨rfl, HP.out⟩

/-- What the reference's New leaves, beside its heap. -/
structure Nr (w w' : World) (x z RT A P ka va ca : Nat) (S : Nat) (i1 i2 : Int) : Prop where
  str : w'.heap[RT]? = some (.cells #[.slice (some ⟨A, 0, none⟩) x x, .pointer (some ⟨P, 0, none⟩), .int .i64 i1, .int .i64 i2, .int .i64 0, .int .i64 0, .pointer (some ⟨S, 0, none⟩)] 87)
  arr : w'.heap[A]? = some (.cells (zeros3 x) 36)
  part : ∃ wa wb, Rn wa wb P ka va ca z ∧ Below wb.heap.size wb w' ∧ w.heap.size ≤ wa.heap.size
  ge : w.heap.size ≤ RT ∧ w.heap.size ≤ A
  ne : RT ≠ A ∧ RT ≠ P ∧ RT ≠ ka ∧ RT ≠ va ∧ RT ≠ ca ∧ A ≠ P ∧ A ≠ ka ∧ A ≠ va ∧ A ≠ ca
theorem nr_of {No : Nat → Prop} {w W w' wa wb : World} {x z S c RT A P ka va ca : Nat} {s : H.St} {i1 i2 : Int} (h : RH No W S c s) (hk : Keep No w W) (hB : Below W.heap.size W w') (hRT : w'.heap[RT]? = some (.cells #[.slice (some ⟨A, 0, none⟩) x x, .pointer (some ⟨P, 0, none⟩), .int .i64 i1, .int .i64 i2, .int .i64 0, .int .i64 0, .pointer (some ⟨S, 0, none⟩)] 87))
    (hA : w'.heap[A]? = some (.cells (zeros3 x) 36)) (hr : Rn wa wb P ka va ca z) (hb : Below wb.heap.size wb w') (hwa : W.heap.size ≤ wa.heap.size) (hgRT : wb.heap.size ≤ RT) (hgA : W.heap.size ≤ A) (hAn : A < wa.heap.size ∨ wb.heap.size ≤ A) (hne : RT ≠ A) :
    RH (fun g => No g ∨ g = RT ∨ g = A ∨ g = P ∨ g = ka ∨ g = va ∨ g = ca) w' S c s ∧ Keep No w w' ∧ Nr w w' x z RT A P ka va ca S i1 i2 := by
  have l1 := hr.lt
  have l2 := hr.ge
  have l3 := hk.size
  have lR : RT < w'.heap.size := (Array.getElem?_eq_some_iff.1 hRT).1
  have lA : A < w'.heap.size := (Array.getElem?_eq_some_iff.1 hA).1
  have l4 := hb.size
  have l5 := hr.bel.size
  refine ⟨(h.news hB).sub (fun g q => ?_), hk.bel hB, ⟨hRT, hA, ⟨wa, wb, hr, hb, by omega⟩, by omega, by omega⟩⟩
  rcases q with q | q | q | q | q | q | q
  · exact .inl q
  all_goals exact .inr (by omega)
set_option maxRecDepth 20000 in
set_option maxHeartbeats 2000000 in
theorem rnew_good {No : Nat → Prop} {w : World} {S c : Nat} {s : H.St} (h : RH No w S c s) (hc : c ≤ 700000) (iv : H.Inv 0 s) (x y z : Nat) (hx : x ≤ 65536) (hy : y ≤ 65536) (hz : C.up2 (y : Nat) = (z : Nat)) (hz2 : z ≤ 65536) (he : H.takeE s 4 = 0) (he2 : H.takeE (H.takeSt s 4) (x : Nat) = 0) (he3 : H.takeE (H.takeSt (H.takeSt s 4) (x : Nat)) (3 * (z : Nat)) = 0) :
    Calls Tryz.prog 25 #[.pointer (some ⟨S, 0, none⟩), .int .i64 (x : Nat), .int .i64 (y : Nat)] w fun e w' => ∃ RT A P ka va ca, e = .returned (.tuple #[.pointer (some ⟨RT, 0, none⟩), .int .i64 0]) ∧ RH (fun g => No g ∨ g = RT ∨ g = A ∨ g = P ∨ g = ka ∨ g = va ∨ g = ca) w' S (c + 3) (H.takeSt (H.takeSt (H.takeSt s 4) (x : Nat)) (3 * (z : Nat))) ∧ Keep No w w' ∧
      Nr w w' x z RT A P ka va ca S (H.takeId (H.takeSt s 4) (x : Nat)) (H.takeId (H.takeSt (H.takeSt s 4) (x : Nat)) (3 * (z : Nat))) := by
  have h1 : ¬ ((x : Int) < 0) := by omega
  have h2 : ¬ (65536 < (x : Int)) := by omega
  have h3 : ¬ ((y : Int) < 0) := by omega
  have h4 : ¬ (65536 < (y : Int)) := by omega
  have C3 := fun W => C.rceil_any (y : Nat) W (by omega) (by omega)
  rw [hz] at C3
  have C4 := rtk h (by omega) iv 4
  rw [he] at C4
  have iv2 := iv.take 4
  have iv3 := iv2.take (x : Nat)
  have C5 := fun W (h' : RH No W S (c + 1) (H.takeSt s 4)) => rtk h' (by omega) iv2 (x : Nat)
  rw [he2] at C5
  have C6 := fun W (h' : RH No W S (c + 1 + 1) (H.takeSt (H.takeSt s 4) (x : Nat))) => rtk h' (by omega) iv3 (3 * (z : Nat))
  rw [he3] at C6
  have hw : IntKind.i64.wrap (3 * (z : Int)) = 3 * (z : Int) := by rw [IntKind.wrap_i64]; omega
  have CN := fun W => rnew_any z W hz2
  have m1 := make_vals x hx
  generalize H.takeSt (H.takeSt (H.takeSt s 4) (x : Nat)) (3 * (z : Nat)) = s4 at *
  generalize H.takeId (H.takeSt (H.takeSt s 4) (x : Nat)) (3 * (z : Nat)) = I3 at *
  generalize H.takeSt (H.takeSt s 4) (x : Nat) = s3 at *
  generalize H.takeId (H.takeSt s 4) (x : Nat) = I2 at *
  generalize H.takeSt s 4 = s2 at *
  generalize H.takeId s 4 = I at *
  clear h iv he he2 he3 iv2 iv3 hz
  unfold pp at CN
  go_enter Tryz.func25, Tryz.ntmps25
  go_wp2_with fail
  refine (C3 _).mono ?_; rintro e w' ⟨rfl, hw'⟩; rw [hw']; clear hw'
  go_wp2_with fail
  refine C4.mono ?_; rintro e W1 ⟨rfl, hp1, kk1⟩
  have CC := C5 W1 hp1
  have HK1 : Hid (Keep No w W1) := kk1
  clear hp1 kk1 C4 C5
  go_wp2_with fail
  refine CC.mono ?_; rintro e W2 ⟨rfl, hp2, kk2⟩
  have CD := C6 W2 hp2
  have HK2 : Hid (Keep No w W2) := HK1.out.trans kk2
  clear hp2 kk2 CC C6
  go_wp2_with fail
  refine CD.mono ?_; rintro e W3 ⟨rfl, hp3, kk3⟩
  have HP3 : Hid (RH No W3 S (c + 1 + 1 + 1) s4 ∧ Keep No w W3) := ⟨hp3, HK2.out.trans kk3⟩
  clear hp3 kk3 CD
  obtain ⟨zz, hzz⟩ : ∃ zz, zeros3 x = zz := ⟨_, rfl⟩
  have HZZ : Hid (zeros3 x = zz) := hzz
  rw [hzz] at m1
  clear hzz
  obtain ⟨Wm, hWm⟩ : ∃ Wm, W3.drew.alloc (.cells zz 36) = Wm := ⟨_, rfl⟩
  have CNd := CN W3.drew
  have CNm := CN Wm
  have HWm : Hid (Below W3.heap.size W3 Wm ∧ Wm.heap.size = W3.heap.size + 1 ∧ Wm.heap[W3.heap.size]? = some (.cells zz 36)) := by
    rw [← hWm]
    exact ⟨bthen (bdrew1 W3) (Nat.le_refl _) (b1 _ _), by simp, (MapKept.heap_alloc W3.drew _).1⟩
  clear CN
  go_wp2_with fail
  go_region_with (first
    | (go_at_call 50; refine CNd.mono ?_; rintro e w4 ⟨P, ka, va, ca, rfl, r4⟩; have HRd : Hid (Rn W3.drew w4 P ka va ca z) := r4; clear r4)
    | (go_at_call 50; refine CNm.mono ?_; rintro e w4 ⟨P, ka, va, ca, rfl, r4⟩; have HRm : Hid (Rn Wm w4 P ka va ca z) := r4; clear r4))
  all_goals
    go_wp2_with fail
    go_ret2
  all_goals first
    | exact ⟨w4.heap.size, W3.heap.size, P, ka, va, ca, rfl, nr_of HP3.out.1 HP3.out.2 (bthen (bthen HWm.out.1 HWm.out.1.size HRm.out.bel) (by have := HWm.out.1.size; have := HRm.out.bel.size; omega) (b1 _ _)) (MapKept.heap_alloc w4 _).1
        (by have h0 := HWm.out.2.2
            have h1 := HRm.out.bel.block W3.heap.size (by have := HWm.out.2.1; omega)
            rw [Below.heap_alloc _ _ _ (by have := HWm.out.2.1; have := HRm.out.bel.size; omega), h1, h0, HZZ.out]) HRm.out (b1 _ _) HWm.out.1.size (Nat.le_refl _) (Nat.le_refl _) (.inl (by have := HWm.out.2.1; omega)) (by have := HWm.out.2.1; have := HRm.out.bel.size; omega)⟩
    | exact ⟨w4.heap.size + 1, w4.heap.size, P, ka, va, ca, rfl, nr_of HP3.out.1 HP3.out.2 (bthen (bthen (bdrew1 W3) (Nat.le_refl _) HRd.out.bel) (by have h0 := HRd.out.bel.size; exact h0) (b2 _ _ _))
        (by have h0 := (MapKept.heap_alloc (w4.alloc (.cells zz 36)) (.cells #[.slice (some ⟨w4.heap.size, 0, none⟩) x x, .pointer (some ⟨P, 0, none⟩), .int .i64 I2, .int .i64 I3, .int .i64 0, .int .i64 0, .pointer (some ⟨S, 0, none⟩)] 87)).1
            simpa using h0)
        (by rw [Below.heap_alloc _ _ _ (by simp), HZZ.out]; exact (MapKept.heap_alloc w4 _).1) HRd.out (b2 _ _ _) (Nat.le_refl _) (by omega) (by have h0 := HRd.out.bel.size; exact h0) (.inr (Nat.le_refl _)) (by omega)⟩
end Go.Proofs.YtkmopcanaalemabGreat
