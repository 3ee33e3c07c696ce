/- The walk of the reference's Ceil2. -/
import Derived.Test.YtkmopcanaalemabGreatCg06
import Derived.Test.YtkmopcanaalemabGreatCg16
import Derived.Test.YtkmopcanaalemabGreatCg11
namespace Go.Proofs.YtkmopcanaalemabGreat.C
open Go.RowKit

set_option maxRecDepth 20000 in
set_option maxHeartbeats 1000000 in
theorem rlog_pos (n : Int) (w : World) (h0 : 1 ≤ n) (h1 : n ≤ 9223372036854775807) : Calls Tryz.prog 87 #[.int .i64 n] w fun e w' => e = .returned (.int .i64 (lgN n)) ∧ w' = w := by
  have H1 : Hid (n ≤ 9223372036854775807) := h1
  clear h1
  go_enter Tryz.func87, Tryz.ntmps87
  go_wp2
  go_loop [3] (fun v => ∃ k : Nat, k ≤ 62 ∧ Hid (k = 0 ∨ 2 ^ (k - 1) < n.toNat) ∧ v = .int .i64 k) (fun v => 62 - (intOf v).toNat)
  case atStart => exact ⟨0, by omega, .inl rfl, rfl⟩
  case round =>
    obtain ⟨k, hk, HK, rfl⟩ := hrel
    have hp := pow_fit k hk
    have HP : Hid (((2 ^ k : Nat) : Int) = (2 : Int) ^ k) := pow_int k
    go_wp2
    · go_round
      case rel => exact ⟨k + 1, by omega, .inr (by have := HP.out; show 2 ^ k < _; omega), by go_num⟩
      case measure => simp [intOf]; omega
    · go_ret
      exact ⟨ret1 (by rw [← lgN_unique n k h0 H1.out (by have := HP.out; omega) HK.out]), rfl⟩
    · go_ret
      obtain rfl : k = 62 := by omega
      have h63 : n.toNat ≤ 2 ^ 63 := by have := H1.out; omega
      exact ⟨ret1 (by rw [← lgN_unique n 63 h0 H1.out h63 (.inr (by have := HP.out; show 2 ^ 62 < _; omega))]; rfl), rfl⟩
    · go_ret
      exact ⟨ret1 (by rw [← lgN_unique n k h0 H1.out (by have := HP.out; omega) HK.out]), rfl⟩
set_option maxRecDepth 20000 in
set_option maxHeartbeats 1000000 in
theorem rceil_any (n : Int) (w : World) (h0 : 0 ≤ n) (h1 : n ≤ 65536) : Calls Tryz.prog 47 #[.int .i64 n] w fun e w' => e = .returned (.tuple #[.int .i64 (up2 n), .int .i64 0]) ∧ w' = w := by
  unfold up2
  by_cases hz : n = 0
  · subst hz
    rw [if_pos rfl]
    go_enter Tryz.func47, Tryz.ntmps47
    go_wp2
    go_ret2
    exact ⟨rfl, rfl⟩
  · rw [if_neg hz]
    have hn : 1 ≤ n := by omega
    obtain ⟨hc, _, _, _, _, h30⟩ := cl_facts n hn (by omega)
    have HC : Hid (wrap64 (2 ^ lgN n) = cl n) := hc
    clear hc
    go_enter Tryz.func47, Tryz.ntmps47
    go_wp2_with (go_at_call 87; refine (rlog_pos _ _ hn (by omega)).mono ?_; rintro e w' ⟨rfl, rfl⟩)
    go_ret2
    exact ⟨ret2 HC.out rfl, rfl⟩
end Go.Proofs.YtkmopcanaalemabGreat.C

/- The reference's heap as the program's says; the walk of the reference's New. -/
namespace Go.Proofs.YtkmopcanaalemabGreat
open Go.RowKit

/-- The reference's heap, block S: it answers as s does. -/
def RH (No : Nat → Prop) (w : World) (S c : Nat) (s : H.St) : Prop := ∃ va r, H.Rp No w S c va r ∧ H.Sim 0 s r ∧ r.ck ≤ (c : Int)
theorem ck_take (r : H.Rs) (n : Int) : (H.rtSt r n).ck = r.ck := by unfold H.rtSt; split; rfl; split <;> rfl
theorem ck_give (r : H.Rs) (n : Int) : (H.rgSt r n).ck ≤ r.ck + 1 := by
  unfold H.rgSt
  split
  · exact Int.le_refl _
  · omega
section
variable {No No' : Nat → Prop} {w w' : World} {S c : Nat} {s : H.St}
theorem RH.below (h : RH No w S c s) (k : Below w.heap.size w w') : RH No w' S c s := by
  obtain ⟨va, r, h1, h2, h3⟩ := h
  exact ⟨va, r, h1.below k, h2, h3⟩
theorem RH.more (h : RH No w S c s) {c' : Nat} (hc : c ≤ c') : RH No w S c' s := by
  obtain ⟨va, r, h1, h2, h3⟩ := h
  exact ⟨va, r, h1.more hc, h2, by omega⟩
theorem RH.news (h : RH No w S c s) (k : Below w.heap.size w w') : RH (fun g => No g ∨ (w.heap.size ≤ g ∧ g < w'.heap.size)) w' S c s := by
  obtain ⟨va, r, h1, h2, h3⟩ := h
  refine ⟨va, r, h1.far (k.block S h1.apart.2) (fun g e => k.block g (h1.row.lt g e).2) (Nat.le_refl _) (fun g q => ?_), h2, h3⟩
  have := k.size
  rcases q with q | q
  · have := h1.nos g q
    exact ⟨by omega, fun e => h1.noS (e ▸ q), fun e => h1.nov g e q⟩
  · exact ⟨q.2, fun e => by have := h1.apart.2; omega, fun e => by have := (h1.row.lt g e).2; omega⟩
theorem RH.sub (h : RH No w S c s) (hn : ∀ g, No' g → No g) : RH No' w S c s := by
  obtain ⟨va, r, h1, h2, h3⟩ := h
  exact ⟨va, r, h1.far rfl (fun _ _ => rfl) (Nat.le_refl _) (fun g q => ⟨h1.nos g (hn g q), fun e => h1.noS (e ▸ hn g q), fun e => h1.nov g e (hn g q)⟩), h2, h3⟩
theorem RH.frame (h : RH No w S c s) (hs : w.heap.size ≤ w'.heap.size) (hb : ∀ g, g < w.heap.size → ¬ No g → w'.heap[g]? = w.heap[g]?) : RH No w' S c s := by
  obtain ⟨va, r, h1, h2, h3⟩ := h
  exact ⟨va, r, h1.far (hb S h1.apart.2 h1.noS) (fun g e => hb g (h1.row.lt g e).2 (h1.nov g e)) (Nat.le_refl _) (fun g q => ⟨Nat.lt_of_lt_of_le (h1.nos g q) hs, fun e => h1.noS (e ▸ q), fun e => h1.nov g e q⟩), h2, h3⟩
theorem RH.nos (h : RH No w S c s) : ∀ g, No g → g < w.heap.size := by
  obtain ⟨va, r, h1, h2, h3⟩ := h
  exact h1.nos
theorem RH.sets (h : RH No w S c s) {N i : Nat} (v : Value) (hN : No N) : RH No (w.setCell ⟨N, i, none⟩ v) S c s := h.frame (by simp [World.setCell]) (fun g _ hn => Below.heap_setCell _ _ _ _ (fun e => hn (by rw [e]; exact hN)))
theorem rtk (h : RH No w S c s) (hc : c ≤ 900000) (iv : H.Inv 0 s) (n : Int) :
    Calls Tryz.prog 48 #[.pointer (some ⟨S, 0, none⟩), .int .i64 n] w fun e w' => e = .returned (.tuple #[.int .i64 (H.takeId s n), .int .i64 (H.takeE s n)]) ∧ RH No w' S (c + 1) (H.takeSt s n) ∧ Keep No w w' := by
  obtain ⟨va, r, h1, h2, h3⟩ := h
  have hl := h2.live iv
  have h5 := iv.ok.l0
  have h6 := iv.l1
  have h7 := iv.l2
  have hlim := h2.lim
  refine (H.rtake_any h1 (by omega) (h2.ok iv) (by omega) (by omega) (by omega) n).mono ?_
  rintro e w' ⟨rfl, ⟨v', hp⟩, kk⟩
  obtain ⟨m1, m2⟩ := h2.take iv n
  exact ⟨by rw [m2, h2.E iv n], ⟨v', _, hp, m1, by rw [ck_take]; omega⟩, kh kk⟩
theorem rgv (h : RH No w S c s) (hc : c ≤ 900000) (iv : H.Inv 0 s) (id : Int) :
    Calls Tryz.prog 49 #[.pointer (some ⟨S, 0, none⟩), .int .i64 id] w fun e w' => e = .returned (.int .i64 (H.giveE s id)) ∧ RH No w' S (c + 1) (H.giveSt s id) ∧ Keep No w w' := by
  obtain ⟨va, r, h1, h2, h3⟩ := h
  refine (H.rgive_any h1 (by omega) h2.ck0 (by omega) id).mono ?_
  rintro e w' ⟨rfl, hp, kk⟩
  exact ⟨by rw [h2.giveE id], ⟨va, _, hp.more (by omega), h2.give iv id, by have := ck_give r id; omega⟩, kh kk⟩
theorem rlv_any (h : RH No w S c s) (hc : c ≤ 900000) (iv : H.Inv 0 s) : Calls Tryz.prog 88 #[.pointer (some ⟨S, 0, none⟩)] w fun e w' => e = .returned (.int .i64 s.live) ∧ w' = w := by
  obtain ⟨va, r, h1, h2, h3⟩ := h
  rw [← h2.live iv]
  exact H.rlive_any h1 (by omega) (h2.ok iv)
end
end Go.Proofs.YtkmopcanaalemabGreat

/- The walk of the reference's New. -/
namespace Go.Proofs.YtkmopcanaalemabGreat
open Go.RowKit

set_option maxRecDepth 20000 in
set_option maxHeartbeats 2000000 in
theorem rnew_arg (w : World) (S : Nat) (x y : Int) (hb : ¬ (0 ≤ x ∧ x ≤ 65536) ∨ ¬ (0 ≤ y ∧ y ≤ 65536)) :
    Calls Tryz.prog 25 #[.pointer (some ⟨S, 0, none⟩), .int .i64 x, .int .i64 y] w fun e w' => e = .returned (.tuple #[.pointer none, .int .i64 1]) ∧ w' = w := by
  by_cases h1 : x < 0
  · clear hb
    go_enter Tryz.func25, Tryz.ntmps25
    go_wp2_with fail
    go_ret2; exact ⟨rfl, rfl⟩
  · by_cases h2 : 65536 < x
    · clear hb
      go_enter Tryz.func25, Tryz.ntmps25
      go_wp2_with fail
      go_ret2; exact ⟨rfl, rfl⟩
    · by_cases h3 : y < 0
      · clear hb
        go_enter Tryz.func25, Tryz.ntmps25
        go_wp2_with fail
        go_ret2; exact ⟨rfl, rfl⟩
      · have h4 : 65536 < y := by omega
        clear hb
        go_enter Tryz.func25, Tryz.ntmps25
        go_wp2_with fail
        go_ret2; exact ⟨rfl, rfl⟩

set_option maxRecDepth 20000 in
set_option maxHeartbeats 2000000 in
theorem rnew_cells {No : Nat → Prop} {w : World} {S c : Nat} {s : H.St} (h : RH No w S c s) (hc : c ≤ 700000) (iv : H.Inv 0 s) (x y : Nat) (hx : x ≤ 65536) (hy : y ≤ 65536) (he : H.takeE s 4 ≠ 0) :
    Calls Tryz.prog 25 #[.pointer (some ⟨S, 0, none⟩), .int .i64 (x : Nat), .int .i64 (y : Nat)] w fun e w' => e = .returned (.tuple #[.pointer none, .int .i64 (H.takeE s 4)]) ∧ RH No w' S (c + 1) s ∧ Keep No w w' := by
  have h1 : ¬ ((x : Int) < 0) := by omega
  have h2 : ¬ (65536 < (x : Int)) := by omega
  have h3 : ¬ ((y : Int) < 0) := by omega
  have h4 : ¬ (65536 < (y : Int)) := by omega
  have C3 := fun W => C.rceil_any (y : Nat) W (by omega) (by omega)
  have C4 := rtk h (by omega) iv 4
  rw [(H.takeSt_bad (.inl he)).1] at C4
  generalize H.takeE s 4 = E at *
  generalize H.takeId s 4 = I at *
  generalize C.up2 (y : Nat) = z at *
  have heb : (E != 0) = true := by simp [he]
  clear h iv he
  go_enter Tryz.func25, Tryz.ntmps25
  go_wp2_with fail
  refine (C3 _).mono ?_; rintro e w' ⟨rfl, hw'⟩; rw [hw']; clear hw'
  go_wp2_with fail
  refine C4.mono ?_; rintro e W1 ⟨rfl, hp1, kk1⟩
  have HP : Hid (RH No W1 S (c + 1) s ∧ Keep No w W1) := ⟨hp1, kk1⟩
  clear hp1 kk1
  go_wp2_with fail
  go_ret2
  exact ⟨rfl, HP.out⟩

set_option maxRecDepth 20000 in
set_option maxHeartbeats 2000000 in
theorem rnew_one {No : Nat → Prop} {w : World} {S c : Nat} {s : H.St} (h : RH No w S c s) (hc : c ≤ 700000) (iv : H.Inv 0 s) (x y : Nat) (hx : x ≤ 65536) (hy : y ≤ 65536) (he : H.takeE s 4 = 0) (he2 : H.takeE (H.takeSt s 4) (x : Nat) ≠ 0) :
    Calls Tryz.prog 25 #[.pointer (some ⟨S, 0, none⟩), .int .i64 (x : Nat), .int .i64 (y : Nat)] w fun e w' => e = .returned (.tuple #[.pointer none, .int .i64 (H.takeE (H.takeSt s 4) (x : Nat))]) ∧ RH No w' S (c + 3) (H.giveSt (H.takeSt s 4) (H.takeId s 4)) ∧ Keep No w w' := by
  have h1 : ¬ ((x : Int) < 0) := by omega
  have h2 : ¬ (65536 < (x : Int)) := by omega
  have h3 : ¬ ((y : Int) < 0) := by omega
  have h4 : ¬ (65536 < (y : Int)) := by omega
  have C3 := fun W => C.rceil_any (y : Nat) W (by omega) (by omega)
  have C4 := rtk h (by omega) iv 4
  rw [he] at C4
  have iv2 := iv.take 4
  have C5 := fun W (h' : RH No W S (c + 1) (H.takeSt s 4)) => rtk h' (by omega) iv2 (x : Nat)
  rw [(H.takeSt_bad (.inl he2)).1] at C5
  have C6 := fun W (h' : RH No W S (c + 1 + 1) (H.takeSt s 4)) => rgv h' (by omega) iv2 (H.takeId s 4)
  generalize H.takeE (H.takeSt s 4) (x : Nat) = E at *
  generalize H.takeId (H.takeSt s 4) (x : Nat) = I2 at *
  generalize H.giveE (H.takeSt s 4) (H.takeId s 4) = E3 at *
  generalize H.giveSt (H.takeSt s 4) (H.takeId s 4) = s3 at *
  generalize H.takeSt s 4 = s2 at *
  generalize H.takeId s 4 = I at *
  generalize C.up2 (y : Nat) = z at *
  have heb : (E != 0) = true := by simp [he2]
  clear h iv he he2 iv2
  go_enter Tryz.func25, Tryz.ntmps25
  go_wp2_with fail
  refine (C3 _).mono ?_; rintro e w' ⟨rfl, hw'⟩; rw [hw']; clear hw'
  go_wp2_with fail
  refine C4.mono ?_; rintro e W1 ⟨rfl, hp1, kk1⟩
  have CC := C5 W1 hp1
  have HK1 : Hid (Keep No w W1) := kk1
  clear hp1 kk1 C4 C5
  go_wp2_with fail
  refine CC.mono ?_; rintro e W2 ⟨rfl, hp2, kk2⟩
  have CD := C6 W2 hp2
  have HK2 : Hid (Keep No w W2) := HK1.out.trans kk2
  clear hp2 kk2 CC C6
  go_wp2_with fail
  refine CD.mono ?_; rintro e W3 ⟨rfl, hp3, kk3⟩
  have HP : Hid (RH No W3 S (c + 1 + 1 + 1) s3 ∧ Keep No w W3) := ⟨hp3, HK2.out.trans kk3⟩
  clear hp3 kk3 CD
  go_wp2_with fail
  go_ret2
  exact ⟨rfl, HP.out⟩

set_option maxRecDepth 20000 in
set_option maxHeartbeats 2000000 in
theorem rnew_two {No : Nat → Prop} {w : World} {S c : Nat} {s : H.St} (h : RH No w S c s) (hc : c ≤ 700000) (iv : H.Inv 0 s) (x y z : Nat) (hx : x ≤ 65536) (hy : y ≤ 65536) (hz : C.up2 (y : Nat) = (z : Nat)) (hz2 : z ≤ 65536) (he : H.takeE s 4 = 0) (he2 : H.takeE (H.takeSt s 4) (x : Nat) = 0) (he3 : H.takeE (H.takeSt (H.takeSt s 4) (x : Nat)) (3 * (z : Nat)) ≠ 0) :
    Calls Tryz.prog 25 #[.pointer (some ⟨S, 0, none⟩), .int .i64 (x : Nat), .int .i64 (y : Nat)] w fun e w' => e = .returned (.tuple #[.pointer none, .int .i64 (H.takeE (H.takeSt (H.takeSt s 4) (x : Nat)) (3 * (z : Nat)))]) ∧ RH No w' S (c + 5) (H.giveSt (H.giveSt (H.takeSt (H.takeSt s 4) (x : Nat)) (H.takeId (H.takeSt s 4) (x : Nat))) (H.takeId s 4)) ∧ Keep No w w' := by
  have h1 : ¬ ((x : Int) < 0) := by omega
  have h2 : ¬ (65536 < (x : Int)) := by omega
  have h3 : ¬ ((y : Int) < 0) := by omega
  have h4 : ¬ (65536 < (y : Int)) := by omega
  have C3 := fun W => C.rceil_any (y : Nat) W (by omega) (by omega)
  rw [hz] at C3
  have C4 := rtk h (by omega) iv 4
  rw [he] at C4
  have iv2 := iv.take 4
  have iv3 := iv2.take (x : Nat)
  have C5 := fun W (h' : RH No W S (c + 1) (H.takeSt s 4)) => rtk h' (by omega) iv2 (x : Nat)
  rw [he2] at C5
  have C6 := fun W (h' : RH No W S (c + 1 + 1) (H.takeSt (H.takeSt s 4) (x : Nat))) => rtk h' (by omega) iv3 (3 * (z : Nat))
  rw [(H.takeSt_bad (.inl he3)).1] at C6
  have C7 := fun W (h' : RH No W S (c + 1 + 1 + 1) (H.takeSt (H.takeSt s 4) (x : Nat))) => rgv h' (by omega) iv3 (H.takeId (H.takeSt s 4) (x : Nat))
  have iv4 := iv3.give (H.takeId (H.takeSt s 4) (x : Nat))
  have C8 := fun W (h' : RH No W S (c + 1 + 1 + 1 + 1) (H.giveSt (H.takeSt (H.takeSt s 4) (x : Nat)) (H.takeId (H.takeSt s 4) (x : Nat)))) => rgv h' (by omega) iv4 (H.takeId s 4)
  have hw : IntKind.i64.wrap (3 * (z : Int)) = 3 * (z : Int) := by rw [IntKind.wrap_i64]; omega
  generalize H.giveE (H.giveSt (H.takeSt (H.takeSt s 4) (x : Nat)) (H.takeId (H.takeSt s 4) (x : Nat))) (H.takeId s 4) = E5 at *
  generalize H.giveSt (H.giveSt (H.takeSt (H.takeSt s 4) (x : Nat)) (H.takeId (H.takeSt s 4) (x : Nat))) (H.takeId s 4) = s5 at *
  generalize H.giveE (H.takeSt (H.takeSt s 4) (x : Nat)) (H.takeId (H.takeSt s 4) (x : Nat)) = E4 at *
  generalize H.giveSt (H.takeSt (H.takeSt s 4) (x : Nat)) (H.takeId (H.takeSt s 4) (x : Nat)) = s4 at *
  generalize H.takeE (H.takeSt (H.takeSt s 4) (x : Nat)) (3 * (z : Nat)) = E at *
  generalize H.takeId (H.takeSt (H.takeSt s 4) (x : Nat)) (3 * (z : Nat)) = I3 at *
  generalize H.takeSt (H.takeSt s 4) (x : Nat) = s3 at *
  generalize H.takeId (H.takeSt s 4) (x : Nat) = I2 at *
  generalize H.takeSt s 4 = s2 at *
  generalize H.takeId s 4 = I at *
  have heb : (E != 0) = true := by simp [he3]
  clear h iv he he2 he3 iv2 iv3 iv4 hz
  go_enter Tryz.func25, Tryz.ntmps25
  go_wp2_with fail
  refine (C3 _).mono ?_; rintro e w' ⟨rfl, hw'⟩; rw [hw']; clear hw'
  go_wp2_with fail
  refine C4.mono ?_; rintro e W1 ⟨rfl, hp1, kk1⟩
  have CC := C5 W1 hp1
  have HK1 : Hid (Keep No w W1) := kk1
  clear hp1 kk1 C4 C5
  go_wp2_with fail
  refine CC.mono ?_; rintro e W2 ⟨rfl, hp2, kk2⟩
  have CD := C6 W2 hp2
  have HK2 : Hid (Keep No w W2) := HK1.out.trans kk2
  clear hp2 kk2 CC C6
  go_wp2_with fail
  refine CD.mono ?_; rintro e W3 ⟨rfl, hp3, kk3⟩
  have CE := C7 W3 hp3
  have HK3 : Hid (Keep No w W3) := HK2.out.trans kk3
  clear hp3 kk3 CD C7
  go_wp2_with fail
  refine CE.mono ?_; rintro e W4 ⟨rfl, hp4, kk4⟩
  have CF := C8 W4 hp4
  have HK4 : Hid (Keep No w W4) := HK3.out.trans kk4
  clear hp4 kk4 CE C8
  go_wp2_with fail
  refine CF.mono ?_; rintro e W5 ⟨rfl, hp5, kk5⟩
  have HP : Hid (RH No W5 S (c + 1 + 1 + 1 + 1 + 1) s5 ∧ Keep No w W5) := ⟨hp5, HK4.out.trans kk5⟩
  clear hp5 kk5 CF
  go_wp2_with fail
  go_ret2
  exact ⟨rfl, HP.out⟩

/-- What the reference's New leaves, beside its heap. -/
structure Nr (w w' : World) (x z RT A P ka va ca : Nat) (S : Nat) (i1 i2 : Int) : Prop where
  str : w'.heap[RT]? = some (.cells #[.slice (some ⟨A, 0, none⟩) x x, .pointer (some ⟨P, 0, none⟩), .int .i64 i1, .int .i64 i2, .int .i64 0, .int .i64 0, .pointer (some ⟨S, 0, none⟩)] 87)
  arr : w'.heap[A]? = some (.cells (zeros3 x) 36)
  part : ∃ wa wb, Rn wa wb P ka va ca z ∧ Below wb.heap.size wb w' ∧ w.heap.size ≤ wa.heap.size
  ge : w.heap.size ≤ RT ∧ w.heap.size ≤ A
  ne : RT ≠ A ∧ RT ≠ P ∧ RT ≠ ka ∧ RT ≠ va ∧ RT ≠ ca ∧ A ≠ P ∧ A ≠ ka ∧ A ≠ va ∧ A ≠ ca
theorem nr_of {No : Nat → Prop} {w W w' wa wb : World} {x z S c RT A P ka va ca : Nat} {s : H.St} {i1 i2 : Int} (h : RH No W S c s) (hk : Keep No w W) (hB : Below W.heap.size W w') (hRT : w'.heap[RT]? = some (.cells #[.slice (some ⟨A, 0, none⟩) x x, .pointer (some ⟨P, 0, none⟩), .int .i64 i1, .int .i64 i2, .int .i64 0, .int .i64 0, .pointer (some ⟨S, 0, none⟩)] 87))
    (hA : w'.heap[A]? = some (.cells (zeros3 x) 36)) (hr : Rn wa wb P ka va ca z) (hb : Below wb.heap.size wb w') (hwa : W.heap.size ≤ wa.heap.size) (hgRT : wb.heap.size ≤ RT) (hgA : W.heap.size ≤ A) (hAn : A < wa.heap.size ∨ wb.heap.size ≤ A) (hne : RT ≠ A) :
    RH (fun g => No g ∨ g = RT ∨ g = A ∨ g = P ∨ g = ka ∨ g = va ∨ g = ca) w' S c s ∧ Keep No w w' ∧ Nr w w' x z RT A P ka va ca S i1 i2 := by
  have l1 := hr.lt
  have l2 := hr.ge
  have l3 := hk.size
  have lR : RT < w'.heap.size := (Array.getElem?_eq_some_iff.1 hRT).1
  have lA : A < w'.heap.size := (Array.getElem?_eq_some_iff.1 hA).1
  have l4 := hb.size
  have l5 := hr.bel.size
  refine ⟨(h.news hB).sub (fun g q => ?_), hk.bel hB, ⟨hRT, hA, ⟨wa, wb, hr, hb, by omega⟩, by omega, by omega⟩⟩
  rcases q with q | q | q | q | q | q | q
  · exact .inl q
  all_goals exact .inr (by omega)
set_option maxRecDepth 20000 in
set_option maxHeartbeats 2000000 in
theorem rnew_good {No : Nat → Prop} {w : World} {S c : Nat} {s : H.St} (h : RH No w S c s) (hc : c ≤ 700000) (iv : H.Inv 0 s) (x y z : Nat) (hx : x ≤ 65536) (hy : y ≤ 65536) (hz : C.up2 (y : Nat) = (z : Nat)) (hz2 : z ≤ 65536) (he : H.takeE s 4 = 0) (he2 : H.takeE (H.takeSt s 4) (x : Nat) = 0) (he3 : H.takeE (H.takeSt (H.takeSt s 4) (x : Nat)) (3 * (z : Nat)) = 0) :
    Calls Tryz.prog 25 #[.pointer (some ⟨S, 0, none⟩), .int .i64 (x : Nat), .int .i64 (y : Nat)] w fun e w' => ∃ RT A P ka va ca, e = .returned (.tuple #[.pointer (some ⟨RT, 0, none⟩), .int .i64 0]) ∧ RH (fun g => No g ∨ g = RT ∨ g = A ∨ g = P ∨ g = ka ∨ g = va ∨ g = ca) w' S (c + 3) (H.takeSt (H.takeSt (H.takeSt s 4) (x : Nat)) (3 * (z : Nat))) ∧ Keep No w w' ∧
      Nr w w' x z RT A P ka va ca S (H.takeId (H.takeSt s 4) (x : Nat)) (H.takeId (H.takeSt (H.takeSt s 4) (x : Nat)) (3 * (z : Nat))) := by
  have h1 : ¬ ((x : Int) < 0) := by omega
  have h2 : ¬ (65536 < (x : Int)) := by omega
  have h3 : ¬ ((y : Int) < 0) := by omega
  have h4 : ¬ (65536 < (y : Int)) := by omega
  have C3 := fun W => C.rceil_any (y : Nat) W (by omega) (by omega)
  rw [hz] at C3
  have C4 := rtk h (by omega) iv 4
  rw [he] at C4
  have iv2 := iv.take 4
  have iv3 := iv2.take (x : Nat)
  have C5 := fun W (h' : RH No W S (c + 1) (H.takeSt s 4)) => rtk h' (by omega) iv2 (x : Nat)
  rw [he2] at C5
  have C6 := fun W (h' : RH No W S (c + 1 + 1) (H.takeSt (H.takeSt s 4) (x : Nat))) => rtk h' (by omega) iv3 (3 * (z : Nat))
  rw [he3] at C6
  have hw : IntKind.i64.wrap (3 * (z : Int)) = 3 * (z : Int) := by rw [IntKind.wrap_i64]; omega
  have CN := fun W => rnew_any z W hz2
  have m1 := make_vals x hx
  generalize H.takeSt (H.takeSt (H.takeSt s 4) (x : Nat)) (3 * (z : Nat)) = s4 at *
  generalize H.takeId (H.takeSt (H.takeSt s 4) (x : Nat)) (3 * (z : Nat)) = I3 at *
  generalize H.takeSt (H.takeSt s 4) (x : Nat) = s3 at *
  generalize H.takeId (H.takeSt s 4) (x : Nat) = I2 at *
  generalize H.takeSt s 4 = s2 at *
  generalize H.takeId s 4 = I at *
  clear h iv he he2 he3 iv2 iv3 hz
  unfold pp at CN
  go_enter Tryz.func25, Tryz.ntmps25
  go_wp2_with fail
  refine (C3 _).mono ?_; rintro e w' ⟨rfl, hw'⟩; rw [hw']; clear hw'
  go_wp2_with fail
  refine C4.mono ?_; rintro e W1 ⟨rfl, hp1, kk1⟩
  have CC := C5 W1 hp1
  have HK1 : Hid (Keep No w W1) := kk1
  clear hp1 kk1 C4 C5
  go_wp2_with fail
  refine CC.mono ?_; rintro e W2 ⟨rfl, hp2, kk2⟩
  have CD := C6 W2 hp2
  have HK2 : Hid (Keep No w W2) := HK1.out.trans kk2
  clear hp2 kk2 CC C6
  go_wp2_with fail
  refine CD.mono ?_; rintro e W3 ⟨rfl, hp3, kk3⟩
  have HP3 : Hid (RH No W3 S (c + 1 + 1 + 1) s4 ∧ Keep No w W3) := ⟨hp3, HK2.out.trans kk3⟩
  clear hp3 kk3 CD
  obtain ⟨zz, hzz⟩ : ∃ zz, zeros3 x = zz := ⟨_, rfl⟩
  have HZZ : Hid (zeros3 x = zz) := hzz
  rw [hzz] at m1
  clear hzz
  obtain ⟨Wm, hWm⟩ : ∃ Wm, W3.drew.alloc (.cells zz 36) = Wm := ⟨_, rfl⟩
  have CNd := CN W3.drew
  have CNm := CN Wm
  have HWm : Hid (Below W3.heap.size W3 Wm ∧ Wm.heap.size = W3.heap.size + 1 ∧ Wm.heap[W3.heap.size]? = some (.cells zz 36)) := by
    rw [← hWm]
    exact ⟨bthen (bdrew1 W3) (Nat.le_refl _) (b1 _ _), by simp, (MapKept.heap_alloc W3.drew _).1⟩
  clear CN
  go_wp2_with fail
  go_region_with (first
    | (go_at_call 50; refine CNd.mono ?_; rintro e w4 ⟨P, ka, va, ca, rfl, r4⟩; have HRd : Hid (Rn W3.drew w4 P ka va ca z) := r4; clear r4)
    | (go_at_call 50; refine CNm.mono ?_; rintro e w4 ⟨P, ka, va, ca, rfl, r4⟩; have HRm : Hid (Rn Wm w4 P ka va ca z) := r4; clear r4))
  all_goals
    go_wp2_with fail
    go_ret2
  all_goals first
    | exact ⟨w4.heap.size, W3.heap.size, P, ka, va, ca, rfl, nr_of HP3.out.1 HP3.out.2 (bthen (bthen HWm.out.1 HWm.out.1.size HRm.out.bel) (by have := HWm.out.1.size; have := HRm.out.bel.size; omega) (b1 _ _)) (MapKept.heap_alloc w4 _).1
        (by have h0 := HWm.out.2.2
            have h1 := HRm.out.bel.block W3.heap.size (by have := HWm.out.2.1; omega)
            rw [Below.heap_alloc _ _ _ (by have := HWm.out.2.1; have := HRm.out.bel.size; omega), h1, h0, HZZ.out]) HRm.out (b1 _ _) HWm.out.1.size (Nat.le_refl _) (Nat.le_refl _) (.inl (by have := HWm.out.2.1; omega)) (by have := HWm.out.2.1; have := HRm.out.bel.size; omega)⟩
    | exact ⟨w4.heap.size + 1, w4.heap.size, P, ka, va, ca, rfl, nr_of HP3.out.1 HP3.out.2 (bthen (bthen (bdrew1 W3) (Nat.le_refl _) HRd.out.bel) (by have h0 := HRd.out.bel.size; exact h0) (b2 _ _ _))
        (by have h0 := (MapKept.heap_alloc (w4.alloc (.cells zz 36)) (.cells #[.slice (some ⟨w4.heap.size, 0, none⟩) x x, .pointer (some ⟨P, 0, none⟩), .int .i64 I2, .int .i64 I3, .int .i64 0, .int .i64 0, .pointer (some ⟨S, 0, none⟩)] 87)).1
            simpa using h0)
        (by rw [Below.heap_alloc _ _ _ (by simp), HZZ.out]; exact (MapKept.heap_alloc w4 _).1) HRd.out (b2 _ _ _) (Nat.le_refl _) (by omega) (by have h0 := HRd.out.bel.size; exact h0) (.inr (Nat.le_refl _)) (by omega)⟩
end Go.Proofs.YtkmopcanaalemabGreat

/- The walk of begin: both heaps, both tables. -/
namespace Go.Proofs.YtkmopcanaalemabGreat
open Go.RowKit

theorem new_hp (w : World) (n : Int) (No : Nat → Prop) (hn : ∀ g, No g → g < w.heap.size) : H.Hp No ((w.alloc (.map #[] 0)).alloc (.cells #[.int .i64 n, .int .i64 0, .int .i64 0, .slice none 0 0, .map (some w.heap.size)] 105)) (w.heap.size + 1) w.heap.size 0 (.slice none 0 0) (H.newSt n) := by
  have e : (w.alloc (.map #[] 0)).heap.size = w.heap.size + 1 := by simp
  have hs := (MapKept.heap_alloc (w.alloc (.map #[] 0)) (.cells #[.int .i64 n, .int .i64 0, .int .i64 0, .slice none 0 0, .map (some w.heap.size)] 105)).1
  rw [e] at hs
  refine ⟨hs, World.ownsRow_nil _ _ _ _, (H.Rdy.made No w).alloc _, Nat.le_refl _, fun q => ?_, fun q => ?_, fun g e => (by cases e), fun g q => ?_⟩
  · have := hn _ q; omega
  · have := hn _ q; omega
  · have := hn _ q; simp; omega
theorem new_rh (w : World) (n : Int) (No : Nat → Prop) (hn : ∀ g, No g → g < w.heap.size) : RH No (w.alloc (.cells #[.int .i64 n, .int .i64 0, .int .i64 0, .slice none 0 0] 67)) w.heap.size 0 (H.newSt n) := by
  refine ⟨.slice none 0 0, ⟨n, 0, 0, []⟩, ⟨(MapKept.heap_alloc w _).1, World.ownsRow_nil _ _ _ _, Nat.le_refl _, fun q => ?_, fun g e => (by cases e), fun g q => ?_⟩, H.Sim.new n, Int.le_refl _⟩
  · have := hn _ q; omega
  · have := hn _ q; simp; omega
theorem TT.frame2 {No : Nat → Prop} {w w' : World} {T A b a S hb c : Nat} {t : TS} {s : H.St} (h : TT No w T A b a S hb c t s) (hos : w'.os = w.os) (ht : w'.tape = w.tape) (ho : w'.output = w.output) (hs : w.heap.size ≤ w'.heap.size) (hk : ∀ g, g < w.heap.size → ¬ No g → w'.heap[g]? = w.heap[g]?) :
    TT (fun g => No g ∨ (w.heap.size ≤ g ∧ g < w'.heap.size)) w' T A b a S hb c t s := by
  obtain ⟨vb, hp⟩ := h.hp
  have l1 := h.tm.pm.ltA
  have l2 := h.tm.pm.ltB
  have l3 := h.tm.pm.pt.lta
  have l4 := h.tm.pm.pt.ltb
  have k : Keep (fun g => ¬ No g) w w' := ⟨hos, ht, ho, hs, hk⟩
  refine ⟨h.tm.kept k h.nT h.nA h.nb h.na, ⟨vb, Hp.sub (Hp.frame2 hp hos ht ho hs (fun g hg hn => hk g hg (fun q => hn (.inl q)))) (fun g q => ?_)⟩, fun q => q.elim h.nT (by omega), fun q => q.elim h.nA (by omega), fun q => q.elim h.nb (by omega), fun q => q.elim h.na (by omega), h.ti, h.iv, h.p0, h.p1⟩
  rcases q with (q | q) | q
  · exact .inl (.inl q)
  · exact .inr q
  · exact .inl (.inr q)

/-- What New comes to. -/
def inP (x : Int) : Prop := 0 ≤ x ∧ x ≤ 65536
instance (x : Int) : Decidable (inP x) := inferInstanceAs (Decidable (_ ∧ _))
def nE (s : H.St) (x y : Int) : Int := if ¬ (inP x ∧ inP y) then 1 else if H.takeE s 4 ≠ 0 then H.takeE s 4 else tpE (H.takeSt s 4) x (C.up2 y)
def nS (s : H.St) (x y : Int) : H.St := if ¬ (inP x ∧ inP y) then s else if H.takeE s 4 ≠ 0 then s else if tpE (H.takeSt s 4) x (C.up2 y) ≠ 0 then H.giveSt (tpS (H.takeSt s 4) x (C.up2 y)) (H.takeId s 4) else tpS (H.takeSt s 4) x (C.up2 y)
theorem nS_inv {s : H.St} (iv : H.Inv 0 s) (x y : Int) : H.Inv 0 (nS s x y) := by
  unfold nS
  split
  · exact iv
  · split
    · exact iv
    · split
      · exact (tp_inv (iv.take 4) _ _).give _
      · exact tp_inv (iv.take 4) _ _
theorem inP.nat {x : Int} (h : inP x) : ∃ n : Nat, x = n ∧ n ≤ 65536 := ⟨x.toNat, by have := h.1; omega, by have := h.1; have := h.2; omega⟩
theorem nE_arg {s : H.St} {x y : Int} (hp : ¬ (inP x ∧ inP y)) : nE s x y = 1 ∧ nS s x y = s := ⟨by unfold nE; rw [if_pos hp], by unfold nS; rw [if_pos hp]⟩
theorem nE_four {s : H.St} {x y : Int} (hp : inP x ∧ inP y) (h4 : H.takeE s 4 ≠ 0) : nE s x y = H.takeE s 4 ∧ nS s x y = s := by
  have hp' : ¬ ¬ (inP x ∧ inP y) := fun q => q hp
  exact ⟨by unfold nE; rw [if_neg hp', if_pos h4], by unfold nS; rw [if_neg hp', if_pos h4]⟩
theorem nE_rest {s : H.St} {x y : Int} (hp : inP x ∧ inP y) (h4 : H.takeE s 4 = 0) : nE s x y = tpE (H.takeSt s 4) x (C.up2 y) ∧ nS s x y = (if tpE (H.takeSt s 4) x (C.up2 y) ≠ 0 then H.giveSt (tpS (H.takeSt s 4) x (C.up2 y)) (H.takeId s 4) else tpS (H.takeSt s 4) x (C.up2 y)) := by
  have hp' : ¬ ¬ (inP x ∧ inP y) := fun q => q hp
  have h4' : ¬ H.takeE s 4 ≠ 0 := fun q => q h4
  exact ⟨by unfold nE; rw [if_neg hp', if_neg h4'], by unfold nS; rw [if_neg hp', if_neg h4']⟩
theorem tpE_one {s : H.St} {n z : Int} (q : H.takeE s n ≠ 0) : tpE s n z = H.takeE s n ∧ tpS s n z = s := ⟨by unfold tpE; rw [if_pos q], by unfold tpS; rw [if_pos q]⟩
theorem tpE_two {s : H.St} {n z : Int} (q : H.takeE s n = 0) : tpE s n z = H.takeE (H.takeSt s n) (3 * z) ∧ tpS s n z = if H.takeE (H.takeSt s n) (3 * z) ≠ 0 then H.giveSt (H.takeSt s n) (H.takeId s n) else H.takeSt (H.takeSt s n) (3 * z) := by
  have q' : ¬ H.takeE s n ≠ 0 := fun h => h q
  exact ⟨by unfold tpE; rw [if_neg q'], by unfold tpS; rw [if_neg q']⟩
theorem new_fail {No : Nat → Prop} {w : World} {S hb c : Nat} {vb : Value} {s : H.St} (h : H.Hp No w S hb c vb s) (hc : c ≤ 700000) (iv : H.Inv 0 s) (x y : Int) (he : nE s x y ≠ 0) :
    Calls Tryz.prog 24 #[.pointer (some ⟨S, 0, none⟩), .int .i64 x, .int .i64 y] w fun e w' => e = .returned (.tuple #[.pointer none, .int .i64 (nE s x y)]) ∧ (∃ v', H.Hp No w' S hb (c + 5) v' (nS s x y)) ∧ Keep No w w' := by
  by_cases hp : inP x ∧ inP y
  · by_cases h4 : H.takeE s 4 = 0
    · obtain ⟨e1, e2⟩ := nE_rest hp h4
      rw [e1] at he
      rw [e1, e2, if_pos he]
      obtain ⟨n, rfl, hn⟩ := hp.1.nat
      obtain ⟨m, rfl, hm⟩ := hp.2.nat
      obtain ⟨z, hz, hz2, _⟩ := up2_rt (m : Nat) (by omega) (by omega)
      rw [hz] at he ⊢
      exact new_parts h hc iv n m z hn hm hz hz2.le h4 he
    · obtain ⟨e1, e2⟩ := nE_four hp h4
      rw [e1, e2]
      obtain ⟨n, rfl, hn⟩ := hp.1.nat
      obtain ⟨m, rfl, hm⟩ := hp.2.nat
      refine (new_cells h hc iv n m hn hm h4).mono ?_
      rintro e w' ⟨rfl, ⟨v', hp'⟩, kk⟩
      exact ⟨rfl, ⟨v', hp'.more (by omega)⟩, kk⟩
  · obtain ⟨e1, e2⟩ := nE_arg (s := s) hp
    rw [e1, e2]
    refine (new_arg w _ (.inr ⟨S, rfl⟩) x y (.inr ?_)).mono ?_
    · by_cases q : inP x
      · exact .inr fun q2 => hp ⟨q, q2⟩
      · exact .inl q
    · rintro e w' ⟨rfl, rfl⟩
      exact ⟨rfl, ⟨vb, h.more (by omega)⟩, Keep.refl _ _⟩
theorem rnew_fail {No : Nat → Prop} {w : World} {S c : Nat} {s : H.St} (h : RH No w S c s) (hc : c ≤ 700000) (iv : H.Inv 0 s) (x y : Int) (he : nE s x y ≠ 0) :
    Calls Tryz.prog 25 #[.pointer (some ⟨S, 0, none⟩), .int .i64 x, .int .i64 y] w fun e w' => e = .returned (.tuple #[.pointer none, .int .i64 (nE s x y)]) ∧ RH No w' S (c + 5) (nS s x y) ∧ Keep No w w' := by
  by_cases hp : inP x ∧ inP y
  · by_cases h4 : H.takeE s 4 = 0
    · obtain ⟨e1, e2⟩ := nE_rest hp h4
      rw [e1] at he
      rw [e1, e2, if_pos he]
      obtain ⟨n, rfl, hn⟩ := hp.1.nat
      obtain ⟨m, rfl, hm⟩ := hp.2.nat
      obtain ⟨z, hz, hz2, _⟩ := up2_rt (m : Nat) (by omega) (by omega)
      rw [hz] at he ⊢
      by_cases q : H.takeE (H.takeSt s 4) (n : Nat) = 0
      · obtain ⟨e3, e4⟩ := tpE_two (z := (z : Nat)) q
        rw [e3] at he
        rw [e3, e4, if_pos he]
        exact rnew_two h hc iv n m z hn hm hz hz2.le h4 q he
      · obtain ⟨e3, e4⟩ := tpE_one (z := (z : Nat)) q
        rw [e3, e4]
        refine (rnew_one h hc iv n m hn hm h4 q).mono ?_
        rintro e w' ⟨rfl, hp', kk⟩
        exact ⟨rfl, hp'.more (by omega), kk⟩
    · obtain ⟨e1, e2⟩ := nE_four hp h4
      rw [e1, e2]
      obtain ⟨n, rfl, hn⟩ := hp.1.nat
      obtain ⟨m, rfl, hm⟩ := hp.2.nat
      refine (rnew_cells h hc iv n m hn hm h4).mono ?_
      rintro e w' ⟨rfl, hp', kk⟩
      exact ⟨rfl, hp'.more (by omega), kk⟩
  · obtain ⟨e1, e2⟩ := nE_arg (s := s) hp
    rw [e1, e2]
    refine (rnew_arg w S x y ?_).mono ?_
    · by_cases q : inP x
      · exact .inr fun q2 => hp ⟨q, q2⟩
      · exact .inl q
    · rintro e w' ⟨rfl, rfl⟩
      exact ⟨rfl, h.more (by omega), Keep.refl _ _⟩
/-- What it takes that New succeeds. -/
structure Okn (s : H.St) (x y : Int) (n z : Nat) : Prop where
  ex : x = n
  hn : n ≤ 65536
  hy : ∃ m : Nat, y = m ∧ m ≤ 65536 ∧ C.up2 (m : Nat) = (z : Nat)
  hz : Rt z
  e1 : H.takeE s 4 = 0
  e2 : H.takeE (H.takeSt s 4) (n : Nat) = 0
  e3 : H.takeE (H.takeSt (H.takeSt s 4) (n : Nat)) (3 * (z : Nat)) = 0
  es : nS s x y = H.takeSt (H.takeSt (H.takeSt s 4) (n : Nat)) (3 * (z : Nat))
theorem okn {s : H.St} {x y : Int} (he : nE s x y = 0) : ∃ n z, Okn s x y n z := by
  by_cases hp : inP x ∧ inP y
  · by_cases h4 : H.takeE s 4 = 0
    · obtain ⟨e1, e2⟩ := nE_rest hp h4
      rw [e1] at he
      rw [if_neg (fun q => q he)] at e2
      obtain ⟨n, rfl, hn⟩ := hp.1.nat
      obtain ⟨m, rfl, hm⟩ := hp.2.nat
      obtain ⟨z, hz, hz2, _⟩ := up2_rt (m : Nat) (by omega) (by omega)
      rw [hz] at he e2
      by_cases q : H.takeE (H.takeSt s 4) (n : Nat) = 0
      · obtain ⟨e3, e4⟩ := tpE_two (z := (z : Nat)) q
        rw [e3] at he
        rw [if_neg (fun q => q he)] at e4
        exact ⟨n, z, rfl, hn, ⟨m, rfl, hm, hz⟩, hz2, h4, q, he, e2.trans e4⟩
      · rw [(tpE_one (z := (z : Nat)) q).1] at he; exact absurd he q
    · rw [(nE_four hp h4).1] at he; exact absurd he h4
  · rw [(nE_arg hp).1] at he; cases he

abbrev cv (l x y : Int) (v : Value) : Value := .agg #[.int .i64 l, .int .i64 x, .int .i64 y, v]
end Go.Proofs.YtkmopcanaalemabGreat

/- The walk of begin, on: both tables. -/
namespace Go.Proofs.YtkmopcanaalemabGreat
open Go.RowKit

theorem Okn.new {No : Nat → Prop} {w : World} {S hb c n z : Nat} {vb : Value} {s : H.St} {x y : Int} (o : Okn s x y n z) (h : H.Hp No w S hb c vb s) (hc : c ≤ 700000) (iv : H.Inv 0 s) :
    Calls Tryz.prog 24 #[.pointer (some ⟨S, 0, none⟩), .int .i64 x, .int .i64 y] w fun e w' => ∃ T A b a, e = .returned (.tuple #[.pointer (some ⟨T, 0, none⟩), .int .i64 0]) ∧ TT No w' T A b a S hb (c + 3) (newT n z (H.takeId (H.takeSt s 4) (n : Nat)) (H.takeId (H.takeSt (H.takeSt s 4) (n : Nat)) (3 * (z : Nat)))) (nS s x y) ∧ Keep No w w' := by
  obtain ⟨m, rfl, hm, hz⟩ := o.hy
  obtain ⟨e3, e4⟩ := tpE_two (z := (z : Nat)) o.e2
  rw [if_neg (fun q => q o.e3)] at e4
  rw [o.es, ← e4, o.ex]
  exact new_good h hc iv n m z o.hn hm hz o.hz o.e1 (e3.trans o.e3)
theorem Okn.rnew {No : Nat → Prop} {w : World} {S c n z : Nat} {s : H.St} {x y : Int} (o : Okn s x y n z) (h : RH No w S c s) (hc : c ≤ 700000) (iv : H.Inv 0 s) :
    Calls Tryz.prog 25 #[.pointer (some ⟨S, 0, none⟩), .int .i64 x, .int .i64 y] w fun e w' => ∃ RT A P ka va ca, e = .returned (.tuple #[.pointer (some ⟨RT, 0, none⟩), .int .i64 0]) ∧ RH (fun g => No g ∨ g = RT ∨ g = A ∨ g = P ∨ g = ka ∨ g = va ∨ g = ca) w' S (c + 3) (nS s x y) ∧ Keep No w w' ∧
      Nr w w' n z RT A P ka va ca S (H.takeId (H.takeSt s 4) (n : Nat)) (H.takeId (H.takeSt (H.takeSt s 4) (n : Nat)) (3 * (z : Nat))) := by
  obtain ⟨m, rfl, hm, hz⟩ := o.hy
  rw [o.es, o.ex]
  exact rnew_good h hc iv n m z o.hn hm hz o.hz.le o.e1 o.e2 o.e3
/-- Both tables behind begin: the program's blocks lie below M, the reference's from M on. -/
structure Bgn (w w' : World) (M T A b a S hb RT RA P ka va ca G n z : Nat) (t : TS) (s : H.St) : Prop where
  tt : TT (fun g => g < w.heap.size ∨ (M ≤ g ∧ g < w'.heap.size)) w' T A b a S hb 3 t s
  rh : RH (fun g => g < M ∨ g = RT ∨ g = RA ∨ g = P ∨ g = ka ∨ g = va ∨ g = ca) w' G 3 s
  nr : ∃ W, M ≤ W.heap.size ∧ Nr W w' n z RT RA P ka va ca G t.sb t.nb
  bel : Below w.heap.size w w'
  le : w.heap.size ≤ M
  iv : H.Inv 0 s
  et : t = newT n z t.sb t.nb
  rt : Rt z
  en : n ≤ 65536
end Go.Proofs.YtkmopcanaalemabGreat

/- The reference's table in memory; the walks of within, Places, Stats. The great seat's numbers. -/
namespace Go.Proofs.YtkmopcanaalemabGreat
open Go.RowKit

/-- The reference's table: the struct in RT, its slots in A, its part in P. -/
structure Rb (w : World) (RT A P ka va ca : Nat) (cb : Nat → Nat) (G : Nat) (t : TS) : Prop where
  c0 : w.cell? ⟨RT, 0, none⟩ = some (.slice (some ⟨A, 0, none⟩) t.p.n t.p.n)
  c1 : w.cell? ⟨RT, 1, none⟩ = some (.pointer (some ⟨P, 0, none⟩))
  c2 : w.cell? ⟨RT, 2, none⟩ = some (.int .i64 t.sb)
  c3 : w.cell? ⟨RT, 3, none⟩ = some (.int .i64 t.nb)
  c4 : w.cell? ⟨RT, 4, none⟩ = some (.int .i64 t.hint)
  c5 : w.cell? ⟨RT, 5, none⟩ = some (.int .i64 t.pr)
  c6 : w.cell? ⟨RT, 6, none⟩ = some (.pointer (some ⟨G, 0, none⟩))
  fz : ∀ j, w.frozen? ⟨RT, j, none⟩ = false
  sl : Rv w A t.p.n t.p.F
  fA : ∀ j, w.frozen? ⟨A, j, none⟩ = false
  ltR : RT < w.heap.size
  ltA : A < w.heap.size
  rp : Rp w P ka va ca t.p.z t.p.g cb
  nRA : RT ≠ A
  nR : ∀ x, Rp.Own P ka va ca t.p.z t.p.g cb x → x ≠ RT
  nA : ∀ x, Rp.Own P ka va ca t.p.z t.p.g cb x → x ≠ A
/-- The blocks that are its own. -/
def Rb.Own (RT A P ka va ca : Nat) (cb : Nat → Nat) (t : TS) (x : Nat) : Prop := x = RT ∨ x = A ∨ Rp.Own P ka va ca t.p.z t.p.g cb x
theorem Rb.kept {No : Nat → Prop} {w w' : World} {RT A P ka va ca : Nat} {cb : Nat → Nat} {G : Nat} {t : TS} (h : Rb w RT A P ka va ca cb G t) (k : Keep No w w') (hn : ∀ x, Rb.Own RT A P ka va ca cb t x → No x) : Rb w' RT A P ka va ca cb G t := by
  have eR := k.block RT h.ltR (hn RT (.inl rfl))
  have eA := k.block A h.ltA (hn A (.inr (.inl rfl)))
  exact ⟨by rw [World.cell?_of_block (w := w) eR]; exact h.c0, by rw [World.cell?_of_block (w := w) eR]; exact h.c1, by rw [World.cell?_of_block (w := w) eR]; exact h.c2, by rw [World.cell?_of_block (w := w) eR]; exact h.c3, by rw [World.cell?_of_block (w := w) eR]; exact h.c4, by rw [World.cell?_of_block (w := w) eR]; exact h.c5, by rw [World.cell?_of_block (w := w) eR]; exact h.c6, fun j => by rw [World.frozen?_of_block (w := w) eR]; exact h.fz j, h.sl.block eA, fun j => by rw [World.frozen?_of_block (w := w) eA]; exact h.fA j, Nat.lt_of_lt_of_le h.ltR k.size, Nat.lt_of_lt_of_le h.ltA k.size, h.rp.kept k (fun x q => hn x (.inr (.inr q))), h.nRA, h.nR, h.nA⟩
theorem Rb.below {w w' : World} {RT A P ka va ca : Nat} {cb : Nat → Nat} {G : Nat} {t : TS} (h : Rb w RT A P ka va ca cb G t) (k : Below w.heap.size w w') : Rb w' RT A P ka va ca cb G t := h.kept (No := fun _ => True) (Keep.of k) (fun _ _ => trivial)

set_option maxRecDepth 20000 in
set_option maxHeartbeats 2000000 in
theorem rwithin_any {RT A : Nat} {n : Nat} (k : V) (w : World) (h : w.cell? ⟨RT, 0, none⟩ = some (.slice (some ⟨A, 0, none⟩) n n)) (hlt : RT < w.heap.size) :
    Calls Tryz.prog 54 #[.pointer (some ⟨RT, 0, none⟩), vv k] w fun e w' => e = .returned (.bool (decide (inA n k))) ∧ Below w.heap.size w w' := by
  have c0' : (w.alloc (vb k.1 k.2.1 k.2.2)).cell? ⟨RT, 0, none⟩ = some (.slice (some ⟨A, 0, none⟩) n n) := by
    rw [World.cell?_of_block (w := w) (Below.heap_alloc _ _ _ hlt)]; exact h
  have HE : Hid (decide (inA n k) = decide (k.1 = 2 ∧ k.2.2.toList = [] ∧ 1 ≤ k.2.1 ∧ k.2.1 ≤ (n : Int))) := by
    show _ = _
    unfold inA
    have : k.2.2 = ⟨#[]⟩ ↔ k.2.2.toList = [] := by rw [← bytes_iff]; simp [ByteArray.toList_eq]
    simp only [this]
  clear h
  obtain ⟨k0, k1, k2⟩ := k
  unfold vv vl
  unfold vb at *
  simp only at *
  have HB : Hid _ := b1 w (.cells #[.int .i64 k0, .int .i64 k1, .string k2] 36)
  by_cases h1 : k0 = 2
  · subst h1
    by_cases h2 : k2.toList = []
    · have g2 : (k2.toList == []) = true := by simp [h2]
      by_cases h3 : 1 ≤ k1
      · have g3 : decide (1 ≤ k1) = true := by simp [h3]
        by_cases h4 : k1 ≤ (n : Int)
        · have g4 : decide (k1 ≤ (n : Int)) = true := by simp [h4]
          have E : Hid (decide (inA n (2, k1, k2)) = true) := HE.out.trans (decide_eq_true ⟨rfl, h2, h3, h4⟩)
          clear HE
          go_enter Tryz.func54, Tryz.ntmps54
          go_wp2_with fail
          go_quiet (fail)
          go_wp2_with fail
          go_ret
          rw [E.out]
          exact ⟨rfl, bthen HB.out (by simp) (bdrew _ _ _)⟩
        · have g4 : decide (k1 ≤ (n : Int)) = false := by simp [h4]
          have E : Hid (decide (inA n (2, k1, k2)) = false) := HE.out.trans (decide_eq_false (fun q => h4 q.2.2.2))
          clear HE
          go_enter Tryz.func54, Tryz.ntmps54
          go_wp2_with fail
          go_quiet (fail)
          go_wp2_with fail
          go_ret
          rw [E.out]
          exact ⟨rfl, bthen HB.out (by simp) (bdrew _ _ _)⟩
      · have g3 : decide (1 ≤ k1) = false := by simp [h3]
        have E : Hid (decide (inA n (2, k1, k2)) = false) := HE.out.trans (decide_eq_false (fun q => h3 q.2.2.1))
        clear HE c0'
        go_enter Tryz.func54, Tryz.ntmps54
        go_wp2_with fail
        go_quiet (fail)
        go_wp2_with fail
        go_ret
        rw [E.out]
        exact ⟨rfl, bthen HB.out (by simp) (bdrew _ _ _)⟩
    · have g2 : (k2.toList == []) = false := by simpa using h2
      have E : Hid (decide (inA n (2, k1, k2)) = false) := HE.out.trans (decide_eq_false (fun q => h2 q.2.1))
      clear HE c0'
      go_enter Tryz.func54, Tryz.ntmps54
      go_wp2_with fail
      go_quiet (fail)
      go_wp2_with fail
      go_ret
      rw [E.out]
      exact ⟨rfl, bthen HB.out (by simp) (bdrew _ _ _)⟩
  · have g1 : (k0 == 2) = false := by simpa using h1
    have E : Hid (decide (inA n (k0, k1, k2)) = false) := HE.out.trans (decide_eq_false (fun q => h1 q.1))
    clear HE c0'
    go_enter Tryz.func54, Tryz.ntmps54
    go_wp2_with fail
    go_quiet (fail)
    go_wp2_with fail
    go_ret
    rw [E.out]
    exact ⟨rfl, bthen HB.out (by simp) (bdrew _ _ _)⟩
set_option maxHeartbeats 1000000 in
theorem rpsize_any {P ka va ca z : Nat} {g : G} {cb : Nat → Nat} (w : World) (h : Rp w P ka va ca z g cb) : Calls Tryz.prog 75 #[.pointer (some ⟨P, 0, none⟩)] w fun e w' => e = .returned (.int .i64 (z : Nat)) ∧ w' = w := by
  have c0 := h.s0
  clear h
  go_enter Tryz.func75, Tryz.ntmps75
  go_wp2_with fail
  go_ret
  exact ⟨rfl, rfl⟩
end Go.Proofs.YtkmopcanaalemabGreat
