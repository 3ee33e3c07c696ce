/- The reference's heap as the program's says; the walk of the reference's New. -/
import Derived.Test.YtcaaaoehipcloaaGreatCg16
import Derived.Test.YtcaaaoehipcloaaGreatCg11
namespace Go.Proofs.YtcaaaoehipcloaaGreat
open Go.RowKit

/-- The reference's heap, block S: it answers as s does. -/
def RH (No : Nat → Prop) (w : World) (S c : Nat) (s : H.St) : Prop := ∃ va r, H.Rp No w S c va r ∧ H.Sim 0 s r ∧ r.ck ≤ (c : Int)
theorem ck_take (r : H.Rs) (n : Int) : (H.rtSt r n).ck = r.ck := by unfold H.rtSt; split; rfl; split <;> rfl
theorem ck_give (r : H.Rs) (n : Int) : (H.rgSt r n).ck ≤ r.ck + 1 := by
  unfold H.rgSt
  split
  · exact Int.le_refl _
  · omega
section
variable {No No' : Nat → Prop} {w w' : World} {S c : Nat} {s : H.St}
theorem RH.below (h : RH No w S c s) (k : Below w.heap.size w w') : RH No w' S c s := by
  obtain ⟨va, r, h1, h2, h3⟩ := h
  exact ⟨va, r, h1.below k, h2, h3⟩
theorem RH.more (h : RH No w S c s) {c' : Nat} (hc : c ≤ c') : RH No w S c' s := by
  obtain ⟨va, r, h1, h2, h3⟩ := h
  exact ⟨va, r, h1.more hc, h2, by omega⟩
theorem RH.news (h : RH No w S c s) (k : Below w.heap.size w w') : RH (fun g => No g ∨ (w.heap.size ≤ g ∧ g < w'.heap.size)) w' S c s := by
  obtain ⟨va, r, h1, h2, h3⟩ := h
  refine ⟨va, r, h1.far (k.block S h1.apart.2) (fun g e => k.block g (h1.row.lt g e).2) (Nat.le_refl _) (fun g q => ?_), h2, h3⟩
  have := k.size
  rcases q with q | q
  · have := h1.nos g q
    exact ⟨by omega, fun e => h1.noS (e ▸ q), fun e => h1.nov g e q⟩
  · exact ⟨q.2, fun e => by have := h1.apart.2; omega, fun e => by have := (h1.row.lt g e).2; omega⟩
theorem RH.sub (h : RH No w S c s) (hn : ∀ g, No' g → No g) : RH No' w S c s := by
  obtain ⟨va, r, h1, h2, h3⟩ := h
  exact ⟨va, r, h1.far rfl (fun _ _ => rfl) (Nat.le_refl _) (fun g q => ⟨h1.nos g (hn g q), fun e => h1.noS (e ▸ hn g q), fun e => h1.nov g e (hn g q)⟩), h2, h3⟩
theorem RH.frame (h : RH No w S c s) (hs : w.heap.size ≤ w'.heap.size) (hb : ∀ g, g < w.heap.size → ¬ No g → w'.heap[g]? = w.heap[g]?) : RH No w' S c s := by
  obtain ⟨va, r, h1, h2, h3⟩ := h
  exact ⟨va, r, h1.far (hb S h1.apart.2 h1.noS) (fun g e => hb g (h1.row.lt g e).2 (h1.nov g e)) (Nat.le_refl _) (fun g q => ⟨Nat.lt_of_lt_of_le (h1.nos g q) hs, fun e => h1.noS (e ▸ q), fun e => h1.nov g e q⟩), h2, h3⟩
theorem RH.nos (h : RH No w S c s) : ∀ g, No g → g < w.heap.size := by
  obtain ⟨va, r, h1, h2, h3⟩ := h
  exact h1.nos
theorem RH.sets (h : RH No w S c s) {N i : Nat} (v : Value) (hN : No N) : RH No (w.setCell ⟨N, i, none⟩ v) S c s := h.frame (by simp [World.setCell]) (fun g _ hn => Below.heap_setCell _ _ _ _ (fun e => hn (by rw [e]; exact hN)))
theorem rtk (h : RH No w S c s) (hc : c ≤ 900000) (iv : H.Inv 0 s) (n : Int) :
    Calls Tryz.prog 30 #[.pointer (some ⟨S, 0, none⟩), .int .i64 n] w fun e w' => e = .returned (.tuple #[.int .i64 (H.takeId s n), .int .i64 (H.takeE s n)]) ∧ RH No w' S (c + 1) (H.takeSt s n) ∧ Keep No w w' := by
  obtain ⟨va, r, h1, h2, h3⟩ := h
  have hl := h2.live iv
  have h5 := iv.ok.l0
  have h6 := iv.l1
  have h7 := iv.l2
  have hlim := h2.lim
  refine (H.rtake_any h1 (by omega) (h2.ok iv) (by omega) (by omega) (by omega) n).mono ?_
  rintro e w' ⟨rfl, ⟨v', hp⟩, kk⟩
  obtain ⟨m1, m2⟩ := h2.take iv n
  exact ⟨by rw [m2, h2.E iv n], ⟨v', _, hp, m1, by rw [ck_take]; omega⟩, kh kk⟩
theorem rgv (h : RH No w S c s) (hc : c ≤ 900000) (iv : H.Inv 0 s) (id : Int) :
    Calls Tryz.prog 31 #[.pointer (some ⟨S, 0, none⟩), .int .i64 id] w fun e w' => e = .returned (.int .i64 (H.giveE s id)) ∧ RH No w' S (c + 1) (H.giveSt s id) ∧ Keep No w w' := by
  obtain ⟨va, r, h1, h2, h3⟩ := h
  refine (H.rgive_any h1 (by omega) h2.ck0 (by omega) id).mono ?_
  rintro e w' ⟨rfl, hp, kk⟩
  exact ⟨by rw [h2.giveE id], ⟨va, _, hp.more (by omega), h2.give iv id, by have := ck_give r id; omega⟩, kh kk⟩
theorem rlv_any (h : RH No w S c s) (hc : c ≤ 900000) (iv : H.Inv 0 s) : Calls Tryz.prog 55 #[.pointer (some ⟨S, 0, none⟩)] w fun e w' => e = .returned (.int .i64 s.live) ∧ w' = w := by
  obtain ⟨va, r, h1, h2, h3⟩ := h
  rw [← h2.live iv]
  exact H.rlive_any h1 (by omega) (h2.ok iv)
end
end Go.Proofs.YtcaaaoehipcloaaGreat

/- The walk of the reference's New. -/
namespace Go.Proofs.YtcaaaoehipcloaaGreat
open Go.RowKit

set_option maxRecDepth 20000 in
set_option maxHeartbeats 2000000 in
theorem rnew_arg (w : World) (S : Nat) (x y : Int) (hb : ¬ (0 ≤ x ∧ x ≤ 65536) ∨ ¬ (0 ≤ y ∧ y ≤ 65536)) :
    Calls Tryz.prog 15 #[.pointer (some ⟨S, 0, none⟩), .int .i64 x, .int .i64 y] w fun e w' => e = .returned (.tuple #[.pointer none, .int .i64 1]) ∧ w' = w := by
  by_cases h1 : x < 0
  · clear hb
    go_enter Tryz.func15, Tryz.ntmps15
    go_wp2_with fail
    go_ret2; exact ⟨rfl, rfl⟩
  · by_cases h2 : 65536 < x
    · clear hb
      go_enter Tryz.func15, Tryz.ntmps15
      go_wp2_with fail
      go_ret2; exact ⟨rfl, rfl⟩
    · by_cases h3 : y < 0
      · clear hb
        go_enter Tryz.func15, Tryz.ntmps15
        go_wp2_with fail
        go_ret2; exact ⟨rfl, rfl⟩
      · have h4 : 65536 < y := by omega
        clear hb
        go_enter Tryz.func15, Tryz.ntmps15
        go_wp2_with fail
        go_ret2; exact ⟨rfl, rfl⟩

set_option maxRecDepth 20000 in
set_option maxHeartbeats 2000000 in
theorem rnew_cells {No : Nat → Prop} {w : World} {S c : Nat} {s : H.St} (h : RH No w S c s) (hc : c ≤ 700000) (iv : H.Inv 0 s) (x y : Nat) (hx : x ≤ 65536) (hy : y ≤ 65536) (he : H.takeE s 4 ≠ 0) :
    Calls Tryz.prog 15 #[.pointer (some ⟨S, 0, none⟩), .int .i64 (x : Nat), .int .i64 (y : Nat)] w fun e w' => e = .returned (.tuple #[.pointer none, .int .i64 (H.takeE s 4)]) ∧ RH No w' S (c + 1) s ∧ Keep No w w' := by
  have h1 : ¬ ((x : Int) < 0) := by omega
  have h2 : ¬ (65536 < (x : Int)) := by omega
  have h3 : ¬ ((y : Int) < 0) := by omega
  have h4 : ¬ (65536 < (y : Int)) := by omega
  have C3 := fun W => C.rceil_any (y : Nat) W (by omega) (by omega)
  have C4 := rtk h (by omega) iv 4
  rw [(H.takeSt_bad (.inl he)).1] at C4
  generalize H.takeE s 4 = E at *
  generalize H.takeId s 4 = I at *
  generalize C.up2 (y : Nat) = z at *
  have heb : (E != 0) = true := by simp [he]
  clear h iv he
  go_enter Tryz.func15, Tryz.ntmps15
  go_wp2_with fail
  refine (C3 _).mono ?_; rintro e w' ⟨rfl, hw'⟩; rw [hw']; clear hw'
  go_wp2_with fail
  refine C4.mono ?_; rintro e W1 ⟨rfl, hp1, kk1⟩
  have HP : Hid (RH No W1 S (c + 1) s ∧ Keep No w W1) := ⟨hp1, kk1⟩
  clear hp1 kk1
  go_wp2_with fail
  go_ret2
  exact ⟨rfl, HP.out⟩

set_option maxRecDepth 20000 in
set_option maxHeartbeats 2000000 in
theorem rnew_one {No : Nat → Prop} {w : World} {S c : Nat} {s : H.St} (h : RH No w S c s) (hc : c ≤ 700000) (iv : H.Inv 0 s) (x y : Nat) (hx : x ≤ 65536) (hy : y ≤ 65536) (he : H.takeE s 4 = 0) (he2 : H.takeE (H.takeSt s 4) (x : Nat) ≠ 0) :
    Calls Tryz.prog 15 #[.pointer (some ⟨S, 0, none⟩), .int .i64 (x : Nat), .int .i64 (y : Nat)] w fun e w' => e = .returned (.tuple #[.pointer none, .int .i64 (H.takeE (H.takeSt s 4) (x : Nat))]) ∧ RH No w' S (c + 3) (H.giveSt (H.takeSt s 4) (H.takeId s 4)) ∧ Keep No w w' := by
  have h1 : ¬ ((x : Int) < 0) := by omega
  have h2 : ¬ (65536 < (x : Int)) := by omega
  have h3 : ¬ ((y : Int) < 0) := by omega
  have h4 : ¬ (65536 < (y : Int)) := by omega
  have C3 := fun W => C.rceil_any (y : Nat) W (by omega) (by omega)
  have C4 := rtk h (by omega) iv 4
  rw [he] at C4
  have iv2 := iv.take 4
  have C5 := fun W (h' : RH No W S (c + 1) (H.takeSt s 4)) => rtk h' (by omega) iv2 (x : Nat)
  rw [(H.takeSt_bad (.inl he2)).1] at C5
  have C6 := fun W (h' : RH No W S (c + 1 + 1) (H.takeSt s 4)) => rgv h' (by omega) iv2 (H.takeId s 4)
  generalize H.takeE (H.takeSt s 4) (x : Nat) = E at *
  generalize H.takeId (H.takeSt s 4) (x : Nat) = I2 at *
  generalize H.giveE (H.takeSt s 4) (H.takeId s 4) = E3 at *
  generalize H.giveSt (H.takeSt s 4) (H.takeId s 4) = s3 at *
  generalize H.takeSt s 4 = s2 at *
  generalize H.takeId s 4 = I at *
  generalize C.up2 (y : Nat) = z at *
  have heb : (E != 0) = true := by simp [he2]
  clear h iv he he2 iv2
  go_enter Tryz.func15, Tryz.ntmps15
  go_wp2_with fail
  refine (C3 _).mono ?_; rintro e w' ⟨rfl, hw'⟩; rw [hw']; clear hw'
  go_wp2_with fail
  refine C4.mono ?_; rintro e W1 ⟨rfl, hp1, kk1⟩
  have CC := C5 W1 hp1
  have HK1 : Hid (Keep No w W1) := kk1
  clear hp1 kk1 C4 C5
  go_wp2_with fail
  refine CC.mono ?_; rintro e W2 ⟨rfl, hp2, kk2⟩
  have CD := C6 W2 hp2
  have HK2 : Hid (Keep No w W2) := HK1.out.trans kk2
  clear hp2 kk2 CC C6
  go_wp2_with fail
  refine CD.mono ?_; rintro e W3 ⟨rfl, hp3, kk3⟩
  have HP : Hid (RH No W3 S (c + 1 + 1 + 1) s3 ∧ Keep No w W3) := ⟨hp3, HK2.out.trans kk3⟩
  clear hp3 kk3 CD
  go_wp2_with fail
  go_ret2
  exact ⟨rfl, HP.out⟩

set_option maxRecDepth 20000 in
set_option maxHeartbeats 2000000 in
theorem rnew_two {No : Nat → Prop} {w : World} {S c : Nat} {s : H.St} (h : RH No w S c s) (hc : c ≤ 700000) (iv : H.Inv 0 s) (x y z : Nat) (hx : x ≤ 65536) (hy : y ≤ 65536) (hz : C.up2 (y : Nat) = (z : Nat)) (hz2 : z ≤ 65536) (he : H.takeE s 4 = 0) (he2 : H.takeE (H.takeSt s 4) (x : Nat) = 0) (he3 : H.takeE (H.takeSt (H.takeSt s 4) (x : Nat)) (3 * (z : Nat)) ≠ 0) :
    Calls Tryz.prog 15 #[.pointer (some ⟨S, 0, none⟩), .int .i64 (x : Nat), .int .i64 (y : Nat)] w fun e w' => e = .returned (.tuple #[.pointer none, .int .i64 (H.takeE (H.takeSt (H.takeSt s 4) (x : Nat)) (3 * (z : Nat)))]) ∧ RH No w' S (c + 5) (H.giveSt (H.giveSt (H.takeSt (H.takeSt s 4) (x : Nat)) (H.takeId (H.takeSt s 4) (x : Nat))) (H.takeId s 4)) ∧ Keep No w w' := by
  have h1 : ¬ ((x : Int) < 0) := by omega
  have h2 : ¬ (65536 < (x : Int)) := by omega
  have h3 : ¬ ((y : Int) < 0) := by omega
  have h4 : ¬ (65536 < (y : Int)) := by omega
  have C3 := fun W => C.rceil_any (y : Nat) W (by omega) (by omega)
  rw [hz] at C3
  have C4 := rtk h (by omega) iv 4
  rw [he] at C4
  have iv2 := iv.take 4
  have iv3 := iv2.take (x : Nat)
  have C5 := fun W (h' : RH No W S (c + 1) (H.takeSt s 4)) => rtk h' (by omega) iv2 (x : Nat)
  rw [he2] at C5
  have C6 := fun W (h' : RH No W S (c + 1 + 1) (H.takeSt (H.takeSt s 4) (x : Nat))) => rtk h' (by omega) iv3 (3 * (z : Nat))
  rw [(H.takeSt_bad (.inl he3)).1] at C6
  have C7 := fun W (h' : RH No W S (c + 1 + 1 + 1) (H.takeSt (H.takeSt s 4) (x : Nat))) => rgv h' (by omega) iv3 (H.takeId (H.takeSt s 4) (x : Nat))
  have iv4 := iv3.give (H.takeId (H.takeSt s 4) (x : Nat))
  have C8 := fun W (h' : RH No W S (c + 1 + 1 + 1 + 1) (H.giveSt (H.takeSt (H.takeSt s 4) (x : Nat)) (H.takeId (H.takeSt s 4) (x : Nat)))) => rgv h' (by omega) iv4 (H.takeId s 4)
  have hw : IntKind.i64.wrap (3 * (z : Int)) = 3 * (z : Int) := by rw [IntKind.wrap_i64]; omega
  generalize H.giveE (H.giveSt (H.takeSt (H.takeSt s 4) (x : Nat)) (H.takeId (H.takeSt s 4) (x : Nat))) (H.takeId s 4) = E5 at *
  generalize H.giveSt (H.giveSt (H.takeSt (H.takeSt s 4) (x : Nat)) (H.takeId (H.takeSt s 4) (x : Nat))) (H.takeId s 4) = s5 at *
  generalize H.giveE (H.takeSt (H.takeSt s 4) (x : Nat)) (H.takeId (H.takeSt s 4) (x : Nat)) = E4 at *
  generalize H.giveSt (H.takeSt (H.takeSt s 4) (x : Nat)) (H.takeId (H.takeSt s 4) (x : Nat)) = s4 at *
  generalize H.takeE (H.takeSt (H.takeSt s 4) (x : Nat)) (3 * (z : Nat)) = E at *
  generalize H.takeId (H.takeSt (H.takeSt s 4) (x : Nat)) (3 * (z : Nat)) = I3 at *
  generalize H.takeSt (H.takeSt s 4) (x : Nat) = s3 at *
  generalize H.takeId (H.takeSt s 4) (x : Nat) = I2 at *
  generalize H.takeSt s 4 = s2 at *
  generalize H.takeId s 4 = I at *
  have heb : (E != 0) = true := by simp [he3]
  clear h iv he he2 he3 iv2 iv3 iv4 hz
  go_enter Tryz.func15, Tryz.ntmps15
  go_wp2_with fail
  refine (C3 _).mono ?_; rintro e w' ⟨rfl, hw'⟩; rw [hw']; clear hw'
  go_wp2_with fail
  refine C4.mono ?_; rintro e W1 ⟨rfl, hp1, kk1⟩
  have CC := C5 W1 hp1
  have HK1 : Hid (Keep No w W1) := kk1
  clear hp1 kk1 C4 C5
  go_wp2_with fail
  refine CC.mono ?_; rintro e W2 ⟨rfl, hp2, kk2⟩
  have CD := C6 W2 hp2
  have HK2 : Hid (Keep No w W2) := HK1.out.trans kk2
  clear hp2 kk2 CC C6
  go_wp2_with fail
  refine CD.mono ?_; rintro e W3 ⟨rfl, hp3, kk3⟩
  have CE := C7 W3 hp3
  have HK3 : Hid (Keep No w W3) := HK2.out.trans kk3
  clear hp3 kk3 CD C7
  go_wp2_with fail
  refine CE.mono ?_; rintro e W4 ⟨rfl, hp4, kk4⟩
  have CF := C8 W4 hp4
  have HK4 : Hid (Keep No w W4) := HK3.out.trans kk4
  clear hp4 kk4 CE C8
  go_wp2_with fail
  refine CF.mono ?_; rintro e W5 ⟨rfl, hp5, kk5⟩
  have HP : Hid (RH No W5 S (c + 1 + 1 + 1 + 1 + 1) s5 ∧ Keep No w W5) := ⟨hp5, HK4.out.trans kk5⟩
  clear hp5 kk5 CF
  go_wp2_with fail
  go_ret2
  exact ⟨rfl, HP.out⟩

/-- What the reference's New leaves, beside its heap. -/
structure Nr (w w' : World) (x z RT A P ka va ca : Nat) (S : Nat) (i1 i2 : Int) : Prop where
  str : w'.heap[RT]? = some (.cells #[.slice (some ⟨A, 0, none⟩) x x, .pointer (some ⟨P, 0, none⟩), .int .i64 i1, .int .i64 i2, .int .i64 0, .int .i64 0, .pointer (some ⟨S, 0, none⟩)] 87)
  arr : w'.heap[A]? = some (.cells (zeros3 x) 34)
  part : ∃ wa wb, Rn wa wb P ka va ca z ∧ Below wb.heap.size wb w' ∧ w.heap.size ≤ wa.heap.size
  ge : w.heap.size ≤ RT ∧ w.heap.size ≤ A
  ne : RT ≠ A ∧ RT ≠ P ∧ RT ≠ ka ∧ RT ≠ va ∧ RT ≠ ca ∧ A ≠ P ∧ A ≠ ka ∧ A ≠ va ∧ A ≠ ca
theorem nr_of {No : Nat → Prop} {w W w' wa wb : World} {x z S c RT A P ka va ca : Nat} {s : H.St} {i1 i2 : Int} (h : RH No W S c s) (hk : Keep No w W) (hB : Below W.heap.size W w') (hRT : w'.heap[RT]? = some (.cells #[.slice (some ⟨A, 0, none⟩) x x, .pointer (some ⟨P, 0, none⟩), .int .i64 i1, .int .i64 i2, .int .i64 0, .int .i64 0, .pointer (some ⟨S, 0, none⟩)] 87))
    (hA : w'.heap[A]? = some (.cells (zeros3 x) 34)) (hr : Rn wa wb P ka va ca z) (hb : Below wb.heap.size wb w') (hwa : W.heap.size ≤ wa.heap.size) (hgRT : wb.heap.size ≤ RT) (hgA : W.heap.size ≤ A) (hAn : A < wa.heap.size ∨ wb.heap.size ≤ A) (hne : RT ≠ A) :
    RH (fun g => No g ∨ g = RT ∨ g = A ∨ g = P ∨ g = ka ∨ g = va ∨ g = ca) w' S c s ∧ Keep No w w' ∧ Nr w w' x z RT A P ka va ca S i1 i2 := by
  have l1 := hr.lt
  have l2 := hr.ge
  have l3 := hk.size
  have lR : RT < w'.heap.size := (Array.getElem?_eq_some_iff.1 hRT).1
  have lA : A < w'.heap.size := (Array.getElem?_eq_some_iff.1 hA).1
  have l4 := hb.size
  have l5 := hr.bel.size
  refine ⟨(h.news hB).sub (fun g q => ?_), hk.bel hB, ⟨hRT, hA, ⟨wa, wb, hr, hb, by omega⟩, by omega, by omega⟩⟩
  rcases q with q | q | q | q | q | q | q
  · exact .inl q
  all_goals exact .inr (by omega)
set_option maxRecDepth 20000 in
set_option maxHeartbeats 2000000 in
theorem rnew_good {No : Nat → Prop} {w : World} {S c : Nat} {s : H.St} (h : RH No w S c s) (hc : c ≤ 700000) (iv : H.Inv 0 s) (x y z : Nat) (hx : x ≤ 65536) (hy : y ≤ 65536) (hz : C.up2 (y : Nat) = (z : Nat)) (hz2 : z ≤ 65536) (he : H.takeE s 4 = 0) (he2 : H.takeE (H.takeSt s 4) (x : Nat) = 0) (he3 : H.takeE (H.takeSt (H.takeSt s 4) (x : Nat)) (3 * (z : Nat)) = 0) :
    Calls Tryz.prog 15 #[.pointer (some ⟨S, 0, none⟩), .int .i64 (x : Nat), .int .i64 (y : Nat)] w fun e w' => ∃ RT A P ka va ca, e = .returned (.tuple #[.pointer (some ⟨RT, 0, none⟩), .int .i64 0]) ∧ RH (fun g => No g ∨ g = RT ∨ g = A ∨ g = P ∨ g = ka ∨ g = va ∨ g = ca) w' S (c + 3) (H.takeSt (H.takeSt (H.takeSt s 4) (x : Nat)) (3 * (z : Nat))) ∧ Keep No w w' ∧
      Nr w w' x z RT A P ka va ca S (H.takeId (H.takeSt s 4) (x : Nat)) (H.takeId (H.takeSt (H.takeSt s 4) (x : Nat)) (3 * (z : Nat))) := by
  have h1 : ¬ ((x : Int) < 0) := by omega
  have h2 : ¬ (65536 < (x : Int)) := by omega
  have h3 : ¬ ((y : Int) < 0) := by omega
  have h4 : ¬ (65536 < (y : Int)) := by omega
  have C3 := fun W => C.rceil_any (y : Nat) W (by omega) (by omega)
  rw [hz] at C3
  have C4 := rtk h (by omega) iv 4
  rw [he] at C4
  have iv2 := iv.take 4
  have iv3 := iv2.take (x : Nat)
  have C5 := fun W (h' : RH No W S (c + 1) (H.takeSt s 4)) => rtk h' (by omega) iv2 (x : Nat)
  rw [he2] at C5
  have C6 := fun W (h' : RH No W S (c + 1 + 1) (H.takeSt (H.takeSt s 4) (x : Nat))) => rtk h' (by omega) iv3 (3 * (z : Nat))
  rw [he3] at C6
  have hw : IntKind.i64.wrap (3 * (z : Int)) = 3 * (z : Int) := by rw [IntKind.wrap_i64]; omega
  have CN := fun W => rnew_any z W hz2
  have m1 := make_vals x hx
  generalize H.takeSt (H.takeSt (H.takeSt s 4) (x : Nat)) (3 * (z : Nat)) = s4 at *
  generalize H.takeId (H.takeSt (H.takeSt s 4) (x : Nat)) (3 * (z : Nat)) = I3 at *
  generalize H.takeSt (H.takeSt s 4) (x : Nat) = s3 at *
  generalize H.takeId (H.takeSt s 4) (x : Nat) = I2 at *
  generalize H.takeSt s 4 = s2 at *
  generalize H.takeId s 4 = I at *
  clear h iv he he2 he3 iv2 iv3 hz
  unfold pp at CN
  go_enter Tryz.func15, Tryz.ntmps15
  go_wp2_with fail
  refine (C3 _).mono ?_; rintro e w' ⟨rfl, hw'⟩; rw [hw']; clear hw'
  go_wp2_with fail
  refine C4.mono ?_; rintro e W1 ⟨rfl, hp1, kk1⟩
  have CC := C5 W1 hp1
  have HK1 : Hid (Keep No w W1) := kk1
  clear hp1 kk1 C4 C5
  go_wp2_with fail
  refine CC.mono ?_; rintro e W2 ⟨rfl, hp2, kk2⟩
  have CD := C6 W2 hp2
  have HK2 : Hid (Keep No w W2) := HK1.out.trans kk2
  clear hp2 kk2 CC C6
  go_wp2_with fail
  refine CD.mono ?_; rintro e W3 ⟨rfl, hp3, kk3⟩
  have HP3 : Hid (RH No W3 S (c + 1 + 1 + 1) s4 ∧ Keep No w W3) := ⟨hp3, HK2.out.trans kk3⟩
  clear hp3 kk3 CD
  obtain ⟨zz, hzz⟩ : ∃ zz, zeros3 x = zz := ⟨_, rfl⟩
  have HZZ : Hid (zeros3 x = zz) := hzz
  rw [hzz] at m1
  clear hzz
  obtain ⟨Wm, hWm⟩ : ∃ Wm, W3.drew.alloc (.cells zz 34) = Wm := ⟨_, rfl⟩
  have CNd := CN W3.drew
  have CNm := CN Wm
  have HWm : Hid (Below W3.heap.size W3 Wm ∧ Wm.heap.size = W3.heap.size + 1 ∧ Wm.heap[W3.heap.size]? = some (.cells zz 34)) := by
    rw [← hWm]
    exact ⟨bthen (bdrew1 W3) (Nat.le_refl _) (b1 _ _), by simp, (MapKept.heap_alloc W3.drew _).1⟩
  clear CN
  go_wp2_with fail
  go_region_with (first
    | (go_at_call 32; refine CNd.mono ?_; rintro e w4 ⟨P, ka, va, ca, rfl, r4⟩; have HRd : Hid (Rn W3.drew w4 P ka va ca z) := r4; clear r4)
    | (go_at_call 32; refine CNm.mono ?_; rintro e w4 ⟨P, ka, va, ca, rfl, r4⟩; have HRm : Hid (Rn Wm w4 P ka va ca z) := r4; clear r4))
  all_goals
    go_wp2_with fail
    go_ret2
  all_goals first
    | exact ⟨w4.heap.size, W3.heap.size, P, ka, va, ca, rfl, nr_of HP3.out.1 HP3.out.2 (bthen (bthen HWm.out.1 HWm.out.1.size HRm.out.bel) (by have := HWm.out.1.size; have := HRm.out.bel.size; omega) (b1 _ _)) (MapKept.heap_alloc w4 _).1
        (by have h0 := HWm.out.2.2
            have h1 := HRm.out.bel.block W3.heap.size (by have := HWm.out.2.1; omega)
            rw [Below.heap_alloc _ _ _ (by have := HWm.out.2.1; have := HRm.out.bel.size; omega), h1, h0, HZZ.out]) HRm.out (b1 _ _) HWm.out.1.size (Nat.le_refl _) (Nat.le_refl _) (.inl (by have := HWm.out.2.1; omega)) (by have := HWm.out.2.1; have := HRm.out.bel.size; omega)⟩
    | exact ⟨w4.heap.size + 1, w4.heap.size, P, ka, va, ca, rfl, nr_of HP3.out.1 HP3.out.2 (bthen (bthen (bdrew1 W3) (Nat.le_refl _) HRd.out.bel) (by have h0 := HRd.out.bel.size; exact h0) (b2 _ _ _))
        (by have h0 := (MapKept.heap_alloc (w4.alloc (.cells zz 34)) (.cells #[.slice (some ⟨w4.heap.size, 0, none⟩) x x, .pointer (some ⟨P, 0, none⟩), .int .i64 I2, .int .i64 I3, .int .i64 0, .int .i64 0, .pointer (some ⟨S, 0, none⟩)] 87)).1
            simpa using h0)
        (by rw [Below.heap_alloc _ _ _ (by simp), HZZ.out]; exact (MapKept.heap_alloc w4 _).1) HRd.out (b2 _ _ _) (Nat.le_refl _) (by omega) (by have h0 := HRd.out.bel.size; exact h0) (.inr (Nat.le_refl _)) (by omega)⟩
end Go.Proofs.YtcaaaoehipcloaaGreat

/- The walk of begin: both heaps, both tables. -/
namespace Go.Proofs.YtcaaaoehipcloaaGreat
open Go.RowKit

theorem new_hp (w : World) (n : Int) (No : Nat → Prop) (hn : ∀ g, No g → g < w.heap.size) : H.Hp No ((w.alloc (.map #[] 0)).alloc (.cells #[.int .i64 n, .int .i64 0, .int .i64 0, .slice none 0 0, .map (some w.heap.size)] 78)) (w.heap.size + 1) w.heap.size 0 (.slice none 0 0) (H.newSt n) := by
  have e : (w.alloc (.map #[] 0)).heap.size = w.heap.size + 1 := by simp
  have hs := (MapKept.heap_alloc (w.alloc (.map #[] 0)) (.cells #[.int .i64 n, .int .i64 0, .int .i64 0, .slice none 0 0, .map (some w.heap.size)] 78)).1
  rw [e] at hs
  refine ⟨hs, World.ownsRow_nil _ _ _ _, (H.Rdy.made No w).alloc _, Nat.le_refl _, fun q => ?_, fun q => ?_, fun g e => (by cases e), fun g q => ?_⟩
  · have := hn _ q; omega
  · have := hn _ q; omega
  · have := hn _ q; simp; omega
theorem new_rh (w : World) (n : Int) (No : Nat → Prop) (hn : ∀ g, No g → g < w.heap.size) : RH No (w.alloc (.cells #[.int .i64 n, .int .i64 0, .int .i64 0, .slice none 0 0] 55)) w.heap.size 0 (H.newSt n) := by
  refine ⟨.slice none 0 0, ⟨n, 0, 0, []⟩, ⟨(MapKept.heap_alloc w _).1, World.ownsRow_nil _ _ _ _, Nat.le_refl _, fun q => ?_, fun g e => (by cases e), fun g q => ?_⟩, H.Sim.new n, Int.le_refl _⟩
  · have := hn _ q; omega
  · have := hn _ q; simp; omega
theorem TT.frame2 {No : Nat → Prop} {w w' : World} {T A b a S hb c : Nat} {t : TS} {s : H.St} (h : TT No w T A b a S hb c t s) (hos : w'.os = w.os) (ht : w'.tape = w.tape) (ho : w'.output = w.output) (hs : w.heap.size ≤ w'.heap.size) (hk : ∀ g, g < w.heap.size → ¬ No g → w'.heap[g]? = w.heap[g]?) :
    TT (fun g => No g ∨ (w.heap.size ≤ g ∧ g < w'.heap.size)) w' T A b a S hb c t s := by
  obtain ⟨vb, hp⟩ := h.hp
  have l1 := h.tm.pm.ltA
  have l2 := h.tm.pm.ltB
  have l3 := h.tm.pm.pt.lta
  have l4 := h.tm.pm.pt.ltb
  have k : Keep (fun g => ¬ No g) w w' := ⟨hos, ht, ho, hs, hk⟩
  refine ⟨h.tm.kept k h.nT h.nA h.nb h.na, ⟨vb, Hp.sub (Hp.frame2 hp hos ht ho hs (fun g hg hn => hk g hg (fun q => hn (.inl q)))) (fun g q => ?_)⟩, fun q => q.elim h.nT (by omega), fun q => q.elim h.nA (by omega), fun q => q.elim h.nb (by omega), fun q => q.elim h.na (by omega), h.ti, h.iv, h.p0, h.p1⟩
  rcases q with (q | q) | q
  · exact .inl (.inl q)
  · exact .inr q
  · exact .inl (.inr q)

/-- What New comes to. -/
def inP (x : Int) : Prop := 0 ≤ x ∧ x ≤ 65536
instance (x : Int) : Decidable (inP x) := inferInstanceAs (Decidable (_ ∧ _))
def nE (s : H.St) (x y : Int) : Int := if ¬ (inP x ∧ inP y) then 1 else if H.takeE s 4 ≠ 0 then H.takeE s 4 else tpE (H.takeSt s 4) x (C.up2 y)
def nS (s : H.St) (x y : Int) : H.St := if ¬ (inP x ∧ inP y) then s else if H.takeE s 4 ≠ 0 then s else if tpE (H.takeSt s 4) x (C.up2 y) ≠ 0 then H.giveSt (tpS (H.takeSt s 4) x (C.up2 y)) (H.takeId s 4) else tpS (H.takeSt s 4) x (C.up2 y)
theorem nS_inv {s : H.St} (iv : H.Inv 0 s) (x y : Int) : H.Inv 0 (nS s x y) := by
  unfold nS
  split
  · exact iv
  · split
    · exact iv
    · split
      · exact (tp_inv (iv.take 4) _ _).give _
      · exact tp_inv (iv.take 4) _ _
theorem inP.nat {x : Int} (h : inP x) : ∃ n : Nat, x = n ∧ n ≤ 65536 := ⟨x.toNat, by have := h.1; omega, by have := h.1; have := h.2; omega⟩
theorem nE_arg {s : H.St} {x y : Int} (hp : ¬ (inP x ∧ inP y)) : nE s x y = 1 ∧ nS s x y = s := ⟨by unfold nE; rw [if_pos hp], by unfold nS; rw [if_pos hp]⟩
theorem nE_four {s : H.St} {x y : Int} (hp : inP x ∧ inP y) (h4 : H.takeE s 4 ≠ 0) : nE s x y = H.takeE s 4 ∧ nS s x y = s := by
  have hp' : ¬ ¬ (inP x ∧ inP y) := fun q => q hp
  exact ⟨by unfold nE; rw [if_neg hp', if_pos h4], by unfold nS; rw [if_neg hp', if_pos h4]⟩
theorem nE_rest {s : H.St} {x y : Int} (hp : inP x ∧ inP y) (h4 : H.takeE s 4 = 0) : nE s x y = tpE (H.takeSt s 4) x (C.up2 y) ∧ nS s x y = (if tpE (H.takeSt s 4) x (C.up2 y) ≠ 0 then H.giveSt (tpS (H.takeSt s 4) x (C.up2 y)) (H.takeId s 4) else tpS (H.takeSt s 4) x (C.up2 y)) := by
  have hp' : ¬ ¬ (inP x ∧ inP y) := fun q => q hp
  have h4' : ¬ H.takeE s 4 ≠ 0 := fun q => q h4
  exact ⟨by unfold nE; rw [if_neg hp', if_neg h4'], by unfold nS; rw [if_neg hp', if_neg h4']⟩
theorem tpE_one {s : H.St} {n z : Int} (q : H.takeE s n ≠ 0) : tpE s n z = H.takeE s n ∧ tpS s n z = s := ⟨by unfold tpE; rw [if_pos q], by unfold tpS; rw [if_pos q]⟩
theorem tpE_two {s : H.St} {n z : Int} (q : H.takeE s n = 0) : tpE s n z = H.takeE (H.takeSt s n) (3 * z) ∧ tpS s n z = if H.takeE (H.takeSt s n) (3 * z) ≠ 0 then H.giveSt (H.takeSt s n) (H.takeId s n) else H.takeSt (H.takeSt s n) (3 * z) := by
  have q' : ¬ H.takeE s n ≠ 0 := fun h => h q
  exact ⟨by unfold tpE; rw [if_neg q'], by unfold tpS; rw [if_neg q']⟩
theorem new_fail {No : Nat → Prop} {w : World} {S hb c : Nat} {vb : Value} {s : H.St} (h : H.Hp No w S hb c vb s) (hc : c ≤ 700000) (iv : H.Inv 0 s) (x y : Int) (he : nE s x y ≠ 0) :
    Calls Tryz.prog 14 #[.pointer (some ⟨S, 0, none⟩), .int .i64 x, .int .i64 y] w fun e w' => e = .returned (.tuple #[.pointer none, .int .i64 (nE s x y)]) ∧ (∃ v', H.Hp No w' S hb (c + 5) v' (nS s x y)) ∧ Keep No w w' := by
  by_cases hp : inP x ∧ inP y
  · by_cases h4 : H.takeE s 4 = 0
    · obtain ⟨e1, e2⟩ := nE_rest hp h4
      rw [e1] at he
      rw [e1, e2, if_pos he]
      obtain ⟨n, rfl, hn⟩ := hp.1.nat
      obtain ⟨m, rfl, hm⟩ := hp.2.nat
      obtain ⟨z, hz, hz2, _⟩ := up2_rt (m : Nat) (by omega) (by omega)
      rw [hz] at he ⊢
      exact new_parts h hc iv n m z hn hm hz hz2.le h4 he
    · obtain ⟨e1, e2⟩ := nE_four hp h4
      rw [e1, e2]
      obtain ⟨n, rfl, hn⟩ := hp.1.nat
      obtain ⟨m, rfl, hm⟩ := hp.2.nat
      refine (new_cells h hc iv n m hn hm h4).mono ?_
      rintro e w' ⟨rfl, ⟨v', hp'⟩, kk⟩
      exact ⟨rfl, ⟨v', hp'.more (by omega)⟩, kk⟩
  · obtain ⟨e1, e2⟩ := nE_arg (s := s) hp
    rw [e1, e2]
    refine (new_arg w _ (.inr ⟨S, rfl⟩) x y (.inr ?_)).mono ?_
    · by_cases q : inP x
      · exact .inr fun q2 => hp ⟨q, q2⟩
      · exact .inl q
    · rintro e w' ⟨rfl, rfl⟩
      exact ⟨rfl, ⟨vb, h.more (by omega)⟩, Keep.refl _ _⟩
theorem rnew_fail {No : Nat → Prop} {w : World} {S c : Nat} {s : H.St} (h : RH No w S c s) (hc : c ≤ 700000) (iv : H.Inv 0 s) (x y : Int) (he : nE s x y ≠ 0) :
    Calls Tryz.prog 15 #[.pointer (some ⟨S, 0, none⟩), .int .i64 x, .int .i64 y] w fun e w' => e = .returned (.tuple #[.pointer none, .int .i64 (nE s x y)]) ∧ RH No w' S (c + 5) (nS s x y) ∧ Keep No w w' := by
  by_cases hp : inP x ∧ inP y
  · by_cases h4 : H.takeE s 4 = 0
    · obtain ⟨e1, e2⟩ := nE_rest hp h4
      rw [e1] at he
      rw [e1, e2, if_pos he]
      obtain ⟨n, rfl, hn⟩ := hp.1.nat
      obtain ⟨m, rfl, hm⟩ := hp.2.nat
      obtain ⟨z, hz, hz2, _⟩ := up2_rt (m : Nat) (by omega) (by omega)
      rw [hz] at he ⊢
      by_cases q : H.takeE (H.takeSt s 4) (n : Nat) = 0
      · obtain ⟨e3, e4⟩ := tpE_two (z := (z : Nat)) q
        rw [e3] at he
        rw [e3, e4, if_pos he]
        exact rnew_two h hc iv n m z hn hm hz hz2.le h4 q he
      · obtain ⟨e3, e4⟩ := tpE_one (z := (z : Nat)) q
        rw [e3, e4]
        refine (rnew_one h hc iv n m hn hm h4 q).mono ?_
        rintro e w' ⟨rfl, hp', kk⟩
        exact ⟨rfl, hp'.more (by omega), kk⟩
    · obtain ⟨e1, e2⟩ := nE_four hp h4
      rw [e1, e2]
      obtain ⟨n, rfl, hn⟩ := hp.1.nat
      obtain ⟨m, rfl, hm⟩ := hp.2.nat
      refine (rnew_cells h hc iv n m hn hm h4).mono ?_
      rintro e w' ⟨rfl, hp', kk⟩
      exact ⟨rfl, hp'.more (by omega), kk⟩
  · obtain ⟨e1, e2⟩ := nE_arg (s := s) hp
    rw [e1, e2]
    refine (rnew_arg w S x y ?_).mono ?_
    · by_cases q : inP x
      · exact .inr fun q2 => hp ⟨q, q2⟩
      · exact .inl q
    · rintro e w' ⟨rfl, rfl⟩
      exact ⟨rfl, h.more (by omega), Keep.refl _ _⟩
/-- What it takes that New succeeds. -/
structure Okn (s : H.St) (x y : Int) (n z : Nat) : Prop where
  ex : x = n
  hn : n ≤ 65536
  hy : ∃ m : Nat, y = m ∧ m ≤ 65536 ∧ C.up2 (m : Nat) = (z : Nat)
  hz : Rt z
  e1 : H.takeE s 4 = 0
  e2 : H.takeE (H.takeSt s 4) (n : Nat) = 0
  e3 : H.takeE (H.takeSt (H.takeSt s 4) (n : Nat)) (3 * (z : Nat)) = 0
  es : nS s x y = H.takeSt (H.takeSt (H.takeSt s 4) (n : Nat)) (3 * (z : Nat))
theorem okn {s : H.St} {x y : Int} (he : nE s x y = 0) : ∃ n z, Okn s x y n z := by
  by_cases hp : inP x ∧ inP y
  · by_cases h4 : H.takeE s 4 = 0
    · obtain ⟨e1, e2⟩ := nE_rest hp h4
      rw [e1] at he
      rw [if_neg (fun q => q he)] at e2
      obtain ⟨n, rfl, hn⟩ := hp.1.nat
      obtain ⟨m, rfl, hm⟩ := hp.2.nat
      obtain ⟨z, hz, hz2, _⟩ := up2_rt (m : Nat) (by omega) (by omega)
      rw [hz] at he e2
      by_cases q : H.takeE (H.takeSt s 4) (n : Nat) = 0
      · obtain ⟨e3, e4⟩ := tpE_two (z := (z : Nat)) q
        rw [e3] at he
        rw [if_neg (fun q => q he)] at e4
        exact ⟨n, z, rfl, hn, ⟨m, rfl, hm, hz⟩, hz2, h4, q, he, e2.trans e4⟩
      · rw [(tpE_one (z := (z : Nat)) q).1] at he; exact absurd he q
    · rw [(nE_four hp h4).1] at he; exact absurd he h4
  · rw [(nE_arg hp).1] at he; cases he

abbrev cv (l x y : Int) (v : Value) : Value := .agg #[.int .i64 l, .int .i64 x, .int .i64 y, v]
end Go.Proofs.YtcaaaoehipcloaaGreat

/- Stores into the sorter; the walk of ask. -/
namespace Go.Proofs.YtcaaaoehipcloaaGreat
open Go.RowKit

/-- An answer as a value. -/
def tolV (t : Tol) : Value := .agg #[.int .i64 t.1.1, .int .i64 t.1.2.1, .string t.1.2.2, .int .i64 t.2.1.1, .int .i64 t.2.1.2.1, .string t.2.1.2.2, .bool t.2.2.1, .int .i64 t.2.2.2]
theorem blk_set {w : World} {B j : Nat} {cur : Array Value} {t : TypeId} (h : w.heap[B]? = some (.cells cur t (0, 0))) (v : Value) : (w.setCell ⟨B, j, none⟩ v).heap[B]? = some (.cells (cur.setIfInBounds j v) t (0, 0)) := by
  have hlt := (Array.getElem?_eq_some_iff.1 h).1
  have he := (Array.getElem?_eq_some_iff.1 h).2
  show (w.heap.modify B _)[B]? = _
  rw [Array.getElem?_eq_getElem (by rw [Array.size_modify]; exact hlt), Array.getElem_modify_self, he]
  simp
/-- The sorter's own cells have changed, and nothing else that was there. -/
theorem So.to {No : Nat → Prop} {w W : World} {B : Nat} {wv : Value} {T A b a S hb c : Nat} {d : SD} (h : So No w B wv T A b a S hb c d) (k : Keep (fun g => g ≠ B ∧ g < w.heap.size) w W) (s' : SS) (hb' : W.heap[B]? = some (.cells (scl T wv s') 71 (0, 0))) (hw : s'.wt = d.1.wt) : So No W B wv T A b a S hb c (s', d.2) ∧ Keep No w W := by
  have hl := h.lt
  refine ⟨⟨hb', ?_, ?_, h.nB, h.nW⟩, ⟨k.os, k.tape, k.output, k.size, fun g hg q => k.block g hg ⟨fun e => h.nB (e ▸ q), hg⟩⟩⟩
  · show W.ownsRow (B + 1) 68 2 wv s'.wt.length (rws s'.wt.reverse)
    rw [hw]
    have hlt := h.row.lt
    refine ⟨h.row.1, ?_⟩
    rcases h.row.2 with h2 | ⟨g, cap, cur, e, h2, h3, r⟩
    · exact .inl h2
    · have q := (hlt g (by rw [e]; rfl)).2
      exact .inr ⟨g, cap, cur, e, h2, (k.block g q ⟨by omega, q⟩).trans h3, r⟩
  · exact (h.tt.frame2 k.os k.tape k.output k.size (fun g hg hn => k.block g hg ⟨fun e => hn (.inr (.inl e)), hg⟩)).sub (fun g q => .inl q)
/-- The block of an answer. -/
structure R8 (w : World) (N : Nat) (t : Tol) : Prop where
  blk : w.heap[N]? = some (.cells #[.int .i64 t.1.1, .int .i64 t.1.2.1, .string t.1.2.2, .int .i64 t.2.1.1, .int .i64 t.2.1.2.1, .string t.2.1.2.2, .bool t.2.2.1, .int .i64 t.2.2.2] 73 (0, 0))
theorem R8.cell {w : World} {N : Nat} {t : Tol} (h : R8 w N t) {j : Nat} {v : Value} (hj : (#[.int .i64 t.1.1, .int .i64 t.1.2.1, .string t.1.2.2, .int .i64 t.2.1.1, .int .i64 t.2.1.2.1, .string t.2.1.2.2, .bool t.2.2.1, .int .i64 t.2.2.2] : Array Value)[j]? = some v) : w.cell? ⟨N, j, none⟩ = some v := by
  simp only [World.cell?, h.blk]
  simpa using hj
theorem R8.free {w : World} {N : Nat} {t : Tol} (h : R8 w N t) (j : Nat) : w.frozen? ⟨N, j, none⟩ = false := by
  simp [World.frozen?, h.blk]
theorem R8.lt {w : World} {N : Nat} {t : Tol} (h : R8 w N t) : N < w.heap.size := (Array.getElem?_eq_some_iff.1 h.blk).1
def set8 (w : World) (N : Nat) (t : Tol) : World := (((((((w.setCell ⟨N, 0, none⟩ (.int .i64 t.1.1)).setCell ⟨N, 1, none⟩ (.int .i64 t.1.2.1)).setCell ⟨N, 2, none⟩ (.string t.1.2.2)).setCell ⟨N, 3, none⟩ (.int .i64 t.2.1.1)).setCell ⟨N, 4, none⟩ (.int .i64 t.2.1.2.1)).setCell ⟨N, 5, none⟩ (.string t.2.1.2.2)).setCell ⟨N, 6, none⟩ (.bool t.2.2.1)).setCell ⟨N, 7, none⟩ (.int .i64 t.2.2.2)
theorem R8.set {w : World} {N : Nat} {t : Tol} (h : R8 w N t) (t' : Tol) : R8 (set8 w N t') N t' := by
  have h0 := blk_set (j := 0) h.blk (.int .i64 t'.1.1)
  have h1 := blk_set (j := 1) h0 (.int .i64 t'.1.2.1)
  have h2 := blk_set (j := 2) h1 (.string t'.1.2.2)
  have h3 := blk_set (j := 3) h2 (.int .i64 t'.2.1.1)
  have h4 := blk_set (j := 4) h3 (.int .i64 t'.2.1.2.1)
  have h5 := blk_set (j := 5) h4 (.string t'.2.1.2.2)
  have h6 := blk_set (j := 6) h5 (.bool t'.2.2.1)
  have h7 := blk_set (j := 7) h6 (.int .i64 t'.2.2.2)
  exact ⟨h7.trans (by simp)⟩
theorem Keep.set8 {No : Nat → Prop} {w w1 : World} (h : Keep No w w1) {N : Nat} (hN : ¬ No N) (t : Tol) : Keep No w (Proofs.YtcaaaoehipcloaaGreat.set8 w1 N t) :=
  (((((((h.set (p := ⟨N, 0, none⟩) hN _).set (p := ⟨N, 1, none⟩) hN _).set (p := ⟨N, 2, none⟩) hN _).set (p := ⟨N, 3, none⟩) hN _).set (p := ⟨N, 4, none⟩) hN _).set (p := ⟨N, 5, none⟩) hN _).set (p := ⟨N, 6, none⟩) hN _).set (p := ⟨N, 7, none⟩) hN _
theorem R8.made (w : World) : R8 (w.alloc (.cells #[.int .i64 0, .int .i64 0, .string ⟨#[]⟩, .int .i64 0, .int .i64 0, .string ⟨#[]⟩, .bool false, .int .i64 0] 73)) w.heap.size (nil, nil, false, 0) := ⟨(MapKept.heap_alloc w _).1⟩
theorem R8.kept {No : Nat → Prop} {w w' : World} {N : Nat} {t : Tol} (h : R8 w N t) (k : Keep No w w') (hN : No N) : R8 w' N t := ⟨(k.block N h.lt hN).trans h.blk⟩
set_option maxRecDepth 20000 in
set_option maxHeartbeats 4000000 in
theorem ask_any {No : Nat → Prop} {w : World} {B : Nat} {wv : Value} {T A b a S hb c : Nat} {d : SD} (h : So No w B wv T A b a S hb c d) (k : Int) (v u : V) :
    Calls Tryz.prog 71 #[.pointer (some ⟨B, 0, none⟩), .int .i64 k, vv v, vv u] w fun e w' => e = .returned (tolV (askT v u)) ∧ So No w' B wv T A b a S hb c (askD d k) ∧ Keep No w w' := by
  have B0 := b2 w (vb v.1 v.2.1 v.2.2) (vb u.1 u.2.1 u.2.2)
  have X1 := (Bx.made w v).below (b1 _ (vb u.1 u.2.1 u.2.2))
  have X2 := Bx.made (w.alloc (vb v.1 v.2.1 v.2.2)) u
  have eX : (w.alloc (vb v.1 v.2.1 v.2.2)).heap.size = w.heap.size + 1 := by simp
  rw [eX] at X2
  have z0 : ((w.alloc (vb v.1 v.2.1 v.2.2)).alloc (vb u.1 u.2.1 u.2.2)).heap.size = w.heap.size + 2 := by simp
  have R0 := R8.made ((w.alloc (vb v.1 v.2.1 v.2.2)).alloc (vb u.1 u.2.1 u.2.2))
  rw [z0] at R0
  have B1 := bthen B0 B0.size (b1 _ (.cells #[.int .i64 0, .int .i64 0, .string ⟨#[]⟩, .int .i64 0, .int .i64 0, .string ⟨#[]⟩, .bool false, .int .i64 0] 73))
  have X1 := X1.below (b1 _ (.cells #[.int .i64 0, .int .i64 0, .string ⟨#[]⟩, .int .i64 0, .int .i64 0, .string ⟨#[]⟩, .bool false, .int .i64 0] 73))
  have X2 := X2.below (b1 _ (.cells #[.int .i64 0, .int .i64 0, .string ⟨#[]⟩, .int .i64 0, .int .i64 0, .string ⟨#[]⟩, .bool false, .int .i64 0] 73))
  obtain ⟨W0, hW0⟩ : ∃ W0, ((w.alloc (vb v.1 v.2.1 v.2.2)).alloc (vb u.1 u.2.1 u.2.2)).alloc (.cells #[.int .i64 0, .int .i64 0, .string ⟨#[]⟩, .int .i64 0, .int .i64 0, .string ⟨#[]⟩, .bool false, .int .i64 0] 73) = W0 := ⟨_, rfl⟩
  rw [hW0] at R0 B1 X1 X2
  have hs0 := h.below B1
  have hlt := h.lt
  have a4 : W0.cell? ⟨B, 4, none⟩ = some (.int .i64 d.1.ak) := hs0.cell (j := 4) rfl
  have f4 := hs0.free 4
  have kB : Keep (fun g => g ≠ B) W0 (W0.setCell ⟨B, 4, none⟩ (.int .i64 k)) := (Keep.refl _ W0).set (p := ⟨B, 4, none⟩) (fun q => q rfl) _
  have bB := blk_set (j := 4) hs0.blk (.int .i64 k)
  obtain ⟨W1, hW1⟩ : ∃ W1, W0.setCell ⟨B, 4, none⟩ (.int .i64 k) = W1 := ⟨_, rfl⟩
  rw [hW1] at bB kB
  have Y1 := X1.kept kB (by show w.heap.size ≠ B; omega)
  have Y2 := X2.kept kB (by show w.heap.size + 1 ≠ B; omega)
  have R1 := R0.kept kB (by show w.heap.size + 2 ≠ B; omega)
  have R2 := R1.set (askT v u)
  have k8 : Keep (fun g => g ≠ w.heap.size + 2) W1 (set8 W1 (w.heap.size + 2) (askT v u)) := (Keep.refl _ W1).set8 (fun q => q rfl) _
  have kA : Keep (fun g => g ≠ B ∧ g < w.heap.size) w (set8 W1 (w.heap.size + 2) (askT v u)) := ((Keep.of B1).trans (kB.sub (fun g q => q.1))).trans (k8.sub (fun g q => by have := q.2; show g ≠ w.heap.size + 2; omega))
  have bF : (set8 W1 (w.heap.size + 2) (askT v u)).heap[B]? = some (.cells (scl T wv { d.1 with ak := k }) 71 (0, 0)) := by
    have hB1 : B < W1.heap.size := (Array.getElem?_eq_some_iff.1 bB).1
    rw [k8.block B hB1 (by show B ≠ w.heap.size + 2; omega), bB]
    rfl
  have HZ : Hid (_ ∧ _) := h.to kA { d.1 with ak := k } bF rfl
  have y0 := Y1.c0
  have y1 := Y1.c1
  have y2 := Y1.c2
  have u0 := Y2.c0
  have u1 := Y2.c1
  have u2 := Y2.c2
  have HR : Hid (R8 (set8 W1 (w.heap.size + 2) (askT v u)) (w.heap.size + 2) (askT v u)) := R2
  obtain ⟨W2, hW2⟩ : ∃ W2, set8 W1 (w.heap.size + 2) (askT v u) = W2 := ⟨_, rfl⟩
  rw [hW2] at HZ HR
  unfold set8 askT at hW2
  have e0 : W1.cell? ⟨w.heap.size + 2, 0, none⟩ = some (.int .i64 0) := R1.cell (j := 0) rfl
  have e1 : W1.cell? ⟨w.heap.size + 2, 1, none⟩ = some (.int .i64 0) := R1.cell (j := 1) rfl
  have e2 : W1.cell? ⟨w.heap.size + 2, 2, none⟩ = some (.string ⟨#[]⟩) := R1.cell (j := 2) rfl
  have e3 : W1.cell? ⟨w.heap.size + 2, 3, none⟩ = some (.int .i64 0) := R1.cell (j := 3) rfl
  have e4 : W1.cell? ⟨w.heap.size + 2, 4, none⟩ = some (.int .i64 0) := R1.cell (j := 4) rfl
  have e5 : W1.cell? ⟨w.heap.size + 2, 5, none⟩ = some (.string ⟨#[]⟩) := R1.cell (j := 5) rfl
  have e6 : W1.cell? ⟨w.heap.size + 2, 6, none⟩ = some (.bool false) := R1.cell (j := 6) rfl
  have e7 : W1.cell? ⟨w.heap.size + 2, 7, none⟩ = some (.int .i64 0) := R1.cell (j := 7) rfl
  have ef := fun j => R1.free j
  unfold vb at hW0
  unfold vv vl
  unfold askD
  clear B0 B1 X1 X2 Y1 Y2 R0 R1 R2 hs0 kA kB k8 bB bF z0 eX hlt h
  go_enter Tryz.func71, Tryz.ntmps71
  go_wp2
  have r0 : W2.cell? ⟨w.heap.size + 1 + 1, 0, none⟩ = some (.int .i64 v.1) := HR.out.cell (j := 0) rfl
  have r1 : W2.cell? ⟨w.heap.size + 1 + 1, 1, none⟩ = some (.int .i64 v.2.1) := HR.out.cell (j := 1) rfl
  have r2 : W2.cell? ⟨w.heap.size + 1 + 1, 2, none⟩ = some (.string v.2.2) := HR.out.cell (j := 2) rfl
  have r3 : W2.cell? ⟨w.heap.size + 1 + 1, 3, none⟩ = some (.int .i64 u.1) := HR.out.cell (j := 3) rfl
  have r4 : W2.cell? ⟨w.heap.size + 1 + 1, 4, none⟩ = some (.int .i64 u.2.1) := HR.out.cell (j := 4) rfl
  have r5 : W2.cell? ⟨w.heap.size + 1 + 1, 5, none⟩ = some (.string u.2.2) := HR.out.cell (j := 5) rfl
  have r6 : W2.cell? ⟨w.heap.size + 1 + 1, 6, none⟩ = some (.bool true) := HR.out.cell (j := 6) rfl
  have r7 : W2.cell? ⟨w.heap.size + 1 + 1, 7, none⟩ = some (.int .i64 0) := HR.out.cell (j := 7) rfl
  exact bodyPost_ret (v := tolV (askT v u)) (by simp [results, Tryz.results71, go_sem, r0, r1, r2, r3, r4, r5, r6, r7, tolV, askT]) rfl ⟨rfl, HZ.out.1, HZ.out.2⟩
end Go.Proofs.YtcaaaoehipcloaaGreat
