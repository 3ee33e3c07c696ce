/- The walk of the reference's New. -/
import Derived.Test.YtonopchpnhninaaGreatCg17
namespace Go.Proofs.YtonopchpnhninaaGreat
open Go.RowKit

set_option maxRecDepth 20000 in
set_option maxHeartbeats 2000000 in
theorem rnew_arg (w : World) (S : Nat) (x y : Int) (hb : ¬ (0 ≤ x ∧ x ≤ 65536) ∨ ¬ (0 ≤ y ∧ y ≤ 65536)) :
    Calls Tryz.prog 34 #[.pointer (some ⟨S, 0, none⟩), .int .i64 x, .int .i64 y] w fun e w' => e = .returned (.tuple #[.pointer none, .int .i64 1]) ∧ w' = w := by
  by_cases h1 : x < 0
  · clear hb
    go_enter Tryz.func34, Tryz.ntmps34
    go_wp2_with fail
    go_ret2; exact ⟨rfl, rfl⟩
  · by_cases h2 : 65536 < x
    · clear hb
      go_enter Tryz.func34, Tryz.ntmps34
      go_wp2_with fail
      go_ret2; exact ⟨rfl, rfl⟩
    · by_cases h3 : y < 0
      · clear hb
        go_enter Tryz.func34, Tryz.ntmps34
        go_wp2_with fail
        go_ret2; exact ⟨rfl, rfl⟩
      · have h4 : 65536 < y := by omega
        clear hb
        go_enter Tryz.func34, Tryz.ntmps34
        go_wp2_with fail
        go_ret2; exact ⟨rfl, rfl⟩

set_option maxRecDepth 20000 in
set_option maxHeartbeats 2000000 in
theorem rnew_cells {No : Nat → Prop} {w : World} {S c : Nat} {s : H.St} (h : RH No w S c s) (hc : c ≤ 700000) (iv : H.Inv 0 s) (x y : Nat) (hx : x ≤ 65536) (hy : y ≤ 65536) (he : H.takeE s 4 ≠ 0) :
    Calls Tryz.prog 34 #[.pointer (some ⟨S, 0, none⟩), .int .i64 (x : Nat), .int .i64 (y : Nat)] w fun e w' => e = .returned (.tuple #[.pointer none, .int .i64 (H.takeE s 4)]) ∧ RH No w' S (c + 1) s ∧ Keep No w w' := by
  have h1 : ¬ ((x : Int) < 0) := by omega
  have h2 : ¬ (65536 < (x : Int)) := by omega
  have h3 : ¬ ((y : Int) < 0) := by omega
  have h4 : ¬ (65536 < (y : Int)) := by omega
  have C3 := fun W => C.rceil_any (y : Nat) W (by omega) (by omega)
  have C4 := rtk h (by omega) iv 4
  rw [(H.takeSt_bad (.inl he)).1] at C4
  generalize H.takeE s 4 = E at *
  generalize H.takeId s 4 = I at *
  generalize C.up2 (y : Nat) = z at *
  have heb : (E != 0) = true := by simp [he]
  clear h iv he
  go_enter Tryz.func34, Tryz.ntmps34
  go_wp2_with fail
  refine (C3 _).mono ?_; rintro e w' ⟨rfl, hw'⟩; rw [hw']; clear hw'
  go_wp2_with fail
  refine C4.mono ?_; rintro e W1 ⟨rfl, hp1, kk1⟩
  have HP : Hid (RH No W1 S (c + 1) s ∧ Keep No w W1) := ⟨hp1, kk1⟩
  clear hp1 kk1
  go_wp2_with fail
  go_ret2
  exact ⟨rfl, HP.out⟩

set_option maxRecDepth 20000 in
set_option maxHeartbeats 2000000 in
theorem rnew_one {No : Nat → Prop} {w : World} {S c : Nat} {s : H.St} (h : RH No w S c s) (hc : c ≤ 700000) (iv : H.Inv 0 s) (x y : Nat) (hx : x ≤ 65536) (hy : y ≤ 65536) (he : H.takeE s 4 = 0) (he2 : H.takeE (H.takeSt s 4) (x : Nat) ≠ 0) :
    Calls Tryz.prog 34 #[.pointer (some ⟨S, 0, none⟩), .int .i64 (x : Nat), .int .i64 (y : Nat)] w fun e w' => e = .returned (.tuple #[.pointer none, .int .i64 (H.takeE (H.takeSt s 4) (x : Nat))]) ∧ RH No w' S (c + 3) (H.giveSt (H.takeSt s 4) (H.takeId s 4)) ∧ Keep No w w' := by
  have h1 : ¬ ((x : Int) < 0) := by omega
  have h2 : ¬ (65536 < (x : Int)) := by omega
  have h3 : ¬ ((y : Int) < 0) := by omega
  have h4 : ¬ (65536 < (y : Int)) := by omega
  have C3 := fun W => C.rceil_any (y : Nat) W (by omega) (by omega)
  have C4 := rtk h (by omega) iv 4
  rw [he] at C4
  have iv2 := iv.take 4
  have C5 := fun W (h' : RH No W S (c + 1) (H.takeSt s 4)) => rtk h' (by omega) iv2 (x : Nat)
  rw [(H.takeSt_bad (.inl he2)).1] at C5
  have C6 := fun W (h' : RH No W S (c + 1 + 1) (H.takeSt s 4)) => rgv h' (by omega) iv2 (H.takeId s 4)
  generalize H.takeE (H.takeSt s 4) (x : Nat) = E at *
  generalize H.takeId (H.takeSt s 4) (x : Nat) = I2 at *
  generalize H.giveE (H.takeSt s 4) (H.takeId s 4) = E3 at *
  generalize H.giveSt (H.takeSt s 4) (H.takeId s 4) = s3 at *
  generalize H.takeSt s 4 = s2 at *
  generalize H.takeId s 4 = I at *
  generalize C.up2 (y : Nat) = z at *
  have heb : (E != 0) = true := by simp [he2]
  clear h iv he he2 iv2
  go_enter Tryz.func34, Tryz.ntmps34
  go_wp2_with fail
  refine (C3 _).mono ?_; rintro e w' ⟨rfl, hw'⟩; rw [hw']; clear hw'
  go_wp2_with fail
  refine C4.mono ?_; rintro e W1 ⟨rfl, hp1, kk1⟩
  have CC := C5 W1 hp1
  have HK1 : Hid (Keep No w W1) := kk1
  clear hp1 kk1 C4 C5
  go_wp2_with fail
  refine CC.mono ?_; rintro e W2 ⟨rfl, hp2, kk2⟩
  have CD := C6 W2 hp2
  have HK2 : Hid (Keep No w W2) := HK1.out.trans kk2
  clear hp2 kk2 CC C6
  go_wp2_with fail
  refine CD.mono ?_; rintro e W3 ⟨rfl, hp3, kk3⟩
  have HP : Hid (RH No W3 S (c + 1 + 1 + 1) s3 ∧ Keep No w W3) := ⟨hp3, HK2.out.trans kk3⟩
  clear hp3 kk3 CD
  go_wp2_with fail
  go_ret2
  exact ⟨rfl, HP.out⟩

set_option maxRecDepth 20000 in
set_option maxHeartbeats 2000000 in
theorem rnew_two {No : Nat → Prop} {w : World} {S c : Nat} {s : H.St} (h : RH No w S c s) (hc : c ≤ 700000) (iv : H.Inv 0 s) (x y z : Nat) (hx : x ≤ 65536) (hy : y ≤ 65536) (hz : C.up2 (y : Nat) = (z : Nat)) (hz2 : z ≤ 65536) (he : H.takeE s 4 = 0) (he2 : H.takeE (H.takeSt s 4) (x : Nat) = 0) (he3 : H.takeE (H.takeSt (H.takeSt s 4) (x : Nat)) (3 * (z : Nat)) ≠ 0) :
    Calls Tryz.prog 34 #[.pointer (some ⟨S, 0, none⟩), .int .i64 (x : Nat), .int .i64 (y : Nat)] w fun e w' => e = .returned (.tuple #[.pointer none, .int .i64 (H.takeE (H.takeSt (H.takeSt s 4) (x : Nat)) (3 * (z : Nat)))]) ∧ RH No w' S (c + 5) (H.giveSt (H.giveSt (H.takeSt (H.takeSt s 4) (x : Nat)) (H.takeId (H.takeSt s 4) (x : Nat))) (H.takeId s 4)) ∧ Keep No w w' := by
  have h1 : ¬ ((x : Int) < 0) := by omega
  have h2 : ¬ (65536 < (x : Int)) := by omega
  have h3 : ¬ ((y : Int) < 0) := by omega
  have h4 : ¬ (65536 < (y : Int)) := by omega
  have C3 := fun W => C.rceil_any (y : Nat) W (by omega) (by omega)
  rw [hz] at C3
  have C4 := rtk h (by omega) iv 4
  rw [he] at C4
  have iv2 := iv.take 4
  have iv3 := iv2.take (x : Nat)
  have C5 := fun W (h' : RH No W S (c + 1) (H.takeSt s 4)) => rtk h' (by omega) iv2 (x : Nat)
  rw [he2] at C5
  have C6 := fun W (h' : RH No W S (c + 1 + 1) (H.takeSt (H.takeSt s 4) (x : Nat))) => rtk h' (by omega) iv3 (3 * (z : Nat))
  rw [(H.takeSt_bad (.inl he3)).1] at C6
  have C7 := fun W (h' : RH No W S (c + 1 + 1 + 1) (H.takeSt (H.takeSt s 4) (x : Nat))) => rgv h' (by omega) iv3 (H.takeId (H.takeSt s 4) (x : Nat))
  have iv4 := iv3.give (H.takeId (H.takeSt s 4) (x : Nat))
  have C8 := fun W (h' : RH No W S (c + 1 + 1 + 1 + 1) (H.giveSt (H.takeSt (H.takeSt s 4) (x : Nat)) (H.takeId (H.takeSt s 4) (x : Nat)))) => rgv h' (by omega) iv4 (H.takeId s 4)
  have hw : IntKind.i64.wrap (3 * (z : Int)) = 3 * (z : Int) := by rw [IntKind.wrap_i64]; omega
  generalize H.giveE (H.giveSt (H.takeSt (H.takeSt s 4) (x : Nat)) (H.takeId (H.takeSt s 4) (x : Nat))) (H.takeId s 4) = E5 at *
  generalize H.giveSt (H.giveSt (H.takeSt (H.takeSt s 4) (x : Nat)) (H.takeId (H.takeSt s 4) (x : Nat))) (H.takeId s 4) = s5 at *
  generalize H.giveE (H.takeSt (H.takeSt s 4) (x : Nat)) (H.takeId (H.takeSt s 4) (x : Nat)) = E4 at *
  generalize H.giveSt (H.takeSt (H.takeSt s 4) (x : Nat)) (H.takeId (H.takeSt s 4) (x : Nat)) = s4 at *
  generalize H.takeE (H.takeSt (H.takeSt s 4) (x : Nat)) (3 * (z : Nat)) = E at *
  generalize H.takeId (H.takeSt (H.takeSt s 4) (x : Nat)) (3 * (z : Nat)) = I3 at *
  generalize H.takeSt (H.takeSt s 4) (x : Nat) = s3 at *
  generalize H.takeId (H.takeSt s 4) (x : Nat) = I2 at *
  generalize H.takeSt s 4 = s2 at *
  generalize H.takeId s 4 = I at *
  have heb : (E != 0) = true := by simp [he3]
  clear h iv he he2 he3 iv2 iv3 iv4 hz
  go_enter Tryz.func34, Tryz.ntmps34
  go_wp2_with fail
  refine (C3 _).mono ?_; rintro e w' ⟨rfl, hw'⟩; rw [hw']; clear hw'
  go_wp2_with fail
  refine C4.mono ?_; rintro e W1 ⟨rfl, hp1, kk1⟩
  have CC := C5 W1 hp1
  have HK1 : Hid (Keep No w W1) := kk1
  clear hp1 kk1 C4 C5
  go_wp2_with fail
  refine CC.mono ?_; rintro e W2 ⟨rfl, hp2, kk2⟩
  have CD := C6 W2 hp2
  have HK2 : Hid (Keep No w W2) := HK1.out.trans kk2
  clear hp2 kk2 CC C6
  go_wp2_with fail
  refine CD.mono ?_; rintro e W3 ⟨rfl, hp3, kk3⟩
  have CE := C7 W3 hp3
  have HK3 : Hid (Keep No w W3) := HK2.out.trans kk3
  clear hp3 kk3 CD C7
  go_wp2_with fail
  refine CE.mono ?_; rintro e W4 ⟨rfl, hp4, kk4⟩
  have CF := C8 W4 hp4
  have HK4 : Hid (Keep No w W4) := HK3.out.trans kk4
  clear hp4 kk4 CE C8
  go_wp2_with fail
  refine CF.mono ?_; rintro e W5 ⟨rfl, hp5, kk5⟩
  have HP : Hid (RH No W5 S (c + 1 + 1 + 1 + 1 + 1) s5 ∧ Keep No w W5) := ⟨hp5, HK4.out.trans kk5⟩
  clear hp5 kk5 CF
  go_wp2_with fail
  go_ret2
  exact ⟨rfl, HP.out⟩

/-- What the reference's New leaves, beside its heap. -/
structure Nr (w w' : World) (x z RT A P ka va ca : Nat) (S : Nat) (i1 i2 : Int) : Prop where
  str : w'.heap[RT]? = some (.cells #[.slice (some ⟨A, 0, none⟩) x x, .pointer (some ⟨P, 0, none⟩), .int .i64 i1, .int .i64 i2, .int .i64 0, .int .i64 0, .pointer (some ⟨S, 0, none⟩)] 50)
  arr : w'.heap[A]? = some (.cells (zeros3 x) 35)
  part : ∃ wa wb, Rn wa wb P ka va ca z ∧ Below wb.heap.size wb w' ∧ w.heap.size ≤ wa.heap.size
  ge : w.heap.size ≤ RT ∧ w.heap.size ≤ A
  ne : RT ≠ A ∧ RT ≠ P ∧ RT ≠ ka ∧ RT ≠ va ∧ RT ≠ ca ∧ A ≠ P ∧ A ≠ ka ∧ A ≠ va ∧ A ≠ ca
theorem nr_of {No : Nat → Prop} {w W w' wa wb : World} {x z S c RT A P ka va ca : Nat} {s : H.St} {i1 i2 : Int} (h : RH No W S c s) (hk : Keep No w W) (hB : Below W.heap.size W w') (hRT : w'.heap[RT]? = some (.cells #[.slice (some ⟨A, 0, none⟩) x x, .pointer (some ⟨P, 0, none⟩), .int .i64 i1, .int .i64 i2, .int .i64 0, .int .i64 0, .pointer (some ⟨S, 0, none⟩)] 50))
    (hA : w'.heap[A]? = some (.cells (zeros3 x) 35)) (hr : Rn wa wb P ka va ca z) (hb : Below wb.heap.size wb w') (hwa : W.heap.size ≤ wa.heap.size) (hgRT : wb.heap.size ≤ RT) (hgA : W.heap.size ≤ A) (hAn : A < wa.heap.size ∨ wb.heap.size ≤ A) (hne : RT ≠ A) :
    RH (fun g => No g ∨ g = RT ∨ g = A ∨ g = P ∨ g = ka ∨ g = va ∨ g = ca) w' S c s ∧ Keep No w w' ∧ Nr w w' x z RT A P ka va ca S i1 i2 := by
  have l1 := hr.lt
  have l2 := hr.ge
  have l3 := hk.size
  have lR : RT < w'.heap.size := (Array.getElem?_eq_some_iff.1 hRT).1
  have lA : A < w'.heap.size := (Array.getElem?_eq_some_iff.1 hA).1
  have l4 := hb.size
  have l5 := hr.bel.size
  refine ⟨(h.news hB).sub (fun g q => ?_), hk.bel hB, ⟨hRT, hA, ⟨wa, wb, hr, hb, by omega⟩, by omega, by omega⟩⟩
  rcases q with q | q | q | q | q | q | q
  · exact .inl q
  all_goals exact .inr (by omega)
set_option maxRecDepth 20000 in
set_option maxHeartbeats 2000000 in
theorem rnew_good {No : Nat → Prop} {w : World} {S c : Nat} {s : H.St} (h : RH No w S c s) (hc : c ≤ 700000) (iv : H.Inv 0 s) (x y z : Nat) (hx : x ≤ 65536) (hy : y ≤ 65536) (hz : C.up2 (y : Nat) = (z : Nat)) (hz2 : z ≤ 65536) (he : H.takeE s 4 = 0) (he2 : H.takeE (H.takeSt s 4) (x : Nat) = 0) (he3 : H.takeE (H.takeSt (H.takeSt s 4) (x : Nat)) (3 * (z : Nat)) = 0) :
    Calls Tryz.prog 34 #[.pointer (some ⟨S, 0, none⟩), .int .i64 (x : Nat), .int .i64 (y : Nat)] w fun e w' => ∃ RT A P ka va ca, e = .returned (.tuple #[.pointer (some ⟨RT, 0, none⟩), .int .i64 0]) ∧ RH (fun g => No g ∨ g = RT ∨ g = A ∨ g = P ∨ g = ka ∨ g = va ∨ g = ca) w' S (c + 3) (H.takeSt (H.takeSt (H.takeSt s 4) (x : Nat)) (3 * (z : Nat))) ∧ Keep No w w' ∧
      Nr w w' x z RT A P ka va ca S (H.takeId (H.takeSt s 4) (x : Nat)) (H.takeId (H.takeSt (H.takeSt s 4) (x : Nat)) (3 * (z : Nat))) := by
  have h1 : ¬ ((x : Int) < 0) := by omega
  have h2 : ¬ (65536 < (x : Int)) := by omega
  have h3 : ¬ ((y : Int) < 0) := by omega
  have h4 : ¬ (65536 < (y : Int)) := by omega
  have C3 := fun W => C.rceil_any (y : Nat) W (by omega) (by omega)
  rw [hz] at C3
  have C4 := rtk h (by omega) iv 4
  rw [he] at C4
  have iv2 := iv.take 4
  have iv3 := iv2.take (x : Nat)
  have C5 := fun W (h' : RH No W S (c + 1) (H.takeSt s 4)) => rtk h' (by omega) iv2 (x : Nat)
  rw [he2] at C5
  have C6 := fun W (h' : RH No W S (c + 1 + 1) (H.takeSt (H.takeSt s 4) (x : Nat))) => rtk h' (by omega) iv3 (3 * (z : Nat))
  rw [he3] at C6
  have hw : IntKind.i64.wrap (3 * (z : Int)) = 3 * (z : Int) := by rw [IntKind.wrap_i64]; omega
  have CN := fun W => rnew_any z W hz2
  have m1 := make_vals x hx
  generalize H.takeSt (H.takeSt (H.takeSt s 4) (x : Nat)) (3 * (z : Nat)) = s4 at *
  generalize H.takeId (H.takeSt (H.takeSt s 4) (x : Nat)) (3 * (z : Nat)) = I3 at *
  generalize H.takeSt (H.takeSt s 4) (x : Nat) = s3 at *
  generalize H.takeId (H.takeSt s 4) (x : Nat) = I2 at *
  generalize H.takeSt s 4 = s2 at *
  generalize H.takeId s 4 = I at *
  clear h iv he he2 he3 iv2 iv3 hz
  unfold pp at CN
  go_enter Tryz.func34, Tryz.ntmps34
  go_wp2_with fail
  refine (C3 _).mono ?_; rintro e w' ⟨rfl, hw'⟩; rw [hw']; clear hw'
  go_wp2_with fail
  refine C4.mono ?_; rintro e W1 ⟨rfl, hp1, kk1⟩
  have CC := C5 W1 hp1
  have HK1 : Hid (Keep No w W1) := kk1
  clear hp1 kk1 C4 C5
  go_wp2_with fail
  refine CC.mono ?_; rintro e W2 ⟨rfl, hp2, kk2⟩
  have CD := C6 W2 hp2
  have HK2 : Hid (Keep No w W2) := HK1.out.trans kk2
  clear hp2 kk2 CC C6
  go_wp2_with fail
  refine CD.mono ?_; rintro e W3 ⟨rfl, hp3, kk3⟩
  have HP3 : Hid (RH No W3 S (c + 1 + 1 + 1) s4 ∧ Keep No w W3) := ⟨hp3, HK2.out.trans kk3⟩
  clear hp3 kk3 CD
  obtain ⟨zz, hzz⟩ : ∃ zz, zeros3 x = zz := ⟨_, rfl⟩
  have HZZ : Hid (zeros3 x = zz) := hzz
  rw [hzz] at m1
  clear hzz
  obtain ⟨Wm, hWm⟩ : ∃ Wm, W3.drew.alloc (.cells zz 35) = Wm := ⟨_, rfl⟩
  have CNd := CN W3.drew
  have CNm := CN Wm
  have HWm : Hid (Below W3.heap.size W3 Wm ∧ Wm.heap.size = W3.heap.size + 1 ∧ Wm.heap[W3.heap.size]? = some (.cells zz 35)) := by
    rw [← hWm]
    exact ⟨bthen (bdrew1 W3) (Nat.le_refl _) (b1 _ _), by simp, (MapKept.heap_alloc W3.drew _).1⟩
  clear CN
  go_wp2_with fail
  go_region_with (first
    | (go_at_call 71; refine CNd.mono ?_; rintro e w4 ⟨P, ka, va, ca, rfl, r4⟩; have HRd : Hid (Rn W3.drew w4 P ka va ca z) := r4; clear r4)
    | (go_at_call 71; refine CNm.mono ?_; rintro e w4 ⟨P, ka, va, ca, rfl, r4⟩; have HRm : Hid (Rn Wm w4 P ka va ca z) := r4; clear r4))
  all_goals
    go_wp2_with fail
    go_ret2
  all_goals first
    | exact ⟨w4.heap.size, W3.heap.size, P, ka, va, ca, rfl, nr_of HP3.out.1 HP3.out.2 (bthen (bthen HWm.out.1 HWm.out.1.size HRm.out.bel) (by have := HWm.out.1.size; have := HRm.out.bel.size; omega) (b1 _ _)) (MapKept.heap_alloc w4 _).1
        (by have h0 := HWm.out.2.2
            have h1 := HRm.out.bel.block W3.heap.size (by have := HWm.out.2.1; omega)
            rw [Below.heap_alloc _ _ _ (by have := HWm.out.2.1; have := HRm.out.bel.size; omega), h1, h0, HZZ.out]) HRm.out (b1 _ _) HWm.out.1.size (Nat.le_refl _) (Nat.le_refl _) (.inl (by have := HWm.out.2.1; omega)) (by have := HWm.out.2.1; have := HRm.out.bel.size; omega)⟩
    | exact ⟨w4.heap.size + 1, w4.heap.size, P, ka, va, ca, rfl, nr_of HP3.out.1 HP3.out.2 (bthen (bthen (bdrew1 W3) (Nat.le_refl _) HRd.out.bel) (by have h0 := HRd.out.bel.size; exact h0) (b2 _ _ _))
        (by have h0 := (MapKept.heap_alloc (w4.alloc (.cells zz 35)) (.cells #[.slice (some ⟨w4.heap.size, 0, none⟩) x x, .pointer (some ⟨P, 0, none⟩), .int .i64 I2, .int .i64 I3, .int .i64 0, .int .i64 0, .pointer (some ⟨S, 0, none⟩)] 50)).1
            simpa using h0)
        (by rw [Below.heap_alloc _ _ _ (by simp), HZZ.out]; exact (MapKept.heap_alloc w4 _).1) HRd.out (b2 _ _ _) (Nat.le_refl _) (by omega) (by have h0 := HRd.out.bel.size; exact h0) (.inr (Nat.le_refl _)) (by omega)⟩
end Go.Proofs.YtonopchpnhninaaGreat
