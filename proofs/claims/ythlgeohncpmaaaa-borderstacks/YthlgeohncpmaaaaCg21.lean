/- The walk of the reference's New. -/
import Derived.Test.YthlgeohncpmaaaaCg20
import Derived.Test.YthlgeohncpmaaaaCg15
import Derived.ProofKit
import Derived.OpenShut
import Derived.ChangeSlices
import Derived.ChangeOld
import Derived.SizedLaws
import Derived.Deep.Slices
import Derived.Deep.Fields
import Derived.Deep.Strs
namespace Go.Proofs.Ythlgeohncpmaaaa
open Go.RowKit

set_option maxRecDepth 20000 in
set_option maxHeartbeats 2000000 in
theorem rnew_arg (w : World) (S : Nat) (x y : Int) (hb : ¬ (0 ≤ x ∧ x ≤ 65536) ∨ ¬ (0 ≤ y ∧ y ≤ 65536)) :
    Calls Try.prog 22 #[.pointer (some ⟨S, 0, none⟩), .int .i64 x, .int .i64 y] w fun e w' => e = .returned (.tuple #[.pointer none, .int .i64 1]) ∧ w' = w := by
  by_cases h1 : x < 0
  · clear hb
    go_enter Try.func22, Try.ntmps22
    go_wp2_with fail
    go_ret2; exact ⟨rfl, rfl⟩
  · by_cases h2 : 65536 < x
    · clear hb
      go_enter Try.func22, Try.ntmps22
      go_wp2_with fail
      go_ret2; exact ⟨rfl, rfl⟩
    · by_cases h3 : y < 0
      · clear hb
        go_enter Try.func22, Try.ntmps22
        go_wp2_with fail
        go_ret2; exact ⟨rfl, rfl⟩
      · have h4 : 65536 < y := by omega
        clear hb
        go_enter Try.func22, Try.ntmps22
        go_wp2_with fail
        go_ret2; exact ⟨rfl, rfl⟩

set_option maxRecDepth 20000 in
set_option maxHeartbeats 2000000 in
theorem rnew_cells {No : Nat → Prop} {w : World} {S c : Nat} {s : H.St} (h : RH No w S c s) (hc : c ≤ 700000) (iv : H.Inv 0 s) (x y : Nat) (hx : x ≤ 65536) (hy : y ≤ 65536) (he : H.takeE s 4 ≠ 0) :
    Calls Try.prog 22 #[.pointer (some ⟨S, 0, none⟩), .int .i64 (x : Nat), .int .i64 (y : Nat)] w fun e w' => e = .returned (.tuple #[.pointer none, .int .i64 (H.takeE s 4)]) ∧ RH No w' S (c + 1) s ∧ Keep No w w' := by
  have h1 : ¬ ((x : Int) < 0) := by omega
  have h2 : ¬ (65536 < (x : Int)) := by omega
  have h3 : ¬ ((y : Int) < 0) := by omega
  have h4 : ¬ (65536 < (y : Int)) := by omega
  have C3 := fun W => C.rceil_any (y : Nat) W (by omega) (by omega)
  have C4 := rtk h (by omega) iv 4
  rw [(H.takeSt_bad (.inl he)).1] at C4
  generalize H.takeE s 4 = E at *
  generalize H.takeId s 4 = I at *
  generalize C.up2 (y : Nat) = z at *
  have heb : (E != 0) = true := by simp [he]
  clear h iv he
  go_enter Try.func22, Try.ntmps22
  go_wp2_with fail
  refine (C3 _).mono ?_; rintro e w' ⟨rfl, hw'⟩; rw [hw']; clear hw'
  go_wp2_with fail
  refine C4.mono ?_; rintro e W1 ⟨rfl, hp1, kk1⟩
  have HP : Hid (RH No W1 S (c + 1) s ∧ Keep No w W1) := ⟨hp1, kk1⟩
  clear hp1 kk1
  go_wp2_with fail
  go_ret2
  exact ⟨rfl, HP.out⟩

set_option maxRecDepth 20000 in
set_option maxHeartbeats 2000000 in
theorem rnew_one {No : Nat → Prop} {w : World} {S c : Nat} {s : H.St} (h : RH No w S c s) (hc : c ≤ 700000) (iv : H.Inv 0 s) (x y : Nat) (hx : x ≤ 65536) (hy : y ≤ 65536) (he : H.takeE s 4 = 0) (he2 : H.takeE (H.takeSt s 4) (x : Nat) ≠ 0) :
    Calls Try.prog 22 #[.pointer (some ⟨S, 0, none⟩), .int .i64 (x : Nat), .int .i64 (y : Nat)] w fun e w' => e = .returned (.tuple #[.pointer none, .int .i64 (H.takeE (H.takeSt s 4) (x : Nat))]) ∧ RH No w' S (c + 3) (H.giveSt (H.takeSt s 4) (H.takeId s 4)) ∧ Keep No w w' := by
  have h1 : ¬ ((x : Int) < 0) := by omega
  have h2 : ¬ (65536 < (x : Int)) := by omega
  have h3 : ¬ ((y : Int) < 0) := by omega
  have h4 : ¬ (65536 < (y : Int)) := by omega
  have C3 := fun W => C.rceil_any (y : Nat) W (by omega) (by omega)
  have C4 := rtk h (by omega) iv 4
  rw [he] at C4
  have iv2 := iv.take 4
  have C5 := fun W (h' : RH No W S (c + 1) (H.takeSt s 4)) => rtk h' (by omega) iv2 (x : Nat)
  rw [(H.takeSt_bad (.inl he2)).1] at C5
  have C6 := fun W (h' : RH No W S (c + 1 + 1) (H.takeSt s 4)) => rgv h' (by omega) iv2 (H.takeId s 4)
  generalize H.takeE (H.takeSt s 4) (x : Nat) = E at *
  generalize H.takeId (H.takeSt s 4) (x : Nat) = I2 at *
  generalize H.giveE (H.takeSt s 4) (H.takeId s 4) = E3 at *
  generalize H.giveSt (H.takeSt s 4) (H.takeId s 4) = s3 at *
  generalize H.takeSt s 4 = s2 at *
  generalize H.takeId s 4 = I at *
  generalize C.up2 (y : Nat) = z at *
  have heb : (E != 0) = true := by simp [he2]
  clear h iv he he2 iv2
  go_enter Try.func22, Try.ntmps22
  go_wp2_with fail
  refine (C3 _).mono ?_; rintro e w' ⟨rfl, hw'⟩; rw [hw']; clear hw'
  go_wp2_with fail
  refine C4.mono ?_; rintro e W1 ⟨rfl, hp1, kk1⟩
  have CC := C5 W1 hp1
  have HK1 : Hid (Keep No w W1) := kk1
  clear hp1 kk1 C4 C5
  go_wp2_with fail
  refine CC.mono ?_; rintro e W2 ⟨rfl, hp2, kk2⟩
  have CD := C6 W2 hp2
  have HK2 : Hid (Keep No w W2) := HK1.out.trans kk2
  clear hp2 kk2 CC C6
  go_wp2_with fail
  refine CD.mono ?_; rintro e W3 ⟨rfl, hp3, kk3⟩
  have HP : Hid (RH No W3 S (c + 1 + 1 + 1) s3 ∧ Keep No w W3) := ⟨hp3, HK2.out.trans kk3⟩
  clear hp3 kk3 CD
  go_wp2_with fail
  go_ret2
  exact ⟨rfl, HP.out⟩

set_option maxRecDepth 20000 in
set_option maxHeartbeats 2000000 in
theorem rnew_two {No : Nat → Prop} {w : World} {S c : Nat} {s : H.St} (h : RH No w S c s) (hc : c ≤ 700000) (iv : H.Inv 0 s) (x y z : Nat) (hx : x ≤ 65536) (hy : y ≤ 65536) (hz : C.up2 (y : Nat) = (z : Nat)) (hz2 : z ≤ 65536) (he : H.takeE s 4 = 0) (he2 : H.takeE (H.takeSt s 4) (x : Nat) = 0) (he3 : H.takeE (H.takeSt (H.takeSt s 4) (x : Nat)) (3 * (z : Nat)) ≠ 0) :
    Calls Try.prog 22 #[.pointer (some ⟨S, 0, none⟩), .int .i64 (x : Nat), .int .i64 (y : Nat)] w fun e w' => e = .returned (.tuple #[.pointer none, .int .i64 (H.takeE (H.takeSt (H.takeSt s 4) (x : Nat)) (3 * (z : Nat)))]) ∧ RH No w' S (c + 5) (H.giveSt (H.giveSt (H.takeSt (H.takeSt s 4) (x : Nat)) (H.takeId (H.takeSt s 4) (x : Nat))) (H.takeId s 4)) ∧ Keep No w w' := by
  have h1 : ¬ ((x : Int) < 0) := by omega
  have h2 : ¬ (65536 < (x : Int)) := by omega
  have h3 : ¬ ((y : Int) < 0) := by omega
  have h4 : ¬ (65536 < (y : Int)) := by omega
  have C3 := fun W => C.rceil_any (y : Nat) W (by omega) (by omega)
  rw [hz] at C3
  have C4 := rtk h (by omega) iv 4
  rw [he] at C4
  have iv2 := iv.take 4
  have iv3 := iv2.take (x : Nat)
  have C5 := fun W (h' : RH No W S (c + 1) (H.takeSt s 4)) => rtk h' (by omega) iv2 (x : Nat)
  rw [he2] at C5
  have C6 := fun W (h' : RH No W S (c + 1 + 1) (H.takeSt (H.takeSt s 4) (x : Nat))) => rtk h' (by omega) iv3 (3 * (z : Nat))
  rw [(H.takeSt_bad (.inl he3)).1] at C6
  have C7 := fun W (h' : RH No W S (c + 1 + 1 + 1) (H.takeSt (H.takeSt s 4) (x : Nat))) => rgv h' (by omega) iv3 (H.takeId (H.takeSt s 4) (x : Nat))
  have iv4 := iv3.give (H.takeId (H.takeSt s 4) (x : Nat))
  have C8 := fun W (h' : RH No W S (c + 1 + 1 + 1 + 1) (H.giveSt (H.takeSt (H.takeSt s 4) (x : Nat)) (H.takeId (H.takeSt s 4) (x : Nat)))) => rgv h' (by omega) iv4 (H.takeId s 4)
  have hw : IntKind.i64.wrap (3 * (z : Int)) = 3 * (z : Int) := by rw [IntKind.wrap_i64]; omega
  generalize H.giveE (H.giveSt (H.takeSt (H.takeSt s 4) (x : Nat)) (H.takeId (H.takeSt s 4) (x : Nat))) (H.takeId s 4) = E5 at *
  generalize H.giveSt (H.giveSt (H.takeSt (H.takeSt s 4) (x : Nat)) (H.takeId (H.takeSt s 4) (x : Nat))) (H.takeId s 4) = s5 at *
  generalize H.giveE (H.takeSt (H.takeSt s 4) (x : Nat)) (H.takeId (H.takeSt s 4) (x : Nat)) = E4 at *
  generalize H.giveSt (H.takeSt (H.takeSt s 4) (x : Nat)) (H.takeId (H.takeSt s 4) (x : Nat)) = s4 at *
  generalize H.takeE (H.takeSt (H.takeSt s 4) (x : Nat)) (3 * (z : Nat)) = E at *
  generalize H.takeId (H.takeSt (H.takeSt s 4) (x : Nat)) (3 * (z : Nat)) = I3 at *
  generalize H.takeSt (H.takeSt s 4) (x : Nat) = s3 at *
  generalize H.takeId (H.takeSt s 4) (x : Nat) = I2 at *
  generalize H.takeSt s 4 = s2 at *
  generalize H.takeId s 4 = I at *
  have heb : (E != 0) = true := by simp [he3]
  clear h iv he he2 he3 iv2 iv3 iv4 hz
  go_enter Try.func22, Try.ntmps22
  go_wp2_with fail
  refine (C3 _).mono ?_; rintro e w' ⟨rfl, hw'⟩; rw [hw']; clear hw'
  go_wp2_with fail
  refine C4.mono ?_; rintro e W1 ⟨rfl, hp1, kk1⟩
  have CC := C5 W1 hp1
  have HK1 : Hid (Keep No w W1) := kk1
  clear hp1 kk1 C4 C5
  go_wp2_with fail
  refine CC.mono ?_; rintro e W2 ⟨rfl, hp2, kk2⟩
  have CD := C6 W2 hp2
  have HK2 : Hid (Keep No w W2) := HK1.out.trans kk2
  clear hp2 kk2 CC C6
  go_wp2_with fail
  refine CD.mono ?_; rintro e W3 ⟨rfl, hp3, kk3⟩
  have CE := C7 W3 hp3
  have HK3 : Hid (Keep No w W3) := HK2.out.trans kk3
  clear hp3 kk3 CD C7
  go_wp2_with fail
  refine CE.mono ?_; rintro e W4 ⟨rfl, hp4, kk4⟩
  have CF := C8 W4 hp4
  have HK4 : Hid (Keep No w W4) := HK3.out.trans kk4
  clear hp4 kk4 CE C8
  go_wp2_with fail
  refine CF.mono ?_; rintro e W5 ⟨rfl, hp5, kk5⟩
  have HP : Hid (RH No W5 S (c + 1 + 1 + 1 + 1 + 1) s5 ∧ Keep No w W5) := ⟨hp5, HK4.out.trans kk5⟩
  clear hp5 kk5 CF
  go_wp2_with fail
  go_ret2
  exact ⟨rfl, HP.out⟩

/-- What the reference's New leaves, beside its heap. -/
structure Nr (w w' : World) (x z RT A P ka va ca : Nat) (S : Nat) (i1 i2 : Int) : Prop where
  str : w'.heap[RT]? = some (.cells #[.slice (some ⟨A, 0, none⟩) x x, .pointer (some ⟨P, 0, none⟩), .int .i64 i1, .int .i64 i2, .int .i64 0, .int .i64 0, .pointer (some ⟨S, 0, none⟩)] 93)
  arr : w'.heap[A]? = some (.cells (zeros3 x) 31)
  part : ∃ wa wb, Rn wa wb P ka va ca z ∧ Below wb.heap.size wb w' ∧ w.heap.size ≤ wa.heap.size
  ge : w.heap.size ≤ RT ∧ w.heap.size ≤ A
  ne : RT ≠ A ∧ RT ≠ P ∧ RT ≠ ka ∧ RT ≠ va ∧ RT ≠ ca ∧ A ≠ P ∧ A ≠ ka ∧ A ≠ va ∧ A ≠ ca
theorem nr_of {No : Nat → Prop} {w W w' wa wb : World} {x z S c RT A P ka va ca : Nat} {s : H.St} {i1 i2 : Int} (h : RH No W S c s) (hk : Keep No w W) (hB : Below W.heap.size W w') (hRT : w'.heap[RT]? = some (.cells #[.slice (some ⟨A, 0, none⟩) x x, .pointer (some ⟨P, 0, none⟩), .int .i64 i1, .int .i64 i2, .int .i64 0, .int .i64 0, .pointer (some ⟨S, 0, none⟩)] 93))
    (hA : w'.heap[A]? = some (.cells (zeros3 x) 31)) (hr : Rn wa wb P ka va ca z) (hb : Below wb.heap.size wb w') (hwa : W.heap.size ≤ wa.heap.size) (hgRT : wb.heap.size ≤ RT) (hgA : W.heap.size ≤ A) (hAn : A < wa.heap.size ∨ wb.heap.size ≤ A) (hne : RT ≠ A) :
    RH (fun g => No g ∨ g = RT ∨ g = A ∨ g = P ∨ g = ka ∨ g = va ∨ g = ca) w' S c s ∧ Keep No w w' ∧ Nr w w' x z RT A P ka va ca S i1 i2 := by
  have l1 := hr.lt
  have l2 := hr.ge
  have l3 := hk.size
  have lR : RT < w'.heap.size := (Array.getElem?_eq_some_iff.1 hRT).1
  have lA : A < w'.heap.size := (Array.getElem?_eq_some_iff.1 hA).1
  have l4 := hb.size
  have l5 := hr.bel.size
  refine ⟨(h.news hB).sub (fun g q => ?_), hk.bel hB, ⟨hRT, hA, ⟨wa, wb, hr, hb, by omega⟩, by omega, by omega⟩⟩
  rcases q with q | q | q | q | q | q | q
  · exact .inl q
  all_goals exact .inr (by omega)
set_option maxRecDepth 20000 in
set_option maxHeartbeats 2000000 in
theorem rnew_good {No : Nat → Prop} {w : World} {S c : Nat} {s : H.St} (h : RH No w S c s) (hc : c ≤ 700000) (iv : H.Inv 0 s) (x y z : Nat) (hx : x ≤ 65536) (hy : y ≤ 65536) (hz : C.up2 (y : Nat) = (z : Nat)) (hz2 : z ≤ 65536) (he : H.takeE s 4 = 0) (he2 : H.takeE (H.takeSt s 4) (x : Nat) = 0) (he3 : H.takeE (H.takeSt (H.takeSt s 4) (x : Nat)) (3 * (z : Nat)) = 0) :
    Calls Try.prog 22 #[.pointer (some ⟨S, 0, none⟩), .int .i64 (x : Nat), .int .i64 (y : Nat)] w fun e w' => ∃ RT A P ka va ca, e = .returned (.tuple #[.pointer (some ⟨RT, 0, none⟩), .int .i64 0]) ∧ RH (fun g => No g ∨ g = RT ∨ g = A ∨ g = P ∨ g = ka ∨ g = va ∨ g = ca) w' S (c + 3) (H.takeSt (H.takeSt (H.takeSt s 4) (x : Nat)) (3 * (z : Nat))) ∧ Keep No w w' ∧
      Nr w w' x z RT A P ka va ca S (H.takeId (H.takeSt s 4) (x : Nat)) (H.takeId (H.takeSt (H.takeSt s 4) (x : Nat)) (3 * (z : Nat))) := by
  have h1 : ¬ ((x : Int) < 0) := by omega
  have h2 : ¬ (65536 < (x : Int)) := by omega
  have h3 : ¬ ((y : Int) < 0) := by omega
  have h4 : ¬ (65536 < (y : Int)) := by omega
  have C3 := fun W => C.rceil_any (y : Nat) W (by omega) (by omega)
  rw [hz] at C3
  have C4 := rtk h (by omega) iv 4
  rw [he] at C4
  have iv2 := iv.take 4
  have iv3 := iv2.take (x : Nat)
  have C5 := fun W (h' : RH No W S (c + 1) (H.takeSt s 4)) => rtk h' (by omega) iv2 (x : Nat)
  rw [he2] at C5
  have C6 := fun W (h' : RH No W S (c + 1 + 1) (H.takeSt (H.takeSt s 4) (x : Nat))) => rtk h' (by omega) iv3 (3 * (z : Nat))
  rw [he3] at C6
  have hw : IntKind.i64.wrap (3 * (z : Int)) = 3 * (z : Int) := by rw [IntKind.wrap_i64]; omega
  have CN := fun W => rnew_any z W hz2
  have m1 := make_vals x hx
  generalize H.takeSt (H.takeSt (H.takeSt s 4) (x : Nat)) (3 * (z : Nat)) = s4 at *
  generalize H.takeId (H.takeSt (H.takeSt s 4) (x : Nat)) (3 * (z : Nat)) = I3 at *
  generalize H.takeSt (H.takeSt s 4) (x : Nat) = s3 at *
  generalize H.takeId (H.takeSt s 4) (x : Nat) = I2 at *
  generalize H.takeSt s 4 = s2 at *
  generalize H.takeId s 4 = I at *
  clear h iv he he2 he3 iv2 iv3 hz
  unfold pp at CN
  go_enter Try.func22, Try.ntmps22
  go_wp2_with fail
  refine (C3 _).mono ?_; rintro e w' ⟨rfl, hw'⟩; rw [hw']; clear hw'
  go_wp2_with fail
  refine C4.mono ?_; rintro e W1 ⟨rfl, hp1, kk1⟩
  have CC := C5 W1 hp1
  have HK1 : Hid (Keep No w W1) := kk1
  clear hp1 kk1 C4 C5
  go_wp2_with fail
  refine CC.mono ?_; rintro e W2 ⟨rfl, hp2, kk2⟩
  have CD := C6 W2 hp2
  have HK2 : Hid (Keep No w W2) := HK1.out.trans kk2
  clear hp2 kk2 CC C6
  go_wp2_with fail
  refine CD.mono ?_; rintro e W3 ⟨rfl, hp3, kk3⟩
  have HP3 : Hid (RH No W3 S (c + 1 + 1 + 1) s4 ∧ Keep No w W3) := ⟨hp3, HK2.out.trans kk3⟩
  clear hp3 kk3 CD
  obtain ⟨zz, hzz⟩ : ∃ zz, zeros3 x = zz := ⟨_, rfl⟩
  have HZZ : Hid (zeros3 x = zz) := hzz
  rw [hzz] at m1
  clear hzz
  obtain ⟨Wm, hWm⟩ : ∃ Wm, W3.drew.alloc (.cells zz 31) = Wm := ⟨_, rfl⟩
  have CNd := CN W3.drew
  have CNm := CN Wm
  have HWm : Hid (Below W3.heap.size W3 Wm ∧ Wm.heap.size = W3.heap.size + 1 ∧ Wm.heap[W3.heap.size]? = some (.cells zz 31)) := by
    rw [← hWm]
    exact ⟨bthen (bdrew1 W3) (Nat.le_refl _) (b1 _ _), by simp, (MapKept.heap_alloc W3.drew _).1⟩
  clear CN
  go_wp2_with fail
  go_region_with (first
    | (go_at_call 44; refine CNd.mono ?_; rintro e w4 ⟨P, ka, va, ca, rfl, r4⟩; have HRd : Hid (Rn W3.drew w4 P ka va ca z) := r4; clear r4)
    | (go_at_call 44; refine CNm.mono ?_; rintro e w4 ⟨P, ka, va, ca, rfl, r4⟩; have HRm : Hid (Rn Wm w4 P ka va ca z) := r4; clear r4))
  all_goals
    go_wp2_with fail
    go_ret2
  all_goals first
    | exact ⟨w4.heap.size, W3.heap.size, P, ka, va, ca, rfl, nr_of HP3.out.1 HP3.out.2 (bthen (bthen HWm.out.1 HWm.out.1.size HRm.out.bel) (by have := HWm.out.1.size; have := HRm.out.bel.size; omega) (b1 _ _)) (MapKept.heap_alloc w4 _).1
        (by have h0 := HWm.out.2.2
            have h1 := HRm.out.bel.block W3.heap.size (by have := HWm.out.2.1; omega)
            rw [Below.heap_alloc _ _ _ (by have := HWm.out.2.1; have := HRm.out.bel.size; omega), h1, h0, HZZ.out]) HRm.out (b1 _ _) HWm.out.1.size (Nat.le_refl _) (Nat.le_refl _) (.inl (by have := HWm.out.2.1; omega)) (by have := HWm.out.2.1; have := HRm.out.bel.size; omega)⟩
    | exact ⟨w4.heap.size + 1, w4.heap.size, P, ka, va, ca, rfl, nr_of HP3.out.1 HP3.out.2 (bthen (bthen (bdrew1 W3) (Nat.le_refl _) HRd.out.bel) (by have h0 := HRd.out.bel.size; exact h0) (b2 _ _ _))
        (by have h0 := (MapKept.heap_alloc (w4.alloc (.cells zz 31)) (.cells #[.slice (some ⟨w4.heap.size, 0, none⟩) x x, .pointer (some ⟨P, 0, none⟩), .int .i64 I2, .int .i64 I3, .int .i64 0, .int .i64 0, .pointer (some ⟨S, 0, none⟩)] 93)).1
            simpa using h0)
        (by rw [Below.heap_alloc _ _ _ (by simp), HZZ.out]; exact (MapKept.heap_alloc w4 _).1) HRd.out (b2 _ _ _) (Nat.le_refl _) (by omega) (by have h0 := HRd.out.bel.size; exact h0) (.inr (Nat.le_refl _)) (by omega)⟩
end Go.Proofs.Ythlgeohncpmaaaa

/- The walk of begin: both heaps, both tables. -/
namespace Go.Proofs.Ythlgeohncpmaaaa
open Go.RowKit

theorem new_hp (w : World) (n : Int) (No : Nat → Prop) (hn : ∀ g, No g → g < w.heap.size) : H.Hp No ((w.alloc (.map #[] 0)).alloc (.cells #[.int .i64 n, .int .i64 0, .int .i64 0, .slice none 0 0, .map (some w.heap.size)] 84)) (w.heap.size + 1) w.heap.size 0 (.slice none 0 0) (H.newSt n) := by
  have e : (w.alloc (.map #[] 0)).heap.size = w.heap.size + 1 := by simp
  have hs := (MapKept.heap_alloc (w.alloc (.map #[] 0)) (.cells #[.int .i64 n, .int .i64 0, .int .i64 0, .slice none 0 0, .map (some w.heap.size)] 84)).1
  rw [e] at hs
  refine ⟨hs, World.ownsRow_nil _ _ _ _, (H.Rdy.made No w).alloc _, Nat.le_refl _, fun q => ?_, fun q => ?_, fun g e => (by cases e), fun g q => ?_⟩
  · have := hn _ q; omega
  · have := hn _ q; omega
  · have := hn _ q; simp; omega
theorem new_rh (w : World) (n : Int) (No : Nat → Prop) (hn : ∀ g, No g → g < w.heap.size) : RH No (w.alloc (.cells #[.int .i64 n, .int .i64 0, .int .i64 0, .slice none 0 0] 63)) w.heap.size 0 (H.newSt n) := by
  refine ⟨.slice none 0 0, ⟨n, 0, 0, []⟩, ⟨(MapKept.heap_alloc w _).1, World.ownsRow_nil _ _ _ _, Nat.le_refl _, fun q => ?_, fun g e => (by cases e), fun g q => ?_⟩, H.Sim.new n, Int.le_refl _⟩
  · have := hn _ q; omega
  · have := hn _ q; simp; omega
theorem TT.frame2 {No : Nat → Prop} {w w' : World} {T A b a S hb c : Nat} {t : TS} {s : H.St} (h : TT No w T A b a S hb c t s) (hos : w'.os = w.os) (ht : w'.tape = w.tape) (ho : w'.output = w.output) (hs : w.heap.size ≤ w'.heap.size) (hk : ∀ g, g < w.heap.size → ¬ No g → w'.heap[g]? = w.heap[g]?) :
    TT (fun g => No g ∨ (w.heap.size ≤ g ∧ g < w'.heap.size)) w' T A b a S hb c t s := by
  obtain ⟨vb, hp⟩ := h.hp
  have l1 := h.tm.pm.ltA
  have l2 := h.tm.pm.ltB
  have l3 := h.tm.pm.pt.lta
  have l4 := h.tm.pm.pt.ltb
  have k : Keep (fun g => ¬ No g) w w' := ⟨hos, ht, ho, hs, hk⟩
  refine ⟨h.tm.kept k h.nT h.nA h.nb h.na, ⟨vb, Hp.sub (Hp.frame2 hp hos ht ho hs (fun g hg hn => hk g hg (fun q => hn (.inl q)))) (fun g q => ?_)⟩, fun q => q.elim h.nT (by omega), fun q => q.elim h.nA (by omega), fun q => q.elim h.nb (by omega), fun q => q.elim h.na (by omega), h.ti, h.iv, h.p0, h.p1⟩
  rcases q with (q | q) | q
  · exact .inl (.inl q)
  · exact .inr q
  · exact .inl (.inr q)

/-- What New comes to. -/
def inP (x : Int) : Prop := 0 ≤ x ∧ x ≤ 65536
instance (x : Int) : Decidable (inP x) := inferInstanceAs (Decidable (_ ∧ _))
def nE (s : H.St) (x y : Int) : Int := if ¬ (inP x ∧ inP y) then 1 else if H.takeE s 4 ≠ 0 then H.takeE s 4 else tpE (H.takeSt s 4) x (C.up2 y)
def nS (s : H.St) (x y : Int) : H.St := if ¬ (inP x ∧ inP y) then s else if H.takeE s 4 ≠ 0 then s else if tpE (H.takeSt s 4) x (C.up2 y) ≠ 0 then H.giveSt (tpS (H.takeSt s 4) x (C.up2 y)) (H.takeId s 4) else tpS (H.takeSt s 4) x (C.up2 y)
theorem nS_inv {s : H.St} (iv : H.Inv 0 s) (x y : Int) : H.Inv 0 (nS s x y) := by
  unfold nS
  split
  · exact iv
  · split
    · exact iv
    · split
      · exact (tp_inv (iv.take 4) _ _).give _
      · exact tp_inv (iv.take 4) _ _
theorem inP.nat {x : Int} (h : inP x) : ∃ n : Nat, x = n ∧ n ≤ 65536 := ⟨x.toNat, by have := h.1; omega, by have := h.1; have := h.2; omega⟩
theorem nE_arg {s : H.St} {x y : Int} (hp : ¬ (inP x ∧ inP y)) : nE s x y = 1 ∧ nS s x y = s := ⟨by unfold nE; rw [if_pos hp], by unfold nS; rw [if_pos hp]⟩
theorem nE_four {s : H.St} {x y : Int} (hp : inP x ∧ inP y) (h4 : H.takeE s 4 ≠ 0) : nE s x y = H.takeE s 4 ∧ nS s x y = s := by
  have hp' : ¬ ¬ (inP x ∧ inP y) := fun q => q hp
  exact ⟨by unfold nE; rw [if_neg hp', if_pos h4], by unfold nS; rw [if_neg hp', if_pos h4]⟩
theorem nE_rest {s : H.St} {x y : Int} (hp : inP x ∧ inP y) (h4 : H.takeE s 4 = 0) : nE s x y = tpE (H.takeSt s 4) x (C.up2 y) ∧ nS s x y = (if tpE (H.takeSt s 4) x (C.up2 y) ≠ 0 then H.giveSt (tpS (H.takeSt s 4) x (C.up2 y)) (H.takeId s 4) else tpS (H.takeSt s 4) x (C.up2 y)) := by
  have hp' : ¬ ¬ (inP x ∧ inP y) := fun q => q hp
  have h4' : ¬ H.takeE s 4 ≠ 0 := fun q => q h4
  exact ⟨by unfold nE; rw [if_neg hp', if_neg h4'], by unfold nS; rw [if_neg hp', if_neg h4']⟩
theorem tpE_one {s : H.St} {n z : Int} (q : H.takeE s n ≠ 0) : tpE s n z = H.takeE s n ∧ tpS s n z = s := ⟨by unfold tpE; rw [if_pos q], by unfold tpS; rw [if_pos q]⟩
theorem tpE_two {s : H.St} {n z : Int} (q : H.takeE s n = 0) : tpE s n z = H.takeE (H.takeSt s n) (3 * z) ∧ tpS s n z = if H.takeE (H.takeSt s n) (3 * z) ≠ 0 then H.giveSt (H.takeSt s n) (H.takeId s n) else H.takeSt (H.takeSt s n) (3 * z) := by
  have q' : ¬ H.takeE s n ≠ 0 := fun h => h q
  exact ⟨by unfold tpE; rw [if_neg q'], by unfold tpS; rw [if_neg q']⟩
theorem new_fail {No : Nat → Prop} {w : World} {S hb c : Nat} {vb : Value} {s : H.St} (h : H.Hp No w S hb c vb s) (hc : c ≤ 700000) (iv : H.Inv 0 s) (x y : Int) (he : nE s x y ≠ 0) :
    Calls Try.prog 21 #[.pointer (some ⟨S, 0, none⟩), .int .i64 x, .int .i64 y] w fun e w' => e = .returned (.tuple #[.pointer none, .int .i64 (nE s x y)]) ∧ (∃ v', H.Hp No w' S hb (c + 5) v' (nS s x y)) ∧ Keep No w w' := by
  by_cases hp : inP x ∧ inP y
  · by_cases h4 : H.takeE s 4 = 0
    · obtain ⟨e1, e2⟩ := nE_rest hp h4
      rw [e1] at he
      rw [e1, e2, if_pos he]
      obtain ⟨n, rfl, hn⟩ := hp.1.nat
      obtain ⟨m, rfl, hm⟩ := hp.2.nat
      obtain ⟨z, hz, hz2, _⟩ := up2_rt (m : Nat) (by omega) (by omega)
      rw [hz] at he ⊢
      exact new_parts h hc iv n m z hn hm hz hz2.le h4 he
    · obtain ⟨e1, e2⟩ := nE_four hp h4
      rw [e1, e2]
      obtain ⟨n, rfl, hn⟩ := hp.1.nat
      obtain ⟨m, rfl, hm⟩ := hp.2.nat
      refine (new_cells h hc iv n m hn hm h4).mono ?_
      rintro e w' ⟨rfl, ⟨v', hp'⟩, kk⟩
      exact ⟨rfl, ⟨v', hp'.more (by omega)⟩, kk⟩
  · obtain ⟨e1, e2⟩ := nE_arg (s := s) hp
    rw [e1, e2]
    refine (new_arg w _ (.inr ⟨S, rfl⟩) x y (.inr ?_)).mono ?_
    · by_cases q : inP x
      · exact .inr fun q2 => hp ⟨q, q2⟩
      · exact .inl q
    · rintro e w' ⟨rfl, rfl⟩
      exact ⟨rfl, ⟨vb, h.more (by omega)⟩, Keep.refl _ _⟩
theorem rnew_fail {No : Nat → Prop} {w : World} {S c : Nat} {s : H.St} (h : RH No w S c s) (hc : c ≤ 700000) (iv : H.Inv 0 s) (x y : Int) (he : nE s x y ≠ 0) :
    Calls Try.prog 22 #[.pointer (some ⟨S, 0, none⟩), .int .i64 x, .int .i64 y] w fun e w' => e = .returned (.tuple #[.pointer none, .int .i64 (nE s x y)]) ∧ RH No w' S (c + 5) (nS s x y) ∧ Keep No w w' := by
  by_cases hp : inP x ∧ inP y
  · by_cases h4 : H.takeE s 4 = 0
    · obtain ⟨e1, e2⟩ := nE_rest hp h4
      rw [e1] at he
      rw [e1, e2, if_pos he]
      obtain ⟨n, rfl, hn⟩ := hp.1.nat
      obtain ⟨m, rfl, hm⟩ := hp.2.nat
      obtain ⟨z, hz, hz2, _⟩ := up2_rt (m : Nat) (by omega) (by omega)
      rw [hz] at he ⊢
      by_cases q : H.takeE (H.takeSt s 4) (n : Nat) = 0
      · obtain ⟨e3, e4⟩ := tpE_two (z := (z : Nat)) q
        rw [e3] at he
        rw [e3, e4, if_pos he]
        exact rnew_two h hc iv n m z hn hm hz hz2.le h4 q he
      · obtain ⟨e3, e4⟩ := tpE_one (z := (z : Nat)) q
        rw [e3, e4]
        refine (rnew_one h hc iv n m hn hm h4 q).mono ?_
        rintro e w' ⟨rfl, hp', kk⟩
        exact ⟨rfl, hp'.more (by omega), kk⟩
    · obtain ⟨e1, e2⟩ := nE_four hp h4
      rw [e1, e2]
      obtain ⟨n, rfl, hn⟩ := hp.1.nat
      obtain ⟨m, rfl, hm⟩ := hp.2.nat
      refine (rnew_cells h hc iv n m hn hm h4).mono ?_
      rintro e w' ⟨rfl, hp', kk⟩
      exact ⟨rfl, hp'.more (by omega), kk⟩
  · obtain ⟨e1, e2⟩ := nE_arg (s := s) hp
    rw [e1, e2]
    refine (rnew_arg w S x y ?_).mono ?_
    · by_cases q : inP x
      · exact .inr fun q2 => hp ⟨q, q2⟩
      · exact .inl q
    · rintro e w' ⟨rfl, rfl⟩
      exact ⟨rfl, h.more (by omega), Keep.refl _ _⟩
/-- What it takes that New succeeds. -/
structure Okn (s : H.St) (x y : Int) (n z : Nat) : Prop where
  ex : x = n
  hn : n ≤ 65536
  hy : ∃ m : Nat, y = m ∧ m ≤ 65536 ∧ C.up2 (m : Nat) = (z : Nat)
  hz : Rt z
  e1 : H.takeE s 4 = 0
  e2 : H.takeE (H.takeSt s 4) (n : Nat) = 0
  e3 : H.takeE (H.takeSt (H.takeSt s 4) (n : Nat)) (3 * (z : Nat)) = 0
  es : nS s x y = H.takeSt (H.takeSt (H.takeSt s 4) (n : Nat)) (3 * (z : Nat))
theorem okn {s : H.St} {x y : Int} (he : nE s x y = 0) : ∃ n z, Okn s x y n z := by
  by_cases hp : inP x ∧ inP y
  · by_cases h4 : H.takeE s 4 = 0
    · obtain ⟨e1, e2⟩ := nE_rest hp h4
      rw [e1] at he
      rw [if_neg (fun q => q he)] at e2
      obtain ⟨n, rfl, hn⟩ := hp.1.nat
      obtain ⟨m, rfl, hm⟩ := hp.2.nat
      obtain ⟨z, hz, hz2, _⟩ := up2_rt (m : Nat) (by omega) (by omega)
      rw [hz] at he e2
      by_cases q : H.takeE (H.takeSt s 4) (n : Nat) = 0
      · obtain ⟨e3, e4⟩ := tpE_two (z := (z : Nat)) q
        rw [e3] at he
        rw [if_neg (fun q => q he)] at e4
        exact ⟨n, z, rfl, hn, ⟨m, rfl, hm, hz⟩, hz2, h4, q, he, e2.trans e4⟩
      · rw [(tpE_one (z := (z : Nat)) q).1] at he; exact absurd he q
    · rw [(nE_four hp h4).1] at he; exact absurd he h4
  · rw [(nE_arg hp).1] at he; cases he

abbrev cv (l x y : Int) (v : Value) : Value := .agg #[.int .i64 l, .int .i64 x, .int .i64 y, v]
end Go.Proofs.Ythlgeohncpmaaaa

/- The walk of begin, on: both tables. -/
namespace Go.Proofs.Ythlgeohncpmaaaa
open Go.RowKit

theorem Okn.new {No : Nat → Prop} {w : World} {S hb c n z : Nat} {vb : Value} {s : H.St} {x y : Int} (o : Okn s x y n z) (h : H.Hp No w S hb c vb s) (hc : c ≤ 700000) (iv : H.Inv 0 s) :
    Calls Try.prog 21 #[.pointer (some ⟨S, 0, none⟩), .int .i64 x, .int .i64 y] w fun e w' => ∃ T A b a, e = .returned (.tuple #[.pointer (some ⟨T, 0, none⟩), .int .i64 0]) ∧ TT No w' T A b a S hb (c + 3) (newT n z (H.takeId (H.takeSt s 4) (n : Nat)) (H.takeId (H.takeSt (H.takeSt s 4) (n : Nat)) (3 * (z : Nat)))) (nS s x y) ∧ Keep No w w' := by
  obtain ⟨m, rfl, hm, hz⟩ := o.hy
  obtain ⟨e3, e4⟩ := tpE_two (z := (z : Nat)) o.e2
  rw [if_neg (fun q => q o.e3)] at e4
  rw [o.es, ← e4, o.ex]
  exact new_good h hc iv n m z o.hn hm hz o.hz o.e1 (e3.trans o.e3)
theorem Okn.rnew {No : Nat → Prop} {w : World} {S c n z : Nat} {s : H.St} {x y : Int} (o : Okn s x y n z) (h : RH No w S c s) (hc : c ≤ 700000) (iv : H.Inv 0 s) :
    Calls Try.prog 22 #[.pointer (some ⟨S, 0, none⟩), .int .i64 x, .int .i64 y] w fun e w' => ∃ RT A P ka va ca, e = .returned (.tuple #[.pointer (some ⟨RT, 0, none⟩), .int .i64 0]) ∧ RH (fun g => No g ∨ g = RT ∨ g = A ∨ g = P ∨ g = ka ∨ g = va ∨ g = ca) w' S (c + 3) (nS s x y) ∧ Keep No w w' ∧
      Nr w w' n z RT A P ka va ca S (H.takeId (H.takeSt s 4) (n : Nat)) (H.takeId (H.takeSt (H.takeSt s 4) (n : Nat)) (3 * (z : Nat))) := by
  obtain ⟨m, rfl, hm, hz⟩ := o.hy
  rw [o.es, o.ex]
  exact rnew_good h hc iv n m z o.hn hm hz o.hz.le o.e1 o.e2 o.e3
/-- Both tables behind begin: the program's blocks lie below M, the reference's from M on. -/
structure Bgn (w w' : World) (M T A b a S hb RT RA P ka va ca G n z : Nat) (t : TS) (s : H.St) : Prop where
  tt : TT (fun g => g < w.heap.size ∨ (M ≤ g ∧ g < w'.heap.size)) w' T A b a S hb 3 t s
  rh : RH (fun g => g < M ∨ g = RT ∨ g = RA ∨ g = P ∨ g = ka ∨ g = va ∨ g = ca) w' G 3 s
  nr : ∃ W, M ≤ W.heap.size ∧ Nr W w' n z RT RA P ka va ca G t.sb t.nb
  bel : Below w.heap.size w w'
  le : w.heap.size ≤ M
  iv : H.Inv 0 s
  et : t = newT n z t.sb t.nb
  rt : Rt z
  en : n ≤ 65536
end Go.Proofs.Ythlgeohncpmaaaa

/- The pure part of a heap, on: which block is whose; what a table holds of it. -/
namespace Go.Proofs.Ythlgeohncpmaaaa
open Go.RowKit

/-- The block id is taken and has n cells; or there is none, for no cells. -/
def Blk (s : H.St) (id n : Int) : Prop := (n = 0 ∧ id = 0) ∨ (1 ≤ n ∧ ∃ k : Nat, id = (k : Int) + 1 ∧ s.bl[k]? = some (n, true))
theorem setT_at {l : List (Int × Bool)} {k : Nat} {n : Int} {b : Bool} (h : l[k]? = some (n, b)) (t : Bool) (j : Nat) : (H.setT l k t)[j]? = if j = k then some (n, t) else l[j]? := by
  have hk : k < l.length := (List.getElem?_eq_some_iff.1 h).1
  have e : l.getD k (0, false) = (n, b) := by rw [List.getD, h]; rfl
  unfold H.setT
  rw [e, List.getElem?_set]
  by_cases q : k = j
  · rw [if_pos q, if_pos hk, if_pos q.symm]
  · rw [if_neg q, if_neg (fun e => q e.symm)]
theorem blk_take {sp : Int} {s : H.St} {n : Int} (h : H.Inv sp s) (he : H.takeE s n = 0) :
    Blk (H.takeSt s n) (H.takeId s n) n ∧ (H.takeSt s n).live = s.live + n ∧ (H.takeSt s n).lim = s.lim ∧ ∀ id m, Blk s id m → Blk (H.takeSt s n) id m ∧ (id = H.takeId s n → id = 0) := by
  have h0 : ¬ n < 0 := fun q => by unfold H.takeE at he; rw [if_pos q] at he; cases he
  have h1 : ¬ s.lim - s.live < n := fun q => by unfold H.takeE at he; rw [if_neg h0, if_pos q] at he; cases he
  by_cases hz : n = 0
  · have e1 : H.takeSt s n = s := by unfold H.takeSt; rw [if_neg h0, if_neg h1, if_pos hz]
    have e2 : H.takeId s n = 0 := by unfold H.takeId; rw [if_neg h0, if_neg h1, if_pos hz]
    rw [e1, e2]
    exact ⟨.inl ⟨hz, rfl⟩, by omega, rfl, fun id m q => ⟨q, fun e => e⟩⟩
  · rcases List.eq_nil_or_concat (s.R n) with hR | ⟨zs, x, hR⟩
    · obtain ⟨e1, e2, _⟩ := H.take_new (s := s) (n := n) (by omega) (by omega) hR
      rw [e1, e2]
      refine ⟨.inr ⟨by omega, s.bl.length, rfl, by simp⟩, rfl, rfl, fun id m q => ?_⟩
      rcases q with ⟨q1, q2⟩ | ⟨q1, k, q2, q3⟩
      · exact ⟨.inl ⟨q1, q2⟩, fun e => by omega⟩
      · have hk : k < s.bl.length := (List.getElem?_eq_some_iff.1 q3).1
        exact ⟨.inr ⟨q1, k, q2, by show (s.bl ++ [(n, true)])[k]? = _; rw [List.getElem?_append_left hk]; exact q3⟩, fun e => by omega⟩
    · rw [List.concat_eq_append] at hR
      obtain ⟨k, rfl, hk, hb⟩ := h.ids n x (by rw [hR]; simp)
      obtain ⟨e1, e2, _⟩ := H.take_old (s := s) (n := n) (by omega) (by omega) hR
      have hb' : s.bl[k]? = some (n, false) := by rw [List.getElem?_eq_getElem hk, hb]
      rw [e1, e2]
      refine ⟨.inr ⟨by omega, k, rfl, by show (H.setT s.bl k true)[k]? = _; rw [setT_at hb', if_pos rfl]⟩, rfl, rfl, fun id m q => ?_⟩
      rcases q with ⟨q1, q2⟩ | ⟨q1, k', q2, q3⟩
      · exact ⟨.inl ⟨q1, q2⟩, fun e => by omega⟩
      · have hne : k' ≠ k := fun e => by rw [e, hb'] at q3; cases q3
        exact ⟨.inr ⟨q1, k', q2, by show (H.setT s.bl k true)[k']? = _; rw [setT_at hb', if_neg hne]; exact q3⟩, fun e => by omega⟩
theorem blk_give {s : H.St} {id n : Int} (h : Blk s id n) : (H.giveSt s id).live = s.live - n ∧ (H.giveSt s id).lim = s.lim ∧ ∀ id' m, Blk s id' m → (id' = id → id' = 0) → Blk (H.giveSt s id) id' m := by
  rcases h with ⟨rfl, rfl⟩ | ⟨h1, k, rfl, hb⟩
  · rw [(H.give_zero s).2]
    exact ⟨by omega, rfl, fun _ _ q _ => q⟩
  · have hk : k < s.bl.length := (List.getElem?_eq_some_iff.1 hb).1
    have hb2 : s.bl[k]'hk = (n, true) := (List.getElem?_eq_some_iff.1 hb).2
    rw [(H.give_at hk (by rw [hb2])).2]
    refine ⟨by show s.live - (s.bl[k]'hk).1 = _; rw [hb2], rfl, fun id' m q hne => ?_⟩
    rcases q with q | ⟨q1, k', q2, q3⟩
    · exact .inl q
    · have hne' : k' ≠ k := fun e => by have := hne (by omega); omega
      exact .inr ⟨q1, k', q2, by show (H.setT s.bl k false)[k']? = _; rw [setT_at hb, if_neg hne']; exact q3⟩

theorem flA_nz (old : Pa) (s : Nat) (p : Pa) (m : Nat) : (flA old s p m).n = p.n ∧ (flA old s p m).z = p.z := by
  induction m with
  | zero => exact ⟨rfl, rfl⟩
  | succ m ih => rw [flA, (stp_nz _ _ _).1, (stp_nz _ _ _).2]; exact ih
theorem flH_nz (old p : Pa) (m : Nat) : (flH old p m).n = p.n ∧ (flH old p m).z = p.z := by
  induction m with
  | zero => exact ⟨rfl, rfl⟩
  | succ m ih => rw [flH, (stp_nz _ _ _).1, (stp_nz _ _ _).2]; exact ih
theorem fill_nz (old p : Pa) : (fill old p).n = p.n ∧ (fill old p).z = p.z := by
  unfold fill
  rw [(flH_nz _ _ _).1, (flH_nz _ _ _).2, (flA_nz _ _ _ _).1, (flA_nz _ _ _ _).2]
  exact ⟨rfl, rfl⟩

/-- What a table holds of the heap s: its two parts' blocks, and L cells beside them are taken. -/
structure TB (t : TS) (s : H.St) (L : Int) : Prop where
  b1 : Blk s t.sb (t.p.n : Nat)
  b2 : Blk s t.nb (3 * (t.p.z : Nat))
  ne : t.sb = t.nb → t.sb = 0
  live : s.live = L + (t.p.n : Nat) + 3 * (t.p.z : Nat)
theorem tp_cases (s : H.St) (A Z : Int) : (H.takeE s A ≠ 0 ∧ tpE s A Z = H.takeE s A ∧ tpS s A Z = s) ∨
    (H.takeE s A = 0 ∧ H.takeE (H.takeSt s A) (3 * Z) ≠ 0 ∧ tpE s A Z = H.takeE (H.takeSt s A) (3 * Z) ∧ tpS s A Z = H.giveSt (H.takeSt s A) (H.takeId s A)) ∨
    (H.takeE s A = 0 ∧ H.takeE (H.takeSt s A) (3 * Z) = 0 ∧ tpE s A Z = 0 ∧ tpS s A Z = H.takeSt (H.takeSt s A) (3 * Z)) := by
  unfold tpE tpS
  by_cases h : H.takeE s A = 0
  · right
    rw [if_neg (fun q => q h), if_neg (fun q => q h)]
    by_cases h2 : H.takeE (H.takeSt s A) (3 * Z) = 0
    · right; rw [if_neg (fun q => q h2)]; exact ⟨h, h2, h2, rfl⟩
    · left; rw [if_pos h2]; exact ⟨h, h2, rfl, rfl⟩
  · left; rw [if_pos h, if_pos h]; exact ⟨h, rfl, rfl⟩
theorem TB.reh {t : TS} {s : H.St} {L : Int} (h : TB t s L) (iv : H.Inv 0 s) (k : V) : TB (Proofs.Ythlgeohncpmaaaa.reh t s k).1 (Proofs.Ythlgeohncpmaaaa.reh t s k).2.1 L ∧ (Proofs.Ythlgeohncpmaaaa.reh t s k).2.1.lim = s.lim := by
  unfold Proofs.Ythlgeohncpmaaaa.reh
  by_cases he : rsE t.p k = 0
  · rw [if_neg (fun q => q he)]
    generalize rsA t.p k = A
    generalize rsZ t.p k = Z
    rcases tp_cases s (A : Nat) (Z : Nat) with ⟨q1, q2, q3⟩ | ⟨q1, q2, q3, q4⟩ | ⟨q1, q2, q3, q4⟩
    · rw [if_pos (by rw [q2]; exact q1), q3]
      exact ⟨h, rfl⟩
    · rw [if_pos (by rw [q3]; exact q2), q4]
      obtain ⟨a1, a2, a3, a4⟩ := blk_take iv q1
      obtain ⟨g1, g2, g3⟩ := blk_give a1
      have k1 := a4 _ _ h.b1
      have k2 := a4 _ _ h.b2
      exact ⟨⟨g3 _ _ k1.1 k1.2, g3 _ _ k2.1 k2.2, h.ne, by show (H.giveSt (H.takeSt s (A : Nat)) (H.takeId s (A : Nat))).live = L + (t.p.n : Nat) + 3 * (t.p.z : Nat); rw [g1, a2, h.live]; omega⟩, by show (H.giveSt (H.takeSt s (A : Nat)) (H.takeId s (A : Nat))).lim = s.lim; rw [g2, a3]⟩
    · rw [if_neg (fun q => q q3), q4]
      obtain ⟨a1, a2, a3, a4⟩ := blk_take iv q1
      obtain ⟨c1, c2, c3, c4⟩ := blk_take (iv.take _) q2
      have k1 := a4 _ _ h.b1
      have k2 := a4 _ _ h.b2
      have m1 := c4 _ _ k1.1
      have m2 := c4 _ _ k2.1
      have m3 := c4 _ _ a1
      obtain ⟨g1, g2, g3⟩ := blk_give m1.1
      have n2 := g3 _ _ m2.1 (fun e => by have := h.ne e.symm; omega)
      have n3 := g3 _ _ m3.1 (fun e => by have := k1.2 e.symm; omega)
      have n4 := g3 _ _ c1 (fun e => by have := m1.2 e.symm; omega)
      obtain ⟨f1, f2, f3⟩ := blk_give n2
      have p3 := f3 _ _ n3 (fun e => by have := k2.2 e.symm; omega)
      have p4 := f3 _ _ n4 (fun e => by have := m2.2 e.symm; omega)
      obtain ⟨z1, z2⟩ := fill_nz t.p (fresh A Z)
      have z1' : (fill t.p (fresh A Z)).n = A := z1
      have z2' : (fill t.p (fresh A Z)).z = Z := z2
      refine ⟨⟨?_, ?_, fun e => m3.2 e, ?_⟩, by rw [f2, g2, c3, a3]⟩
      · show Blk _ _ ((fill t.p (fresh A Z)).n : Nat); rw [z1']; exact p3
      · show Blk _ _ (3 * ((fill t.p (fresh A Z)).z : Nat)); rw [z2']; exact p4
      · show _ = L + ((fill t.p (fresh A Z)).n : Nat) + 3 * ((fill t.p (fresh A Z)).z : Nat)
        rw [z1', z2', f1, g1, c2, a2, h.live]; omega
  · rw [if_pos he]; exact ⟨h, rfl⟩
theorem TB.one {t : TS} {s : H.St} {L : Int} (h : TB t s L) (k v : V) (x : Int) : TB { t with p := (pset t.p k v).1, pr := x } s L := by
  obtain ⟨z1, z2⟩ := pset_nz t.p k v
  exact ⟨by show Blk s t.sb ((pset t.p k v).1.n : Nat); rw [z1]; exact h.b1, by show Blk s t.nb (3 * ((pset t.p k v).1.z : Nat)); rw [z2]; exact h.b2, h.ne, by show _ = L + ((pset t.p k v).1.n : Nat) + 3 * ((pset t.p k v).1.z : Nat); rw [z1, z2]; exact h.live⟩
theorem TB.set {t : TS} {s : H.St} {L : Int} (h : TB t s L) (iv : H.Inv 0 s) (k v : V) : TB (tset t s k v).1 (tset t s k v).2.1 L ∧ (tset t s k v).2.1.lim = s.lim := by
  unfold tset
  split
  · exact ⟨h, rfl⟩
  · split
    · exact ⟨h, rfl⟩
    · split
      · exact ⟨h.one k v _, rfl⟩
      · obtain ⟨r1, r2⟩ := (show TB (Proofs.Ythlgeohncpmaaaa.one t k v) s L from h.one k v _).reh iv k
        split
        · exact ⟨r1, r2⟩
        · exact ⟨r1.one k v _, r2⟩
end Go.Proofs.Ythlgeohncpmaaaa

/- What a new table holds of its heap. -/
namespace Go.Proofs.Ythlgeohncpmaaaa
open Go.RowKit
theorem Okn.tb {s : H.St} {x y : Int} {n z : Nat} (o : Okn s x y n z) (iv : H.Inv 0 s) {t : TS} (et : t = newT n z t.sb t.nb) (e1 : t.sb = H.takeId (H.takeSt s 4) (n : Nat)) (e2 : t.nb = H.takeId (H.takeSt (H.takeSt s 4) (n : Nat)) (3 * (z : Nat))) : TB t (nS s x y) (s.live + 4) := by
  obtain ⟨m, rfl, hm, hz⟩ := o.hy
  have hn : t.p.n = n := by rw [et]; rfl
  have hzz : t.p.z = z := by rw [et]; rfl
  have hin : inP x ∧ inP (m : Int) := by
    rw [o.ex]
    exact ⟨⟨by omega, by have := o.hn; omega⟩, ⟨by omega, by omega⟩⟩
  have eS : nS s x (m : Nat) = H.takeSt (H.takeSt (H.takeSt s 4) (n : Nat)) (3 * (z : Nat)) := by
    unfold nS
    rw [if_neg (fun q => q hin), if_neg (fun q => q o.e1), hz, o.ex]
    obtain ⟨q1, q2⟩ | ⟨q1, q2, q3, q4⟩ | ⟨q1, q2, q3, q4⟩ := tp_cases (H.takeSt s 4) (n : Nat) (z : Nat)
    · exact absurd o.e2 q1
    · exact absurd o.e3 q2
    · rw [if_neg (fun q => q q3), q4]
  obtain ⟨a1, a2, a3, a4⟩ := blk_take iv o.e1
  obtain ⟨c1, c2, c3, c4⟩ := blk_take (iv.take 4) o.e2
  obtain ⟨d1, d2, d3, d4⟩ := blk_take ((iv.take 4).take (n : Nat)) o.e3
  have m1 := d4 _ _ c1
  rw [eS]
  refine ⟨by rw [hn, e1]; exact m1.1, by rw [hzz, e2]; exact d1, fun e => ?_, by rw [d2, c2, a2, hn, hzz]⟩
  rw [e1] at e ⊢
  rw [e2] at e
  exact m1.2 e
end Go.Proofs.Ythlgeohncpmaaaa

/- How a case that came in is read: two sizes, a list of operations. -/
namespace Go.Proofs.Ythlgeohncpmaaaa
open Go.RowKit Go.ChangeShapes Go.WideShapes Go.ChangeAt Go.Deep

abbrev cw (x y : Int) (v : Value) : Value := .agg #[.int .i64 x, .int .i64 y, v]
/-- An operation's eight cells. -/
def oc (q : Int × V × V × Int) : Nat → Value
  | 0 => .int .i64 q.1
  | 1 => .int .i64 q.2.1.1
  | 2 => .int .i64 q.2.1.2.1
  | 3 => .string q.2.1.2.2
  | 4 => .int .i64 q.2.2.1.1
  | 5 => .int .i64 q.2.2.1.2.1
  | 6 => .string q.2.2.1.2.2
  | _ => .int .i64 q.2.2.2
theorem lt8 {j : Nat} (h : j < 8) : j = 0 ∨ j = 1 ∨ j = 2 ∨ j = 3 ∨ j = 4 ∨ j = 5 ∨ j = 6 ∨ j = 7 := by omega
/-- The list of L operations that v is, all below block N. -/
def Ops (N : Nat) (w : World) (a : Option Addr) (L : Nat) (Q : Nat → Int × V × V × Int) : Prop :=
  (∀ i, i < L → Rng (Q i).2.1 ∧ -9223372036854775808 ≤ (Q i).2.2.2 ∧ (Q i).2.2.2 ≤ 9223372036854775807) ∧ (0 < L → ∃ b off, a = some ⟨b, off, none⟩ ∧ b < N ∧ ∀ i, i < L → ∀ j, j < 8 → w.cell? ⟨b, off + i * 8 + j, none⟩ = some (oc (Q i) j))
theorem Ops.below {N : Nat} {w w' : World} {a : Option Addr} {L : Nat} {Q : Nat → Int × V × V × Int} (h : Ops N w a L Q) (hb : Below N w w') : Ops N w' a L Q := by
  refine ⟨h.1, fun hl => ?_⟩
  obtain ⟨b, off, rfl, hg, hx⟩ := h.2 hl
  exact ⟨b, off, rfl, hg, fun i hi j hj => by rw [hb.cell (by exact hg)]; exact hx i hi j hj⟩
theorem Ops.cut {N : Nat} {w : World} {a : Option Addr} {L m : Nat} {Q : Nat → Int × V × V × Int} (h : Ops N w a L Q) (hm : m ≤ L) : Ops N w a m Q := by
  refine ⟨fun i hi => h.1 i (by omega), fun hl => ?_⟩
  obtain ⟨b, off, rfl, hg, hx⟩ := h.2 (by omega)
  exact ⟨b, off, rfl, hg, fun i hi j hj => hx i (by omega) j hj⟩
theorem Ops.at {N : Nat} {w : World} {a : Option Addr} {L : Nat} {Q : Nat → Int × V × V × Int} (h : Ops N w a L Q) {i : Nat} (hi : i < L) : ∃ b off, a = some ⟨b, off, none⟩ ∧ b < N ∧
    w.cell? ⟨b, off + i * 8, none⟩ = some (.int .i64 (Q i).1) ∧ w.cell? ⟨b, off + i * 8 + 1, none⟩ = some (.int .i64 (Q i).2.1.1) ∧ w.cell? ⟨b, off + i * 8 + 2, none⟩ = some (.int .i64 (Q i).2.1.2.1) ∧ w.cell? ⟨b, off + i * 8 + 3, none⟩ = some (.string (Q i).2.1.2.2) ∧
    w.cell? ⟨b, off + i * 8 + 4, none⟩ = some (.int .i64 (Q i).2.2.1.1) ∧ w.cell? ⟨b, off + i * 8 + 5, none⟩ = some (.int .i64 (Q i).2.2.1.2.1) ∧ w.cell? ⟨b, off + i * 8 + 6, none⟩ = some (.string (Q i).2.2.1.2.2) ∧ w.cell? ⟨b, off + i * 8 + 7, none⟩ = some (.int .i64 (Q i).2.2.2) := by
  obtain ⟨b, off, rfl, hg, hx⟩ := h.2 (by omega)
  exact ⟨b, off, rfl, hg, hx i hi 0 (by omega), hx i hi 1 (by omega), hx i hi 2 (by omega), hx i hi 3 (by omega), hx i hi 4 (by omega), hx i hi 5 (by omega), hx i hi 6 (by omega), hx i hi 7 (by omega)⟩

theorem cells3 : Try.prog.cellsOf 3 = 1 := by kernel_rfl
theorem cells9 : Try.prog.cellsOf 9 = 1 := by kernel_rfl
theorem cells22 : Try.prog.cellsOf 22 = 1 := by kernel_rfl
theorem cells31 : Try.prog.cellsOf 31 = 3 := by kernel_rfl
theorem cells33 : Try.prog.cellsOf 33 = 8 := by kernel_rfl
theorem cells24 : Try.prog.cellsOf 24 = 3 := by kernel_rfl
theorem laidOut : laidOutB Try.prog = true := by kernel_rfl
theorem trod_struct4 {H : Type} {enc : TypeId × Value → H} {P : Program} {w : World} {base : Nat} {spare : Nat → Bool} {held : Bool} {t : TypeId} {f0 f1 f2 f3 : Field} {fuel : Nat} {cs : List Value} {x : DataW H × List MemPlace} (ht : P.underlying t = some (.struct #[f0, f1, f2, f3])) (h : DataW.trod enc P w base spare held fuel t cs = some x) :
    ∃ y0 y1 y2 y3 n, x = (.agg [y0.1, y1.1, y2.1, y3.1], y0.2 ++ (y1.2 ++ (y2.2 ++ y3.2))) ∧ cs.length = P.cellsOf t ∧ DataW.trod enc P w base spare held n f0.type ((cs.drop f0.offset).take (P.cellsOf f0.type)) = some y0 ∧
      DataW.trod enc P w base spare held n f1.type ((cs.drop f1.offset).take (P.cellsOf f1.type)) = some y1 ∧ DataW.trod enc P w base spare held n f2.type ((cs.drop f2.offset).take (P.cellsOf f2.type)) = some y2 ∧ DataW.trod enc P w base spare held n f3.type ((cs.drop f3.offset).take (P.cellsOf f3.type)) = some y3 := by
  obtain ⟨xs, n, _, rfl, hl, hlen, hf⟩ := DataW.trod_struct ht h
  match xs, hlen with
  | [y0, y1, y2, y3], _ => exact ⟨y0, y1, y2, y3, n, by simp, hl, by simpa using hf 0 f0 rfl, by simpa using hf 1 f1 rfl, by simpa using hf 2 f2 rfl, by simpa using hf 3 f3 rfl⟩

theorem elem_val {H : Type} {enc : TypeId × Value → H} {W : World} {base : Nat} {sp : Nat → Bool} {held : Bool} {fuel : Nat} {cs : List Value} {x : DataW H × List MemPlace}
    (hlen : cs.length = 3) (hf : DataW.trod enc Try.prog W base sp held fuel 31 cs = some x) :
    ∃ (k n : Int) (s : ByteArray), cs = [.int .i64 k, .int .i64 n, .string s] ∧ (Lit.int .i64 n).wf = true := by
  obtain ⟨c0, c1, c2, rfl⟩ : ∃ c0 c1 c2, cs = [c0, c1, c2] := by
    match cs, hlen with
    | [c0, c1, c2], _ => exact ⟨c0, c1, c2, rfl⟩
  obtain ⟨y0, y1, y2, m, hx, _, t0, t1, t2⟩ := trod_struct3 Try.underlying31 hf
  obtain ⟨k, e0, f0, g0⟩ := DataW.trod_int Try.underlying3 t0
  obtain ⟨n, e1, f1, g1⟩ := DataW.trod_int Try.underlying3 t1
  obtain ⟨s, e2, f2, g2⟩ := DataW.trod_string Try.underlying9 t2
  simp [cells3, cells9] at e0 e1 e2
  subst e0 e1 e2
  exact ⟨k, n, s, rfl, g1⟩
set_option maxRecDepth 100000 in
theorem elem_op {H : Type} {enc : TypeId × Value → H} {W : World} {base : Nat} {sp : Nat → Bool} {held : Bool} {fuel : Nat} {cs : List Value} {x : DataW H × List MemPlace}
    (hlen : cs.length = 8) (hf : DataW.trod enc Try.prog W base sp held fuel 33 cs = some x) : ∃ q : Int × V × V × Int, (∀ j, j < 8 → cs[j]? = some (oc q j)) ∧ Rng q.2.1 ∧ -9223372036854775808 ≤ q.2.2.2 ∧ q.2.2.2 ≤ 9223372036854775807 := by
  obtain ⟨c0, c1, c2, c3, c4, c5, c6, c7, rfl⟩ : ∃ c0 c1 c2 c3 c4 c5 c6 c7, cs = [c0, c1, c2, c3, c4, c5, c6, c7] := by
    match cs, hlen with
    | [c0, c1, c2, c3, c4, c5, c6, c7], _ => exact ⟨c0, c1, c2, c3, c4, c5, c6, c7, rfl⟩
  obtain ⟨y0, y1, y2, y3, m, hx, _, t0, t1, t2, t3⟩ := trod_struct4 Try.underlying33 hf
  obtain ⟨k, e0, f0, g0⟩ := DataW.trod_int Try.underlying3 t0
  obtain ⟨nn, e3, f3, g3⟩ := DataW.trod_int Try.underlying3 t3
  simp [cells3] at e0 e3
  subst e0 e3
  simp only [cells31] at t1 t2
  obtain ⟨a1, a2, a3, e1, g1⟩ := elem_val (by simp) t1
  obtain ⟨b1, b2, b3, e2, g2⟩ := elem_val (by simp) t2
  simp at e1 e2
  obtain ⟨rfl, rfl, rfl⟩ := e1
  obtain ⟨rfl, rfl, rfl⟩ := e2
  refine ⟨(k, (a1, a2, a3), (b1, b2, b3), nn), fun j hj => ?_, ?_, ?_⟩
  · rcases lt8 hj with rfl | rfl | rfl | rfl | rfl | rfl | rfl | rfl <;> rfl
  · have := bounds_i64 g1
    exact ⟨this.1, this.2⟩
  · exact bounds_i64 g3
set_option maxRecDepth 100000 in
theorem open_case {H : Type} {enc : TypeId × Value → H} {W : World} {base b0 : Nat} {held : Bool} {r : Reach} {v : Value} {d : DataW H} {ps : List MemPlace}
    (hval : Value.okWide Try.prog W r b0 24 v) (hd : DataW.Trod enc Try.prog W base (fun _ => true) held 24 v d ps) :
    ∃ (x y : Int) (a : Option Addr) (L cap : Nat) (Q : Nat → Int × V × V × Int), v = cw x y (.slice a L cap) ∧ L ≤ cap ∧ Ops W.heap.size W a L Q := by
  obtain ⟨cs, rfl, h2⟩ := okWide_struct Try.underlying24 hval
  rw [cells24] at h2
  obtain ⟨ll⟩ := cs
  obtain ⟨c0, c1, c2, rfl⟩ : ∃ c0 c1 c2, ll = [c0, c1, c2] := by
    match ll, h2 with
    | [c0, c1, c2], _ => exact ⟨c0, c1, c2, rfl⟩
  obtain ⟨fuel, hf⟩ := hd
  obtain ⟨y0, y1, y2, m, hx, _, t0, t1, t3⟩ := trod_struct3 Try.underlying24 hf
  obtain ⟨x, e1, f1, g1⟩ := DataW.trod_int Try.underlying3 t0
  obtain ⟨y, e2, f2, g2⟩ := DataW.trod_int Try.underlying3 t1
  simp [Value.cells, cells3] at e1 e2
  subst e1 e2
  rw [cells22] at t3
  rcases open_slice Try.underlying22 t3 with ⟨h0, _⟩ | ⟨a, len, cap, m, n, D, Pl, h0, hb, hl, hm, hmm, hx, he⟩
  · simp [Value.cells] at h0
    subst h0
    exact ⟨x, y, none, 0, 0, fun _ => (0, nil, nil, 0), rfl, Nat.le_refl _, fun i hi => absurd hi (Nat.not_lt_zero _), fun h => absurd h (Nat.lt_irrefl _)⟩
  · simp only [if_true] at hmm
    subst hmm
    simp [Value.cells] at h0
    subst h0
    have each : ∀ i, i < m → ∃ q : Int × V × V × Int, (∀ j, j < 8 → W.cell? (a.add (i * 8 + j)) = some (oc q j)) ∧ Rng q.2.1 ∧ -9223372036854775808 ≤ q.2.2.2 ∧ q.2.2.2 ≤ 9223372036854775807 := by
      intro i hi
      obtain ⟨cs', h1, h2⟩ := he i hi
      rw [cells33] at h1
      obtain ⟨_, hlen, hcell⟩ := World.cells?_some h1
      obtain ⟨q, hq, hr⟩ := elem_op hlen h2
      refine ⟨q, fun j hj => ?_, hr⟩
      have := hcell j (by omega)
      rw [Addr.add_add] at this
      rw [this]
      exact hq j hj
    obtain ⟨Q, hQ⟩ : ∃ Q : Nat → Int × V × V × Int, ∀ i, i < m → (∀ j, j < 8 → W.cell? (a.add (i * 8 + j)) = some (oc (Q i) j)) ∧ Rng (Q i).2.1 ∧ -9223372036854775808 ≤ (Q i).2.2.2 ∧ (Q i).2.2.2 ≤ 9223372036854775807 :=
      ⟨fun i => if h : i < m then (each i h).choose else (0, nil, nil, 0), fun i hi => by
        simp only [dif_pos hi]
        exact (each i hi).choose_spec⟩
    refine ⟨x, y, some a, len, m, Q, rfl, hl, fun i hi => (hQ i (by omega)).2, fun h0 => ?_⟩
    have hc0 := (hQ 0 (by omega)).1 0 (by omega)
    have ha : a.add (0 * 8 + 0) = a := rfl
    rw [ha] at hc0
    obtain ⟨b, off, spot⟩ := a
    have hs : spot = none := by
      cases spot with
      | none => rfl
      | some q => unfold World.cell? at hc0; split at hc0 <;> simp at hc0
    subst hs
    have hadd : ∀ i, (Addr.add ⟨b, off, none⟩ i) = ⟨b, off + i, none⟩ := fun i => by
      by_cases hj0 : i = 0
      · subst hj0; rfl
      · simp [Addr.add, hj0]
    refine ⟨b, off, rfl, World.block_lt_of_cell? W _ hc0, fun i hi j hj => ?_⟩
    have := (hQ i (by omega)).1 j hj
    rw [hadd, ← Nat.add_assoc] at this
    exact this
end Go.Proofs.Ythlgeohncpmaaaa
