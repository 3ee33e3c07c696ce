/- The walk of the law BoxTexts, one case. -/
import Derived.Test.YtimmoecjfkacpabDoorTexts
import Derived.Deep.QuietTactic
import Derived.BigQuiet
namespace Go.Proofs.YtimmoecjfkacpabDoor
open Go.RowKit

set_option maxRecDepth 20000 in
set_option maxHeartbeats 2000000 in
theorem texts_Q3 (na : Int) (sa : ByteArray)  (D1 : ∀ w, Tab w → Calls Tryd.prog 5 #[vl 3 na sa] w fun e w' => e = .returned (.tuple #[.string sa, .int .i64 0]) ∧ Below w.heap.size w w') (DJ : ∀ w, Tab w → Calls Tryd.prog 7 #[vl 3 na sa, vl 3 0 ⟨#[]⟩] w fun e w' => e = .returned (.tuple #[vl 3 0 sa, .int .i64 0]) ∧ Below w.heap.size w w') (w : World) (htab : Tab w) : Calls Tryd.prog 3 #[vl 3 na sa, vl 3 na sa] w fun e w' => e = .returned (.bool true) ∧ Below w.heap.size w w' := by
  have HT : Hid _ := htab
  clear htab
  try unfold vl at *
  go_enter Tryd.func3, Tryd.ntmps3
  go_wp2_with fail
  have A := At.new w 3 na sa
  unfold vb at A
  replace A := A.alloc (.cells #[.int .i64 3, .int .i64 na, .string sa] 23)
  have C := At.new (w.alloc (.cells #[.int .i64 3, .int .i64 na, .string sa] 23)) 3 na sa
  unfold vb at C
  have B := b2 w (.cells #[.int .i64 3, .int .i64 na, .string sa] 23) (.cells #[.int .i64 3, .int .i64 na, .string sa] 23)
  simp at C
  generalize ((w.alloc (.cells #[.int .i64 3, .int .i64 na, .string sa] 23)).alloc (.cells #[.int .i64 3, .int .i64 na, .string sa] 23)) = w0 at *
  obtain ⟨V, hV⟩ : ∃ V, w.heap.size = V := ⟨_, rfl⟩
  rw [hV] at A C B ⊢
  obtain ⟨A0, A1, A2, Al⟩ := id A
  obtain ⟨C0, C1, C2, Cl⟩ := id C
  refine (fixed_any _ (tab_keep HT.out (hV.symm ▸ B))).mono ?_
  rintro e w1 ⟨rfl, hb⟩
  replace B := bthen B (by have := A.lt; omega) hb
  replace A := A.below hb
  replace C := C.below hb
  clear A0 A1 A2 Al C0 C1 C2 Cl
  clear hb
  obtain ⟨A0, A1, A2, Al⟩ := id A
  obtain ⟨C0, C1, C2, Cl⟩ := id C
  go_wp2_with fail
  refine (D1 _ (tab_keep HT.out (hV.symm ▸ B))).mono ?_
  rintro e w2 ⟨rfl, hb⟩
  replace B := bthen B (by have := A.lt; omega) hb
  replace A := A.below hb
  replace C := C.below hb
  clear A0 A1 A2 Al C0 C1 C2 Cl
  clear hb
  obtain ⟨A0, A1, A2, Al⟩ := id A
  obtain ⟨C0, C1, C2, Cl⟩ := id C
  go_wp2_with fail
  refine (D1 _ (tab_keep HT.out (hV.symm ▸ B))).mono ?_
  rintro e w3 ⟨rfl, hb⟩
  replace B := bthen B (by have := A.lt; omega) hb
  replace A := A.below hb
  replace C := C.below hb
  clear A0 A1 A2 Al C0 C1 C2 Cl
  clear hb
  obtain ⟨A0, A1, A2, Al⟩ := id A
  obtain ⟨C0, C1, C2, Cl⟩ := id C
  go_wp2_with fail
  have HTA : Hid (∀ w', Below w3.heap.size w3 w' → Tab w') := fun w' h => tab_keep HT.out (hV.symm ▸ bthen B (Nat.le_of_lt A.lt) h)
  have c0 := fun o => (A.alloc o).k
  have c1 := fun o => (A.alloc o).n
  have c2 := fun o => (A.alloc o).s
  have DS := mkS ⟨#[]⟩
  unfold vl vb at DS
  go_region_with (first | (go_at_call 8; refine (DS _).mono ?_; rintro e w' ⟨rfl, rfl⟩) | (go_at_call 7; refine (DJ ((w3.alloc (.cells #[.int .i64 3, .int .i64 0, .string ⟨#[]⟩] 23)).alloc (.cells #[.int .i64 0, .int .i64 0, .string ⟨#[]⟩] 23)).drew (HTA.out _ (by repeat (first | exact Below.refl _ _ | refine Below.drew ?_ | refine Below.alloc ?_ (by simp; try omega) _)))).mono ?_; rintro e w4 ⟨rfl, hbJ⟩; obtain ⟨z0, z1, z2, y0, y1, y2⟩ := zf1 _ hbJ; have A4 := A.below (bthen (show Below w3.heap.size w3 ((w3.alloc (.cells #[.int .i64 3, .int .i64 0, .string ⟨#[]⟩] 23)).alloc (.cells #[.int .i64 0, .int .i64 0, .string ⟨#[]⟩] 23)).drew from (by repeat (first | exact Below.refl _ _ | refine Below.drew ?_ | refine Below.alloc ?_ (by simp; try omega) _))) (by simp; try omega) hbJ); have B4 : Below V w w4 := bthen B (Nat.le_of_lt A.lt) (bthen (show Below w3.heap.size w3 ((w3.alloc (.cells #[.int .i64 3, .int .i64 0, .string ⟨#[]⟩] 23)).alloc (.cells #[.int .i64 0, .int .i64 0, .string ⟨#[]⟩] 23)).drew from (by repeat (first | exact Below.refl _ _ | refine Below.drew ?_ | refine Below.alloc ?_ (by simp; try omega) _))) (by simp; try omega) hbJ); have L4 := hbJ.size) | (go_at_call 7; refine (DJ ((w3.alloc (.cells #[.int .i64 0, .int .i64 0, .string ⟨#[]⟩] 23)).alloc (.cells #[.int .i64 3, .int .i64 0, .string ⟨#[]⟩] 23)).drew (HTA.out _ (by repeat (first | exact Below.refl _ _ | refine Below.drew ?_ | refine Below.alloc ?_ (by simp; try omega) _)))).mono ?_; rintro e w4 ⟨rfl, hbJ⟩; obtain ⟨z0, z1, z2, y0, y1, y2⟩ := zf2 _ hbJ; have A4 := A.below (bthen (show Below w3.heap.size w3 ((w3.alloc (.cells #[.int .i64 0, .int .i64 0, .string ⟨#[]⟩] 23)).alloc (.cells #[.int .i64 3, .int .i64 0, .string ⟨#[]⟩] 23)).drew from (by repeat (first | exact Below.refl _ _ | refine Below.drew ?_ | refine Below.alloc ?_ (by simp; try omega) _))) (by simp; try omega) hbJ); have B4 : Below V w w4 := bthen B (Nat.le_of_lt A.lt) (bthen (show Below w3.heap.size w3 ((w3.alloc (.cells #[.int .i64 0, .int .i64 0, .string ⟨#[]⟩] 23)).alloc (.cells #[.int .i64 3, .int .i64 0, .string ⟨#[]⟩] 23)).drew from (by repeat (first | exact Below.refl _ _ | refine Below.drew ?_ | refine Below.alloc ?_ (by simp; try omega) _))) (by simp; try omega) hbJ); have L4 := hbJ.size) | (go_at_call 7; refine (DJ (w3.alloc (.cells #[.int .i64 3, .int .i64 0, .string ⟨#[]⟩] 23)).drew (HTA.out _ (by repeat (first | exact Below.refl _ _ | refine Below.drew ?_ | refine Below.alloc ?_ (by simp; try omega) _)))).mono ?_; rintro e w4 ⟨rfl, hbJ⟩; have A4 := A.below (bthen (show Below w3.heap.size w3 (w3.alloc (.cells #[.int .i64 3, .int .i64 0, .string ⟨#[]⟩] 23)).drew from (by repeat (first | exact Below.refl _ _ | refine Below.drew ?_ | refine Below.alloc ?_ (by simp; try omega) _))) (by simp; try omega) hbJ); have B4 : Below V w w4 := bthen B (Nat.le_of_lt A.lt) (bthen (show Below w3.heap.size w3 (w3.alloc (.cells #[.int .i64 3, .int .i64 0, .string ⟨#[]⟩] 23)).drew from (by repeat (first | exact Below.refl _ _ | refine Below.drew ?_ | refine Below.alloc ?_ (by simp; try omega) _))) (by simp; try omega) hbJ); have L4 := hbJ.size))
  all_goals
    clear c0 c1 c2 HTA DS
    simp at L4
    first
      | refine gen (Q := fun W => Exit.then _ _ Exit.normal _ W) (fun W' => At W' V 3 na sa ∧ At W' (w3.heap.size + 1) 3 0 sa ∧ Below V w W') ⟨((A4.other _ _ (by have := A.lt; simp; omega)).other _ _ (by have := A.lt; simp; omega)).other _ _ (by have := A.lt; simp; omega), At.stored 3 0 sa z0 z1 z2 (by omega), ((B4.setCell (by have := A.lt; simp; omega) _).setCell (by have := A.lt; simp; omega) _).setCell (by have := A.lt; simp; omega) _⟩ ?_
      | refine gen (Q := fun W => Exit.then _ _ Exit.normal _ W) (fun W' => At W' V 3 na sa ∧ At W' w3.heap.size 3 0 sa ∧ Below V w W') ⟨((A4.other _ _ (by have := A.lt; simp; omega)).other _ _ (by have := A.lt; simp; omega)).other _ _ (by have := A.lt; simp; omega), At.stored 3 0 sa z0 z1 z2 (by omega), ((B4.setCell (by have := A.lt; simp; omega) _).setCell (by have := A.lt; simp; omega) _).setCell (by have := A.lt; simp; omega) _⟩ ?_
      | refine gen (Q := fun W => Exit.then _ _ Exit.normal _ W) (fun W' => At W' V 3 na sa ∧ At W' w4.heap.size 3 0 sa ∧ Below V w W') ⟨A4.alloc _, At.new w4 3 0 sa, B4.alloc (Nat.le_of_lt A4.lt) _⟩ ?_
    rintro W5 ⟨A5, Z5, B5⟩
    obtain ⟨a0, a1, a2, al⟩ := id A5
    obtain ⟨u0, u1, u2, ul⟩ := id Z5
    clear A4 B4
    try clear z0 z1 z2 y0 y1 y2
    go_wp2
    obtain ⟨X, F, F1, F2⟩ := class_of W5
    have A6 : Hid (∀ x, At (F x) _ 3 0 sa) := fun x => Z5.below (F1 x)
    have d0 := fun x => (A6.out x).k
    have d1 := fun x => (A6.out x).n
    have d2 := fun x => (A6.out x).s
    have hSx : ∀ x, Calls Tryd.prog 8 #[.string sa] (F x) fun e w'' => e = .returned (.agg #[.int .i64 3, .int .i64 0, .string sa]) ∧ ∃ y, w'' = F y := fun x =>
      (mkS sa (F x)).mono fun e w' ⟨he, hw⟩ => ⟨he, F2 w' (hw ▸ (F1 x).alloc (F1 x).size _)⟩
    have HC : Hid (∃ x, W5.drew = F x) := F2 _ (Below.refl _ _).drew
    have HB : Hid (∀ x, Below V w (F x)) := fun x => bthen B5 (Nat.le_of_lt A5.lt) (F1 x)
    clear F1 F2 a0 a1 a2 u0 u1 u2
    haveI : Nonempty X := HC.out.elim fun x _ => ⟨x⟩
    refine wp_class (F := F) (by kernel_rfl) (by kernel_rfl) HC.out ?_
    repeat (go_big_quiet_step (exact hSx _))
    refine wpQuiet_nil ?_
    intro _ hw'
    obtain ⟨x, rfl⟩ := hw'
    go_wp2_with fail
    go_ret
    exact ⟨rfl, hV.symm ▸ HB.out x⟩

end Go.Proofs.YtimmoecjfkacpabDoor
