/- The walk of the law BoxTexts. -/
import Derived.Test.YtimmoecjfkacpabDoorAt
import Derived.Test.YtimmoecjfkacpabDoorInj
import Derived.Deep.RegionWith
namespace Go.Proofs.YtimmoecjfkacpabDoor
open Go.RowKit

theorem shw_same (a b : Bx) (h : a.kind = b.kind) : a.shw = b.shw ↔ (a.num = b.num ∧ a.txt = b.txt) := by
  rcases a with _ | x | x | x | x | x | x <;> rcases b with _ | y | y | y | y | y | y <;> first | (exfalso; revert h; simp [Bx.kind]; done) | skip
  · simp [Bx.shw, Bx.num, Bx.txt]
  · cases x <;> cases y <;> simp [Bx.shw, Bx.num, Bx.txt, bi]
  · simp only [Bx.shw, Bx.num, Bx.txt, and_true]; exact ⟨itoa_inj x y, fun h => by rw [h]⟩
  · simp [Bx.shw, Bx.num, Bx.txt]
  · simp only [Bx.shw, Bx.num, Bx.txt, and_true]; exact ⟨fun h => itoa_inj x y (app_inj _ _ _ h), fun h => by rw [h]⟩
  · simp only [Bx.shw, Bx.num, Bx.txt, and_true]; exact ⟨fun h => itoa_inj x y (app_inj _ _ _ h), fun h => by rw [h]⟩
  · simp only [Bx.shw, Bx.num, Bx.txt, and_true]; exact ⟨fun h => itoa_inj x y (app_inj _ _ _ h), fun h => by rw [h]⟩
theorem zf1 {w w4 : World} (o : Obj) (h : Below (((w.alloc o).alloc zb).drew).heap.size (((w.alloc o).alloc zb).drew) w4) :
    w4.cell? ⟨w.heap.size + 1, 0, none⟩ = some (.int .i64 0) ∧ w4.cell? ⟨w.heap.size + 1, 1, none⟩ = some (.int .i64 0) ∧ w4.cell? ⟨w.heap.size + 1, 2, none⟩ = some (.string ⟨#[]⟩) ∧
    w4.frozen? ⟨w.heap.size + 1, 0, none⟩ = false ∧ w4.frozen? ⟨w.heap.size + 1, 1, none⟩ = false ∧ w4.frozen? ⟨w.heap.size + 1, 2, none⟩ = false := by
  refine ⟨?_, ?_, ?_, ?_, ?_, ?_⟩
  · rw [h.cell (by simp)]; simp [go_sem]
  · rw [h.cell (by simp)]; simp [go_sem]
  · rw [h.cell (by simp)]; simp [go_sem]
  · rw [h.frozen (by simp)]; simp [go_sem]
  · rw [h.frozen (by simp)]; simp [go_sem]
  · rw [h.frozen (by simp)]; simp [go_sem]
theorem zf2 {w w4 : World} (o : Obj) (h : Below (((w.alloc zb).alloc o).drew).heap.size (((w.alloc zb).alloc o).drew) w4) :
    w4.cell? ⟨w.heap.size, 0, none⟩ = some (.int .i64 0) ∧ w4.cell? ⟨w.heap.size, 1, none⟩ = some (.int .i64 0) ∧ w4.cell? ⟨w.heap.size, 2, none⟩ = some (.string ⟨#[]⟩) ∧
    w4.frozen? ⟨w.heap.size, 0, none⟩ = false ∧ w4.frozen? ⟨w.heap.size, 1, none⟩ = false ∧ w4.frozen? ⟨w.heap.size, 2, none⟩ = false := by
  refine ⟨?_, ?_, ?_, ?_, ?_, ?_⟩
  · rw [h.cell (by simp; omega)]; simp [go_sem]
  · rw [h.cell (by simp; omega)]; simp [go_sem]
  · rw [h.cell (by simp; omega)]; simp [go_sem]
  · rw [h.frozen (by simp; omega)]; simp [go_sem]
  · rw [h.frozen (by simp; omega)]; simp [go_sem]
  · rw [h.frozen (by simp; omega)]; simp [go_sem]
theorem gen {Q : World → Prop} {W : World} (P : World → Prop) (hP : P W) (h : ∀ W', P W' → Q W') : Q W := h W hP
theorem At.other {w : World} {g : Nat} {k n : Int} {s : ByteArray} (h : At w g k n s) (p : Addr) (v : Value) (hp : g ≠ p.block) : At (w.setCell p v) g k n s :=
  ⟨by rw [World.cell?_setCell_other _ _ _ _ (fun q => hp (by rw [q]))]; exact h.k, by rw [World.cell?_setCell_other _ _ _ _ (fun q => hp (by rw [q]))]; exact h.n, by rw [World.cell?_setCell_other _ _ _ _ (fun q => hp (by rw [q]))]; exact h.s, by simpa using h.lt⟩
theorem At.drew {w : World} {g : Nat} {k n : Int} {s : ByteArray} (h : At w g k n s) : At w.drew g k n s := ⟨h.k, h.n, h.s, h.lt⟩
/-- A value stored into a block that holds three cells. -/
theorem At.stored {w : World} {g : Nat} {x y z : Value} (k n : Int) (s : ByteArray) (h0 : w.cell? ⟨g, 0, none⟩ = some x) (h1 : w.cell? ⟨g, 1, none⟩ = some y) (h2 : w.cell? ⟨g, 2, none⟩ = some z) (hl : g < w.heap.size) :
    At (((w.setCell ⟨g, 0, none⟩ (.int .i64 k)).setCell ⟨g, 1, none⟩ (.int .i64 n)).setCell ⟨g, 2, none⟩ (.string s)) g k n s := by
  refine ⟨?_, ?_, ?_, by simpa using hl⟩
  · rw [World.cell?_setCell_other _ _ _ _ (by simp), World.cell?_setCell_other _ _ _ _ (by simp), World.cell?_setCell_same _ _ _ h0]
  · rw [World.cell?_setCell_other _ _ _ _ (by simp), World.cell?_setCell_same _ _ _ (show World.cell? _ _ = some y by rw [World.cell?_setCell_other _ _ _ _ (by simp)]; exact h1)]
  · rw [World.cell?_setCell_same _ _ _ (show World.cell? _ _ = some z by rw [World.cell?_setCell_other _ _ _ _ (by simp), World.cell?_setCell_other _ _ _ _ (by simp)]; exact h2)]
theorem rcheck_b (k n : Int) (s : ByteArray) (w : World) : Calls Tryd.prog 6 #[vl k n s] w fun e w' => e = .returned (.int .i64 (chk k n s)) ∧ Below w.heap.size w w' :=
  (rcheck_any k n s w).mono fun _ _ ⟨he, hw⟩ => ⟨he, hw ▸ b1 _ _⟩

set_option maxRecDepth 20000 in
set_option maxHeartbeats 1000000 in
theorem texts_r1 (ka na : Int) (sa : ByteArray) (kb nb : Int) (sb : ByteArray) (D1 : ∀ w, Tab w → Calls Tryd.prog 5 #[vl ka na sa] w fun e w' => e = .returned (.tuple #[.string ⟨#[]⟩, .int .i64 2]) ∧ Below w.heap.size w w') (tb : ByteArray) (eb : Int) (D2 : ∀ w, Tab w → Calls Tryd.prog 5 #[vl kb nb sb] w fun e w' => e = .returned (.tuple #[.string tb, .int .i64 eb]) ∧ Below w.heap.size w w') (D3 : ∀ w, Calls Tryd.prog 6 #[vl ka na sa] w fun e w' => e = .returned (.int .i64 2) ∧ Below w.heap.size w w') (w : World) (htab : Tab w) : Calls Tryd.prog 3 #[vl ka na sa, vl kb nb sb] w fun e w' => e = .returned (.bool true) ∧ Below w.heap.size w w' := by
  have HT : Hid _ := htab
  clear htab
  try unfold vl at *
  go_enter Tryd.func3, Tryd.ntmps3
  go_wp2_with fail
  have A := At.new w ka na sa
  unfold vb at A
  replace A := A.alloc (.cells #[.int .i64 kb, .int .i64 nb, .string sb] 23)
  have C := At.new (w.alloc (.cells #[.int .i64 ka, .int .i64 na, .string sa] 23)) kb nb sb
  unfold vb at C
  have B := b2 w (.cells #[.int .i64 ka, .int .i64 na, .string sa] 23) (.cells #[.int .i64 kb, .int .i64 nb, .string sb] 23)
  simp at C
  generalize ((w.alloc (.cells #[.int .i64 ka, .int .i64 na, .string sa] 23)).alloc (.cells #[.int .i64 kb, .int .i64 nb, .string sb] 23)) = w0 at *
  obtain ⟨V, hV⟩ : ∃ V, w.heap.size = V := ⟨_, rfl⟩
  rw [hV] at A C B ⊢
  obtain ⟨A0, A1, A2, Al⟩ := id A
  obtain ⟨C0, C1, C2, Cl⟩ := id C
  refine (fixed_any _ (tab_keep HT.out (hV.symm ▸ B))).mono ?_
  rintro e w1 ⟨rfl, hb⟩
  replace B := bthen B (by have := A.lt; omega) hb
  replace A := A.below hb
  replace C := C.below hb
  clear A0 A1 A2 Al C0 C1 C2 Cl
  clear hb
  obtain ⟨A0, A1, A2, Al⟩ := id A
  obtain ⟨C0, C1, C2, Cl⟩ := id C
  go_wp2_with fail
  refine (D1 _ (tab_keep HT.out (hV.symm ▸ B))).mono ?_
  rintro e w2 ⟨rfl, hb⟩
  replace B := bthen B (by have := A.lt; omega) hb
  replace A := A.below hb
  replace C := C.below hb
  clear A0 A1 A2 Al C0 C1 C2 Cl
  clear hb
  obtain ⟨A0, A1, A2, Al⟩ := id A
  obtain ⟨C0, C1, C2, Cl⟩ := id C
  go_wp2_with fail
  refine (D2 _ (tab_keep HT.out (hV.symm ▸ B))).mono ?_
  rintro e w3 ⟨rfl, hb⟩
  replace B := bthen B (by have := A.lt; omega) hb
  replace A := A.below hb
  replace C := C.below hb
  clear A0 A1 A2 Al C0 C1 C2 Cl
  clear hb
  obtain ⟨A0, A1, A2, Al⟩ := id A
  obtain ⟨C0, C1, C2, Cl⟩ := id C
  go_wp2_with fail
  refine (D3 _).mono ?_
  rintro e w4 ⟨rfl, hb⟩
  replace B := bthen B (by have := A.lt; omega) hb
  replace A := A.below hb
  replace C := C.below hb
  clear A0 A1 A2 Al C0 C1 C2 Cl
  clear hb
  obtain ⟨A0, A1, A2, Al⟩ := id A
  obtain ⟨C0, C1, C2, Cl⟩ := id C
  go_wp2_with fail
  go_ret
  exact ⟨rfl, hV.symm ▸ B⟩

set_option maxRecDepth 20000 in
set_option maxHeartbeats 1000000 in
theorem texts_r2 (ka na : Int) (sa : ByteArray) (kb nb : Int) (sb : ByteArray) (ta : ByteArray) (D1 : ∀ w, Tab w → Calls Tryd.prog 5 #[vl ka na sa] w fun e w' => e = .returned (.tuple #[.string ta, .int .i64 0]) ∧ Below w.heap.size w w') (D2 : ∀ w, Tab w → Calls Tryd.prog 5 #[vl kb nb sb] w fun e w' => e = .returned (.tuple #[.string ⟨#[]⟩, .int .i64 2]) ∧ Below w.heap.size w w') (D3 : ∀ w, Calls Tryd.prog 6 #[vl ka na sa] w fun e w' => e = .returned (.int .i64 0) ∧ Below w.heap.size w w') (D4 : ∀ w, Calls Tryd.prog 6 #[vl kb nb sb] w fun e w' => e = .returned (.int .i64 2) ∧ Below w.heap.size w w') (w : World) (htab : Tab w) : Calls Tryd.prog 3 #[vl ka na sa, vl kb nb sb] w fun e w' => e = .returned (.bool true) ∧ Below w.heap.size w w' := by
  have HT : Hid _ := htab
  clear htab
  try unfold vl at *
  go_enter Tryd.func3, Tryd.ntmps3
  go_wp2_with fail
  have A := At.new w ka na sa
  unfold vb at A
  replace A := A.alloc (.cells #[.int .i64 kb, .int .i64 nb, .string sb] 23)
  have C := At.new (w.alloc (.cells #[.int .i64 ka, .int .i64 na, .string sa] 23)) kb nb sb
  unfold vb at C
  have B := b2 w (.cells #[.int .i64 ka, .int .i64 na, .string sa] 23) (.cells #[.int .i64 kb, .int .i64 nb, .string sb] 23)
  simp at C
  generalize ((w.alloc (.cells #[.int .i64 ka, .int .i64 na, .string sa] 23)).alloc (.cells #[.int .i64 kb, .int .i64 nb, .string sb] 23)) = w0 at *
  obtain ⟨V, hV⟩ : ∃ V, w.heap.size = V := ⟨_, rfl⟩
  rw [hV] at A C B ⊢
  obtain ⟨A0, A1, A2, Al⟩ := id A
  obtain ⟨C0, C1, C2, Cl⟩ := id C
  refine (fixed_any _ (tab_keep HT.out (hV.symm ▸ B))).mono ?_
  rintro e w1 ⟨rfl, hb⟩
  replace B := bthen B (by have := A.lt; omega) hb
  replace A := A.below hb
  replace C := C.below hb
  clear A0 A1 A2 Al C0 C1 C2 Cl
  clear hb
  obtain ⟨A0, A1, A2, Al⟩ := id A
  obtain ⟨C0, C1, C2, Cl⟩ := id C
  go_wp2_with fail
  refine (D1 _ (tab_keep HT.out (hV.symm ▸ B))).mono ?_
  rintro e w2 ⟨rfl, hb⟩
  replace B := bthen B (by have := A.lt; omega) hb
  replace A := A.below hb
  replace C := C.below hb
  clear A0 A1 A2 Al C0 C1 C2 Cl
  clear hb
  obtain ⟨A0, A1, A2, Al⟩ := id A
  obtain ⟨C0, C1, C2, Cl⟩ := id C
  go_wp2_with fail
  refine (D2 _ (tab_keep HT.out (hV.symm ▸ B))).mono ?_
  rintro e w3 ⟨rfl, hb⟩
  replace B := bthen B (by have := A.lt; omega) hb
  replace A := A.below hb
  replace C := C.below hb
  clear A0 A1 A2 Al C0 C1 C2 Cl
  clear hb
  obtain ⟨A0, A1, A2, Al⟩ := id A
  obtain ⟨C0, C1, C2, Cl⟩ := id C
  go_wp2_with fail
  refine (D3 _).mono ?_
  rintro e w4 ⟨rfl, hb⟩
  replace B := bthen B (by have := A.lt; omega) hb
  replace A := A.below hb
  replace C := C.below hb
  clear A0 A1 A2 Al C0 C1 C2 Cl
  clear hb
  obtain ⟨A0, A1, A2, Al⟩ := id A
  obtain ⟨C0, C1, C2, Cl⟩ := id C
  go_wp2_with fail
  refine (D4 _).mono ?_
  rintro e w5 ⟨rfl, hb⟩
  replace B := bthen B (by have := A.lt; omega) hb
  replace A := A.below hb
  replace C := C.below hb
  clear A0 A1 A2 Al C0 C1 C2 Cl
  clear hb
  obtain ⟨A0, A1, A2, Al⟩ := id A
  obtain ⟨C0, C1, C2, Cl⟩ := id C
  go_wp2_with fail
  go_ret
  exact ⟨rfl, hV.symm ▸ B⟩

end Go.Proofs.YtimmoecjfkacpabDoor
