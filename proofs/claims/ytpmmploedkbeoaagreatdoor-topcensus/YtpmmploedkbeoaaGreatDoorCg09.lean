/- The walk of takeParts: two blocks of the heap, two empty parts. -/
import Derived.Test.YtpmmploedkbeoaaGreatDoorCg08
import Derived.Test.YtpmmploedkbeoaaGreatDoorCg06
import Derived.Deep.AppendLies
import Derived.Test.YtpmmploedkbeoaaGreatDoorCg07
namespace Go.Proofs.YtpmmploedkbeoaaGreatDoor
open Go.RowKit

abbrev zp : Value := .agg #[.slice none 0 0, .pointer none, .int .i64 0, .int .i64 0]
abbrev zo : Obj := .cells #[.slice none 0 0, .pointer none, .int .i64 0, .int .i64 0] 128
abbrev pv (n A b : Nat) (x y : Int) : Value := .agg #[.slice (some ⟨A, 0, none⟩) n n, .pointer (some ⟨b, 0, none⟩), .int .i64 x, .int .i64 y]
/-- The result's block: four cells that may be written. -/
structure R4 (w : World) (N : Nat) (q0 q1 q2 q3 : Value) : Prop where
  c0 : w.cell? ⟨N, 0, none⟩ = some q0
  c1 : w.cell? ⟨N, 1, none⟩ = some q1
  c2 : w.cell? ⟨N, 2, none⟩ = some q2
  c3 : w.cell? ⟨N, 3, none⟩ = some q3
  fz : ∀ j, w.frozen? ⟨N, j, none⟩ = false
  lt : N < w.heap.size
theorem R4.kept {No : Nat → Prop} {w w' : World} {N : Nat} {q0 q1 q2 q3 : Value} (h : R4 w N q0 q1 q2 q3) (k : Keep No w w') (hn : No N) : R4 w' N q0 q1 q2 q3 := by
  have e := k.block N h.lt hn
  exact ⟨by rw [World.cell?_of_block (w := w) e]; exact h.c0, by rw [World.cell?_of_block (w := w) e]; exact h.c1, by rw [World.cell?_of_block (w := w) e]; exact h.c2, by rw [World.cell?_of_block (w := w) e]; exact h.c3, fun j => by rw [World.frozen?_of_block (w := w) e]; exact h.fz j, Nat.lt_of_lt_of_le h.lt k.size⟩
theorem R4.below {w w' : World} {N : Nat} {q0 q1 q2 q3 : Value} (h : R4 w N q0 q1 q2 q3) (k : Below w.heap.size w w') : R4 w' N q0 q1 q2 q3 := h.kept (No := fun _ => True) (Keep.of k) trivial
theorem R4.made (w : World) (q0 q1 q2 q3 : Value) (t : TypeId) : R4 (w.alloc (.cells #[q0, q1, q2, q3] t)) w.heap.size q0 q1 q2 q3 := by
  have h := (MapKept.heap_alloc w (.cells #[q0, q1, q2, q3] t)).1
  exact ⟨cell_of_row h 0, cell_of_row h 1, cell_of_row h 2, cell_of_row h 3, fun j => new_free w _ _ j, by simp⟩

abbrev set4 (w : World) (N : Nat) (q0 q1 q2 q3 : Value) : World := (((w.setCell ⟨N, 0, none⟩ q0).setCell ⟨N, 1, none⟩ q1).setCell ⟨N, 2, none⟩ q2).setCell ⟨N, 3, none⟩ q3
theorem R4.set {w : World} {N : Nat} {p0 p1 p2 p3 : Value} (h : R4 w N p0 p1 p2 p3) (q0 q1 q2 q3 : Value) : R4 (set4 w N q0 q1 q2 q3) N q0 q1 q2 q3 := by
  have ne : ∀ (i j : Nat) (W : World) (v : Value), i ≠ j → (W.setCell ⟨N, i, none⟩ v).cell? ⟨N, j, none⟩ = W.cell? ⟨N, j, none⟩ := fun i j W v hij => World.cell?_setCell_other _ _ _ _ (fun q => by injection q with _ q2; omega)
  refine ⟨?_, ?_, ?_, ?_, fun j => by simpa using h.fz j, by simpa [World.setCell] using h.lt⟩
  · rw [ne 3 0 _ _ (by omega), ne 2 0 _ _ (by omega), ne 1 0 _ _ (by omega)]; exact World.cell?_setCell_same _ _ _ h.c0
  · rw [ne 3 1 _ _ (by omega), ne 2 1 _ _ (by omega)]; exact World.cell?_setCell_same _ _ _ (by rw [ne 0 1 _ _ (by omega)]; exact h.c1)
  · rw [ne 3 2 _ _ (by omega)]; exact World.cell?_setCell_same _ _ _ (by rw [ne 1 2 _ _ (by omega), ne 0 2 _ _ (by omega)]; exact h.c2)
  · exact World.cell?_setCell_same _ _ _ (by rw [ne 2 3 _ _ (by omega), ne 1 3 _ _ (by omega), ne 0 3 _ _ (by omega)]; exact h.c3)
theorem Keep.set4 {No : Nat → Prop} {w w1 : World} (h : Keep No w w1) {N : Nat} (hN : ¬ No N) (q0 q1 q2 q3 : Value) : Keep No w (set4 w1 N q0 q1 q2 q3) :=
  (((h.set (p := ⟨N, 0, none⟩) hN _).set (p := ⟨N, 1, none⟩) hN _).set (p := ⟨N, 2, none⟩) hN _).set (p := ⟨N, 3, none⟩) hN _
theorem Hp.set4 {No : Nat → Prop} {w : World} {S b c : Nat} {vb : Value} {s : H.St} (h : H.Hp No w S b c vb s) {N : Nat} (hN : No N) (q0 q1 q2 q3 : Value) : H.Hp No (Proofs.YtpmmploedkbeoaaGreatDoor.set4 w N q0 q1 q2 q3) S b c vb s :=
  (((h.sets N 0 q0 hN).sets N 1 q1 hN).sets N 2 q2 hN).sets N 3 q3 hN

set_option maxRecDepth 20000 in
set_option maxHeartbeats 2000000 in
theorem tp_bad1 {No : Nat → Prop} {w : World} {S hb c : Nat} {vb : Value} {s : H.St} {sp : Int} (h : H.Hp No w S hb c vb s) (hc : c ≤ 900000) (iv : H.Inv sp s) (A Z : Nat) (he : H.takeE s (A : Nat) ≠ 0) :
    Calls Tryz.prog 100 #[.pointer (some ⟨S, 0, none⟩), .int .i64 (A : Nat), .int .i64 (Z : Nat)] w fun e w' => e = .returned (.tuple #[zp, .int .i64 (H.takeE s (A : Nat))]) ∧ (∃ v', H.Hp No w' S hb (c + 1) v' s) ∧ Keep No w w' := by
  have C := H.take_any (h.made zo) (by omega) iv.ok (A : Nat)
  rw [(H.takeSt_bad (.inl he)).1] at C
  have HN : Hid (¬ No w.heap.size) := fun q => Nat.lt_irrefl _ (h.nos _ q)
  have HR : Hid (R4 (w.alloc zo) w.heap.size (.slice none 0 0) (.pointer none) (.int .i64 0) (.int .i64 0)) := R4.made _ _ _ _ _ _
  have HK0 : Hid (Keep No w (w.alloc zo)) := (Keep.refl No w).alloc zo
  generalize H.takeE s (A : Nat) = E at *
  generalize H.takeId s (A : Nat) = I at *
  clear h iv
  unfold zp
  unfold zo at *
  generalize hsz : w.heap.size = N at *
  obtain ⟨W0, hW0⟩ : ∃ W0, w.alloc (.cells #[.slice none 0 0, .pointer none, .int .i64 0, .int .i64 0] 128) = W0 := ⟨_, rfl⟩
  rw [hW0] at C HR HK0
  go_enter Tryz.func100, Tryz.ntmps100
  go_wp2_with fail
  refine C.mono ?_; rintro e W1 ⟨rfl, ⟨v', hp⟩, hkk⟩
  have R1 := HR.out.kept (kh hkk) (.inr rfl)
  have HP : Hid _ := Hp.sub (No' := No) (Hp.set4 hp (N := N) (.inr rfl) (.slice none 0 0) (.pointer none) (.int .i64 0) (.int .i64 0)) (fun g q => .inl q)
  have HK : Hid _ := Keep.set4 (HK0.out.trans ((kh hkk).sub (No' := No) fun g q => .inl q)) HN.out (.slice none 0 0) (.pointer none) (.int .i64 0) (.int .i64 0)
  obtain ⟨W2, hW2⟩ : ∃ W2, set4 W1 N (.slice none 0 0) (.pointer none) (.int .i64 0) (.int .i64 0) = W2 := ⟨_, rfl⟩
  have R2 : Hid _ := R1.set (.slice none 0 0) (.pointer none) (.int .i64 0) (.int .i64 0)
  rw [hW2] at HP HK R2
  unfold set4 at hW2
  have r0 := R1.c0
  have r1 := R1.c1
  have r2 := R1.c2
  have r3 := R1.c3
  have rf := R1.fz
  clear C hp hkk R1
  go_wp2_with fail
  have R3 := R2.out
  have t0 := R3.c0
  have t1 := R3.c1
  have t2 := R3.c2
  have t3 := R3.c3
  clear R3
  refine bodyPost_ret (v := .tuple #[.agg #[.slice none 0 0, .pointer none, .int .i64 0, .int .i64 0], .int .i64 E]) (by simp [results, Tryz.results100, go_sem, t0, t1, t2, t3]) rfl ⟨rfl, ⟨v', HP.out⟩, HK.out⟩

set_option maxRecDepth 20000 in
set_option maxHeartbeats 2000000 in
theorem tp_bad2 {No : Nat → Prop} {w : World} {S hb c : Nat} {vb : Value} {s : H.St} {sp : Int} (h : H.Hp No w S hb c vb s) (hc : c ≤ 900000) (iv : H.Inv sp s) (A Z : Nat) (hZ : Z ≤ 65536) (he : H.takeE s (A : Nat) = 0) (he2 : H.takeE (H.takeSt s (A : Nat)) (3 * (Z : Nat)) ≠ 0) :
    Calls Tryz.prog 100 #[.pointer (some ⟨S, 0, none⟩), .int .i64 (A : Nat), .int .i64 (Z : Nat)] w fun e w' => e = .returned (.tuple #[zp, .int .i64 (H.takeE (H.takeSt s (A : Nat)) (3 * (Z : Nat)))]) ∧ (∃ v', H.Hp No w' S hb (c + 3) v' (H.giveSt (H.takeSt s (A : Nat)) (H.takeId s (A : Nat)))) ∧ Keep No w w' := by
  have C := H.take_any (h.made zo) (by omega) iv.ok (A : Nat)
  have iv2 := iv.take (A : Nat)
  have C2 := fun W v' (h' : H.Hp (fun g => No g ∨ g = w.heap.size) W S hb (c + 1) v' (H.takeSt s (A : Nat))) => H.take_any h' (by omega) iv2.ok (3 * (Z : Nat))
  rw [(H.takeSt_bad (.inl he2)).1] at C2
  rw [he] at C
  have C3 := fun W v' (h' : H.Hp (fun g => No g ∨ g = w.heap.size) W S hb (c + 1 + 1) v' (H.takeSt s (A : Nat))) => H.give_any h' (by omega) iv2 (H.takeId s (A : Nat))
  have HN : Hid (¬ No w.heap.size) := fun q => Nat.lt_irrefl _ (h.nos _ q)
  have HR : Hid (R4 (w.alloc zo) w.heap.size (.slice none 0 0) (.pointer none) (.int .i64 0) (.int .i64 0)) := R4.made _ _ _ _ _ _
  have HK0 : Hid (Keep No w (w.alloc zo)) := (Keep.refl No w).alloc zo
  have hw : IntKind.i64.wrap (3 * (Z : Int)) = 3 * (Z : Int) := by rw [IntKind.wrap_i64]; omega
  generalize H.takeE (H.takeSt s (A : Nat)) (3 * (Z : Nat)) = E at *
  generalize H.takeId s (A : Nat) = I at *
  generalize H.takeId (H.takeSt s (A : Nat)) (3 * (Z : Nat)) = I2 at *
  generalize H.takeSt s (A : Nat) = s2 at *
  generalize H.giveE s2 I = E3 at *
  generalize H.giveSt s2 I = s3 at *
  clear h iv iv2 he
  unfold zp
  unfold zo at *
  generalize hsz : w.heap.size = N at *
  obtain ⟨W0, hW0⟩ : ∃ W0, w.alloc (.cells #[.slice none 0 0, .pointer none, .int .i64 0, .int .i64 0] 128) = W0 := ⟨_, rfl⟩
  rw [hW0] at C HR HK0
  go_enter Tryz.func100, Tryz.ntmps100
  go_wp2_with fail
  refine C.mono ?_; rintro e W1 ⟨rfl, ⟨v1, hp⟩, hkk⟩
  have CC := C2 W1 v1 hp
  have HR1 : Hid _ := HR.out.kept (kh hkk) (.inr rfl)
  have HK1 : Hid _ := HK0.out.trans ((kh hkk).sub (No' := No) fun g q => .inl q)
  clear C C2 hp hkk HR HK0
  go_wp2_with fail
  refine CC.mono ?_; rintro e W2 ⟨rfl, ⟨v2, hp⟩, hkk⟩
  have CD := C3 W2 v2 hp
  have HR2 : Hid _ := HR1.out.kept (kh hkk) (.inr rfl)
  have HK2 : Hid _ := HK1.out.trans ((kh hkk).sub (No' := No) fun g q => .inl q)
  clear CC C3 hp hkk HR1 HK1
  go_wp2_with fail
  refine CD.mono ?_; rintro e W3 ⟨rfl, ⟨v3, hp⟩, hkk⟩
  have R1 := HR2.out.kept (kh hkk) (.inr rfl)
  have HP : Hid _ := Hp.sub (No' := No) (Hp.set4 hp (N := N) (.inr rfl) (.slice none 0 0) (.pointer none) (.int .i64 0) (.int .i64 0)) (fun g q => .inl q)
  have HK : Hid _ := Keep.set4 (HK2.out.trans ((kh hkk).sub (No' := No) fun g q => .inl q)) HN.out (.slice none 0 0) (.pointer none) (.int .i64 0) (.int .i64 0)
  obtain ⟨W4, hW4⟩ : ∃ W4, set4 W3 N (.slice none 0 0) (.pointer none) (.int .i64 0) (.int .i64 0) = W4 := ⟨_, rfl⟩
  have R2 : Hid _ := R1.set (.slice none 0 0) (.pointer none) (.int .i64 0) (.int .i64 0)
  rw [hW4] at HP HK R2
  unfold set4 at hW4
  have r0 := R1.c0
  have r1 := R1.c1
  have r2 := R1.c2
  have r3 := R1.c3
  have rf := R1.fz
  clear CD hp hkk R1 HR2 HK2
  go_wp2_with fail
  have R3 := R2.out
  have t0 := R3.c0
  have t1 := R3.c1
  have t2 := R3.c2
  have t3 := R3.c3
  clear R3
  refine bodyPost_ret (v := .tuple #[.agg #[.slice none 0 0, .pointer none, .int .i64 0, .int .i64 0], .int .i64 E]) (by simp [results, Tryz.results100, go_sem, t0, t1, t2, t3]) rfl ⟨rfl, ⟨v3, HP.out⟩, HK.out⟩

/-- What takeParts leaves where both blocks are had. -/
structure Tk (No : Nat → Prop) (w w' : World) (S hb c A Z Ab b a : Nat) (s : H.St) : Prop where
  hp : ∃ v', H.Hp (fun g => No g ∨ g = Ab ∨ g = b ∨ g = a) w' S hb c v' s
  keep : Keep No w w'
  sl : Rv w' Ab A (fun _ => nil)
  fA : ∀ j, w'.frozen? ⟨Ab, j, none⟩ = false
  pt : Pt w' b a Z (g0 Z)
  ge : w.heap.size ≤ Ab ∧ w.heap.size ≤ b ∧ w.heap.size ≤ a
  ltA : Ab < w'.heap.size
  nAb : Ab ≠ b
  nAa : Ab ≠ a
  obj : w'.heap[Ab]? = some (.cells (zeros3 A) 37)

theorem zeros_rv {w : World} {b n : Nat} {t : TypeId} (h : w.heap[b]? = some (.cells (zeros3 n) t)) : Rv w b n (fun _ => nil) := ⟨fun i hi j hj => by
  rw [cell_of_row h]
  have h1 : i * 3 + j < n * 3 := by omega
  have h2 : i * 3 < n * 3 := by omega
  have hm : (i * 3 + j) % 3 = j := by omega
  rcases lt3 hj with rfl | rfl | rfl <;> simp [zeros3, madeCells, Value.cells, vc, nil, h1, h2, hm]⟩
theorem tk_of {No : Nat → Prop} {w W2 W3 W4 W5 : World} {S hb c A Z N : Nat} {v : Value} {s : H.St} (hp : H.Hp (fun g => (No g ∨ g = N) ∨ (W2.heap.size ≤ g ∧ g < W4.heap.size)) W5 S hb c v s) (hk : Keep No w W5) (hkl : Keep (fun x => x ≠ N) W4 W5)
    (hA : W4.heap[W3.heap.size]? = some (.cells (zeros3 A) 37)) (hf : ∀ j, W4.frozen? ⟨W3.heap.size, j, none⟩ = false) (hpt : Pt W3 (W2.heap.size + 1) W2.heap.size Z (g0 Z)) (hb4 : Below W3.heap.size W3 W4) (hk2 : Keep No w W2) (hN : N < W2.heap.size) (hz : W3.heap.size < W4.heap.size) :
    Tk No w W5 S hb c A Z W3.heap.size (W2.heap.size + 1) W2.heap.size s := by
  have s1 := hpt.ltb
  have s2 := hb4.size
  have s3 := hk2.size
  have s4 := hkl.size
  have e := hkl.block W3.heap.size hz (by show W3.heap.size ≠ N; omega)
  refine ⟨⟨v, Hp.sub hp (fun g q => ?_)⟩, hk, ?_, fun j => ?_, (hpt.below hb4).kept hkl (by show _ ≠ N; omega) (by show _ ≠ N; omega), by omega, by omega, by omega, by omega, e.trans hA⟩
  · rcases q with q | q | q | q
    · exact .inl (.inl q)
    · exact .inr ⟨by omega, by omega⟩
    · exact .inr ⟨by omega, by omega⟩
    · exact .inr ⟨by omega, by omega⟩
  · exact zeros_rv (e.trans hA)
  · rw [World.frozen?_of_block (w := W4) e]; exact hf j

set_option maxRecDepth 20000 in
set_option maxHeartbeats 2000000 in
theorem tp_good {No : Nat → Prop} {w : World} {S hb c : Nat} {vb : Value} {s : H.St} {sp : Int} (h : H.Hp No w S hb c vb s) (hc : c ≤ 900000) (iv : H.Inv sp s) (A Z : Nat) (hA : A ≤ 65536) (hZ : Rt Z) (he : H.takeE s (A : Nat) = 0) (he2 : H.takeE (H.takeSt s (A : Nat)) (3 * (Z : Nat)) = 0) :
    Calls Tryz.prog 100 #[.pointer (some ⟨S, 0, none⟩), .int .i64 (A : Nat), .int .i64 (Z : Nat)] w fun e w' => ∃ Ab b a, e = .returned (.tuple #[pv A Ab b (H.takeId s (A : Nat)) (H.takeId (H.takeSt s (A : Nat)) (3 * (Z : Nat))), .int .i64 0]) ∧
      Tk No w w' S hb (c + 2) A Z Ab b a (H.takeSt (H.takeSt s (A : Nat)) (3 * (Z : Nat))) := by
  have C := H.take_any (h.made zo) (by omega) iv.ok (A : Nat)
  have iv2 := iv.take (A : Nat)
  have C2 := fun W v' (h' : H.Hp (fun g => No g ∨ g = w.heap.size) W S hb (c + 1) v' (H.takeSt s (A : Nat))) => H.take_any h' (by omega) iv2.ok (3 * (Z : Nat))
  rw [he2] at C2
  rw [he] at C
  have CN := fun W => new_any Z W hZ
  have hZ2 := hZ.le
  have m1 := make_vals A hA
  have HN : Hid (¬ No w.heap.size) := fun q => Nat.lt_irrefl _ (h.nos _ q)
  have HR : Hid (R4 (w.alloc zo) w.heap.size (.slice none 0 0) (.pointer none) (.int .i64 0) (.int .i64 0)) := R4.made _ _ _ _ _ _
  have HK0 : Hid (Keep No w (w.alloc zo)) := (Keep.refl No w).alloc zo
  have hw : IntKind.i64.wrap (3 * (Z : Int)) = 3 * (Z : Int) := by rw [IntKind.wrap_i64]; omega
  generalize H.takeId s (A : Nat) = I at *
  generalize H.takeId (H.takeSt s (A : Nat)) (3 * (Z : Nat)) = I2 at *
  generalize H.takeSt (H.takeSt s (A : Nat)) (3 * (Z : Nat)) = s3 at *
  generalize H.takeSt s (A : Nat) = s2 at *
  clear h iv iv2 he he2
  unfold zo at *
  generalize hsz : w.heap.size = N at *
  obtain ⟨W0, hW0⟩ : ∃ W0, w.alloc (.cells #[.slice none 0 0, .pointer none, .int .i64 0, .int .i64 0] 128) = W0 := ⟨_, rfl⟩
  rw [hW0] at C HR HK0
  go_enter Tryz.func100, Tryz.ntmps100
  go_wp2_with fail
  refine C.mono ?_; rintro e W1 ⟨rfl, ⟨v1, hp⟩, hkk⟩
  have CC := C2 W1 v1 hp
  have HR1 : Hid _ := HR.out.kept (kh hkk) (.inr rfl)
  have HK1 : Hid _ := HK0.out.trans ((kh hkk).sub (No' := No) fun g q => .inl q)
  clear C C2 hp hkk HR HK0
  go_wp2_with fail
  refine CC.mono ?_; rintro e W2 ⟨rfl, ⟨v2, hp⟩, hkk⟩
  have CD := CN W2
  have HR2 : Hid _ := HR1.out.kept (kh hkk) (.inr rfl)
  have HK2 : Hid _ := HK1.out.trans ((kh hkk).sub (No' := No) fun g q => .inl q)
  have HP2 : Hid _ := hp
  clear CC hp hkk HR1 HK1 CN
  unfold pp at CD
  go_wp2_with fail
  refine CD.mono ?_; rintro e W3 ⟨rfl, hW3⟩
  have HW3 : Hid _ := hW3
  have HBn : Hid (Below W2.heap.size W2 W3) := by rw [hW3]; exact newW_below _ _
  have HPt : Hid (Pt W3 (W2.heap.size + 1) W2.heap.size Z (g0 Z)) := by rw [hW3]; exact newW_pt _ _
  obtain ⟨zz, hzz⟩ : ∃ zz, zeros3 A = zz := ⟨_, rfl⟩
  obtain ⟨W4, hW4⟩ : ∃ W4, W3.alloc (.cells zz 37) = W4 := ⟨_, rfl⟩
  have HB4 : Hid (Below W3.heap.size W3 W4) := by rw [← hW4]; exact b1 _ _
  have HA4 : Hid (W4.heap[W3.heap.size]? = some (.cells (zeros3 A) 37)) := by rw [hzz, ← hW4]; exact (MapKept.heap_alloc W3 _).1
  have HF4 : Hid (∀ j, W4.frozen? ⟨W3.heap.size, j, none⟩ = false) := by rw [← hW4]; exact fun j => new_free W3 _ _ j
  have HZ4 : Hid (W3.heap.size < W4.heap.size) := by show _ < _; rw [← hW4]; simp
  rw [hzz] at m1
  have HBB : Hid (Below W2.heap.size W2 W4) := bthen HBn.out HBn.out.size HB4.out
  have R1 := HR2.out.below HBB.out
  have HPN : Hid _ := Hp.set4 (Hp.news HP2.out HBB.out) (N := N) (.inl (.inr rfl)) (.slice (some ⟨W3.heap.size, 0, none⟩) A A) (.pointer (some ⟨W2.heap.size + 1, 0, none⟩)) (.int .i64 I) (.int .i64 I2)
  have HK : Hid _ := Keep.set4 (HK2.out.bel HBB.out) HN.out (.slice (some ⟨W3.heap.size, 0, none⟩) A A) (.pointer (some ⟨W2.heap.size + 1, 0, none⟩)) (.int .i64 I) (.int .i64 I2)
  have HKL : Hid _ := Keep.set4 (Keep.refl (fun x => x ≠ N) W4) (N := N) (fun q => q rfl) (.slice (some ⟨W3.heap.size, 0, none⟩) A A) (.pointer (some ⟨W2.heap.size + 1, 0, none⟩)) (.int .i64 I) (.int .i64 I2)
  have R2 : Hid _ := R1.set (.slice (some ⟨W3.heap.size, 0, none⟩) A A) (.pointer (some ⟨W2.heap.size + 1, 0, none⟩)) (.int .i64 I) (.int .i64 I2)
  obtain ⟨W5, hW5⟩ : ∃ W5, set4 W4 N (.slice (some ⟨W3.heap.size, 0, none⟩) A A) (.pointer (some ⟨W2.heap.size + 1, 0, none⟩)) (.int .i64 I) (.int .i64 I2) = W5 := ⟨_, rfl⟩
  rw [hW5] at HPN HK R2 HKL
  unfold set4 at hW5
  have HL2 : Hid (N < W2.heap.size) := HR2.out.lt
  have r0 := R1.c0
  have r1 := R1.c1
  have r2 := R1.c2
  have r3 := R1.c3
  have rf := R1.fz
  clear CD hW3 R1 HR2
  go_wp2_with fail
  have R3 := R2.out
  have t0 := R3.c0
  have t1 := R3.c1
  have t2 := R3.c2
  have t3 := R3.c3
  clear R3
  refine bodyPost_ret (v := .tuple #[.agg #[.slice (some ⟨W3.heap.size, 0, none⟩) A A, .pointer (some ⟨W2.heap.size + 1, 0, none⟩), .int .i64 I, .int .i64 I2], .int .i64 0]) (by simp [results, Tryz.results100, go_sem, t0, t1, t2, t3]) rfl ⟨W3.heap.size, W2.heap.size + 1, W2.heap.size, rfl, ?_⟩
  exact tk_of HPN.out HK.out HKL.out HA4.out HF4.out HPt.out HB4.out HK2.out HL2.out HZ4.out
end Go.Proofs.YtpmmploedkbeoaaGreatDoor

/- The walk of sizesWith: the keys that are present, and a new one, are counted. -/
namespace Go.Proofs.YtpmmploedkbeoaaGreatDoor
open Go.RowKit

/-- What the closure keeps: the Ints in a list of its own, the number of the others. -/
structure Cw (W : World) (N : Nat) (l : List V) : Prop where
  ci : ∃ v, W.cell? ⟨N, 0, none⟩ = some v ∧ W.ownsRow (N + 2) 3 1 v (ints l).length ((ints l).map (Value.int .i64))
  co : W.cell? ⟨N + 1, 0, none⟩ = some (.int .i64 (oth l : Nat))
  fi : ∀ j, W.frozen? ⟨N, j, none⟩ = false
  fo : ∀ j, W.frozen? ⟨N + 1, j, none⟩ = false
  lt : N + 2 ≤ W.heap.size
theorem slice_shape {w : World} {base : Nat} {e : TypeId} {size : Nat} {v : Value} {n : Nat} {xs : List Value} (h : w.ownsRow base e size v n xs) : ∃ a c, v = .slice a n c := by
  rcases h.2 with ⟨rfl, rfl⟩ | ⟨g, cap, cur, rfl, _⟩
  · exact ⟨_, _, rfl⟩
  · exact ⟨_, _, rfl⟩
theorem Cw.below {W W' : World} {N : Nat} {l : List V} (h : Cw W N l) (k : Below W.heap.size W W') : Cw W' N l := by
  obtain ⟨⟨v, h1, h2⟩, h3, h4, h5, h6⟩ := h
  have e1 := k.block N (by omega)
  have e2 := k.block (N + 1) (by omega)
  exact ⟨⟨v, by rw [World.cell?_of_block (w := W) e1]; exact h1, h2.kept ⟨k.os, k.tape, k.output, k.size, fun i hi _ => k.block i hi⟩ (row := none) (by cases v.ownBlock <;> simp)⟩, by rw [World.cell?_of_block (w := W) e2]; exact h3,
    fun j => by rw [World.frozen?_of_block (w := W) e1]; exact h4 j, fun j => by rw [World.frozen?_of_block (w := W) e2]; exact h5 j, Nat.le_trans h6 k.size⟩

theorem enters61 : ∀ args w, (callFunc 146 args).run Tryz.prog w = .ok (.enter 146 args) w := enters_of Tryz.func146 (by kernel_rfl) rfl
theorem info3 : (Tryz.prog.info? 3).map (fun i => (i.zero, i.size, i.bytes)) = some (some (.int .i64 0), 1, 8) := by kernel_rfl

theorem Cw.pay {W W' : World} {N : Nat} {l l' : List V} {v v' : Value} (h : Cw W N l) (hc : W.cell? ⟨N, 0, none⟩ = some v) (hown : W.ownsRow (N + 2) 3 1 v (ints l).length ((ints l).map (Value.int .i64)))
    (hg : W.grownBy W' v.ownBlock) (hown' : W'.ownsRow (N + 2) 3 1 v' (ints l').length ((ints l').map (Value.int .i64))) (ho : oth l' = oth l) : Cw (W'.setCell ⟨N, 0, none⟩ v') N l' ∧ Below N W (W'.setCell ⟨N, 0, none⟩ v') := by
  have hn : ∀ g, v.ownBlock = some g → N + 2 ≤ g := fun g e => (hown.lt g e).1
  have hn' : ∀ g, v'.ownBlock = some g → N + 2 ≤ g := fun g e => (hown'.lt g e).1
  have e1 := hg.block N (by have := h.lt; omega) (fun e => by have := hn N e.symm; omega)
  have e2 := hg.block (N + 1) (by have := h.lt; omega) (fun e => by have := hn (N + 1) e.symm; omega)
  have c1 : W'.cell? ⟨N, 0, none⟩ = some v := by rw [World.cell?_of_block (w := W) e1]; exact hc
  refine ⟨⟨⟨v', World.cell?_setCell_same _ _ _ c1, ?_⟩, ?_, fun j => ?_, fun j => ?_, ?_⟩, ?_⟩
  · refine hown'.kept (row := some N) ⟨rfl, rfl, rfl, by simp [World.setCell], fun k _ hk => Below.heap_setCell _ _ _ _ (fun e => hk (by simp [e]))⟩ (.inr fun e => ?_)
    have := hn' N e; omega
  · rw [World.cell?_setCell_other _ _ _ _ (fun q => by injection q with q1 _; omega), World.cell?_of_block (w := W) e2, ho]; exact h.co
  · rw [show (W'.setCell ⟨N, 0, none⟩ v').frozen? ⟨N, j, none⟩ = W'.frozen? ⟨N, j, none⟩ by simp, World.frozen?_of_block (w := W) e1]; exact h.fi j
  · rw [show (W'.setCell ⟨N, 0, none⟩ v').frozen? ⟨N + 1, j, none⟩ = W'.frozen? ⟨N + 1, j, none⟩ by simp, World.frozen?_of_block (w := W) e2]; exact h.fo j
  · have := h.lt; have := hg.size; simp [World.setCell]; omega
  · refine ⟨hg.os, hg.tape, hg.output, by have := hg.size; simp [World.setCell]; omega, fun g hgN => ?_⟩
    rw [Below.heap_setCell _ _ _ _ (by show g ≠ N; omega)]
    exact hg.block g (by have := h.lt; omega) (fun e => by have := hn g e.symm; omega)
theorem Cw.inc {W : World} {N : Nat} {l l' : List V} (h : Cw W N l) (hi : ints l' = ints l) (ho : oth l' = oth l + 1) : Cw (W.setCell ⟨N + 1, 0, none⟩ (.int .i64 ((oth l : Int) + 1))) N l' ∧ Below N W (W.setCell ⟨N + 1, 0, none⟩ (.int .i64 ((oth l : Int) + 1))) := by
  obtain ⟨⟨v, h1, h2⟩, h3, h4, h5, h6⟩ := h
  have hn : ∀ g, v.ownBlock = some g → N + 2 ≤ g := fun g e => (h2.lt g e).1
  refine ⟨⟨⟨v, ?_, ?_⟩, ?_, fun j => ?_, fun j => ?_, ?_⟩, ?_⟩
  · rw [World.cell?_setCell_other _ _ _ _ (fun q => by injection q with q1 _; omega)]; exact h1
  · rw [hi]
    refine h2.kept (row := some (N + 1)) ⟨rfl, rfl, rfl, by simp [World.setCell], fun k _ hk => Below.heap_setCell _ _ _ _ (fun e => hk (by simp [e]))⟩ (.inr fun e => ?_)
    have := hn (N + 1) e; omega
  · rw [ho]; exact World.cell?_setCell_same _ _ _ h3
  · rw [show (W.setCell ⟨N + 1, 0, none⟩ (.int .i64 ((oth l : Int) + 1))).frozen? ⟨N, j, none⟩ = W.frozen? ⟨N, j, none⟩ by simp]; exact h4 j
  · rw [show (W.setCell ⟨N + 1, 0, none⟩ (.int .i64 ((oth l : Int) + 1))).frozen? ⟨N + 1, j, none⟩ = W.frozen? ⟨N + 1, j, none⟩ by simp]; exact h5 j
  · simpa [World.setCell] using h6
  · exact ⟨rfl, rfl, rfl, by simp [World.setCell], fun g hgN => Below.heap_setCell _ _ _ _ (by show g ≠ N + 1; omega)⟩

set_option maxRecDepth 20000 in
set_option maxHeartbeats 2000000 in
theorem count_any (N : Nat) (W : World) (l : List V) (k : V) (h : Cw W N l) (hl : l.length ≤ 200000) :
    Calls Tryz.prog 146 #[vv k, .pointer (some ⟨N, 0, none⟩), .pointer (some ⟨N + 1, 0, none⟩)] W fun e W' => e = .returned (.tuple #[]) ∧ Cw W' N (l ++ [k]) ∧ Below N W W' := by
  have hln := ints_len l
  obtain ⟨k0, k1, k2⟩ := k
  have X := Bx.made W (k0, k1, k2)
  have h0 := h.below (b1 W (vb k0 k1 k2))
  have HB0 : Hid (Below N W (W.alloc (vb k0 k1 k2))) := (b1 W (vb k0 k1 k2)).mono (by have := h.lt; omega)
  obtain ⟨W0, hW0⟩ : ∃ W0, W.alloc (vb k0 k1 k2) = W0 := ⟨_, rfl⟩
  simp only at X h0
  rw [hW0] at X h0 HB0
  unfold vb at hW0
  unfold vv vl
  simp only
  have x0 := X.c0
  have x1 := X.c1
  have x2 := X.c2
  simp only at x0 x1 x2
  by_cases hk : k0 = 2
  · subst hk
    have e1 : ints (l ++ [(2, k1, k2)]) = ints l ++ [k1] := by rw [ints_app]; simp [ints]
    have e2 : oth (l ++ [(2, k1, k2)]) = oth l := by rw [oth_app]; simp [oth]
    obtain ⟨⟨v, h1, h2⟩, h3, h4, h5, h6⟩ := h0.below (b1 W0 (.cells #[.int .i64 k1] 3))
    obtain ⟨a0, c0, rfl⟩ := slice_shape h2
    obtain ⟨j0, hji, hz0, hz1, hz2⟩ := info_parts info3
    obtain ⟨g2, cap3, w6, hr, hown, hgr, hat, hlt6⟩ := run_append_lies (P := Tryz.prog) (W0.alloc (.cells #[.int .i64 k1] 3)) 170 170 (N + 2) 3 j0 (.int .i64 0) 1 8 Tryz.underlying170 hji hz0 hz1 hz2 rfl (by omega) _ _ _ h2 ⟨W0.heap.size, 0, none⟩ 1 1 [.int .i64 k1] rfl
      (World.news_of_block (cs := #[.int .i64 k1]) (t := 3) (fr := (0, 0)) (MapKept.heap_alloc W0 _).1) (by intro u hu; simp at hu; rw [hu]; rfl) (by omega) (by simp only [maxLen]; omega) (by omega) h6 _ rfl
    have hpay := Cw.pay (l' := l ++ [(2, k1, k2)]) ⟨⟨_, h1, h2⟩, h3, h4, h5, h6⟩ h1 h2 hgr (by rw [e1]; simpa using hown) e2
    have HP : Hid _ := hpay
    have HB1 : Hid (Below N W0 (W0.alloc (.cells #[.int .i64 k1] 3))) := (b1 W0 _).mono (by have := h0.lt; omega)
    have f1 := h4 0
    have c1' : w6.cell? ⟨N, 0, none⟩ = some (.slice a0 (ints l).length c0) := by
      rw [World.cell?_of_block (w := W0.alloc (.cells #[.int .i64 k1] 3)) (hgr.block N (by omega) (fun e => by have := (h2.lt N e.symm).1; omega))]; exact h1
    have f1' : w6.frozen? ⟨N, 0, none⟩ = false := by
      rw [World.frozen?_of_block (w := W0.alloc (.cells #[.int .i64 k1] 3)) (hgr.block N (by omega) (fun e => by have := (h2.lt N e.symm).1; omega))]; exact f1
    have hlt0 := h0.lt
    obtain ⟨⟨v0, y1, _⟩, _⟩ := h0
    have hv0 : v0 = .slice a0 (ints l).length c0 := by
      have : (W0.alloc (.cells #[.int .i64 k1] 3)).cell? ⟨N, 0, none⟩ = some v0 := by
        rw [World.cell?_of_block (w := W0) (Below.heap_alloc W0 _ N (by omega))]; exact y1
      rw [h1] at this
      injection this with this
      exact this.symm
    subst hv0
    clear h h1 h2 h3 h4 h5 h6 hlt0 hown hgr hat hlt6 hpay e1 e2 hl hln X
    go_enter Tryz.func146, Tryz.ntmps146
    go_wp2_with (at_builtin; refine wp_app rfl _ _ 170 rfl 170 rfl _ _ rfl rfl hr ?_)
    go_end0
    exact ⟨rfl, HP.out.1, HB0.out.trans (HB1.out.trans HP.out.2)⟩
  · have e1 : ints (l ++ [(k0, k1, k2)]) = ints l := by rw [ints_app]; simp [ints, hk]
    have e2 : oth (l ++ [(k0, k1, k2)]) = oth l + 1 := by rw [oth_app]; simp [oth, hk]
    have HP : Hid _ := h0.inc e1 e2
    have c1 := h0.co
    have f1 := h0.fo 0
    have hw : IntKind.i64.wrap ((oth l : Int) + 1) = (oth l : Int) + 1 := by rw [IntKind.wrap_i64]; omega
    have hkb : (k0 == 2) = false := by simp [hk]
    clear h h0 e1 e2 hl X hln
    generalize oth l = q at *
    go_enter Tryz.func146, Tryz.ntmps146
    go_wp2_with fail
    go_end0
    exact ⟨rfl, HP.out.1, HB0.out.trans HP.out.2⟩
end Go.Proofs.YtpmmploedkbeoaaGreatDoor

/- The pure part of a table, on: what a rehash's stores come to; who is present behind it. -/
namespace Go.Proofs.YtpmmploedkbeoaaGreatDoor
open Go.RowKit

/-- The stores of a rehash, as a list. -/
def sA (F : Nat → V) (s : Nat) : Nat → List (V × V)
  | 0 => []
  | m + 1 => sA F s m ++ (if (F (s + m)).1 = 0 then [] else [(kn (((s + m : Nat) : Int) + 1), F (s + m))])
def sH (g : G) (z : Nat) : Nat → List (V × V)
  | 0 => []
  | m + 1 => sH g z m ++ (if (g.X (z - 1 - m)).1 = 0 then [] else [(g.K (z - 1 - m), g.X (z - 1 - m))])
def sets (p : Pa) (l : List (V × V)) : Pa := l.foldl (fun p q => (pset p q.1 q.2).1) p
theorem sets_app (p : Pa) (l m : List (V × V)) : sets p (l ++ m) = sets (sets p l) m := by simp [sets]
theorem flA_sets (old : Pa) (s : Nat) (p : Pa) (m : Nat) : flA old s p m = sets p (sA old.F s m) := by
  induction m with
  | zero => rfl
  | succ m ih =>
    rw [flA, sA, sets_app, ← ih, stp]
    split
    · rfl
    · rfl
theorem flH_sets (old p : Pa) (m : Nat) : flH old p m = sets p (sH old.g old.z m) := by
  induction m with
  | zero => rfl
  | succ m ih =>
    rw [flH, sH, sets_app, ← ih, stp]
    split
    · rfl
    · rfl
theorem mem_sA {F : Nat → V} {s m : Nat} {q : V × V} : q ∈ sA F s m ↔ ∃ i, s ≤ i ∧ i < s + m ∧ (F i).1 ≠ 0 ∧ q = (kn ((i : Int) + 1), F i) := by
  induction m with
  | zero => simp only [sA, List.not_mem_nil, false_iff]; rintro ⟨i, h1, h2, _⟩; omega
  | succ m ih =>
    rw [sA, List.mem_append, ih]
    constructor
    · rintro (⟨i, h1, h2, h3, h4⟩ | h)
      · exact ⟨i, h1, by omega, h3, h4⟩
      · split at h
        · cases h
        · exact ⟨s + m, by omega, by omega, by assumption, by simpa using h⟩
    · rintro ⟨i, h1, h2, h3, h4⟩
      by_cases e : i = s + m
      · subst e; right; rw [if_neg h3, h4]; simp
      · exact .inl ⟨i, h1, by omega, h3, h4⟩
theorem mem_sH {g : G} {z m : Nat} (hm : m ≤ z) {q : V × V} : q ∈ sH g z m ↔ ∃ i, z - m ≤ i ∧ i < z ∧ (g.X i).1 ≠ 0 ∧ q = (g.K i, g.X i) := by
  induction m with
  | zero => simp only [sH, List.not_mem_nil, false_iff]; rintro ⟨i, h1, h2, _⟩; omega
  | succ m ih =>
    rw [sH, List.mem_append, ih (by omega)]
    constructor
    · rintro (⟨i, h1, h2, h3, h4⟩ | h)
      · exact ⟨i, by omega, h2, h3, h4⟩
      · split at h
        · cases h
        · exact ⟨z - 1 - m, by omega, by omega, by assumption, by simpa using h⟩
    · rintro ⟨i, h1, h2, h3, h4⟩
      by_cases e : i = z - 1 - m
      · right; rw [← e, if_neg h3, h4]; simp
      · exact .inl ⟨i, by omega, h2, h3, h4⟩
theorem nd_sA (F : Nat → V) (s m : Nat) : ((sA F s m).map (·.1)).Nodup := by
  induction m with
  | zero => simp [sA]
  | succ m ih =>
    rw [sA, List.map_append, List.nodup_append]
    refine ⟨ih, by split <;> simp, fun a ha b hb e => ?_⟩
    split at hb
    · cases hb
    · subst e
      obtain ⟨q, hq, rfl⟩ := List.mem_map.1 ha
      obtain ⟨i, h1, h2, _, rfl⟩ := mem_sA.1 hq
      simp at hb
      omega
theorem nd_sH {z : Nat} {g : G} (hx : ∀ i j, i < z → j < z → (g.X i).1 ≠ 0 → g.K i = g.K j → i = j) (m : Nat) (hm : m ≤ z) : ((sH g z m).map (·.1)).Nodup := by
  induction m with
  | zero => simp [sH]
  | succ m ih =>
    rw [sH, List.map_append, List.nodup_append]
    refine ⟨ih (by omega), by split <;> simp, fun a ha b hb e => ?_⟩
    split at hb
    · cases hb
    · subst e
      obtain ⟨q, hq, rfl⟩ := List.mem_map.1 ha
      obtain ⟨i, h1, h2, h3, rfl⟩ := (mem_sH (by omega)).1 hq
      simp at hb
      have := hx i (z - 1 - m) h2 (by omega) h3 hb
      omega

def outs (n : Nat) (l : List (V × V)) : Nat := l.countP fun q => decide (¬ inA n q.1)
/-- Stores of keys that are new, where there is room: none is refused. -/
theorem sets_ok (l : List (V × V)) {p : Pa} (h : TI p) (hk : ∀ q, q ∈ l → KOK q.1 ∧ fm q.2 = true ∧ q.2.1 ≠ 0) (hn : (l.map (·.1)).Nodup)
    (hnew : ∀ q, q ∈ l → ¬ inA p.n q.1 → ∀ i, i < p.z → p.g.K i ≠ q.1) (hroom : held p.g p.z + outs p.n l ≤ p.z) :
    TI (sets p l) ∧ (sets p l).n = p.n ∧ (sets p l).z = p.z ∧ held (sets p l).g p.z = held p.g p.z + outs p.n l ∧ (∀ k v, (k, v) ∈ l → pget (sets p l) k = v) ∧ (∀ k, KOK k → (∀ v, (k, v) ∉ l) → pget (sets p l) k = pget p k) ∧
      ∀ i, i < p.z → (sets p l).g.K i = nil ∨ (∃ j, j < p.z ∧ (sets p l).g.K i = p.g.K j) ∨ ∃ q, q ∈ l ∧ (sets p l).g.K i = q.1 := by
  induction l generalizing p with
  | nil => exact ⟨h, rfl, rfl, by simp [outs, sets], fun _ _ h => (by cases h), fun _ _ _ => rfl, fun i hi => .inr (.inl ⟨i, hi, rfl⟩)⟩
  | cons q l ih =>
    obtain ⟨hko, hfv, hv0⟩ := hk q (by simp)
    have hrng : Rng q.1 := ⟨hko.2.2.1, hko.2.2.2⟩
    rw [List.map_cons, List.nodup_cons] at hn
    have hT := h.set hrng hfv
    obtain ⟨en, ez⟩ := pset_nz p q.1 q.2
    have hne : ∀ q', q' ∈ l → q'.1 ≠ q.1 := fun q' hq' e => hn.1 (List.mem_map.2 ⟨q', hq', e⟩)
    have key : (pset p q.1 q.2).2.2 = 0 ∧ held (pset p q.1 q.2).1.g p.z + outs p.n l = held p.g p.z + outs p.n (q :: l) ∧ ∀ i, i < p.z → (pset p q.1 q.2).1.g.K i = q.1 ∨ (pset p q.1 q.2).1.g.K i = nil ∨ ∃ j, j < p.z ∧ (pset p q.1 q.2).1.g.K i = p.g.K j := by
      unfold pset
      by_cases hA : inA p.n q.1
      · rw [if_pos hA]
        exact ⟨rfl, by simp [outs, hA], fun i hi => .inr (.inr ⟨i, hi, rfl⟩)⟩
      · rw [if_neg hA]
        have eo : outs p.n (q :: l) = outs p.n l + 1 := by simp [outs, hA]
        have hz : pw p.z = true := h.rt.resolve_left (by omega)
        obtain ⟨k1, k2, k3⟩ := put_new h.inv hz hko hfv hv0 (hnew q (by simp) hA) (by omega)
        exact ⟨k1, by show held (put p.z p.g q.1 q.2).1 p.z + _ = _; omega, k3⟩
    obtain ⟨k1, k2, k3⟩ := key
    obtain ⟨m1, m2⟩ := h.map hko k1
    have ih' := ih (p := (pset p q.1 q.2).1) hT (fun q' hq' => hk q' (by simp [hq'])) hn.2 (fun q' hq' hA i hi e => by
      rw [en] at hA
      rw [ez] at hi
      rcases k3 i hi with e2 | e2 | ⟨j, hj, e2⟩
      · exact hne q' hq' (e ▸ e2)
      · exact (hk q' (by simp [hq'])).1.ne (e ▸ e2)
      · exact hnew q' (by simp [hq']) hA j hj (e2 ▸ e)) (by rw [en, ez]; omega)
    rw [en, ez] at ih'
    obtain ⟨i1, i2, i3, i4, i5, i6, i7⟩ := ih'
    have es : sets p (q :: l) = sets (pset p q.1 q.2).1 l := rfl
    rw [es]
    refine ⟨i1, i2, i3, by rw [i4]; exact k2, fun k v hkv => ?_, fun k hk' hnot => ?_, fun i hi => ?_⟩
    · rcases List.mem_cons.1 hkv with e | e
      · subst e
        rw [i6 k hko (fun v' hv' => hne (k, v') hv' rfl)]
        exact m1
      · exact i5 k v e
    · rw [i6 k hk' (fun v hv => hnot v (by simp [hv]))]
      exact m2 k hk' (fun e => hnot q.2 (by rw [e]; simp))
    · rcases i7 i hi with e | ⟨j, hj, e⟩ | ⟨q', hq', e⟩
      · exact .inl e
      · rcases k3 j hj with e2 | e2 | ⟨j', hj', e2⟩
        · exact .inr (.inr ⟨q, by simp, e.trans e2⟩)
        · exact .inl (e.trans e2)
        · exact .inr (.inl ⟨j', hj', e.trans e2⟩)
      · exact .inr (.inr ⟨q', by simp [hq'], e⟩)

/-- Who is present. -/
theorem mem_kA {F : Nat → V} {n : Nat} {k : V} : k ∈ kA F n ↔ ∃ i, i < n ∧ (F i).1 ≠ 0 ∧ k = kn ((i : Int) + 1) := by
  induction n with
  | zero => simp [kA]
  | succ n ih =>
    rw [kA, List.mem_append, ih]
    constructor
    · rintro (⟨i, h1, h2, h3⟩ | h)
      · exact ⟨i, by omega, h2, h3⟩
      · split at h
        · cases h
        · exact ⟨n, by omega, by assumption, by simpa using h⟩
    · rintro ⟨i, h1, h2, h3⟩
      by_cases e : i = n
      · subst e; right; rw [if_neg h2, h3]; simp
      · exact .inl ⟨i, by omega, h2, h3⟩
theorem mem_kH {g : G} {n : Nat} {k : V} : k ∈ kH g n ↔ ∃ i, i < n ∧ (g.X i).1 ≠ 0 ∧ k = g.K i := by
  induction n with
  | zero => simp [kH]
  | succ n ih =>
    rw [kH, List.mem_append, ih]
    constructor
    · rintro (⟨i, h1, h2, h3⟩ | h)
      · exact ⟨i, by omega, h2, h3⟩
      · split at h
        · cases h
        · exact ⟨n, by omega, by assumption, by simpa using h⟩
    · rintro ⟨i, h1, h2, h3⟩
      by_cases e : i = n
      · subst e; right; rw [if_neg h2, h3]; simp
      · exact .inl ⟨i, by omega, h2, h3⟩
theorem TI.live {p : Pa} (h : TI p) {i : Nat} (hi : i < p.z) (hx : (p.g.X i).1 ≠ 0) : p.g.K i ≠ nil ∧ KOK (p.g.K i) := by
  have : p.g.K i ≠ nil := fun e => hx (by rw [h.inv.val i hi e]; rfl)
  exact ⟨this, (h.inv.key i hi).resolve_left this⟩
theorem TI.pw {p : Pa} (h : TI p) {i : Nat} (hi : i < p.z) : Proofs.YtpmmploedkbeoaaGreatDoor.pw p.z = true := h.rt.resolve_left (by omega)
theorem TI.get_node {p : Pa} (h : TI p) {i : Nat} (hi : i < p.z) (hn : p.g.K i ≠ nil) : pget p (p.g.K i) = p.g.X i := by
  rw [pget, if_neg (h.out i hi)]
  exact mg_held h.inv (h.pw hi) ((h.inv.key i hi).resolve_left hn) hi rfl
theorem TI.get_slot {p : Pa} (_ : TI p) {i : Nat} (hi : i < p.n) : pget p (kn ((i : Int) + 1)) = p.F i := by
  rw [pget, if_pos (inA_kn.2 hi), ix_kn]
/-- The value of a key outside the array part lies at its node. -/
theorem TI.get_out {p : Pa} (h : TI p) {k : V} (hk : KOK k) (hA : ¬ inA p.n k) : (∃ i, i < p.z ∧ p.g.K i = k ∧ pget p k = p.g.X i) ∨ ((∀ i, i < p.z → p.g.K i ≠ k) ∧ pget p k = nil) := by
  by_cases q : ∃ i, i < p.z ∧ p.g.K i = k
  · obtain ⟨i, hi, e⟩ := q
    exact .inl ⟨i, hi, e, by rw [← e]; exact h.get_node hi (by rw [e]; exact hk.ne)⟩
  · have hn : ∀ i, i < p.z → p.g.K i ≠ k := fun i hi e => q ⟨i, hi, e⟩
    refine .inr ⟨hn, ?_⟩
    rw [pget, if_neg hA]
    rcases h.rt with hz | hz
    · rw [mg, fnd, if_pos (Or.inl hz)]; rfl
    · exact mg_not h.inv hz hk hn
theorem TI.mem_pres {p : Pa} (h : TI p) {k : V} : k ∈ pres p ↔ KOK k ∧ (pget p k).1 ≠ 0 := by
  rw [pres, List.mem_append, mem_kA, mem_kH]
  constructor
  · rintro (⟨i, h1, h2, rfl⟩ | ⟨i, h1, h2, rfl⟩)
    · exact ⟨KOK_kn h1 h.le, by rw [h.get_slot h1]; exact h2⟩
    · obtain ⟨a, b⟩ := h.live h1 h2
      exact ⟨b, by rw [h.get_node h1 a]; exact h2⟩
  · rintro ⟨hk, hv⟩
    by_cases hA : inA p.n k
    · obtain ⟨h1, h2⟩ := inA_ix hA
      refine .inl ⟨ix k, h1, ?_, h2⟩
      rw [pget, if_pos hA] at hv
      exact hv
    · rcases h.get_out hk hA with ⟨i, hi, e, e2⟩ | ⟨_, e2⟩
      · exact .inr ⟨i, hi, by rw [← e2]; exact hv, e.symm⟩
      · rw [e2] at hv; exact absurd rfl hv
theorem nd_kA (F : Nat → V) (n : Nat) : (kA F n).Nodup := by
  induction n with
  | zero => simp [kA]
  | succ n ih =>
    rw [kA, List.nodup_append]
    refine ⟨ih, by split <;> simp, fun a ha b hb e => ?_⟩
    split at hb
    · cases hb
    · subst e
      obtain ⟨i, h1, h2, rfl⟩ := mem_kA.1 ha
      simp at hb
      omega
theorem TI.pres_nd {p : Pa} (h : TI p) : (pres p).Nodup := by
  rw [pres, List.nodup_append]
  refine ⟨nd_kA _ _, ?_, fun a ha b hb e => ?_⟩
  · have : ∀ n, n ≤ p.z → (kH p.g n).Nodup := fun n => by
      induction n with
      | zero => intro _; simp [kH]
      | succ n ih =>
        intro hn
        rw [kH, List.nodup_append]
        refine ⟨ih (by omega), by split <;> simp, fun a ha b hb e => ?_⟩
        split at hb
        · cases hb
        · subst e
          obtain ⟨i, h1, h2, rfl⟩ := mem_kH.1 ha
          simp at hb
          have := h.inv.one i n (by omega) (by omega) (h.live (by omega) h2).1 hb
          omega
    exact this _ (Nat.le_refl _)
  · subst e
    obtain ⟨i, h1, h2, rfl⟩ := mem_kA.1 ha
    obtain ⟨j, h3, h4, e⟩ := mem_kH.1 hb
    exact h.out j h3 (by rw [← e]; exact inA_kn.2 h1)
end Go.Proofs.YtpmmploedkbeoaaGreatDoor

/- The pure part of a table, on: the new parts of a rehash hold what the old ones held. -/
namespace Go.Proofs.YtpmmploedkbeoaaGreatDoor
open Go.RowKit

def outK (A : Nat) (l : List V) : Nat := l.countP fun k => decide (¬ inA A k)
theorem outK_app (A : Nat) (l m : List V) : outK A (l ++ m) = outK A l + outK A m := by simp [outK]
theorem g0_held (z n : Nat) : held (g0 z) n = 0 := by
  unfold held
  have : (fun j => if (g0 z).K j = nil then 0 else 1) = fun _ : Nat => 0 := by funext j; rw [if_pos]; rfl
  rw [this, sumTo_zero]
theorem TI.cp0 {p : Pa} (h : TI p) {A Z : Nat} (hA : A ≤ 65536) (hZ : Rt Z) : TI (cpy p (fresh A Z)) := by
  have h0 := TI.fr0 hZ hA
  refine ⟨h0.inv, hZ, hA, fun i hi => ?_, h0.xv, h0.out⟩
  show fm (if i < min A p.n then p.F i else nil) = true
  split
  · exact h.fv i (by omega)
  · exact fm_nil
def lst (p : Pa) (A : Nat) : List (V × V) := sA p.F (min A p.n) (p.n - min A p.n) ++ sH p.g p.z p.z
theorem fill_lst (p : Pa) (A Z : Nat) : fill p (fresh A Z) = sets (cpy p (fresh A Z)) (lst p A) := by
  rw [lst, sets_app, ← flA_sets, ← flH_sets]; rfl
theorem mem_lst {p : Pa} {A : Nat} {q : V × V} : q ∈ lst p A ↔ (∃ i, A ≤ i ∧ i < p.n ∧ (p.F i).1 ≠ 0 ∧ q = (kn ((i : Int) + 1), p.F i)) ∨ ∃ i, i < p.z ∧ (p.g.X i).1 ≠ 0 ∧ q = (p.g.K i, p.g.X i) := by
  rw [lst, List.mem_append, mem_sA, mem_sH (Nat.le_refl _)]
  constructor
  · rintro (⟨i, h1, h2, h3, h4⟩ | ⟨i, h1, h2, h3, h4⟩)
    · exact .inl ⟨i, by omega, by omega, h3, h4⟩
    · exact .inr ⟨i, h2, h3, h4⟩
  · rintro (⟨i, h1, h2, h3, h4⟩ | ⟨i, h2, h3, h4⟩)
    · exact .inl ⟨i, by omega, by omega, h3, h4⟩
    · exact .inr ⟨i, by omega, h2, h3, h4⟩
theorem TI.lst_nd {p : Pa} (h : TI p) (A : Nat) : ((lst p A).map (·.1)).Nodup := by
  rw [lst, List.map_append, List.nodup_append]
  refine ⟨nd_sA _ _ _, nd_sH (fun i j hi hj hx e => h.inv.one i j hi hj (h.live hi hx).1 e) _ (Nat.le_refl _), fun a ha b hb e => ?_⟩
  subst e
  obtain ⟨q, hq, rfl⟩ := List.mem_map.1 ha
  obtain ⟨q', hq', e⟩ := List.mem_map.1 hb
  obtain ⟨i, h1, h2, h3, rfl⟩ := mem_sA.1 hq
  obtain ⟨j, h4, h5, h6, rfl⟩ := (mem_sH (Nat.le_refl _)).1 hq'
  exact h.out j h5 (by rw [show p.g.K j = kn ((i : Int) + 1) from e]; exact inA_kn.2 (by omega))
theorem TI.lst_out {p : Pa} (h : TI p) (A : Nat) : outs A (lst p A) = outK A (pres p) := by
  have e1 : outs A (lst p A) = outK A ((lst p A).map (·.1)) := by
    unfold outs outK
    rw [List.countP_map]
    rfl
  rw [e1]
  unfold outK
  rw [List.countP_eq_length_filter, List.countP_eq_length_filter]
  apply List.Perm.length_eq
  refine (List.perm_ext_iff_of_nodup ((h.lst_nd A).filter _) (h.pres_nd.filter _)).2 fun k => ?_
  simp only [List.mem_filter, decide_eq_true_eq, List.mem_map]
  rw [pres, List.mem_append, mem_kA, mem_kH]
  constructor
  · rintro ⟨⟨q, hq, rfl⟩, hA⟩
    refine ⟨?_, hA⟩
    rcases mem_lst.1 hq with ⟨i, h1, h2, h3, rfl⟩ | ⟨i, h2, h3, rfl⟩
    · exact .inl ⟨i, h2, h3, rfl⟩
    · exact .inr ⟨i, h2, h3, rfl⟩
  · rintro ⟨⟨i, h2, h3, rfl⟩ | ⟨i, h2, h3, rfl⟩, hA⟩
    · refine ⟨⟨(kn ((i : Int) + 1), p.F i), mem_lst.2 (.inl ⟨i, ?_, h2, h3, rfl⟩), rfl⟩, hA⟩
      rcases Nat.lt_or_ge i A with q | q
      · exact absurd (inA_kn.2 q) hA
      · exact q
    · exact ⟨⟨(p.g.K i, p.g.X i), mem_lst.2 (.inr ⟨i, h2, h3, rfl⟩), rfl⟩, hA⟩

/-- The new parts hold what the old ones held. -/
theorem TI.filled {p : Pa} (h : TI p) {A Z : Nat} (hA : A ≤ 65536) (hZ : Rt Z) (hroom : outK A (pres p) ≤ Z) :
    TI (fill p (fresh A Z)) ∧ (fill p (fresh A Z)).n = A ∧ (fill p (fresh A Z)).z = Z ∧ (∀ k, KOK k → pget (fill p (fresh A Z)) k = pget p k) ∧ held (fill p (fresh A Z)).g Z = outK A (pres p) ∧
      ∀ i, i < Z → (fill p (fresh A Z)).g.K i = nil ∨ (fill p (fresh A Z)).g.K i ∈ pres p := by
  have hc := h.cp0 hA hZ
  have hh : held (cpy p (fresh A Z)).g Z = 0 := g0_held Z Z
  have hK : ∀ i, (cpy p (fresh A Z)).g.K i = nil := fun _ => rfl
  have hlk : ∀ q, q ∈ lst p A → KOK q.1 ∧ fm q.2 = true ∧ q.2.1 ≠ 0 := fun q hq => by
    rcases mem_lst.1 hq with ⟨i, h1, h2, h3, rfl⟩ | ⟨i, h2, h3, rfl⟩
    · exact ⟨KOK_kn h2 h.le, h.fv i h2, h3⟩
    · exact ⟨(h.live h2 h3).2, h.xv i h2, h3⟩
  obtain ⟨i1, i2, i3, i4, i5, i6, i7⟩ := sets_ok (lst p A) hc hlk (h.lst_nd A) (fun q hq _ i _ e => (hlk q hq).1.ne (by rw [← e, hK])) (by
    show held (cpy p (fresh A Z)).g Z + outs A (lst p A) ≤ Z
    rw [hh, h.lst_out]; omega)
  rw [fill_lst]
  refine ⟨i1, i2, i3, fun k hk => ?_, by
    have : held (sets (cpy p (fresh A Z)) (lst p A)).g Z = held (cpy p (fresh A Z)).g Z + outs A (lst p A) := i4
    rw [this, hh, h.lst_out]; omega, fun i hi => ?_⟩
  · by_cases hin : ∃ v, (k, v) ∈ lst p A
    · obtain ⟨v, hv⟩ := hin
      rw [i5 k v hv]
      rcases mem_lst.1 hv with ⟨i, h1, h2, h3, e⟩ | ⟨i, h2, h3, e⟩
      · obtain ⟨rfl, rfl⟩ : k = _ ∧ v = _ := by simpa using e
        exact (h.get_slot h2).symm
      · obtain ⟨rfl, rfl⟩ : k = _ ∧ v = _ := by simpa using e
        exact (h.get_node h2 (h.live h2 h3).1).symm
    · rw [i6 k hk (fun v hv => hin ⟨v, hv⟩)]
      have em : ∀ k, ¬ inA A k → pget (cpy p (fresh A Z)) k = nil := fun k hq => by
        show (if inA A k then _ else mg Z (g0 Z) k) = nil
        rw [if_neg hq, mg]
        cases hf : fnd Z (g0 Z) k with
        | mk o n => cases o <;> rfl
      by_cases hp : inA p.n k
      · obtain ⟨q1, q2⟩ := inA_ix hp
        have e2 : pget p k = p.F (ix k) := by rw [pget, if_pos hp]
        rw [e2]
        by_cases hq : inA A k
        · obtain ⟨q3, _⟩ := inA_ix hq
          show (if inA A k then (if ix k < min A p.n then p.F (ix k) else nil) else _) = _
          rw [if_pos hq, if_pos (by omega)]
        · rw [em k hq]
          have hi' : A ≤ ix k := by
            rcases Nat.lt_or_ge (ix k) A with q | q
            · exact absurd (by rw [q2]; exact inA_kn.2 q) hq
            · exact q
          by_cases q0 : (p.F (ix k)).1 = 0
          · exact (form_nil (h.fv _ q1) q0).symm
          · exact absurd ⟨p.F (ix k), mem_lst.2 (.inl ⟨ix k, hi', q1, q0, by rw [← q2]⟩)⟩ hin
      · have e3 : pget (cpy p (fresh A Z)) k = nil := by
          by_cases hq : inA A k
          · obtain ⟨q3, q4⟩ := inA_ix hq
            show (if inA A k then (if ix k < min A p.n then p.F (ix k) else nil) else _) = _
            have : ¬ ix k < p.n := fun q => hp (by rw [q4]; exact inA_kn.2 q)
            rw [if_pos hq, if_neg (by omega)]
          · exact em k hq
        rw [e3]
        rcases h.get_out hk hp with ⟨i, hi, e, e2⟩ | ⟨_, e2⟩
        · rw [e2]
          by_cases q0 : (p.g.X i).1 = 0
          · exact (form_nil (h.xv i hi) q0).symm
          · exact absurd ⟨p.g.X i, mem_lst.2 (.inr ⟨i, hi, q0, by rw [e]⟩)⟩ hin
        · exact e2.symm
  · rcases i7 i hi with e | ⟨j, _, e⟩ | ⟨q, hq, e⟩
    · exact .inl e
    · exact .inl (e.trans (hK j))
    · right
      rw [e]
      rcases mem_lst.1 hq with ⟨i, h1, h2, h3, rfl⟩ | ⟨i, h2, h3, rfl⟩
      · exact List.mem_append.2 (.inl (mem_kA.2 ⟨i, h2, h3, rfl⟩))
      · exact List.mem_append.2 (.inr (mem_kH.2 ⟨i, h2, h3, rfl⟩))

theorem form_int {k : V} (hk : KOK k) (h2 : k.1 = 2) : k.2.2 = ⟨#[]⟩ := by
  obtain ⟨a, b, s⟩ := k
  have h := hk.1
  simp only at h h2
  subst h2
  simp only [inF] at h
  simp at h
  rw [ByteArray.toList_eq] at h
  obtain ⟨⟨l⟩⟩ := s
  simp at h
  subst h
  rfl
theorem ints_mem {l : List V} {x : Int} (h : x ∈ ints l) : ∃ k, k ∈ l ∧ k.1 = 2 ∧ k.2.1 = x := by
  obtain ⟨k, hk, e⟩ := List.mem_filterMap.1 h
  split at e
  · exact ⟨k, hk, by assumption, by simpa using e⟩
  · cases e
theorem ints_fit {l : List V} (h : ∀ k, k ∈ l → KOK k) : C.Fit (ints l) := by
  intro i hi
  have hm : (ints l).getD i 0 ∈ ints l := by rw [List.getD, List.getElem?_eq_getElem hi]; exact List.getElem_mem _
  obtain ⟨k, hk, _, e⟩ := ints_mem hm
  rw [← e]
  exact ⟨(h k hk).2.2.1, (h k hk).2.2.2⟩
theorem ints_nd {l : List V} (h : ∀ k, k ∈ l → KOK k) (hn : l.Nodup) : (ints l).Nodup := by
  induction l with
  | nil => simp [ints]
  | cons k l ih =>
    rw [List.nodup_cons] at hn
    have ih' := ih (fun k hk => h k (by simp [hk])) hn.2
    have e : ints (k :: l) = if k.1 = 2 then k.2.1 :: ints l else ints l := by
      unfold ints
      rw [List.filterMap_cons]
      by_cases q : k.1 = 2
      · rw [if_pos q, if_pos q]
      · rw [if_neg q, if_neg q]
    rw [e]
    split
    · rename_i q
      refine List.nodup_cons.2 ⟨fun hx => ?_, ih'⟩
      obtain ⟨k', hk', q1, q2⟩ := ints_mem hx
      have : k' = k := by
        have f1 := form_int (h k' (by simp [hk'])) q1
        have f2 := form_int (h k (by simp)) q
        obtain ⟨a, b, c⟩ := k
        obtain ⟨a', b', c'⟩ := k'
        simp only at q q1 q2 f1 f2
        rw [q, q1, q2, f1, f2]
      exact hn.1 (this ▸ hk')
    · exact ih'
/-- How many find no slot. -/
theorem outK_cnt (A : Nat) (l : List V) (h : ∀ k, k ∈ l → KOK k) : (outK A l : Int) = oth l + ((ints l).length : Int) - C.wi (ints l) A := by
  induction l with
  | nil => simp [outK, oth, ints, C.wi]
  | cons k l ih =>
    have ih' := ih (fun k hk => h k (by simp [hk]))
    rw [show k :: l = [k] ++ l from rfl, outK_app, oth_app, ints_app, List.length_append]
    have ew : C.wi (ints [k] ++ ints l) A = C.wi (ints [k]) A + C.wi (ints l) A := by simp [C.wi]
    rw [ew]
    have : (outK A [k] : Int) = oth [k] + ((ints [k]).length : Int) - C.wi (ints [k]) A := by
      by_cases q : k.1 = 2
      · have f := form_int (h k (by simp)) q
        have e1 : ints [k] = [k.2.1] := by simp [ints, q]
        have e2 : oth [k] = 0 := by simp [oth, q]
        have e3 : inA A k ↔ 1 ≤ k.2.1 ∧ k.2.1 ≤ (A : Int) := by unfold inA; simp [q, f]
        rw [e1, e2]
        by_cases q2 : inA A k
        · have : outK A [k] = 0 := by simp [outK, q2]
          rw [this]
          have : C.wi [k.2.1] A = 1 := by simp [C.wi, e3.1 q2]
          rw [this]; rfl
        · have : outK A [k] = 1 := by simp [outK, q2]
          rw [this]
          have q3 := fun x => q2 (e3.2 x)
          have : C.wi [k.2.1] A = 0 := by simp only [C.wi, List.countP_singleton, decide_eq_true_eq]; rw [if_neg q3]; rfl
          rw [this]; rfl
      · have e1 : ints [k] = [] := by simp [ints, q]
        have e2 : oth [k] = 1 := by simp [oth, q]
        have e3 : ¬ inA A k := fun x => q x.1
        have : outK A [k] = 1 := by simp [outK, e3]
        rw [e1, e2, this]; simp [C.wi]
    omega
theorem pw_pow (i : Nat) (h : i ≤ 16) : pw ((2 ^ i : Nat) : Int) = true := by
  have : i = 0 ∨ i = 1 ∨ i = 2 ∨ i = 3 ∨ i = 4 ∨ i = 5 ∨ i = 6 ∨ i = 7 ∨ i = 8 ∨ i = 9 ∨ i = 10 ∨ i = 11 ∨ i = 12 ∨ i = 13 ∨ i = 14 ∨ i = 15 ∨ i = 16 := by omega
  rcases this with rfl | rfl | rfl | rfl | rfl | rfl | rfl | rfl | rfl | rfl | rfl | rfl | rfl | rfl | rfl | rfl | rfl <;> decide
theorem up2_rt (n : Int) (h0 : 0 ≤ n) (h1 : n ≤ 65536) : ∃ z : Nat, C.up2 n = z ∧ Rt z ∧ n ≤ z := by
  unfold C.up2
  by_cases q : n = 0
  · rw [if_pos q]; exact ⟨0, rfl, .inl rfl, by omega⟩
  · rw [if_neg q]
    obtain ⟨a, b, c⟩ := C.lgN_spec n (by omega) (by omega)
    have hl : C.lgN n ≤ 16 := by
      rcases b with b | b
      · omega
      · rcases Nat.lt_or_ge 16 (C.lgN n) with q | q
        · have := Nat.pow_le_pow_right (n := 2) (by omega) (show 16 ≤ C.lgN n - 1 by omega)
          omega
        · exact q
    refine ⟨2 ^ C.lgN n, ?_, .inr (pw_pow _ hl), ?_⟩
    · unfold C.cl; simp
    · omega
/-- What the census says, where it says sizes. -/
structure Fits (l : List V) (A Z : Nat) : Prop where
  a : A ≤ 65536
  z : Rt Z
  room : outK A l ≤ Z
  dense : C.Dense (ints l) A (C.wi (ints l) A)
  up : (Z : Int) = C.up2 (outK A l)
  pow : A = 0 ∨ ∃ i, i ≤ 16 ∧ A = 2 ^ i
theorem cens {p : Pa} {k : V} (h : ∀ k', k' ∈ pres p ++ [k] → KOK k') (hn : (pres p ++ [k]).Nodup) :
    rsE p k = 14 ∨ (rsE p k = 0 ∧ Fits (pres p ++ [k]) (rsA p k) (rsZ p k) ∧ C.szA (ints (pres p ++ [k])) (oth (pres p ++ [k]) : Nat) = (rsA p k : Nat) ∧ C.szH (ints (pres p ++ [k])) (oth (pres p ++ [k]) : Nat) = (rsZ p k : Nat)) := by
  unfold rsE rsA rsZ
  generalize pres p ++ [k] = l at *
  have hf := ints_fit h
  have hd := C.dense_of (ints l) hf
  have hnd := ints_nd h hn
  rcases C.szE_cases (ints l) (oth l : Nat) with ⟨e0, e1, e2, e3, e4⟩ | ⟨_, _, ⟨q, _⟩ | ⟨_, q⟩ | ⟨_, q⟩⟩
  · right
    have ha := hd.a0
    have hb := hd.a1
    have hN := hd.n
    obtain ⟨A, hA⟩ : ∃ A : Nat, C.chA (C.cntL (ints l)) 17 = A := ⟨(C.chA (C.cntL (ints l)) 17).toNat, by omega⟩
    rw [hA] at hd ha hb hN e3
    have ho := outK_cnt A l h
    have er : (oth l : Int) + C.rest (ints l) = (outK A l : Nat) := by unfold C.rest; rw [← hN]; omega
    rw [er] at e2 e4
    obtain ⟨z, z1, z2, z3⟩ := up2_rt (outK A l : Nat) (by omega) (by omega)
    rw [e3, e4, z1]
    simp only [Int.toNat_natCast]
    have hpow : A = 0 ∨ ∃ i, i ≤ 16 ∧ A = 2 ^ i := by
      rcases C.chN_cases (C.cntL (ints l)) 17 with ⟨q1, _⟩ | ⟨i, q0, q1, _⟩
      · left; omega
      · right
        refine ⟨i, by omega, ?_⟩
        have := C.pow_int i
        omega
    refine ⟨e0, ⟨by omega, z2, by omega, ?_, z1.symm, hpow⟩, trivial, trivial⟩
    rw [hN]
    exact hd
  · omega
  · exfalso
    unfold C.szE at q
    rw [if_neg (by omega), if_neg (by simpa using hnd)] at q
    split at q <;> cases q
  · exact .inl q
end Go.Proofs.YtpmmploedkbeoaaGreatDoor
