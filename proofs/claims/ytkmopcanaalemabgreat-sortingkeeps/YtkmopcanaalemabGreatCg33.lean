/- The walks of Next and New. -/
import Derived.Test.YtkmopcanaalemabGreatCg32
import Derived.Test.YtkmopcanaalemabGreatCg31
import Derived.BigRegion
import Derived.Deep.DeepCutAuto
namespace Go.Proofs.YtkmopcanaalemabGreat
open Go.RowKit

/-- Two results' blocks among others' blocks. -/
theorem So.pair {No : Nat → Prop} {w : World} {B : Nat} {wv : Value} {T A b a S hb c : Nat} {d : SD} (h : So No w B wv T A b a S hb c d) :
    ∃ N2 : Nat → Prop, So N2 ((w.alloc (vb 0 0 ⟨#[]⟩)).alloc (vb 0 0 ⟨#[]⟩)) B wv T A b a S hb c d ∧ ∀ w4 wv' A' b' a' c' d' (o : Obj) (x y : V), Keep N2 ((w.alloc (vb 0 0 ⟨#[]⟩)).alloc (vb 0 0 ⟨#[]⟩)) w4 → So N2 w4 B wv' T A' b' a' S hb c' d' →
      (R3 (w4.alloc o) w.heap.size nil ∧ R3 (w4.alloc o) (w.heap.size + 1) nil ∧ w.heap.size + 1 < w4.heap.size) ∧ R3 (set3 (set3 (w4.alloc o) w.heap.size x) (w.heap.size + 1) y) w.heap.size x ∧ R3 (set3 (set3 (w4.alloc o) w.heap.size x) (w.heap.size + 1) y) (w.heap.size + 1) y ∧ So No (set3 (set3 (w4.alloc o) w.heap.size x) (w.heap.size + 1) y) B wv' T A' b' a' S hb c' d' ∧ Keep No w (set3 (set3 (w4.alloc o) w.heap.size x) (w.heap.size + 1) y) := by
  have B0 := b2 w (vb 0 0 ⟨#[]⟩) (vb 0 0 ⟨#[]⟩)
  have X1 := (R3.made w nil).below (b1 _ (vb 0 0 ⟨#[]⟩))
  have X2 := R3.made (w.alloc (vb 0 0 ⟨#[]⟩)) nil
  have eX : (w.alloc (vb 0 0 ⟨#[]⟩)).heap.size = w.heap.size + 1 := by simp
  rw [eX] at X2
  have z0 : ((w.alloc (vb 0 0 ⟨#[]⟩)).alloc (vb 0 0 ⟨#[]⟩)).heap.size = w.heap.size + 2 := by simp
  have hNo : ∀ g, No g → g < w.heap.size := fun g q => by
    obtain ⟨vb, hp⟩ := h.tt.hp
    exact hp.nos _ (.inl (.inl q))
  refine ⟨_, h.news B0, fun w4 wv' A' b' a' c' d' o x y k4 s4 => ?_⟩
  have n0 : (fun g => No g ∨ (w.heap.size ≤ g ∧ g < ((w.alloc (vb 0 0 ⟨#[]⟩)).alloc (vb 0 0 ⟨#[]⟩)).heap.size)) w.heap.size := .inr ⟨Nat.le_refl _, by omega⟩
  have n1 : (fun g => No g ∨ (w.heap.size ≤ g ∧ g < ((w.alloc (vb 0 0 ⟨#[]⟩)).alloc (vb 0 0 ⟨#[]⟩)).heap.size)) (w.heap.size + 1) := .inr ⟨by omega, by omega⟩
  have a1 := (R3.kept X1 k4 n0).below (b1 w4 o)
  have a2 := (R3.kept X2 k4 n1).below (b1 w4 o)
  have hl : w.heap.size + 1 < w4.heap.size := by have := k4.size; omega
  have y1 := a1.set x
  have k1 : Keep (fun g => g ≠ w.heap.size) (w4.alloc o) (set3 (w4.alloc o) w.heap.size x) := (Keep.refl _ _).set3 (fun q => q rfl) x
  have a2' := a2.kept k1 (by show w.heap.size + 1 ≠ w.heap.size; omega)
  have y2 := a2'.set y
  have k2 : Keep (fun g => g ≠ w.heap.size + 1) (set3 (w4.alloc o) w.heap.size x) (set3 (set3 (w4.alloc o) w.heap.size x) (w.heap.size + 1) y) := (Keep.refl _ _).set3 (fun q => q rfl) y
  have y1' := y1.kept k2 (by show w.heap.size ≠ w.heap.size + 1; omega)
  refine ⟨⟨a1, a2, hl⟩, y1', y2, ?_, ?_⟩
  · exact (s4.below (b1 w4 o)).out (fun g q => .inl q) (((Keep.refl _ _).set3 (fun q => q n0) x).set3 (fun q => q n1) y)
  · exact ((((Keep.of B0).trans (k4.sub (fun g q => .inl q))).trans (Keep.of (b1 w4 o))).set3 (fun q => by have := hNo _ q; omega) x).set3 (fun q => by have := hNo _ q; omega) y
/-- What Next answers. -/
def tol4 (tl : Tol) : Value := .tuple #[.agg #[.int .i64 tl.1.1, .int .i64 tl.1.2.1, .string tl.1.2.2], .agg #[.int .i64 tl.2.1.1, .int .i64 tl.2.1.2.1, .string tl.2.1.2.2], .bool tl.2.2.1, .int .i64 tl.2.2.2]
set_option maxRecDepth 20000 in
set_option maxHeartbeats 4000000 in
theorem next_any {No : Nat → Prop} {w : World} {B : Nat} {wv : Value} {T A b a S hb c : Nat} {d : SD} (h : So No w B wv T A b a S hb c d) (hc : c ≤ 400000) (hf : Fit d.1) (less : Bool) (ha : 0 ≤ d.1.ak ∧ d.1.ak ≤ 6) :
    Calls Tryz.prog 12 #[.pointer (some ⟨B, 0, none⟩), .bool less] w fun e w' => e = .returned (tol4 (goR d less).2) ∧ (∃ wv' A' b' a', So No w' B wv' T A' b' a' S hb (c + 31) (goR d less).1) ∧ Keep No w w' := by
  obtain ⟨N2, s0, HF0⟩ := h.pair
  have HF : Hid _ := HF0
  have C := goOn_any s0 hc hf less ha
  have a0 : ((w.alloc (vb 0 0 ⟨#[]⟩)).alloc (vb 0 0 ⟨#[]⟩)).cell? ⟨B, 0, none⟩ = some (.pointer (some ⟨T, 0, none⟩)) := s0.cell (j := 0) rfl
  obtain ⟨W0, hW0⟩ : ∃ W0, (w.alloc (vb 0 0 ⟨#[]⟩)).alloc (vb 0 0 ⟨#[]⟩) = W0 := ⟨_, rfl⟩
  rw [hW0] at HF C a0
  unfold vb at hW0
  obtain ⟨R, hR⟩ : ∃ R, goR d less = R := ⟨_, rfl⟩
  rw [hR] at C ⊢
  obtain ⟨tl, htl⟩ : ∃ tl, R.2 = tl := ⟨_, rfl⟩
  unfold GP tolV at C
  unfold tol4
  rw [htl] at C ⊢
  clear HF0 h s0 hR htl hf ha
  go_enter Tryz.func12, Tryz.ntmps12
  go_wp2_with fail
  refine C.mono ?_
  rintro e w4 ⟨rfl, ⟨wv4, A4, b4, a4, s4⟩, k4⟩
  obtain ⟨⟨r1, r2, hl⟩, y1, y2, s5, k5⟩ := HF.out w4 wv4 A4 b4 a4 _ _ (.cells #[.int .i64 tl.1.1, .int .i64 tl.1.2.1, .string tl.1.2.2, .int .i64 tl.2.1.1, .int .i64 tl.2.1.2.1, .string tl.2.1.2.2, .bool tl.2.2.1, .int .i64 tl.2.2.2] 78) tl.1 tl.2.1 k4 s4
  have HZ : Hid (_ ∧ _ ∧ _ ∧ _) := ⟨y1, y2, s5, k5⟩
  obtain ⟨W4, hW4⟩ : ∃ W4, w4.alloc (.cells #[.int .i64 tl.1.1, .int .i64 tl.1.2.1, .string tl.1.2.2, .int .i64 tl.2.1.1, .int .i64 tl.2.1.2.1, .string tl.2.1.2.2, .bool tl.2.2.1, .int .i64 tl.2.2.2] 78) = W4 := ⟨_, rfl⟩
  have bX := (MapKept.heap_alloc w4 (.cells #[.int .i64 tl.1.1, .int .i64 tl.1.2.1, .string tl.1.2.2, .int .i64 tl.2.1.1, .int .i64 tl.2.1.2.1, .string tl.2.1.2.2, .bool tl.2.2.1, .int .i64 tl.2.2.2] 78)).1
  rw [hW4] at r1 r2 HZ bX
  have R4 : R8 W4 w4.heap.size tl := ⟨bX⟩
  obtain ⟨m0, m1, m2, m3, m4, m5, m6, m7⟩ := R4.eight
  have R5 : R8 (set3 (set3 W4 w.heap.size tl.1) (w.heap.size + 1) tl.2.1) w4.heap.size tl := R4.kept (No := fun g => g ≠ w.heap.size ∧ g ≠ w.heap.size + 1) (((Keep.refl _ W4).set3 (fun q => q.1 rfl) _).set3 (fun q => q.2 rfl) _) ⟨by omega, by omega⟩
  obtain ⟨W5, hW5⟩ : ∃ W5, set3 (set3 W4 w.heap.size tl.1) (w.heap.size + 1) tl.2.1 = W5 := ⟨_, rfl⟩
  rw [hW5] at HZ R5
  obtain ⟨l0, l1, l2, l3, l4, l5, l6, l7⟩ := R5.eight
  unfold set3 at hW5
  have n0 := r1.bx.c0
  have n1 := r1.bx.c1
  have n2 := r1.bx.c2
  have n3 := r2.bx.c0
  have n4 := r2.bx.c1
  have n5 := r2.bx.c2
  have f1 := r1.fz
  have f2 := r2.fz
  simp only [nil] at n0 n1 n2 n3 n4 n5
  have hd0 : ¬ w4.heap.size = w.heap.size := by omega
  have hd1 : ¬ w4.heap.size = w.heap.size + 1 := by omega
  have hd2 : ¬ w.heap.size = w4.heap.size := by omega
  have hd3 : ¬ w.heap.size + 1 = w4.heap.size := by omega
  clear r1 r2 y1 y2 s5 k5 HF C s4 k4 bX R4 R5 a0 hl
  go_wp2_with fail
  go_region
  all_goals
    go_wp2
    obtain ⟨q1, q2, q3, q4⟩ := HZ.out
    have o0 := q1.bx.c0
    have o1 := q1.bx.c1
    have o2 := q1.bx.c2
    have o3 := q2.bx.c0
    have o4 := q2.bx.c1
    have o5 := q2.bx.c2
    refine bodyPost_ret (v := .tuple #[.agg #[.int .i64 tl.1.1, .int .i64 tl.1.2.1, .string tl.1.2.2], .agg #[.int .i64 tl.2.1.1, .int .i64 tl.2.1.2.1, .string tl.2.1.2.2], .bool tl.2.2.1, .int .i64 tl.2.2.2]) (by simp [results, Tryz.results12, go_sem, o0, o1, o2, o3, o4, o5]) rfl ⟨rfl, ⟨_, _, _, _, q3.below (bdrew1 _)⟩, q4.trans (Keep.of (bdrew1 _))⟩
/-- A sorter's block among others'. -/
theorem TT.begin {No : Nat → Prop} {w : World} {T A b a S hb c : Nat} {t : TS} {s : H.St} (h : TT No w T A b a S hb c t s) (n : Int) : So No (w.alloc (.cells (scl T (.slice none 0 0) (U.s0 n)) 73)) w.heap.size (.slice none 0 0) T A b a S hb c (U.s0 n, t, s) ∧ Keep No w (w.alloc (.cells (scl T (.slice none 0 0) (U.s0 n)) 73)) := by
  have B0 := b1 w (.cells (scl T (.slice none 0 0) (U.s0 n)) 73)
  have hNo : ∀ g, No g → g < w.heap.size := fun g q => by
    obtain ⟨vb, hp⟩ := h.hp
    exact hp.nos _ (.inl q)
  refine ⟨⟨(MapKept.heap_alloc w _).1, World.ownsRow_nil _ _ _ _, (h.news B0).sub (fun g q => ?_), fun q => by have := hNo _ q; omega, fun g q => by cases q⟩, Keep.of B0⟩
  rcases q with q | q | q
  · exact .inl q
  · right
    rw [q]
    exact ⟨Nat.le_refl _, by simp⟩
  · cases q
theorem snew_any {No : Nat → Prop} {w : World} {T A b a S hb c : Nat} {t : TS} {s : H.St} (h : TT No w T A b a S hb c t s) (n : Int) :
    Calls Tryz.prog 10 #[.pointer (some ⟨T, 0, none⟩), .int .i64 n] w fun e w' => e = .returned (.pointer (some ⟨w.heap.size, 0, none⟩)) ∧ So No w' w.heap.size (.slice none 0 0) T A b a S hb c (U.s0 n, t, s) ∧ Keep No w w' := by
  have HS : Hid (_ ∧ _) := h.begin n
  unfold scl U.s0 nil at HS
  clear h
  go_enter Tryz.func10, Tryz.ntmps10
  go_wp2
  go_ret
  exact ⟨rfl, HS.out⟩
end Go.Proofs.YtkmopcanaalemabGreat
