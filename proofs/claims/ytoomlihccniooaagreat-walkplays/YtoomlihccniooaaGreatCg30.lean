/- The walk of Pair. -/
import Derived.Test.YtoomlihccniooaaGreatCg17
namespace Go.Proofs.YtoomlihccniooaaGreat
open Go.RowKit

/-- The pair at a place, from nought on. -/
def pairK (p : Pa) (i : Nat) : V := if i < p.n then kn ((i : Int) + 1) else p.g.K (i - p.n)
def pairX (p : Pa) (i : Nat) : V := if i < p.n then p.F i else p.g.X (i - p.n)
/-- Two results' blocks: what is true of them behind the stores. -/
structure P2 (w W : World) (N : Nat) (x y : V) : Prop where
  r0 : Bx W N x
  r1 : Bx W (N + 1) y
  bel : Below N w W
theorem P2.mk2 {w W : World} {N : Nat} (hB : Below N w W) (r0 : R3 W N nil) (r1 : R3 W (N + 1) nil) (x y : V) : P2 w (set3 (set3 W N x) (N + 1) y) N x y := by
  have k1 : Keep (fun g => g ≠ N) W (set3 W N x) := (Keep.refl _ W).set3 (fun q => q rfl) x
  have q1 := r1.kept k1 (by show N + 1 ≠ N; omega)
  have k2 : Keep (fun g => g ≠ N + 1) (set3 W N x) (set3 (set3 W N x) (N + 1) y) := (Keep.refl _ _).set3 (fun q => q rfl) y
  have q0 := (r0.set x).kept k2 (by show N ≠ N + 1; omega)
  have hs := r0.bx.lt
  have kk : Keep (fun g => g < N) W (set3 (set3 W N x) (N + 1) y) := ((Keep.refl (fun g => g < N) W).set3 (N := N) (Nat.lt_irrefl N) x).set3 (N := N + 1) (fun q => by omega) y
  exact ⟨q0.bx, (q1.set y).bx, hB.trans (kk.below (Nat.le_of_lt hs) (fun g q => q))⟩

set_option maxRecDepth 20000 in
set_option maxHeartbeats 4000000 in
theorem pair_in {w : World} {T A b a S : Nat} {t : TS} (h : Tm w T A b a S t) (hn : t.p.n ≤ 65536) (j : Nat) (hj : j < t.p.n) :
    Calls Tryz.prog 74 #[tp T, .int .i64 ((j : Int) + 1)] w fun e w' => e = .returned (.tuple #[vv (kn ((j : Int) + 1)), vv (t.p.F j)]) ∧ Below w.heap.size w w' := by
  have R0 := (R3.made w nil).below (b1 _ (vb 0 0 ⟨#[]⟩))
  have R1 := R3.made (w.alloc (vb 0 0 ⟨#[]⟩)) nil
  have eX : (w.alloc (vb 0 0 ⟨#[]⟩)).heap.size = w.heap.size + 1 := by simp
  rw [eX] at R1
  have B0 := b2 w (vb 0 0 ⟨#[]⟩) (vb 0 0 ⟨#[]⟩)
  have R0' : R3 ((w.alloc (vb 0 0 ⟨#[]⟩)).alloc (vb 0 0 ⟨#[]⟩)) w.heap.size nil := R0
  have R1' : R3 ((w.alloc (vb 0 0 ⟨#[]⟩)).alloc (vb 0 0 ⟨#[]⟩)) (w.heap.size + 1) nil := R1
  obtain ⟨W0, hW0⟩ : ∃ W0, (w.alloc (vb 0 0 ⟨#[]⟩)).alloc (vb 0 0 ⟨#[]⟩) = W0 := ⟨_, rfl⟩
  rw [hW0] at B0 R0' R1'
  have h0 := h.below B0
  have C1 := number_any ((j : Int) + 1) W0.drew
  have c1 : W0.cell? ⟨T, 1, none⟩ = some (.slice (some ⟨A, 0, none⟩) t.p.n t.p.n) := h0.pm.c0
  have s0 : W0.cell? ⟨A, j * 3, none⟩ = some (.int .i64 (t.p.F j).1) := h0.pm.sl.c j hj 0 (by omega)
  have s1 : W0.cell? ⟨A, j * 3 + 1, none⟩ = some (.int .i64 (t.p.F j).2.1) := h0.pm.sl.c j hj 1 (by omega)
  have s2 : W0.cell? ⟨A, j * 3 + 2, none⟩ = some (.string (t.p.F j).2.2) := h0.pm.sl.c j hj 2 (by omega)
  have HSZ : Hid (∀ W, Below W0.heap.size W0 W → Below w.heap.size w W) := fun W hW => bthen B0 B0.size hW
  have lT := h.pm.ltB
  have lA := h.pm.ltA
  have HF : Hid (∀ W, Below W0.heap.size W0 W → ∀ y : V, (R3 W w.heap.size nil ∧ R3 W (w.heap.size + 1) nil ∧ W.cell? ⟨T, 1, none⟩ = some (.slice (some ⟨A, 0, none⟩) t.p.n t.p.n) ∧ W.cell? ⟨A, j * 3, none⟩ = some (.int .i64 (t.p.F j).1) ∧ W.cell? ⟨A, j * 3 + 1, none⟩ = some (.int .i64 (t.p.F j).2.1) ∧ W.cell? ⟨A, j * 3 + 2, none⟩ = some (.string (t.p.F j).2.2)) ∧
      (R3 (set3 W w.heap.size y) (w.heap.size + 1) nil ∧ (set3 W w.heap.size y).cell? ⟨T, 1, none⟩ = some (.slice (some ⟨A, 0, none⟩) t.p.n t.p.n) ∧ (set3 W w.heap.size y).cell? ⟨A, j * 3, none⟩ = some (.int .i64 (t.p.F j).1) ∧ (set3 W w.heap.size y).cell? ⟨A, j * 3 + 1, none⟩ = some (.int .i64 (t.p.F j).2.1) ∧ (set3 W w.heap.size y).cell? ⟨A, j * 3 + 2, none⟩ = some (.string (t.p.F j).2.2)) ∧
      P2 w (set3 (set3 W w.heap.size y) (w.heap.size + 1) (t.p.F j)) w.heap.size y (t.p.F j)) := fun W hW y => by
    have h1 := h0.below hW
    have k : Keep (fun g => g ≠ w.heap.size) W (set3 W w.heap.size y) := (Keep.refl _ W).set3 (fun q => q rfl) y
    have eT := k.block T h1.pm.ltB (by show T ≠ _; omega)
    have eA := k.block A h1.pm.ltA (by show A ≠ _; omega)
    refine ⟨⟨R0'.below hW, R1'.below hW, h1.pm.c0, h1.pm.sl.c j hj 0 (by omega), h1.pm.sl.c j hj 1 (by omega), h1.pm.sl.c j hj 2 (by omega)⟩, ⟨(R1'.below hW).kept k (by show _ + 1 ≠ _; omega), ?_, ?_, ?_, ?_⟩, P2.mk2 (bthen B0 B0.size hW) (R0'.below hW) (R1'.below hW) y _⟩
    · rw [World.cell?_of_block (w := W) eT]; exact h1.pm.c0
    · rw [World.cell?_of_block (w := W) eA]; exact h1.pm.sl.c j hj 0 (by omega)
    · rw [World.cell?_of_block (w := W) eA]; exact h1.pm.sl.c j hj 1 (by omega)
    · rw [World.cell?_of_block (w := W) eA]; exact h1.pm.sl.c j hj 2 (by omega)
  clear h h0 R0 R1 R0' R1' B0 eX lT lA
  unfold vb at hW0
  unfold vv vl tp at *
  generalize t.p.F j = x at *
  generalize t.p.n = n at *
  generalize hsz : w.heap.size = N at *
  have HN : Hid (w.heap.size = N) := hsz
  have hj1 : ¬ ((j : Int) + 1 < 1) := by omega
  have hj2 : (j : Int) + 1 ≤ (n : Int) := by omega
  have hj3 : (j : Int) < (n : Int) := by omega
  have hj4 : ¬ ((j : Int) < 0) := by omega
  have hw0 : IntKind.i64.wrap (j : Int) = (j : Int) := by rw [IntKind.wrap_i64]; omega
  have hw1 : IntKind.i64.wrap ((j : Int) + 1 - 1) = (j : Int) := by rw [IntKind.wrap_i64]; omega
  go_enter Tryz.func74, Tryz.ntmps74
  go_wp2_with fail
  go_region_with (go_at_call 92; refine C1.mono ?_; rintro e W1 ⟨rfl, bb⟩; have bb1 : Below W0.heap.size W0 W1 := bthen (bdrew1 W0) (Nat.le_refl _) bb; obtain ⟨⟨q0, q1, d1, e0, e1, e2⟩, ⟨q1', d1', e0', e1', e2'⟩, pp2⟩ := HF.out W1 bb1 (2, (j : Int) + 1, ⟨#[]⟩); have n0 := q0.bx.c0; have n1 := q0.bx.c1; have n2 := q0.bx.c2; have nf := q0.fz; obtain ⟨W2, hW2⟩ : ∃ W2, set3 W1 N (2, (j : Int) + 1, ⟨#[]⟩) = W2 := ⟨_, rfl⟩; rw [hW2] at q1' d1' e0' e1' e2' pp2; have m0 := q1'.bx.c0; have m1 := q1'.bx.c1; have m2 := q1'.bx.c2; have mf := q1'.fz; obtain ⟨W3, hW3⟩ : ∃ W3, set3 W2 (N + 1) x = W3 := ⟨_, rfl⟩; rw [hW3] at pp2; unfold set3 at hW2 hW3; have HB1 : Hid (P2 w W3 N (2, (j : Int) + 1, ⟨#[]⟩) x) := pp2; clear q0 q1 q1' bb bb1 pp2)
  all_goals
    go_wp2_with fail
    have v0 := HB1.out.r0.c0
    have v1 := HB1.out.r0.c1
    have v2 := HB1.out.r0.c2
    have v3 := HB1.out.r1.c0
    have v4 := HB1.out.r1.c1
    have v5 := HB1.out.r1.c2
    refine bodyPost_ret (v := .tuple #[.agg #[.int .i64 2, .int .i64 ((j : Int) + 1), .string ⟨#[]⟩], .agg #[.int .i64 x.1, .int .i64 x.2.1, .string x.2.2]]) (by simp [results, Tryz.results74, go_sem, v0, v1, v2, v3, v4, v5]) rfl ⟨rfl, HB1.out.bel⟩
end Go.Proofs.YtoomlihccniooaaGreat
