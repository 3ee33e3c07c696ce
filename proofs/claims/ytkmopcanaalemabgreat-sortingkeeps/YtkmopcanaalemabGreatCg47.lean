/- The walk of the reference's Pair. The great seat's numbers. -/
import Derived.Test.YtkmopcanaalemabGreatCg46
import Derived.Test.YtkmopcanaalemabGreatCg45
import Derived.Test.YtkmopcanaalemabGreatCg43
namespace Go.Proofs.YtkmopcanaalemabGreat
open Go.RowKit
section
variable {w : World} {RT A P ka va ca : Nat} {cb : Nat → Nat} {G : Nat} {t : TS}
/-- Two boxes for the results. -/
structure Tb (w W : World) : Prop where
  bel : Below w.heap.size w W
  r0 : R3 W w.heap.size nil
  r1 : R3 W (w.heap.size + 1) nil
theorem Tb.made (w : World) : Tb w ((w.alloc (vb 0 0 ⟨#[]⟩)).alloc (vb 0 0 ⟨#[]⟩)) := by
  have R0 := (R3.made w nil).below (b1 _ (vb 0 0 ⟨#[]⟩))
  have R1 := R3.made (w.alloc (vb 0 0 ⟨#[]⟩)) nil
  have eX : (w.alloc (vb 0 0 ⟨#[]⟩)).heap.size = w.heap.size + 1 := by simp
  rw [eX] at R1
  exact ⟨b2 w (vb 0 0 ⟨#[]⟩) (vb 0 0 ⟨#[]⟩), R0, R1⟩
theorem Tb.below {W W' : World} (h : Tb w W) (k : Below W.heap.size W W') : Tb w W' := ⟨bthen h.bel h.bel.size k, h.r0.below k, h.r1.below k⟩
/-- The first is written, then the second. -/
theorem Tb.two {W : World} (h : Tb w W) (x y : V) : R3 (set3 W w.heap.size x) (w.heap.size + 1) nil ∧ P2 w (set3 (set3 W w.heap.size x) (w.heap.size + 1) y) w.heap.size x y ∧ Below w.heap.size w (set3 W w.heap.size x) := by
  have k : Keep (fun g => g ≠ w.heap.size) W (set3 W w.heap.size x) := set3_keep _ _ _
  exact ⟨h.r1.kept k (by show _ + 1 ≠ _; omega), P2.mk2 h.bel h.r0 h.r1 x y, bset3 h.bel (Nat.le_refl _) x⟩
set_option maxRecDepth 20000 in
set_option maxHeartbeats 4000000 in
theorem rpair_far (h : Rb w RT A P ka va ca cb G t) (ti : TI t.p) (m : Int) (hm : m < 1 ∨ ((t.p.n + t.p.z : Nat) : Int) < m) :
    Calls Tryz.prog 37 #[.pointer (some ⟨RT, 0, none⟩), .int .i64 m] w fun e w' => e = .returned (.tuple #[vv nil, vv nil]) ∧ Below w.heap.size w w' := by
  have T0 := Tb.made w
  obtain ⟨W0, hW0⟩ : ∃ W0, (w.alloc (vb 0 0 ⟨#[]⟩)).alloc (vb 0 0 ⟨#[]⟩) = W0 := ⟨_, rfl⟩
  rw [hW0] at T0
  have CP := rplaces_any (h.below T0.bel) ti
  have HT0 : Hid (Tb w W0) := T0
  generalize ((t.p.n + t.p.z : Nat) : Int) = nz at *
  clear h ti T0
  unfold vb at hW0
  unfold vv vl nil
  have eX : (w.alloc (.cells #[.int .i64 0, .int .i64 0, .string ⟨#[]⟩] 36)).heap.size = w.heap.size + 1 := by simp
  by_cases h1 : m < 1
  · clear hm CP
    have n0 : W0.cell? ⟨w.heap.size, 0, none⟩ = some (.int .i64 0) := HT0.out.r0.bx.c0
    have n1 : W0.cell? ⟨w.heap.size, 1, none⟩ = some (.int .i64 0) := HT0.out.r0.bx.c1
    have n2 : W0.cell? ⟨w.heap.size, 2, none⟩ = some (.string ⟨#[]⟩) := HT0.out.r0.bx.c2
    have nf := HT0.out.r0.fz
    obtain ⟨r1, pp2, _⟩ := HT0.out.two nil nil
    obtain ⟨W2, hW2⟩ : ∃ W2, set3 W0 w.heap.size nil = W2 := ⟨_, rfl⟩
    rw [hW2] at r1 pp2
    obtain ⟨W3, hW3⟩ : ∃ W3, set3 W2 (w.heap.size + 1) nil = W3 := ⟨_, rfl⟩
    rw [hW3] at pp2
    have m0 : W2.cell? ⟨w.heap.size + 1, 0, none⟩ = some (.int .i64 0) := r1.bx.c0
    have m1 : W2.cell? ⟨w.heap.size + 1, 1, none⟩ = some (.int .i64 0) := r1.bx.c1
    have m2 : W2.cell? ⟨w.heap.size + 1, 2, none⟩ = some (.string ⟨#[]⟩) := r1.bx.c2
    have mf := r1.fz
    have HP : Hid (P2 w W3 w.heap.size nil nil) := pp2
    have hW2' : (((W0.setCell ⟨w.heap.size, 0, none⟩ (.int .i64 0)).setCell ⟨w.heap.size, 1, none⟩ (.int .i64 0)).setCell ⟨w.heap.size, 2, none⟩ (.string ⟨#[]⟩)) = W2 := hW2
    have hW3' : (((W2.setCell ⟨w.heap.size + 1, 0, none⟩ (.int .i64 0)).setCell ⟨w.heap.size + 1, 1, none⟩ (.int .i64 0)).setCell ⟨w.heap.size + 1, 2, none⟩ (.string ⟨#[]⟩)) = W3 := hW3
    clear r1 pp2 hW2 hW3
    generalize hsz : w.heap.size = N at *
    go_enter Tryz.func37, Tryz.ntmps37
    go_wp2_with fail
    have v0 : W3.cell? ⟨N, 0, none⟩ = some (.int .i64 0) := HP.out.r0.c0
    have v1 : W3.cell? ⟨N, 1, none⟩ = some (.int .i64 0) := HP.out.r0.c1
    have v2 : W3.cell? ⟨N, 2, none⟩ = some (.string ⟨#[]⟩) := HP.out.r0.c2
    have v3 : W3.cell? ⟨N + 1, 0, none⟩ = some (.int .i64 0) := HP.out.r1.c0
    have v4 : W3.cell? ⟨N + 1, 1, none⟩ = some (.int .i64 0) := HP.out.r1.c1
    have v5 : W3.cell? ⟨N + 1, 2, none⟩ = some (.string ⟨#[]⟩) := HP.out.r1.c2
    refine bodyPost_ret (v := .tuple #[.agg #[.int .i64 0, .int .i64 0, .string ⟨#[]⟩], .agg #[.int .i64 0, .int .i64 0, .string ⟨#[]⟩]]) (by simp [results, Tryz.results37, go_sem, v0, v1, v2, v3, v4, v5]) rfl ⟨rfl, HP.out.bel⟩
  · have h2 := hm.resolve_left h1
    clear hm
    generalize hsz : w.heap.size = N at *
    go_enter Tryz.func37, Tryz.ntmps37
    go_wp2_with fail
    refine CP.mono ?_; rintro e U ⟨rfl, hbU⟩
    have TU := HT0.out.below hbU
    obtain ⟨r1, pp2, _⟩ := (HT0.out.below hbU).two nil nil
    rw [hsz] at r1 pp2
    have n0 : U.cell? ⟨N, 0, none⟩ = some (.int .i64 0) := hsz ▸ TU.r0.bx.c0
    have n1 : U.cell? ⟨N, 1, none⟩ = some (.int .i64 0) := hsz ▸ TU.r0.bx.c1
    have n2 : U.cell? ⟨N, 2, none⟩ = some (.string ⟨#[]⟩) := hsz ▸ TU.r0.bx.c2
    have nf : ∀ j, U.frozen? ⟨N, j, none⟩ = false := hsz ▸ TU.r0.fz
    obtain ⟨W2, hW2⟩ : ∃ W2, set3 U N nil = W2 := ⟨_, rfl⟩
    rw [hW2] at r1 pp2
    obtain ⟨W3, hW3⟩ : ∃ W3, set3 W2 (N + 1) nil = W3 := ⟨_, rfl⟩
    rw [hW3] at pp2
    have m0 : W2.cell? ⟨N + 1, 0, none⟩ = some (.int .i64 0) := r1.bx.c0
    have m1 : W2.cell? ⟨N + 1, 1, none⟩ = some (.int .i64 0) := r1.bx.c1
    have m2 : W2.cell? ⟨N + 1, 2, none⟩ = some (.string ⟨#[]⟩) := r1.bx.c2
    have mf := r1.fz
    have HP : Hid (P2 w W3 N nil nil) := pp2
    have hW2' : (((U.setCell ⟨N, 0, none⟩ (.int .i64 0)).setCell ⟨N, 1, none⟩ (.int .i64 0)).setCell ⟨N, 2, none⟩ (.string ⟨#[]⟩)) = W2 := hW2
    have hW3' : (((W2.setCell ⟨N + 1, 0, none⟩ (.int .i64 0)).setCell ⟨N + 1, 1, none⟩ (.int .i64 0)).setCell ⟨N + 1, 2, none⟩ (.string ⟨#[]⟩)) = W3 := hW3
    clear r1 pp2 hW2 hW3 TU hbU CP
    go_wp2_with fail
    have v0 : W3.cell? ⟨N, 0, none⟩ = some (.int .i64 0) := HP.out.r0.c0
    have v1 : W3.cell? ⟨N, 1, none⟩ = some (.int .i64 0) := HP.out.r0.c1
    have v2 : W3.cell? ⟨N, 2, none⟩ = some (.string ⟨#[]⟩) := HP.out.r0.c2
    have v3 : W3.cell? ⟨N + 1, 0, none⟩ = some (.int .i64 0) := HP.out.r1.c0
    have v4 : W3.cell? ⟨N + 1, 1, none⟩ = some (.int .i64 0) := HP.out.r1.c1
    have v5 : W3.cell? ⟨N + 1, 2, none⟩ = some (.string ⟨#[]⟩) := HP.out.r1.c2
    refine bodyPost_ret (v := .tuple #[.agg #[.int .i64 0, .int .i64 0, .string ⟨#[]⟩], .agg #[.int .i64 0, .int .i64 0, .string ⟨#[]⟩]]) (by simp [results, Tryz.results37, go_sem, v0, v1, v2, v3, v4, v5]) rfl ⟨rfl, HP.out.bel⟩
set_option maxRecDepth 20000 in
set_option maxHeartbeats 4000000 in
theorem rpair_in (h : Rb w RT A P ka va ca cb G t) (ti : TI t.p) (j : Nat) (hj : j < t.p.n) :
    Calls Tryz.prog 37 #[.pointer (some ⟨RT, 0, none⟩), .int .i64 ((j : Int) + 1)] w fun e w' => e = .returned (.tuple #[vv (kn ((j : Int) + 1)), vv (t.p.F j)]) ∧ Below w.heap.size w w' := by
  have T0 := Tb.made w
  obtain ⟨W0, hW0⟩ : ∃ W0, (w.alloc (vb 0 0 ⟨#[]⟩)).alloc (vb 0 0 ⟨#[]⟩) = W0 := ⟨_, rfl⟩
  rw [hW0] at T0
  have CP := rplaces_any (h.below T0.bel) ti
  have HT0 : Hid (Tb w W0) := T0
  have HRb : Hid (Rb w RT A P ka va ca cb G t) := h
  have hnz : ¬ ((t.p.n + t.p.z : Nat) : Int) < (j : Int) + 1 := by push_cast; omega
  have hle := ti.le
  generalize ((t.p.n + t.p.z : Nat) : Int) = nz at *
  have lR := h.ltR
  have lA := h.ltA
  clear h ti T0
  unfold vb at hW0
  unfold vv vl
  have eX : (w.alloc (.cells #[.int .i64 0, .int .i64 0, .string ⟨#[]⟩] 36)).heap.size = w.heap.size + 1 := by simp
  have HF : Hid (∀ W, Tb w W → (∀ y : V, (W.cell? ⟨RT, 0, none⟩ = some (.slice (some ⟨A, 0, none⟩) t.p.n t.p.n) ∧ W.cell? ⟨A, j * 3, none⟩ = some (.int .i64 (t.p.F j).1) ∧ W.cell? ⟨A, j * 3 + 1, none⟩ = some (.int .i64 (t.p.F j).2.1) ∧ W.cell? ⟨A, j * 3 + 2, none⟩ = some (.string (t.p.F j).2.2)) ∧
      ((set3 W w.heap.size y).cell? ⟨RT, 0, none⟩ = some (.slice (some ⟨A, 0, none⟩) t.p.n t.p.n) ∧ (set3 W w.heap.size y).cell? ⟨A, j * 3, none⟩ = some (.int .i64 (t.p.F j).1) ∧ (set3 W w.heap.size y).cell? ⟨A, j * 3 + 1, none⟩ = some (.int .i64 (t.p.F j).2.1) ∧ (set3 W w.heap.size y).cell? ⟨A, j * 3 + 2, none⟩ = some (.string (t.p.F j).2.2)) ∧
      R3 W w.heap.size nil ∧ R3 (set3 W w.heap.size y) (w.heap.size + 1) nil ∧ P2 w (set3 (set3 W w.heap.size y) (w.heap.size + 1) (t.p.F j)) w.heap.size y (t.p.F j))) := fun W tb y => by
    have a1 := HRb.out.below tb.bel
    have a2 := HRb.out.below (tb.two y y).2.2
    obtain ⟨u0, u1, u2⟩ := a1.sl.at hj
    obtain ⟨v0, v1, v2⟩ := a2.sl.at hj
    exact ⟨⟨a1.c0, u0, u1, u2⟩, ⟨a2.c0, v0, v1, v2⟩, tb.r0, (tb.two y y).1, (tb.two y (t.p.F j)).2.1⟩
  generalize t.p.F j = x at *
  generalize t.p.n = n at *
  have hj1 : ¬ ((j : Int) + 1 < 1) := by omega
  have hj2 : (j : Int) + 1 ≤ (n : Int) := by omega
  have hj3 : (j : Int) < (n : Int) := by omega
  have hj4 : ¬ ((j : Int) < 0) := by omega
  have hw0 : IntKind.i64.wrap (j : Int) = (j : Int) := by rw [IntKind.wrap_i64]; omega
  have hw1 : IntKind.i64.wrap ((j : Int) + 1 - 1) = (j : Int) := by rw [IntKind.wrap_i64]; omega
  generalize hsz : w.heap.size = N at *
  go_enter Tryz.func37, Tryz.ntmps37
  go_wp2_with fail
  refine CP.mono ?_; rintro e U ⟨rfl, hbU⟩
  have TU := HT0.out.below hbU
  have C1 := mkI ((j : Int) + 1) U.drew
  unfold vl at C1
  have HTU : Hid (Tb w U) := TU
  obtain ⟨⟨d1, e0, e1, e2⟩, _⟩ := HF.out U TU x
  clear TU hbU CP
  go_wp2_with fail
  go_region_with (go_at_call 17; refine C1.mono ?_; rintro e W1 ⟨rfl, bb⟩; have bb1 : Tb w W1 := HTU.out.below (bthen (bdrew1 U) (Nat.le_refl _) bb); obtain ⟨⟨d1', e0', e1', e2'⟩, ⟨d1'', e0'', e1'', e2''⟩, q0, q1', pp2⟩ := HF.out W1 bb1 (2, (j : Int) + 1, ⟨#[]⟩); have n0 := q0.bx.c0; have n1 := q0.bx.c1; have n2 := q0.bx.c2; have nf := q0.fz; obtain ⟨W2, hW2⟩ : ∃ W2, set3 W1 N (2, (j : Int) + 1, ⟨#[]⟩) = W2 := ⟨_, rfl⟩; rw [hW2] at q1' d1'' e0'' e1'' e2'' pp2; have m0 := q1'.bx.c0; have m1 := q1'.bx.c1; have m2 := q1'.bx.c2; have mf := q1'.fz; obtain ⟨W3, hW3⟩ : ∃ W3, set3 W2 (N + 1) x = W3 := ⟨_, rfl⟩; rw [hW3] at pp2; unfold set3 at hW2 hW3; have HB1 : Hid (P2 w W3 N (2, (j : Int) + 1, ⟨#[]⟩) x) := pp2; clear q0 q1' bb bb1 pp2)
  all_goals
    go_wp2_with fail
    have v0 := HB1.out.r0.c0
    have v1 := HB1.out.r0.c1
    have v2 := HB1.out.r0.c2
    have v3 := HB1.out.r1.c0
    have v4 := HB1.out.r1.c1
    have v5 := HB1.out.r1.c2
    refine bodyPost_ret (v := .tuple #[.agg #[.int .i64 2, .int .i64 ((j : Int) + 1), .string ⟨#[]⟩], .agg #[.int .i64 x.1, .int .i64 x.2.1, .string x.2.2]]) (by simp [results, Tryz.results37, go_sem, v0, v1, v2, v3, v4, v5]) rfl ⟨rfl, HB1.out.bel⟩
end
end Go.Proofs.YtkmopcanaalemabGreat

/- The walk of the reference's Pair, on. The great seat's numbers. -/
namespace Go.Proofs.YtkmopcanaalemabGreat
open Go.RowKit
section
variable {w : World} {RT A P ka va ca : Nat} {cb : Nat → Nat} {G : Nat} {t : TS}
set_option maxRecDepth 20000 in
set_option maxHeartbeats 8000000 in
theorem rpair_out (h : Rb w RT A P ka va ca cb G t) (ti : TI t.p) (j : Nat) (hj : j < t.p.z) :
    Calls Tryz.prog 37 #[.pointer (some ⟨RT, 0, none⟩), .int .i64 ((t.p.n : Int) + 1 + j)] w fun e w' => e = .returned (.tuple #[vv (t.p.g.K j), vv (t.p.g.X j)]) ∧ Below w.heap.size w w' := by
  have T0 := Tb.made w
  obtain ⟨W0, hW0⟩ : ∃ W0, (w.alloc (vb 0 0 ⟨#[]⟩)).alloc (vb 0 0 ⟨#[]⟩) = W0 := ⟨_, rfl⟩
  rw [hW0] at T0
  have CP := rplaces_any (h.below T0.bel) ti
  have HT0 : Hid (Tb w W0) := T0
  have HRb : Hid (Rb w RT A P ka va ca cb G t) := h
  have hnz : ¬ ((t.p.n + t.p.z : Nat) : Int) < (t.p.n : Int) + 1 + (j : Int) := by push_cast; omega
  have hle := ti.le
  have hlz := ti.rt.le
  generalize ((t.p.n + t.p.z : Nat) : Int) = nz at *
  clear h ti T0
  unfold vb at hW0
  unfold vv vl
  have eX : (w.alloc (.cells #[.int .i64 0, .int .i64 0, .string ⟨#[]⟩] 36)).heap.size = w.heap.size + 1 := by simp
  have HC : Hid (∀ W, Below w.heap.size w W → W.cell? ⟨RT, 0, none⟩ = some (.slice (some ⟨A, 0, none⟩) t.p.n t.p.n) ∧ W.cell? ⟨RT, 1, none⟩ = some (.pointer (some ⟨P, 0, none⟩)) ∧ W.cell? ⟨P, 0, none⟩ = some (.slice (some ⟨ka, 0, none⟩) t.p.z t.p.z) ∧ W.cell? ⟨P, 1, none⟩ = some (.slice (some ⟨va, 0, none⟩) t.p.z t.p.z) ∧
      (W.cell? ⟨ka, j * 3, none⟩ = some (.int .i64 (t.p.g.K j).1) ∧ W.cell? ⟨ka, j * 3 + 1, none⟩ = some (.int .i64 (t.p.g.K j).2.1) ∧ W.cell? ⟨ka, j * 3 + 2, none⟩ = some (.string (t.p.g.K j).2.2)) ∧
      (W.cell? ⟨va, j * 3, none⟩ = some (.int .i64 (t.p.g.X j).1) ∧ W.cell? ⟨va, j * 3 + 1, none⟩ = some (.int .i64 (t.p.g.X j).2.1) ∧ W.cell? ⟨va, j * 3 + 2, none⟩ = some (.string (t.p.g.X j).2.2))) := fun W hb => by
    have a1 := HRb.out.below hb
    exact ⟨a1.c0, a1.c1, a1.rp.s0, a1.rp.s1, a1.rp.k.at hj, a1.rp.v.at hj⟩
  clear HRb
  generalize t.p.g.K j = kk at *
  generalize t.p.g.X j = x at *
  generalize t.p.z = z at *
  generalize t.p.n = n at *
  have hj1 : ¬ ((n : Int) + 1 + (j : Int) < 1) := by omega
  have hj2 : ¬ ((n : Int) + 1 + (j : Int) ≤ (n : Int)) := by omega
  have hj3 : (j : Int) < (z : Int) := by omega
  have hj4 : ¬ ((j : Int) < 0) := by omega
  have hw0 : IntKind.i64.wrap ((n : Int) + 1 + (j : Int) - 1) = (n : Int) + (j : Int) := by rw [IntKind.wrap_i64]; omega
  have hw1 : IntKind.i64.wrap ((n : Int) + (j : Int) - (n : Int)) = (j : Int) := by rw [IntKind.wrap_i64]; omega
  have hw2 : IntKind.i64.wrap (j : Int) = (j : Int) := by rw [IntKind.wrap_i64]; omega
  obtain ⟨nj, hnj⟩ : ∃ nj : Int, (n : Int) + (j : Int) = nj := ⟨_, rfl⟩
  rw [hnj] at hw0 hw1
  clear hnj
  generalize hm : (n : Int) + 1 + (j : Int) = m at *
  clear hm
  go_enter Tryz.func37, Tryz.ntmps37
  go_wp2_with fail
  refine CP.mono ?_; rintro e U ⟨rfl, hbU⟩
  have TU := HT0.out.below hbU
  obtain ⟨d1, d2, d3, d4, ⟨e0, e1, e2⟩, e3, e4, e5⟩ := HC.out U TU.bel
  obtain ⟨q1, pp2, bs⟩ := TU.two kk x
  obtain ⟨f1, f2, f3, f4, ⟨g0, g1, g2⟩, g3, g4, g5⟩ := HC.out _ bs
  have n0 : U.cell? ⟨w.heap.size, 0, none⟩ = some (.int .i64 0) := TU.r0.bx.c0
  have n1 : U.cell? ⟨w.heap.size, 1, none⟩ = some (.int .i64 0) := TU.r0.bx.c1
  have n2 : U.cell? ⟨w.heap.size, 2, none⟩ = some (.string ⟨#[]⟩) := TU.r0.bx.c2
  have nf := TU.r0.fz
  obtain ⟨W2, hW2⟩ : ∃ W2, set3 U w.heap.size kk = W2 := ⟨_, rfl⟩
  rw [hW2] at q1 pp2 f1 f2 f3 f4 g0 g1 g2 g3 g4 g5
  have m0 : W2.cell? ⟨w.heap.size + 1, 0, none⟩ = some (.int .i64 0) := q1.bx.c0
  have m1 : W2.cell? ⟨w.heap.size + 1, 1, none⟩ = some (.int .i64 0) := q1.bx.c1
  have m2 : W2.cell? ⟨w.heap.size + 1, 2, none⟩ = some (.string ⟨#[]⟩) := q1.bx.c2
  have mf := q1.fz
  obtain ⟨W3, hW3⟩ : ∃ W3, set3 W2 (w.heap.size + 1) x = W3 := ⟨_, rfl⟩
  rw [hW3] at pp2
  have HB1 : Hid (P2 w W3 w.heap.size kk x) := pp2
  unfold set3 at hW2 hW3
  clear TU hbU CP q1 pp2 bs HC HT0 hW0 eX
  generalize hsz : w.heap.size = N at *
  go_wp2_with fail
  go_region
  all_goals
    go_wp2_with fail
    have v0 := HB1.out.r0.c0
    have v1 := HB1.out.r0.c1
    have v2 := HB1.out.r0.c2
    have v3 := HB1.out.r1.c0
    have v4 := HB1.out.r1.c1
    have v5 := HB1.out.r1.c2
    refine bodyPost_ret (v := .tuple #[.agg #[.int .i64 kk.1, .int .i64 kk.2.1, .string kk.2.2], .agg #[.int .i64 x.1, .int .i64 x.2.1, .string x.2.2]]) (by simp [results, Tryz.results37, go_sem, v0, v1, v2, v3, v4, v5]) rfl ⟨rfl, by rw [hsz]; first | exact HB1.out.bel | exact HB1.out.bel.trans (bdrew _ _ 1) | exact HB1.out.bel.trans ⟨rfl, rfl, rfl, Nat.le_refl _, fun _ _ => rfl⟩⟩
end
end Go.Proofs.YtkmopcanaalemabGreat
