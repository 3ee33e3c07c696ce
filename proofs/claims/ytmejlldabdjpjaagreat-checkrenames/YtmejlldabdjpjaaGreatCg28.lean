/- The walk of index. -/
import Derived.Test.YtmejlldabdjpjaaGreatCg27
import Derived.BigRegion
import Derived.Deep.DeepCutAuto
namespace Go.Proofs.YtmejlldabdjpjaaGreat
open Go.RowKit



theorem F.two (f : F) (h : 2 ≤ f.len) : ∃ (k0 : Int) (t0 : Tx) (n0 q0 : Int) (s0 : F) (k1 : Int) (t1 : Tx) (n1 q1 : Int) (s1 r : F), f = .cons k0 t0 n0 q0 s0 (.cons k1 t1 n1 q1 s1 r) := by
  cases f with
  | nil => simp [F.len] at h
  | cons k0 t0 n0 q0 s0 r =>
    cases r with
    | nil => simp [F.len] at h
    | cons k1 t1 n1 q1 s1 r => exact ⟨k0, t0, n0, q0, s0, k1, t1, n1, q1, s1, r, rfl⟩

set_option maxRecDepth 20000 in
set_option maxHeartbeats 8000000 in
theorem index_any {N : Nat} {nd : Ndc} (H : ∀ k t n p ks s, Gd (ks.siz + 1) s (nd k t n p ks s)) (CE : CN 24 N nd) (No : Nat → Prop) (b : Nat) (s : Cs) (W : World) (t : Tx) (n p : Int) (a : Option Addr) (c : Nat) (ks : F) (h : Ck No b s W) (hr : Rv W No a ks) (hs : ks.siz < N + 1) (hwk : ks.wfC = true) (hcc : ks.len ≤ c ∧ c ≤ maxLen) (hm : 2 ≤ ks.len) (hL : s.wt + 4 * (ks.siz + 1) ≤ 1000000) (hp0 : 0 ≤ s.lp) (hp : s.lp + ((ks.siz : Nat) : Int) + 1 ≤ 1000000) :
    Calls Tryz.prog 37 #[.pointer (some ⟨b, 0, none⟩), (.agg #[.int .i64 (7), .string ⟨(t).toArray⟩, .int .i64 (n), .int .i64 (p), .slice a ks.len c])] W (CP No b W (ckI nd p ks s)) := by
  have hlen := ks.len_siz
  have B := h.cy #[.int .i64 7, .string ⟨t.toArray⟩, .int .i64 n, .int .i64 p, .slice a ks.len c]
  obtain ⟨X, hX⟩ : ∃ X, W.heap.size = X := ⟨_, rfl⟩
  obtain ⟨W1, hW1⟩ : ∃ W1, W.alloc (.cells #[.int .i64 (7), .string ⟨(t).toArray⟩, .int .i64 (n), .int .i64 (p), .slice a ks.len c] 42) = W1 := ⟨_, rfl⟩
  rw [hX, hW1] at B
  have hr1 := B.rv hr
  have CI := ixkept_any (fun g => No g ∨ g = X) W1 7 t n p a c ks hr1 (fun _ => by omega)
  obtain ⟨p0, p1, p2, p3, p4⟩ := B.bx.five
  have HB : Hid (Cy No b s W X #[.int .i64 7, .string ⟨t.toArray⟩, .int .i64 n, .int .i64 p, .slice a ks.len c] W1 ∧ Rv W No a ks) := ⟨B, hr⟩
  unfold ckI
  by_cases hix : ixk 7 ks = true
  · rw [hix] at CI
    rw [if_pos hix]
    clear h hr B hr1
    obtain ⟨k0, t0, n0, q0, s0, k1, t1, n1, q1, s1, r, rfl⟩ := F.two ks hm
    obtain ⟨-, hw0⟩ := F.wfC_cons hwk
    have ht0 := (F.wfC_one (F.wfC_cons hwk).1).2.1
    have ht1 := (F.wfC_one (F.wfC_cons hw0).1).2.1
    have HRR := HB.out.2.kn HB.out.1.kn
    obtain ⟨g, o, a0, c0, rfl, hg, d0, d1, d2, d3, d4, -, hNx, -⟩ := HRR.cons
    obtain ⟨g', o', a1, c1, e1, hg', f0, f1, f2, f3, f4, -, -, -⟩ := hNx.cons
    injection e1 with e1
    injection e1 with e1 e2
    subst e1 e2
    have hl1 : 1 < (F.cons k0 t0 n0 q0 s0 (.cons k1 t1 n1 q1 s1 r)).len := by simp only [F.len]; omega
    have hl1' : (1 : Int) < ((F.cons k0 t0 n0 q0 s0 (.cons k1 t1 n1 q1 s1 r)).len : Int) := by omega
    have hl0' : (0 : Int) < ((F.cons k0 t0 n0 q0 s0 (.cons k1 t1 n1 q1 s1 r)).len : Int) := by omega
    have hl0 : 0 < (F.cons k0 t0 n0 q0 s0 (.cons k1 t1 n1 q1 s1 r)).len := by omega
    simp only [F.get?, Option.elim]
    generalize (F.cons k0 t0 n0 q0 s0 (.cons k1 t1 n1 q1 s1 r)).len = l at *
    clear hix hwk hw0 HRR hNx
    by_cases h5 : k1 = 5
    · subst h5
      by_cases hv : libN (t0 ++ [46] ++ t1) = 0
      · rw [if_pos (by rw [decide_eq_true hv]; simp)]
        have HV : Hid (libN (t0 ++ [46] ++ t1) = 0) := hv
        clear hv
        go_enter Tryz.func37, Tryz.ntmps37
        go_wp2_with fail
        refine CI.mono ?_
        rintro e v1 ⟨rfl, hbl⟩
        have D1 := HB.out.1.below hbl
        obtain ⟨z0, z1, z2, z3, z4⟩ := D1.bx.five
        have hgs : g < v1.heap.size := Nat.lt_of_lt_of_le hg hbl.size
        have d0 := (hbl.cell (p := ⟨g, o, none⟩) (by exact hg)).trans d0
        have d1 := (hbl.cell (p := ⟨g, o + 1, none⟩) (by exact hg)).trans d1
        have d2 := (hbl.cell (p := ⟨g, o + 2, none⟩) (by exact hg)).trans d2
        have d3 := (hbl.cell (p := ⟨g, o + 3, none⟩) (by exact hg)).trans d3
        have d4 := (hbl.cell (p := ⟨g, o + 4, none⟩) (by exact hg)).trans d4
        have f0 := (hbl.cell (p := ⟨g, o + 5, none⟩) (by exact hg)).trans f0
        have f1 := (hbl.cell (p := ⟨g, o + 5 + 1, none⟩) (by exact hg)).trans f1
        have f2 := (hbl.cell (p := ⟨g, o + 5 + 2, none⟩) (by exact hg)).trans f2
        have f3 := (hbl.cell (p := ⟨g, o + 5 + 3, none⟩) (by exact hg)).trans f3
        have f4 := (hbl.cell (p := ⟨g, o + 5 + 4, none⟩) (by exact hg)).trans f4
        have hXs := D1.bx.lt
        have z4A := fun o1 => ((b1 v1 o1).cell (p := ⟨X, 4, none⟩) (by exact hXs)).trans z4
        have z4B := fun o1 o2 => ((b2 v1 o1 o2).cell (p := ⟨X, 4, none⟩) (by exact hXs)).trans z4
        have d0A := fun o1 => ((b1 v1 o1).cell (p := ⟨g, o, none⟩) (by exact hgs)).trans d0
        have d0B := fun o1 o2 => ((b2 v1 o1 o2).cell (p := ⟨g, o, none⟩) (by exact hgs)).trans d0
        have d1A := fun o1 => ((b1 v1 o1).cell (p := ⟨g, o + 1, none⟩) (by exact hgs)).trans d1
        have d1B := fun o1 o2 => ((b2 v1 o1 o2).cell (p := ⟨g, o + 1, none⟩) (by exact hgs)).trans d1
        have d2A := fun o1 => ((b1 v1 o1).cell (p := ⟨g, o + 2, none⟩) (by exact hgs)).trans d2
        have d2B := fun o1 o2 => ((b2 v1 o1 o2).cell (p := ⟨g, o + 2, none⟩) (by exact hgs)).trans d2
        have d3A := fun o1 => ((b1 v1 o1).cell (p := ⟨g, o + 3, none⟩) (by exact hgs)).trans d3
        have d3B := fun o1 o2 => ((b2 v1 o1 o2).cell (p := ⟨g, o + 3, none⟩) (by exact hgs)).trans d3
        have d4A := fun o1 => ((b1 v1 o1).cell (p := ⟨g, o + 4, none⟩) (by exact hgs)).trans d4
        have d4B := fun o1 o2 => ((b2 v1 o1 o2).cell (p := ⟨g, o + 4, none⟩) (by exact hgs)).trans d4
        have f0A := fun o1 => ((b1 v1 o1).cell (p := ⟨g, o + 5, none⟩) (by exact hgs)).trans f0
        have f0B := fun o1 o2 => ((b2 v1 o1 o2).cell (p := ⟨g, o + 5, none⟩) (by exact hgs)).trans f0
        have f1A := fun o1 => ((b1 v1 o1).cell (p := ⟨g, o + 5 + 1, none⟩) (by exact hgs)).trans f1
        have f1B := fun o1 o2 => ((b2 v1 o1 o2).cell (p := ⟨g, o + 5 + 1, none⟩) (by exact hgs)).trans f1
        have f2A := fun o1 => ((b1 v1 o1).cell (p := ⟨g, o + 5 + 2, none⟩) (by exact hgs)).trans f2
        have f2B := fun o1 o2 => ((b2 v1 o1 o2).cell (p := ⟨g, o + 5 + 2, none⟩) (by exact hgs)).trans f2
        have f3A := fun o1 => ((b1 v1 o1).cell (p := ⟨g, o + 5 + 3, none⟩) (by exact hgs)).trans f3
        have f3B := fun o1 o2 => ((b2 v1 o1 o2).cell (p := ⟨g, o + 5 + 3, none⟩) (by exact hgs)).trans f3
        have f4A := fun o1 => ((b1 v1 o1).cell (p := ⟨g, o + 5 + 4, none⟩) (by exact hgs)).trans f4
        have f4B := fun o1 o2 => ((b2 v1 o1 o2).cell (p := ⟨g, o + 5 + 4, none⟩) (by exact hgs)).trans f4
        have HD1 : Hid _ := D1
        clear CI D1 p0 p1 p2 p3 p4 hbl
        go_wp2_with fail
        go_cut [4, 5] (fun ov kv wx => ∃ g1 g2, ov = .pointer (some ⟨g1, 0, none⟩) ∧ kv = .pointer (some ⟨g2, 0, none⟩) ∧ Cy No b s W X #[.int .i64 7, .string ⟨t.toArray⟩, .int .i64 n, .int .i64 p, .slice (some ⟨g, o, none⟩) l c] wx ∧ Bx g1 42 #[.int .i64 k0, .string ⟨t0.toArray⟩, .int .i64 n0, .int .i64 q0, .slice a0 s0.len c0] wx ∧ Bx g2 42 #[.int .i64 5, .string ⟨t1.toArray⟩, .int .i64 n1, .int .i64 q1, .slice a1 s1.len c1] wx)
        case first =>
          go_region
          all_goals
            go_wp2_with fail
            go_meet
            first
              | exact ⟨_, _, rfl, rfl, (HD1.out.below (b2 v1 _ _)).drew, ((Bx.new v1 42 _).alloc _).drew, by have q := (Bx.new (v1.alloc (.cells #[.int .i64 (k0), .string ⟨(t0).toArray⟩, .int .i64 (n0), .int .i64 (q0), .slice a0 s0.len c0] 42)) 42 #[.int .i64 5, .string ⟨t1.toArray⟩, .int .i64 n1, .int .i64 q1, .slice a1 s1.len c1]).drew; simpa using q⟩
              | exact ⟨_, _, rfl, rfl, (HD1.out.below (b2 v1 _ _)).drew, by have q := (Bx.new (v1.alloc (.cells #[.int .i64 (5), .string ⟨(t1).toArray⟩, .int .i64 (n1), .int .i64 (q1), .slice a1 s1.len c1] 42)) 42 #[.int .i64 k0, .string ⟨t0.toArray⟩, .int .i64 n0, .int .i64 q0, .slice a0 s0.len c0]).drew; simpa using q, ((Bx.new v1 42 _).alloc _).drew⟩
        case rest =>
          obtain ⟨g1, g2, rfl, rfl, D2, X1, X2⟩ := hcut
          clear HD1 hXs hgs d0 d1 d2 d3 d4 f0 f1 f2 f3 f4 z0 z1 z2 z3 z4 z4A z4B d0A d0B d1A d1B d2A d2B d3A d3B d4A d4B f0A f0B f1A f1B f2A f2B f3A f3B f4A f4B
          obtain ⟨x0, x1, x2, x3, x4⟩ := X1.five
          obtain ⟨y0, y1, y2, y3, y4⟩ := X2.five
          obtain ⟨p0, p1, p2, p3, p4⟩ := D2.bx.five
          have CF := fault_any D2.ck 5 p
          have HD2 : Hid _ := D2
          clear D2 X1 X2
          have L := library_any (t0 ++ [46] ++ t1) wc
          rw [HV.out] at L
          go_wp2_with fail
          refine L.mono ?_
          rintro e v3 ⟨rfl, hw⟩
          rw [hw]
          go_wp2_with fail
          refine CF.mono ?_
          rintro e v3 hq
          have D3 := (HD2.out.step hq).out
          obtain ⟨rfl, -⟩ := hq
          go_wp2
          go_end0
          exact D3

      · rw [if_neg (by simpa using hv)]
        obtain ⟨z, hz⟩ : ∃ z, libN (t0 ++ [46] ++ t1) = z := ⟨_, rfl⟩
        have HV : Hid (libN (t0 ++ [46] ++ t1) = z) := hz
        rw [hz] at hv
        have hvb : (z == 0) = false := by simpa using hv
        clear hz
        go_enter Tryz.func37, Tryz.ntmps37
        go_wp2_with fail
        refine CI.mono ?_
        rintro e v1 ⟨rfl, hbl⟩
        have D1 := HB.out.1.below hbl
        obtain ⟨z0, z1, z2, z3, z4⟩ := D1.bx.five
        have hgs : g < v1.heap.size := Nat.lt_of_lt_of_le hg hbl.size
        have d0 := (hbl.cell (p := ⟨g, o, none⟩) (by exact hg)).trans d0
        have d1 := (hbl.cell (p := ⟨g, o + 1, none⟩) (by exact hg)).trans d1
        have d2 := (hbl.cell (p := ⟨g, o + 2, none⟩) (by exact hg)).trans d2
        have d3 := (hbl.cell (p := ⟨g, o + 3, none⟩) (by exact hg)).trans d3
        have d4 := (hbl.cell (p := ⟨g, o + 4, none⟩) (by exact hg)).trans d4
        have f0 := (hbl.cell (p := ⟨g, o + 5, none⟩) (by exact hg)).trans f0
        have f1 := (hbl.cell (p := ⟨g, o + 5 + 1, none⟩) (by exact hg)).trans f1
        have f2 := (hbl.cell (p := ⟨g, o + 5 + 2, none⟩) (by exact hg)).trans f2
        have f3 := (hbl.cell (p := ⟨g, o + 5 + 3, none⟩) (by exact hg)).trans f3
        have f4 := (hbl.cell (p := ⟨g, o + 5 + 4, none⟩) (by exact hg)).trans f4
        have hXs := D1.bx.lt
        have z4A := fun o1 => ((b1 v1 o1).cell (p := ⟨X, 4, none⟩) (by exact hXs)).trans z4
        have z4B := fun o1 o2 => ((b2 v1 o1 o2).cell (p := ⟨X, 4, none⟩) (by exact hXs)).trans z4
        have d0A := fun o1 => ((b1 v1 o1).cell (p := ⟨g, o, none⟩) (by exact hgs)).trans d0
        have d0B := fun o1 o2 => ((b2 v1 o1 o2).cell (p := ⟨g, o, none⟩) (by exact hgs)).trans d0
        have d1A := fun o1 => ((b1 v1 o1).cell (p := ⟨g, o + 1, none⟩) (by exact hgs)).trans d1
        have d1B := fun o1 o2 => ((b2 v1 o1 o2).cell (p := ⟨g, o + 1, none⟩) (by exact hgs)).trans d1
        have d2A := fun o1 => ((b1 v1 o1).cell (p := ⟨g, o + 2, none⟩) (by exact hgs)).trans d2
        have d2B := fun o1 o2 => ((b2 v1 o1 o2).cell (p := ⟨g, o + 2, none⟩) (by exact hgs)).trans d2
        have d3A := fun o1 => ((b1 v1 o1).cell (p := ⟨g, o + 3, none⟩) (by exact hgs)).trans d3
        have d3B := fun o1 o2 => ((b2 v1 o1 o2).cell (p := ⟨g, o + 3, none⟩) (by exact hgs)).trans d3
        have d4A := fun o1 => ((b1 v1 o1).cell (p := ⟨g, o + 4, none⟩) (by exact hgs)).trans d4
        have d4B := fun o1 o2 => ((b2 v1 o1 o2).cell (p := ⟨g, o + 4, none⟩) (by exact hgs)).trans d4
        have f0A := fun o1 => ((b1 v1 o1).cell (p := ⟨g, o + 5, none⟩) (by exact hgs)).trans f0
        have f0B := fun o1 o2 => ((b2 v1 o1 o2).cell (p := ⟨g, o + 5, none⟩) (by exact hgs)).trans f0
        have f1A := fun o1 => ((b1 v1 o1).cell (p := ⟨g, o + 5 + 1, none⟩) (by exact hgs)).trans f1
        have f1B := fun o1 o2 => ((b2 v1 o1 o2).cell (p := ⟨g, o + 5 + 1, none⟩) (by exact hgs)).trans f1
        have f2A := fun o1 => ((b1 v1 o1).cell (p := ⟨g, o + 5 + 2, none⟩) (by exact hgs)).trans f2
        have f2B := fun o1 o2 => ((b2 v1 o1 o2).cell (p := ⟨g, o + 5 + 2, none⟩) (by exact hgs)).trans f2
        have f3A := fun o1 => ((b1 v1 o1).cell (p := ⟨g, o + 5 + 3, none⟩) (by exact hgs)).trans f3
        have f3B := fun o1 o2 => ((b2 v1 o1 o2).cell (p := ⟨g, o + 5 + 3, none⟩) (by exact hgs)).trans f3
        have f4A := fun o1 => ((b1 v1 o1).cell (p := ⟨g, o + 5 + 4, none⟩) (by exact hgs)).trans f4
        have f4B := fun o1 o2 => ((b2 v1 o1 o2).cell (p := ⟨g, o + 5 + 4, none⟩) (by exact hgs)).trans f4
        have HD1 : Hid _ := D1
        clear CI D1 p0 p1 p2 p3 p4 hbl
        go_wp2_with fail
        go_cut [4, 5] (fun ov kv wx => ∃ g1 g2, ov = .pointer (some ⟨g1, 0, none⟩) ∧ kv = .pointer (some ⟨g2, 0, none⟩) ∧ Cy No b s W X #[.int .i64 7, .string ⟨t.toArray⟩, .int .i64 n, .int .i64 p, .slice (some ⟨g, o, none⟩) l c] wx ∧ Bx g1 42 #[.int .i64 k0, .string ⟨t0.toArray⟩, .int .i64 n0, .int .i64 q0, .slice a0 s0.len c0] wx ∧ Bx g2 42 #[.int .i64 5, .string ⟨t1.toArray⟩, .int .i64 n1, .int .i64 q1, .slice a1 s1.len c1] wx)
        case first =>
          go_region
          all_goals
            go_wp2_with fail
            go_meet
            first
              | exact ⟨_, _, rfl, rfl, (HD1.out.below (b2 v1 _ _)).drew, ((Bx.new v1 42 _).alloc _).drew, by have q := (Bx.new (v1.alloc (.cells #[.int .i64 (k0), .string ⟨(t0).toArray⟩, .int .i64 (n0), .int .i64 (q0), .slice a0 s0.len c0] 42)) 42 #[.int .i64 5, .string ⟨t1.toArray⟩, .int .i64 n1, .int .i64 q1, .slice a1 s1.len c1]).drew; simpa using q⟩
              | exact ⟨_, _, rfl, rfl, (HD1.out.below (b2 v1 _ _)).drew, by have q := (Bx.new (v1.alloc (.cells #[.int .i64 (5), .string ⟨(t1).toArray⟩, .int .i64 (n1), .int .i64 (q1), .slice a1 s1.len c1] 42)) 42 #[.int .i64 k0, .string ⟨t0.toArray⟩, .int .i64 n0, .int .i64 q0, .slice a0 s0.len c0]).drew; simpa using q, ((Bx.new v1 42 _).alloc _).drew⟩
        case rest =>
          obtain ⟨g1, g2, rfl, rfl, D2, X1, X2⟩ := hcut
          clear HD1 hXs hgs d0 d1 d2 d3 d4 f0 f1 f2 f3 f4 z0 z1 z2 z3 z4 z4A z4B d0A d0B d1A d1B d2A d2B d3A d3B d4A d4B f0A f0B f1A f1B f2A f2B f3A f3B f4A f4B
          obtain ⟨x0, x1, x2, x3, x4⟩ := X1.five
          obtain ⟨y0, y1, y2, y3, y4⟩ := X2.five
          obtain ⟨p0, p1, p2, p3, p4⟩ := D2.bx.five
          have HD2 : Hid (CP No b W s (.returned (.tuple #[])) wc) := D2.out
          clear D2 X1 X2
          have L := library_any (t0 ++ [46] ++ t1) wc
          rw [HV.out] at L
          go_wp2_with fail
          refine L.mono ?_
          rintro e v3 ⟨rfl, hw⟩
          rw [hw]
          go_wp2
          go_end0
          exact HD2.out

    · rw [if_pos (by simp [h5])]
      have h5b : (k1 == 5) = false := by simpa using h5
      go_enter Tryz.func37, Tryz.ntmps37
      go_wp2_with fail
      refine CI.mono ?_
      rintro e v1 ⟨rfl, hbl⟩
      have D1 := HB.out.1.below hbl
      obtain ⟨z0, z1, z2, z3, z4⟩ := D1.bx.five
      have hgs : g < v1.heap.size := Nat.lt_of_lt_of_le hg hbl.size
      have d0 := (hbl.cell (p := ⟨g, o, none⟩) (by exact hg)).trans d0
      have d1 := (hbl.cell (p := ⟨g, o + 1, none⟩) (by exact hg)).trans d1
      have d2 := (hbl.cell (p := ⟨g, o + 2, none⟩) (by exact hg)).trans d2
      have d3 := (hbl.cell (p := ⟨g, o + 3, none⟩) (by exact hg)).trans d3
      have d4 := (hbl.cell (p := ⟨g, o + 4, none⟩) (by exact hg)).trans d4
      have f0 := (hbl.cell (p := ⟨g, o + 5, none⟩) (by exact hg)).trans f0
      have f1 := (hbl.cell (p := ⟨g, o + 5 + 1, none⟩) (by exact hg)).trans f1
      have f2 := (hbl.cell (p := ⟨g, o + 5 + 2, none⟩) (by exact hg)).trans f2
      have f3 := (hbl.cell (p := ⟨g, o + 5 + 3, none⟩) (by exact hg)).trans f3
      have f4 := (hbl.cell (p := ⟨g, o + 5 + 4, none⟩) (by exact hg)).trans f4
      have hXs := D1.bx.lt
      have z4A := fun o1 => ((b1 v1 o1).cell (p := ⟨X, 4, none⟩) (by exact hXs)).trans z4
      have z4B := fun o1 o2 => ((b2 v1 o1 o2).cell (p := ⟨X, 4, none⟩) (by exact hXs)).trans z4
      have d0A := fun o1 => ((b1 v1 o1).cell (p := ⟨g, o, none⟩) (by exact hgs)).trans d0
      have d0B := fun o1 o2 => ((b2 v1 o1 o2).cell (p := ⟨g, o, none⟩) (by exact hgs)).trans d0
      have d1A := fun o1 => ((b1 v1 o1).cell (p := ⟨g, o + 1, none⟩) (by exact hgs)).trans d1
      have d1B := fun o1 o2 => ((b2 v1 o1 o2).cell (p := ⟨g, o + 1, none⟩) (by exact hgs)).trans d1
      have d2A := fun o1 => ((b1 v1 o1).cell (p := ⟨g, o + 2, none⟩) (by exact hgs)).trans d2
      have d2B := fun o1 o2 => ((b2 v1 o1 o2).cell (p := ⟨g, o + 2, none⟩) (by exact hgs)).trans d2
      have d3A := fun o1 => ((b1 v1 o1).cell (p := ⟨g, o + 3, none⟩) (by exact hgs)).trans d3
      have d3B := fun o1 o2 => ((b2 v1 o1 o2).cell (p := ⟨g, o + 3, none⟩) (by exact hgs)).trans d3
      have d4A := fun o1 => ((b1 v1 o1).cell (p := ⟨g, o + 4, none⟩) (by exact hgs)).trans d4
      have d4B := fun o1 o2 => ((b2 v1 o1 o2).cell (p := ⟨g, o + 4, none⟩) (by exact hgs)).trans d4
      have f0A := fun o1 => ((b1 v1 o1).cell (p := ⟨g, o + 5, none⟩) (by exact hgs)).trans f0
      have f0B := fun o1 o2 => ((b2 v1 o1 o2).cell (p := ⟨g, o + 5, none⟩) (by exact hgs)).trans f0
      have f1A := fun o1 => ((b1 v1 o1).cell (p := ⟨g, o + 5 + 1, none⟩) (by exact hgs)).trans f1
      have f1B := fun o1 o2 => ((b2 v1 o1 o2).cell (p := ⟨g, o + 5 + 1, none⟩) (by exact hgs)).trans f1
      have f2A := fun o1 => ((b1 v1 o1).cell (p := ⟨g, o + 5 + 2, none⟩) (by exact hgs)).trans f2
      have f2B := fun o1 o2 => ((b2 v1 o1 o2).cell (p := ⟨g, o + 5 + 2, none⟩) (by exact hgs)).trans f2
      have f3A := fun o1 => ((b1 v1 o1).cell (p := ⟨g, o + 5 + 3, none⟩) (by exact hgs)).trans f3
      have f3B := fun o1 o2 => ((b2 v1 o1 o2).cell (p := ⟨g, o + 5 + 3, none⟩) (by exact hgs)).trans f3
      have f4A := fun o1 => ((b1 v1 o1).cell (p := ⟨g, o + 5 + 4, none⟩) (by exact hgs)).trans f4
      have f4B := fun o1 o2 => ((b2 v1 o1 o2).cell (p := ⟨g, o + 5 + 4, none⟩) (by exact hgs)).trans f4
      have HD1 : Hid _ := D1
      clear CI D1 p0 p1 p2 p3 p4 hbl
      go_wp2_with fail
      go_cut [4, 5] (fun ov kv wx => ∃ g1 g2, ov = .pointer (some ⟨g1, 0, none⟩) ∧ kv = .pointer (some ⟨g2, 0, none⟩) ∧ Cy No b s W X #[.int .i64 7, .string ⟨t.toArray⟩, .int .i64 n, .int .i64 p, .slice (some ⟨g, o, none⟩) l c] wx ∧ Bx g1 42 #[.int .i64 k0, .string ⟨t0.toArray⟩, .int .i64 n0, .int .i64 q0, .slice a0 s0.len c0] wx ∧ Bx g2 42 #[.int .i64 k1, .string ⟨t1.toArray⟩, .int .i64 n1, .int .i64 q1, .slice a1 s1.len c1] wx)
      case first =>
        go_region
        all_goals
          go_wp2_with fail
          go_meet
          first
            | exact ⟨_, _, rfl, rfl, (HD1.out.below (b2 v1 _ _)).drew, ((Bx.new v1 42 _).alloc _).drew, by have q := (Bx.new (v1.alloc (.cells #[.int .i64 (k0), .string ⟨(t0).toArray⟩, .int .i64 (n0), .int .i64 (q0), .slice a0 s0.len c0] 42)) 42 #[.int .i64 k1, .string ⟨t1.toArray⟩, .int .i64 n1, .int .i64 q1, .slice a1 s1.len c1]).drew; simpa using q⟩
            | exact ⟨_, _, rfl, rfl, (HD1.out.below (b2 v1 _ _)).drew, by have q := (Bx.new (v1.alloc (.cells #[.int .i64 (k1), .string ⟨(t1).toArray⟩, .int .i64 (n1), .int .i64 (q1), .slice a1 s1.len c1] 42)) 42 #[.int .i64 k0, .string ⟨t0.toArray⟩, .int .i64 n0, .int .i64 q0, .slice a0 s0.len c0]).drew; simpa using q, ((Bx.new v1 42 _).alloc _).drew⟩
      case rest =>
        obtain ⟨g1, g2, rfl, rfl, D2, X1, X2⟩ := hcut
        clear HD1 hXs hgs d0 d1 d2 d3 d4 f0 f1 f2 f3 f4 z0 z1 z2 z3 z4 z4A z4B d0A d0B d1A d1B d2A d2B d3A d3B d4A d4B f0A f0B f1A f1B f2A f2B f3A f3B f4A f4B
        obtain ⟨x0, x1, x2, x3, x4⟩ := X1.five
        obtain ⟨y0, y1, y2, y3, y4⟩ := X2.five
        obtain ⟨p0, p1, p2, p3, p4⟩ := D2.bx.five
        have CF := fault_any D2.ck 5 p
        have HD2 : Hid _ := D2
        clear D2 X1 X2
        go_wp2_with fail
        refine CF.mono ?_
        rintro e v3 hq
        have D3 := (HD2.out.step hq).out
        obtain ⟨rfl, -⟩ := hq
        go_wp2
        go_end0
        exact D3

  · rw [Bool.eq_false_iff.2 hix] at CI
    rw [if_neg hix]
    have HC : Hid (∀ w, Cy No b s W X #[.int .i64 7, .string ⟨t.toArray⟩, .int .i64 n, .int .i64 p, .slice a ks.len c] w → Calls Tryz.prog 39 #[.pointer (some ⟨b, 0, none⟩), .slice a ks.len c] w (CP (fun g => No g ∨ g = X) b w (ckN nd ks s))) := fun w hw => nodes_any H CE (fun g => No g ∨ g = X) b s w a c ks hw.ck (hw.rv hr) (by omega) hwk (by omega) hp0 (by omega)
    clear h hr B hr1 hix
    go_enter Tryz.func37, Tryz.ntmps37
    go_wp2_with fail
    refine CI.mono ?_
    rintro e v1 ⟨rfl, hbl⟩
    have D1 := HB.out.1.below hbl
    obtain ⟨z0, z1, z2, z3, z4⟩ := D1.bx.five
    have K := HC.out v1 D1
    have HD1 : Hid _ := D1
    clear CI D1 p0 p1 p2 p3 p4 hbl HC HB
    go_wp2_with fail
    refine K.mono ?_
    rintro e v2 hq
    have D2 := (HD1.out.step hq).out
    obtain ⟨rfl, -⟩ := hq
    go_wp2
    go_end0
    exact D2
end Go.Proofs.YtmejlldabdjpjaaGreat
