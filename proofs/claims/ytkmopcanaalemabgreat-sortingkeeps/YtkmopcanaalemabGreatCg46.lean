/- The walk of the reference's Get. The great seat's numbers. -/
import Derived.Test.YtkmopcanaalemabGreatCg45
import Derived.Test.YtkmopcanaalemabGreatCg43
namespace Go.Proofs.YtkmopcanaalemabGreat
open Go.RowKit

theorem bset3 {N : Nat} {w w1 : World} (h : Below N w w1) {g : Nat} (hg : N ≤ g) (x : V) : Below N w (set3 w1 g x) := ((h.setCell (p := ⟨g, 0, none⟩) hg _).setCell (p := ⟨g, 1, none⟩) hg _).setCell (p := ⟨g, 2, none⟩) hg _
theorem set3_keep (w : World) (g : Nat) (x : V) : Keep (fun y => y ≠ g) w (set3 w g x) := (Keep.refl _ w).set3 (fun q => q rfl) x
/-- A value in a box beside the result's. -/
structure Gz (w W : World) (N vx : Nat) (xv : V) : Prop where
  bel : Below N w W
  bx : Bx W vx xv
  r3 : R3 W (N + 1) nil
  ne : vx ≠ N + 1
  ge : N ≤ vx
set_option maxRecDepth 20000 in
set_option maxHeartbeats 4000000 in
theorem rtget_any {No : Nat → Prop} {w : World} {RT A P ka va ca : Nat} {cb : Nat → Nat} {G c : Nat} {t : TS} {s : H.St} (h : RQ No w RT A P ka va ca cb G c t s) (hc : c ≤ 700000) (k : V) (hr : Rng k) :
    Calls Tryz.prog 106 #[.pointer (some ⟨RT, 0, none⟩), vv k] w fun e w' => e = .returned (vv (pget t.p k)) ∧ RQ No w' RT A P ka va ca cb G (c + 1) { t with pr := t.pr + (prd t.p k : Nat) } s ∧ Keep No w w' := by
  have B0 := b2 w (vb k.1 k.2.1 k.2.2) (vb 0 0 ⟨#[]⟩)
  have X1 : Bx ((w.alloc (vb k.1 k.2.1 k.2.2)).alloc (vb 0 0 ⟨#[]⟩)) w.heap.size k := (Bx.made w k).below (b1 _ _)
  have X2 := R3.made (w.alloc (vb k.1 k.2.1 k.2.2)) nil
  rw [show (w.alloc (vb k.1 k.2.1 k.2.2)).heap.size = w.heap.size + 1 by simp] at X2
  have X2' : R3 ((w.alloc (vb k.1 k.2.1 k.2.2)).alloc (vb 0 0 ⟨#[]⟩)) (w.heap.size + 1) nil := X2
  clear X2
  have eX : (w.alloc (vb k.1 k.2.1 k.2.2)).heap.size = w.heap.size + 1 := by simp
  obtain ⟨W0, hW0⟩ : ∃ W0, (w.alloc (vb k.1 k.2.1 k.2.2)).alloc (vb 0 0 ⟨#[]⟩) = W0 := ⟨_, rfl⟩
  rw [hW0] at B0 X1 X2'
  unfold vb at hW0 eX
  have h0 := h.below B0
  have CW := rwithin_any k W0 h0.rb.c0 h0.rb.ltR
  have HQ : Hid (RQ No w RT A P ka va ca cb G c t s) := h
  have HB0 : Hid (Below w.heap.size w W0) := B0
  have HX1 : Hid (Bx W0 w.heap.size k) := X1
  have HX2 : Hid (R3 W0 (w.heap.size + 1) nil) := X2'
  have d0 := X1.c0
  have d1 := X1.c1
  have d2 := X1.c2
  have hle := h.ti.le
  have hp0 := h.p0
  have hp1 := h.p1
  have hrd := prd_le h.ti k
  have HTI : Hid (TI t.p) := h.ti
  have HLt : Hid (RT < w.heap.size) := h.rb.ltR
  clear h B0 X1 X2' h0
  generalize hsz : w.heap.size = N at *
  have HSZ : Hid (w.heap.size = N) := hsz
  by_cases hA : inA t.p.n k
  · rw [decide_eq_true hA] at CW
    have e1 : pget t.p k = t.p.F (ix k) := by unfold pget; rw [if_pos hA]
    have e2 : prd t.p k = 0 := by unfold prd; rw [if_pos hA]
    rw [e1, e2]
    have hix : ix k < t.p.n := by have := hA.2.2; unfold ix; omega
    have Hk1 : Hid (k.2.1 = (ix k : Int) + 1) := by have := hA.2.2; show k.2.1 = (ix k : Int) + 1; unfold ix; omega
    have hwr : IntKind.i64.wrap (k.2.1 - 1) = (ix k : Int) := by have := Hk1.out; rw [IntKind.wrap_i64]; omega
    have hixi : (ix k : Int) < (t.p.n : Int) := by omega
    have hixn : ¬ ((ix k : Int) < 0) := by omega
    unfold vv vl at CW ⊢
    clear hA e1 e2
    obtain ⟨x, hx⟩ : ∃ x, t.p.F (ix k) = x := ⟨_, rfl⟩
    rw [hx]
    have HXX : Hid (t.p.F (ix k) = x) := hx
    clear hx
    go_enter Tryz.func106, Tryz.ntmps106
    go_wp2_with fail
    refine CW.mono ?_; rintro e W1 ⟨rfl, hb1⟩
    have hbN : Below N w W1 := bthen HB0.out (HSZ.out ▸ HB0.out.size) hb1
    have q1 := HQ.out.rb.below (HSZ.out.symm ▸ hbN)
    have r1 := HX2.out.below hb1
    have f1 := (HX1.out.below hb1).c1
    have g0 := q1.c0
    obtain ⟨s0, s1, s2⟩ := q1.sl.at hix
    rw [HXX.out] at s0 s1 s2
    have n0 : W1.cell? ⟨N + 1, 0, none⟩ = some (.int .i64 0) := r1.bx.c0
    have n1 : W1.cell? ⟨N + 1, 1, none⟩ = some (.int .i64 0) := r1.bx.c1
    have n2 : W1.cell? ⟨N + 1, 2, none⟩ = some (.string ⟨#[]⟩) := r1.bx.c2
    have nf := r1.fz
    have r2 := r1.set x
    have hb2 := bset3 hbN (g := N + 1) (by omega) x
    obtain ⟨W2, hW2⟩ : ∃ W2, set3 W1 (N + 1) x = W2 := ⟨_, rfl⟩
    rw [hW2] at r2 hb2
    unfold set3 at hW2
    have HR2 : Hid (Bx W2 (N + 1) x) := r2.bx
    have HS : Hid (RQ No W2.drew RT A P ka va ca cb G (c + 1) { t with pr := t.pr + ((0 : Nat) : Int) } s ∧ Keep No w W2.drew) := by
      have hb3 : Below w.heap.size w W2.drew := (HSZ.out.symm ▸ hb2).trans (bdrew _ _ 1)
      refine ⟨?_, Keep.of hb3⟩
      rw [show t.pr + ((0 : Nat) : Int) = t.pr by omega]
      exact (HQ.out.below hb3).more (by omega)
    clear q1 r1 r2 hb1 hb2 hbN CW HX1 HX2 hW0 eX d0 d1 d2
    go_wp2_with fail
    go_region
    all_goals
      go_wp2_with fail
      have v0 := HR2.out.c0
      have v1 := HR2.out.c1
      have v2 := HR2.out.c2
      refine bodyPost_ret (v := .agg #[.int .i64 x.1, .int .i64 x.2.1, .string x.2.2]) (by simp [results, Tryz.results106, go_sem, v0, v1, v2]) rfl ⟨rfl, HS.out⟩
  · rw [decide_eq_false hA] at CW
    have e1 : pget t.p k = xAt t.p.g (fnd t.p.z t.p.g k).1 := by unfold pget; rw [if_neg hA]; rfl
    have e2 : prd t.p k = (fnd t.p.z t.p.g k).2 := by unfold prd; rw [if_neg hA]
    rw [e1, e2]
    rw [e2] at hrd
    have HCF : Hid (∀ W, Below W0.heap.size W0 W → Calls Tryz.prog 119 #[.pointer (some ⟨P, 0, none⟩), .agg #[.int .i64 k.1, .int .i64 k.2.1, .string k.2.2]] W fun e w' => e = .returned (.tuple #[.agg #[.int .i64 (xAt t.p.g (fnd t.p.z t.p.g k).1).1, .int .i64 (xAt t.p.g (fnd t.p.z t.p.g k).1).2.1, .string (xAt t.p.g (fnd t.p.z t.p.g k).1).2.2], .int .i64 ((fnd t.p.z t.p.g k).2 : Nat)]) ∧ Below W.heap.size W w') := fun W q =>
      rget_any k W (HQ.out.rb.below (bthen (HSZ.out.symm ▸ HB0.out) (by rw [HSZ.out]; exact HSZ.out ▸ HB0.out.size) q)).rp HTI.out.inv HTI.out.rt hr
    generalize xAt t.p.g (fnd t.p.z t.p.g k).1 = x at *
    generalize (fnd t.p.z t.p.g k).2 = rd at *
    have hwr : IntKind.i64.wrap (t.pr + (rd : Int)) = t.pr + (rd : Int) := by rw [IntKind.wrap_i64]; omega
    unfold vv vl at CW ⊢
    clear hA e1 e2
    go_enter Tryz.func106, Tryz.ntmps106
    go_wp2_with fail
    refine CW.mono ?_; rintro e W1 ⟨rfl, hb1⟩
    have hbN : Below N w W1 := bthen HB0.out (HSZ.out ▸ HB0.out.size) hb1
    have hs1 : N + 2 ≤ W1.heap.size := by have h1 := HX2.out.bx.lt; have h2 := hb1.size; omega
    have q1 := HQ.out.rb.below (HSZ.out.symm ▸ hbN)
    have x1 := HX1.out.below hb1
    have f0 := x1.c0
    have f1 := x1.c1
    have f2 := x1.c2
    have g1 := q1.c1
    have HR1 : Hid (R3 W1 (N + 1) nil) := HX2.out.below hb1
    have HBN : Hid (Below N w W1) := hbN
    have HG1 : Hid (∀ w3, Below W1.heap.size W1 w3 → Gz w (w3.alloc (.cells #[.int .i64 x.1, .int .i64 x.2.1, .string x.2.2] 36)) N w3.heap.size x) := fun w3 b3 => by
      have bb := bthen b3 b3.size (b1 w3 (.cells #[.int .i64 x.1, .int .i64 x.2.1, .string x.2.2] 36))
      exact ⟨bthen HBN.out (by have := hs1; omega) bb, Bx.made w3 x, HR1.out.below bb, by have := b3.size; omega, by have := b3.size; omega⟩
    have HG2 : Hid (∀ w3, Below W1.heap.size W1 w3 → R3 w3 W1.heap.size nil → Gz w (set3 w3 W1.heap.size x) N W1.heap.size x) := fun w3 b3 r3 => by
      have bb : Below W1.heap.size W1 (set3 w3 W1.heap.size x) := bset3 b3 (Nat.le_refl _) x
      exact ⟨bthen HBN.out (by have := hs1; omega) bb, (r3.set x).bx, HR1.out.below bb, by omega, by omega⟩
    have BA := bthen (bdrew1 W1) (Nat.le_refl _) (b1 W1.drew (.cells #[.int .i64 0, .int .i64 0, .string ⟨#[]⟩] 36))
    have RA : R3 (W1.drew.alloc (.cells #[.int .i64 0, .int .i64 0, .string ⟨#[]⟩] 36)) W1.heap.size nil := R3.made W1.drew nil
    obtain ⟨Wa, hWa⟩ : ∃ Wa, W1.drew.alloc (.cells #[.int .i64 0, .int .i64 0, .string ⟨#[]⟩] 36) = Wa := ⟨_, rfl⟩
    rw [hWa] at BA RA
    have xa := x1.below BA
    have z0 := xa.c0
    have z1 := xa.c1
    have z2 := xa.c2
    have zP := (q1.below BA).c1
    have hb01 : ∀ W, Below W1.heap.size W1 W → Below W0.heap.size W0 W := fun W q => bthen hb1 hb1.size q
    have CFd := (HCF.out W1.drew (hb01 _ (bdrew1 W1))).mono (R' := fun e w' => e = .returned (.tuple #[.agg #[.int .i64 x.1, .int .i64 x.2.1, .string x.2.2], .int .i64 (rd : Nat)]) ∧ Hid (Below W1.heap.size W1 w')) fun _ _ hh => ⟨hh.1, bthen (bdrew1 W1) (Nat.le_refl _) hh.2⟩
    have CFa := (HCF.out Wa (hb01 _ BA)).mono (R' := fun e w' => e = .returned (.tuple #[.agg #[.int .i64 x.1, .int .i64 x.2.1, .string x.2.2], .int .i64 (rd : Nat)]) ∧ Hid (Below W1.heap.size W1 w') ∧ R3 w' W1.heap.size nil) fun _ _ hh => ⟨hh.1, bthen BA BA.size hh.2, RA.below hh.2⟩
    clear q1 x1 xa hb1 hbN hb01 CW HCF HX1 HX2 HR1 HBN BA RA hW0 eX d0 d1 d2 HB0 hs1
    go_upto_region 3 with fail
    go_cut [5, 6] from 19 to 27 (fun bw rw wx => ∃ vx : Nat, bw = .pointer (some ⟨vx, 0, none⟩) ∧ rw = .int .i64 (rd : Nat) ∧ Hid (Gz w wx N vx x))
    case first =>
      go_region_with (first
        | (go_at_call 119; refine CFd.mono ?_; rintro e w3 ⟨rfl, hB3⟩; have HPX : Hid _ := HG1.out w3 hB3.out; obtain ⟨W8, hW8⟩ : ∃ W8, w3.alloc (.cells #[.int .i64 x.1, .int .i64 x.2.1, .string x.2.2] 36) = W8 := ⟨_, rfl⟩; rw [hW8] at HPX)
        | (go_at_call 119; refine CFa.mono ?_; rintro e w3 ⟨rfl, hB3, q3⟩; have q0 : w3.cell? ⟨W1.heap.size, 0, none⟩ = some (.int .i64 0) := q3.bx.c0; have q1 : w3.cell? ⟨W1.heap.size, 1, none⟩ = some (.int .i64 0) := q3.bx.c1; have q2 : w3.cell? ⟨W1.heap.size, 2, none⟩ = some (.string ⟨#[]⟩) := q3.bx.c2; have qf : ∀ j, w3.frozen? ⟨W1.heap.size, j, none⟩ = false := q3.fz; have HPX : Hid _ := HG2.out w3 hB3.out q3; obtain ⟨W8, hW8⟩ : ∃ W8, set3 w3 W1.heap.size x = W8 := ⟨_, rfl⟩; rw [hW8] at HPX; unfold set3 at hW8; clear q3))
      all_goals
        go_wp2_with fail
        go_meet
        exact ⟨_, rfl, rfl, HPX⟩
    case rest =>
      obtain ⟨vx, rfl, rfl, HZ⟩ := hcut
      clear CFd CFa HG1 HG2 hWa f0 f1 f2 g1 z0 z1 z2 zP
      have q2 := HQ.out.below (HSZ.out.symm ▸ HZ.out.bel)
      have c5 := q2.rb.c5
      have z5 := q2.rb.fz
      obtain ⟨s1, s2⟩ := (q2.more (c' := c + 1) (by omega)).probe (t.pr + (rd : Int)) (by omega) (by push_cast; omega)
      obtain ⟨W3, hW3⟩ : ∃ W3, wc.setCell ⟨RT, 5, none⟩ (.int .i64 (t.pr + (rd : Int))) = W3 := ⟨_, rfl⟩
      have kR : Keep (fun g => g ≠ RT) wc W3 := by rw [← hW3]; exact (Keep.refl (fun g => g ≠ RT) wc).set (p := ⟨RT, 5, none⟩) (fun q => q rfl) _
      rw [hW3] at s1 s2
      have bx3 := HZ.out.bx.kept kR (by have h1 := HLt.out; have h2 := HZ.out.ge; show vx ≠ RT; omega)
      have r3 := HZ.out.r3.kept kR (by have h1 := HLt.out; show N + 1 ≠ RT; omega)
      have y0 := bx3.c0
      have y1 := bx3.c1
      have y2 := bx3.c2
      have n0 : W3.cell? ⟨N + 1, 0, none⟩ = some (.int .i64 0) := r3.bx.c0
      have n1 : W3.cell? ⟨N + 1, 1, none⟩ = some (.int .i64 0) := r3.bx.c1
      have n2 : W3.cell? ⟨N + 1, 2, none⟩ = some (.string ⟨#[]⟩) := r3.bx.c2
      have nf := r3.fz
      have r4 := (r3.set x).bx
      have hls : wc.heap.size = W3.heap.size := by rw [← hW3]; simp [World.setCell]
      have b4 : Below (N + 1) W3 (set3 W3 (N + 1) x) := bset3 (Below.refl _ _) (Nat.le_refl _) x
      obtain ⟨W4, hW4⟩ : ∃ W4, set3 W3 (N + 1) x = W4 := ⟨_, rfl⟩
      rw [hW4] at r4 b4
      unfold set3 at hW4
      have HR4 : Hid (Bx W4 (N + 1) x) := r4
      have HS : Hid (RQ No W4 RT A P ka va ca cb G (c + 1) { t with pr := t.pr + (rd : Int) } s ∧ Keep No w W4) := by
        have hnew := HQ.out.news (HSZ.out.symm ▸ HZ.out.bel)
        obtain ⟨u1, u2⟩ := (hnew.more (c' := c + 1) (by omega)).probe (t.pr + (rd : Int)) (by omega) (by push_cast; omega)
        rw [hW3] at u1 u2
        have hb4 : Below w.heap.size w wc := HSZ.out.symm ▸ HZ.out.bel
        have hlt : N + 1 < wc.heap.size := HZ.out.r3.bx.lt
        have u3 := u1.frame (w' := W4) ⟨b4.os, b4.tape, b4.output, b4.size, fun g hg hn => by
          by_cases q : g = N + 1
          · exact absurd (.inr ⟨by have := HSZ.out; omega, by omega⟩) hn
          · rw [← hW4]
            exact ((set3_keep W3 (N + 1) x).block g hg q)⟩
        refine ⟨u3.sub fun g q => .inl (.inl q), ((Keep.of hb4).trans s2).trans ?_⟩
        have kN : Keep (fun g => g ≠ N + 1) W3 W4 := by rw [← hW4]; exact set3_keep W3 (N + 1) x
        exact kN.sub fun g q e => by have h1 := HQ.out.nos g q; have h2 := HSZ.out; omega
      clear s1 s2 kR bx3 r3 r4 b4 q2
      go_wp2_with fail
      have v0 := HR4.out.c0
      have v1 := HR4.out.c1
      have v2 := HR4.out.c2
      refine bodyPost_ret (v := .agg #[.int .i64 x.1, .int .i64 x.2.1, .string x.2.2]) (by simp [results, Tryz.results106, go_sem, v0, v1, v2]) rfl ⟨rfl, HS.out⟩
end Go.Proofs.YtkmopcanaalemabGreat
