/- The walk of the reference's Get. The great seat's numbers. -/
import Derived.Test.YtoomlihccniooaaGreatCg32
import Derived.Test.YtoomlihccniooaaGreatCg28
import Derived.Test.YtoomlihccniooaaGreatCg31
import Derived.Test.YtoomlihccniooaaGreatCg29
namespace Go.Proofs.YtoomlihccniooaaGreat
open Go.RowKit

theorem bset3 {N : Nat} {w w1 : World} (h : Below N w w1) {g : Nat} (hg : N ≤ g) (x : V) : Below N w (set3 w1 g x) := ((h.setCell (p := ⟨g, 0, none⟩) hg _).setCell (p := ⟨g, 1, none⟩) hg _).setCell (p := ⟨g, 2, none⟩) hg _
theorem set3_keep (w : World) (g : Nat) (x : V) : Keep (fun y => y ≠ g) w (set3 w g x) := (Keep.refl _ w).set3 (fun q => q rfl) x
/-- A value in a box beside the result's. -/
structure Gz (w W : World) (N vx : Nat) (xv : V) : Prop where
  bel : Below N w W
  bx : Bx W vx xv
  r3 : R3 W (N + 1) nil
  ne : vx ≠ N + 1
  ge : N ≤ vx
set_option maxRecDepth 20000 in
set_option maxHeartbeats 4000000 in
theorem rtget_any {No : Nat → Prop} {w : World} {RT A P ka va ca : Nat} {cb : Nat → Nat} {G c : Nat} {t : TS} {s : H.St} (h : RQ No w RT A P ka va ca cb G c t s) (hc : c ≤ 700000) (k : V) (hr : Rng k) :
    Calls Tryz.prog 14 #[.pointer (some ⟨RT, 0, none⟩), vv k] w fun e w' => e = .returned (vv (pget t.p k)) ∧ RQ No w' RT A P ka va ca cb G (c + 1) { t with pr := t.pr + (prd t.p k : Nat) } s ∧ Keep No w w' := by
  have B0 := b2 w (vb k.1 k.2.1 k.2.2) (vb 0 0 ⟨#[]⟩)
  have X1 : Bx ((w.alloc (vb k.1 k.2.1 k.2.2)).alloc (vb 0 0 ⟨#[]⟩)) w.heap.size k := (Bx.made w k).below (b1 _ _)
  have X2 := R3.made (w.alloc (vb k.1 k.2.1 k.2.2)) nil
  rw [show (w.alloc (vb k.1 k.2.1 k.2.2)).heap.size = w.heap.size + 1 by simp] at X2
  have X2' : R3 ((w.alloc (vb k.1 k.2.1 k.2.2)).alloc (vb 0 0 ⟨#[]⟩)) (w.heap.size + 1) nil := X2
  clear X2
  have eX : (w.alloc (vb k.1 k.2.1 k.2.2)).heap.size = w.heap.size + 1 := by simp
  obtain ⟨W0, hW0⟩ : ∃ W0, (w.alloc (vb k.1 k.2.1 k.2.2)).alloc (vb 0 0 ⟨#[]⟩) = W0 := ⟨_, rfl⟩
  rw [hW0] at B0 X1 X2'
  unfold vb at hW0 eX
  have h0 := h.below B0
  have CW := rwithin_any k W0 h0.rb.c0 h0.rb.ltR
  have HQ : Hid (RQ No w RT A P ka va ca cb G c t s) := h
  have HB0 : Hid (Below w.heap.size w W0) := B0
  have HX1 : Hid (Bx W0 w.heap.size k) := X1
  have HX2 : Hid (R3 W0 (w.heap.size + 1) nil) := X2'
  have d0 := X1.c0
  have d1 := X1.c1
  have d2 := X1.c2
  have hle := h.ti.le
  have hp0 := h.p0
  have hp1 := h.p1
  have hrd := prd_le h.ti k
  have HTI : Hid (TI t.p) := h.ti
  have HLt : Hid (RT < w.heap.size) := h.rb.ltR
  clear h B0 X1 X2' h0
  generalize hsz : w.heap.size = N at *
  have HSZ : Hid (w.heap.size = N) := hsz
  by_cases hA : inA t.p.n k
  · rw [decide_eq_true hA] at CW
    have e1 : pget t.p k = t.p.F (ix k) := by unfold pget; rw [if_pos hA]
    have e2 : prd t.p k = 0 := by unfold prd; rw [if_pos hA]
    rw [e1, e2]
    have hix : ix k < t.p.n := by have := hA.2.2; unfold ix; omega
    have Hk1 : Hid (k.2.1 = (ix k : Int) + 1) := by have := hA.2.2; show k.2.1 = (ix k : Int) + 1; unfold ix; omega
    have hwr : IntKind.i64.wrap (k.2.1 - 1) = (ix k : Int) := by have := Hk1.out; rw [IntKind.wrap_i64]; omega
    have hixi : (ix k : Int) < (t.p.n : Int) := by omega
    have hixn : ¬ ((ix k : Int) < 0) := by omega
    unfold vv vl at CW ⊢
    clear hA e1 e2
    obtain ⟨x, hx⟩ : ∃ x, t.p.F (ix k) = x := ⟨_, rfl⟩
    rw [hx]
    have HXX : Hid (t.p.F (ix k) = x) := hx
    clear hx
    go_enter Tryz.func14, Tryz.ntmps14
    go_wp2_with fail
    refine CW.mono ?_; rintro e W1 ⟨rfl, hb1⟩
    have hbN : Below N w W1 := bthen HB0.out (HSZ.out ▸ HB0.out.size) hb1
    have q1 := HQ.out.rb.below (HSZ.out.symm ▸ hbN)
    have r1 := HX2.out.below hb1
    have f1 := (HX1.out.below hb1).c1
    have g0 := q1.c0
    obtain ⟨s0, s1, s2⟩ := q1.sl.at hix
    rw [HXX.out] at s0 s1 s2
    have n0 : W1.cell? ⟨N + 1, 0, none⟩ = some (.int .i64 0) := r1.bx.c0
    have n1 : W1.cell? ⟨N + 1, 1, none⟩ = some (.int .i64 0) := r1.bx.c1
    have n2 : W1.cell? ⟨N + 1, 2, none⟩ = some (.string ⟨#[]⟩) := r1.bx.c2
    have nf := r1.fz
    have r2 := r1.set x
    have hb2 := bset3 hbN (g := N + 1) (by omega) x
    obtain ⟨W2, hW2⟩ : ∃ W2, set3 W1 (N + 1) x = W2 := ⟨_, rfl⟩
    rw [hW2] at r2 hb2
    unfold set3 at hW2
    have HR2 : Hid (Bx W2 (N + 1) x) := r2.bx
    have HS : Hid (RQ No W2.drew RT A P ka va ca cb G (c + 1) { t with pr := t.pr + ((0 : Nat) : Int) } s ∧ Keep No w W2.drew) := by
      have hb3 : Below w.heap.size w W2.drew := (HSZ.out.symm ▸ hb2).trans (bdrew _ _ 1)
      refine ⟨?_, Keep.of hb3⟩
      rw [show t.pr + ((0 : Nat) : Int) = t.pr by omega]
      exact (HQ.out.below hb3).more (by omega)
    clear q1 r1 r2 hb1 hb2 hbN CW HX1 HX2 hW0 eX d0 d1 d2
    go_wp2_with fail
    go_region
    all_goals
      go_wp2_with fail
      have v0 := HR2.out.c0
      have v1 := HR2.out.c1
      have v2 := HR2.out.c2
      refine bodyPost_ret (v := .agg #[.int .i64 x.1, .int .i64 x.2.1, .string x.2.2]) (by simp [results, Tryz.results14, go_sem, v0, v1, v2]) rfl ⟨rfl, HS.out⟩
  · rw [decide_eq_false hA] at CW
    have e1 : pget t.p k = xAt t.p.g (fnd t.p.z t.p.g k).1 := by unfold pget; rw [if_neg hA]; rfl
    have e2 : prd t.p k = (fnd t.p.z t.p.g k).2 := by unfold prd; rw [if_neg hA]
    rw [e1, e2]
    rw [e2] at hrd
    have HCF : Hid (∀ W, Below W0.heap.size W0 W → Calls Tryz.prog 47 #[.pointer (some ⟨P, 0, none⟩), .agg #[.int .i64 k.1, .int .i64 k.2.1, .string k.2.2]] W fun e w' => e = .returned (.tuple #[.agg #[.int .i64 (xAt t.p.g (fnd t.p.z t.p.g k).1).1, .int .i64 (xAt t.p.g (fnd t.p.z t.p.g k).1).2.1, .string (xAt t.p.g (fnd t.p.z t.p.g k).1).2.2], .int .i64 ((fnd t.p.z t.p.g k).2 : Nat)]) ∧ Below W.heap.size W w') := fun W q =>
      rget_any k W (HQ.out.rb.below (bthen (HSZ.out.symm ▸ HB0.out) (by rw [HSZ.out]; exact HSZ.out ▸ HB0.out.size) q)).rp HTI.out.inv HTI.out.rt hr
    generalize xAt t.p.g (fnd t.p.z t.p.g k).1 = x at *
    generalize (fnd t.p.z t.p.g k).2 = rd at *
    have hwr : IntKind.i64.wrap (t.pr + (rd : Int)) = t.pr + (rd : Int) := by rw [IntKind.wrap_i64]; omega
    unfold vv vl at CW ⊢
    clear hA e1 e2
    go_enter Tryz.func14, Tryz.ntmps14
    go_wp2_with fail
    refine CW.mono ?_; rintro e W1 ⟨rfl, hb1⟩
    have hbN : Below N w W1 := bthen HB0.out (HSZ.out ▸ HB0.out.size) hb1
    have hs1 : N + 2 ≤ W1.heap.size := by have h1 := HX2.out.bx.lt; have h2 := hb1.size; omega
    have q1 := HQ.out.rb.below (HSZ.out.symm ▸ hbN)
    have x1 := HX1.out.below hb1
    have f0 := x1.c0
    have f1 := x1.c1
    have f2 := x1.c2
    have g1 := q1.c1
    have HR1 : Hid (R3 W1 (N + 1) nil) := HX2.out.below hb1
    have HBN : Hid (Below N w W1) := hbN
    have HG1 : Hid (∀ w3, Below W1.heap.size W1 w3 → Gz w (w3.alloc (.cells #[.int .i64 x.1, .int .i64 x.2.1, .string x.2.2] 31)) N w3.heap.size x) := fun w3 b3 => by
      have bb := bthen b3 b3.size (b1 w3 (.cells #[.int .i64 x.1, .int .i64 x.2.1, .string x.2.2] 31))
      exact ⟨bthen HBN.out (by have := hs1; omega) bb, Bx.made w3 x, HR1.out.below bb, by have := b3.size; omega, by have := b3.size; omega⟩
    have HG2 : Hid (∀ w3, Below W1.heap.size W1 w3 → R3 w3 W1.heap.size nil → Gz w (set3 w3 W1.heap.size x) N W1.heap.size x) := fun w3 b3 r3 => by
      have bb : Below W1.heap.size W1 (set3 w3 W1.heap.size x) := bset3 b3 (Nat.le_refl _) x
      exact ⟨bthen HBN.out (by have := hs1; omega) bb, (r3.set x).bx, HR1.out.below bb, by omega, by omega⟩
    have BA := bthen (bdrew1 W1) (Nat.le_refl _) (b1 W1.drew (.cells #[.int .i64 0, .int .i64 0, .string ⟨#[]⟩] 31))
    have RA : R3 (W1.drew.alloc (.cells #[.int .i64 0, .int .i64 0, .string ⟨#[]⟩] 31)) W1.heap.size nil := R3.made W1.drew nil
    obtain ⟨Wa, hWa⟩ : ∃ Wa, W1.drew.alloc (.cells #[.int .i64 0, .int .i64 0, .string ⟨#[]⟩] 31) = Wa := ⟨_, rfl⟩
    rw [hWa] at BA RA
    have xa := x1.below BA
    have z0 := xa.c0
    have z1 := xa.c1
    have z2 := xa.c2
    have zP := (q1.below BA).c1
    have hb01 : ∀ W, Below W1.heap.size W1 W → Below W0.heap.size W0 W := fun W q => bthen hb1 hb1.size q
    have CFd := (HCF.out W1.drew (hb01 _ (bdrew1 W1))).mono (R' := fun e w' => e = .returned (.tuple #[.agg #[.int .i64 x.1, .int .i64 x.2.1, .string x.2.2], .int .i64 (rd : Nat)]) ∧ Hid (Below W1.heap.size W1 w')) fun _ _ hh => ⟨hh.1, bthen (bdrew1 W1) (Nat.le_refl _) hh.2⟩
    have CFa := (HCF.out Wa (hb01 _ BA)).mono (R' := fun e w' => e = .returned (.tuple #[.agg #[.int .i64 x.1, .int .i64 x.2.1, .string x.2.2], .int .i64 (rd : Nat)]) ∧ Hid (Below W1.heap.size W1 w') ∧ R3 w' W1.heap.size nil) fun _ _ hh => ⟨hh.1, bthen BA BA.size hh.2, RA.below hh.2⟩
    clear q1 x1 xa hb1 hbN hb01 CW HCF HX1 HX2 HR1 HBN BA RA hW0 eX d0 d1 d2 HB0 hs1
    go_upto_region 3 with fail
    go_cut [5, 6] from 19 to 27 (fun bw rw wx => ∃ vx : Nat, bw = .pointer (some ⟨vx, 0, none⟩) ∧ rw = .int .i64 (rd : Nat) ∧ Hid (Gz w wx N vx x))
    case first =>
      go_region_with (first
        | (go_at_call 47; refine CFd.mono ?_; rintro e w3 ⟨rfl, hB3⟩; have HPX : Hid _ := HG1.out w3 hB3.out; obtain ⟨W8, hW8⟩ : ∃ W8, w3.alloc (.cells #[.int .i64 x.1, .int .i64 x.2.1, .string x.2.2] 31) = W8 := ⟨_, rfl⟩; rw [hW8] at HPX)
        | (go_at_call 47; refine CFa.mono ?_; rintro e w3 ⟨rfl, hB3, q3⟩; have q0 : w3.cell? ⟨W1.heap.size, 0, none⟩ = some (.int .i64 0) := q3.bx.c0; have q1 : w3.cell? ⟨W1.heap.size, 1, none⟩ = some (.int .i64 0) := q3.bx.c1; have q2 : w3.cell? ⟨W1.heap.size, 2, none⟩ = some (.string ⟨#[]⟩) := q3.bx.c2; have qf : ∀ j, w3.frozen? ⟨W1.heap.size, j, none⟩ = false := q3.fz; have HPX : Hid _ := HG2.out w3 hB3.out q3; obtain ⟨W8, hW8⟩ : ∃ W8, set3 w3 W1.heap.size x = W8 := ⟨_, rfl⟩; rw [hW8] at HPX; unfold set3 at hW8; clear q3))
      all_goals
        go_wp2_with fail
        go_meet
        exact ⟨_, rfl, rfl, HPX⟩
    case rest =>
      obtain ⟨vx, rfl, rfl, HZ⟩ := hcut
      clear CFd CFa HG1 HG2 hWa f0 f1 f2 g1 z0 z1 z2 zP
      have q2 := HQ.out.below (HSZ.out.symm ▸ HZ.out.bel)
      have c5 := q2.rb.c5
      have z5 := q2.rb.fz
      obtain ⟨s1, s2⟩ := (q2.more (c' := c + 1) (by omega)).probe (t.pr + (rd : Int)) (by omega) (by push_cast; omega)
      obtain ⟨W3, hW3⟩ : ∃ W3, wc.setCell ⟨RT, 5, none⟩ (.int .i64 (t.pr + (rd : Int))) = W3 := ⟨_, rfl⟩
      have kR : Keep (fun g => g ≠ RT) wc W3 := by rw [← hW3]; exact (Keep.refl (fun g => g ≠ RT) wc).set (p := ⟨RT, 5, none⟩) (fun q => q rfl) _
      rw [hW3] at s1 s2
      have bx3 := HZ.out.bx.kept kR (by have h1 := HLt.out; have h2 := HZ.out.ge; show vx ≠ RT; omega)
      have r3 := HZ.out.r3.kept kR (by have h1 := HLt.out; show N + 1 ≠ RT; omega)
      have y0 := bx3.c0
      have y1 := bx3.c1
      have y2 := bx3.c2
      have n0 : W3.cell? ⟨N + 1, 0, none⟩ = some (.int .i64 0) := r3.bx.c0
      have n1 : W3.cell? ⟨N + 1, 1, none⟩ = some (.int .i64 0) := r3.bx.c1
      have n2 : W3.cell? ⟨N + 1, 2, none⟩ = some (.string ⟨#[]⟩) := r3.bx.c2
      have nf := r3.fz
      have r4 := (r3.set x).bx
      have hls : wc.heap.size = W3.heap.size := by rw [← hW3]; simp [World.setCell]
      have b4 : Below (N + 1) W3 (set3 W3 (N + 1) x) := bset3 (Below.refl _ _) (Nat.le_refl _) x
      obtain ⟨W4, hW4⟩ : ∃ W4, set3 W3 (N + 1) x = W4 := ⟨_, rfl⟩
      rw [hW4] at r4 b4
      unfold set3 at hW4
      have HR4 : Hid (Bx W4 (N + 1) x) := r4
      have HS : Hid (RQ No W4 RT A P ka va ca cb G (c + 1) { t with pr := t.pr + (rd : Int) } s ∧ Keep No w W4) := by
        have hnew := HQ.out.news (HSZ.out.symm ▸ HZ.out.bel)
        obtain ⟨u1, u2⟩ := (hnew.more (c' := c + 1) (by omega)).probe (t.pr + (rd : Int)) (by omega) (by push_cast; omega)
        rw [hW3] at u1 u2
        have hb4 : Below w.heap.size w wc := HSZ.out.symm ▸ HZ.out.bel
        have hlt : N + 1 < wc.heap.size := HZ.out.r3.bx.lt
        have u3 := u1.frame (w' := W4) ⟨b4.os, b4.tape, b4.output, b4.size, fun g hg hn => by
          by_cases q : g = N + 1
          · exact absurd (.inr ⟨by have := HSZ.out; omega, by omega⟩) hn
          · rw [← hW4]
            exact ((set3_keep W3 (N + 1) x).block g hg q)⟩
        refine ⟨u3.sub fun g q => .inl (.inl q), ((Keep.of hb4).trans s2).trans ?_⟩
        have kN : Keep (fun g => g ≠ N + 1) W3 W4 := by rw [← hW4]; exact set3_keep W3 (N + 1) x
        exact kN.sub fun g q e => by have h1 := HQ.out.nos g q; have h2 := HSZ.out; omega
      clear s1 s2 kR bx3 r3 r4 b4 q2
      go_wp2_with fail
      have v0 := HR4.out.c0
      have v1 := HR4.out.c1
      have v2 := HR4.out.c2
      refine bodyPost_ret (v := .agg #[.int .i64 x.1, .int .i64 x.2.1, .string x.2.2]) (by simp [results, Tryz.results14, go_sem, v0, v1, v2]) rfl ⟨rfl, HS.out⟩
end Go.Proofs.YtoomlihccniooaaGreat

/- The walks of Pair and Hint. -/
namespace Go.Proofs.YtoomlihccniooaaGreat
open Go.RowKit

/-- What Pair answers. -/
def prO (p : Pa) (i : Int) : V × V :=
  if i < 1 then (nil, nil) else if i ≤ (p.n : Int) then (kn i, p.F (i.toNat - 1))
  else if i - p.n - 1 < (p.z : Int) then (p.g.K (i.toNat - p.n - 1), p.g.X (i.toNat - p.n - 1)) else (nil, nil)
theorem pair_at {w : World} {T A b a S : Nat} {t : TS} (h : Tm w T A b a S t) (hn : t.p.n ≤ 65536) (hz : t.p.z ≤ 65536) (i : Int) (h0 : 1 ≤ i) (h1 : i ≤ ((t.p.n + t.p.z : Nat) : Int)) :
    Calls Tryz.prog 74 #[tp T, .int .i64 i] w fun e w' => e = .returned (.tuple #[vv (prO t.p i).1, vv (prO t.p i).2]) ∧ Below w.heap.size w w' := by
  by_cases q : i ≤ (t.p.n : Int)
  · obtain ⟨j, rfl⟩ : ∃ j : Nat, i = (j : Int) + 1 := ⟨(i - 1).toNat, by omega⟩
    have e : prO t.p ((j : Int) + 1) = (kn ((j : Int) + 1), t.p.F j) := by
      unfold prO
      rw [if_neg (by omega), if_pos q]
      have : ((j : Int) + 1).toNat - 1 = j := by omega
      rw [this]
    rw [e]
    exact pair_in h hn j (by omega)
  · obtain ⟨j, hj, rfl⟩ : ∃ j : Nat, j < t.p.z ∧ i = (t.p.n : Int) + 1 + j := ⟨(i - t.p.n - 1).toNat, by omega, by omega⟩
    have e : prO t.p ((t.p.n : Int) + 1 + j) = (t.p.g.K j, t.p.g.X j) := by
      unfold prO
      rw [if_neg (by omega), if_neg q, if_pos (by omega)]
      have : ((t.p.n : Int) + 1 + j).toNat - t.p.n - 1 = j := by omega
      rw [this]
    rw [e]
    exact pair_out h hn hz j hj
end Go.Proofs.YtoomlihccniooaaGreat

/- The pure part of the border: halving, doubling; what Len and Is answer, and that it is a border. -/
namespace Go.Proofs.YtoomlihccniooaaGreat
open Go.RowKit

/-- Halving: the answer, and what was read for it. -/
def hlv (P : Int → Bool) (rd : Int → Nat) : Nat → Int → Int → Int × Nat
  | 0, l, _ => (l, 0)
  | f + 1, l, h => if h - l > 1 then
      if P (l + (h - l) / 2) then ((hlv P rd f (l + (h - l) / 2) h).1, (hlv P rd f (l + (h - l) / 2) h).2 + rd (l + (h - l) / 2))
      else ((hlv P rd f l (l + (h - l) / 2)).1, (hlv P rd f l (l + (h - l) / 2)).2 + rd (l + (h - l) / 2))
    else (l, 0)
theorem hlv_ok (P : Int → Bool) (rd : Int → Nat) : ∀ (f : Nat) (l h : Int), l < h → h - l ≤ 2 ^ f → P h = false →
    l ≤ (hlv P rd f l h).1 ∧ (hlv P rd f l h).1 < h ∧ ((hlv P rd f l h).1 = l ∨ P (hlv P rd f l h).1 = true) ∧ P ((hlv P rd f l h).1 + 1) = false
  | 0, l, h, h0, h1, h2 => by
    have e : h = l + 1 := by omega
    subst e
    exact ⟨by simp [hlv], h0, .inl rfl, h2⟩
  | f + 1, l, h, h0, h1, h2 => by
    rw [hlv]
    by_cases q : h - l > 1
    · rw [if_pos q]
      have hp : (2 : Int) ^ (f + 1) = 2 * 2 ^ f := by rw [Int.pow_succ]; omega
      by_cases e : P (l + (h - l) / 2) = true
      · rw [if_pos e]
        obtain ⟨a, b, c, d⟩ := hlv_ok P rd f (l + (h - l) / 2) h (by omega) (by omega) h2
        refine ⟨by simp only; omega, b, ?_, d⟩
        rcases c with c | c
        · exact .inr (by rw [c]; exact e)
        · exact .inr c
      · rw [if_neg e]
        obtain ⟨a, b, c, d⟩ := hlv_ok P rd f l (l + (h - l) / 2) (by omega) (by omega) (by simpa using e)
        exact ⟨a, by simp only; omega, c, d⟩
    · rw [if_neg q]
      have e : h = l + 1 := by omega
      subst e
      exact ⟨by simp, h0, .inl rfl, h2⟩
theorem hlv_rd (P : Int → Bool) (rd : Int → Nat) (B : Nat) (hB : ∀ m, rd m ≤ B) : ∀ (f : Nat) (l h : Int), (hlv P rd f l h).2 ≤ f * B
  | 0, l, h => by simp [hlv]
  | f + 1, l, h => by
    rw [hlv]
    have := hB (l + (h - l) / 2)
    have h1 := hlv_rd P rd B hB f (l + (h - l) / 2) h
    have h2 := hlv_rd P rd B hB f l (l + (h - l) / 2)
    have h3 : (f + 1) * B = f * B + B := by rw [Nat.add_mul]; omega
    split
    · split <;> simp only <;> omega
    · simp
/-- 2 * h, or the greatest number. -/
def tw (h : Int) : Int := if h > 4611686018427387903 then (9223372036854775807 : Int) else 2 * h
/-- Doubling: low, high, what was read. -/
def dbl (P : Int → Bool) (rd : Int → Nat) : Nat → Int → Int → Int × Int × Nat
  | 0, l, h => (l, h, 0)
  | f + 1, l, h => if P h then (if h = (9223372036854775807 : Int) then ((9223372036854775807 : Int), (9223372036854775807 : Int), rd h) else ((dbl P rd f h (tw h)).1, (dbl P rd f h (tw h)).2.1, (dbl P rd f h (tw h)).2.2 + rd h)) else (l, h, rd h)
theorem tw_ok {f : Nat} {h : Int} (h0 : 1 ≤ h) (hm : h ≠ (9223372036854775807 : Int)) (hx : h ≤ (9223372036854775807 : Int)) (hf : (9223372036854775807 : Int) < h * 2 ^ f) : ∃ g, f = g + 1 ∧ h < tw h ∧ tw h ≤ (9223372036854775807 : Int) ∧ (tw h = (9223372036854775807 : Int) ∨ (9223372036854775807 : Int) < tw h * 2 ^ g) := by
  cases f with
  | zero => simp at hf; omega
  | succ g =>
    refine ⟨g, rfl, ?_⟩
    unfold tw
    split
    · exact ⟨by omega, by omega, .inl rfl⟩
    · refine ⟨by omega, by omega, .inr ?_⟩
      rw [Int.pow_succ] at hf
      have e : h * (2 ^ g * 2) = 2 * h * 2 ^ g := by rw [Int.mul_comm (2 ^ g) 2, ← Int.mul_assoc, Int.mul_comm h 2]
      rw [← e]; exact hf
theorem dbl_ok (P : Int → Bool) (rd : Int → Nat) : ∀ (f : Nat) (l h : Int), 1 ≤ l → l < h ∨ (l = h ∧ h = (9223372036854775807 : Int)) → h ≤ (9223372036854775807 : Int) → P l = true → (h = (9223372036854775807 : Int) ∨ (9223372036854775807 : Int) < h * 2 ^ f) →
    l ≤ (dbl P rd (f + 1) l h).1 ∧ P (dbl P rd (f + 1) l h).1 = true ∧ (((dbl P rd (f + 1) l h).1 = (9223372036854775807 : Int) ∧ (dbl P rd (f + 1) l h).2.1 = (9223372036854775807 : Int)) ∨
      ((dbl P rd (f + 1) l h).1 < (dbl P rd (f + 1) l h).2.1 ∧ (dbl P rd (f + 1) l h).2.1 ≤ (9223372036854775807 : Int) ∧ P (dbl P rd (f + 1) l h).2.1 = false))
  | f, l, h, h0, h1, h2, h3, h4 => by
    rw [dbl]
    by_cases e : P h = true
    · rw [if_pos e]
      by_cases q : h = (9223372036854775807 : Int)
      · rw [if_pos q]
        subst q
        exact ⟨by simp only; omega, e, .inl ⟨rfl, rfl⟩⟩
      · rw [if_neg q]
        have hl : l < h := by omega
        obtain ⟨g, rfl, a, b, c⟩ := tw_ok (f := f) (h := h) (by omega) q h2 (by omega)
        obtain ⟨x, y, z⟩ := dbl_ok P rd g h (tw h) (by omega) (.inl a) b e c
        exact ⟨by simp only; omega, y, z⟩
    · rw [if_neg e]
      have e' : P h = false := by simpa using e
      refine ⟨Int.le_refl _, h3, .inr ⟨?_, h2, e'⟩⟩
      rcases h1 with h1 | ⟨h1, _⟩
      · exact h1
      · rw [h1, e'] at h3; cases h3
theorem dbl_rd (P : Int → Bool) (rd : Int → Nat) (B : Nat) (hB : ∀ m, rd m ≤ B) : ∀ (f : Nat) (l h : Int), (dbl P rd f l h).2.2 ≤ f * B
  | 0, l, h => by simp [dbl]
  | f + 1, l, h => by
    rw [dbl]
    have := hB h
    have h1 := dbl_rd P rd B hB f h (tw h)
    have h3 : (f + 1) * B = f * B + B := by rw [Nat.add_mul]; omega
    split
    · split <;> simp only <;> omega
    · simp only; omega

def sl (p : Pa) (i : Int) : Bool := decide ((prO p i).2.1 ≠ 0)
def hs (p : Pa) (i : Int) : Bool := decide ((pget p (kn i)).1 ≠ 0)
def rdn (p : Pa) (i : Int) : Nat := prd p (kn i)
def inAr (t : TS) : Int :=
  if t.hint > 0 ∧ sl t.p t.hint = false then (hlv (sl t.p) (fun _ => 0) 64 0 t.hint).1
  else if sl t.p (t.hint + 1) = false then t.hint else (hlv (sl t.p) (fun _ => 0) 64 t.hint t.p.n).1
def beh (p : Pa) : Int × Nat :=
  if hs p (p.n + 1) = false then (p.n, rdn p (p.n + 1))
  else ((hlv (hs p) (rdn p) 64 (dbl (hs p) (rdn p) 64 (p.n + 1) (2 * (p.n + 1))).1 (dbl (hs p) (rdn p) 64 (p.n + 1) (2 * (p.n + 1))).2.1).1,
    rdn p (p.n + 1) + (dbl (hs p) (rdn p) 64 (p.n + 1) (2 * (p.n + 1))).2.2 + (hlv (hs p) (rdn p) 64 (dbl (hs p) (rdn p) 64 (p.n + 1) (2 * (p.n + 1))).1 (dbl (hs p) (rdn p) 64 (p.n + 1) (2 * (p.n + 1))).2.1).2)
/-- What Len answers, and the table behind it. -/
def blen (t : TS) : Int × TS :=
  if t.p.n ≠ 0 ∧ sl t.p t.p.n = false then (inAr t, tHint t (inAr t))
  else ((beh t.p).1, { t with pr := t.pr + ((beh t.p).2 : Nat) })
def bis (t : TS) (n : Int) : Bool × TS :=
  if n < 0 then (false, t)
  else if n > 0 ∧ hs t.p n = false then (false, { t with pr := t.pr + (rdn t.p n : Nat) })
  else if n = (9223372036854775807 : Int) then (true, { t with pr := t.pr + ((if n > 0 then rdn t.p n else 0 : Nat) : Nat) })
  else (!hs t.p (n + 1), { t with pr := t.pr + ((if n > 0 then rdn t.p n else 0 : Nat) : Nat) + (rdn t.p (n + 1) : Nat) })
/-- A border. -/
def Bd (p : Pa) (n : Int) : Prop := 0 ≤ n ∧ n ≤ (9223372036854775807 : Int) ∧ (n = 0 ∨ hs p n = true) ∧ (n = (9223372036854775807 : Int) ∨ hs p (n + 1) = false)
theorem sl_hs {p : Pa} (h : TI p) {i : Int} (h0 : 1 ≤ i) (h1 : i ≤ (p.n : Int)) : hs p i = sl p i := by
  obtain ⟨j, rfl⟩ : ∃ j : Nat, i = (j : Int) + 1 := ⟨(i - 1).toNat, by omega⟩
  have e := h.get_slot (i := j) (by omega)
  unfold hs sl prO
  rw [e, if_neg (by omega), if_pos h1]
  have : ((j : Int) + 1).toNat - 1 = j := by omega
  rw [this]
theorem inAr_ok {t : TS} (h : TI t.p) (hh : 0 ≤ t.hint ∧ t.hint ≤ (t.p.n : Int)) (h0 : t.p.n ≠ 0) (hn : sl t.p t.p.n = false) :
    0 ≤ inAr t ∧ inAr t < t.p.n ∧ (inAr t = 0 ∨ sl t.p (inAr t) = true) ∧ sl t.p (inAr t + 1) = false := by
  have hle := h.le
  unfold inAr
  by_cases e : t.hint > 0 ∧ sl t.p t.hint = false
  · rw [if_pos e]
    obtain ⟨a, b, c, d⟩ := hlv_ok (sl t.p) (fun _ => 0) 64 0 t.hint e.1 (by omega) e.2
    exact ⟨a, by omega, c, d⟩
  · rw [if_neg e]
    by_cases e2 : sl t.p (t.hint + 1) = false
    · rw [if_pos e2]
      have hs0 : t.hint = 0 ∨ sl t.p t.hint = true := by
        by_cases q : t.hint = 0
        · exact .inl q
        · right; cases hq : sl t.p t.hint with
          | true => rfl
          | false => exact absurd ⟨by omega, hq⟩ e
      refine ⟨hh.1, ?_, hs0, e2⟩
      rcases hs0 with q | q
      · omega
      · by_cases r : t.hint = t.p.n
        · rw [r, hn] at q; cases q
        · omega
    · rw [if_neg e2]
      have hlt : t.hint < t.p.n := by
        by_cases r : t.hint = t.p.n
        · exact absurd ⟨by omega, by rw [r]; exact hn⟩ e
        · omega
      obtain ⟨a, b, c, d⟩ := hlv_ok (sl t.p) (fun _ => 0) 64 t.hint t.p.n hlt (by omega) hn
      refine ⟨by omega, b, ?_, d⟩
      rcases c with c | c
      · rw [c]
        by_cases q : t.hint = 0
        · exact .inl q
        · right; cases hq : sl t.p t.hint with
          | true => rfl
          | false => exact absurd ⟨by omega, hq⟩ e
      · exact .inr c
theorem beh_ok {p : Pa} (h : TI p) (hn : p.n = 0 ∨ sl p p.n = true) : Bd p (beh p).1 ∧ (p.n : Int) ≤ (beh p).1 := by
  have hle := h.le
  unfold beh
  by_cases e : hs p (p.n + 1) = false
  · rw [if_pos e]
    refine ⟨⟨by simp only; omega, by simp only; omega, ?_, .inr e⟩, Int.le_refl _⟩
    rcases hn with q | q
    · exact .inl (by simp only; omega)
    · by_cases z : p.n = 0
      · exact .inl (by simp only; omega)
      · exact .inr (by rw [sl_hs h (by simp only; omega) (by simp only; omega)]; exact q)
  · rw [if_neg e]
    have e' : hs p (p.n + 1) = true := by simpa using e
    obtain ⟨a, b, c⟩ := dbl_ok (hs p) (rdn p) 63 (p.n + 1) (2 * (p.n + 1)) (by omega) (.inl (by omega)) (by omega) e' (.inr (by omega))
    generalize dbl (hs p) (rdn p) 64 (p.n + 1) (2 * (p.n + 1)) = D at a b c ⊢
    obtain ⟨l, hh, r⟩ := D
    simp only at a b c ⊢
    rcases c with ⟨rfl, rfl⟩ | ⟨c1, c2, c3⟩
    · have : hlv (hs p) (rdn p) 64 (9223372036854775807 : Int) (9223372036854775807 : Int) = ((9223372036854775807 : Int), 0) := by rw [hlv, if_neg (by omega)]
      rw [this]
      exact ⟨⟨by simp only; omega, by simp only; omega, .inr b, .inl rfl⟩, by simp only; omega⟩
    · obtain ⟨x, y, z, u⟩ := hlv_ok (hs p) (rdn p) 64 l hh c1 (by omega) c3
      refine ⟨⟨by omega, by omega, .inr ?_, .inr u⟩, by omega⟩
      rcases z with z | z
      · rw [z]; exact b
      · exact z
theorem blen_bd {t : TS} (h : TI t.p) (hh : 0 ≤ t.hint ∧ t.hint ≤ (t.p.n : Int)) : Bd t.p (blen t).1 := by
  unfold blen
  have hle := h.le
  by_cases e : t.p.n ≠ 0 ∧ sl t.p t.p.n = false
  · rw [if_pos e]
    obtain ⟨a, b, c, d⟩ := inAr_ok h hh e.1 e.2
    refine ⟨a, by simp only; omega, ?_, .inr ?_⟩
    · rcases c with c | c
      · exact .inl c
      · by_cases q : inAr t = 0
        · exact .inl q
        · exact .inr (by rw [sl_hs h (by simp only; omega) (by simp only; omega)]; exact c)
    · rw [sl_hs h (by simp only; omega) (by simp only; omega)]; exact d
  · rw [if_neg e]
    refine (beh_ok h ?_).1
    by_cases q : t.p.n = 0
    · exact .inl q
    · right; cases hq : sl t.p t.p.n with
      | true => rfl
      | false => exact absurd ⟨q, hq⟩ e
/-- What Len leaves. -/
theorem blen_st {t : TS} (h : TI t.p) (hh : 0 ≤ t.hint ∧ t.hint ≤ (t.p.n : Int)) : (blen t).2.p = t.p ∧ 0 ≤ (blen t).2.hint ∧ (blen t).2.hint ≤ (t.p.n : Int) ∧ (blen t).2.sb = t.sb ∧ (blen t).2.nb = t.nb ∧
    ((t.p.n ≠ 0 ∧ sl t.p t.p.n = false ∧ (blen t).2 = { t with hint := (blen t).1 } ∧ (blen t).1 < t.p.n) ∨ (¬ (t.p.n ≠ 0 ∧ sl t.p t.p.n = false) ∧ (blen t).2 = { t with pr := t.pr + ((beh t.p).2 : Nat) } ∧ (t.p.n : Int) ≤ (blen t).1)) := by
  unfold blen
  by_cases e : t.p.n ≠ 0 ∧ sl t.p t.p.n = false
  · rw [if_pos e]
    obtain ⟨a, b, c, d⟩ := inAr_ok h hh e.1 e.2
    have e2 : tHint t (inAr t) = { t with hint := inAr t } := by unfold tHint; rw [if_pos ⟨a, by omega⟩]
    rw [e2]
    exact ⟨rfl, a, by show inAr t ≤ _; omega, rfl, rfl, .inl ⟨e.1, e.2, rfl, b⟩⟩
  · rw [if_neg e]
    refine ⟨rfl, hh.1, hh.2, rfl, rfl, .inr ⟨e, rfl, (beh_ok h ?_).2⟩⟩
    by_cases q : t.p.n = 0
    · exact .inl q
    · right; cases hq : sl t.p t.p.n with
      | true => rfl
      | false => exact absurd ⟨q, hq⟩ e
/-- Asked again, it answers the same. -/
theorem blen_two {t u : TS} (h : TI t.p) (hh : 0 ≤ t.hint ∧ t.hint ≤ (t.p.n : Int)) (hu : u.p = t.p) (hv : u.hint = (blen t).2.hint) : (blen u).1 = (blen t).1 := by
  obtain ⟨_, _, _, _, _, q⟩ := blen_st h hh
  rcases q with ⟨e1, e2, e3, e4⟩ | ⟨e1, e2, _⟩
  · have hx : u.hint = (blen t).1 := by rw [hv, e3]
    have e5 : (blen t).1 = inAr t := by unfold blen; rw [if_pos ⟨e1, e2⟩]
    obtain ⟨a, b, c, d⟩ := inAr_ok h hh e1 e2
    conv => lhs; unfold blen
    rw [hu, if_pos ⟨e1, e2⟩]
    show inAr u = _
    unfold inAr
    rw [hu, hx, e5]
    rw [if_neg (by
      rintro ⟨q1, q2⟩
      rcases c with c | c
      · omega
      · rw [c] at q2; cases q2), if_pos d]
  · unfold blen
    rw [hu, if_neg e1, if_neg e1]
theorem bis_st (t : TS) (n : Int) : (bis t n).2.p = t.p ∧ (bis t n).2.hint = t.hint ∧ (bis t n).2.sb = t.sb ∧ (bis t n).2.nb = t.nb := by
  unfold bis
  split
  · exact ⟨rfl, rfl, rfl, rfl⟩
  · split
    · exact ⟨rfl, rfl, rfl, rfl⟩
    · split <;> exact ⟨rfl, rfl, rfl, rfl⟩
theorem bis_ok (t : TS) (n : Int) (hx : n ≤ (9223372036854775807 : Int)) : (bis t n).1 = true ↔ Bd t.p n := by
  unfold bis Bd
  by_cases h0 : n < 0
  · rw [if_pos h0]; simp; omega
  · rw [if_neg h0]
    by_cases h1 : n > 0 ∧ hs t.p n = false
    · rw [if_pos h1]
      simp only [Bool.false_eq_true, false_iff]
      rintro ⟨_, _, q, _⟩
      rcases q with q | q
      · omega
      · rw [h1.2] at q; cases q
    · rw [if_neg h1]
      have hb : n = 0 ∨ hs t.p n = true := by
        by_cases q : n = 0
        · exact .inl q
        · right; cases hq : hs t.p n with
          | true => rfl
          | false => exact absurd ⟨by omega, hq⟩ h1
      by_cases h2 : n = (9223372036854775807 : Int)
      · rw [if_pos h2]
        simp only [true_iff]
        exact ⟨by omega, hx, hb, .inl h2⟩
      · rw [if_neg h2]
        constructor
        · intro q
          exact ⟨by omega, hx, hb, .inr (by simpa using q)⟩
        · rintro ⟨_, _, _, q⟩
          rcases q with q | q
          · exact absurd q h2
          · simp [q]
/-- Where the present numbers above 0 are 1 to m, m is the one border. -/
theorem Bd.row {p : Pa} {n : Int} (h : Bd p n) {m : Nat} (hm : (m : Int) < (9223372036854775807 : Int)) (hp : ∀ i : Int, 1 ≤ i → i ≤ (9223372036854775807 : Int) → (hs p i = true ↔ i ≤ m)) : n = m := by
  obtain ⟨a, b, c, d⟩ := h
  have h1 : n ≤ m := by
    rcases c with c | c
    · omega
    · by_cases q : n = 0
      · omega
      · exact (hp n (by omega) b).1 c
  by_cases e : n = m
  · exact e
  · have h2 := (hp (n + 1) (by omega) (by omega)).2 (by omega)
    rcases d with d | d
    · omega
    · rw [d] at h2; cases h2
end Go.Proofs.YtoomlihccniooaaGreat
