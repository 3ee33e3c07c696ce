/- The walk of the reference's Next. The numbers of the seat of WalkPlays. -/
import Derived.Test.YtoomlihccniooaaGreatCg43
import Derived.Test.YtoomlihccniooaaGreatCg29
import Derived.Test.YtoomlihccniooaaGreatCg45
import Derived.Test.YtoomlihccniooaaGreatCg34
import Derived.RangeFuncBox
import Derived.Maps.AppendAt
namespace Go.Proofs.YtoomlihccniooaaGreat
open Go.RowKit
theorem prO_prP (p : Pa) (m : Int) : prP p m = prO p m := by
  unfold prP prO
  by_cases h1 : m < 1
  · rw [if_pos h1, if_pos h1]
  · rw [if_neg h1, if_neg h1]
    by_cases h2 : m ≤ (p.n : Int)
    · rw [if_pos h2, if_pos h2, show (m - 1).toNat = m.toNat - 1 by omega]
    · rw [if_neg h2, if_neg h2]
      by_cases h3 : m ≤ ((p.n + p.z : Nat) : Int)
      · rw [if_pos h3, if_pos (by omega), show (m - 1 - p.n).toNat = m.toNat - p.n - 1 by omega]
      · rw [if_neg h3, if_neg (by omega)]
theorem keep_two {No : Nat → Prop} {w W Wf : World} {N : Nat} (hN : w.heap.size = N) (k : Keep No w W) (q : Keep (fun g => g ≠ N + 1 ∧ g ≠ N + 1 + 1) W Wf) : Keep No w Wf :=
  ⟨q.os.trans k.os, q.tape.trans k.tape, q.output.trans k.output, Nat.le_trans k.size q.size, fun g hg hn => (q.block g (Nat.lt_of_lt_of_le hg k.size) ⟨by omega, by omega⟩).trans (k.block g hg hn)⟩
theorem res_two {W : World} {N : Nat} (r0 : R3 W (N + 1) nil) (r1 : R3 W (N + 1 + 1) nil) (x y : V) :
    R3 (set3 W (N + 1) x) (N + 1 + 1) nil ∧ Bx (set3 (set3 W (N + 1) x) (N + 1 + 1) y) (N + 1) x ∧ Bx (set3 (set3 W (N + 1) x) (N + 1 + 1) y) (N + 1 + 1) y ∧ Keep (fun g => g ≠ N + 1 ∧ g ≠ N + 1 + 1) W (set3 (set3 W (N + 1) x) (N + 1 + 1) y) := by
  have k : Keep (fun g => g ≠ N + 1) W (set3 W (N + 1) x) := set3_keep _ _ _
  have p := P2.mk2 (Below.refl (N + 1) W) r0 r1 x y
  exact ⟨r1.kept k (by show _ + 1 ≠ _; omega), p.r0, p.r1, ((Keep.refl (fun g => g ≠ N + 1 ∧ g ≠ N + 1 + 1) W).set3 (N := N + 1) (fun q => q.1 rfl) x).set3 (N := N + 1 + 1) (fun q => q.2 rfl) y⟩
section
variable {No : Nat → Prop} {w : World} {RT A P ka va ca : Nat} {cb : Nat → Nat} {G c : Nat} {t : TS} {s : H.St}
theorem rq_two {No' : Nat → Prop} {W Wf : World} {N : Nat} (hN : w.heap.size = N) (h : RQ No' W RT A P ka va ca cb G c t s) (h1 : No' (N + 1)) (h2 : No' (N + 1 + 1)) (hs : ∀ g, No g → No' g) (k : Keep No w W) (q : Keep (fun g => g ≠ N + 1 ∧ g ≠ N + 1 + 1) W Wf) :
    RQ No Wf RT A P ka va ca cb G c t s ∧ Keep No w Wf :=
  ⟨(h.frame (q.sub (fun _ hn => ⟨fun e => hn (e ▸ h1), fun e => hn (e ▸ h2)⟩))).sub (fun g hg => .inl (hs g hg)), keep_two hN k q⟩
/-- Where the loop of Next stands. -/
structure Nl (No : Nat → Prop) (w : World) (RT A P ka va ca : Nat) (cb : Nat → Nat) (G c : Nat) (t : TS) (s : H.St) (rd N : Nat) (U : World) : Prop where
  r0 : R3 U (N + 1) nil
  r1 : R3 U (N + 1 + 1) nil
  rb : Rb U RT A P ka va ca cb G { t with pr := t.pr + (rd : Nat) }
  fin : ∀ Wf, Keep (fun g => g ≠ N + 1 ∧ g ≠ N + 1 + 1) U Wf → RQ No Wf RT A P ka va ca cb G (c + 1) { t with pr := t.pr + (rd : Nat) } s ∧ Keep No w Wf
theorem Nl.mk0 {W1 U : World} {rd : Nat} (h1 : RQ (fun g => No g ∨ (w.heap.size ≤ g ∧ g < W1.heap.size)) U RT A P ka va ca cb G (c + 1) { t with pr := t.pr + (rd : Nat) } s) (k : Keep No w U) (r0 : R3 U (w.heap.size + 1) nil) (r1 : R3 U (w.heap.size + 1 + 1) nil) (hs : w.heap.size + 1 + 1 < W1.heap.size) : Nl No w RT A P ka va ca cb G c t s rd w.heap.size U :=
  ⟨r0, r1, h1.rb, fun _ q => rq_two rfl h1 (.inr ⟨by omega, by omega⟩) (.inr ⟨by omega, by omega⟩) (fun _ => .inl) k q⟩
set_option maxRecDepth 20000 in
set_option maxHeartbeats 4000000 in
theorem rnext_go (h : RQ No w RT A P ka va ca cb G c t s) (hc : c ≤ 600000) (k : V) (hr : Rng k) (hk : fm k = true) (pl rd : Nat) (hpl : pl ≤ t.p.n + t.p.z) (hcase : k.1 = 0 ∧ pl = 0 ∧ rd = 0 ∨ k.1 ≠ 0 ∧ plc t.p k = (pl : Int) ∧ 0 < pl ∧ rd = prd t.p k) :
    Calls Tryz.prog 23 #[.pointer (some ⟨RT, 0, none⟩), vv k] w fun e w' => e = .returned (.tuple #[vv (pnx t.p pl).1, vv (pnx t.p pl).2, .int .i64 0]) ∧ RQ No w' RT A P ka va ca cb G (c + 1) { t with pr := t.pr + (rd : Nat) } s ∧ Keep No w w' := by
  have eX1 : (w.alloc (vb k.1 k.2.1 k.2.2)).heap.size = w.heap.size + 1 := by simp
  have T0 := Tb.made (w.alloc (vb k.1 k.2.1 k.2.2))
  have X0 : Bx ((((w.alloc (vb k.1 k.2.1 k.2.2)).alloc (vb 0 0 ⟨#[]⟩)).alloc (vb 0 0 ⟨#[]⟩))) w.heap.size k := (Bx.made w k).below T0.bel
  have hz0 : (((w.alloc (vb k.1 k.2.1 k.2.2)).alloc (vb 0 0 ⟨#[]⟩)).alloc (vb 0 0 ⟨#[]⟩)).heap.size = w.heap.size + 3 := by simp
  have B0 : Below w.heap.size w ((((w.alloc (vb k.1 k.2.1 k.2.2)).alloc (vb 0 0 ⟨#[]⟩)).alloc (vb 0 0 ⟨#[]⟩))) := bthen (b1 w _) (by simp) T0.bel
  obtain ⟨W0, hW0⟩ : ∃ W0, ((w.alloc (vb k.1 k.2.1 k.2.2)).alloc (vb 0 0 ⟨#[]⟩)).alloc (vb 0 0 ⟨#[]⟩) = W0 := ⟨_, rfl⟩
  rw [hW0] at T0 X0 B0 hz0
  have r0 := T0.r0
  have r1 := T0.r1
  rw [eX1] at r0 r1
  have B1 := b1 W0 (vb k.1 k.2.1 k.2.2)
  have C1 := rcheck_any k.1 k.2.1 k.2.2 W0
  rw [chk_ok hk] at C1
  obtain ⟨W1, hW1⟩ : ∃ W1, W0.alloc (vb k.1 k.2.1 k.2.2) = W1 := ⟨_, rfl⟩
  rw [hW1] at B1 C1
  have HB : Hid (Below w.heap.size w W1) := bthen B0 B0.size B1
  have HS : Hid (w.heap.size + 1 + 1 < W1.heap.size) := Nat.lt_of_lt_of_le (by omega) B1.size
  have HR : Hid (R3 W1 (w.heap.size + 1) nil ∧ R3 W1 (w.heap.size + 1 + 1) nil) := ⟨r0.below B1, r1.below B1⟩
  have HQ1 : Hid (RQ (fun g => No g ∨ (w.heap.size ≤ g ∧ g < W1.heap.size)) W1 RT A P ka va ca cb G c t s) := h.news HB.out
  have d0 : W0.cell? ⟨w.heap.size, 0, none⟩ = some (.int .i64 k.1) := X0.c0
  have d1 : W0.cell? ⟨w.heap.size, 1, none⟩ = some (.int .i64 k.2.1) := X0.c1
  have d2 : W0.cell? ⟨w.heap.size, 2, none⟩ = some (.string k.2.2) := X0.c2
  have f0 : W1.cell? ⟨w.heap.size, 0, none⟩ = some (.int .i64 k.1) := (X0.below B1).c0
  have f1 : W1.cell? ⟨w.heap.size, 1, none⟩ = some (.int .i64 k.2.1) := (X0.below B1).c1
  have f2 : W1.cell? ⟨w.heap.size, 2, none⟩ = some (.string k.2.2) := (X0.below B1).c2
  have HTI : Hid (TI t.p) := h.ti
  have hn := h.ti.le
  have hz := h.ti.rt.le
  have eX2 : ((w.alloc (vb k.1 k.2.1 k.2.2)).alloc (vb 0 0 ⟨#[]⟩)).heap.size = w.heap.size + 1 + 1 := by simp
  obtain ⟨X, hX⟩ : ∃ X, pnx t.p pl = X := ⟨_, rfl⟩
  have HX : Hid (nxF t.p (t.p.n + t.p.z - pl) (pl + 1) = X) := hX
  rw [hX]
  have HCs : Hid _ := hcase
  clear h T0 X0 B0 r0 r1 B1 hW1 hX hcase
  unfold vv vl vb at *
  go_enter Tryz.func23, Tryz.ntmps23
  go_wp2_with fail
  refine C1.mono ?_; rintro e w1 ⟨rfl, hw1⟩; rw [hw1]; clear hw1 C1
  by_cases k0 : k.1 = 0
  · have HP : Hid (pl = 0) := by
      rcases HCs.out with ⟨_, q1, _⟩ | ⟨q, _⟩
      · exact q1
      · exact absurd k0 q
    have HN : Hid (Nl No w RT A P ka va ca cb G c t s rd w.heap.size W1) := by
      rcases HCs.out with ⟨_, _, q2⟩ | ⟨q, _⟩
      · subst q2
        refine Nl.mk0 ?_ (Keep.of HB.out) HR.out.1 HR.out.2 HS.out
        rw [show t.pr + ((0 : Nat) : Int) = t.pr by omega]
        exact HQ1.out.more (by omega)
      · exact absurd k0 q
    have g0 : (k.1 != 0) = false := by simp [k0]
    clear k0 HCs
    go_wp2_with fail
    obtain ⟨U, hU⟩ : ∃ U, W1 = U := ⟨_, rfl⟩
    rw [hU] at HN ⊢
    clear hU HB HS HR HQ1 d0 d1 d2 f0 f1 f2 eX1 eX2 hz0 hW0 g0
    generalize hsz : w.heap.size = N at *
    go_loopw [7] (fun av wr => ∃ f i : Nat, av = .int .i64 (i : Nat) ∧ 1 ≤ i ∧ i + f = t.p.n + t.p.z + 1 ∧ Hid (Below U.heap.size U wr ∧ nxF t.p f i = X)) (fun av _ => t.p.n + t.p.z + 1 - (intOf av).toNat)
    case atStart => exact ⟨t.p.n + t.p.z - pl, pl + 1, by first | go_num | (rw [HP.out]; rfl), by omega, by omega, Below.refl _ _, HX.out⟩
    case round =>
      obtain ⟨f, i, rfl, hi1, hif, HR⟩ := hrel
      clear HX
      have CPl := rplaces_any (HN.out.rb.below HR.out.1) HTI.out
      cases f with
      | zero =>
        have g0 : ¬ ((i : Int) ≤ ((t.p.n + t.p.z : Nat) : Int)) := by omega
        have HXn : Hid ((nil, nil) = X) := HR.out.2
        generalize ((t.p.n + t.p.z : Nat) : Int) = nz at *
        go_wp2_with fail
        refine CPl.mono ?_; rintro e W2 ⟨rfl, hb2⟩
        have HB2 : Hid (Below U.heap.size U W2) := bthen HR.out.1 HR.out.1.size hb2
        obtain ⟨q1, q2, q3, q4⟩ := res_two (HN.out.r0.below HB2.out) (HN.out.r1.below HB2.out) nil nil
        have n0 : W2.cell? ⟨N + 1, 0, none⟩ = some (.int .i64 0) := (HN.out.r0.below HB2.out).bx.c0
        have n1 : W2.cell? ⟨N + 1, 1, none⟩ = some (.int .i64 0) := (HN.out.r0.below HB2.out).bx.c1
        have n2 : W2.cell? ⟨N + 1, 2, none⟩ = some (.string ⟨#[]⟩) := (HN.out.r0.below HB2.out).bx.c2
        have nf := (HN.out.r0.below HB2.out).fz
        obtain ⟨W3, hW3⟩ : ∃ W3, set3 W2 (N + 1) nil = W3 := ⟨_, rfl⟩
        rw [hW3] at q1 q2 q3 q4
        have m0 : W3.cell? ⟨N + 1 + 1, 0, none⟩ = some (.int .i64 0) := q1.bx.c0
        have m1 : W3.cell? ⟨N + 1 + 1, 1, none⟩ = some (.int .i64 0) := q1.bx.c1
        have m2 : W3.cell? ⟨N + 1 + 1, 2, none⟩ = some (.string ⟨#[]⟩) := q1.bx.c2
        have mf := q1.fz
        obtain ⟨W4, hW4⟩ : ∃ W4, set3 W3 (N + 1 + 1) nil = W4 := ⟨_, rfl⟩
        rw [hW4] at q2 q3 q4
        have HF : Hid (Bx W4 (N + 1) nil ∧ Bx W4 (N + 1 + 1) nil ∧ RQ No W4 RT A P ka va ca cb G (c + 1) { t with pr := t.pr + (rd : Nat) } s ∧ Keep No w W4) := ⟨q2, q3, HN.out.fin _ ((Keep.of HB2.out).trans q4)⟩
        unfold set3 nil at hW3 hW4
        clear q1 q2 q3 q4 hb2 CPl HR HN
        go_wp2_with fail
        have v0 : W4.cell? ⟨N + 1, 0, none⟩ = some (.int .i64 0) := HF.out.1.c0
        have v1 : W4.cell? ⟨N + 1, 1, none⟩ = some (.int .i64 0) := HF.out.1.c1
        have v2 : W4.cell? ⟨N + 1, 2, none⟩ = some (.string ⟨#[]⟩) := HF.out.1.c2
        have v3 : W4.cell? ⟨N + 1 + 1, 0, none⟩ = some (.int .i64 0) := HF.out.2.1.c0
        have v4 : W4.cell? ⟨N + 1 + 1, 1, none⟩ = some (.int .i64 0) := HF.out.2.1.c1
        have v5 : W4.cell? ⟨N + 1 + 1, 2, none⟩ = some (.string ⟨#[]⟩) := HF.out.2.1.c2
        rw [← HXn.out]
        refine bodyPost_ret (v := .tuple #[.agg #[.int .i64 0, .int .i64 0, .string ⟨#[]⟩], .agg #[.int .i64 0, .int .i64 0, .string ⟨#[]⟩], .int .i64 0]) (by simp [results, Tryz.results23, go_sem, v0, v1, v2, v3, v4, v5]) rfl ⟨rfl, HF.out.2.2⟩
      | succ f =>
        have g0 : ((i : Int) ≤ ((t.p.n + t.p.z : Nat) : Int)) := by omega
        have hwi : IntKind.i64.wrap ((i : Int) + 1) = (i : Int) + 1 := by rw [IntKind.wrap_i64]; omega
        have CPr := fun (W2 : World) (hb : Below U.heap.size U W2) => rpair_all (HN.out.rb.below hb) HTI.out (i : Int)
        simp only [prO_prP] at CPr
        obtain ⟨y, hy⟩ : ∃ y, prO t.p (i : Int) = y := ⟨_, rfl⟩
        simp only [hy] at CPr
        have HXs : Hid ((if y.2.1 ≠ 0 then y else nxF t.p f (i + 1)) = X) := by
          have q := HR.out.2
          rw [nxF, hy] at q
          exact q
        unfold vv vl at CPr
        have HCPr : Hid _ := CPr
        have HR1 : Hid (Below U.heap.size U wr) := HR.out.1
        clear hy CPr HR
        go_wp2_with fail
        refine CPl.mono ?_; rintro e W2 ⟨rfl, hb2⟩
        have HB2 : Hid (Below U.heap.size U W2) := bthen HR1.out HR1.out.size hb2
        have C3 := HCPr.out W2 HB2.out
        clear CPl hb2 HCPr HR1
        go_wp2_with fail
        refine C3.mono ?_; rintro e W3 ⟨rfl, hb3⟩
        have HB3 : Hid (Below U.heap.size U W3) := bthen HB2.out HB2.out.size hb3
        clear C3 hb3 HB2
        have e5 : (W3.alloc (.cells #[.int .i64 y.1.1, .int .i64 y.1.2.1, .string y.1.2.2] 31)).heap.size = W3.heap.size + 1 := by simp
        have x8 : Bx ((W3.alloc (vb y.1.1 y.1.2.1 y.1.2.2)).alloc (vb y.2.1 y.2.2.1 y.2.2.2)) W3.heap.size y.1 := (Bx.made W3 y.1).below (b1 _ _)
        have x9 := Bx.made (W3.alloc (vb y.1.1 y.1.2.1 y.1.2.2)) y.2
        have b5 := b2 W3 (vb y.1.1 y.1.2.1 y.1.2.2) (vb y.2.1 y.2.2.1 y.2.2.2)
        unfold vb at x8 x9 b5
        rw [e5] at x9
        obtain ⟨W5, hW5⟩ : ∃ W5, (W3.alloc (.cells #[.int .i64 y.1.1, .int .i64 y.1.2.1, .string y.1.2.2] 31)).alloc (.cells #[.int .i64 y.2.1, .int .i64 y.2.2.1, .string y.2.2.2] 31) = W5 := ⟨_, rfl⟩
        rw [hW5] at x8 x9 b5
        have HB5 : Hid (Below U.heap.size U W5) := bthen HB3.out HB3.out.size b5
        have a0 := x8.c0
        have a1 := x8.c1
        have a2 := x8.c2
        have a3 := x9.c0
        have a4 := x9.c1
        have a5 := x9.c2
        by_cases hy0 : y.2.1 = 0
        · have g1 : (y.2.1 != 0) = false := by simp [hy0]
          have HXt : Hid (nxF t.p f (i + 1) = X) := by have q := HXs.out; rw [if_neg (by simp [hy0])] at q; exact q
          clear hy0 HXs x8 x9 b5 HB3 HN
          generalize ((t.p.n + t.p.z : Nat) : Int) = nz at *
          go_wp2_with fail
          go_round
          case rel => exact ⟨f, i + 1, by go_num, by omega, by omega, HB5.out, HXt.out⟩
          case measure => simp [intOf]; omega
        · have g1 : (y.2.1 != 0) = true := by simp [hy0]
          have HXt : Hid (y = X) := by have q := HXs.out; rw [if_pos hy0] at q; exact q
          have hN3 : N + 1 + 1 < W3.heap.size := (HN.out.r1.below HB3.out).bx.lt
          obtain ⟨q1, q2, q3, q4⟩ := res_two (HN.out.r0.below HB5.out) (HN.out.r1.below HB5.out) y.1 y.2
          have n0 : W5.cell? ⟨N + 1, 0, none⟩ = some (.int .i64 0) := (HN.out.r0.below HB5.out).bx.c0
          have n1 : W5.cell? ⟨N + 1, 1, none⟩ = some (.int .i64 0) := (HN.out.r0.below HB5.out).bx.c1
          have n2 : W5.cell? ⟨N + 1, 2, none⟩ = some (.string ⟨#[]⟩) := (HN.out.r0.below HB5.out).bx.c2
          have nf := (HN.out.r0.below HB5.out).fz
          have k6 : Keep (fun g => g ≠ N + 1) W5 (set3 W5 (N + 1) y.1) := set3_keep _ _ _
          have x9' := x9.kept k6 (by show _ ≠ _; omega)
          obtain ⟨W6, hW6⟩ : ∃ W6, set3 W5 (N + 1) y.1 = W6 := ⟨_, rfl⟩
          rw [hW6] at q1 q2 q3 q4 x9'
          have m0 : W6.cell? ⟨N + 1 + 1, 0, none⟩ = some (.int .i64 0) := q1.bx.c0
          have m1 : W6.cell? ⟨N + 1 + 1, 1, none⟩ = some (.int .i64 0) := q1.bx.c1
          have m2 : W6.cell? ⟨N + 1 + 1, 2, none⟩ = some (.string ⟨#[]⟩) := q1.bx.c2
          have mf := q1.fz
          have b3 := x9'.c0
          have b4 := x9'.c1
          have b5' := x9'.c2
          obtain ⟨W7, hW7⟩ : ∃ W7, set3 W6 (N + 1 + 1) y.2 = W7 := ⟨_, rfl⟩
          rw [hW7] at q2 q3 q4
          have HF : Hid (Bx W7 (N + 1) y.1 ∧ Bx W7 (N + 1 + 1) y.2 ∧ RQ No W7 RT A P ka va ca cb G (c + 1) { t with pr := t.pr + (rd : Nat) } s ∧ Keep No w W7) := ⟨q2, q3, HN.out.fin _ ((Keep.of HB5.out).trans q4)⟩
          unfold set3 at hW6 hW7
          clear q1 q2 q3 q4 x8 x9 x9' k6 b5 HB3 HN hy0 HXs hN3
          generalize ((t.p.n + t.p.z : Nat) : Int) = nz at *
          go_wp2_with fail
          go_region
          all_goals
            go_wp2_with fail
            have v0 := HF.out.1.c0
            have v1 := HF.out.1.c1
            have v2 := HF.out.1.c2
            have v3 := HF.out.2.1.c0
            have v4 := HF.out.2.1.c1
            have v5 := HF.out.2.1.c2
            rw [← HXt.out]
            refine bodyPost_ret (v := .tuple #[.agg #[.int .i64 y.1.1, .int .i64 y.1.2.1, .string y.1.2.2], .agg #[.int .i64 y.2.1, .int .i64 y.2.2.1, .string y.2.2.2], .int .i64 0]) (by simp [results, Tryz.results23, go_sem, v0, v1, v2, v3, v4, v5]) rfl ⟨rfl, HF.out.2.2.1.below (bdrew1 _), HF.out.2.2.2.trans (Keep.of (bdrew1 _))⟩
  · have CP := rplace8 HQ1.out (by omega) k hr
    obtain ⟨_, q1, q2, q3⟩ := HCs.out.resolve_left (fun q => k0 q.1)
    rw [q1, ← q3] at CP
    unfold vv vl at CP
    have g0 : (k.1 != 0) = true := by simp [k0]
    have g1 : ((pl : Int) == 0) = false := by simp; omega
    have hwp : IntKind.i64.wrap ((pl : Int) + 1) = (pl : Int) + 1 := by rw [IntKind.wrap_i64]; omega
    clear k0 q1 q2 q3 HCs
    go_wp2_with fail
    refine CP.mono ?_; rintro e U ⟨rfl, h2, k2⟩
    have HN : Hid (Nl No w RT A P ka va ca cb G c t s rd w.heap.size U) :=
      Nl.mk0 h2 ((Keep.of HB.out).trans (k2.sub (fun _ => .inl))) (HR.out.1.kept k2 (.inr ⟨by omega, by have := HS.out; omega⟩)) (HR.out.2.kept k2 (.inr ⟨by omega, HS.out⟩)) HS.out
    clear CP h2 k2
    go_wp2_with fail
    clear HB HS HR HQ1 d0 d1 d2 f0 f1 f2 eX1 eX2 hz0 hW0 g0 g1 hwp
    generalize hsz : w.heap.size = N at *
    go_loopw [7] (fun av wr => ∃ f i : Nat, av = .int .i64 (i : Nat) ∧ 1 ≤ i ∧ i + f = t.p.n + t.p.z + 1 ∧ Hid (Below U.heap.size U wr ∧ nxF t.p f i = X)) (fun av _ => t.p.n + t.p.z + 1 - (intOf av).toNat)
    case atStart => exact ⟨t.p.n + t.p.z - pl, pl + 1, by first | go_num | (rw [HP.out]; rfl), by omega, by omega, Below.refl _ _, HX.out⟩
    case round =>
      obtain ⟨f, i, rfl, hi1, hif, HR⟩ := hrel
      clear HX
      have CPl := rplaces_any (HN.out.rb.below HR.out.1) HTI.out
      cases f with
      | zero =>
        have g0 : ¬ ((i : Int) ≤ ((t.p.n + t.p.z : Nat) : Int)) := by omega
        have HXn : Hid ((nil, nil) = X) := HR.out.2
        generalize ((t.p.n + t.p.z : Nat) : Int) = nz at *
        go_wp2_with fail
        refine CPl.mono ?_; rintro e W2 ⟨rfl, hb2⟩
        have HB2 : Hid (Below U.heap.size U W2) := bthen HR.out.1 HR.out.1.size hb2
        obtain ⟨q1, q2, q3, q4⟩ := res_two (HN.out.r0.below HB2.out) (HN.out.r1.below HB2.out) nil nil
        have n0 : W2.cell? ⟨N + 1, 0, none⟩ = some (.int .i64 0) := (HN.out.r0.below HB2.out).bx.c0
        have n1 : W2.cell? ⟨N + 1, 1, none⟩ = some (.int .i64 0) := (HN.out.r0.below HB2.out).bx.c1
        have n2 : W2.cell? ⟨N + 1, 2, none⟩ = some (.string ⟨#[]⟩) := (HN.out.r0.below HB2.out).bx.c2
        have nf := (HN.out.r0.below HB2.out).fz
        obtain ⟨W3, hW3⟩ : ∃ W3, set3 W2 (N + 1) nil = W3 := ⟨_, rfl⟩
        rw [hW3] at q1 q2 q3 q4
        have m0 : W3.cell? ⟨N + 1 + 1, 0, none⟩ = some (.int .i64 0) := q1.bx.c0
        have m1 : W3.cell? ⟨N + 1 + 1, 1, none⟩ = some (.int .i64 0) := q1.bx.c1
        have m2 : W3.cell? ⟨N + 1 + 1, 2, none⟩ = some (.string ⟨#[]⟩) := q1.bx.c2
        have mf := q1.fz
        obtain ⟨W4, hW4⟩ : ∃ W4, set3 W3 (N + 1 + 1) nil = W4 := ⟨_, rfl⟩
        rw [hW4] at q2 q3 q4
        have HF : Hid (Bx W4 (N + 1) nil ∧ Bx W4 (N + 1 + 1) nil ∧ RQ No W4 RT A P ka va ca cb G (c + 1) { t with pr := t.pr + (rd : Nat) } s ∧ Keep No w W4) := ⟨q2, q3, HN.out.fin _ ((Keep.of HB2.out).trans q4)⟩
        unfold set3 nil at hW3 hW4
        clear q1 q2 q3 q4 hb2 CPl HR HN
        go_wp2_with fail
        have v0 : W4.cell? ⟨N + 1, 0, none⟩ = some (.int .i64 0) := HF.out.1.c0
        have v1 : W4.cell? ⟨N + 1, 1, none⟩ = some (.int .i64 0) := HF.out.1.c1
        have v2 : W4.cell? ⟨N + 1, 2, none⟩ = some (.string ⟨#[]⟩) := HF.out.1.c2
        have v3 : W4.cell? ⟨N + 1 + 1, 0, none⟩ = some (.int .i64 0) := HF.out.2.1.c0
        have v4 : W4.cell? ⟨N + 1 + 1, 1, none⟩ = some (.int .i64 0) := HF.out.2.1.c1
        have v5 : W4.cell? ⟨N + 1 + 1, 2, none⟩ = some (.string ⟨#[]⟩) := HF.out.2.1.c2
        rw [← HXn.out]
        refine bodyPost_ret (v := .tuple #[.agg #[.int .i64 0, .int .i64 0, .string ⟨#[]⟩], .agg #[.int .i64 0, .int .i64 0, .string ⟨#[]⟩], .int .i64 0]) (by simp [results, Tryz.results23, go_sem, v0, v1, v2, v3, v4, v5]) rfl ⟨rfl, HF.out.2.2⟩
      | succ f =>
        have g0 : ((i : Int) ≤ ((t.p.n + t.p.z : Nat) : Int)) := by omega
        have hwi : IntKind.i64.wrap ((i : Int) + 1) = (i : Int) + 1 := by rw [IntKind.wrap_i64]; omega
        have CPr := fun (W2 : World) (hb : Below U.heap.size U W2) => rpair_all (HN.out.rb.below hb) HTI.out (i : Int)
        simp only [prO_prP] at CPr
        obtain ⟨y, hy⟩ : ∃ y, prO t.p (i : Int) = y := ⟨_, rfl⟩
        simp only [hy] at CPr
        have HXs : Hid ((if y.2.1 ≠ 0 then y else nxF t.p f (i + 1)) = X) := by
          have q := HR.out.2
          rw [nxF, hy] at q
          exact q
        unfold vv vl at CPr
        have HCPr : Hid _ := CPr
        have HR1 : Hid (Below U.heap.size U wr) := HR.out.1
        clear hy CPr HR
        go_wp2_with fail
        refine CPl.mono ?_; rintro e W2 ⟨rfl, hb2⟩
        have HB2 : Hid (Below U.heap.size U W2) := bthen HR1.out HR1.out.size hb2
        have C3 := HCPr.out W2 HB2.out
        clear CPl hb2 HCPr HR1
        go_wp2_with fail
        refine C3.mono ?_; rintro e W3 ⟨rfl, hb3⟩
        have HB3 : Hid (Below U.heap.size U W3) := bthen HB2.out HB2.out.size hb3
        clear C3 hb3 HB2
        have e5 : (W3.alloc (.cells #[.int .i64 y.1.1, .int .i64 y.1.2.1, .string y.1.2.2] 31)).heap.size = W3.heap.size + 1 := by simp
        have x8 : Bx ((W3.alloc (vb y.1.1 y.1.2.1 y.1.2.2)).alloc (vb y.2.1 y.2.2.1 y.2.2.2)) W3.heap.size y.1 := (Bx.made W3 y.1).below (b1 _ _)
        have x9 := Bx.made (W3.alloc (vb y.1.1 y.1.2.1 y.1.2.2)) y.2
        have b5 := b2 W3 (vb y.1.1 y.1.2.1 y.1.2.2) (vb y.2.1 y.2.2.1 y.2.2.2)
        unfold vb at x8 x9 b5
        rw [e5] at x9
        obtain ⟨W5, hW5⟩ : ∃ W5, (W3.alloc (.cells #[.int .i64 y.1.1, .int .i64 y.1.2.1, .string y.1.2.2] 31)).alloc (.cells #[.int .i64 y.2.1, .int .i64 y.2.2.1, .string y.2.2.2] 31) = W5 := ⟨_, rfl⟩
        rw [hW5] at x8 x9 b5
        have HB5 : Hid (Below U.heap.size U W5) := bthen HB3.out HB3.out.size b5
        have a0 := x8.c0
        have a1 := x8.c1
        have a2 := x8.c2
        have a3 := x9.c0
        have a4 := x9.c1
        have a5 := x9.c2
        by_cases hy0 : y.2.1 = 0
        · have g1 : (y.2.1 != 0) = false := by simp [hy0]
          have HXt : Hid (nxF t.p f (i + 1) = X) := by have q := HXs.out; rw [if_neg (by simp [hy0])] at q; exact q
          clear hy0 HXs x8 x9 b5 HB3 HN
          generalize ((t.p.n + t.p.z : Nat) : Int) = nz at *
          go_wp2_with fail
          go_round
          case rel => exact ⟨f, i + 1, by go_num, by omega, by omega, HB5.out, HXt.out⟩
          case measure => simp [intOf]; omega
        · have g1 : (y.2.1 != 0) = true := by simp [hy0]
          have HXt : Hid (y = X) := by have q := HXs.out; rw [if_pos hy0] at q; exact q
          have hN3 : N + 1 + 1 < W3.heap.size := (HN.out.r1.below HB3.out).bx.lt
          obtain ⟨q1, q2, q3, q4⟩ := res_two (HN.out.r0.below HB5.out) (HN.out.r1.below HB5.out) y.1 y.2
          have n0 : W5.cell? ⟨N + 1, 0, none⟩ = some (.int .i64 0) := (HN.out.r0.below HB5.out).bx.c0
          have n1 : W5.cell? ⟨N + 1, 1, none⟩ = some (.int .i64 0) := (HN.out.r0.below HB5.out).bx.c1
          have n2 : W5.cell? ⟨N + 1, 2, none⟩ = some (.string ⟨#[]⟩) := (HN.out.r0.below HB5.out).bx.c2
          have nf := (HN.out.r0.below HB5.out).fz
          have k6 : Keep (fun g => g ≠ N + 1) W5 (set3 W5 (N + 1) y.1) := set3_keep _ _ _
          have x9' := x9.kept k6 (by show _ ≠ _; omega)
          obtain ⟨W6, hW6⟩ : ∃ W6, set3 W5 (N + 1) y.1 = W6 := ⟨_, rfl⟩
          rw [hW6] at q1 q2 q3 q4 x9'
          have m0 : W6.cell? ⟨N + 1 + 1, 0, none⟩ = some (.int .i64 0) := q1.bx.c0
          have m1 : W6.cell? ⟨N + 1 + 1, 1, none⟩ = some (.int .i64 0) := q1.bx.c1
          have m2 : W6.cell? ⟨N + 1 + 1, 2, none⟩ = some (.string ⟨#[]⟩) := q1.bx.c2
          have mf := q1.fz
          have b3 := x9'.c0
          have b4 := x9'.c1
          have b5' := x9'.c2
          obtain ⟨W7, hW7⟩ : ∃ W7, set3 W6 (N + 1 + 1) y.2 = W7 := ⟨_, rfl⟩
          rw [hW7] at q2 q3 q4
          have HF : Hid (Bx W7 (N + 1) y.1 ∧ Bx W7 (N + 1 + 1) y.2 ∧ RQ No W7 RT A P ka va ca cb G (c + 1) { t with pr := t.pr + (rd : Nat) } s ∧ Keep No w W7) := ⟨q2, q3, HN.out.fin _ ((Keep.of HB5.out).trans q4)⟩
          unfold set3 at hW6 hW7
          clear q1 q2 q3 q4 x8 x9 x9' k6 b5 HB3 HN hy0 HXs hN3
          generalize ((t.p.n + t.p.z : Nat) : Int) = nz at *
          go_wp2_with fail
          go_region
          all_goals
            go_wp2_with fail
            have v0 := HF.out.1.c0
            have v1 := HF.out.1.c1
            have v2 := HF.out.1.c2
            have v3 := HF.out.2.1.c0
            have v4 := HF.out.2.1.c1
            have v5 := HF.out.2.1.c2
            rw [← HXt.out]
            refine bodyPost_ret (v := .tuple #[.agg #[.int .i64 y.1.1, .int .i64 y.1.2.1, .string y.1.2.2], .agg #[.int .i64 y.2.1, .int .i64 y.2.2.1, .string y.2.2.2], .int .i64 0]) (by simp [results, Tryz.results23, go_sem, v0, v1, v2, v3, v4, v5]) rfl ⟨rfl, HF.out.2.2.1.below (bdrew1 _), HF.out.2.2.2.trans (Keep.of (bdrew1 _))⟩
set_option maxRecDepth 20000 in
set_option maxHeartbeats 4000000 in
theorem rnext_form (h : RQ No w RT A P ka va ca cb G c t s) (k : V) (hk : fm k = false) :
    Calls Tryz.prog 23 #[.pointer (some ⟨RT, 0, none⟩), vv k] w fun e w' => e = .returned (.tuple #[vv nil, vv nil, .int .i64 2]) ∧ RQ No w' RT A P ka va ca cb G (c + 1) { t with pr := t.pr + ((0 : Nat) : Int) } s ∧ Keep No w w' := by
  have eX1 : (w.alloc (vb k.1 k.2.1 k.2.2)).heap.size = w.heap.size + 1 := by simp
  have T0 := Tb.made (w.alloc (vb k.1 k.2.1 k.2.2))
  have X0 : Bx ((((w.alloc (vb k.1 k.2.1 k.2.2)).alloc (vb 0 0 ⟨#[]⟩)).alloc (vb 0 0 ⟨#[]⟩))) w.heap.size k := (Bx.made w k).below T0.bel
  have hz0 : (((w.alloc (vb k.1 k.2.1 k.2.2)).alloc (vb 0 0 ⟨#[]⟩)).alloc (vb 0 0 ⟨#[]⟩)).heap.size = w.heap.size + 3 := by simp
  have B0 : Below w.heap.size w ((((w.alloc (vb k.1 k.2.1 k.2.2)).alloc (vb 0 0 ⟨#[]⟩)).alloc (vb 0 0 ⟨#[]⟩))) := bthen (b1 w _) (by simp) T0.bel
  obtain ⟨W0, hW0⟩ : ∃ W0, ((w.alloc (vb k.1 k.2.1 k.2.2)).alloc (vb 0 0 ⟨#[]⟩)).alloc (vb 0 0 ⟨#[]⟩) = W0 := ⟨_, rfl⟩
  rw [hW0] at T0 X0 B0 hz0
  have r0 := T0.r0
  have r1 := T0.r1
  rw [eX1] at r0 r1
  have B1 := b1 W0 (vb k.1 k.2.1 k.2.2)
  have C1 := rcheck_any k.1 k.2.1 k.2.2 W0
  rw [chk_of, if_neg (by simp [hk])] at C1
  obtain ⟨W1, hW1⟩ : ∃ W1, W0.alloc (vb k.1 k.2.1 k.2.2) = W1 := ⟨_, rfl⟩
  rw [hW1] at B1 C1
  have HB : Hid (Below w.heap.size w W1) := bthen B0 B0.size B1
  have HS : Hid (w.heap.size + 1 + 1 < W1.heap.size) := Nat.lt_of_lt_of_le (by omega) B1.size
  have HR : Hid (R3 W1 (w.heap.size + 1) nil ∧ R3 W1 (w.heap.size + 1 + 1) nil) := ⟨r0.below B1, r1.below B1⟩
  have HQ1 : Hid (RQ (fun g => No g ∨ (w.heap.size ≤ g ∧ g < W1.heap.size)) W1 RT A P ka va ca cb G c t s) := h.news HB.out
  have d0 : W0.cell? ⟨w.heap.size, 0, none⟩ = some (.int .i64 k.1) := X0.c0
  have d1 : W0.cell? ⟨w.heap.size, 1, none⟩ = some (.int .i64 k.2.1) := X0.c1
  have d2 : W0.cell? ⟨w.heap.size, 2, none⟩ = some (.string k.2.2) := X0.c2
  have f0 : W1.cell? ⟨w.heap.size, 0, none⟩ = some (.int .i64 k.1) := (X0.below B1).c0
  have f1 : W1.cell? ⟨w.heap.size, 1, none⟩ = some (.int .i64 k.2.1) := (X0.below B1).c1
  have f2 : W1.cell? ⟨w.heap.size, 2, none⟩ = some (.string k.2.2) := (X0.below B1).c2
  have eX2 : ((w.alloc (vb k.1 k.2.1 k.2.2)).alloc (vb 0 0 ⟨#[]⟩)).heap.size = w.heap.size + 1 + 1 := by simp
  have HN : Hid (Nl No w RT A P ka va ca cb G c t s 0 w.heap.size W1) := by
    refine Nl.mk0 ?_ (Keep.of HB.out) HR.out.1 HR.out.2 HS.out
    rw [show t.pr + ((0 : Nat) : Int) = t.pr by omega]
    exact HQ1.out.more (by omega)
  clear h T0 X0 B0 r0 r1 B1 hW1 HB HS HR HQ1 hz0
  unfold vv vl vb at *
  unfold nil
  go_enter Tryz.func23, Tryz.ntmps23
  go_wp2_with fail
  refine C1.mono ?_; rintro e w1 ⟨rfl, hw1⟩; rw [hw1]; clear hw1 C1
  obtain ⟨U, hU⟩ : ∃ U, W1 = U := ⟨_, rfl⟩
  rw [hU] at HN ⊢
  clear hU d0 d1 d2 f0 f1 f2 eX1 eX2 hW0
  obtain ⟨q1, q2, q3, q4⟩ := res_two HN.out.r0 HN.out.r1 nil nil
  generalize hsz : w.heap.size = N at *
  have n0 : U.cell? ⟨N + 1, 0, none⟩ = some (.int .i64 0) := HN.out.r0.bx.c0
  have n1 : U.cell? ⟨N + 1, 1, none⟩ = some (.int .i64 0) := HN.out.r0.bx.c1
  have n2 : U.cell? ⟨N + 1, 2, none⟩ = some (.string ⟨#[]⟩) := HN.out.r0.bx.c2
  have nf := HN.out.r0.fz
  obtain ⟨W3, hW3⟩ : ∃ W3, set3 U (N + 1) nil = W3 := ⟨_, rfl⟩
  rw [hW3] at q1 q2 q3 q4
  have m0 : W3.cell? ⟨N + 1 + 1, 0, none⟩ = some (.int .i64 0) := q1.bx.c0
  have m1 : W3.cell? ⟨N + 1 + 1, 1, none⟩ = some (.int .i64 0) := q1.bx.c1
  have m2 : W3.cell? ⟨N + 1 + 1, 2, none⟩ = some (.string ⟨#[]⟩) := q1.bx.c2
  have mf := q1.fz
  obtain ⟨W4, hW4⟩ : ∃ W4, set3 W3 (N + 1 + 1) nil = W4 := ⟨_, rfl⟩
  rw [hW4] at q2 q3 q4
  have HF : Hid (Bx W4 (N + 1) nil ∧ Bx W4 (N + 1 + 1) nil ∧ RQ No W4 RT A P ka va ca cb G (c + 1) { t with pr := t.pr + (0 : Nat) } s ∧ Keep No w W4) := ⟨q2, q3, HN.out.fin _ q4⟩
  unfold set3 nil at hW3 hW4
  clear q1 q2 q3 q4 HN
  go_wp2_with fail
  have v0 : W4.cell? ⟨N + 1, 0, none⟩ = some (.int .i64 0) := HF.out.1.c0
  have v1 : W4.cell? ⟨N + 1, 1, none⟩ = some (.int .i64 0) := HF.out.1.c1
  have v2 : W4.cell? ⟨N + 1, 2, none⟩ = some (.string ⟨#[]⟩) := HF.out.1.c2
  have v3 : W4.cell? ⟨N + 1 + 1, 0, none⟩ = some (.int .i64 0) := HF.out.2.1.c0
  have v4 : W4.cell? ⟨N + 1 + 1, 1, none⟩ = some (.int .i64 0) := HF.out.2.1.c1
  have v5 : W4.cell? ⟨N + 1 + 1, 2, none⟩ = some (.string ⟨#[]⟩) := HF.out.2.1.c2
  refine bodyPost_ret (v := .tuple #[.agg #[.int .i64 0, .int .i64 0, .string ⟨#[]⟩], .agg #[.int .i64 0, .int .i64 0, .string ⟨#[]⟩], .int .i64 2]) (by simp [results, Tryz.results23, go_sem, v0, v1, v2, v3, v4, v5]) rfl ⟨rfl, HF.out.2.2⟩
set_option maxRecDepth 20000 in
set_option maxHeartbeats 4000000 in
theorem rnext_key (h : RQ No w RT A P ka va ca cb G c t s) (hc : c ≤ 600000) (k : V) (hr : Rng k) (hk : fm k = true) (k0 : k.1 ≠ 0) (hp : plc t.p k = 0) :
    Calls Tryz.prog 23 #[.pointer (some ⟨RT, 0, none⟩), vv k] w fun e w' => e = .returned (.tuple #[vv nil, vv nil, .int .i64 9]) ∧ RQ No w' RT A P ka va ca cb G (c + 1) { t with pr := t.pr + (prd t.p k : Nat) } s ∧ Keep No w w' := by
  have eX1 : (w.alloc (vb k.1 k.2.1 k.2.2)).heap.size = w.heap.size + 1 := by simp
  have T0 := Tb.made (w.alloc (vb k.1 k.2.1 k.2.2))
  have X0 : Bx ((((w.alloc (vb k.1 k.2.1 k.2.2)).alloc (vb 0 0 ⟨#[]⟩)).alloc (vb 0 0 ⟨#[]⟩))) w.heap.size k := (Bx.made w k).below T0.bel
  have hz0 : (((w.alloc (vb k.1 k.2.1 k.2.2)).alloc (vb 0 0 ⟨#[]⟩)).alloc (vb 0 0 ⟨#[]⟩)).heap.size = w.heap.size + 3 := by simp
  have B0 : Below w.heap.size w ((((w.alloc (vb k.1 k.2.1 k.2.2)).alloc (vb 0 0 ⟨#[]⟩)).alloc (vb 0 0 ⟨#[]⟩))) := bthen (b1 w _) (by simp) T0.bel
  obtain ⟨W0, hW0⟩ : ∃ W0, ((w.alloc (vb k.1 k.2.1 k.2.2)).alloc (vb 0 0 ⟨#[]⟩)).alloc (vb 0 0 ⟨#[]⟩) = W0 := ⟨_, rfl⟩
  rw [hW0] at T0 X0 B0 hz0
  have r0 := T0.r0
  have r1 := T0.r1
  rw [eX1] at r0 r1
  have B1 := b1 W0 (vb k.1 k.2.1 k.2.2)
  have C1 := rcheck_any k.1 k.2.1 k.2.2 W0
  rw [chk_ok hk] at C1
  obtain ⟨W1, hW1⟩ : ∃ W1, W0.alloc (vb k.1 k.2.1 k.2.2) = W1 := ⟨_, rfl⟩
  rw [hW1] at B1 C1
  have HB : Hid (Below w.heap.size w W1) := bthen B0 B0.size B1
  have HS : Hid (w.heap.size + 1 + 1 < W1.heap.size) := Nat.lt_of_lt_of_le (by omega) B1.size
  have HR : Hid (R3 W1 (w.heap.size + 1) nil ∧ R3 W1 (w.heap.size + 1 + 1) nil) := ⟨r0.below B1, r1.below B1⟩
  have HQ1 : Hid (RQ (fun g => No g ∨ (w.heap.size ≤ g ∧ g < W1.heap.size)) W1 RT A P ka va ca cb G c t s) := h.news HB.out
  have d0 : W0.cell? ⟨w.heap.size, 0, none⟩ = some (.int .i64 k.1) := X0.c0
  have d1 : W0.cell? ⟨w.heap.size, 1, none⟩ = some (.int .i64 k.2.1) := X0.c1
  have d2 : W0.cell? ⟨w.heap.size, 2, none⟩ = some (.string k.2.2) := X0.c2
  have f0 : W1.cell? ⟨w.heap.size, 0, none⟩ = some (.int .i64 k.1) := (X0.below B1).c0
  have f1 : W1.cell? ⟨w.heap.size, 1, none⟩ = some (.int .i64 k.2.1) := (X0.below B1).c1
  have f2 : W1.cell? ⟨w.heap.size, 2, none⟩ = some (.string k.2.2) := (X0.below B1).c2
  have eX2 : ((w.alloc (vb k.1 k.2.1 k.2.2)).alloc (vb 0 0 ⟨#[]⟩)).heap.size = w.heap.size + 1 + 1 := by simp
  have CP := rplace8 HQ1.out (by omega) k hr
  rw [hp] at CP
  have g0 : (k.1 != 0) = true := by simp [k0]
  clear h T0 X0 B0 r0 r1 B1 hW1 hz0 k0 hp
  unfold vv vl vb at *
  unfold nil
  go_enter Tryz.func23, Tryz.ntmps23
  go_wp2_with fail
  refine C1.mono ?_; rintro e w1 ⟨rfl, hw1⟩; rw [hw1]; clear hw1 C1
  go_wp2_with fail
  refine CP.mono ?_; rintro e U ⟨rfl, h2, k2⟩
  have HN : Hid (Nl No w RT A P ka va ca cb G c t s (prd t.p k) w.heap.size U) :=
    Nl.mk0 h2 ((Keep.of HB.out).trans (k2.sub (fun _ => .inl))) (HR.out.1.kept k2 (.inr ⟨by omega, by have := HS.out; omega⟩)) (HR.out.2.kept k2 (.inr ⟨by omega, HS.out⟩)) HS.out
  clear CP h2 k2 HB HS HR HQ1 d0 d1 d2 f0 f1 f2 eX1 eX2 hW0 g0
  obtain ⟨q1, q2, q3, q4⟩ := res_two HN.out.r0 HN.out.r1 nil nil
  generalize hsz : w.heap.size = N at *
  have n0 : U.cell? ⟨N + 1, 0, none⟩ = some (.int .i64 0) := HN.out.r0.bx.c0
  have n1 : U.cell? ⟨N + 1, 1, none⟩ = some (.int .i64 0) := HN.out.r0.bx.c1
  have n2 : U.cell? ⟨N + 1, 2, none⟩ = some (.string ⟨#[]⟩) := HN.out.r0.bx.c2
  have nf := HN.out.r0.fz
  obtain ⟨W3, hW3⟩ : ∃ W3, set3 U (N + 1) nil = W3 := ⟨_, rfl⟩
  rw [hW3] at q1 q2 q3 q4
  have m0 : W3.cell? ⟨N + 1 + 1, 0, none⟩ = some (.int .i64 0) := q1.bx.c0
  have m1 : W3.cell? ⟨N + 1 + 1, 1, none⟩ = some (.int .i64 0) := q1.bx.c1
  have m2 : W3.cell? ⟨N + 1 + 1, 2, none⟩ = some (.string ⟨#[]⟩) := q1.bx.c2
  have mf := q1.fz
  obtain ⟨W4, hW4⟩ : ∃ W4, set3 W3 (N + 1 + 1) nil = W4 := ⟨_, rfl⟩
  rw [hW4] at q2 q3 q4
  have HF : Hid (Bx W4 (N + 1) nil ∧ Bx W4 (N + 1 + 1) nil ∧ RQ No W4 RT A P ka va ca cb G (c + 1) { t with pr := t.pr + (prd t.p k : Nat) } s ∧ Keep No w W4) := ⟨q2, q3, HN.out.fin _ q4⟩
  unfold set3 nil at hW3 hW4
  clear q1 q2 q3 q4 HN
  go_wp2_with fail
  have v0 : W4.cell? ⟨N + 1, 0, none⟩ = some (.int .i64 0) := HF.out.1.c0
  have v1 : W4.cell? ⟨N + 1, 1, none⟩ = some (.int .i64 0) := HF.out.1.c1
  have v2 : W4.cell? ⟨N + 1, 2, none⟩ = some (.string ⟨#[]⟩) := HF.out.1.c2
  have v3 : W4.cell? ⟨N + 1 + 1, 0, none⟩ = some (.int .i64 0) := HF.out.2.1.c0
  have v4 : W4.cell? ⟨N + 1 + 1, 1, none⟩ = some (.int .i64 0) := HF.out.2.1.c1
  have v5 : W4.cell? ⟨N + 1 + 1, 2, none⟩ = some (.string ⟨#[]⟩) := HF.out.2.1.c2
  refine bodyPost_ret (v := .tuple #[.agg #[.int .i64 0, .int .i64 0, .string ⟨#[]⟩], .agg #[.int .i64 0, .int .i64 0, .string ⟨#[]⟩], .int .i64 9]) (by simp [results, Tryz.results23, go_sem, v0, v1, v2, v3, v4, v5]) rfl ⟨rfl, HF.out.2.2⟩
/-- Next of the reference. -/
theorem rnext_any (h : RQ No w RT A P ka va ca cb G c t s) (hc : c ≤ 600000) (k : V) (hr : Rng k) :
    Calls Tryz.prog 23 #[tp RT, vv k] w fun e w' => e = .returned (.tuple #[vv (wnx t.p k).1, vv (wnx t.p k).2.1, .int .i64 (wnx t.p k).2.2]) ∧ RQ No w' RT A P ka va ca cb G (c + 1) { t with pr := t.pr + (if fm k = true ∧ k.1 ≠ 0 then prd t.p k else 0 : Nat) } s ∧ Keep No w w' := by
  unfold wnx tp
  cases hk : fm k with
  | false =>
    rw [if_pos rfl, if_neg (by simp)]
    exact rnext_form h k hk
  | true =>
    rw [if_neg (by simp)]
    by_cases k0 : k.1 = 0
    · rw [if_pos k0, if_neg (by simp [k0])]
      exact rnext_go h hc k hr hk 0 0 (by omega) (.inl ⟨k0, rfl, rfl⟩)
    · have e1 : (if true = true ∧ k.1 ≠ 0 then prd t.p k else 0) = prd t.p k := if_pos ⟨rfl, k0⟩
      rw [if_neg k0, e1]
      by_cases hp : plc t.p k = 0
      · rw [if_pos hp]
        exact rnext_key h hc k hr hk k0 hp
      · rw [if_neg hp]
        have h1 := plc_le h.ti (k := k) ⟨hk, k0, hr⟩
        have h2 : 0 ≤ plc t.p k := by
          unfold plc
          split
          · rename_i q; have := q.2.2.1; omega
          · split <;> omega
        exact rnext_go h hc k hr hk (plc t.p k).toNat (prd t.p k) (by omega) (.inr ⟨k0, by omega, by omega, rfl⟩)
end
end Go.Proofs.YtoomlihccniooaaGreat

/- The walk of List. -/
namespace Go.Proofs.YtoomlihccniooaaGreat
open Go.RowKit Go.Shelf
attribute [local go_sem] Oper.semAt_some

/-- The cells of a list of pairs. -/
def cP (x : V × V) : List Value := [.int .i64 x.1.1, .int .i64 x.1.2.1, .string x.1.2.2, .int .i64 x.2.1, .int .i64 x.2.2.1, .string x.2.2.2]
def cPs (l : List (V × V)) : List Value := l.flatMap cP
theorem cPs_snoc (l : List (V × V)) (x : V × V) : cPs (l ++ [x]) = cPs l ++ cP x := by simp [cPs]
theorem info45 : (Tryz.prog.info? 104).map (fun i => (i.zero, i.size, i.bytes)) = some (some (.agg #[.int .i64 0, .int .i64 0, .string ⟨#[]⟩, .int .i64 0, .int .i64 0, .string ⟨#[]⟩]), 6, 64) := by kernel_rfl
theorem boxed_app {W w1 : World} {base B : Nat} {t e : TypeId} {size : Nat} {v v' : Value} {k m : Nat} {xs ys : List Value} {tmp : Obj} {Ks : Nat → Prop}
    (hv : Boxed W B t v) (hte : t ≠ e) (hrow : W.ownsRow base e size v k xs) (hown' : w1.ownsRow base e size v' m ys) (hgrow : (W.alloc tmp).grownBy w1 v.ownBlock) (hK : ∀ g, Ks g → g < base ∧ g ≠ B) :
    Boxed w1 B t v ∧ Boxed (w1.setCell ⟨B, 0, none⟩ v') B t v' ∧ (w1.setCell ⟨B, 0, none⟩ v').ownsRow base e size v' m ys ∧ KeepsOthers W (w1.setCell ⟨B, 0, none⟩ v') ∧ Keep Ks W (w1.setCell ⟨B, 0, none⟩ v') := by
  have h1 : Boxed w1 B t v := (hv.alloc tmp).kept hgrow (hv.not_row hte hrow)
  have hown : ∀ j, v.ownBlock = some j → base ≤ j ∧ ∃ o : Obj, (W.alloc tmp).heap[j]? = some o ∧ o.isCells = true := fun j ej => by
    rcases (hrow.alloc tmp).2 with ⟨rfl, _⟩ | ⟨g, cap, cur, rfl, hb, hgb, _⟩
    · simp [Value.ownBlock] at ej
    · obtain rfl : g = j := by simpa [Value.ownBlock] using ej
      exact ⟨hb, _, hgb, rfl⟩
  refine ⟨h1, h1.set v', hown'.kept (grownBy_setCell' w1 B v') (.inr (h1.not_row hte hown').symm), ?_, ?_⟩
  · refine ((KeepsOthers.alloc W tmp).trans (KeepsOthers.of_grownBy hgrow fun j o ej hj => ?_)).trans (KeepsOthers.setCell _ _ _)
    obtain ⟨_, o', ho', hc⟩ := hown j ej
    rw [ho'] at hj; cases hj; exact hc
  · have k1 : Keep Ks W w1 := ((Keep.refl Ks W).alloc tmp).trans ⟨hgrow.os, hgrow.tape, hgrow.output, hgrow.size, fun g hg hk => hgrow.block g hg (fun e => by have := (hown g e.symm).1; have := (hK g hk).1; omega)⟩
    exact k1.set (p := ⟨B, 0, none⟩) (fun q => (hK B q).2 rfl) _
theorem new6 (W : World) (x : V × V) : ∀ (j : Nat) (u : Value), (cP x)[j]? = some u → (W.alloc (.cells #[.int .i64 x.1.1, .int .i64 x.1.2.1, .string x.1.2.2, .int .i64 x.2.1, .int .i64 x.2.2.1, .string x.2.2.2] 104)).cell? ((⟨W.heap.size, 0, none⟩ : Addr).add j) = some u := fun j u hu => by
  have h := (MapKept.heap_alloc W (.cells #[.int .i64 x.1.1, .int .i64 x.1.2.1, .string x.1.2.2, .int .i64 x.2.1, .int .i64 x.2.2.1, .string x.2.2.2] 104)).1
  have hj : j < 6 := by
    have := (List.getElem?_eq_some_iff.1 hu).1
    simpa [cP] using this
  have hadd : ((⟨W.heap.size, 0, none⟩ : Addr).add j) = ⟨W.heap.size, j, none⟩ := by
    by_cases hj0 : j = 0
    · subst hj0; rfl
    · simp [Addr.add, hj0]
  rw [hadd]
  obtain rfl | rfl | rfl | rfl | rfl | rfl : j = 0 ∨ j = 1 ∨ j = 2 ∨ j = 3 ∨ j = 4 ∨ j = 5 := by omega
  · cases hu; exact cell_of_row h 0
  · cases hu; exact cell_of_row h 1
  · cases hu; exact cell_of_row h 2
  · cases hu; exact cell_of_row h 3
  · cases hu; exact cell_of_row h 4
  · cases hu; exact cell_of_row h 5
theorem ownsRow_base {W : World} {base base' : Nat} {e : TypeId} {size : Nat} {v : Value} {k : Nat} {xs : List Value} (h : W.ownsRow base e size v k xs) (hb : base' ≤ base) : W.ownsRow base' e size v k xs := by
  refine ⟨h.1, ?_⟩
  rcases h.2 with q | ⟨g, cap, cur, e1, e2, e3⟩
  · exact .inl q
  · exact .inr ⟨g, cap, cur, e1, Nat.le_trans hb e2, e3⟩
set_option maxRecDepth 100000 in
set_option maxHeartbeats 4000000 in
theorem list_in {w : World} {T A b a S : Nat} {t : TS} (h : Tm w T A b a S t) (ti : TI t.p) :
    CallsIn Fence.wide 6 Tryz.prog 25 #[tp T] w fun e w' => ∃ v, e = .returned v ∧ w'.ownsRow w.heap.size 104 6 v (wl t.p).length (cPs (wl t.p)) ∧ Below w.heap.size w w' := by
  have B0 := b1 w (.cells #[.slice none 0 0] 62)
  have hb0 : Boxed (w.alloc (.cells #[.slice none 0 0] 62)) w.heap.size 62 (.slice none 0 0) := Boxed.new w 62 _
  have e0 : (w.alloc (.cells #[.slice none 0 0] 62)).heap.size = w.heap.size + 1 := by simp
  obtain ⟨W2, hW2⟩ : ∃ W2, w.alloc (.cells #[.slice none 0 0] 62) = W2 := ⟨_, rfl⟩
  rw [hW2] at B0 hb0 e0
  have htm := h.below B0
  have hmo : Tryz.prog.follows Departure.mixedOrders = true := by kernel_rfl
  have hle := ti.le
  have hlz := ti.rt.le
  have BL := b2 W2 (.cells #[.pointer (some ⟨T, 0, none⟩)] 26) (.cells #[.int .i64 (0 : Nat)] 3)
  have hL : ((W2.alloc (.cells #[.pointer (some ⟨T, 0, none⟩)] 26)).alloc (.cells #[.int .i64 (0 : Nat)] 3)).heap.size = W2.heap.size + 2 := by simp
  have hxt : ((W2.alloc (.cells #[.pointer (some ⟨T, 0, none⟩)] 26)).alloc (.cells #[.int .i64 (0 : Nat)] 3)).cell? ⟨W2.heap.size, 0, none⟩ = some (tp T) := by
    rw [(b1 (W2.alloc (.cells #[.pointer (some ⟨T, 0, none⟩)] 26)) (.cells #[.int .i64 (0 : Nat)] 3)).cell (by simp)]
    exact cell_of_row (MapKept.heap_alloc W2 _).1 0
  have hxp : ((W2.alloc (.cells #[.pointer (some ⟨T, 0, none⟩)] 26)).alloc (.cells #[.int .i64 (0 : Nat)] 3)).cell? ⟨W2.heap.size + 1, 0, none⟩ = some (.int .i64 (0 : Nat)) := by
    have q := (MapKept.heap_alloc (W2.alloc (.cells #[.pointer (some ⟨T, 0, none⟩)] 26)) (.cells #[.int .i64 (0 : Nat)] 3)).1
    rw [show (W2.alloc (.cells #[.pointer (some ⟨T, 0, none⟩)] 26)).heap.size = W2.heap.size + 1 by simp] at q
    exact cell_of_row q 0
  have hbL : Boxed ((W2.alloc (.cells #[.pointer (some ⟨T, 0, none⟩)] 26)).alloc (.cells #[.int .i64 (0 : Nat)] 3)) w.heap.size 62 (.slice none 0 0) := (hb0.alloc _).alloc _
  unfold tp
  have hnT : T ≠ w.heap.size ∧ A ≠ w.heap.size ∧ b ≠ w.heap.size ∧ a ≠ w.heap.size := by
    have q := h.pm
    have q1 := q.ltA
    have q2 := q.ltB
    have q3 := q.pt.ltb
    have q4 := q.pt.lta
    exact ⟨by omega, by omega, by omega, by omega⟩
  obtain ⟨i0, hi, hz0, hz1, hz2⟩ := info_parts info45
  have HE0 : Hid (W2.heap.size = w.heap.size + 1) := e0
  clear e0
  refine callsIn_of_wp_marks Tryz.func25 rfl trivial ?_ rfl
  simp only [Tryz.ntmps25, List.size_toArray, List.length_cons, List.length_nil, Nat.reduceAdd, Nat.reduceSub, Array.replicate_succ, Array.replicate_zero, List.push_toArray, List.append_toArray, List.nil_append, List.cons_append]
  gi_wp2_with (refine ⟨trivial, ?_⟩; gi_at_call 53; refine (callsIn_wide.2 (behind_any _ _ _)).mono ?_; rintro e w1 ⟨rfl, hw1⟩; rw [hw1]; clear hw1)
  obtain ⟨WL, hWL⟩ : ∃ WL, (W2.alloc (.cells #[.pointer (some ⟨T, 0, none⟩)] 26)).alloc (.cells #[.int .i64 (0 : Nat)] 3) = WL := ⟨_, rfl⟩
  have hWL' : (W2.alloc (.cells #[.pointer (some ⟨T, 0, none⟩)] 26)).alloc (.cells #[.int .i64 0] 3) = WL := hWL
  rw [hWL] at BL hL hxt hxp hbL
  rw [hWL']
  have hIt : It WL (fun g => g < WL.heap.size ∧ g ≠ w.heap.size) W2.heap.size (W2.heap.size + 1) T A b a S t 0 := ⟨htm.below BL, hxt, hxp, by
    have e0 := HE0.out
    have q := (htm.below BL).pm
    have q2 := q.pt.ltb
    have q3 := q.pt.lta
    exact ⟨⟨q.ltB, hnT.1⟩, ⟨q.ltA, hnT.2.1⟩, ⟨q2, hnT.2.2.1⟩, ⟨q3, hnT.2.2.2⟩, ⟨by omega, by omega⟩, ⟨by omega, by omega⟩⟩⟩
  have HL : Hid (WL.heap.size = W2.heap.size + 2) := hL
  clear hL
  refine wpIn_rangeFunc_ownH (n := 6) rfl (by omega) (gf := 81) (lb := #[.pointer (some ⟨W2.heap.size, 0, none⟩), .pointer (some ⟨W2.heap.size + 1, 0, none⟩)]) rfl trivial (enters_of Tryz.func81 (by kernel_rfl) rfl)
    (iter_stops (fun g => g < WL.heap.size ∧ g ≠ w.heap.size) W2.heap.size (W2.heap.size + 1) T A b a S t ti 0 (by omega) WL hIt) keepK_t (keepK_b (fun g q => q.1)) (Below.refl _ _) (fun _ => rfl)
    (fun pre W => (∃ v, Boxed W w.heap.size 62 v ∧ W.ownsRow WL.heap.size 104 6 v pre.length (cPs pre) ∧ True) ∧ Keep (fun g => g < WL.heap.size ∧ g ≠ w.heap.size) WL W)
    (fun _ _ _ => False)
    (OwnFrom.and (Own.from (holdsRow_own WL.heap.size w.heap.size 62 104 6 (fun pre : List (V × V) => pre.length) (fun pre => cPs pre) (fun _ _ => True)) _) (ownFrom_of fun s W W' hs hk => hs.trans (hk.sub (fun g q => q.1))))
    (fun cd => ownFrom_of fun s W W' hs hk => hs) ⟨⟨_, hbL, World.ownsRow_nil _ _ _ _, trivial⟩, Keep.refl _ _⟩
    (fun x a' W => ∃ Bk, WL.heap.size ≤ Bk ∧ Box2 W Bk x ∧ a' = { tmps := #[.pointer (some ⟨T, 0, none⟩), undef, .slice none 0 0, .pointer (some ⟨w.heap.size, 0, none⟩), .pointer (some ⟨Bk, 0, none⟩), .pointer (some ⟨Bk + 1, 0, none⟩), .pointer (some ⟨T, 0, none⟩), .func (.func 81) #[] #[.pointer (some ⟨W2.heap.size, 0, none⟩), .pointer (some ⟨W2.heap.size + 1, 0, none⟩)], .agg #[.int .i64 x.1.1, .int .i64 x.1.2.1, .string x.1.2.2], .agg #[.int .i64 x.2.1, .int .i64 x.2.2.1, .string x.2.2.2], undef, undef, undef, undef, undef, undef, undef], defers := [] })
    (fun x a' => fun _ A' B' row hs hg hr => ⟨hs.choose, hs.choose_spec.1, hs.choose_spec.2.1.own hg (fun r e => (hr r e).2), hs.choose_spec.2.2⟩) ?assign ?body ?done ?stop
  case assign =>
    rintro l pre x W K ⟨⟨v, hv, hrow, _⟩, hkw⟩ hK
    have hb2 := Box2.made W x
    have kk : Keep (fun g => g < WL.heap.size ∧ g ≠ w.heap.size) W ((W.alloc (.cells #[.int .i64 x.1.1, .int .i64 x.1.2.1, .string x.1.2.2] 31)).alloc (.cells #[.int .i64 x.2.1, .int .i64 x.2.2.1, .string x.2.2.2] 31)) := ((Keep.refl _ W).alloc _).alloc _
    have ko := ((KeepsOthers.alloc W (.cells #[.int .i64 x.1.1, .int .i64 x.1.2.1, .string x.1.2.2] 31)).trans (KeepsOthers.alloc _ (.cells #[.int .i64 x.2.1, .int .i64 x.2.2.1, .string x.2.2.2] 31))).from WL.heap.size
    have hks := hkw.size
    unfold encP
    gi_wp2
    exact hK _ _ ko kk ⟨⟨v, (hv.alloc _).alloc _, (hrow.alloc _).alloc _, trivial⟩, hkw.trans kk⟩ ⟨W.heap.size, hks, hb2, by simp⟩
  case body =>
    rintro l pre x a' W hl _ ⟨⟨v, hv, hrow, _⟩, hkw⟩ ⟨Bk, hBk, hbx, rfl⟩ hlt
    have hc0 := hv.cell
    have n0 := hbx.k0
    have n1 := hbx.k1
    have n2 := hbx.k2
    have n3 := hbx.v0
    have n4 := hbx.v1
    have n5 := hbx.v2
    have hks := hkw.size
    have h6 := new6 W x
    have hlen : (cP x).length = 1 * 6 := rfl
    have hone : ∀ u ∈ cP x, u.oneCell' = true := by simp [cP, Value.oneCell']
    have hKs : ∀ g, (fun g => g < WL.heap.size ∧ g ≠ w.heap.size) g → g < WL.heap.size ∧ g ≠ w.heap.size := fun g q => q
    gi_wp2_with (gi_at_builtin; refine wpListIn_append_own _ rfl _ _ 62 rfl WL.heap.size 104 i0 (.agg #[.int .i64 0, .int .i64 0, .string ⟨#[]⟩, .int .i64 0, .int .i64 0, .string ⟨#[]⟩]) 6 64 Tryz.underlying62 hi hz0 hz1 hz2 rfl (by decide) _ _ _ rfl (hrow.alloc _) ⟨W.heap.size, 0, none⟩ 1 1 (cP x) rfl hlen h6 hone (by unfold maxLen; omega) (by omega) (by simp; omega) ?_; intro v' w1 hown' hgrow _; obtain ⟨g', cap', rfl⟩ := ownsRow_succ hown'; obtain ⟨hv1, hv2, hr2, hk2, hb2⟩ := boxed_app hv (by decide) hrow hown' hgrow hKs; have hc1 := hv1.cell; have hf1 := hv1.frozen)
    have hr3 : (w1.setCell ⟨w.heap.size, 0, none⟩ (.slice (some ⟨g', 0, none⟩) (pre.length + 1) cap')).ownsRow WL.heap.size 104 6 (.slice (some ⟨g', 0, none⟩) (pre.length + 1) cap') (pre ++ [x]).length (cPs (pre ++ [x])) := by
      rw [cPs_snoc, List.length_append]
      exact hr2
    first | exact ⟨hk2.from _, hb2, ⟨_, hv2, hr3, trivial⟩, hkw.trans hb2⟩ | exact ⟨hk2.from _, hb2, ⟨_, hv2, hr3⟩, hkw.trans hb2⟩
  case done =>
    rintro D xs W hD hxs ⟨⟨v, hv, hrow, _⟩, hkw⟩ hK
    have hc0 := hv.cell
    gi_wp2
    refine ⟨by simp, .inl ⟨_, _, rfl, run_takeDeferred hK, ?_⟩⟩
    have exs : xs = wl t.p := hxs
    rw [exs] at hrow
    refine ⟨v, by simp [results, Tryz.results25, go_sem], v, rfl, ownsRow_base (ownsRow_putObj hrow _ hK rfl) (by have := HE0.out; have := HL.out; omega), ?_⟩
    have kq := hkw.trans (keepK_b (Ks := fun g => g < WL.heap.size ∧ g ≠ w.heap.size) (w := WL) (fun g q => q.1) W D _ (.deferred none) hD hK rfl rfl)
    exact (bthen B0 B0.size BL).trans (kq.below (by have := HE0.out; have := HL.out; omega) (fun g hg => ⟨by have := HE0.out; have := HL.out; omega, by omega⟩))
  case stop =>
    rintro D c pre W _ _ h _
    exact h.elim
theorem list_any {w : World} {T A b a S : Nat} {t : TS} (h : Tm w T A b a S t) (ti : TI t.p) :
    Calls Tryz.prog 25 #[tp T] w fun e w' => ∃ v, e = .returned v ∧ w'.ownsRow w.heap.size 104 6 v (wl t.p).length (cPs (wl t.p)) ∧ Below w.heap.size w w' := callsIn_wide.1 (list_in h ti)
end Go.Proofs.YtoomlihccniooaaGreat
