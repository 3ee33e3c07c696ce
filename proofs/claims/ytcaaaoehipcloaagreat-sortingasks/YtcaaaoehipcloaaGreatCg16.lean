/- The walk of Get. -/
import Derived.Test.YtcaaaoehipcloaaGreatCg15
import Derived.Test.YtcaaaoehipcloaaGreatCg07
import Derived.Test.YtcaaaoehipcloaaGreatCg06
namespace Go.Proofs.YtcaaaoehipcloaaGreat
open Go.RowKit

/-- The result's block: three cells that may be written. -/
structure R3 (w : World) (N : Nat) (x : V) : Prop where
  bx : Bx w N x
  fz : ∀ j, w.frozen? ⟨N, j, none⟩ = false
abbrev set3 (w : World) (N : Nat) (x : V) : World := ((w.setCell ⟨N, 0, none⟩ (.int .i64 x.1)).setCell ⟨N, 1, none⟩ (.int .i64 x.2.1)).setCell ⟨N, 2, none⟩ (.string x.2.2)
theorem R3.kept {No : Nat → Prop} {w w' : World} {N : Nat} {x : V} (h : R3 w N x) (k : Keep No w w') (hn : No N) : R3 w' N x :=
  ⟨h.bx.kept k hn, fun j => by rw [World.frozen?_of_block (w := w) (k.block N h.bx.lt hn)]; exact h.fz j⟩
theorem R3.below {w w' : World} {N : Nat} {x : V} (h : R3 w N x) (k : Below w.heap.size w w') : R3 w' N x := h.kept (No := fun _ => True) (Keep.of k) trivial
theorem R3.made (w : World) (x : V) : R3 (w.alloc (vb x.1 x.2.1 x.2.2)) w.heap.size x := ⟨Bx.made w x, fun j => new_free w _ _ j⟩
theorem R3.set {w : World} {N : Nat} {y : V} (h : R3 w N y) (x : V) : R3 (set3 w N x) N x := by
  have ne : ∀ (i j : Nat) (W : World) (v : Value), i ≠ j → (W.setCell ⟨N, i, none⟩ v).cell? ⟨N, j, none⟩ = W.cell? ⟨N, j, none⟩ := fun i j W v hij => World.cell?_setCell_other _ _ _ _ (fun q => by injection q with _ q2; omega)
  have hm := h.bx
  refine ⟨⟨?_, ?_, ?_, by simpa [World.setCell] using hm.lt⟩, fun j => by simpa using h.fz j⟩
  · rw [ne 2 0 _ _ (by omega), ne 1 0 _ _ (by omega)]; exact World.cell?_setCell_same _ _ _ hm.c0
  · rw [ne 2 1 _ _ (by omega)]; exact World.cell?_setCell_same _ _ _ (by rw [ne 0 1 _ _ (by omega)]; exact hm.c1)
  · exact World.cell?_setCell_same _ _ _ (by rw [ne 1 2 _ _ (by omega), ne 0 2 _ _ (by omega)]; exact hm.c2)
theorem Keep.set3 {No : Nat → Prop} {w w1 : World} (h : Keep No w w1) {N : Nat} (hN : ¬ No N) (x : V) : Keep No w (set3 w1 N x) :=
  ((h.set (p := ⟨N, 0, none⟩) hN _).set (p := ⟨N, 1, none⟩) hN _).set (p := ⟨N, 2, none⟩) hN _
theorem TT.set3 {No : Nat → Prop} {w : World} {T A b a S hb c : Nat} {t : TS} {s : H.St} (h : TT No w T A b a S hb c t s) {N : Nat} (hN : No N) (x : V) : TT No (Proofs.YtcaaaoehipcloaaGreat.set3 w N x) T A b a S hb c t s := by
  obtain ⟨vb, hp⟩ := h.hp
  have k : Keep (fun g => g ≠ N) w (Proofs.YtcaaaoehipcloaaGreat.set3 w N x) := (Keep.refl _ w).set3 (fun q => q rfl) x
  exact ⟨h.tm.kept k (fun e => h.nT (e ▸ hN)) (fun e => h.nA (e ▸ hN)) (fun e => h.nb (e ▸ hN)) (fun e => h.na (e ▸ hN)), ⟨vb, ((hp.sets N 0 _ (.inl hN)).sets N 1 _ (.inl hN)).sets N 2 _ (.inl hN)⟩, h.nT, h.nA, h.nb, h.na, h.ti, h.iv, h.p0, h.p1⟩

/-- Behind the search: the value in a block of its own. -/
structure Gx (No No2 : Nat → Prop) (w W : World) (N M vx T A b a S hb c : Nat) (t : TS) (s : H.St) (xv : V) : Prop where
  tt : TT No2 W T A b a S hb c t s
  keep : Keep No w W
  r3 : R3 W (N + 1) nil
  bx : Bx W vx xv
  ge : M ≤ vx
set_option maxRecDepth 20000 in
set_option maxHeartbeats 4000000 in
theorem tget_any {No : Nat → Prop} {w : World} {T A b a S hb c : Nat} {t : TS} {s : H.St} (h : TT No w T A b a S hb c t s) (hc : c ≤ 900000) (k : V) (hr : Rng k) :
    Calls Tryz.prog 9 #[tp T, vv k] w fun e w' => e = .returned (vv (pget t.p k)) ∧ TT No w' T A b a S hb (c + 1) { t with pr := t.pr + (prd t.p k : Nat) } s ∧ Keep No w w' := by
  have X := (Bx.made w k).below (b1 _ (vb 0 0 ⟨#[]⟩))
  have R := R3.made (w.alloc (vb k.1 k.2.1 k.2.2)) nil
  have eX : (w.alloc (vb k.1 k.2.1 k.2.2)).heap.size = w.heap.size + 1 := by simp
  rw [eX] at R
  have B0 := b2 w (vb k.1 k.2.1 k.2.2) (vb 0 0 ⟨#[]⟩)
  have R' : R3 ((w.alloc (vb k.1 k.2.1 k.2.2)).alloc (vb 0 0 ⟨#[]⟩)) (w.heap.size + 1) nil := R
  obtain ⟨W0, hW0⟩ : ∃ W0, (w.alloc (vb k.1 k.2.1 k.2.2)).alloc (vb 0 0 ⟨#[]⟩) = W0 := ⟨_, rfl⟩
  rw [hW0] at X B0 R'
  have h0 := h.news B0
  obtain ⟨No2, hNo2⟩ : ∃ No2, (fun g => No g ∨ (w.heap.size ≤ g ∧ g < W0.heap.size)) = No2 := ⟨_, rfl⟩
  have HNo : Hid ((∀ g, No g → No2 g) ∧ No2 w.heap.size ∧ No2 (w.heap.size + 1)) := by
    have h1 := X.lt
    have h2 := R'.bx.lt
    subst hNo2
    exact ⟨fun g q => .inl q, .inr ⟨Nat.le_refl _, h1⟩, .inr ⟨by omega, h2⟩⟩
  have HNN : Hid (¬ No (w.heap.size + 1)) := fun q => by
    obtain ⟨vb, hp⟩ := h.hp
    have := hp.nos _ (.inl q); omega
  rw [hNo2] at h0
  clear hNo2
  have C1 := slot_any k W0.drew (h0.tm.pm.below (bdrew1 _))
  have HT : Hid (TT No2 W0 T A b a S hb c t s) := h0
  have HX : Hid (Bx W0 w.heap.size k) := X
  have HRr : Hid (R3 W0 (w.heap.size + 1) nil) := R'
  have HB : Hid (Keep No w W0) := Keep.of B0
  have x0 := X.c0
  have x1 := X.c1
  have x2 := X.c2
  unfold vb at hW0
  unfold vv vl tp at *
  generalize hsz : w.heap.size = N at *
  have hsz2 : (w.alloc (.cells #[.int .i64 k.1, .int .i64 k.2.1, .string k.2.2] 34)).heap.size = N + 1 := by rw [← hsz]; simp
  have hpn := h.ti.le
  clear X B0 h0 h R R' eX
  by_cases hA : inA t.p.n k
  · obtain ⟨es, hix⟩ := slot_in hA
    have HE : Hid (pget t.p k = t.p.F (ix k) ∧ prd t.p k = 0) := by
      constructor
      · unfold pget; rw [if_pos hA]
      · unfold prd; rw [if_pos hA]
    rw [es] at C1
    rw [HE.out.1, HE.out.2]
    clear es hA
    generalize ix k = i at *
    have hi0 : ¬ ((i : Int) + 1 ≤ 0) := by omega
    go_enter Tryz.func9, Tryz.ntmps9
    go_wp2_with fail
    refine wp_tail 4 (by kernel_rfl) (by kernel_rfl) ?_
    simp only [List.take_succ_cons, List.take_zero, List.drop_succ_cons, List.drop_zero]
    repeat still_step
    refine wpStill_nil ?_
    go_wp2_with fail
    refine C1.mono ?_; rintro e W1 ⟨rfl, hb1'⟩
    have hb1 : Below W0.heap.size W0 W1 := bthen (bdrew1 W0) (Nat.le_refl _) hb1'
    clear hb1'
    have T1 := HT.out.below hb1
    have R1 := HRr.out.below hb1
    obtain ⟨a0, a1, a2⟩ := T1.tm.pm.sl.at hix
    have c1 : W1.cell? ⟨T, 1, none⟩ = some (.slice (some ⟨A, 0, none⟩) t.p.n t.p.n) := T1.tm.pm.c0
    have HK1 : Hid (Keep No w W1) := HB.out.bel hb1
    obtain ⟨xv, hxv⟩ : ∃ xv, t.p.F i = xv := ⟨_, rfl⟩
    have HXV : Hid (t.p.F i = xv) := hxv
    rw [hxv] at a0 a1 a2
    clear hxv
    have HT3 : Hid _ := T1.set3 HNo.out.2.2 xv
    have HR3 : Hid _ := R1.set xv
    have HK3 : Hid _ := HK1.out.set3 HNN.out xv
    obtain ⟨W3, hW3⟩ : ∃ W3, set3 W1 (N + 1) xv = W3 := ⟨_, rfl⟩
    rw [hW3] at HT3 HR3 HK3
    unfold set3 at hW3
    have n0 := R1.bx.c0
    have n1 := R1.bx.c1
    have n2 := R1.bx.c2
    have nf := R1.fz
    have hw : IntKind.i64.wrap ((i : Int) + 1 - 1) = i := by rw [IntKind.wrap_i64]; omega
    have hin : (i : Int) < (t.p.n : Int) := by omega
    have hi1 : ¬ ((i : Int) < 0) := by omega
    clear C1 hb1 T1 R1
    go_wp2_with fail
    have R5 := HR3.out.bx
    have r0 := R5.c0
    have r1 := R5.c1
    have r2 := R5.c2
    clear R5
    refine bodyPost_ret (v := .agg #[.int .i64 xv.1, .int .i64 xv.2.1, .string xv.2.2]) (by simp [results, Tryz.results9, go_sem, r0, r1, r2]) rfl ⟨by rw [HXV.out], ?_, HK3.out⟩
    have e0 : ({ t with pr := t.pr + ((0 : Nat) : Int) } : TS) = t := by simp
    rw [e0]
    exact (HT3.out.sub HNo.out.1).more (by omega)
  · have es := slot_out hA
    rw [es] at C1
    have HE : Hid (pget t.p k = xAt t.p.g (fnd t.p.z t.p.g k).1 ∧ prd t.p k = (fnd t.p.z t.p.g k).2) := by
      constructor
      · unfold pget mg; rw [if_neg hA]
      · unfold prd; rw [if_neg hA]
    rw [HE.out.1, HE.out.2]
    have CF := fun W (hW : Pt W b a t.p.z t.p.g) => get_any k W hW HT.out.ti.inv HT.out.ti.rt hr
    have HRd : Hid ((fnd t.p.z t.p.g k).2 ≤ 65536) := by have := fnd_le (k := k) HT.out.ti.inv HT.out.ti.rt; have := HT.out.ti.rt.le; show _ ≤ _; omega
    clear es hA HE
    unfold pp vl at CF
    generalize xAt t.p.g (fnd t.p.z t.p.g k).1 = xv at *
    generalize (fnd t.p.z t.p.g k).2 = nn at *
    go_enter Tryz.func9, Tryz.ntmps9
    go_wp2_with fail
    refine wp_tail 4 (by kernel_rfl) (by kernel_rfl) ?_
    simp only [List.take_succ_cons, List.take_zero, List.drop_succ_cons, List.drop_zero]
    repeat still_step
    refine wpStill_nil ?_
    go_wp2_with fail
    refine C1.mono ?_; rintro e W1 ⟨rfl, hb1'⟩
    have hb1 : Below W0.heap.size W0 W1 := bthen (bdrew1 W0) (Nat.le_refl _) hb1'
    clear hb1'
    have HT1 : Hid (TT No2 W1 T A b a S hb c t s) := HT.out.below hb1
    have HR1 : Hid (R3 W1 (N + 1) nil) := HRr.out.below hb1
    have HK1 : Hid (Keep No w W1) := HB.out.bel hb1
    have X1 := HX.out.below hb1
    have y0 := X1.c0
    have y1 := X1.c1
    have y2 := X1.c2
    have c2 : W1.cell? ⟨T, 2, none⟩ = some (.pointer (some ⟨b, 0, none⟩)) := HT1.out.tm.pm.c1
    have CF1 : ∀ W, Below W1.heap.size W1 W → Calls Tryz.prog 22 #[.pointer (some ⟨b, 0, none⟩), .agg #[.int .i64 k.1, .int .i64 k.2.1, .string k.2.2]] W fun e w' => e = .returned (.tuple #[.agg #[.int .i64 xv.1, .int .i64 xv.2.1, .string xv.2.2], .int .i64 (nn : Nat)]) ∧ Below W.heap.size W w' ∧ Hid (Below W1.heap.size W1 w') := fun W hW =>
      (CF W (HT1.out.tm.pm.pt.below hW)).mono fun _ _ hh => ⟨hh.1, hh.2, bthen hW hW.size hh.2⟩
    have HF1 : Hid (∀ w3, Below W1.heap.size W1 w3 → Gx No No2 w (w3.alloc (.cells #[.int .i64 xv.1, .int .i64 xv.2.1, .string xv.2.2] 34)) N W1.heap.size w3.heap.size T A b a S hb c t s xv) := fun w3 b3 =>
      ⟨HT1.out.below (bthen b3 b3.size (b1 _ _)), HK1.out.bel (bthen b3 b3.size (b1 _ _)), HR1.out.below (bthen b3 b3.size (b1 _ _)), Bx.made w3 xv, b3.size⟩
    have HF2 : Hid (∀ w3, Below W1.heap.size W1 w3 → R3 w3 W1.heap.size nil → Gx No No2 w (set3 w3 W1.heap.size xv) N W1.heap.size W1.heap.size T A b a S hb c t s xv) := fun w3 b3 r3 => by
      have bb : Below W1.heap.size W1 (set3 w3 W1.heap.size xv) := ((b3.setCell (Nat.le_refl _) _).setCell (Nat.le_refl _) _).setCell (Nat.le_refl _) _
      exact ⟨HT1.out.below bb, HK1.out.bel bb, HR1.out.below bb, (r3.set xv).bx, Nat.le_refl _⟩
    have BA := bthen (bdrew1 W1) (Nat.le_refl _) (b1 W1.drew (.cells #[.int .i64 0, .int .i64 0, .string ⟨#[]⟩] 34))
    have RA : R3 (W1.drew.alloc (.cells #[.int .i64 0, .int .i64 0, .string ⟨#[]⟩] 34)) W1.heap.size nil := R3.made W1.drew nil
    obtain ⟨Wa, hWa⟩ : ∃ Wa, W1.drew.alloc (.cells #[.int .i64 0, .int .i64 0, .string ⟨#[]⟩] 34) = Wa := ⟨_, rfl⟩
    rw [hWa] at BA RA
    have Z1 := X1.below BA
    have z0 := Z1.c0
    have z1 := Z1.c1
    have z2 := Z1.c2
    have z3 : Wa.cell? ⟨T, 2, none⟩ = some (.pointer (some ⟨b, 0, none⟩)) := (HT1.out.below BA).tm.pm.c1
    have CFd := (CF1 W1.drew (bdrew1 _)).mono (R' := fun e w' => e = .returned (.tuple #[.agg #[.int .i64 xv.1, .int .i64 xv.2.1, .string xv.2.2], .int .i64 (nn : Nat)]) ∧ Hid (Below W1.heap.size W1 w')) fun _ _ hh => ⟨hh.1, hh.2.2⟩
    have CFa := (CF1 Wa BA).mono (R' := fun e w' => e = .returned (.tuple #[.agg #[.int .i64 xv.1, .int .i64 xv.2.1, .string xv.2.2], .int .i64 (nn : Nat)]) ∧ Hid (Below W1.heap.size W1 w') ∧ R3 w' W1.heap.size nil) fun _ _ hh => ⟨hh.1, hh.2.2, RA.below hh.2.1⟩
    clear CF1 BA RA
    clear C1 hb1 X1 x0 x1 x2 CF Z1
    go_wp2_with fail
    go_cut [6, 7] from 27 to 37 (fun bw rw wx => ∃ vx : Nat, bw = .pointer (some ⟨vx, 0, none⟩) ∧ rw = .int .i64 (nn : Nat) ∧ Hid (Gx No No2 w wx N W1.heap.size vx T A b a S hb c t s xv))
    case first =>
      go_region_with (first
        | (go_at_call 22; refine CFd.mono ?_; rintro e w3 ⟨rfl, hB3⟩)
        | (go_at_call 22; refine CFa.mono ?_; rintro e w3 ⟨rfl, hB3, q3⟩; have q0 : w3.cell? ⟨W1.heap.size, 0, none⟩ = some (.int .i64 0) := q3.bx.c0; have q1 : w3.cell? ⟨W1.heap.size, 1, none⟩ = some (.int .i64 0) := q3.bx.c1; have q2 : w3.cell? ⟨W1.heap.size, 2, none⟩ = some (.string ⟨#[]⟩) := q3.bx.c2; have qf : ∀ j, w3.frozen? ⟨W1.heap.size, j, none⟩ = false := q3.fz; have HQ : Hid (R3 w3 W1.heap.size nil) := q3; clear q3))
      all_goals
        go_wp2_with fail
        go_meet
        first | exact ⟨w3.heap.size, rfl, rfl, HF1.out w3 hB3.out⟩ | exact ⟨W1.heap.size, rfl, rfl, HF2.out w3 hB3.out HQ.out⟩
    case rest =>
      obtain ⟨vx, rfl, rfl, HG⟩ := hcut
      clear CFd CFa HF1 HF2 z0 z1 z2 z3 hWa y0 y1 y2 c2
      have p6 := HG.out.tt.tm.c6
      have f6 := HG.out.tt.tm.fz 6
      have hrd := HRd.out
      have hp0 := HG.out.tt.p0
      have hp1 := HG.out.tt.p1
      have hwr : IntKind.i64.wrap (t.pr + (nn : Int)) = t.pr + (nn : Int) := by rw [IntKind.wrap_i64]; omega
      have HY : Hid _ := HG.out.tt.probe (nn : Int) (by omega) (by omega)
      have hTl : T < W1.heap.size := HT1.out.tm.pm.ltB
      have kT : Keep (fun x => x ≠ T) wc (wc.setCell ⟨T, 6, none⟩ (.int .i64 (t.pr + (nn : Int)))) := (Keep.refl _ wc).set (p := ⟨T, 6, none⟩) (fun q => q rfl) _
      have V4 : Bx (wc.setCell ⟨T, 6, none⟩ (.int .i64 (t.pr + (nn : Int)))) vx xv := HG.out.bx.kept kT (by have := HG.out.ge; show vx ≠ T; omega)
      have R4' : R3 (wc.setCell ⟨T, 6, none⟩ (.int .i64 (t.pr + (nn : Int)))) (N + 1) nil := HG.out.r3.kept kT (by show N + 1 ≠ T; exact fun e => HT1.out.nT (e ▸ HNo.out.2.2))
      obtain ⟨W4, hW4⟩ : ∃ W4, wc.setCell ⟨T, 6, none⟩ (.int .i64 (t.pr + (nn : Int))) = W4 := ⟨_, rfl⟩
      rw [hW4] at HY V4 R4'
      have hnoT : ¬ No T := fun q => HT1.out.nT (HNo.out.1 _ q)
      have HK4 : Hid (Keep No w W4) := by rw [← hW4]; exact HG.out.keep.set (p := ⟨T, 6, none⟩) hnoT _
      have v0 := V4.c0
      have v1 := V4.c1
      have v2 := V4.c2
      have n0 := R4'.bx.c0
      have n1 := R4'.bx.c1
      have n2 := R4'.bx.c2
      have nf := R4'.fz
      have HT5 : Hid _ := HY.out.1.set3 HNo.out.2.2 xv
      have HR5 : Hid _ := R4'.set xv
      have HK5 : Hid _ := HK4.out.set3 HNN.out xv
      obtain ⟨W5, hW5⟩ : ∃ W5, set3 W4 (N + 1) xv = W5 := ⟨_, rfl⟩
      rw [hW5] at HT5 HR5 HK5
      unfold set3 at hW5
      clear V4 R4' kT HY hrd hp0 hp1 hTl hnoT
      go_wp2_with fail
      have R5 := HR5.out.bx
      have r0 := R5.c0
      have r1 := R5.c1
      have r2 := R5.c2
      clear R5
      refine bodyPost_ret (v := .agg #[.int .i64 xv.1, .int .i64 xv.2.1, .string xv.2.2]) (by simp [results, Tryz.results9, go_sem, r0, r1, r2]) rfl ⟨rfl, HT5.out.sub HNo.out.1, HK5.out⟩
theorem tget_nil (k : V) (w : World) : Calls Tryz.prog 9 #[.pointer none, vv k] w fun e w' => e = .returned (vv nil) ∧ Below w.heap.size w w' := by
  have HB : Hid _ := b2 w (.cells #[.int .i64 k.1, .int .i64 k.2.1, .string k.2.2] 34) (.cells #[.int .i64 0, .int .i64 0, .string ⟨#[]⟩] 34)
  unfold vv vl
  go_enter Tryz.func9, Tryz.ntmps9
  go_wp2
  refine bodyPost_ret (v := .agg #[.int .i64 0, .int .i64 0, .string ⟨#[]⟩]) (by simp [results, Tryz.results9, go_sem]) rfl ⟨rfl, ?_⟩
  first | exact HB.out | (simp; exact HB.out)
end Go.Proofs.YtcaaaoehipcloaaGreat

/- The sorter in memory, beside its table; the walk of read. -/
namespace Go.Proofs.YtcaaaoehipcloaaGreat
open Go.RowKit

/-- The cells of the sorter. -/
def scl (T : Nat) (wv : Value) (s : SS) : Array Value :=
  #[.pointer (some ⟨T, 0, none⟩), .int .i64 s.lo, .int .i64 s.up, wv, .int .i64 s.ak, .int .i64 s.p, .int .i64 s.i, .int .i64 s.j, .int .i64 s.x.1, .int .i64 s.x.2.1, .string s.x.2.2, .int .i64 s.y.1, .int .i64 s.y.2.1, .string s.y.2.2, .int .i64 s.pv.1, .int .i64 s.pv.2.1, .string s.pv.2.2, .int .i64 s.er]
/-- The cells of rows that wait. -/
def rws (l : List (Int × Int)) : List Value := l.flatMap fun r => [.int .i64 r.1, .int .i64 r.2]
/-- Blocks that the table must leave: others', the sorter's, that of the rows. -/
def Nq (No : Nat → Prop) (B : Nat) (wv : Value) : Nat → Prop := fun g => No g ∨ g = B ∨ wv.ownBlock = some g
/-- A sorter and its table. -/
structure So (No : Nat → Prop) (w : World) (B : Nat) (wv : Value) (T A b a S hb c : Nat) (d : SD) : Prop where
  blk : w.heap[B]? = some (.cells (scl T wv d.1) 71 (0, 0))
  row : w.ownsRow (B + 1) 68 2 wv d.1.wt.length (rws d.1.wt.reverse)
  tt : TT (Nq No B wv) w T A b a S hb c d.2.1 d.2.2
  nB : ¬ No B
  nW : ∀ g, wv.ownBlock = some g → ¬ No g
theorem So.lt {No : Nat → Prop} {w : World} {B : Nat} {wv : Value} {T A b a S hb c : Nat} {d : SD} (h : So No w B wv T A b a S hb c d) : B < w.heap.size := (Array.getElem?_eq_some_iff.1 h.blk).1
theorem So.cell {No : Nat → Prop} {w : World} {B : Nat} {wv : Value} {T A b a S hb c : Nat} {d : SD} (h : So No w B wv T A b a S hb c d) {j : Nat} {v : Value} (hj : (scl T wv d.1)[j]? = some v) : w.cell? ⟨B, j, none⟩ = some v := by
  simp only [World.cell?, h.blk]
  simpa using hj
theorem So.free {No : Nat → Prop} {w : World} {B : Nat} {wv : Value} {T A b a S hb c : Nat} {d : SD} (h : So No w B wv T A b a S hb c d) (j : Nat) : w.frozen? ⟨B, j, none⟩ = false := by
  simp [World.frozen?, h.blk]
/-- What a call leaves that keeps the sorter's blocks and changes the table. -/
theorem So.via {No : Nat → Prop} {w w' : World} {B : Nat} {wv : Value} {T A b a S hb c : Nat} {d : SD} (h : So No w B wv T A b a S hb c d) (k : Keep (Nq No B wv) w w') {A' b' a' c' : Nat} {t : TS} {s : H.St} (ht : TT (Nq No B wv) w' T A' b' a' S hb c' t s) : So No w' B wv T A' b' a' S hb c' (d.1, t, s) := by
  refine ⟨(k.block B h.lt (.inr (.inl rfl))).trans h.blk, ?_, ht, h.nB, h.nW⟩
  have hlt := h.row.lt
  refine ⟨h.row.1, ?_⟩
  rcases h.row.2 with h2 | ⟨g, cap, cur, e, h2, h3, r⟩
  · exact .inl h2
  · exact .inr ⟨g, cap, cur, e, h2, (k.block g (hlt g (by rw [e]; rfl)).2 (.inr (.inr (by rw [e]; rfl)))).trans h3, r⟩
theorem So.below {No : Nat → Prop} {w w' : World} {B : Nat} {wv : Value} {T A b a S hb c : Nat} {d : SD} (h : So No w B wv T A b a S hb c d) (k : Below w.heap.size w w') : So No w' B wv T A b a S hb c d := h.via (Keep.of k) (h.tt.below k)
theorem rng_kn {n : Int} (h1 : -9223372036854775808 ≤ n) (h2 : n ≤ 9223372036854775807) : Rng (kn n) := ⟨h1, h2⟩
set_option maxRecDepth 20000 in
set_option maxHeartbeats 2000000 in
theorem read_any {No : Nat → Prop} {w : World} {B : Nat} {wv : Value} {T A b a S hb c : Nat} {d : SD} (h : So No w B wv T A b a S hb c d) (hc : c ≤ 900000) (n : Int) (h1 : -9223372036854775808 ≤ n) (h2 : n ≤ 9223372036854775807) :
    Calls Tryz.prog 70 #[.pointer (some ⟨B, 0, none⟩), .int .i64 n] w fun e w' => e = .returned (vv (rdV d n)) ∧ So No w' B wv T A b a S hb (c + 1) (rdD d n) ∧ Keep (Nq No B wv) w w' := by
  have B0 := b1 w (vb 0 0 ⟨#[]⟩)
  have R0 := R3.made w nil
  have hs0 := h.below B0
  have tn := h.tt.news B0
  have z0 : (w.alloc (vb 0 0 ⟨#[]⟩)).heap.size = w.heap.size + 1 := by simp
  obtain ⟨W0, hW0⟩ : ∃ W0, w.alloc (vb 0 0 ⟨#[]⟩) = W0 := ⟨_, rfl⟩
  have R0' : R3 W0 w.heap.size nil := hW0 ▸ R0
  rw [hW0] at B0 hs0 tn z0
  have c0 : W0.cell? ⟨B, 0, none⟩ = some (.pointer (some ⟨T, 0, none⟩)) := hs0.cell (j := 0) rfl
  have C := tget_any tn hc (kn n) (rng_kn h1 h2)
  have HF : Hid (∀ w1, Keep (fun g => Nq No B wv g ∨ (w.heap.size ≤ g ∧ g < W0.heap.size)) W0 w1 → TT (fun g => Nq No B wv g ∨ (w.heap.size ≤ g ∧ g < W0.heap.size)) w1 T A b a S hb (c + 1) { d.2.1 with pr := d.2.1.pr + (prd d.2.1.p (kn n) : Nat) } d.2.2 → R3 w1 w.heap.size nil ∧ ∀ x, R3 (set3 w1 w.heap.size x) w.heap.size x ∧ So No (set3 w1 w.heap.size x) B wv T A b a S hb (c + 1) (rdD d n) ∧ Keep (Nq No B wv) w (set3 w1 w.heap.size x)) := fun w1 k1 t1 => by
    have r1 := R0'.kept k1 (.inr ⟨Nat.le_refl _, by omega⟩)
    refine ⟨r1, fun x => ⟨r1.set x, ?_, ?_⟩⟩
    · have t2 := (t1.set3 (N := w.heap.size) (.inr ⟨Nat.le_refl _, by omega⟩) x).sub (No' := Nq No B wv) (fun g q => .inl q)
      have k2 : Keep (Nq No B wv) W0 (set3 w1 w.heap.size x) := (k1.sub (fun g q => .inl q)).set3 (fun q => by
        rcases q with q | q | q
        · obtain ⟨vb, hp⟩ := h.tt.hp
          have := hp.nos _ (.inl (.inl q)); omega
        · have := h.lt; omega
        · have := (h.row.lt _ q).2; omega) x
      exact hs0.via k2 t2
    · exact (Keep.of B0).trans ((k1.sub (fun g q => .inl q)).set3 (fun q => by
        rcases q with q | q | q
        · obtain ⟨vb, hp⟩ := h.tt.hp
          have := hp.nos _ (.inl (.inl q)); omega
        · have := h.lt; omega
        · have := (h.row.lt _ q).2; omega) x)
  have hval : rdV d n = pget d.2.1.p (kn n) := rfl
  rw [hval]
  generalize pget d.2.1.p (kn n) = gv0 at *
  unfold tp vv vl kn at C
  unfold vv vl
  unfold vb at hW0
  clear tn hs0 R0 R0' z0 h B0 hval
  go_enter Tryz.func70, Tryz.ntmps70
  go_wp2_with fail
  refine C.mono ?_
  rintro e w1 ⟨rfl, t1, k1⟩
  obtain ⟨r1, hz⟩ := HF.out w1 k1 t1
  have HZ : Hid _ := hz gv0
  obtain ⟨W3, hW3⟩ : ∃ W3, set3 w1 w.heap.size gv0 = W3 := ⟨_, rfl⟩
  rw [hW3] at HZ
  unfold set3 at hW3
  have n0 : w1.cell? ⟨w.heap.size, 0, none⟩ = some (.int .i64 0) := r1.bx.c0
  have n1 : w1.cell? ⟨w.heap.size, 1, none⟩ = some (.int .i64 0) := r1.bx.c1
  have n2 : w1.cell? ⟨w.heap.size, 2, none⟩ = some (.string ⟨#[]⟩) := r1.bx.c2
  have nf := r1.fz
  clear C HF hz r1 t1 k1 c0
  go_wp2
  obtain ⟨q1, q2, q3⟩ := HZ.out
  have o0 := q1.bx.c0
  have o1 := q1.bx.c1
  have o2 := q1.bx.c2
  refine bodyPost_ret (v := .agg #[.int .i64 gv0.1, .int .i64 gv0.2.1, .string gv0.2.2]) (by simp [results, Tryz.results70, go_sem, o0, o1, o2]) rfl ⟨rfl, q2, q3⟩
end Go.Proofs.YtcaaaoehipcloaaGreat

/- The walk of put: one place has v, and then the other has u. -/
namespace Go.Proofs.YtcaaaoehipcloaaGreat
open Go.RowKit

/-- What a put answers and leaves. -/
def PuP (No : Nat → Prop) (w : World) (B : Nat) (wv : Value) (T S hb c : Nat) (d : SD) (a1 : Int) (v : V) (b1 : Int) (u : V) (e : Ending) (w' : World) : Prop :=
  e = .returned (.int .i64 (putE d a1 v b1 u)) ∧ (∃ A' b' a', So No w' B wv T A' b' a' S hb (c + 14) (putD d a1 v b1 u)) ∧ Keep (Nq No B wv) w w'
set_option maxRecDepth 20000 in
set_option maxHeartbeats 4000000 in
theorem put_any {No : Nat → Prop} {w : World} {B : Nat} {wv : Value} {T A b a S hb c : Nat} {d : SD} (h : So No w B wv T A b a S hb c d) (hc : c ≤ 600000) (i1 i2 : Int) (v u : V) (h1 : -9223372036854775808 ≤ i1) (h2 : i1 ≤ 9223372036854775807) (h3 : -9223372036854775808 ≤ i2) (h4 : i2 ≤ 9223372036854775807) :
    Calls Tryz.prog 67 #[.pointer (some ⟨B, 0, none⟩), .int .i64 i1, vv v, .int .i64 i2, vv u] w (PuP No w B wv T S hb c d i1 v i2 u) := by
  have B0 := b2 w (vb v.1 v.2.1 v.2.2) (vb u.1 u.2.1 u.2.2)
  have X1 := (Bx.made w v).below (b1 _ (vb u.1 u.2.1 u.2.2))
  have X2 := Bx.made (w.alloc (vb v.1 v.2.1 v.2.2)) u
  have eX : (w.alloc (vb v.1 v.2.1 v.2.2)).heap.size = w.heap.size + 1 := by simp
  rw [eX] at X2
  have z0 : ((w.alloc (vb v.1 v.2.1 v.2.2)).alloc (vb u.1 u.2.1 u.2.2)).heap.size = w.heap.size + 2 := by simp
  obtain ⟨W0, hW0⟩ : ∃ W0, (w.alloc (vb v.1 v.2.1 v.2.2)).alloc (vb u.1 u.2.1 u.2.2) = W0 := ⟨_, rfl⟩
  rw [hW0] at B0 X1 X2 z0
  have hs0 := h.below B0
  have tn := h.tt.news B0
  have c0 : W0.cell? ⟨B, 0, none⟩ = some (.pointer (some ⟨T, 0, none⟩)) := hs0.cell (j := 0) rfl
  obtain ⟨N2, hN2⟩ : ∃ N2, (fun g => Nq No B wv g ∨ (w.heap.size ≤ g ∧ g < W0.heap.size)) = N2 := ⟨_, rfl⟩
  have HN : Hid ((∀ g, Nq No B wv g → N2 g) ∧ N2 w.heap.size ∧ N2 (w.heap.size + 1) ∧ N2 B) := by
    subst hN2
    exact ⟨fun g q => .inl q, .inr ⟨Nat.le_refl _, by omega⟩, .inr ⟨by omega, by omega⟩, .inl (.inr (.inl rfl))⟩
  rw [hN2] at tn
  clear hN2
  have C1 := tset_any (tn.below (bdrew1 W0)) (by omega) (kn i1) v (rng_kn h1 h2)
  have HX1 : Hid (Bx W0 w.heap.size v) := X1
  have HX2 : Hid (Bx W0 (w.heap.size + 1) u) := X2
  have HS : Hid (So No W0 B wv T A b a S hb c d) := hs0
  have HK : Hid (Keep (Nq No B wv) w W0) := Keep.of B0
  have x0 := X1.c0
  have x1 := X1.c1
  have x2 := X1.c2
  obtain ⟨R1, hR1⟩ : ∃ R1, tset d.2.1 d.2.2 (kn i1) v = R1 := ⟨_, rfl⟩
  rw [hR1] at C1
  have hE : stE d i1 v = R1.2.2 := by unfold stE; rw [hR1]
  have hD : stD d i1 v = (d.1, R1.1, R1.2.1) := by unfold stD; rw [hR1]
  unfold PuP putE putD
  rw [hE, hD]
  unfold vv vl kn at C1
  unfold vv vl
  unfold vb at hW0
  clear hs0 tn X1 X2 h B0 hE hD hR1
  by_cases hE0 : R1.2.2 = 0
  · rw [if_neg (by rw [hE0]; simp), if_neg (by rw [hE0]; simp)]
    obtain ⟨R2, hR2⟩ : ∃ R2, tset R1.1 R1.2.1 (kn i2) u = R2 := ⟨_, rfl⟩
    have hE2 : stE (d.1, R1.1, R1.2.1) i2 u = R2.2.2 := by unfold stE; rw [hR2]
    have hD2 : stD (d.1, R1.1, R1.2.1) i2 u = (d.1, R2.1, R2.2.1) := by unfold stD; rw [hR2]
    rw [hE2, hD2]
    have HR2 : Hid (tset R1.1 R1.2.1 (kn i2) u = R2) := hR2
    clear hR2 hE2 hD2
    go_enter Tryz.func67, Tryz.ntmps67
    go_wp2_with fail
    refine wp_tail 7 (by kernel_rfl) (by kernel_rfl) ?_
    simp only [List.take_succ_cons, List.take_zero, List.drop_succ_cons, List.drop_zero]
    repeat still_step
    refine wpStill_nil ?_
    go_wp2_with fail
    refine C1.mono ?_
    rintro e w1 ⟨rfl, ⟨A1, b1', a1', t1⟩, k1⟩
    have K1 : Keep N2 W0 w1 := ((Keep.refl N2 W0).drew).trans k1
    have Y2 := HX2.out.kept K1 HN.out.2.2.1
    have HS1 : Hid (So No w1 B wv T A1 b1' a1' S hb (c + 7) (d.1, R1.1, R1.2.1)) := HS.out.via (K1.sub HN.out.1) (t1.sub HN.out.1)
    have HK1 : Hid (Keep (Nq No B wv) w w1) := HK.out.trans (K1.sub HN.out.1)
    have c1 : w1.cell? ⟨B, 0, none⟩ = some (.pointer (some ⟨T, 0, none⟩)) := HS1.out.cell (j := 0) rfl
    have y0 := Y2.c0
    have y1 := Y2.c1
    have y2 := Y2.c2
    have C2 := tset_any (t1.below (bdrew1 w1)) (by omega) (kn i2) u (rng_kn h3 h4)
    rw [HR2.out] at C2
    have HDD : Hid (∀ w2 A2 b2' a2', Keep N2 w1.drew w2 → TT N2 w2 T A2 b2' a2' S hb (c + 7 + 7) R2.1 R2.2.1 → So No w2 B wv T A2 b2' a2' S hb (c + 14) (d.1, R2.1, R2.2.1) ∧ Keep (Nq No B wv) w w2) := fun w2 A2 b2' a2' k2 t2 => by
      have K2 : Keep N2 w1 w2 := ((Keep.refl N2 w1).drew).trans k2
      exact ⟨HS1.out.via (K2.sub HN.out.1) (t2.sub HN.out.1), HK1.out.trans (K2.sub HN.out.1)⟩
    rw [hE0]
    unfold vv vl kn at C2
    clear C1 t1 k1 K1 Y2 HS1 HK1 HX1 HX2 HS HK x0 x1 x2 c0 hE0 HR2
    go_wp2_with fail
    refine wp_tail 7 (by kernel_rfl) (by kernel_rfl) ?_
    simp only [List.take_succ_cons, List.take_zero, List.drop_succ_cons, List.drop_zero]
    repeat still_step
    refine wpStill_nil ?_
    go_wp2_with fail
    refine C2.mono ?_
    rintro e w2 ⟨rfl, ⟨A2, b2', a2', t2⟩, k2⟩
    obtain ⟨q1, q2⟩ := HDD.out w2 A2 b2' a2' k2 t2
    have HQ : Hid (_ ∧ _) := ⟨q1, q2⟩
    clear HDD q1 q2 t2 k2 C2
    go_wp2
    go_ret
    exact ⟨rfl, ⟨A2, b2', a2', HQ.out.1⟩, HQ.out.2⟩
  · rw [if_pos hE0, if_pos hE0]
    have hE0' : (R1.2.2 != 0) = true := by simpa using hE0
    go_enter Tryz.func67, Tryz.ntmps67
    go_wp2_with fail
    refine wp_tail 7 (by kernel_rfl) (by kernel_rfl) ?_
    simp only [List.take_succ_cons, List.take_zero, List.drop_succ_cons, List.drop_zero]
    repeat still_step
    refine wpStill_nil ?_
    go_wp2_with fail
    refine C1.mono ?_
    rintro e w1 ⟨rfl, ⟨A1, b1', a1', t1⟩, k1⟩
    have K1 : Keep N2 W0 w1 := ((Keep.refl N2 W0).drew).trans k1
    have HQ : Hid (So No w1 B wv T A1 b1' a1' S hb (c + 14) (d.1, R1.1, R1.2.1) ∧ Keep (Nq No B wv) w w1) := ⟨HS.out.via (K1.sub HN.out.1) ((t1.sub HN.out.1).more (by omega)), HK.out.trans (K1.sub HN.out.1)⟩
    clear C1 t1 k1 K1 HX1 HX2 HS HK x0 x1 x2 c0 hE0
    go_wp2
    go_ret
    exact ⟨rfl, ⟨A1, b1', a1', HQ.out.1⟩, HQ.out.2⟩
end Go.Proofs.YtcaaaoehipcloaaGreat

/- The walk of the reference's Ceil2. -/
namespace Go.Proofs.YtcaaaoehipcloaaGreat.C
open Go.RowKit

set_option maxRecDepth 20000 in
set_option maxHeartbeats 1000000 in
theorem rlog_pos (n : Int) (w : World) (h0 : 1 ≤ n) (h1 : n ≤ 9223372036854775807) : Calls Tryz.prog 54 #[.int .i64 n] w fun e w' => e = .returned (.int .i64 (lgN n)) ∧ w' = w := by
  have H1 : Hid (n ≤ 9223372036854775807) := h1
  clear h1
  go_enter Tryz.func54, Tryz.ntmps54
  go_wp2
  go_loop [3] (fun v => ∃ k : Nat, k ≤ 62 ∧ Hid (k = 0 ∨ 2 ^ (k - 1) < n.toNat) ∧ v = .int .i64 k) (fun v => 62 - (intOf v).toNat)
  case atStart => exact ⟨0, by omega, .inl rfl, rfl⟩
  case round =>
    obtain ⟨k, hk, HK, rfl⟩ := hrel
    have hp := pow_fit k hk
    have HP : Hid (((2 ^ k : Nat) : Int) = (2 : Int) ^ k) := pow_int k
    go_wp2
    · go_round
      case rel => exact ⟨k + 1, by omega, .inr (by have := HP.out; show 2 ^ k < _; omega), by go_num⟩
      case measure => simp [intOf]; omega
    · go_ret
      exact ⟨ret1 (by rw [← lgN_unique n k h0 H1.out (by have := HP.out; omega) HK.out]), rfl⟩
    · go_ret
      obtain rfl : k = 62 := by omega
      have h63 : n.toNat ≤ 2 ^ 63 := by have := H1.out; omega
      exact ⟨ret1 (by rw [← lgN_unique n 63 h0 H1.out h63 (.inr (by have := HP.out; show 2 ^ 62 < _; omega))]; rfl), rfl⟩
    · go_ret
      exact ⟨ret1 (by rw [← lgN_unique n k h0 H1.out (by have := HP.out; omega) HK.out]), rfl⟩
set_option maxRecDepth 20000 in
set_option maxHeartbeats 1000000 in
theorem rceil_any (n : Int) (w : World) (h0 : 0 ≤ n) (h1 : n ≤ 65536) : Calls Tryz.prog 29 #[.int .i64 n] w fun e w' => e = .returned (.tuple #[.int .i64 (up2 n), .int .i64 0]) ∧ w' = w := by
  unfold up2
  by_cases hz : n = 0
  · subst hz
    rw [if_pos rfl]
    go_enter Tryz.func29, Tryz.ntmps29
    go_wp2
    go_ret2
    exact ⟨rfl, rfl⟩
  · rw [if_neg hz]
    have hn : 1 ≤ n := by omega
    obtain ⟨hc, _, _, _, _, h30⟩ := cl_facts n hn (by omega)
    have HC : Hid (wrap64 (2 ^ lgN n) = cl n) := hc
    clear hc
    go_enter Tryz.func29, Tryz.ntmps29
    go_wp2_with (go_at_call 54; refine (rlog_pos _ _ hn (by omega)).mono ?_; rintro e w' ⟨rfl, rfl⟩)
    go_ret2
    exact ⟨ret2 HC.out rfl, rfl⟩
end Go.Proofs.YtcaaaoehipcloaaGreat.C
