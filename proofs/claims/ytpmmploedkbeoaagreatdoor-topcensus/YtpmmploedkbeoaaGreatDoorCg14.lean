/- The walks of Probes, Places, Place and Get. -/
import Derived.Test.YtpmmploedkbeoaaGreatDoorCg13
namespace Go.Proofs.YtpmmploedkbeoaaGreatDoor
open Go.RowKit

abbrev tp (T : Nat) : Value := .pointer (some ⟨T, 0, none⟩)
abbrev sv (x y u v : Int) : Value := .agg #[.int .i64 x, .int .i64 y, .int .i64 u, .int .i64 v]
abbrev ts (t : TS) : Value := sv (t.p.n : Nat) (t.p.z : Nat) (t.p.g.f : Nat) t.hint
set_option maxRecDepth 20000 in
set_option maxHeartbeats 2000000 in
theorem stats_any {w : World} {T A b a S : Nat} {t : TS} (h : Tm w T A b a S t) : Calls Tryz.prog 72 #[tp T] w fun e w' => e = .returned (ts t) ∧ Below w.heap.size w w' := by
  have R := R4.made w (.int .i64 0) (.int .i64 0) (.int .i64 0) (.int .i64 0) 140
  have B0 := b1 w (.cells #[.int .i64 0, .int .i64 0, .int .i64 0, .int .i64 0] 140)
  obtain ⟨W0, hW0⟩ : ∃ W0, w.alloc (.cells #[.int .i64 0, .int .i64 0, .int .i64 0, .int .i64 0] 140) = W0 := ⟨_, rfl⟩
  rw [hW0] at R B0
  have h0 := h.below B0
  have c1 : W0.cell? ⟨T, 1, none⟩ = some (.slice (some ⟨A, 0, none⟩) t.p.n t.p.n) := h0.pm.c0
  have c2 : W0.cell? ⟨T, 2, none⟩ = some (.pointer (some ⟨b, 0, none⟩)) := h0.pm.c1
  have c5 := h0.c5
  have CS : ∀ m, Calls Tryz.prog 111 #[pp b] (W0.drewN m) fun e w' => e = .returned (.int .i64 (t.p.z : Nat)) ∧ w' = W0.drewN m := fun m => size_any _ (h0.pm.pt.below (bdrew _ _ m))
  have CF : ∀ m, Calls Tryz.prog 112 #[pp b] (W0.drewN m) fun e w' => e = .returned (.int .i64 (t.p.g.f : Nat)) ∧ w' = W0.drewN m := fun m => free_any _ (h0.pm.pt.below (bdrew _ _ m))
  have HR : Hid (R4 W0 w.heap.size (.int .i64 0) (.int .i64 0) (.int .i64 0) (.int .i64 0)) := R
  have HB : Hid (Below w.heap.size w W0) := B0
  unfold pp at CS CF
  unfold ts sv tp
  generalize t.hint = hh at *
  generalize t.p.g.f = ff at *
  generalize t.p.n = nn at *
  generalize t.p.z = zz at *
  have r0 := R.c0
  have r1 := R.c1
  have r2 := R.c2
  have r3 := R.c3
  have rf := R.fz
  generalize hsz : w.heap.size = N at *
  have HSZ : Hid (w.heap.size = N) := hsz
  have R2 : Hid _ := R.set (.int .i64 (nn : Nat)) (.int .i64 (zz : Nat)) (.int .i64 (ff : Nat)) (.int .i64 hh)
  have K2 : Hid _ := Keep.set4 (Keep.of (No := fun g => g < N) (HSZ.out.symm ▸ HB.out)) (N := N) (Nat.lt_irrefl _) (.int .i64 (nn : Nat)) (.int .i64 (zz : Nat)) (.int .i64 (ff : Nat)) (.int .i64 hh)
  obtain ⟨W1, hW1⟩ : ∃ W1, set4 W0 N (.int .i64 (nn : Nat)) (.int .i64 (zz : Nat)) (.int .i64 (ff : Nat)) (.int .i64 hh) = W1 := ⟨_, rfl⟩
  rw [hW1] at R2 K2
  unfold set4 at hW1
  clear h h0 B0 R
  go_enter Tryz.func72, Tryz.ntmps72
  go_wp2_with fail
  refine wp_tail 23 (by kernel_rfl) (by kernel_rfl) ?_
  simp only [List.take_succ_cons, List.take_zero, List.drop_succ_cons, List.drop_zero]
  repeat (first | still_step | still_call (CS 1) | still_call (CF 1))
  refine wpStill_nil ?_
  go_wp2_with fail
  have R3 := R2.out
  have t0 := R3.c0
  have t1 := R3.c1
  have t2 := R3.c2
  have t3 := R3.c3
  clear R3
  refine bodyPost_ret (v := .agg #[.int .i64 (nn : Nat), .int .i64 (zz : Nat), .int .i64 (ff : Nat), .int .i64 hh]) (by simp [results, Tryz.results72, go_sem, t0, t1, t2, t3]) rfl ⟨rfl, ?_⟩
  exact (K2.out.below (by have := HSZ.out; omega) (fun g hg => hg)).trans (bdrew _ _ 1)
theorem stats_nil (w : World) : Calls Tryz.prog 72 #[.pointer none] w fun e w' => e = .returned (sv 0 0 0 0) ∧ Below w.heap.size w w' := by
  have HB : Hid _ := b1 w (.cells #[.int .i64 0, .int .i64 0, .int .i64 0, .int .i64 0] 140)
  unfold sv
  go_enter Tryz.func72, Tryz.ntmps72
  go_wp2
  refine bodyPost_ret (v := .agg #[.int .i64 0, .int .i64 0, .int .i64 0, .int .i64 0]) (by simp [results, Tryz.results72, go_sem]) rfl ⟨rfl, ?_⟩
  first | exact HB.out | (simp; exact HB.out)

/-- The key's place. -/
def plc (p : Pa) (k : V) : Int := if inA p.n k then k.2.1 else match (fnd p.z p.g k).1 with
  | none => 0
  | some i => (p.n : Int) + 1 + i
end Go.Proofs.YtpmmploedkbeoaaGreatDoor

/- The walk of Get. -/
namespace Go.Proofs.YtpmmploedkbeoaaGreatDoor
open Go.RowKit

/-- The result's block: three cells that may be written. -/
structure R3 (w : World) (N : Nat) (x : V) : Prop where
  bx : Bx w N x
  fz : ∀ j, w.frozen? ⟨N, j, none⟩ = false
abbrev set3 (w : World) (N : Nat) (x : V) : World := ((w.setCell ⟨N, 0, none⟩ (.int .i64 x.1)).setCell ⟨N, 1, none⟩ (.int .i64 x.2.1)).setCell ⟨N, 2, none⟩ (.string x.2.2)
theorem R3.kept {No : Nat → Prop} {w w' : World} {N : Nat} {x : V} (h : R3 w N x) (k : Keep No w w') (hn : No N) : R3 w' N x :=
  ⟨h.bx.kept k hn, fun j => by rw [World.frozen?_of_block (w := w) (k.block N h.bx.lt hn)]; exact h.fz j⟩
theorem R3.below {w w' : World} {N : Nat} {x : V} (h : R3 w N x) (k : Below w.heap.size w w') : R3 w' N x := h.kept (No := fun _ => True) (Keep.of k) trivial
theorem R3.made (w : World) (x : V) : R3 (w.alloc (vb x.1 x.2.1 x.2.2)) w.heap.size x := ⟨Bx.made w x, fun j => new_free w _ _ j⟩
theorem R3.set {w : World} {N : Nat} {y : V} (h : R3 w N y) (x : V) : R3 (set3 w N x) N x := by
  have ne : ∀ (i j : Nat) (W : World) (v : Value), i ≠ j → (W.setCell ⟨N, i, none⟩ v).cell? ⟨N, j, none⟩ = W.cell? ⟨N, j, none⟩ := fun i j W v hij => World.cell?_setCell_other _ _ _ _ (fun q => by injection q with _ q2; omega)
  have hm := h.bx
  refine ⟨⟨?_, ?_, ?_, by simpa [World.setCell] using hm.lt⟩, fun j => by simpa using h.fz j⟩
  · rw [ne 2 0 _ _ (by omega), ne 1 0 _ _ (by omega)]; exact World.cell?_setCell_same _ _ _ hm.c0
  · rw [ne 2 1 _ _ (by omega)]; exact World.cell?_setCell_same _ _ _ (by rw [ne 0 1 _ _ (by omega)]; exact hm.c1)
  · exact World.cell?_setCell_same _ _ _ (by rw [ne 1 2 _ _ (by omega), ne 0 2 _ _ (by omega)]; exact hm.c2)
theorem Keep.set3 {No : Nat → Prop} {w w1 : World} (h : Keep No w w1) {N : Nat} (hN : ¬ No N) (x : V) : Keep No w (set3 w1 N x) :=
  ((h.set (p := ⟨N, 0, none⟩) hN _).set (p := ⟨N, 1, none⟩) hN _).set (p := ⟨N, 2, none⟩) hN _
theorem TT.set3 {No : Nat → Prop} {w : World} {T A b a S hb c : Nat} {t : TS} {s : H.St} (h : TT No w T A b a S hb c t s) {N : Nat} (hN : No N) (x : V) : TT No (Proofs.YtpmmploedkbeoaaGreatDoor.set3 w N x) T A b a S hb c t s := by
  obtain ⟨vb, hp⟩ := h.hp
  have k : Keep (fun g => g ≠ N) w (Proofs.YtpmmploedkbeoaaGreatDoor.set3 w N x) := (Keep.refl _ w).set3 (fun q => q rfl) x
  exact ⟨h.tm.kept k (fun e => h.nT (e ▸ hN)) (fun e => h.nA (e ▸ hN)) (fun e => h.nb (e ▸ hN)) (fun e => h.na (e ▸ hN)), ⟨vb, ((hp.sets N 0 _ (.inl hN)).sets N 1 _ (.inl hN)).sets N 2 _ (.inl hN)⟩, h.nT, h.nA, h.nb, h.na, h.ti, h.iv, h.p0, h.p1⟩

/-- Behind the search: the value in a block of its own. -/
structure Gx (No No2 : Nat → Prop) (w W : World) (N M vx T A b a S hb c : Nat) (t : TS) (s : H.St) (xv : V) : Prop where
  tt : TT No2 W T A b a S hb c t s
  keep : Keep No w W
  r3 : R3 W (N + 1) nil
  bx : Bx W vx xv
  ge : M ≤ vx
set_option maxRecDepth 20000 in
set_option maxHeartbeats 4000000 in
theorem tget_any {No : Nat → Prop} {w : World} {T A b a S hb c : Nat} {t : TS} {s : H.St} (h : TT No w T A b a S hb c t s) (hc : c ≤ 900000) (k : V) (hr : Rng k) :
    Calls Tryz.prog 40 #[tp T, vv k] w fun e w' => e = .returned (vv (pget t.p k)) ∧ TT No w' T A b a S hb (c + 1) { t with pr := t.pr + (prd t.p k : Nat) } s ∧ Keep No w w' := by
  have X := (Bx.made w k).below (b1 _ (vb 0 0 ⟨#[]⟩))
  have R := R3.made (w.alloc (vb k.1 k.2.1 k.2.2)) nil
  have eX : (w.alloc (vb k.1 k.2.1 k.2.2)).heap.size = w.heap.size + 1 := by simp
  rw [eX] at R
  have B0 := b2 w (vb k.1 k.2.1 k.2.2) (vb 0 0 ⟨#[]⟩)
  have R' : R3 ((w.alloc (vb k.1 k.2.1 k.2.2)).alloc (vb 0 0 ⟨#[]⟩)) (w.heap.size + 1) nil := R
  obtain ⟨W0, hW0⟩ : ∃ W0, (w.alloc (vb k.1 k.2.1 k.2.2)).alloc (vb 0 0 ⟨#[]⟩) = W0 := ⟨_, rfl⟩
  rw [hW0] at X B0 R'
  have h0 := h.news B0
  obtain ⟨No2, hNo2⟩ : ∃ No2, (fun g => No g ∨ (w.heap.size ≤ g ∧ g < W0.heap.size)) = No2 := ⟨_, rfl⟩
  have HNo : Hid ((∀ g, No g → No2 g) ∧ No2 w.heap.size ∧ No2 (w.heap.size + 1)) := by
    have h1 := X.lt
    have h2 := R'.bx.lt
    subst hNo2
    exact ⟨fun g q => .inl q, .inr ⟨Nat.le_refl _, h1⟩, .inr ⟨by omega, h2⟩⟩
  have HNN : Hid (¬ No (w.heap.size + 1)) := fun q => by
    obtain ⟨vb, hp⟩ := h.hp
    have := hp.nos _ (.inl q); omega
  rw [hNo2] at h0
  clear hNo2
  have C1 := slot_any k W0.drew (h0.tm.pm.below (bdrew1 _))
  have HT : Hid (TT No2 W0 T A b a S hb c t s) := h0
  have HX : Hid (Bx W0 w.heap.size k) := X
  have HRr : Hid (R3 W0 (w.heap.size + 1) nil) := R'
  have HB : Hid (Keep No w W0) := Keep.of B0
  have x0 := X.c0
  have x1 := X.c1
  have x2 := X.c2
  unfold vb at hW0
  unfold vv vl tp at *
  generalize hsz : w.heap.size = N at *
  have hsz2 : (w.alloc (.cells #[.int .i64 k.1, .int .i64 k.2.1, .string k.2.2] 37)).heap.size = N + 1 := by rw [← hsz]; simp
  have hpn := h.ti.le
  clear X B0 h0 h R R' eX
  by_cases hA : inA t.p.n k
  · obtain ⟨es, hix⟩ := slot_in hA
    have HE : Hid (pget t.p k = t.p.F (ix k) ∧ prd t.p k = 0) := by
      constructor
      · unfold pget; rw [if_pos hA]
      · unfold prd; rw [if_pos hA]
    rw [es] at C1
    rw [HE.out.1, HE.out.2]
    clear es hA
    generalize ix k = i at *
    have hi0 : ¬ ((i : Int) + 1 ≤ 0) := by omega
    go_enter Tryz.func40, Tryz.ntmps40
    go_wp2_with fail
    refine wp_tail 4 (by kernel_rfl) (by kernel_rfl) ?_
    simp only [List.take_succ_cons, List.take_zero, List.drop_succ_cons, List.drop_zero]
    repeat still_step
    refine wpStill_nil ?_
    go_wp2_with fail
    refine C1.mono ?_; rintro e W1 ⟨rfl, hb1'⟩
    have hb1 : Below W0.heap.size W0 W1 := bthen (bdrew1 W0) (Nat.le_refl _) hb1'
    clear hb1'
    have T1 := HT.out.below hb1
    have R1 := HRr.out.below hb1
    obtain ⟨a0, a1, a2⟩ := T1.tm.pm.sl.at hix
    have c1 : W1.cell? ⟨T, 1, none⟩ = some (.slice (some ⟨A, 0, none⟩) t.p.n t.p.n) := T1.tm.pm.c0
    have HK1 : Hid (Keep No w W1) := HB.out.bel hb1
    obtain ⟨xv, hxv⟩ : ∃ xv, t.p.F i = xv := ⟨_, rfl⟩
    have HXV : Hid (t.p.F i = xv) := hxv
    rw [hxv] at a0 a1 a2
    clear hxv
    have HT3 : Hid _ := T1.set3 HNo.out.2.2 xv
    have HR3 : Hid _ := R1.set xv
    have HK3 : Hid _ := HK1.out.set3 HNN.out xv
    obtain ⟨W3, hW3⟩ : ∃ W3, set3 W1 (N + 1) xv = W3 := ⟨_, rfl⟩
    rw [hW3] at HT3 HR3 HK3
    unfold set3 at hW3
    have n0 := R1.bx.c0
    have n1 := R1.bx.c1
    have n2 := R1.bx.c2
    have nf := R1.fz
    have hw : IntKind.i64.wrap ((i : Int) + 1 - 1) = i := by rw [IntKind.wrap_i64]; omega
    have hin : (i : Int) < (t.p.n : Int) := by omega
    have hi1 : ¬ ((i : Int) < 0) := by omega
    clear C1 hb1 T1 R1
    go_wp2_with fail
    have R5 := HR3.out.bx
    have r0 := R5.c0
    have r1 := R5.c1
    have r2 := R5.c2
    clear R5
    refine bodyPost_ret (v := .agg #[.int .i64 xv.1, .int .i64 xv.2.1, .string xv.2.2]) (by simp [results, Tryz.results40, go_sem, r0, r1, r2]) rfl ⟨by rw [HXV.out], ?_, HK3.out⟩
    have e0 : ({ t with pr := t.pr + ((0 : Nat) : Int) } : TS) = t := by simp
    rw [e0]
    exact (HT3.out.sub HNo.out.1).more (by omega)
  · have es := slot_out hA
    rw [es] at C1
    have HE : Hid (pget t.p k = xAt t.p.g (fnd t.p.z t.p.g k).1 ∧ prd t.p k = (fnd t.p.z t.p.g k).2) := by
      constructor
      · unfold pget mg; rw [if_neg hA]
      · unfold prd; rw [if_neg hA]
    rw [HE.out.1, HE.out.2]
    have CF := fun W (hW : Pt W b a t.p.z t.p.g) => get_any k W hW HT.out.ti.inv HT.out.ti.rt hr
    have HRd : Hid ((fnd t.p.z t.p.g k).2 ≤ 65536) := by have := fnd_le (k := k) HT.out.ti.inv HT.out.ti.rt; have := HT.out.ti.rt.le; show _ ≤ _; omega
    clear es hA HE
    unfold pp vl at CF
    generalize xAt t.p.g (fnd t.p.z t.p.g k).1 = xv at *
    generalize (fnd t.p.z t.p.g k).2 = nn at *
    go_enter Tryz.func40, Tryz.ntmps40
    go_wp2_with fail
    refine wp_tail 4 (by kernel_rfl) (by kernel_rfl) ?_
    simp only [List.take_succ_cons, List.take_zero, List.drop_succ_cons, List.drop_zero]
    repeat still_step
    refine wpStill_nil ?_
    go_wp2_with fail
    refine C1.mono ?_; rintro e W1 ⟨rfl, hb1'⟩
    have hb1 : Below W0.heap.size W0 W1 := bthen (bdrew1 W0) (Nat.le_refl _) hb1'
    clear hb1'
    have HT1 : Hid (TT No2 W1 T A b a S hb c t s) := HT.out.below hb1
    have HR1 : Hid (R3 W1 (N + 1) nil) := HRr.out.below hb1
    have HK1 : Hid (Keep No w W1) := HB.out.bel hb1
    have X1 := HX.out.below hb1
    have y0 := X1.c0
    have y1 := X1.c1
    have y2 := X1.c2
    have c2 : W1.cell? ⟨T, 2, none⟩ = some (.pointer (some ⟨b, 0, none⟩)) := HT1.out.tm.pm.c1
    have CF1 : ∀ W, Below W1.heap.size W1 W → Calls Tryz.prog 66 #[.pointer (some ⟨b, 0, none⟩), .agg #[.int .i64 k.1, .int .i64 k.2.1, .string k.2.2]] W fun e w' => e = .returned (.tuple #[.agg #[.int .i64 xv.1, .int .i64 xv.2.1, .string xv.2.2], .int .i64 (nn : Nat)]) ∧ Below W.heap.size W w' ∧ Hid (Below W1.heap.size W1 w') := fun W hW =>
      (CF W (HT1.out.tm.pm.pt.below hW)).mono fun _ _ hh => ⟨hh.1, hh.2, bthen hW hW.size hh.2⟩
    have HF1 : Hid (∀ w3, Below W1.heap.size W1 w3 → Gx No No2 w (w3.alloc (.cells #[.int .i64 xv.1, .int .i64 xv.2.1, .string xv.2.2] 37)) N W1.heap.size w3.heap.size T A b a S hb c t s xv) := fun w3 b3 =>
      ⟨HT1.out.below (bthen b3 b3.size (b1 _ _)), HK1.out.bel (bthen b3 b3.size (b1 _ _)), HR1.out.below (bthen b3 b3.size (b1 _ _)), Bx.made w3 xv, b3.size⟩
    have HF2 : Hid (∀ w3, Below W1.heap.size W1 w3 → R3 w3 W1.heap.size nil → Gx No No2 w (set3 w3 W1.heap.size xv) N W1.heap.size W1.heap.size T A b a S hb c t s xv) := fun w3 b3 r3 => by
      have bb : Below W1.heap.size W1 (set3 w3 W1.heap.size xv) := ((b3.setCell (Nat.le_refl _) _).setCell (Nat.le_refl _) _).setCell (Nat.le_refl _) _
      exact ⟨HT1.out.below bb, HK1.out.bel bb, HR1.out.below bb, (r3.set xv).bx, Nat.le_refl _⟩
    have BA := bthen (bdrew1 W1) (Nat.le_refl _) (b1 W1.drew (.cells #[.int .i64 0, .int .i64 0, .string ⟨#[]⟩] 37))
    have RA : R3 (W1.drew.alloc (.cells #[.int .i64 0, .int .i64 0, .string ⟨#[]⟩] 37)) W1.heap.size nil := R3.made W1.drew nil
    obtain ⟨Wa, hWa⟩ : ∃ Wa, W1.drew.alloc (.cells #[.int .i64 0, .int .i64 0, .string ⟨#[]⟩] 37) = Wa := ⟨_, rfl⟩
    rw [hWa] at BA RA
    have Z1 := X1.below BA
    have z0 := Z1.c0
    have z1 := Z1.c1
    have z2 := Z1.c2
    have z3 : Wa.cell? ⟨T, 2, none⟩ = some (.pointer (some ⟨b, 0, none⟩)) := (HT1.out.below BA).tm.pm.c1
    have CFd := (CF1 W1.drew (bdrew1 _)).mono (R' := fun e w' => e = .returned (.tuple #[.agg #[.int .i64 xv.1, .int .i64 xv.2.1, .string xv.2.2], .int .i64 (nn : Nat)]) ∧ Hid (Below W1.heap.size W1 w')) fun _ _ hh => ⟨hh.1, hh.2.2⟩
    have CFa := (CF1 Wa BA).mono (R' := fun e w' => e = .returned (.tuple #[.agg #[.int .i64 xv.1, .int .i64 xv.2.1, .string xv.2.2], .int .i64 (nn : Nat)]) ∧ Hid (Below W1.heap.size W1 w') ∧ R3 w' W1.heap.size nil) fun _ _ hh => ⟨hh.1, hh.2.2, RA.below hh.2.1⟩
    clear CF1 BA RA
    clear C1 hb1 X1 x0 x1 x2 CF Z1
    go_wp2_with fail
    go_cut [6, 7] from 27 to 37 (fun bw rw wx => ∃ vx : Nat, bw = .pointer (some ⟨vx, 0, none⟩) ∧ rw = .int .i64 (nn : Nat) ∧ Hid (Gx No No2 w wx N W1.heap.size vx T A b a S hb c t s xv))
    case first =>
      go_region_with (first
        | (go_at_call 66; refine CFd.mono ?_; rintro e w3 ⟨rfl, hB3⟩)
        | (go_at_call 66; refine CFa.mono ?_; rintro e w3 ⟨rfl, hB3, q3⟩; have q0 : w3.cell? ⟨W1.heap.size, 0, none⟩ = some (.int .i64 0) := q3.bx.c0; have q1 : w3.cell? ⟨W1.heap.size, 1, none⟩ = some (.int .i64 0) := q3.bx.c1; have q2 : w3.cell? ⟨W1.heap.size, 2, none⟩ = some (.string ⟨#[]⟩) := q3.bx.c2; have qf : ∀ j, w3.frozen? ⟨W1.heap.size, j, none⟩ = false := q3.fz; have HQ : Hid (R3 w3 W1.heap.size nil) := q3; clear q3))
      all_goals
        go_wp2_with fail
        go_meet
        first | exact ⟨w3.heap.size, rfl, rfl, HF1.out w3 hB3.out⟩ | exact ⟨W1.heap.size, rfl, rfl, HF2.out w3 hB3.out HQ.out⟩
    case rest =>
      obtain ⟨vx, rfl, rfl, HG⟩ := hcut
      clear CFd CFa HF1 HF2 z0 z1 z2 z3 hWa y0 y1 y2 c2
      have p6 := HG.out.tt.tm.c6
      have f6 := HG.out.tt.tm.fz 6
      have hrd := HRd.out
      have hp0 := HG.out.tt.p0
      have hp1 := HG.out.tt.p1
      have hwr : IntKind.i64.wrap (t.pr + (nn : Int)) = t.pr + (nn : Int) := by rw [IntKind.wrap_i64]; omega
      have HY : Hid _ := HG.out.tt.probe (nn : Int) (by omega) (by omega)
      have hTl : T < W1.heap.size := HT1.out.tm.pm.ltB
      have kT : Keep (fun x => x ≠ T) wc (wc.setCell ⟨T, 6, none⟩ (.int .i64 (t.pr + (nn : Int)))) := (Keep.refl _ wc).set (p := ⟨T, 6, none⟩) (fun q => q rfl) _
      have V4 : Bx (wc.setCell ⟨T, 6, none⟩ (.int .i64 (t.pr + (nn : Int)))) vx xv := HG.out.bx.kept kT (by have := HG.out.ge; show vx ≠ T; omega)
      have R4' : R3 (wc.setCell ⟨T, 6, none⟩ (.int .i64 (t.pr + (nn : Int)))) (N + 1) nil := HG.out.r3.kept kT (by show N + 1 ≠ T; exact fun e => HT1.out.nT (e ▸ HNo.out.2.2))
      obtain ⟨W4, hW4⟩ : ∃ W4, wc.setCell ⟨T, 6, none⟩ (.int .i64 (t.pr + (nn : Int))) = W4 := ⟨_, rfl⟩
      rw [hW4] at HY V4 R4'
      have hnoT : ¬ No T := fun q => HT1.out.nT (HNo.out.1 _ q)
      have HK4 : Hid (Keep No w W4) := by rw [← hW4]; exact HG.out.keep.set (p := ⟨T, 6, none⟩) hnoT _
      have v0 := V4.c0
      have v1 := V4.c1
      have v2 := V4.c2
      have n0 := R4'.bx.c0
      have n1 := R4'.bx.c1
      have n2 := R4'.bx.c2
      have nf := R4'.fz
      have HT5 : Hid _ := HY.out.1.set3 HNo.out.2.2 xv
      have HR5 : Hid _ := R4'.set xv
      have HK5 : Hid _ := HK4.out.set3 HNN.out xv
      obtain ⟨W5, hW5⟩ : ∃ W5, set3 W4 (N + 1) xv = W5 := ⟨_, rfl⟩
      rw [hW5] at HT5 HR5 HK5
      unfold set3 at hW5
      clear V4 R4' kT HY hrd hp0 hp1 hTl hnoT
      go_wp2_with fail
      have R5 := HR5.out.bx
      have r0 := R5.c0
      have r1 := R5.c1
      have r2 := R5.c2
      clear R5
      refine bodyPost_ret (v := .agg #[.int .i64 xv.1, .int .i64 xv.2.1, .string xv.2.2]) (by simp [results, Tryz.results40, go_sem, r0, r1, r2]) rfl ⟨rfl, HT5.out.sub HNo.out.1, HK5.out⟩
theorem tget_nil (k : V) (w : World) : Calls Tryz.prog 40 #[.pointer none, vv k] w fun e w' => e = .returned (vv nil) ∧ Below w.heap.size w w' := by
  have HB : Hid _ := b2 w (.cells #[.int .i64 k.1, .int .i64 k.2.1, .string k.2.2] 37) (.cells #[.int .i64 0, .int .i64 0, .string ⟨#[]⟩] 37)
  unfold vv vl
  go_enter Tryz.func40, Tryz.ntmps40
  go_wp2
  refine bodyPost_ret (v := .agg #[.int .i64 0, .int .i64 0, .string ⟨#[]⟩]) (by simp [results, Tryz.results40, go_sem]) rfl ⟨rfl, ?_⟩
  first | exact HB.out | (simp; exact HB.out)
end Go.Proofs.YtpmmploedkbeoaaGreatDoor

/- The small makers of values: the host's and the statement's. -/
namespace Go.Proofs.YtpmmploedkbeoaaGreatDoor
open Go.RowKit

set_option maxRecDepth 20000 in
set_option maxHeartbeats 1000000 in
theorem num43 (n : Int) (w : World) : Calls Tryz.prog 43 #[.int .i64 n] w fun e w' => e = .returned (vl 2 n ⟨#[]⟩) ∧ Below w.heap.size w w' := by
  have HW := b1 w (vb 2 n ⟨#[]⟩)
  unfold vl vb at *
  go_enter Tryz.func43, Tryz.ntmps43
  go_wp2
  refine bodyPost_ret (v := .agg #[.int .i64 2, .int .i64 n, .string ⟨#[]⟩]) (by simp [results, Tryz.results43, go_sem]) rfl ⟨rfl, ?_⟩
  exact HW
set_option maxRecDepth 20000 in
set_option maxHeartbeats 1000000 in
theorem tab15 (n : Int) (w : World) : Calls Tryz.prog 15 #[.int .i64 n] w fun e w' => e = .returned (vl 4 n ⟨#[]⟩) ∧ Below w.heap.size w w' := by
  have HW := b1 w (vb 4 n ⟨#[]⟩)
  unfold vl vb at *
  go_enter Tryz.func15, Tryz.ntmps15
  go_wp2
  refine bodyPost_ret (v := .agg #[.int .i64 4, .int .i64 n, .string ⟨#[]⟩]) (by simp [results, Tryz.results15, go_sem]) rfl ⟨rfl, ?_⟩
  exact HW
set_option maxRecDepth 20000 in
set_option maxHeartbeats 1000000 in
theorem val26 (k n : Int) (w : World) : Calls Tryz.prog 26 #[.int .i64 k, .int .i64 n] w fun e w' => e = .returned (vl k n ⟨#[]⟩) ∧ Below w.heap.size w w' := by
  have HW := b1 w (vb k n ⟨#[]⟩)
  unfold vl vb at *
  go_enter Tryz.func26, Tryz.ntmps26
  go_wp2
  refine bodyPost_ret (v := .agg #[.int .i64 k, .int .i64 n, .string ⟨#[]⟩]) (by simp [results, Tryz.results26, go_sem]) rfl ⟨rfl, ?_⟩
  exact HW
set_option maxRecDepth 20000 in
set_option maxHeartbeats 1000000 in
theorem tab9 (n : Int) (w : World) : Calls Tryz.prog 9 #[.int .i64 n] w fun e w' => e = .returned (vl 4 n ⟨#[]⟩) ∧ Below w.heap.size w w' := by
  have k0 : Below w.heap.size w (w.alloc (vb 0 0 ⟨#[]⟩)) := b1 _ _
  have R0 := R3.made w nil
  have C := tab15 n (w.alloc (vb 0 0 ⟨#[]⟩))
  have HK : Hid (Below w.heap.size w (w.alloc (vb 0 0 ⟨#[]⟩))) := k0
  have HR : Hid (R3 (w.alloc (vb 0 0 ⟨#[]⟩)) w.heap.size nil) := R0
  unfold vl at *
  unfold vb at C HK HR
  clear k0 R0
  go_enter Tryz.func9, Tryz.ntmps9
  go_wp2_with fail
  refine C.mono ?_; rintro e w1 ⟨rfl, hb⟩
  have HB : Hid (Below w.heap.size w w1) := bthen HK.out HK.out.size hb
  have R1 := HR.out.below hb
  have HK3 : Hid (Below w.heap.size w (set3 w1 w.heap.size (4, n, ⟨#[]⟩))) := ((Keep.of HB.out : Keep (fun g => g < w.heap.size) w w1).set3 (fun q => Nat.lt_irrefl _ q) (4, n, ⟨#[]⟩)).below (Nat.le_refl _) (fun g q => q)
  have HR3 : Hid (R3 (set3 w1 w.heap.size (4, n, ⟨#[]⟩)) w.heap.size (4, n, ⟨#[]⟩)) := R1.set _
  obtain ⟨W3, hW3⟩ : ∃ W3, set3 w1 w.heap.size (4, n, ⟨#[]⟩) = W3 := ⟨_, rfl⟩
  rw [hW3] at HR3 HK3
  unfold set3 at hW3
  have n0 := R1.bx.c0
  have n1 := R1.bx.c1
  have n2 := R1.bx.c2
  have nf := R1.fz
  clear C hb HK R1 HR
  go_wp2_with fail
  have R5 := HR3.out.bx
  have r0 := R5.c0
  have r1 := R5.c1
  have r2 := R5.c2
  clear R5
  exact bodyPost_ret (v := .agg #[.int .i64 4, .int .i64 n, .string ⟨#[]⟩]) (by simp [results, Tryz.results9, go_sem, r0, r1, r2]) rfl ⟨rfl, HK3.out⟩
/-- How many values an operation uses. -/
def usesF (k : Int) : Int := if k = 9 then 3 else if k = 8 ∨ k = 10 then 2 else 1
set_option maxRecDepth 20000 in
set_option maxHeartbeats 1000000 in
theorem uses_any (k : Int) (w : World) : Calls Tryz.prog 63 #[.int .i64 k] w fun e w' => e = .returned (.int .i64 (usesF k)) ∧ w' = w := by
  unfold usesF
  by_cases h9 : k = 9
  · subst h9
    go_enter Tryz.func63, Tryz.ntmps63
    go_wp2
    go_ret
    exact ⟨rfl, rfl⟩
  · have b9 : (k == 9) = false := by simpa using h9
    rw [if_neg h9]
    by_cases h8 : k = 8
    · subst h8
      go_enter Tryz.func63, Tryz.ntmps63
      go_wp2
      go_ret
      exact ⟨rfl, rfl⟩
    · have b8 : (k == 8) = false := by simpa using h8
      by_cases h10 : k = 10
      · subst h10
        go_enter Tryz.func63, Tryz.ntmps63
        go_wp2
        go_ret
        exact ⟨rfl, rfl⟩
      · have b10 : (k == 10) = false := by simpa using h10
        rw [if_neg (fun q => q.elim h8 h10)]
        clear h9 h8 h10
        go_enter Tryz.func63, Tryz.ntmps63
        go_wp2
        go_ret
        exact ⟨rfl, rfl⟩
set_option maxRecDepth 20000 in
set_option maxHeartbeats 1000000 in
theorem unknown_any (k : Int) (h1 : 1 ≤ k) (h2 : k ≤ 14) (nm : ByteArray) (vs : Value) (a b : Int) (hv : ∃ x L c, vs = .slice x L c) (w : World) :
    Calls Tryz.prog 13 #[.agg #[.int .i64 k, .string nm, vs, .int .i64 a, .int .i64 b]] w fun e w' => e = .returned (.bool false) ∧ Below w.heap.size w w' := by
  obtain ⟨x, L, c, rfl⟩ := hv
  have k1 : ¬ k < 1 := by omega
  have k2 : ¬ 14 < k := by omega
  have d1 : decide (k < 1) = false := by simpa using k1
  have d2 : decide (14 < k) = false := by simpa using k2
  have HB := b1 w (.cells #[.int .i64 k, .string nm, .slice x L c, .int .i64 a, .int .i64 b] 48)
  have HB2 : Hid _ := HB
  clear HB
  go_enter Tryz.func13, Tryz.ntmps13
  go_wp2
  go_ret
  exact ⟨rfl, HB2.out⟩
end Go.Proofs.YtpmmploedkbeoaaGreatDoor
