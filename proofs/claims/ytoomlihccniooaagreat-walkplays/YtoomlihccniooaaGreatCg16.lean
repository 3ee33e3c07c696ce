/- The walks of Probes, Places, Place and Get. -/
import Derived.Test.YtoomlihccniooaaGreatCg15
namespace Go.Proofs.YtoomlihccniooaaGreat
open Go.RowKit

abbrev tp (T : Nat) : Value := .pointer (some ⟨T, 0, none⟩)
set_option maxRecDepth 20000 in
set_option maxHeartbeats 2000000 in
theorem probes_any {w : World} {T A b a S : Nat} {t : TS} (h : Tm w T A b a S t) : Calls Tryz.prog 19 #[tp T] w fun e w' => e = .returned (.int .i64 t.pr) ∧ w' = w := by
  have c := h.c6
  clear h
  go_enter Tryz.func19, Tryz.ntmps19
  go_wp2
  go_ret; exact ⟨rfl, rfl⟩
set_option maxRecDepth 20000 in
set_option maxHeartbeats 2000000 in
theorem places_any {w : World} {T A b a S : Nat} {t : TS} (h : Tm w T A b a S t) (hn : t.p.n ≤ 65536) (hz : t.p.z ≤ 65536) : Calls Tryz.prog 82 #[tp T] w fun e w' => e = .returned (.int .i64 ((t.p.n + t.p.z : Nat) : Int)) ∧ Below w.heap.size w w' := by
  have c1 : w.cell? ⟨T, 1, none⟩ = some (.slice (some ⟨A, 0, none⟩) t.p.n t.p.n) := h.pm.c0
  have c2 : w.cell? ⟨T, 2, none⟩ = some (.pointer (some ⟨b, 0, none⟩)) := h.pm.c1
  have CS : ∀ m, Calls Tryz.prog 48 #[pp b] (w.drewN m) fun e w' => e = .returned (.int .i64 (t.p.z : Nat)) ∧ w' = w.drewN m := fun m => size_any _ (h.pm.pt.below (bdrew _ _ m))
  have hw : IntKind.i64.wrap ((t.p.n : Int) + (t.p.z : Int)) = ((t.p.n + t.p.z : Nat) : Int) := by rw [IntKind.wrap_i64]; omega
  clear h
  unfold pp at CS
  go_enter Tryz.func82, Tryz.ntmps82
  unfold tp
  go_wp2_with fail
  go_quiet (exact Calls.quiet_of_same (CS _))
  go_wp2_with fail
  go_ret
  exact ⟨rfl, bdrew _ _ _⟩
theorem probes_nil (w : World) : Calls Tryz.prog 19 #[.pointer none] w fun e w' => e = .returned (.int .i64 0) ∧ w' = w := by
  go_enter Tryz.func19, Tryz.ntmps19
  go_wp2
  go_ret; exact ⟨rfl, rfl⟩
theorem places_nil (w : World) : Calls Tryz.prog 82 #[.pointer none] w fun e w' => e = .returned (.int .i64 0) ∧ w' = w := by
  go_enter Tryz.func82, Tryz.ntmps82
  go_wp2
  go_ret; exact ⟨rfl, rfl⟩

abbrev sv (x y u v : Int) : Value := .agg #[.int .i64 x, .int .i64 y, .int .i64 u, .int .i64 v]
abbrev ts (t : TS) : Value := sv (t.p.n : Nat) (t.p.z : Nat) (t.p.g.f : Nat) t.hint
set_option maxRecDepth 20000 in
set_option maxHeartbeats 2000000 in
theorem stats_any {w : World} {T A b a S : Nat} {t : TS} (h : Tm w T A b a S t) : Calls Tryz.prog 17 #[tp T] w fun e w' => e = .returned (ts t) ∧ Below w.heap.size w w' := by
  have R := R4.made w (.int .i64 0) (.int .i64 0) (.int .i64 0) (.int .i64 0) 43
  have B0 := b1 w (.cells #[.int .i64 0, .int .i64 0, .int .i64 0, .int .i64 0] 43)
  obtain ⟨W0, hW0⟩ : ∃ W0, w.alloc (.cells #[.int .i64 0, .int .i64 0, .int .i64 0, .int .i64 0] 43) = W0 := ⟨_, rfl⟩
  rw [hW0] at R B0
  have h0 := h.below B0
  have c1 : W0.cell? ⟨T, 1, none⟩ = some (.slice (some ⟨A, 0, none⟩) t.p.n t.p.n) := h0.pm.c0
  have c2 : W0.cell? ⟨T, 2, none⟩ = some (.pointer (some ⟨b, 0, none⟩)) := h0.pm.c1
  have c5 := h0.c5
  have CS : ∀ m, Calls Tryz.prog 48 #[pp b] (W0.drewN m) fun e w' => e = .returned (.int .i64 (t.p.z : Nat)) ∧ w' = W0.drewN m := fun m => size_any _ (h0.pm.pt.below (bdrew _ _ m))
  have CF : ∀ m, Calls Tryz.prog 49 #[pp b] (W0.drewN m) fun e w' => e = .returned (.int .i64 (t.p.g.f : Nat)) ∧ w' = W0.drewN m := fun m => free_any _ (h0.pm.pt.below (bdrew _ _ m))
  have HR : Hid (R4 W0 w.heap.size (.int .i64 0) (.int .i64 0) (.int .i64 0) (.int .i64 0)) := R
  have HB : Hid (Below w.heap.size w W0) := B0
  unfold pp at CS CF
  unfold ts sv tp
  generalize t.hint = hh at *
  generalize t.p.g.f = ff at *
  generalize t.p.n = nn at *
  generalize t.p.z = zz at *
  have r0 := R.c0
  have r1 := R.c1
  have r2 := R.c2
  have r3 := R.c3
  have rf := R.fz
  generalize hsz : w.heap.size = N at *
  have HSZ : Hid (w.heap.size = N) := hsz
  have R2 : Hid _ := R.set (.int .i64 (nn : Nat)) (.int .i64 (zz : Nat)) (.int .i64 (ff : Nat)) (.int .i64 hh)
  have K2 : Hid _ := Keep.set4 (Keep.of (No := fun g => g < N) (HSZ.out.symm ▸ HB.out)) (N := N) (Nat.lt_irrefl _) (.int .i64 (nn : Nat)) (.int .i64 (zz : Nat)) (.int .i64 (ff : Nat)) (.int .i64 hh)
  obtain ⟨W1, hW1⟩ : ∃ W1, set4 W0 N (.int .i64 (nn : Nat)) (.int .i64 (zz : Nat)) (.int .i64 (ff : Nat)) (.int .i64 hh) = W1 := ⟨_, rfl⟩
  rw [hW1] at R2 K2
  unfold set4 at hW1
  clear h h0 B0 R
  go_enter Tryz.func17, Tryz.ntmps17
  go_wp2_with fail
  refine wp_tail 23 (by kernel_rfl) (by kernel_rfl) ?_
  simp only [List.take_succ_cons, List.take_zero, List.drop_succ_cons, List.drop_zero]
  repeat (first | still_step | still_call (CS 1) | still_call (CF 1))
  refine wpStill_nil ?_
  go_wp2_with fail
  have R3 := R2.out
  have t0 := R3.c0
  have t1 := R3.c1
  have t2 := R3.c2
  have t3 := R3.c3
  clear R3
  refine bodyPost_ret (v := .agg #[.int .i64 (nn : Nat), .int .i64 (zz : Nat), .int .i64 (ff : Nat), .int .i64 hh]) (by simp [results, Tryz.results17, go_sem, t0, t1, t2, t3]) rfl ⟨rfl, ?_⟩
  exact (K2.out.below (by have := HSZ.out; omega) (fun g hg => hg)).trans (bdrew _ _ 1)
theorem stats_nil (w : World) : Calls Tryz.prog 17 #[.pointer none] w fun e w' => e = .returned (sv 0 0 0 0) ∧ Below w.heap.size w w' := by
  have HB : Hid _ := b1 w (.cells #[.int .i64 0, .int .i64 0, .int .i64 0, .int .i64 0] 43)
  unfold sv
  go_enter Tryz.func17, Tryz.ntmps17
  go_wp2
  refine bodyPost_ret (v := .agg #[.int .i64 0, .int .i64 0, .int .i64 0, .int .i64 0]) (by simp [results, Tryz.results17, go_sem]) rfl ⟨rfl, ?_⟩
  first | exact HB.out | (simp; exact HB.out)

/-- The key's place. -/
def plc (p : Pa) (k : V) : Int := if inA p.n k then k.2.1 else match (fnd p.z p.g k).1 with
  | none => 0
  | some i => (p.n : Int) + 1 + i
set_option maxRecDepth 20000 in
set_option maxHeartbeats 4000000 in
theorem place_any {No : Nat → Prop} {w : World} {T A b a S hb c : Nat} {t : TS} {s : H.St} (h : TT No w T A b a S hb c t s) (hc : c ≤ 900000) (k : V) (hr : Rng k) :
    Calls Tryz.prog 52 #[tp T, vv k] w fun e w' => e = .returned (.int .i64 (plc t.p k)) ∧ TT No w' T A b a S hb (c + 1) { t with pr := t.pr + (prd t.p k : Nat) } s ∧ Keep No w w' := by
  have X := Bx.made w k
  have B0 := b1 w (vb k.1 k.2.1 k.2.2)
  obtain ⟨W0, hW0⟩ : ∃ W0, w.alloc (vb k.1 k.2.1 k.2.2) = W0 := ⟨_, rfl⟩
  rw [hW0] at X B0
  have h0 := h.below B0
  have C1 := slot_any k W0.drew (h0.tm.pm.below (bdrew1 _))
  have HT : Hid (TT No W0 T A b a S hb c t s) := h0
  have HX : Hid (Bx W0 w.heap.size k) := X
  have HB : Hid (Below w.heap.size w W0) := B0
  have x0 := X.c0
  have x1 := X.c1
  have x2 := X.c2
  unfold vb at hW0
  unfold vv vl tp at *
  generalize hsz : w.heap.size = N at *
  have HSZ : Hid (w.heap.size = N) := hsz
  have hpn := h.ti.le
  have hpz := h.ti.rt.le
  clear X B0 h0 h
  by_cases hA : inA t.p.n k
  · obtain ⟨es, hix⟩ := slot_in hA
    have HE : Hid (plc t.p k = ((ix k : Nat) : Int) + 1 ∧ prd t.p k = 0) := by
      constructor
      · rw [← es]; unfold plc slotOf; rw [if_pos hA, if_pos hA]
      · unfold prd; rw [if_pos hA]
    rw [es] at C1
    rw [HE.out.1, HE.out.2]
    clear es hA
    generalize ix k = i at *
    have hi0 : ¬ ((i : Int) + 1 ≤ 0) := by omega
    go_enter Tryz.func52, Tryz.ntmps52
    go_wp2_with fail
    refine wp_tail 4 (by kernel_rfl) (by kernel_rfl) ?_
    simp only [List.take_succ_cons, List.take_zero, List.drop_succ_cons, List.drop_zero]
    repeat still_step
    refine wpStill_nil ?_
    go_wp2_with fail
    refine C1.mono ?_; rintro e W1 ⟨rfl, hb1'⟩
    have hb1 : Below W0.heap.size W0 W1 := bthen (bdrew1 W0) (Nat.le_refl _) hb1'
    clear hb1'
    have HB1 : Hid (TT No W1 T A b a S hb c t s ∧ Below N w W1) := ⟨HT.out.below hb1, bthen HB.out (HSZ.out ▸ HB.out.size) hb1⟩
    clear C1 hb1
    go_wp2_with fail
    go_ret
    have e0 : ({ t with pr := t.pr + ((0 : Nat) : Int) } : TS) = t := by simp
    rw [e0]
    exact ⟨rfl, HB1.out.1.more (by omega), Keep.of (HSZ.out.symm ▸ HB1.out.2)⟩
  · have es := slot_out hA
    rw [es] at C1
    have HE : Hid (plc t.p k = (match (fnd t.p.z t.p.g k).1 with | none => 0 | some i => (t.p.n : Int) + 1 + i) ∧ prd t.p k = (fnd t.p.z t.p.g k).2) := by
      constructor
      · unfold plc; rw [if_neg hA]
      · unfold prd; rw [if_neg hA]
    rw [HE.out.1, HE.out.2]
    have CF := fun W (hW : Pt W b a t.p.z t.p.g) => find_all k W hW HT.out.ti.inv HT.out.ti.rt hr
    have HL : Hid (∀ i n, fnd t.p.z t.p.g k = (some i, n) → i < t.p.z) := fun i n hf => (fnd_lt HT.out.ti.inv HT.out.ti.rt hr hf).1
    have HRd : Hid ((fnd t.p.z t.p.g k).2 ≤ 65536) := by have := fnd_le (k := k) HT.out.ti.inv HT.out.ti.rt; show _ ≤ _; omega
    clear es hA HE
    unfold pp vl at CF
    cases hf : fnd t.p.z t.p.g k with
    | mk oo nn =>
      rw [hf] at CF HL HRd
      go_enter Tryz.func52, Tryz.ntmps52
      go_wp2_with fail
      refine wp_tail 4 (by kernel_rfl) (by kernel_rfl) ?_
      simp only [List.take_succ_cons, List.take_zero, List.drop_succ_cons, List.drop_zero]
      repeat still_step
      refine wpStill_nil ?_
      go_wp2_with fail
      refine C1.mono ?_; rintro e W1 ⟨rfl, hb1'⟩
      have hb1 : Below W0.heap.size W0 W1 := bthen (bdrew1 W0) (Nat.le_refl _) hb1'
      clear hb1'
      have HB1 : Hid (TT No W1 T A b a S hb c t s ∧ Below N w W1) := ⟨HT.out.below hb1, bthen HB.out (HSZ.out ▸ HB.out.size) hb1⟩
      have X1 := HX.out.below hb1
      have y0 := X1.c0
      have y1 := X1.c1
      have y2 := X1.c2
      have c2 : W1.cell? ⟨T, 2, none⟩ = some (.pointer (some ⟨b, 0, none⟩)) := HB1.out.1.tm.pm.c1
      clear C1 hb1 X1 x0 x1 x2
      have CF1 := CF W1.drew (HB1.out.1.tm.pm.pt.below (bdrew1 _))
      clear CF
      go_wp2_with fail
      go_cut [6, 7] from 18 to 28 (fun aw rw wx => aw = .int .i64 (fi oo) ∧ rw = .int .i64 (nn : Nat) ∧ Hid (TT No wx T A b a S hb c t s ∧ Below N w wx))
      case first =>
        go_region_with (go_at_call 79; refine CF1.mono ?_; rintro e w3 ⟨rfl, b3⟩; have HX3 : Hid (TT No w3 T A b a S hb c t s ∧ Below N w w3) := ⟨(HB1.out.1.below (bdrew1 _)).below b3, bthen (bthen HB1.out.2 (HSZ.out ▸ HB1.out.2.size) (bdrew1 _)) (HSZ.out ▸ HB1.out.2.size) b3⟩; clear b3)
        all_goals
          go_wp2_with fail
          go_meet
          exact ⟨rfl, rfl, HX3⟩
      case rest =>
        obtain ⟨rfl, rfl, HX3⟩ := hcut
        clear CF1
        have p6 := HX3.out.1.tm.c6
        have f6 := HX3.out.1.tm.fz 6
        have hrd := HRd.out
        have hp0 := HX3.out.1.p0
        have hp1 := HX3.out.1.p1
        have hwr : IntKind.i64.wrap (t.pr + (nn : Int)) = t.pr + (nn : Int) := by rw [IntKind.wrap_i64]; omega
        have HY : Hid _ := HX3.out.1.probe (nn : Int) (by omega) (by omega)
        obtain ⟨W4, hW4⟩ : ∃ W4, wc.setCell ⟨T, 6, none⟩ (.int .i64 (t.pr + (nn : Int))) = W4 := ⟨_, rfl⟩
        rw [hW4] at HY
        have HY4 : Hid (TT No W4 T A b a S hb (c + 1) { t with pr := t.pr + (nn : Int) } s ∧ Keep No w W4) := ⟨HY.out.1, (Keep.of (HSZ.out.symm ▸ HX3.out.2)).trans HY.out.2⟩
        have c1 : W4.cell? ⟨T, 1, none⟩ = some (.slice (some ⟨A, 0, none⟩) t.p.n t.p.n) := HY4.out.1.tm.pm.c0
        clear HY hrd hp0 hp1
        cases oo with
        | none =>
          simp only [fi]
          go_wp2_with fail
          go_ret
          exact ⟨rfl, HY4.out.1, HY4.out.2⟩
        | some i =>
          have hiz := HL.out i nn rfl
          simp only [fi]
          have hi0 : ¬ ((i : Int) < 0) := by omega
          have hw1 : IntKind.i64.wrap ((t.p.n : Int) + 1) = (t.p.n : Int) + 1 := by rw [IntKind.wrap_i64]; omega
          have hw2 : IntKind.i64.wrap ((t.p.n : Int) + 1 + (i : Int)) = (t.p.n : Int) + 1 + (i : Int) := by rw [IntKind.wrap_i64]; omega
          go_wp2_with fail
          go_ret
          exact ⟨rfl, HY4.out.1, HY4.out.2⟩
theorem place_nil (k : V) (w : World) : Calls Tryz.prog 52 #[.pointer none, vv k] w fun e w' => e = .returned (.int .i64 0) ∧ Below w.heap.size w w' := by
  have HB : Hid _ := b1 w (.cells #[.int .i64 k.1, .int .i64 k.2.1, .string k.2.2] 31)
  unfold vv vl
  go_enter Tryz.func52, Tryz.ntmps52
  go_wp2
  go_ret; exact ⟨rfl, HB.out⟩
end Go.Proofs.YtoomlihccniooaaGreat
