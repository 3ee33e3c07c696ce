/- The walk of the reference's Place. The great seat's numbers. -/
import Derived.Test.YtoomlihccniooaaGreatCg28
namespace Go.Proofs.YtoomlihccniooaaGreat
open Go.RowKit
set_option maxRecDepth 20000 in
set_option maxHeartbeats 4000000 in
theorem rplace8 {No : Nat → Prop} {w : World} {RT A P ka va ca : Nat} {cb : Nat → Nat} {G c : Nat} {t : TS} {s : H.St} (h : RQ No w RT A P ka va ca cb G c t s) (hc : c ≤ 700000) (k : V) (hr : Rng k) :
    Calls Tryz.prog 54 #[.pointer (some ⟨RT, 0, none⟩), vv k] w fun e w' => e = .returned (.int .i64 (plc t.p k)) ∧ RQ No w' RT A P ka va ca cb G (c + 1) { t with pr := t.pr + (prd t.p k : Nat) } s ∧ Keep No w w' := by
  have B0 := b1 w (.cells #[.int .i64 k.1, .int .i64 k.2.1, .string k.2.2] 31)
  have X1 : Bx (w.alloc (.cells #[.int .i64 k.1, .int .i64 k.2.1, .string k.2.2] 31)) w.heap.size k := Bx.made w k
  obtain ⟨W0, hW0⟩ : ∃ W0, w.alloc (.cells #[.int .i64 k.1, .int .i64 k.2.1, .string k.2.2] 31) = W0 := ⟨_, rfl⟩
  rw [hW0] at X1 B0
  have h0 := h.below B0
  have CW := rwithin_any k W0 h0.rb.c0 h0.rb.ltR
  have HKB : Hid (Keep No w W0) := Keep.of B0
  have HX1 : Hid (Bx W0 w.heap.size k) := X1
  have HQ0 : Hid (RQ No W0 RT A P ka va ca cb G c t s) := h0
  have d0 := X1.c0
  have d1 := X1.c1
  have d2 := X1.c2
  have hle := h.ti.le
  have hzz := h.ti.rt.le
  have hp0 := h.p0
  have hp1 := h.p1
  have hrd := prd_le h.ti k
  have HTI : Hid (TI t.p) := h.ti
  clear h B0 X1 h0
  generalize hsz : w.heap.size = N at *
  have HSZ : Hid (w.heap.size = N) := hsz
  by_cases hA : inA t.p.n k
  · rw [decide_eq_true hA] at CW
    have e1 : plc t.p k = k.2.1 := by unfold plc; rw [if_pos hA]
    have e2 : prd t.p k = 0 := by unfold prd; rw [if_pos hA]
    rw [e1, e2]
    unfold vv vl at CW ⊢
    clear hA e1 e2
    go_enter Tryz.func54, Tryz.ntmps54
    go_wp2_with fail
    refine CW.mono ?_; rintro e W1 ⟨rfl, hb1⟩
    have f1 := (HX1.out.below hb1).c1
    have HS : Hid (RQ No W1 RT A P ka va ca cb G (c + 1) { t with pr := t.pr + ((0 : Nat) : Int) } s ∧ Keep No w W1) := by
      refine ⟨?_, HKB.out.trans (Keep.of hb1)⟩
      rw [show t.pr + ((0 : Nat) : Int) = t.pr by omega]
      exact (HQ0.out.below hb1).more (by omega)
    clear hb1 CW
    go_wp2_with fail
    go_ret
    exact ⟨rfl, HS.out⟩
  · rw [decide_eq_false hA] at CW
    have e2 : prd t.p k = (fnd t.p.z t.p.g k).2 := by unfold prd; rw [if_neg hA]
    have HE : Hid (plc t.p k = if fi (fnd t.p.z t.p.g k).1 < 0 then 0 else (t.p.n : Int) + 1 + fi (fnd t.p.z t.p.g k).1) := by
      show _ = _
      unfold plc
      rw [if_neg hA]
      cases (fnd t.p.z t.p.g k).1 with
      | none => rw [if_pos (by decide)]
      | some i => rw [if_neg (by show ¬ ((i : Int) < 0); omega)]; rfl
    have HFl : Hid (fi (fnd t.p.z t.p.g k).1 < 65536) := by
      cases hf : fnd t.p.z t.p.g k with
      | mk o n =>
        cases o with
        | none => show (-1 : Int) < 65536; omega
        | some i => have := (fnd_lt HTI.out.inv HTI.out.rt hr hf).1; show (i : Int) < 65536; omega
    rw [e2] at hrd ⊢
    have HCF : Hid (∀ W, Below W0.heap.size W0 W → Calls Tryz.prog 70 #[.pointer (some ⟨P, 0, none⟩), .agg #[.int .i64 k.1, .int .i64 k.2.1, .string k.2.2]] W fun e w' => e = .returned (.tuple #[.int .i64 (fi (fnd t.p.z t.p.g k).1), .int .i64 ((fnd t.p.z t.p.g k).2 : Nat)]) ∧ Below W.heap.size W w') := fun W q => rfind_any k W (HQ0.out.below q).rb.rp HTI.out.inv HTI.out.rt hr
    generalize (fnd t.p.z t.p.g k).2 = rd at *
    generalize fi (fnd t.p.z t.p.g k).1 = ff at *
    generalize plc t.p k = pc at *
    have hwr : IntKind.i64.wrap (t.pr + (rd : Int)) = t.pr + (rd : Int) := by rw [IntKind.wrap_i64]; omega
    unfold vv vl at CW ⊢
    clear hA e2
    go_enter Tryz.func54, Tryz.ntmps54
    go_wp2_with fail
    refine CW.mono ?_; rintro e W1 ⟨rfl, hb1⟩
    have HQ1 : Hid (RQ No W1 RT A P ka va ca cb G c t s ∧ Keep No w W1) := ⟨HQ0.out.below hb1, HKB.out.trans (Keep.of hb1)⟩
    have x1 := HX1.out.below hb1
    have f0 := x1.c0
    have f1 := x1.c1
    have f2 := x1.c2
    have g1 := HQ1.out.1.rb.c1
    have CF := HCF.out W1.drew (bthen hb1 hb1.size (bdrew1 W1))
    clear x1 hb1 CW HCF
    go_upto_region 3 with fail
    go_cut [5, 6] from 13 to 38 (fun aw rw wx => aw = .int .i64 ff ∧ rw = .int .i64 (rd : Nat) ∧ Hid (RQ No wx RT A P ka va ca cb G c t s ∧ Keep No w wx))
    case first =>
      go_region_with (go_at_call 70; refine CF.mono ?_; rintro e W2 ⟨rfl, hb2⟩; have HQ2 : Hid (RQ No W2 RT A P ka va ca cb G c t s ∧ Keep No w W2) := ⟨(HQ1.out.1.below (bdrew1 W1)).below hb2, (HQ1.out.2.trans (Keep.of (bdrew1 W1))).trans (Keep.of hb2)⟩; clear hb2)
      all_goals
        go_wp2_with fail
        go_meet
        exact ⟨rfl, rfl, HQ2⟩
    case rest =>
      obtain ⟨rfl, rfl, HQ2⟩ := hcut
      clear CF f0 f1 f2 g1
      have c5 := HQ2.out.1.rb.c5
      have z5 := HQ2.out.1.rb.fz
      obtain ⟨s1, s2⟩ := (HQ2.out.1.more (c' := c + 1) (by omega)).probe (t.pr + (rd : Int)) (by omega) (by push_cast; omega)
      obtain ⟨W3, hW3⟩ : ∃ W3, wc.setCell ⟨RT, 5, none⟩ (.int .i64 (t.pr + (rd : Int))) = W3 := ⟨_, rfl⟩
      rw [hW3] at s1 s2
      have HS : Hid (RQ No W3 RT A P ka va ca cb G (c + 1) { t with pr := t.pr + (rd : Int) } s ∧ Keep No w W3) := ⟨s1, HQ2.out.2.trans s2⟩
      have e0 := s1.rb.c0
      clear s1 s2
      by_cases hff : ff < 0
      · have E : Hid (pc = 0) := by rw [if_pos hff] at HE; exact HE
        go_wp2_with fail
        go_ret
        rw [E.out]
        exact ⟨rfl, HS.out⟩
      · have E : Hid (pc = (t.p.n : Int) + 1 + ff) := by rw [if_neg hff] at HE; exact HE
        have hw1 : IntKind.i64.wrap ((t.p.n : Int) + 1) = (t.p.n : Int) + 1 := by rw [IntKind.wrap_i64]; omega
        have hw2 : IntKind.i64.wrap ((t.p.n : Int) + 1 + ff) = (t.p.n : Int) + 1 + ff := by have := HFl.out; rw [IntKind.wrap_i64]; omega
        go_wp2_with fail
        go_ret
        rw [E.out]
        exact ⟨rfl, HS.out⟩
end Go.Proofs.YtoomlihccniooaaGreat

/- The walk of the reference's Stats. The great seat's numbers. -/
namespace Go.Proofs.YtoomlihccniooaaGreat
open Go.RowKit
set_option maxRecDepth 20000 in
set_option maxHeartbeats 2000000 in
theorem rstats_any {w : World} {RT A P ka va ca : Nat} {cb : Nat → Nat} {G : Nat} {t : TS} (h : Rb w RT A P ka va ca cb G t) :
    Calls Tryz.prog 18 #[.pointer (some ⟨RT, 0, none⟩)] w fun e w' => e = .returned (ts t) ∧ Below w.heap.size w w' := by
  have R := R4.made w (.int .i64 0) (.int .i64 0) (.int .i64 0) (.int .i64 0) 43
  have B0 := b1 w (.cells #[.int .i64 0, .int .i64 0, .int .i64 0, .int .i64 0] 43)
  obtain ⟨W0, hW0⟩ : ∃ W0, w.alloc (.cells #[.int .i64 0, .int .i64 0, .int .i64 0, .int .i64 0] 43) = W0 := ⟨_, rfl⟩
  rw [hW0] at R B0
  have h0 := h.below B0
  have c0 := h0.c0
  have c1 := h0.c1
  have c4 := h0.c4
  have s3 := h0.rp.s3
  have CS : ∀ m, Calls Tryz.prog 50 #[.pointer (some ⟨P, 0, none⟩)] (W0.drewN m) fun e w' => e = .returned (.int .i64 (t.p.z : Nat)) ∧ w' = W0.drewN m := fun m => rpsize_any _ (h0.rp.below (bdrew _ _ m))
  have HB : Hid (Below w.heap.size w W0) := B0
  unfold ts sv
  generalize t.hint = hh at *
  generalize t.p.g.f = ff at *
  generalize t.p.n = nn at *
  generalize t.p.z = zz at *
  have r0 := R.c0
  have r1 := R.c1
  have r2 := R.c2
  have r3 := R.c3
  have rf := R.fz
  generalize hsz : w.heap.size = N at *
  have HSZ : Hid (w.heap.size = N) := hsz
  have R2 : Hid _ := R.set (.int .i64 (nn : Nat)) (.int .i64 (zz : Nat)) (.int .i64 (ff : Nat)) (.int .i64 hh)
  have K2 : Hid _ := Keep.set4 (Keep.of (No := fun g => g < N) (HSZ.out.symm ▸ HB.out)) (N := N) (Nat.lt_irrefl _) (.int .i64 (nn : Nat)) (.int .i64 (zz : Nat)) (.int .i64 (ff : Nat)) (.int .i64 hh)
  obtain ⟨W1, hW1⟩ : ∃ W1, set4 W0 N (.int .i64 (nn : Nat)) (.int .i64 (zz : Nat)) (.int .i64 (ff : Nat)) (.int .i64 hh) = W1 := ⟨_, rfl⟩
  rw [hW1] at R2 K2
  unfold set4 at hW1
  clear h h0 B0 R
  go_enter Tryz.func18, Tryz.ntmps18
  go_wp2_with fail
  refine wp_tail 22 (by kernel_rfl) (by kernel_rfl) ?_
  simp only [List.take_succ_cons, List.take_zero, List.drop_succ_cons, List.drop_zero]
  repeat (first | still_step | still_call (CS 1))
  refine wpStill_nil ?_
  go_wp2_with fail
  have R3 := R2.out
  have t0 := R3.c0
  have t1 := R3.c1
  have t2 := R3.c2
  have t3 := R3.c3
  clear R3
  refine bodyPost_ret (v := .agg #[.int .i64 (nn : Nat), .int .i64 (zz : Nat), .int .i64 (ff : Nat), .int .i64 hh]) (by simp [results, Tryz.results18, go_sem, t0, t1, t2, t3]) rfl ⟨rfl, ?_⟩
  exact (K2.out.below (by have := HSZ.out; omega) (fun g hg => hg)).trans (bdrew _ _ 1)
end Go.Proofs.YtoomlihccniooaaGreat

/- The walks of both Hints. The great seat's numbers. -/
namespace Go.Proofs.YtoomlihccniooaaGreat
open Go.RowKit
theorem TT.hint {No : Nat → Prop} {w : World} {T A b a S hb c : Nat} {t : TS} {s : H.St} (h : TT No w T A b a S hb c t s) (r : Int) : TT No (w.setCell ⟨T, 5, none⟩ (.int .i64 r)) T A b a S hb (c + 1) { t with hint := r } s ∧ Keep No w (w.setCell ⟨T, 5, none⟩ (.int .i64 r)) := by
  obtain ⟨vb, hq⟩ := h.hp
  have k : Keep (fun x => x ≠ T) w (w.setCell ⟨T, 5, none⟩ (.int .i64 r)) := (Keep.refl _ w).set (p := ⟨T, 5, none⟩) (fun q => q rfl) _
  have ne : ∀ j, 5 ≠ j → (w.setCell ⟨T, 5, none⟩ (.int .i64 r)).cell? ⟨T, j, none⟩ = w.cell? ⟨T, j, none⟩ := fun j hij => World.cell?_setCell_other _ _ _ _ (fun q => by injection q with _ q2; omega)
  have M := h.tm.pm
  have eA := k.block A M.ltA M.nAB
  have p1 := h.p1
  have p0 := h.p0
  refine ⟨⟨⟨⟨by rw [ne 1 (by omega)]; exact M.c0, by rw [ne 2 (by omega)]; exact M.c1, by rw [ne 3 (by omega)]; exact M.c2, by rw [ne 4 (by omega)]; exact M.c3, M.sl.block eA, fun j => by rw [World.frozen?_of_block (w := w) eA]; exact M.fA j, Nat.lt_of_lt_of_le M.ltA k.size, Nat.lt_of_lt_of_le M.ltB k.size, M.pt.kept k (fun e => M.nBb e.symm) (fun e => M.nBa e.symm), M.nAB, M.nAb, M.nAa, M.nBb, M.nBa⟩,
    by rw [ne 0 (by omega)]; exact h.tm.c0, World.cell?_setCell_same _ _ _ h.tm.c5, by rw [ne 6 (by omega)]; exact h.tm.c6, fun j => by rw [World.frozen?_setCell]; exact h.tm.fz j⟩, ⟨vb, (hq.sets T 5 _ (.inr (.inl rfl))).more (by omega)⟩, h.nT, h.nA, h.nb, h.na, h.ti, h.iv, p0, by show t.pr ≤ _; omega⟩, (Keep.refl No w).set (p := ⟨T, 5, none⟩) h.nT _⟩
def tHint (t : TS) (n : Int) : TS := if 0 ≤ n ∧ n ≤ (t.p.n : Int) then { t with hint := n } else t
set_option maxRecDepth 20000 in
set_option maxHeartbeats 2000000 in
theorem rhint_any {No : Nat → Prop} {w : World} {RT A P ka va ca : Nat} {cb : Nat → Nat} {G c : Nat} {t : TS} {s : H.St} (h : RQ No w RT A P ka va ca cb G c t s) (n : Int) :
    Calls Tryz.prog 16 #[.pointer (some ⟨RT, 0, none⟩), .int .i64 n] w fun e w' => e = .returned (.tuple #[]) ∧ RQ No w' RT A P ka va ca cb G c (tHint t n) s ∧ Keep No w w' := by
  have c0 := h.rb.c0
  have c4 := h.rb.c4
  have fz := h.rb.fz
  have hs := h.struct (sb := t.sb) (nb := t.nb) (hint := n) (pr := t.pr) ((Keep.refl (fun g => g ≠ RT) w).set (p := ⟨RT, 4, none⟩) (fun q => q rfl) (.int .i64 n)) (by simp [World.setCell]) (by rw [cell_ne _ _ _ _ _ (by omega)]; exact h.rb.c0) (by rw [cell_ne _ _ _ _ _ (by omega)]; exact h.rb.c1) (by rw [cell_ne _ _ _ _ _ (by omega)]; exact h.rb.c2) (by rw [cell_ne _ _ _ _ _ (by omega)]; exact h.rb.c3) (World.cell?_setCell_same _ _ _ h.rb.c4) (by rw [cell_ne _ _ _ _ _ (by omega)]; exact h.rb.c5) (by rw [cell_ne _ _ _ _ _ (by omega)]; exact h.rb.c6) (fun j => by simpa using h.rb.fz j) h.p0 h.p1
  have HH : Hid (RQ No w RT A P ka va ca cb G c t s) := h
  have HS : Hid (RQ No (w.setCell ⟨RT, 4, none⟩ (.int .i64 n)) RT A P ka va ca cb G c { t with hint := n } s ∧ Keep No w (w.setCell ⟨RT, 4, none⟩ (.int .i64 n))) := hs
  unfold tHint
  clear h hs
  by_cases h0 : 0 ≤ n
  · by_cases h1 : n ≤ (t.p.n : Int)
    · rw [if_pos ⟨h0, h1⟩]
      have g0 : decide (0 ≤ n) = true := by simp [h0]
      have g1 : decide (n ≤ (t.p.n : Int)) = true := by simp [h1]
      go_enter Tryz.func16, Tryz.ntmps16
      go_wp2_with fail
      go_end0
      exact ⟨rfl, HS.out⟩
    · rw [if_neg (fun q => h1 q.2)]
      have g0 : decide (0 ≤ n) = true := by simp [h0]
      have g1 : decide (n ≤ (t.p.n : Int)) = false := by simp [h1]
      go_enter Tryz.func16, Tryz.ntmps16
      go_wp2_with fail
      go_end0
      exact ⟨rfl, HH.out, Keep.refl _ _⟩
  · rw [if_neg (fun q => h0 q.1)]
    have g0 : decide (0 ≤ n) = false := by simp [h0]
    go_enter Tryz.func16, Tryz.ntmps16
    go_wp2_with fail
    go_end0
    exact ⟨rfl, HH.out, Keep.refl _ _⟩
set_option maxRecDepth 20000 in
set_option maxHeartbeats 2000000 in
theorem hint_any {No : Nat → Prop} {w : World} {T A b a S hb c : Nat} {t : TS} {s : H.St} (h : TT No w T A b a S hb c t s) (n : Int) :
    Calls Tryz.prog 15 #[tp T, .int .i64 n] w fun e w' => e = .returned (.tuple #[]) ∧ TT No w' T A b a S hb (c + 1) (tHint t n) s ∧ Keep No w w' := by
  have c0 : w.cell? ⟨T, 1, none⟩ = some (.slice (some ⟨A, 0, none⟩) t.p.n t.p.n) := h.tm.pm.c0
  have c4 := h.tm.c5
  have fz := h.tm.fz
  have HH : Hid (TT No w T A b a S hb (c + 1) t s) := h.more (by omega)
  have HS : Hid (TT No (w.setCell ⟨T, 5, none⟩ (.int .i64 n)) T A b a S hb (c + 1) { t with hint := n } s ∧ Keep No w (w.setCell ⟨T, 5, none⟩ (.int .i64 n))) := h.hint n
  unfold tHint tp
  clear h
  by_cases h0 : 0 ≤ n
  · by_cases h1 : n ≤ (t.p.n : Int)
    · rw [if_pos ⟨h0, h1⟩]
      have g0 : decide (0 ≤ n) = true := by simp [h0]
      have g1 : decide (n ≤ (t.p.n : Int)) = true := by simp [h1]
      go_enter Tryz.func15, Tryz.ntmps15
      go_wp2_with fail
      go_end0
      exact ⟨rfl, HS.out⟩
    · rw [if_neg (fun q => h1 q.2)]
      have g0 : decide (0 ≤ n) = true := by simp [h0]
      have g1 : decide (n ≤ (t.p.n : Int)) = false := by simp [h1]
      go_enter Tryz.func15, Tryz.ntmps15
      go_wp2_with fail
      go_end0
      exact ⟨rfl, HH.out, Keep.refl _ _⟩
  · rw [if_neg (fun q => h0 q.1)]
    have g0 : decide (0 ≤ n) = false := by simp [h0]
    go_enter Tryz.func15, Tryz.ntmps15
    go_wp2_with fail
    go_end0
    exact ⟨rfl, HH.out, Keep.refl _ _⟩
end Go.Proofs.YtoomlihccniooaaGreat
