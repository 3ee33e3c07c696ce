/- The walk of the reference's Stats. The great seat's numbers. -/
import Derived.Test.YtkmopcanaalemabGreatCg42
namespace Go.Proofs.YtkmopcanaalemabGreat
open Go.RowKit
set_option maxRecDepth 20000 in
set_option maxHeartbeats 2000000 in
theorem rstats_any {w : World} {RT A P ka va ca : Nat} {cb : Nat → Nat} {G : Nat} {t : TS} (h : Rb w RT A P ka va ca cb G t) :
    Calls Tryz.prog 34 #[.pointer (some ⟨RT, 0, none⟩)] w fun e w' => e = .returned (ts t) ∧ Below w.heap.size w w' := by
  have R := R4.made w (.int .i64 0) (.int .i64 0) (.int .i64 0) (.int .i64 0) 90
  have B0 := b1 w (.cells #[.int .i64 0, .int .i64 0, .int .i64 0, .int .i64 0] 90)
  obtain ⟨W0, hW0⟩ : ∃ W0, w.alloc (.cells #[.int .i64 0, .int .i64 0, .int .i64 0, .int .i64 0] 90) = W0 := ⟨_, rfl⟩
  rw [hW0] at R B0
  have h0 := h.below B0
  have c0 := h0.c0
  have c1 := h0.c1
  have c4 := h0.c4
  have s3 := h0.rp.s3
  have CS : ∀ m, Calls Tryz.prog 75 #[.pointer (some ⟨P, 0, none⟩)] (W0.drewN m) fun e w' => e = .returned (.int .i64 (t.p.z : Nat)) ∧ w' = W0.drewN m := fun m => rpsize_any _ (h0.rp.below (bdrew _ _ m))
  have HB : Hid (Below w.heap.size w W0) := B0
  unfold ts sv
  generalize t.hint = hh at *
  generalize t.p.g.f = ff at *
  generalize t.p.n = nn at *
  generalize t.p.z = zz at *
  have r0 := R.c0
  have r1 := R.c1
  have r2 := R.c2
  have r3 := R.c3
  have rf := R.fz
  generalize hsz : w.heap.size = N at *
  have HSZ : Hid (w.heap.size = N) := hsz
  have R2 : Hid _ := R.set (.int .i64 (nn : Nat)) (.int .i64 (zz : Nat)) (.int .i64 (ff : Nat)) (.int .i64 hh)
  have K2 : Hid _ := Keep.set4 (Keep.of (No := fun g => g < N) (HSZ.out.symm ▸ HB.out)) (N := N) (Nat.lt_irrefl _) (.int .i64 (nn : Nat)) (.int .i64 (zz : Nat)) (.int .i64 (ff : Nat)) (.int .i64 hh)
  obtain ⟨W1, hW1⟩ : ∃ W1, set4 W0 N (.int .i64 (nn : Nat)) (.int .i64 (zz : Nat)) (.int .i64 (ff : Nat)) (.int .i64 hh) = W1 := ⟨_, rfl⟩
  rw [hW1] at R2 K2
  unfold set4 at hW1
  clear h h0 B0 R
  go_enter Tryz.func34, Tryz.ntmps34
  go_wp2_with fail
  refine wp_tail 22 (by kernel_rfl) (by kernel_rfl) ?_
  simp only [List.take_succ_cons, List.take_zero, List.drop_succ_cons, List.drop_zero]
  repeat (first | still_step | still_call (CS 1))
  refine wpStill_nil ?_
  go_wp2_with fail
  have R3 := R2.out
  have t0 := R3.c0
  have t1 := R3.c1
  have t2 := R3.c2
  have t3 := R3.c3
  clear R3
  refine bodyPost_ret (v := .agg #[.int .i64 (nn : Nat), .int .i64 (zz : Nat), .int .i64 (ff : Nat), .int .i64 hh]) (by simp [results, Tryz.results34, go_sem, t0, t1, t2, t3]) rfl ⟨rfl, ?_⟩
  exact (K2.out.below (by have := HSZ.out; omega) (fun g hg => hg)).trans (bdrew _ _ 1)
end Go.Proofs.YtkmopcanaalemabGreat

/- The walks of both Hints. The great seat's numbers. -/
namespace Go.Proofs.YtkmopcanaalemabGreat
open Go.RowKit
theorem TT.hint {No : Nat → Prop} {w : World} {T A b a S hb c : Nat} {t : TS} {s : H.St} (h : TT No w T A b a S hb c t s) (r : Int) : TT No (w.setCell ⟨T, 5, none⟩ (.int .i64 r)) T A b a S hb (c + 1) { t with hint := r } s ∧ Keep No w (w.setCell ⟨T, 5, none⟩ (.int .i64 r)) := by
  obtain ⟨vb, hq⟩ := h.hp
  have k : Keep (fun x => x ≠ T) w (w.setCell ⟨T, 5, none⟩ (.int .i64 r)) := (Keep.refl _ w).set (p := ⟨T, 5, none⟩) (fun q => q rfl) _
  have ne : ∀ j, 5 ≠ j → (w.setCell ⟨T, 5, none⟩ (.int .i64 r)).cell? ⟨T, j, none⟩ = w.cell? ⟨T, j, none⟩ := fun j hij => World.cell?_setCell_other _ _ _ _ (fun q => by injection q with _ q2; omega)
  have M := h.tm.pm
  have eA := k.block A M.ltA M.nAB
  have p1 := h.p1
  have p0 := h.p0
  refine ⟨⟨⟨⟨by rw [ne 1 (by omega)]; exact M.c0, by rw [ne 2 (by omega)]; exact M.c1, by rw [ne 3 (by omega)]; exact M.c2, by rw [ne 4 (by omega)]; exact M.c3, M.sl.block eA, fun j => by rw [World.frozen?_of_block (w := w) eA]; exact M.fA j, Nat.lt_of_lt_of_le M.ltA k.size, Nat.lt_of_lt_of_le M.ltB k.size, M.pt.kept k (fun e => M.nBb e.symm) (fun e => M.nBa e.symm), M.nAB, M.nAb, M.nAa, M.nBb, M.nBa⟩,
    by rw [ne 0 (by omega)]; exact h.tm.c0, World.cell?_setCell_same _ _ _ h.tm.c5, by rw [ne 6 (by omega)]; exact h.tm.c6, fun j => by rw [World.frozen?_setCell]; exact h.tm.fz j⟩, ⟨vb, (hq.sets T 5 _ (.inr (.inl rfl))).more (by omega)⟩, h.nT, h.nA, h.nb, h.na, h.ti, h.iv, p0, by show t.pr ≤ _; omega⟩, (Keep.refl No w).set (p := ⟨T, 5, none⟩) h.nT _⟩
def tHint (t : TS) (n : Int) : TS := if 0 ≤ n ∧ n ≤ (t.p.n : Int) then { t with hint := n } else t
end Go.Proofs.YtkmopcanaalemabGreat
