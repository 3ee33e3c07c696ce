/- The walk of Set. -/
import Derived.Test.YtpmmploedkbeoaaGreatDoorCg12
namespace Go.Proofs.YtpmmploedkbeoaaGreatDoor
open Go.RowKit

theorem TT.sub {No No' : Nat → Prop} {w : World} {T A b a S hb c : Nat} {t : TS} {s : H.St} (h : TT No w T A b a S hb c t s) (hn : ∀ g, No' g → No g) : TT No' w T A b a S hb c t s := by
  obtain ⟨vb, hp⟩ := h.hp
  exact ⟨h.tm, ⟨vb, Hp.sub hp (fun g q => q.imp (hn g) id)⟩, fun q => h.nT (hn _ q), fun q => h.nA (hn _ q), fun q => h.nb (hn _ q), fun q => h.na (hn _ q), h.ti, h.iv, h.p0, h.p1⟩
theorem TT.news {No : Nat → Prop} {w w' : World} {T A b a S hb c : Nat} {t : TS} {s : H.St} (h : TT No w T A b a S hb c t s) (k : Below w.heap.size w w') : TT (fun g => No g ∨ (w.heap.size ≤ g ∧ g < w'.heap.size)) w' T A b a S hb c t s := by
  obtain ⟨vb, hp⟩ := h.hp
  have l1 := h.tm.pm.ltA
  have l2 := h.tm.pm.ltB
  have l3 := h.tm.pm.pt.lta
  have l4 := h.tm.pm.pt.ltb
  refine ⟨h.tm.below k, ⟨vb, Hp.sub (Hp.news hp k) (fun g q => ?_)⟩, fun q => q.elim h.nT (by omega), fun q => q.elim h.nA (by omega), fun q => q.elim h.nb (by omega), fun q => q.elim h.na (by omega), h.ti, h.iv, h.p0, h.p1⟩
  rcases q with (q | q) | q
  · exact .inl (.inl q)
  · exact .inr q
  · exact .inl (.inr q)
theorem TT.one {No : Nat → Prop} {w w' : World} {T A b a S hb c : Nat} {t : TS} {s : H.St} (h : TT No w T A b a S hb c t s) {q : Pa} (hp : Pm w' T 1 A b a q t.sb t.nb) (k : Keep (fun x => x ≠ A ∧ x ≠ a ∧ x ≠ b) w w') (ht : TI q) : TT No w' T A b a S hb c { t with p := q } s := by
  obtain ⟨vb, hq⟩ := h.hp
  have e := k.block T h.tm.pm.ltB ⟨fun e => h.tm.pm.nAB e.symm, h.tm.pm.nBa, h.tm.pm.nBb⟩
  exact ⟨⟨hp, by rw [World.cell?_of_block (w := w) e]; exact h.tm.c0, by rw [World.cell?_of_block (w := w) e]; exact h.tm.c5, by rw [World.cell?_of_block (w := w) e]; exact h.tm.c6, fun j => by rw [World.frozen?_of_block (w := w) e]; exact h.tm.fz j⟩,
    ⟨vb, Hp.frame hq k.os k.tape k.output k.size (fun g hg hn => k.block g hg ⟨fun e => hn (.inr (.inr (.inl e))), fun e => hn (.inr (.inr (.inr (.inr e)))), fun e => hn (.inr (.inr (.inr (.inl e))))⟩)⟩, h.nT, h.nA, h.nb, h.na, ht, h.iv, h.p0, h.p1⟩
theorem TT.probe {No : Nat → Prop} {w : World} {T A b a S hb c : Nat} {t : TS} {s : H.St} (h : TT No w T A b a S hb c t s) (r : Int) (hr0 : 0 ≤ r) (hr1 : r ≤ 65536) : TT No (w.setCell ⟨T, 6, none⟩ (.int .i64 (t.pr + r))) T A b a S hb (c + 1) { t with pr := t.pr + r } s ∧ Keep No w (w.setCell ⟨T, 6, none⟩ (.int .i64 (t.pr + r))) := by
  obtain ⟨vb, hq⟩ := h.hp
  have k : Keep (fun x => x ≠ T) w (w.setCell ⟨T, 6, none⟩ (.int .i64 (t.pr + r))) := (Keep.refl _ w).set (p := ⟨T, 6, none⟩) (fun q => q rfl) _
  have ne : ∀ j, 6 ≠ j → (w.setCell ⟨T, 6, none⟩ (.int .i64 (t.pr + r))).cell? ⟨T, j, none⟩ = w.cell? ⟨T, j, none⟩ := fun j hij => World.cell?_setCell_other _ _ _ _ (fun q => by injection q with _ q2; omega)
  have M := h.tm.pm
  have eA := k.block A M.ltA M.nAB
  have p1 := h.p1
  have p0 := h.p0
  refine ⟨⟨⟨⟨by rw [ne 1 (by omega)]; exact M.c0, by rw [ne 2 (by omega)]; exact M.c1, by rw [ne 3 (by omega)]; exact M.c2, by rw [ne 4 (by omega)]; exact M.c3, M.sl.block eA, fun j => by rw [World.frozen?_of_block (w := w) eA]; exact M.fA j, Nat.lt_of_lt_of_le M.ltA k.size, Nat.lt_of_lt_of_le M.ltB k.size, M.pt.kept k (fun e => M.nBb e.symm) (fun e => M.nBa e.symm), M.nAB, M.nAb, M.nAa, M.nBb, M.nBa⟩,
    by rw [ne 0 (by omega)]; exact h.tm.c0, by rw [ne 5 (by omega)]; exact h.tm.c5, World.cell?_setCell_same _ _ _ h.tm.c6, fun j => by rw [World.frozen?_setCell]; exact h.tm.fz j⟩, ⟨vb, (hq.sets T 6 _ (.inr (.inl rfl))).more (by omega)⟩, h.nT, h.nA, h.nb, h.na, h.ti, h.iv, by show 0 ≤ t.pr + r; omega, by show t.pr + r ≤ _; omega⟩, (Keep.refl No w).set (p := ⟨T, 6, none⟩) h.nT _⟩

set_option maxRecDepth 20000 in
set_option maxHeartbeats 4000000 in
theorem tset_any {No : Nat → Prop} {w : World} {T A b a S hb c : Nat} {t : TS} {s : H.St} (h : TT No w T A b a S hb c t s) (hc : c ≤ 700000) (k v : V) (hr : Rng k) :
    Calls Tryz.prog 41 #[.pointer (some ⟨T, 0, none⟩), vv k, vv v] w fun e w' => e = .returned (.int .i64 (tset t s k v).2.2) ∧ (∃ A' b' a', TT No w' T A' b' a' S hb (c + 7) (tset t s k v).1 (tset t s k v).2.1) ∧ Keep No w w' := by
  have C1 := check_any k.1 k.2.1 k.2.2
  have C2 := check_any v.1 v.2.1 v.2.2
  rw [chk_of] at C1 C2
  have X1 := (Bx.made w k).below (b1 _ (vb v.1 v.2.1 v.2.2))
  have X2 := Bx.made (w.alloc (vb k.1 k.2.1 k.2.2)) v
  have eX : (w.alloc (vb k.1 k.2.1 k.2.2)).heap.size = w.heap.size + 1 := by simp
  rw [eX] at X2
  have B0 := b2 w (vb k.1 k.2.1 k.2.2) (vb v.1 v.2.1 v.2.2)
  obtain ⟨W0, hW0⟩ : ∃ W0, (w.alloc (vb k.1 k.2.1 k.2.2)).alloc (vb v.1 v.2.1 v.2.2) = W0 := ⟨_, rfl⟩
  rw [hW0] at X1 X2 B0
  have d0 := X1.c0
  have d1 := X1.c1
  have d2 := X1.c2
  have HX1 : Hid (Bx W0 w.heap.size k) := X1
  have HX2 : Hid (Bx W0 (w.heap.size + 1) v) := X2
  have HB0 : Hid (Below w.heap.size w W0) := B0
  have HT0 : Hid (TT No W0 T A b a S hb c t s) := h.below B0
  have HTN : Hid (∀ W, Below w.heap.size w W → TT (fun g => No g ∨ (w.heap.size ≤ g ∧ g < W.heap.size)) W T A b a S hb c t s) := fun W hW => h.news hW
  have HLt : Hid (T < w.heap.size ∧ A < w.heap.size ∧ b < w.heap.size ∧ a < w.heap.size) := ⟨h.tm.pm.ltB, h.tm.pm.ltA, h.tm.pm.pt.ltb, h.tm.pm.pt.lta⟩
  clear X1 X2 B0 eX h
  obtain ⟨R, hR⟩ : ∃ R, tset t s k v = R := ⟨_, rfl⟩
  have HR : Hid (tset t s k v = R) := hR
  rw [hR]
  clear hR
  unfold vb at hW0
  unfold vv vl
  unfold vl vb at C1 C2
  generalize hsz : w.heap.size = N at *
  have hsz2 : (w.alloc (.cells #[.int .i64 k.1, .int .i64 k.2.1, .string k.2.2] 37)).heap.size = N + 1 := by rw [← hsz]; simp
  have HSZ : Hid (w.heap.size = N) := hsz
  have Y1 := HX2.out.below (b1 W0 (.cells #[.int .i64 k.1, .int .i64 k.2.1, .string k.2.2] 37))
  have Z1 := HX1.out.below (b2 W0 (.cells #[.int .i64 k.1, .int .i64 k.2.1, .string k.2.2] 37) (.cells #[.int .i64 v.1, .int .i64 v.2.1, .string v.2.2] 37))
  have Z2 := HX2.out.below (b2 W0 (.cells #[.int .i64 k.1, .int .i64 k.2.1, .string k.2.2] 37) (.cells #[.int .i64 v.1, .int .i64 v.2.1, .string v.2.2] 37))
  have HT1 : Hid (TT No (W0.alloc (.cells #[.int .i64 k.1, .int .i64 k.2.1, .string k.2.2] 37)) T A b a S hb c t s) := HT0.out.below (b1 _ _)
  have HT2 : Hid (TT No ((W0.alloc (.cells #[.int .i64 k.1, .int .i64 k.2.1, .string k.2.2] 37)).alloc (.cells #[.int .i64 v.1, .int .i64 v.2.1, .string v.2.2] 37)) T A b a S hb c t s) := HT0.out.below (b2 _ _ _)
  have HB1 : Hid (Below N w (W0.alloc (.cells #[.int .i64 k.1, .int .i64 k.2.1, .string k.2.2] 37))) := bthen HB0.out (HSZ.out ▸ HB0.out.size) (b1 _ _)
  have HB2 : Hid (Below N w ((W0.alloc (.cells #[.int .i64 k.1, .int .i64 k.2.1, .string k.2.2] 37)).alloc (.cells #[.int .i64 v.1, .int .i64 v.2.1, .string v.2.2] 37))) := bthen HB0.out (HSZ.out ▸ HB0.out.size) (b2 _ _ _)
  obtain ⟨W1, hW1⟩ : ∃ W1, W0.alloc (.cells #[.int .i64 k.1, .int .i64 k.2.1, .string k.2.2] 37) = W1 := ⟨_, rfl⟩
  rw [hW1] at Y1 Z1 Z2 HT1 HT2 HB1 HB2
  obtain ⟨W2, hW2⟩ : ∃ W2, W1.alloc (.cells #[.int .i64 v.1, .int .i64 v.2.1, .string v.2.2] 37) = W2 := ⟨_, rfl⟩
  rw [hW2] at Z1 Z2 HT2 HB2
  have y0 := Y1.c0
  have y1 := Y1.c1
  have y2 := Y1.c2
  have z0 := Z1.c0
  have z1 := Z1.c1
  have z2 := Z1.c2
  have u0 := Z2.c0
  have u1 := Z2.c1
  have u2 := Z2.c2
  have HZ1 : Hid (Bx W2 N k) := Z1
  have HZ2 : Hid (Bx W2 (N + 1) v) := Z2
  clear Y1 Z1 Z2
  by_cases hf1 : fm k = true
  · rw [if_pos hf1] at C1
    by_cases hf2 : fm v = true
    · rw [if_pos hf2] at C2
      by_cases hk0 : k.1 = 0
      · have hkb : (k.1 == 0) = true := by simp [hk0]
        have HRe : Hid (tset t s k v = (t, s, 9)) := by show _ = _; unfold tset; rw [if_neg (by simp [hf1, hf2]), if_pos hk0]
        clear hk0
        go_enter Tryz.func41, Tryz.ntmps41
        go_wp2_with fail
        refine (C1 _).mono ?_; rintro e w' ⟨rfl, rfl⟩
        go_wp2_with fail
        refine (C2 _).mono ?_; rintro e w' ⟨rfl, rfl⟩
        go_wp2_with fail
        go_ret
        rw [← HR.out, HRe.out]
        exact ⟨rfl, ⟨A, b, a, HT2.out.more (by omega)⟩, Keep.of (HSZ.out.symm ▸ HB2.out)⟩
      · have hkb : (k.1 == 0) = false := by simp [hk0]
        have HKO : Hid (KOK k) := ⟨hf1, hk0, hr.1, hr.2⟩
        have HTW : Hid (TT (fun g => No g ∨ (N ≤ g ∧ g < W2.heap.size)) W2 T A b a S hb c t s) := HTN.out W2 HB2.out
        have HNN : Hid (N < W2.heap.size ∧ N + 1 < W2.heap.size) := ⟨HZ1.out.lt, HZ2.out.lt⟩
        obtain ⟨No2, hNo2⟩ : ∃ No2, (fun g => No g ∨ (N ≤ g ∧ g < W2.heap.size)) = No2 := ⟨_, rfl⟩
        have HNo : Hid ((∀ g, No g → No2 g) ∧ No2 N ∧ No2 (N + 1)) := by
          have hl := HNN.out
          subst hNo2
          exact ⟨fun g q => .inl q, .inr ⟨Nat.le_refl _, hl.1⟩, .inr ⟨by omega, hl.2⟩⟩
        rw [hNo2] at HTW
        clear hNo2 HTN
        have CS := set_any k v W2.drew (HTW.out.tm.pm.below (bdrew1 _)) HTW.out.ti.inv HTW.out.ti.rt hr HTW.out.ti.le
        have HPS : Hid (∀ W', Pm W' T 1 A b a (pset t.p k v).1 t.sb t.nb → Keep (fun x => x ≠ A ∧ x ≠ a ∧ x ≠ b) W2.drew W' → TT No2 W' T A b a S hb c { t with p := (pset t.p k v).1 } s ∧ Keep No2 W2 W') := fun W' hp kk => by
          have kk2 : Keep (fun x => x ≠ A ∧ x ≠ a ∧ x ≠ b) W2 W' := (Keep.of (bdrew1 _)).trans kk
          exact ⟨HTW.out.one hp kk2 (HTW.out.ti.set hr hf2), kk2.sub fun g q => ⟨fun e => HTW.out.nA (e ▸ q), fun e => HTW.out.na (e ▸ q), fun e => HTW.out.nb (e ▸ q)⟩⟩
        have HRd : Hid ((pset t.p k v).2.1 ≤ 65536) := pset_rd HT2.out.ti k v
        have HFu : Hid ((pset t.p k v).2.2 = 12 → Ask (pset t.p k v).1 k) := fun e => (HT2.out.ti.full HKO.out e).2.2.2.2.2.2.2
        have HP0 : Hid (0 ≤ t.pr ∧ t.pr ≤ (c : Int) * 65536) := ⟨HT2.out.p0, HT2.out.p1⟩
        unfold vv vl at CS
        obtain ⟨ps, hps⟩ : ∃ ps, pset t.p k v = ps := ⟨_, rfl⟩
        rw [hps] at CS HPS HRd HFu
        have HPs : Hid (pset t.p k v = ps) := hps
        clear hps
        have HRe : Hid (tset t s k v = if (pset t.p k v).2.2 ≠ 12 then (one t k v, s, (pset t.p k v).2.2) else if (reh (one t k v) s k).2.2 ≠ 0 then reh (one t k v) s k
            else ({ (reh (one t k v) s k).1 with p := (pset (reh (one t k v) s k).1.p k v).1 }, (reh (one t k v) s k).2.1, (pset (reh (one t k v) s k).1.p k v).2.2)) := by
          show _ = _; unfold tset; rw [if_neg (by simp [hf1, hf2]), if_neg hk0]
        clear hk0
        go_enter Tryz.func41, Tryz.ntmps41
        go_wp2_with fail
        refine (C1 _).mono ?_; rintro e w' ⟨rfl, rfl⟩
        go_wp2_with fail
        refine (C2 _).mono ?_; rintro e w' ⟨rfl, rfl⟩
        go_wp2_with fail
        go_cut [7, 8] from 26 to 35 (fun rw ew wx => rw = .int .i64 (ps.2.1 : Nat) ∧ ew = .int .i64 ps.2.2 ∧ Hid (TT No2 wx T A b a S hb c { t with p := ps.1 } s ∧ Keep No2 W2 wx))
        case first =>
          go_region_with (go_at_call 68; refine CS.mono ?_; rintro e w3 ⟨rfl, h3, k3⟩; have HX : Hid (TT No2 w3 T A b a S hb c { t with p := ps.1 } s ∧ Keep No2 W2 w3) := HPS.out w3 h3 k3; clear h3 k3)
          all_goals
            go_wp2_with fail
            go_meet
            exact ⟨rfl, rfl, HX⟩
        case rest =>
          obtain ⟨rfl, rfl, HX⟩ := hcut
          clear CS HPS
          have p6 := HX.out.1.tm.c6
          have f6 := HX.out.1.tm.fz 6
          have hrd := HRd.out
          have hp0 := HP0.out
          have hwr : IntKind.i64.wrap (t.pr + (ps.2.1 : Int)) = t.pr + (ps.2.1 : Int) := by rw [IntKind.wrap_i64]; omega
          have HY : Hid _ := HX.out.1.probe (ps.2.1 : Int) (by omega) (by omega)
          obtain ⟨W4, hW4⟩ : ∃ W4, wc.setCell ⟨T, 6, none⟩ (.int .i64 (t.pr + (ps.2.1 : Int))) = W4 := ⟨_, rfl⟩
          have HY4 : Hid (TT No2 W4 T A b a S hb (c + 1) (one t k v) s ∧ Keep No2 W2 W4) := by
            have h0 := HY.out
            rw [hW4] at h0
            have e1 : one t k v = { t with p := ps.1, pr := t.pr + (ps.2.1 : Int) } := by unfold one; rw [HPs.out]
            rw [e1]
            exact ⟨h0.1, HX.out.2.trans h0.2⟩
          have q1 := HZ1.out.kept HY4.out.2 HNo.out.2.1
          clear HY hrd hp0
          by_cases h12 : ps.2.2 = 12
          · have h12b : (ps.2.2 != 12) = false := by simp [h12]
            have CR := reh_any HY4.out.1 (by omega) k (by have := HFu.out h12; rwa [show (one t k v).p = ps.1 by unfold one; rw [HPs.out]])
            unfold vv vl at CR
            have r0 := q1.c0
            have r1 := q1.c1
            have r2 := q1.c2
            have HRe2 : Hid (tset t s k v = if (reh (one t k v) s k).2.2 ≠ 0 then reh (one t k v) s k
                else ({ (reh (one t k v) s k).1 with p := (pset (reh (one t k v) s k).1.p k v).1 }, (reh (one t k v) s k).2.1, (pset (reh (one t k v) s k).1.p k v).2.2)) := by
              show _ = _; rw [HRe.out, HPs.out, if_neg (by simp [h12])]
            clear h12
            go_wp2_with fail
            refine CR.mono ?_; rintro e W5 ⟨rfl, ⟨A5, b5, a5, h5⟩, k5⟩
            have HY5 : Hid (TT No2 W5 T A5 b5 a5 S hb (c + 1 + 6) (reh (one t k v) s k).1 (reh (one t k v) s k).2.1 ∧ Keep No2 W2 W5) := ⟨h5, HY4.out.2.trans k5⟩
            clear CR h5 k5 r0 r1 r2 q1
            generalize reh (one t k v) s k = rr at *
            by_cases hrr : rr.2.2 = 0
            · have hrb : (rr.2.2 != 0) = false := by simp [hrr]
              have HRe3 : Hid _ := HRe2.out.trans (if_neg (by simpa using hrr))
              have Q1 := HZ1.out.kept HY5.out.2 HNo.out.2.1
              have Q2 := HZ2.out.kept HY5.out.2 HNo.out.2.2
              have r0 := Q1.c0
              have r1 := Q1.c1
              have r2 := Q1.c2
              have s0 := Q2.c0
              have s1 := Q2.c1
              have s2 := Q2.c2
              have CS := set_any k v W5.drew (HY5.out.1.tm.pm.below (bdrew1 _)) HY5.out.1.ti.inv HY5.out.1.ti.rt hr HY5.out.1.ti.le
              unfold vv vl at CS
              clear Q1 Q2 hrr
              go_wp2_with fail
              have HPS : Hid (∀ W', Pm W' T 1 A5 b5 a5 (pset rr.1.p k v).1 rr.1.sb rr.1.nb → Keep (fun x => x ≠ A5 ∧ x ≠ a5 ∧ x ≠ b5) W5.drew W' → TT No2 W' T A5 b5 a5 S hb (c + 1 + 6) { rr.1 with p := (pset rr.1.p k v).1 } rr.2.1 ∧ Keep No2 W2 W') := fun W' hp kk => by
                have kk2 : Keep (fun x => x ≠ A5 ∧ x ≠ a5 ∧ x ≠ b5) W5 W' := (Keep.of (bdrew1 _)).trans kk
                exact ⟨HY5.out.1.one hp kk2 (HY5.out.1.ti.set hr hf2), HY5.out.2.trans (kk2.sub fun g q => ⟨fun e => HY5.out.1.nA (e ▸ q), fun e => HY5.out.1.na (e ▸ q), fun e => HY5.out.1.nb (e ▸ q)⟩)⟩
              generalize pset rr.1.p k v = p2 at *
              go_cut [8] from 52 to 61 (fun ew wx => ew = .int .i64 p2.2.2 ∧ Hid (TT No2 wx T A5 b5 a5 S hb (c + 1 + 6) { rr.1 with p := p2.1 } rr.2.1 ∧ Keep No2 W2 wx))
              case first =>
                go_region_with (go_at_call 68; refine CS.mono ?_; rintro e w8 ⟨rfl, h8, k8⟩; have HX8 : Hid (TT No2 w8 T A5 b5 a5 S hb (c + 1 + 6) { rr.1 with p := p2.1 } rr.2.1 ∧ Keep No2 W2 w8) := HPS.out w8 h8 k8; clear h8 k8)
                all_goals
                  go_wp2_with fail
                  go_meet
                  exact ⟨rfl, HX8⟩
              case rest =>
                obtain ⟨rfl, HX9⟩ := hcut
                clear CS HPS
                go_wp2_with fail
                go_ret
                rw [← HR.out, HRe3.out]
                exact ⟨rfl, ⟨A5, b5, a5, HX9.out.1.sub HNo.out.1⟩, (Keep.of (HSZ.out.symm ▸ HB2.out)).trans (HX9.out.2.sub HNo.out.1)⟩
            · have hrb : (rr.2.2 != 0) = true := by simp [hrr]
              have HRe3 : Hid _ := HRe2.out.trans (if_pos hrr)
              go_wp2_with fail
              go_ret
              rw [← HR.out, HRe3.out]
              exact ⟨rfl, ⟨A5, b5, a5, (HY5.out.1.sub HNo.out.1).more (by omega)⟩, (Keep.of (HSZ.out.symm ▸ HB2.out)).trans (HY5.out.2.sub HNo.out.1)⟩
          · have h12b : (ps.2.2 != 12) = true := by simp [h12]
            have HRe2 : Hid (tset t s k v = (one t k v, s, ps.2.2)) := by show _ = _; rw [HRe.out, HPs.out, if_pos h12]
            go_wp2_with fail
            go_ret
            rw [← HR.out, HRe2.out]
            exact ⟨rfl, ⟨A, b, a, (HY4.out.1.sub HNo.out.1).more (by omega)⟩, (Keep.of (HSZ.out.symm ▸ HB2.out)).trans (HY4.out.2.sub HNo.out.1)⟩
    · rw [if_neg hf2] at C2
      have HRe : Hid (tset t s k v = (t, s, 2)) := by show _ = _; unfold tset; rw [if_pos (by simp [hf2])]
      go_enter Tryz.func41, Tryz.ntmps41
      go_wp2_with fail
      refine (C1 _).mono ?_; rintro e w' ⟨rfl, rfl⟩
      go_wp2_with fail
      refine (C2 _).mono ?_; rintro e w' ⟨rfl, rfl⟩
      go_wp2_with fail
      go_ret
      rw [← HR.out, HRe.out]
      exact ⟨rfl, ⟨A, b, a, HT2.out.more (by omega)⟩, Keep.of (HSZ.out.symm ▸ HB2.out)⟩
  · rw [if_neg hf1] at C1
    have HRe : Hid (tset t s k v = (t, s, 2)) := by show _ = _; unfold tset; rw [if_pos (by simp [hf1])]
    go_enter Tryz.func41, Tryz.ntmps41
    go_wp2_with fail
    refine (C1 _).mono ?_; rintro e w' ⟨rfl, rfl⟩
    go_wp2_with fail
    go_ret
    rw [← HR.out, HRe.out]
    exact ⟨rfl, ⟨A, b, a, HT1.out.more (by omega)⟩, Keep.of (HSZ.out.symm ▸ HB1.out)⟩
end Go.Proofs.YtpmmploedkbeoaaGreatDoor

/- The walk of New. -/
namespace Go.Proofs.YtpmmploedkbeoaaGreatDoor
open Go.RowKit

theorem isPart_any (n : Int) (w : World) : Calls Tryz.prog 98 #[.int .i64 n] w fun e w' => e = .returned (.bool (decide (0 ≤ n ∧ n ≤ 65536))) ∧ w' = w := by
  go_enter Tryz.func98, Tryz.ntmps98
  by_cases h0 : 0 ≤ n
  · by_cases h1 : n ≤ 65536
    · have e : decide (0 ≤ n ∧ n ≤ 65536) = true := by simp [h0, h1]
      rw [e]
      clear e
      go_wp2
      go_ret; exact ⟨by first | rfl | simp_all, rfl⟩
    · have e : decide (0 ≤ n ∧ n ≤ 65536) = false := by simp [h1]
      rw [e]
      clear e
      go_wp2
      go_ret; exact ⟨by first | rfl | simp_all, rfl⟩
  · have e : decide (0 ≤ n ∧ n ≤ 65536) = false := by simp [h0]
    rw [e]
    clear e
    go_wp2
    go_ret; exact ⟨by first | rfl | simp_all, rfl⟩

set_option maxRecDepth 20000 in
set_option maxHeartbeats 2000000 in
theorem new_arg (w : World) (p : Value) (hp : p = .pointer none ∨ ∃ S, p = .pointer (some ⟨S, 0, none⟩)) (x y : Int) (hb : p = .pointer none ∨ ¬ (0 ≤ x ∧ x ≤ 65536) ∨ ¬ (0 ≤ y ∧ y ≤ 65536)) :
    Calls Tryz.prog 62 #[p, .int .i64 x, .int .i64 y] w fun e w' => e = .returned (.tuple #[.pointer none, .int .i64 1]) ∧ w' = w := by
  have C1 := isPart_any x
  have C2 := isPart_any y
  by_cases hn : p = .pointer none
  · subst hn
    go_enter Tryz.func62, Tryz.ntmps62
    go_wp2_with fail
    go_ret2
    exact ⟨rfl, rfl⟩
  · obtain ⟨S, rfl⟩ := hp.resolve_left hn
    replace hb := hb.resolve_left hn
    by_cases h1 : 0 ≤ x ∧ x ≤ 65536
    · have h2 : ¬ (0 ≤ y ∧ y ≤ 65536) := hb.resolve_left (fun q => q h1)
      rw [decide_eq_true h1] at C1
      rw [decide_eq_false h2] at C2
      clear hb hn h1 h2 hp
      go_enter Tryz.func62, Tryz.ntmps62
      go_wp2_with fail
      refine (C1 _).mono ?_; rintro e w' ⟨rfl, rfl⟩
      go_wp2_with fail
      refine (C2 _).mono ?_; rintro e w' ⟨rfl, rfl⟩
      go_wp2_with fail
      go_ret2
      exact ⟨rfl, rfl⟩
    · rw [decide_eq_false h1] at C1
      clear hb hn h1 hp
      go_enter Tryz.func62, Tryz.ntmps62
      go_wp2_with fail
      refine (C1 _).mono ?_; rintro e w' ⟨rfl, rfl⟩
      go_wp2_with fail
      go_ret2
      exact ⟨rfl, rfl⟩

set_option maxRecDepth 20000 in
set_option maxHeartbeats 2000000 in
theorem new_cells {No : Nat → Prop} {w : World} {S hb c : Nat} {vb : Value} {s : H.St} (h : H.Hp No w S hb c vb s) (hc : c ≤ 700000) (iv : H.Inv 0 s) (x y : Nat) (hx : x ≤ 65536) (hy : y ≤ 65536) (he : H.takeE s 4 ≠ 0) :
    Calls Tryz.prog 62 #[.pointer (some ⟨S, 0, none⟩), .int .i64 (x : Nat), .int .i64 (y : Nat)] w fun e w' => e = .returned (.tuple #[.pointer none, .int .i64 (H.takeE s 4)]) ∧ (∃ v', H.Hp No w' S hb (c + 1) v' s) ∧ Keep No w w' := by
  have C1 := isPart_any (x : Nat)
  have C2 := isPart_any (y : Nat)
  rw [decide_eq_true (by omega)] at C1 C2
  have C3 := fun W => C.ceil_any (y : Nat) W (by omega) (by omega)
  have C4 := H.take_any h (by omega) iv.ok 4
  rw [(H.takeSt_bad (.inl he)).1] at C4
  generalize H.takeE s 4 = E at *
  generalize H.takeId s 4 = I at *
  generalize C.up2 (y : Nat) = z at *
  have heb : (E != 0) = true := by simp [he]
  clear h iv he
  go_enter Tryz.func62, Tryz.ntmps62
  go_wp2_with fail
  refine (C1 _).mono ?_; rintro e w' ⟨rfl, rfl⟩
  go_wp2_with fail
  refine (C2 _).mono ?_; rintro e w' ⟨rfl, rfl⟩
  go_wp2_with fail
  refine (C3 _).mono ?_; rintro e w' ⟨rfl, rfl⟩
  go_wp2_with fail
  refine C4.mono ?_; rintro e W1 ⟨rfl, hp, kk⟩
  have HP : Hid _ := hp
  have HK : Hid _ := kk
  clear hp kk
  go_wp2_with fail
  go_ret2
  exact ⟨rfl, HP.out, kh HK.out⟩

/-- takeParts refuses. -/
theorem tp_no {No : Nat → Prop} {w : World} {S hb c : Nat} {vb : Value} {s : H.St} (h : H.Hp No w S hb c vb s) (hc : c ≤ 800000) (iv : H.Inv 0 s) (n z : Nat) (hz : z ≤ 65536) (he : tpE s n z ≠ 0) :
    Calls Tryz.prog 100 #[.pointer (some ⟨S, 0, none⟩), .int .i64 (n : Nat), .int .i64 (z : Nat)] w fun e w' => e = .returned (.tuple #[zp, .int .i64 (tpE s n z)]) ∧ (∃ v', H.Hp No w' S hb (c + 3) v' (tpS s n z)) ∧ Keep No w w' := by
  unfold tpE tpS at *
  by_cases q : H.takeE s (n : Nat) = 0
  · rw [if_neg (by simpa using q)] at he
    rw [if_neg (by simpa using q), if_neg (by simpa using q), if_pos he]
    exact tp_bad2 h (by omega) iv n z hz q he
  · rw [if_pos q, if_pos q]
    refine (tp_bad1 h (by omega) iv n z q).mono ?_
    rintro e w' ⟨rfl, ⟨v', hp'⟩, kk⟩
    exact ⟨rfl, ⟨v', hp'.more (by omega)⟩, kk⟩
theorem tp_inv {s : H.St} {sp : Int} (iv : H.Inv sp s) (n z : Int) : H.Inv sp (tpS s n z) := by
  unfold tpS
  split
  · exact iv
  · split
    · exact (iv.take n).give _
    · exact (iv.take n).take _

set_option maxRecDepth 20000 in
set_option maxHeartbeats 2000000 in
theorem new_parts {No : Nat → Prop} {w : World} {S hb c : Nat} {vb : Value} {s : H.St} (h : H.Hp No w S hb c vb s) (hc : c ≤ 700000) (iv : H.Inv 0 s) (x y z : Nat) (hx : x ≤ 65536) (hy : y ≤ 65536) (hz : C.up2 (y : Nat) = (z : Nat)) (hz2 : z ≤ 65536) (he : H.takeE s 4 = 0) (he2 : tpE (H.takeSt s 4) x z ≠ 0) :
    Calls Tryz.prog 62 #[.pointer (some ⟨S, 0, none⟩), .int .i64 (x : Nat), .int .i64 (y : Nat)] w fun e w' => e = .returned (.tuple #[.pointer none, .int .i64 (tpE (H.takeSt s 4) x z)]) ∧ (∃ v', H.Hp No w' S hb (c + 5) v' (H.giveSt (tpS (H.takeSt s 4) x z) (H.takeId s 4))) ∧ Keep No w w' := by
  have C1 := isPart_any (x : Nat)
  have C2 := isPart_any (y : Nat)
  rw [decide_eq_true (by omega)] at C1 C2
  have C3 := fun W => C.ceil_any (y : Nat) W (by omega) (by omega)
  rw [hz] at C3
  have C4 := H.take_any h (by omega) iv.ok 4
  rw [he] at C4
  have iv2 := iv.take 4
  have C5 := fun W v' (h' : H.Hp No W S hb (c + 1) v' (H.takeSt s 4)) => tp_no h' (by omega) iv2 x z hz2 he2
  have C6 := fun W v' (h' : H.Hp No W S hb (c + 1 + 3) v' (tpS (H.takeSt s 4) x z)) => H.give_any h' (by omega) (tp_inv iv2 x z) (H.takeId s 4)
  generalize tpE (H.takeSt s 4) x z = E at *
  generalize tpS (H.takeSt s 4) x z = s3 at *
  generalize H.takeSt s 4 = s2 at *
  generalize H.takeId s 4 = I at *
  generalize H.giveE s3 I = E3 at *
  have heb : (E != 0) = true := by simp [he2]
  clear h iv he he2 iv2 hz
  unfold zp at C5
  go_enter Tryz.func62, Tryz.ntmps62
  go_wp2_with fail
  refine (C1 _).mono ?_; rintro e w' ⟨rfl, hw'⟩; rw [hw']; clear hw'
  go_wp2_with fail
  refine (C2 _).mono ?_; rintro e w' ⟨rfl, hw'⟩; rw [hw']; clear hw'
  go_wp2_with fail
  refine (C3 _).mono ?_; rintro e w' ⟨rfl, hw'⟩; rw [hw']; clear hw'
  go_wp2_with fail
  refine C4.mono ?_; rintro e W1 ⟨rfl, ⟨v1, hp⟩, kk⟩
  have CC := C5 W1 v1 hp
  have HK1 : Hid (Keep No w W1) := kh kk
  clear hp kk C4 C5
  go_wp2_with fail
  refine CC.mono ?_; rintro e W2 ⟨rfl, ⟨v2, hp⟩, kk⟩
  have CD := C6 (W2.alloc (.cells #[.slice none 0 0, .pointer none, .int .i64 0, .int .i64 0] 128)) v2 (hp.alloc _)
  have HK2 : Hid (Keep No w (W2.alloc (.cells #[.slice none 0 0, .pointer none, .int .i64 0, .int .i64 0] 128))) := (HK1.out.trans kk).alloc _
  clear hp kk CC C6
  go_wp2_with fail
  refine CD.mono ?_; rintro e W3 ⟨rfl, hp, kk⟩
  have HP : Hid _ := hp
  have HK3 : Hid (Keep No w W3) := HK2.out.trans (kh kk)
  clear hp kk CD
  go_wp2_with fail
  go_ret2
  exact ⟨rfl, HP.out, HK3.out⟩

def newT (n z : Nat) (x y : Int) : TS := { p := fresh n z, sb := x, nb := y, hint := 0, pr := 0 }
theorem tk_tt {No : Nat → Prop} {w w' W : World} {S hb c n z Ab b a : Nat} {s : H.St} (k : Tk No w w' S hb c n z Ab b a s) (iv : H.Inv 0 s) (x y : Int) (hn : n ≤ 65536) (hz : Rt z) (hno : ∀ g, No g → g < w.heap.size) (hW : Below w'.heap.size w' W) (T : Nat)
    (hT : W.heap[T]? = some (.cells #[.pointer (some ⟨S, 0, none⟩), .slice (some ⟨Ab, 0, none⟩) n n, .pointer (some ⟨b, 0, none⟩), .int .i64 x, .int .i64 y, .int .i64 0, .int .i64 0] 130)) (hTw : w'.heap.size ≤ T) :
    TT No W T Ab b a S hb c (newT n z x y) s ∧ Keep No w W := by
  obtain ⟨v', hp⟩ := k.hp
  have g := k.ge
  have g1 := k.ltA
  have g2 := k.pt.ltb
  have g3 := k.pt.lta
  have lT : T < W.heap.size := (Array.getElem?_eq_some_iff.1 hT).1
  have eA := hW.block Ab g1
  have g4 := k.keep.size
  refine ⟨⟨⟨⟨cell_of_row hT 1, cell_of_row hT 2, cell_of_row hT 3, cell_of_row hT 4, k.sl.block eA, fun j => by rw [World.frozen?_of_block (w := w') eA]; exact k.fA j, by have := hW.size; omega, lT, k.pt.below hW, by omega, k.nAb, k.nAa, by omega, by omega⟩, cell_of_row hT 0, cell_of_row hT 5, cell_of_row hT 6, fun j => H.free_row hT j⟩,
    ⟨v', Hp.sub (Hp.news hp hW) (fun g q => ?_)⟩, fun q => ?_, fun q => ?_, fun q => ?_, fun q => ?_, TI.fr0 hz hn, iv, Int.le_refl _, by show (0 : Int) ≤ _; omega⟩, k.keep.bel hW⟩
  · rcases q with q | q | q | q | q
    · exact .inl (.inl q)
    · exact .inr (by omega)
    · exact .inl (.inr (.inl q))
    · exact .inl (.inr (.inr (.inl q)))
    · exact .inl (.inr (.inr (.inr q)))
  · have := hno _ q; omega
  · have := hno _ q; omega
  · have := hno _ q; omega
  · have := hno _ q; omega

set_option maxRecDepth 20000 in
set_option maxHeartbeats 2000000 in
theorem new_good {No : Nat → Prop} {w : World} {S hb c : Nat} {vb : Value} {s : H.St} (h : H.Hp No w S hb c vb s) (hc : c ≤ 700000) (iv : H.Inv 0 s) (x y z : Nat) (hx : x ≤ 65536) (hy : y ≤ 65536) (hz : C.up2 (y : Nat) = (z : Nat)) (hz2 : Rt z) (he : H.takeE s 4 = 0) (he2 : tpE (H.takeSt s 4) x z = 0) :
    Calls Tryz.prog 62 #[.pointer (some ⟨S, 0, none⟩), .int .i64 (x : Nat), .int .i64 (y : Nat)] w fun e w' => ∃ T A b a, e = .returned (.tuple #[.pointer (some ⟨T, 0, none⟩), .int .i64 0]) ∧ TT No w' T A b a S hb (c + 3) (newT x z (H.takeId (H.takeSt s 4) (x : Nat)) (H.takeId (H.takeSt (H.takeSt s 4) (x : Nat)) (3 * (z : Nat)))) (tpS (H.takeSt s 4) x z) ∧ Keep No w w' := by
  have C1 := isPart_any (x : Nat)
  have C2 := isPart_any (y : Nat)
  rw [decide_eq_true (by omega)] at C1 C2
  have C3 := fun W => C.ceil_any (y : Nat) W (by omega) (by omega)
  rw [hz] at C3
  have C4 := H.take_any h (by omega) iv.ok 4
  rw [he] at C4
  have iv2 := iv.take 4
  have e1 : H.takeE (H.takeSt s 4) (x : Nat) = 0 := by
    unfold tpE at he2
    by_cases q : H.takeE (H.takeSt s 4) (x : Nat) = 0
    · exact q
    · rw [if_pos q] at he2; exact he2
  have e2 : H.takeE (H.takeSt (H.takeSt s 4) (x : Nat)) (3 * (z : Nat)) = 0 := by unfold tpE at he2; rwa [if_neg (by simpa using e1)] at he2
  have e3 : tpS (H.takeSt s 4) x z = H.takeSt (H.takeSt (H.takeSt s 4) (x : Nat)) (3 * (z : Nat)) := by unfold tpS; rw [if_neg (by simpa using e1), if_neg (by simpa using e2)]
  rw [e3]
  have C5 := fun W v' (h' : H.Hp No W S hb (c + 1) v' (H.takeSt s 4)) => tp_good h' (by omega) iv2 x z hx hz2 e1 e2
  have HIv : Hid (H.Inv 0 (H.takeSt (H.takeSt (H.takeSt s 4) (x : Nat)) (3 * (z : Nat)))) := (iv2.take _).take _
  have HNo : Hid (∀ g, No g → g < w.heap.size) := h.nos
  have HZ : Hid (Rt z) := hz2
  generalize H.takeSt (H.takeSt (H.takeSt s 4) (x : Nat)) (3 * (z : Nat)) = s4 at *
  generalize H.takeId (H.takeSt (H.takeSt s 4) (x : Nat)) (3 * (z : Nat)) = i2 at *
  generalize H.takeId (H.takeSt s 4) (x : Nat) = i1 at *
  generalize H.takeSt s 4 = s2 at *
  generalize H.takeId s 4 = I at *
  clear h iv he he2 iv2 hz e1 e2 e3 hz2
  unfold pv at C5
  go_enter Tryz.func62, Tryz.ntmps62
  go_wp2_with fail
  refine (C1 _).mono ?_; rintro e w' ⟨rfl, hw'⟩; rw [hw']; clear hw'
  go_wp2_with fail
  refine (C2 _).mono ?_; rintro e w' ⟨rfl, hw'⟩; rw [hw']; clear hw'
  go_wp2_with fail
  refine (C3 _).mono ?_; rintro e w' ⟨rfl, hw'⟩; rw [hw']; clear hw'
  go_wp2_with fail
  refine C4.mono ?_; rintro e W1 ⟨rfl, ⟨v1, hp⟩, kk⟩
  have CC := C5 W1 v1 hp
  have HK1 : Hid (Keep No w W1) := kh kk
  clear hp kk C4 C5
  go_wp2_with fail
  refine CC.mono ?_; rintro e W2 ⟨Ab, b, a, rfl, k2⟩
  have HK2 : Hid _ := k2
  clear CC k2
  go_wp2_with fail
  go_ret2
  obtain ⟨h1, h2⟩ := tk_tt HK2.out HIv.out i1 i2 hx HZ.out (fun g q => Nat.lt_of_lt_of_le (HNo.out g q) HK1.out.size) (b2 _ _ _) (W2.heap.size + 1) (by
    have := (MapKept.heap_alloc (W2.alloc (.cells #[.slice (some ⟨Ab, 0, none⟩) x x, .pointer (some ⟨b, 0, none⟩), .int .i64 i1, .int .i64 i2] 128)) (.cells #[.pointer (some ⟨S, 0, none⟩), .slice (some ⟨Ab, 0, none⟩) x x, .pointer (some ⟨b, 0, none⟩), .int .i64 i1, .int .i64 i2, .int .i64 0, .int .i64 0] 130)).1
    simpa using this) (by omega)
  exact ⟨_, Ab, b, a, rfl, h1, HK1.out.trans h2⟩
end Go.Proofs.YtpmmploedkbeoaaGreatDoor
