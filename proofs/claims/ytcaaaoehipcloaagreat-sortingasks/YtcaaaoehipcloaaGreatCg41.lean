/- The walk of the reference's Set. The great seat's numbers. -/
import Derived.Test.YtcaaaoehipcloaaGreatCg40
import Derived.Test.YtcaaaoehipcloaaGreatCg31
import Derived.Test.YtcaaaoehipcloaaGreatCg36
import Derived.Test.YtcaaaoehipcloaaGreatCg39
namespace Go.Proofs.YtcaaaoehipcloaaGreat
open Go.RowKit

/-- Behind a rehash the store goes well. -/
theorem set_12 {t : TS} {s : H.St} {k v : V} (h : TI t.p) (hk : KOK k) (he : (pset t.p k v).2.2 = 12) (hR : (reh (one t k v) s k).2.2 = 0) : (pset (reh (one t k v) s k).1.p k v).2.2 = 0 := by
  obtain ⟨hA, hv, hv0, hnew, hfull, hg, hp, ha⟩ := h.full hk he
  have h1 : TI (pset t.p k v).1 := h.set ⟨hk.2.2.1, hk.2.2.2⟩ hv
  have ep : (one t k v).p = (pset t.p k v).1 := rfl
  have hA1 : ¬ inA (pset t.p k v).1.n k := by rw [(pset_nz t.p k v).1]; exact hA
  have hnew1 : ∀ i, i < (pset t.p k v).1.z → (pset t.p k v).1.g.K i ≠ k := fun i hi e => by
    have hz := (pset_nz t.p k v).2
    rw [hz] at hi
    have e1 : pset t.p k v = ({ t.p with g := (put t.p.z t.p.g k v).1 }, (put t.p.z t.p.g k v).2.1, (put t.p.z t.p.g k v).2.2) := by unfold pset; rw [if_neg hA]
    have he' : (put t.p.z t.p.g k v).2.2 = 12 := by rw [e1] at he; exact he
    have e2 := (put_12 h.inv h.rt hk he').2.2.2.2.1
    rw [e1] at e
    have e3 : (put t.p.z t.p.g k v).1.K i = k := e
    rw [e2] at e3
    exact hnew i hi e3
  generalize one t k v = u at *
  have e0 : rsE u.p k = 0 := by
    unfold reh at hR
    by_cases q : rsE u.p k = 0
    · exact q
    · rw [if_pos q] at hR; exact absurd hR q
  have e1 : (reh u s k).1.p = fill u.p (fresh (rsA u.p k) (rsZ u.p k)) := by
    unfold reh at hR ⊢
    rw [if_neg (fun q => q e0)] at hR ⊢
    by_cases q : tpE s (rsA u.p k) (rsZ u.p k) = 0
    · rw [if_neg (fun x => x q)]
    · rw [if_pos q] at hR; exact absurd hR q
  rw [← ep] at ha h1 hA1 hnew1
  obtain ⟨_, i1, i2, i3, i4, i5⟩ := h1.behind hk hv hv0 hA1 hnew1 ha e0
  rw [e1]
  exact i5

set_option maxRecDepth 20000 in
set_option maxHeartbeats 4000000 in
theorem rset_any {No : Nat → Prop} {w : World} {RT A P ka va ca : Nat} {cb : Nat → Nat} {G c : Nat} {t : TS} {s : H.St} (h : RQ No w RT A P ka va ca cb G c t s) (hc : c ≤ 700000) (k v : V) (hr : Rng k) :
    Calls Tryz.prog 17 #[.pointer (some ⟨RT, 0, none⟩), vv k, vv v] w fun e w' => e = .returned (.int .i64 (tset t s k v).2.2) ∧ (∃ A' P' ka' va' ca' cb', RQ No w' RT A' P' ka' va' ca' cb' G (c + 7) (tset t s k v).1 (tset t s k v).2.1) ∧ Keep No w w' := by
  have C1 := rcheck_any k.1 k.2.1 k.2.2
  have C2 := rcheck_any v.1 v.2.1 v.2.2
  rw [chk_of] at C1 C2
  have X1 := (Bx.made w k).below (b1 _ (vb v.1 v.2.1 v.2.2))
  have X2 := Bx.made (w.alloc (vb k.1 k.2.1 k.2.2)) v
  have eX : (w.alloc (vb k.1 k.2.1 k.2.2)).heap.size = w.heap.size + 1 := by simp
  rw [eX] at X2
  have B0 := b2 w (vb k.1 k.2.1 k.2.2) (vb v.1 v.2.1 v.2.2)
  obtain ⟨W0, hW0⟩ : ∃ W0, (w.alloc (vb k.1 k.2.1 k.2.2)).alloc (vb v.1 v.2.1 v.2.2) = W0 := ⟨_, rfl⟩
  rw [hW0] at X1 X2 B0
  have d0 := X1.c0
  have d1 := X1.c1
  have d2 := X1.c2
  have HX1 : Hid (Bx W0 w.heap.size k) := X1
  have HX2 : Hid (Bx W0 (w.heap.size + 1) v) := X2
  have HB0 : Hid (Below w.heap.size w W0) := B0
  have HT0 : Hid (RQ No W0 RT A P ka va ca cb G c t s) := h.below B0
  have HTN : Hid (∀ W, Below w.heap.size w W → RQ (fun g => No g ∨ (w.heap.size ≤ g ∧ g < W.heap.size)) W RT A P ka va ca cb G c t s) := fun W hW => h.news hW
  clear X1 X2 B0 eX h
  obtain ⟨R, hR⟩ : ∃ R, tset t s k v = R := ⟨_, rfl⟩
  have HR : Hid (tset t s k v = R) := hR
  rw [hR]
  clear hR
  unfold vb at hW0
  unfold vv vl
  unfold vl vb at C1 C2
  generalize hsz : w.heap.size = N at *
  have hsz2 : (w.alloc (.cells #[.int .i64 k.1, .int .i64 k.2.1, .string k.2.2] 34)).heap.size = N + 1 := by rw [← hsz]; simp
  have HSZ : Hid (w.heap.size = N) := hsz
  have Y1 := HX2.out.below (b1 W0 (.cells #[.int .i64 k.1, .int .i64 k.2.1, .string k.2.2] 34))
  have Z1 := HX1.out.below (b2 W0 (.cells #[.int .i64 k.1, .int .i64 k.2.1, .string k.2.2] 34) (.cells #[.int .i64 v.1, .int .i64 v.2.1, .string v.2.2] 34))
  have Z2 := HX2.out.below (b2 W0 (.cells #[.int .i64 k.1, .int .i64 k.2.1, .string k.2.2] 34) (.cells #[.int .i64 v.1, .int .i64 v.2.1, .string v.2.2] 34))
  have HT1 : Hid (RQ No (W0.alloc (.cells #[.int .i64 k.1, .int .i64 k.2.1, .string k.2.2] 34)) RT A P ka va ca cb G c t s) := HT0.out.below (b1 _ _)
  have HT2 : Hid (RQ No ((W0.alloc (.cells #[.int .i64 k.1, .int .i64 k.2.1, .string k.2.2] 34)).alloc (.cells #[.int .i64 v.1, .int .i64 v.2.1, .string v.2.2] 34)) RT A P ka va ca cb G c t s) := HT0.out.below (b2 _ _ _)
  have HB1 : Hid (Below N w (W0.alloc (.cells #[.int .i64 k.1, .int .i64 k.2.1, .string k.2.2] 34))) := bthen HB0.out (HSZ.out ▸ HB0.out.size) (b1 _ _)
  have HB2 : Hid (Below N w ((W0.alloc (.cells #[.int .i64 k.1, .int .i64 k.2.1, .string k.2.2] 34)).alloc (.cells #[.int .i64 v.1, .int .i64 v.2.1, .string v.2.2] 34))) := bthen HB0.out (HSZ.out ▸ HB0.out.size) (b2 _ _ _)
  obtain ⟨W1, hW1⟩ : ∃ W1, W0.alloc (.cells #[.int .i64 k.1, .int .i64 k.2.1, .string k.2.2] 34) = W1 := ⟨_, rfl⟩
  rw [hW1] at Y1 Z1 Z2 HT1 HT2 HB1 HB2
  obtain ⟨W2, hW2⟩ : ∃ W2, W1.alloc (.cells #[.int .i64 v.1, .int .i64 v.2.1, .string v.2.2] 34) = W2 := ⟨_, rfl⟩
  rw [hW2] at Z1 Z2 HT2 HB2
  have y0 := Y1.c0
  have y1 := Y1.c1
  have y2 := Y1.c2
  have z0 := Z1.c0
  have z1 := Z1.c1
  have z2 := Z1.c2
  have HZ1 : Hid (Bx W2 N k) := Z1
  have HZ2 : Hid (Bx W2 (N + 1) v) := Z2
  clear Y1 Z1 Z2
  by_cases hf1 : fm k = true
  · rw [if_pos hf1] at C1
    by_cases hf2 : fm v = true
    · rw [if_pos hf2] at C2
      by_cases hk0 : k.1 = 0
      · have hkb : (k.1 == 0) = true := by simp [hk0]
        have HRe : Hid (tset t s k v = (t, s, 9)) := by show _ = _; unfold tset; rw [if_neg (by simp [hf1, hf2]), if_pos hk0]
        clear hk0
        go_enter Tryz.func17, Tryz.ntmps17
        go_wp2_with fail
        refine (C1 _).mono ?_; rintro e w' ⟨rfl, rfl⟩
        go_wp2_with fail
        refine (C2 _).mono ?_; rintro e w' ⟨rfl, rfl⟩
        go_wp2_with fail
        go_ret
        rw [← HR.out, HRe.out]
        exact ⟨rfl, ⟨A, P, ka, va, ca, cb, HT2.out.more (by omega)⟩, Keep.of (HSZ.out.symm ▸ HB2.out)⟩
      · have hkb : (k.1 == 0) = false := by simp [hk0]
        have HKO : Hid (KOK k) := ⟨hf1, hk0, hr.1, hr.2⟩
        have HTW : Hid (RQ (fun g => No g ∨ (N ≤ g ∧ g < W2.heap.size)) W2 RT A P ka va ca cb G c t s) := HTN.out W2 HB2.out
        have HNN : Hid (N < W2.heap.size ∧ N + 1 < W2.heap.size) := ⟨HZ1.out.lt, HZ2.out.lt⟩
        obtain ⟨No2, hNo2⟩ : ∃ No2, (fun g => No g ∨ (N ≤ g ∧ g < W2.heap.size)) = No2 := ⟨_, rfl⟩
        have HNo : Hid ((∀ g, No g → No2 g) ∧ No2 N ∧ No2 (N + 1)) := by
          have hl := HNN.out
          subst hNo2
          exact ⟨fun g q => .inl q, .inr ⟨Nat.le_refl _, hl.1⟩, .inr ⟨by omega, hl.2⟩⟩
        rw [hNo2] at HTW
        clear hNo2 HTN
        have CW := rwithin_any k W2 HTW.out.rb.c0 HTW.out.rb.ltR
        have HRe : Hid (tset t s k v = if (pset t.p k v).2.2 ≠ 12 then (one t k v, s, (pset t.p k v).2.2) else if (reh (one t k v) s k).2.2 ≠ 0 then reh (one t k v) s k
            else ({ (reh (one t k v) s k).1 with p := (pset (reh (one t k v) s k).1.p k v).1 }, (reh (one t k v) s k).2.1, (pset (reh (one t k v) s k).1.p k v).2.2)) := by
          show _ = _; unfold tset; rw [if_neg (by simp [hf1, hf2]), if_neg hk0]
        have hle := HTW.out.ti.le
        have HTS : Hid (TI (pset t.p k v).1) := HTW.out.ti.set hr hf2
        have HTI : Hid (TI t.p) := HTW.out.ti
        have HP0 : Hid (0 ≤ t.pr ∧ t.pr ≤ (c : Int) * 65536) := ⟨HTW.out.p0, HTW.out.p1⟩
        unfold vv vl at CW
        clear hk0 HX1 HX2 HB0 HT0 HT1 HT2 HB1
        by_cases hA : inA t.p.n k
        · rw [decide_eq_true hA] at CW
          have hix : ix k < t.p.n := by have := hA.2.2; unfold ix; omega
          have hp : pset t.p k v = ({ t.p with F := upd t.p.F (ix k) v }, 0, 0) := by unfold pset; rw [if_pos hA]
          have Hk1 : Hid (k.2.1 = (ix k : Int) + 1) := by have := hA.2.2; show k.2.1 = (ix k : Int) + 1; unfold ix; omega
          have hwr : IntKind.i64.wrap (k.2.1 - 1) = (ix k : Int) := by have := Hk1.out; rw [IntKind.wrap_i64]; omega
          have HRf : Hid (tset t s k v = ({ t with p := { t.p with F := upd t.p.F (ix k) v } }, s, 0)) := by
            show _ = _; rw [HRe.out, hp, if_pos (show (0 : Int) ≠ 12 by decide)]; unfold one; rw [hp]; simp
          rw [hp] at HTS
          have hixi : (ix k : Int) < (t.p.n : Int) := by omega
          clear hA hp HRe
          go_enter Tryz.func17, Tryz.ntmps17
          go_wp2_with fail
          refine (C1 _).mono ?_; rintro e w' ⟨rfl, rfl⟩
          go_wp2_with fail
          refine (C2 _).mono ?_; rintro e w' ⟨rfl, rfl⟩
          go_wp2_with fail
          refine CW.mono ?_; rintro e W3 ⟨rfl, hb3⟩
          have HQ3 : Hid (RQ No2 W3 RT A P ka va ca cb G c t s) := HTW.out.below hb3
          have x1 := HZ1.out.below hb3
          have x2 := HZ2.out.below hb3
          have e0 := HQ3.out.rb.c0
          have e1 := x1.c1
          have v0 := x2.c0
          have v1 := x2.c1
          have v2 := x2.c2
          obtain ⟨s1, s2⟩ := HQ3.out.slot hix v HTS.out
          obtain ⟨c0', c1', c2'⟩ := HQ3.out.rb.sl.at hix
          have fA := HQ3.out.rb.fA
          have HK3 : Hid (Keep No2 W2 W3) := Keep.of hb3
          obtain ⟨W4, hW4⟩ : ∃ W4, set3i W3 A (ix k) v = W4 := ⟨_, rfl⟩
          rw [hW4] at s1 s2
          have HS : Hid (RQ No2 W4.drew RT A P ka va ca cb G c { t with p := { t.p with F := upd t.p.F (ix k) v } } s ∧ Keep No2 W2 W4.drew) := ⟨s1.below (bdrew1 W4), (HK3.out.trans s2).trans (Keep.of (bdrew1 W4))⟩
          unfold set3i at hW4
          clear s1 s2 x1 x2 hb3 CW HQ3 HTS d0 d1 d2 hW0 hW1 hW2 y0 y1 y2 z0 z1 z2 C1 C2 hsz2
          go_wp2_with fail
          go_region
          all_goals
            go_wp2_with fail
            go_ret
            rw [← HR.out, HRf.out]
            exact ⟨rfl, ⟨A, P, ka, va, ca, cb, (HS.out.1.sub HNo.out.1).more (by omega)⟩, (Keep.of (HSZ.out.symm ▸ HB2.out)).trans (HS.out.2.sub HNo.out.1)⟩
        · rw [decide_eq_false hA] at CW
          have hp : pset t.p k v = ({ t.p with g := (put t.p.z t.p.g k v).1 }, (put t.p.z t.p.g k v).2.1, (put t.p.z t.p.g k v).2.2) := by unfold pset; rw [if_neg hA]
          have HRd : Hid ((pset t.p k v).2.1 ≤ 65536) := pset_rd HTI.out k v
          have HFu : Hid ((pset t.p k v).2.2 = 12 → Ask (pset t.p k v).1 k) := fun e => (HTI.out.full HKO.out e).2.2.2.2.2.2.2
          have HCP : Hid (∀ W, RQ No2 W RT A P ka va ca cb G c t s → Calls Tryz.prog 34 #[.pointer (some ⟨P, 0, none⟩), .agg #[.int .i64 k.1, .int .i64 k.2.1, .string k.2.2], .agg #[.int .i64 v.1, .int .i64 v.2.1, .string v.2.2]] W fun e w' => e = .returned (.tuple #[.int .i64 ((pset t.p k v).2.1 : Nat), .int .i64 (pset t.p k v).2.2]) ∧ (∃ cb', RQ No2 w' RT A P ka va ca cb' G c { t with p := (pset t.p k v).1 } s) ∧ Keep No2 W w') := fun W hW => by
            have h1 := HTS.out
            rw [hp] at h1 ⊢
            exact hW.put k v hr h1
          have HSet : Hid ((pset t.p k v).2.2 = 12 → (reh (one t k v) s k).2.2 = 0 → (pset (reh (one t k v) s k).1.p k v).2.2 = 0) := fun e1 e2 => set_12 HTI.out HKO.out e1 e2
          clear hA hp
          obtain ⟨ps, hps⟩ : ∃ ps, pset t.p k v = ps := ⟨_, rfl⟩
          rw [hps] at HCP HRd HFu HTS HSet
          have HPs : Hid (pset t.p k v = ps) := hps
          clear hps
          go_enter Tryz.func17, Tryz.ntmps17
          go_wp2_with fail
          refine (C1 _).mono ?_; rintro e w' ⟨rfl, rfl⟩
          go_wp2_with fail
          refine (C2 _).mono ?_; rintro e w' ⟨rfl, rfl⟩
          go_wp2_with fail
          refine CW.mono ?_; rintro e W3 ⟨rfl, hb3⟩
          have HQ3 : Hid (RQ No2 W3 RT A P ka va ca cb G c t s) := HTW.out.below hb3
          have x1 := HZ1.out.below hb3
          have x2 := HZ2.out.below hb3
          have e1 := HQ3.out.rb.c1
          have k0 := x1.c0
          have k1 := x1.c1
          have k2 := x1.c2
          have v0 := x2.c0
          have v1 := x2.c1
          have v2 := x2.c2
          have CP := HCP.out W3.drew (HQ3.out.below (bdrew1 W3))
          have HK3 : Hid (Keep No2 W2 W3.drew) := (Keep.of hb3).trans (Keep.of (bdrew1 W3))
          clear x1 x2 hb3 CW HCP HQ3 d0 d1 d2 hW0 hW1 hW2 y0 y1 y2 z0 z1 z2 C1 C2 hsz2
          go_upto_region 8 with fail
          go_cut [7, 8] from 32 to 41 (fun rw ew wx => rw = .int .i64 (ps.2.1 : Nat) ∧ ew = .int .i64 ps.2.2 ∧ Hid ((∃ cb', RQ No2 wx RT A P ka va ca cb' G c { t with p := ps.1 } s) ∧ Keep No2 W2 wx))
          case first =>
            go_region_with (go_at_call 34; refine CP.mono ?_; rintro e W4 ⟨rfl, q1, q2⟩; have HX : Hid ((∃ cb', RQ No2 W4 RT A P ka va ca cb' G c { t with p := ps.1 } s) ∧ Keep No2 W2 W4) := ⟨q1, HK3.out.trans q2⟩; clear q1 q2)
            all_goals
              go_wp2_with fail
              go_meet
              exact ⟨rfl, rfl, HX⟩
          case rest =>
            obtain ⟨rfl, rfl, HX⟩ := hcut
            clear CP e1 k0 k1 k2 v0 v1 v2 HK3
            obtain ⟨cb1, hq5⟩ := HX.out.1
            have p5 := hq5.rb.c5
            have f5 := hq5.rb.fz
            have hrd := HRd.out
            have hp0 := HP0.out
            have hwr : IntKind.i64.wrap (t.pr + (ps.2.1 : Int)) = t.pr + (ps.2.1 : Int) := by rw [IntKind.wrap_i64]; omega
            have HY : Hid _ := (hq5.more (c' := c + 1) (by omega)).probe (t.pr + (ps.2.1 : Int)) (by omega) (by push_cast; omega)
            obtain ⟨W4, hW4⟩ : ∃ W4, wc.setCell ⟨RT, 5, none⟩ (.int .i64 (t.pr + (ps.2.1 : Int))) = W4 := ⟨_, rfl⟩
            have HY4 : Hid (RQ No2 W4 RT A P ka va ca cb1 G (c + 1) (one t k v) s ∧ Keep No2 W2 W4) := by
              have h0 := HY.out
              rw [hW4] at h0
              have e1 : one t k v = { t with p := ps.1, pr := t.pr + (ps.2.1 : Int) } := by unfold one; rw [HPs.out]
              rw [e1]
              exact ⟨h0.1, HX.out.2.trans h0.2⟩
            have q1 := HZ1.out.kept HY4.out.2 HNo.out.2.1
            clear HY hrd hp0 hq5 HX
            by_cases h12 : ps.2.2 = 12
            · have h12b : (ps.2.2 != 12) = false := by simp [h12]
              have CR := rreh_any HY4.out.1 (by omega) k (by have := HFu.out h12; rwa [show (one t k v).p = ps.1 by unfold one; rw [HPs.out]])
              unfold vv vl at CR
              have r0 := q1.c0
              have r1 := q1.c1
              have r2 := q1.c2
              have HRe2 : Hid (tset t s k v = if (reh (one t k v) s k).2.2 ≠ 0 then reh (one t k v) s k
                  else ({ (reh (one t k v) s k).1 with p := (pset (reh (one t k v) s k).1.p k v).1 }, (reh (one t k v) s k).2.1, (pset (reh (one t k v) s k).1.p k v).2.2)) := by
                show _ = _; rw [HRe.out, HPs.out, if_neg (by simp [h12])]
              have HS2 : Hid ((reh (one t k v) s k).2.2 = 0 → (pset (reh (one t k v) s k).1.p k v).2.2 = 0) := HSet.out h12
              clear h12
              go_wp2_with fail
              refine CR.mono ?_; rintro e W5 ⟨rfl, ⟨A5, P5, ka5, va5, ca5, cb5, h5⟩, k5⟩
              have HY5 : Hid (RQ No2 W5 RT A5 P5 ka5 va5 ca5 cb5 G (c + 1 + 6) (reh (one t k v) s k).1 (reh (one t k v) s k).2.1 ∧ Keep No2 W2 W5) := ⟨h5, HY4.out.2.trans k5⟩
              clear CR h5 k5 r0 r1 r2 q1 HSet
              generalize reh (one t k v) s k = rr at *
              by_cases hrr : rr.2.2 = 0
              · have hrb : (rr.2.2 != 0) = false := by simp [hrr]
                have HRe3 : Hid (tset t s k v = ({ rr.1 with p := (pset rr.1.p k v).1 }, rr.2.1, 0)) := by
                  show _ = _; rw [HRe2.out, if_neg (by simpa using hrr), HS2.out hrr]
                have Q1 := HZ1.out.kept HY5.out.2 HNo.out.2.1
                have Q2 := HZ2.out.kept HY5.out.2 HNo.out.2.2
                have r0 := Q1.c0
                have r1 := Q1.c1
                have r2 := Q1.c2
                have s0 := Q2.c0
                have s1 := Q2.c1
                have s2 := Q2.c2
                have CL := rlay_any HY5.out.1 k v hr hf2
                unfold vv vl at CL
                clear Q1 Q2 hrr HS2 HRe2
                go_wp2_with fail
                refine CL.mono ?_; rintro e W6 ⟨rfl, h6, k6⟩
                have HY6 : Hid ((∃ cb', RQ No2 W6 RT A5 P5 ka5 va5 ca5 cb' G (c + 1 + 6) { rr.1 with p := (pset rr.1.p k v).1 } rr.2.1) ∧ Keep No2 W2 W6) := ⟨h6, HY5.out.2.trans k6⟩
                clear CL h6 k6
                go_wp2_with fail
                go_ret
                rw [← HR.out, HRe3.out]
                obtain ⟨⟨cb6, g6⟩, g7⟩ := HY6.out
                exact ⟨rfl, ⟨A5, P5, ka5, va5, ca5, cb6, g6.sub HNo.out.1⟩, (Keep.of (HSZ.out.symm ▸ HB2.out)).trans (g7.sub HNo.out.1)⟩
              · have hrb : (rr.2.2 != 0) = true := by simp [hrr]
                have HRe3 : Hid _ := HRe2.out.trans (if_pos hrr)
                go_wp2_with fail
                go_ret
                rw [← HR.out, HRe3.out]
                exact ⟨rfl, ⟨A5, P5, ka5, va5, ca5, cb5, (HY5.out.1.sub HNo.out.1).more (by omega)⟩, (Keep.of (HSZ.out.symm ▸ HB2.out)).trans (HY5.out.2.sub HNo.out.1)⟩
            · have h12b : (ps.2.2 != 12) = true := by simp [h12]
              have HRe2 : Hid (tset t s k v = (one t k v, s, ps.2.2)) := by show _ = _; rw [HRe.out, HPs.out, if_pos h12]
              go_wp2_with fail
              go_ret
              rw [← HR.out, HRe2.out]
              exact ⟨rfl, ⟨A, P, ka, va, ca, cb1, (HY4.out.1.sub HNo.out.1).more (by omega)⟩, (Keep.of (HSZ.out.symm ▸ HB2.out)).trans (HY4.out.2.sub HNo.out.1)⟩
    · rw [if_neg hf2] at C2
      have HRe : Hid (tset t s k v = (t, s, 2)) := by show _ = _; unfold tset; rw [if_pos (by simp [hf2])]
      go_enter Tryz.func17, Tryz.ntmps17
      go_wp2_with fail
      refine (C1 _).mono ?_; rintro e w' ⟨rfl, rfl⟩
      go_wp2_with fail
      refine (C2 _).mono ?_; rintro e w' ⟨rfl, rfl⟩
      go_wp2_with fail
      go_ret
      rw [← HR.out, HRe.out]
      exact ⟨rfl, ⟨A, P, ka, va, ca, cb, HT2.out.more (by omega)⟩, Keep.of (HSZ.out.symm ▸ HB2.out)⟩
  · rw [if_neg hf1] at C1
    have HRe : Hid (tset t s k v = (t, s, 2)) := by show _ = _; unfold tset; rw [if_pos (by simp [hf1])]
    go_enter Tryz.func17, Tryz.ntmps17
    go_wp2_with fail
    refine (C1 _).mono ?_; rintro e w' ⟨rfl, rfl⟩
    go_wp2_with fail
    go_ret
    rw [← HR.out, HRe.out]
    exact ⟨rfl, ⟨A, P, ka, va, ca, cb, HT1.out.more (by omega)⟩, Keep.of (HSZ.out.symm ▸ HB1.out)⟩
end Go.Proofs.YtcaaaoehipcloaaGreat

/- The walk of the reference's Get. -/
namespace Go.Proofs.YtcaaaoehipcloaaGreat
open Go.RowKit

end Go.Proofs.YtcaaaoehipcloaaGreat

/- The walks of the reference's Places, Stats, Get and Place. The great seat's numbers. -/
namespace Go.Proofs.YtcaaaoehipcloaaGreat
open Go.RowKit
end Go.Proofs.YtcaaaoehipcloaaGreat

/- The walk of the reference's Place. The great seat's numbers. -/
namespace Go.Proofs.YtcaaaoehipcloaaGreat
open Go.RowKit
end Go.Proofs.YtcaaaoehipcloaaGreat

/- The walk of the reference's Stats. The great seat's numbers. -/
namespace Go.Proofs.YtcaaaoehipcloaaGreat
open Go.RowKit
end Go.Proofs.YtcaaaoehipcloaaGreat

/- The walks of both Hints. The great seat's numbers. -/
namespace Go.Proofs.YtcaaaoehipcloaaGreat
open Go.RowKit
theorem TT.hint {No : Nat → Prop} {w : World} {T A b a S hb c : Nat} {t : TS} {s : H.St} (h : TT No w T A b a S hb c t s) (r : Int) : TT No (w.setCell ⟨T, 5, none⟩ (.int .i64 r)) T A b a S hb (c + 1) { t with hint := r } s ∧ Keep No w (w.setCell ⟨T, 5, none⟩ (.int .i64 r)) := by
  obtain ⟨vb, hq⟩ := h.hp
  have k : Keep (fun x => x ≠ T) w (w.setCell ⟨T, 5, none⟩ (.int .i64 r)) := (Keep.refl _ w).set (p := ⟨T, 5, none⟩) (fun q => q rfl) _
  have ne : ∀ j, 5 ≠ j → (w.setCell ⟨T, 5, none⟩ (.int .i64 r)).cell? ⟨T, j, none⟩ = w.cell? ⟨T, j, none⟩ := fun j hij => World.cell?_setCell_other _ _ _ _ (fun q => by injection q with _ q2; omega)
  have M := h.tm.pm
  have eA := k.block A M.ltA M.nAB
  have p1 := h.p1
  have p0 := h.p0
  refine ⟨⟨⟨⟨by rw [ne 1 (by omega)]; exact M.c0, by rw [ne 2 (by omega)]; exact M.c1, by rw [ne 3 (by omega)]; exact M.c2, by rw [ne 4 (by omega)]; exact M.c3, M.sl.block eA, fun j => by rw [World.frozen?_of_block (w := w) eA]; exact M.fA j, Nat.lt_of_lt_of_le M.ltA k.size, Nat.lt_of_lt_of_le M.ltB k.size, M.pt.kept k (fun e => M.nBb e.symm) (fun e => M.nBa e.symm), M.nAB, M.nAb, M.nAa, M.nBb, M.nBa⟩,
    by rw [ne 0 (by omega)]; exact h.tm.c0, World.cell?_setCell_same _ _ _ h.tm.c5, by rw [ne 6 (by omega)]; exact h.tm.c6, fun j => by rw [World.frozen?_setCell]; exact h.tm.fz j⟩, ⟨vb, (hq.sets T 5 _ (.inr (.inl rfl))).more (by omega)⟩, h.nT, h.nA, h.nb, h.na, h.ti, h.iv, p0, by show t.pr ≤ _; omega⟩, (Keep.refl No w).set (p := ⟨T, 5, none⟩) h.nT _⟩
def tHint (t : TS) (n : Int) : TS := if 0 ≤ n ∧ n ≤ (t.p.n : Int) then { t with hint := n } else t
end Go.Proofs.YtcaaaoehipcloaaGreat

/- The walk of Pair, on: among the nodes. -/
namespace Go.Proofs.YtcaaaoehipcloaaGreat
open Go.RowKit

/-- A node's block of its own. -/
structure R7 (w : World) (N : Nat) (k x : V) : Prop where
  c0 : w.cell? ⟨N, 0, none⟩ = some (.int .i64 k.1)
  c1 : w.cell? ⟨N, 1, none⟩ = some (.int .i64 k.2.1)
  c2 : w.cell? ⟨N, 2, none⟩ = some (.string k.2.2)
  c3 : w.cell? ⟨N, 3, none⟩ = some (.int .i64 x.1)
  c4 : w.cell? ⟨N, 4, none⟩ = some (.int .i64 x.2.1)
  c5 : w.cell? ⟨N, 5, none⟩ = some (.string x.2.2)
  c6 : ∃ l : Int, w.cell? ⟨N, 6, none⟩ = some (.int .i64 l)
  fz : ∀ j, w.frozen? ⟨N, j, none⟩ = false
  lt : N < w.heap.size
theorem R7.kept {No : Nat → Prop} {w w' : World} {N : Nat} {k x : V} (h : R7 w N k x) (q : Keep No w w') (hn : No N) : R7 w' N k x := by
  have e := q.block N h.lt hn
  obtain ⟨l, hl⟩ := h.c6
  exact ⟨by rw [World.cell?_of_block (w := w) e]; exact h.c0, by rw [World.cell?_of_block (w := w) e]; exact h.c1, by rw [World.cell?_of_block (w := w) e]; exact h.c2, by rw [World.cell?_of_block (w := w) e]; exact h.c3, by rw [World.cell?_of_block (w := w) e]; exact h.c4, by rw [World.cell?_of_block (w := w) e]; exact h.c5, ⟨l, by rw [World.cell?_of_block (w := w) e]; exact hl⟩, fun j => by rw [World.frozen?_of_block (w := w) e]; exact h.fz j, Nat.lt_of_lt_of_le h.lt q.size⟩
theorem R7.below {w w' : World} {N : Nat} {k x : V} (h : R7 w N k x) (q : Below w.heap.size w w') : R7 w' N k x := h.kept (No := fun _ => True) (Keep.of q) trivial
theorem R7.made (w : World) (k x : V) (l : Int) : R7 (w.alloc (.cells #[.int .i64 k.1, .int .i64 k.2.1, .string k.2.2, .int .i64 x.1, .int .i64 x.2.1, .string x.2.2, .int .i64 l] 98)) w.heap.size k x := by
  have h := (MapKept.heap_alloc w (.cells #[.int .i64 k.1, .int .i64 k.2.1, .string k.2.2, .int .i64 x.1, .int .i64 x.2.1, .string x.2.2, .int .i64 l] 98)).1
  exact ⟨cell_of_row h 0, cell_of_row h 1, cell_of_row h 2, cell_of_row h 3, cell_of_row h 4, cell_of_row h 5, ⟨l, cell_of_row h 6⟩, fun j => new_free w _ _ j, by simp⟩
abbrev set7b (w : World) (N : Nat) (k x : V) (l : Int) : World := ((((((w.setCell ⟨N, 0, none⟩ (.int .i64 k.1)).setCell ⟨N, 1, none⟩ (.int .i64 k.2.1)).setCell ⟨N, 2, none⟩ (.string k.2.2)).setCell ⟨N, 3, none⟩ (.int .i64 x.1)).setCell ⟨N, 4, none⟩ (.int .i64 x.2.1)).setCell ⟨N, 5, none⟩ (.string x.2.2)).setCell ⟨N, 6, none⟩ (.int .i64 l)
theorem R7.set {w : World} {N : Nat} {k0 x0 : V} (h : R7 w N k0 x0) (k x : V) (l : Int) : R7 (set7b w N k x l) N k x := by
  have ne : ∀ (i j : Nat) (W : World) (v : Value), i ≠ j → (W.setCell ⟨N, i, none⟩ v).cell? ⟨N, j, none⟩ = W.cell? ⟨N, j, none⟩ := fun i j W v hij => World.cell?_setCell_other _ _ _ _ (fun q => by injection q with _ q2; omega)
  obtain ⟨l0, h6⟩ := h.c6
  refine ⟨?_, ?_, ?_, ?_, ?_, ?_, ⟨l, ?_⟩, fun j => by simpa using h.fz j, by simpa [World.setCell] using h.lt⟩
  · rw [ne 6 0 _ _ (by omega), ne 5 0 _ _ (by omega), ne 4 0 _ _ (by omega), ne 3 0 _ _ (by omega), ne 2 0 _ _ (by omega), ne 1 0 _ _ (by omega)]; exact World.cell?_setCell_same _ _ _ h.c0
  · rw [ne 6 1 _ _ (by omega), ne 5 1 _ _ (by omega), ne 4 1 _ _ (by omega), ne 3 1 _ _ (by omega), ne 2 1 _ _ (by omega)]; exact World.cell?_setCell_same _ _ _ (by rw [ne 0 1 _ _ (by omega)]; exact h.c1)
  · rw [ne 6 2 _ _ (by omega), ne 5 2 _ _ (by omega), ne 4 2 _ _ (by omega), ne 3 2 _ _ (by omega)]; exact World.cell?_setCell_same _ _ _ (by rw [ne 1 2 _ _ (by omega), ne 0 2 _ _ (by omega)]; exact h.c2)
  · rw [ne 6 3 _ _ (by omega), ne 5 3 _ _ (by omega), ne 4 3 _ _ (by omega)]; exact World.cell?_setCell_same _ _ _ (by rw [ne 2 3 _ _ (by omega), ne 1 3 _ _ (by omega), ne 0 3 _ _ (by omega)]; exact h.c3)
  · rw [ne 6 4 _ _ (by omega), ne 5 4 _ _ (by omega)]; exact World.cell?_setCell_same _ _ _ (by rw [ne 3 4 _ _ (by omega), ne 2 4 _ _ (by omega), ne 1 4 _ _ (by omega), ne 0 4 _ _ (by omega)]; exact h.c4)
  · rw [ne 6 5 _ _ (by omega)]; exact World.cell?_setCell_same _ _ _ (by rw [ne 4 5 _ _ (by omega), ne 3 5 _ _ (by omega), ne 2 5 _ _ (by omega), ne 1 5 _ _ (by omega), ne 0 5 _ _ (by omega)]; exact h.c5)
  · exact World.cell?_setCell_same _ _ _ (by rw [ne 5 6 _ _ (by omega), ne 4 6 _ _ (by omega), ne 3 6 _ _ (by omega), ne 2 6 _ _ (by omega), ne 1 6 _ _ (by omega), ne 0 6 _ _ (by omega)]; exact h6)

/-- Behind At: a node in a block of its own. -/
structure Px (w W : World) (N vx : Nat) (k x : V) : Prop where
  r7 : R7 W vx k x
  r0 : R3 W N nil
  r1 : R3 W (N + 1) nil
  bel : Below N w W
  ge : N + 2 ≤ vx
end Go.Proofs.YtcaaaoehipcloaaGreat

/- The walk of Pair, on: where no place is. The great seat's numbers. -/
namespace Go.Proofs.YtcaaaoehipcloaaGreat
open Go.RowKit

end Go.Proofs.YtcaaaoehipcloaaGreat

/- Both tables in one memory: the program's and the reference's. The great seat's numbers. -/
namespace Go.Proofs.YtcaaaoehipcloaaGreat
open Go.RowKit

/-- Q: blocks that neither table's call touches. -/
structure Bz (Q : Nat → Prop) (w : World) (T S hb RT G c : Nat) (t : TS) (s : H.St) (u : TS) (s' : H.St) : Prop where
  tt : ∃ N1 N2 : Nat → Prop, (∃ A b a, TT N1 w T A b a S hb c t s) ∧ (∃ A P ka va ca cb, RQ N2 w RT A P ka va ca cb G c u s') ∧ (∀ g, g < w.heap.size → N1 g ∨ N2 g) ∧ ∀ g, Q g → N1 g ∧ N2 g
variable {Q : Nat → Prop} {w w' : World} {T S hb RT G c : Nat} {t u : TS} {s s' : H.St}
theorem Bz.more {c' : Nat} (h : Bz Q w T S hb RT G c t s u s') (hc : c ≤ c') : Bz Q w T S hb RT G c' t s u s' := by
  obtain ⟨N1, N2, ⟨A, b, a, h1⟩, ⟨A', P, ka, va, ca, cb, h2⟩, h3, h4⟩ := h.tt
  exact ⟨⟨N1, N2, ⟨A, b, a, h1.more hc⟩, ⟨A', P, ka, va, ca, cb, h2.more hc⟩, h3, h4⟩⟩
theorem Bz.sub {Q' : Nat → Prop} (h : Bz Q w T S hb RT G c t s u s') (hq : ∀ g, Q' g → Q g) : Bz Q' w T S hb RT G c t s u s' := by
  obtain ⟨N1, N2, h1, h2, h3, h4⟩ := h.tt
  exact ⟨⟨N1, N2, h1, h2, h3, fun g q => h4 g (hq g q)⟩⟩
theorem Bz.news (h : Bz Q w T S hb RT G c t s u s') (k : Below w.heap.size w w') : Bz (fun g => Q g ∨ (w.heap.size ≤ g ∧ g < w'.heap.size)) w' T S hb RT G c t s u s' := by
  obtain ⟨N1, N2, ⟨A, b, a, h1⟩, ⟨A', P, ka, va, ca, cb, h2⟩, h3, h4⟩ := h.tt
  refine ⟨⟨_, _, ⟨A, b, a, h1.news k⟩, ⟨A', P, ka, va, ca, cb, h2.news k⟩, fun g q => ?_, fun g q => ?_⟩⟩
  · by_cases hg : g < w.heap.size
    · rcases h3 g hg with r | r
      · exact .inl (.inl r)
      · exact .inr (.inl r)
    · exact .inl (.inr ⟨by omega, q⟩)
  · rcases q with q | q
    · exact ⟨.inl (h4 g q).1, .inl (h4 g q).2⟩
    · exact ⟨.inr q, .inr q⟩
theorem Bz.below (h : Bz Q w T S hb RT G c t s u s') (k : Below w.heap.size w w') : Bz Q w' T S hb RT G c t s u s' := (h.news k).sub (fun _ q => .inl q)
theorem Bz.ti (h : Bz Q w T S hb RT G c t s u s') : TI t.p ∧ TI u.p := by
  obtain ⟨N1, N2, ⟨A, b, a, h1⟩, ⟨A', P, ka, va, ca, cb, h2⟩, h3, h4⟩ := h.tt
  exact ⟨h1.ti, h2.ti⟩
theorem Bz.pr (h : Bz Q w T S hb RT G c t s u s') : 0 ≤ t.pr ∧ t.pr ≤ (c : Int) * 65536 := by
  obtain ⟨N1, N2, ⟨A, b, a, h1⟩, _⟩ := h.tt
  exact ⟨h1.p0, h1.p1⟩
/-- Behind a call of the program's. -/
theorem Bz.prog (h : Bz Q w T S hb RT G c t s u s') {c' : Nat} {t' : TS} {s2 : H.St} (hc : c ≤ c') (hh : ∀ N1, (∃ A b a, TT N1 w T A b a S hb c t s) → (∃ A b a, TT N1 w' T A b a S hb c' t' s2) ∧ Keep N1 w w') : Bz Q w' T S hb RT G c' t' s2 u s' ∧ Keep Q w w' := by
  obtain ⟨N1, N2, h1, ⟨A', P, ka, va, ca, cb, h2⟩, h3, h4⟩ := h.tt
  obtain ⟨h1', kk⟩ := hh N1 h1
  have f2 := h2.frame (w' := w') ⟨kk.os, kk.tape, kk.output, kk.size, fun g hg hn => kk.block g hg ((h3 g hg).resolve_right hn)⟩
  have kQ : Keep Q w w' := kk.sub (fun g q => (h4 g q).1)
  refine ⟨⟨⟨N1, _, h1', ⟨A', P, ka, va, ca, cb, f2.more hc⟩, fun g q => ?_, fun g q => ⟨(h4 g q).1, .inl (h4 g q).2⟩⟩⟩, kQ⟩
  by_cases hg : g < w.heap.size
  · rcases h3 g hg with r | r
    · exact .inl r
    · exact .inr (.inl r)
  · exact .inr (.inr ⟨by omega, q⟩)
/-- Behind a call of the reference's. -/
theorem Bz.refr (h : Bz Q w T S hb RT G c t s u s') {c' : Nat} {u' : TS} {s2 : H.St} (hc : c ≤ c') (hh : ∀ N2, (∃ A P ka va ca cb, RQ N2 w RT A P ka va ca cb G c u s') → (∃ A P ka va ca cb, RQ N2 w' RT A P ka va ca cb G c' u' s2) ∧ Keep N2 w w') : Bz Q w' T S hb RT G c' t s u' s2 ∧ Keep Q w w' := by
  obtain ⟨N1, N2, ⟨A, b, a, h1⟩, h2, h3, h4⟩ := h.tt
  obtain ⟨h2', kk⟩ := hh N2 h2
  have f1 := h1.frame2 (w' := w') kk.os kk.tape kk.output kk.size (fun g hg hn => kk.block g hg ((h3 g hg).resolve_left hn))
  have kQ : Keep Q w w' := kk.sub (fun g q => (h4 g q).2)
  refine ⟨⟨⟨_, N2, ⟨A, b, a, f1.more hc⟩, h2', fun g q => ?_, fun g q => ⟨.inl (h4 g q).1, (h4 g q).2⟩⟩⟩, kQ⟩
  by_cases hg : g < w.heap.size
  · rcases h3 g hg with r | r
    · exact .inl (.inl r)
    · exact .inr r
  · exact .inl (.inr ⟨by omega, q⟩)
theorem Bz.set (h : Bz Q w T S hb RT G c t s u s') (hc : c ≤ 700000) (k v : V) (hr : Rng k) :
    Calls Tryz.prog 6 #[tp T, vv k, vv v] w fun e w' => e = .returned (.int .i64 (tset t s k v).2.2) ∧ Bz Q w' T S hb RT G (c + 7) (tset t s k v).1 (tset t s k v).2.1 u s' ∧ Keep Q w w' := by
  obtain ⟨N1, N2, ⟨A, b, a, h1⟩, h2, h3, h4⟩ := h.tt
  refine (tset_any h1 hc k v hr).mono ?_
  rintro e w' ⟨rfl, h', kk⟩
  obtain ⟨A', P, ka, va, ca, cb, h2⟩ := h2
  have f2 := h2.frame (w' := w') ⟨kk.os, kk.tape, kk.output, kk.size, fun g hg hn => kk.block g hg ((h3 g hg).resolve_right hn)⟩
  refine ⟨rfl, ⟨⟨N1, _, h', ⟨A', P, ka, va, ca, cb, f2.more (by omega)⟩, fun g q => ?_, fun g q => ⟨(h4 g q).1, .inl (h4 g q).2⟩⟩⟩, kk.sub (fun g q => (h4 g q).1)⟩
  by_cases hg : g < w.heap.size
  · rcases h3 g hg with r | r
    · exact .inl r
    · exact .inr (.inl r)
  · exact .inr (.inr ⟨by omega, q⟩)
theorem Bz.rset (h : Bz Q w T S hb RT G c t s u s') (hc : c ≤ 700000) (k v : V) (hr : Rng k) :
    Calls Tryz.prog 17 #[tp RT, vv k, vv v] w fun e w' => e = .returned (.int .i64 (tset u s' k v).2.2) ∧ Bz Q w' T S hb RT G (c + 7) t s (tset u s' k v).1 (tset u s' k v).2.1 ∧ Keep Q w w' := by
  obtain ⟨N1, N2, ⟨A, b, a, h1⟩, ⟨A', P, ka, va, ca, cb, h2⟩, h3, h4⟩ := h.tt
  refine (rset_any h2 hc k v hr).mono ?_
  rintro e w' ⟨rfl, h', kk⟩
  have f1 := h1.frame2 (w' := w') kk.os kk.tape kk.output kk.size (fun g hg hn => kk.block g hg ((h3 g hg).resolve_left hn))
  refine ⟨rfl, ⟨⟨_, N2, ⟨A, b, a, f1.more (by omega)⟩, h', fun g q => ?_, fun g q => ⟨.inl (h4 g q).1, (h4 g q).2⟩⟩⟩, kk.sub (fun g q => (h4 g q).2)⟩
  by_cases hg : g < w.heap.size
  · rcases h3 g hg with r | r
    · exact .inl (.inl r)
    · exact .inr r
  · exact .inl (.inr ⟨by omega, q⟩)
theorem Bz.get (h : Bz Q w T S hb RT G c t s u s') (hc : c ≤ 700000) (k : V) (hr : Rng k) :
    Calls Tryz.prog 9 #[tp T, vv k] w fun e w' => e = .returned (vv (pget t.p k)) ∧ Bz Q w' T S hb RT G (c + 1) { t with pr := t.pr + (prd t.p k : Nat) } s u s' ∧ Keep Q w w' := by
  obtain ⟨N1, N2, ⟨A, b, a, h1⟩, h2, h3, h4⟩ := h.tt
  refine (tget_any h1 (by omega) k hr).mono ?_
  rintro e w' ⟨rfl, h', kk⟩
  obtain ⟨A', P, ka, va, ca, cb, h2⟩ := h2
  have f2 := h2.frame (w' := w') ⟨kk.os, kk.tape, kk.output, kk.size, fun g hg hn => kk.block g hg ((h3 g hg).resolve_right hn)⟩
  refine ⟨rfl, ⟨⟨N1, _, ⟨A, b, a, h'⟩, ⟨A', P, ka, va, ca, cb, f2.more (by omega)⟩, fun g q => ?_, fun g q => ⟨(h4 g q).1, .inl (h4 g q).2⟩⟩⟩, kk.sub (fun g q => (h4 g q).1)⟩
  by_cases hg : g < w.heap.size
  · rcases h3 g hg with r | r
    · exact .inl r
    · exact .inr (.inl r)
  · exact .inr (.inr ⟨by omega, q⟩)
/-- The reference's part: where it lies, and its search. -/
theorem Bz.part (h : Bz Q w T S hb RT G c t s u s') : ∃ P, w.cell? ⟨RT, 1, none⟩ = some (.pointer (some ⟨P, 0, none⟩)) ∧
    ∀ k, Rng k → ∀ W, Below w.heap.size w W → Calls Tryz.prog 56 #[.pointer (some ⟨P, 0, none⟩), .agg #[.int .i64 k.1, .int .i64 k.2.1, .string k.2.2]] W fun e w' => e = .returned (.tuple #[.int .i64 (fi (fnd u.p.z u.p.g k).1), .int .i64 ((fnd u.p.z u.p.g k).2 : Nat)]) ∧ Below W.heap.size W w' := by
  obtain ⟨N1, N2, _, ⟨A', P, ka, va, ca, cb, h2⟩, h3, h4⟩ := h.tt
  exact ⟨P, h2.rb.c1, fun k hr W hW => rfind_any k W (h2.rb.rp.below hW) h2.ti.inv h2.ti.rt hr⟩
/-- Both tables behind begin. -/
theorem Bgn.bz {M A b a RA P ka va ca n z : Nat} (h : Bgn w w' M T A b a S hb RT RA P ka va ca G n z t s) : Bz (fun g => g < w.heap.size) w' T S hb RT G 3 t s t s := by
  obtain ⟨W, hMW, nr⟩ := h.nr
  obtain ⟨wa, wb, rn, hb2, hwa⟩ := nr.part
  have et := h.et
  have ep : t.p = fresh n z := by rw [et]; rfl
  have eh : t.hint = 0 := by rw [et]; rfl
  have er : t.pr = 0 := by rw [et]; rfl
  have rs := rn.rs
  have rp : Rp w' P ka va ca z (g0 z) (fun _ => 0) := rs.rp.below hb2
  have own : ∀ x, Rp.Own P ka va ca z (g0 z) (fun _ => 0) x → x = P ∨ x = ka ∨ x = va ∨ x = ca := fun x q => by
    rcases q with q | q | q | q | ⟨_, _, q, _⟩
    · exact .inl q
    · exact .inr (.inl q)
    · exact .inr (.inr (.inl q))
    · exact .inr (.inr (.inr q))
    · exact absurd rfl q
  have ne := nr.ne
  have ge := nr.ge
  have ge2 := rn.ge
  have rb : Rb w' RT RA P ka va ca (fun _ => 0) G t :=
    ⟨by rw [ep, cell_of_row nr.str]; rfl, by rw [cell_of_row nr.str]; rfl, by rw [cell_of_row nr.str]; rfl, by rw [cell_of_row nr.str]; rfl, by rw [eh, cell_of_row nr.str]; rfl, by rw [er, cell_of_row nr.str]; rfl, by rw [cell_of_row nr.str]; rfl, free_of nr.str, by rw [ep]; exact made_vals nr.arr, free_of nr.arr, (Array.getElem?_eq_some_iff.1 nr.str).1, (Array.getElem?_eq_some_iff.1 nr.arr).1, by rw [ep]; exact rp, ne.1,
      fun x q => by rw [ep] at q; have := own x q; omega, fun x q => by rw [ep] at q; have := own x q; omega⟩
  have own2 : ∀ x, Rb.Own RT RA P ka va ca (fun _ => 0) t x → x = RT ∨ x = RA ∨ x = P ∨ x = ka ∨ x = va ∨ x = ca := fun x q => by
    unfold Rb.Own at q
    rw [ep] at q
    rcases q with q | q | q
    · exact .inl q
    · exact .inr (.inl q)
    · exact .inr (.inr (own x q))
  refine ⟨⟨_, fun g => g < M, ⟨A, b, a, h.tt⟩, ⟨RA, P, ka, va, ca, fun _ => 0, rb, h.rh.sub (fun g q => ?_), fun x q e => ?_, by rw [ep]; exact TI.fr0 h.rt h.en, h.iv, by rw [er]; omega, by rw [er]; omega⟩, fun g q => ?_, fun g q => ⟨.inl q, Nat.lt_of_lt_of_le q h.le⟩⟩⟩
  · rcases q with q | q
    · exact .inl q
    · exact .inr (own2 g q)
  · have := own2 x q
    have e' : x < M := e
    omega
  · by_cases hg : g < M
    · exact .inr hg
    · exact .inl (.inr ⟨by omega, q⟩)
end Go.Proofs.YtcaaaoehipcloaaGreat
