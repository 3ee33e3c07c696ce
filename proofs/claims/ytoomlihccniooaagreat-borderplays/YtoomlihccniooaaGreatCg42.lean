/- The walk of BorderPlays. -/
import Derived.Test.YtoomlihccniooaaGreatCg39
import Derived.Test.YtoomlihccniooaaGreatCg41
import Derived.Deep.RegionHeld3
namespace Go.Proofs.YtoomlihccniooaaGreat
open Go.RowKit

/-- An operation in a box. -/
structure O8 (w : World) (N : Nat) (d : Int) (k v : V) (m : Int) : Prop where
  c0 : w.cell? ⟨N, 0, none⟩ = some (.int .i64 d)
  c1 : w.cell? ⟨N, 1, none⟩ = some (.int .i64 k.1)
  c2 : w.cell? ⟨N, 2, none⟩ = some (.int .i64 k.2.1)
  c3 : w.cell? ⟨N, 3, none⟩ = some (.string k.2.2)
  c4 : w.cell? ⟨N, 4, none⟩ = some (.int .i64 v.1)
  c5 : w.cell? ⟨N, 5, none⟩ = some (.int .i64 v.2.1)
  c6 : w.cell? ⟨N, 6, none⟩ = some (.string v.2.2)
  c7 : w.cell? ⟨N, 7, none⟩ = some (.int .i64 m)
  lt : N < w.heap.size
theorem O8.kept {No : Nat → Prop} {w w' : World} {N : Nat} {d : Int} {k v : V} {m : Int} (h : O8 w N d k v m) (q : Keep No w w') (hn : No N) : O8 w' N d k v m := by
  have e := q.block N h.lt hn
  exact ⟨by rw [World.cell?_of_block (w := w) e]; exact h.c0, by rw [World.cell?_of_block (w := w) e]; exact h.c1, by rw [World.cell?_of_block (w := w) e]; exact h.c2, by rw [World.cell?_of_block (w := w) e]; exact h.c3, by rw [World.cell?_of_block (w := w) e]; exact h.c4, by rw [World.cell?_of_block (w := w) e]; exact h.c5, by rw [World.cell?_of_block (w := w) e]; exact h.c6, by rw [World.cell?_of_block (w := w) e]; exact h.c7, Nat.lt_of_lt_of_le h.lt q.size⟩
theorem O8.made (w : World) (d : Int) (k v : V) (m : Int) : O8 (w.alloc (.cells #[.int .i64 d, .int .i64 k.1, .int .i64 k.2.1, .string k.2.2, .int .i64 v.1, .int .i64 v.2.1, .string v.2.2, .int .i64 m] 33)) w.heap.size d k v m := by
  have e := (MapKept.heap_alloc w (.cells #[.int .i64 d, .int .i64 k.1, .int .i64 k.2.1, .string k.2.2, .int .i64 v.1, .int .i64 v.2.1, .string v.2.2, .int .i64 m] 33)).1
  exact ⟨by rw [cell_of_row e]; rfl, by rw [cell_of_row e]; rfl, by rw [cell_of_row e]; rfl, by rw [cell_of_row e]; rfl, by rw [cell_of_row e]; rfl, by rw [cell_of_row e]; rfl, by rw [cell_of_row e]; rfl, by rw [cell_of_row e]; rfl, by simp⟩

set_option maxRecDepth 100000 in
set_option maxHeartbeats 16000000 in
theorem bplays_walk (x y : Int) (a : Option Addr) (L cap : Nat) (W : World) (Q : Nat → Int × V × V × Int) (hO : Ops W.heap.size W a L Q) :
    Calls Tryz.prog 3 #[cw x y (.slice a L cap)] W fun e w' => e = .returned (.bool true) ∧ Below W.heap.size W w' := by
  have B0 := b1 W (.cells #[.int .i64 x, .int .i64 y, .slice a L cap] 24)
  have e0 := (MapKept.heap_alloc W (.cells #[.int .i64 x, .int .i64 y, .slice a L cap] 24)).1
  obtain ⟨W0, hW0⟩ : ∃ W0, W.alloc (.cells #[.int .i64 x, .int .i64 y, .slice a L cap] 24) = W0 := ⟨_, rfl⟩
  rw [hW0] at B0 e0
  obtain ⟨X, hX⟩ : ∃ X, W.heap.size = X := ⟨_, rfl⟩
  rw [hX] at B0 e0 hO
  have HX : Hid (W.heap.size = X) := hX
  have C1 := fixed_any W0
  have hl0 : X < W0.heap.size := (Array.getElem?_eq_some_iff.1 e0).1
  have HO : Hid (∀ w', Below X W w' → Ops X w' a L Q) := fun w' k => hO.below k
  have HB0 : Hid (Below X W W0) := B0
  have HF : Hid (∀ W1, Below W0.heap.size W0 W1 → X < W1.heap.size ∧ W1.heap[X]? = some (.cells #[.int .i64 x, .int .i64 y, .slice a L cap] 24)) := fun W1 k => ⟨Nat.lt_of_lt_of_le hl0 k.size, (k.block X hl0).trans e0⟩
  have HN : Hid (X ≤ W0.heap.size) := Nat.le_of_lt hl0
  clear B0 hO e0 hl0
  unfold cw
  go_enter Tryz.func3, Tryz.ntmps3
  go_wp2_with fail
  refine C1.mono ?_; rintro e W1 ⟨rfl, k1⟩
  obtain ⟨hl1, e1⟩ := HF.out W1 k1
  have y0 : W1.cell? ⟨X, 0, none⟩ = some (.int .i64 x) := cell_of_row e1 0
  have y1 : W1.cell? ⟨X, 1, none⟩ = some (.int .i64 y) := cell_of_row e1 1
  have y2 : W1.cell? ⟨X, 2, none⟩ = some (.slice a L cap) := cell_of_row e1 2
  have C2 := begin9_any x y (.slice a L cap) W1
  have HB1 : Hid (Below X W W1) := bthen HB0.out HN.out k1
  unfold cw tp at C2
  have HE1 : Hid (W1.heap[X]? = some (.cells #[.int .i64 x, .int .i64 y, .slice a L cap] 24) ∧ X < W1.heap.size) := ⟨e1, hl1⟩
  clear C1 k1 e1 hl1 hW0
  go_wp2_with fail
  refine C2.mono ?_; rintro e W2 ⟨T, S, hb, RT, G, t0, s0, rfl, bz, bw, hint0, _⟩
  obtain ⟨Q0, hQ0⟩ : ∃ Q0, (fun g => g < W1.heap.size) = Q0 := ⟨_, rfl⟩
  have HQ0 : Hid (Q0 X ∧ ∀ g, g < X → Q0 g) := by rw [← hQ0]; exact ⟨HE1.out.2, fun g q => Nat.lt_trans q HE1.out.2⟩
  rw [hQ0] at bz
  have H0 : Hid (∃ t s, Bz Q0 W2 T S hb RT G 3 t s t s ∧ (0 ≤ t.hint ∧ t.hint ≤ (t.p.n : Int)) ∧ Keep Q0 W1 W2) := ⟨t0, s0, bz, by rw [hint0]; omega, Keep.of bw⟩
  have HC : Hid (∀ w, Keep Q0 W1 w → w.cell? ⟨X, 2, none⟩ = some (.slice a L cap) ∧ Below X W w) := fun w kk =>
    ⟨by rw [World.cell?_of_block (w := W1) (kk.block X HE1.out.2 HQ0.out.1)]; exact cell_of_row HE1.out.1 2, HB1.out.trans (kk.below (Nat.le_of_lt HE1.out.2) (fun g hg => HQ0.out.2 g hg))⟩
  clear C2 bz bw hint0 hQ0 y0 y1 y2
  have NE := fun x y u v => neq42 x y u v x y u v
  have EQ := fun x y u v => eql42 x y u v x y u v
  simp only [decide_true, and_self, Bool.not_true] at NE EQ
  unfold sv at NE EQ
  go_wp2_with fail
  go_loopw [6] (fun iw wr => ∃ k : Nat, iw = .int .i64 (k : Nat) ∧ k ≤ L ∧ k ≤ 300 ∧ Hid (∃ t s, Bz Q0 wr T S hb RT G (3 + 300 * k) t s t s ∧ (0 ≤ t.hint ∧ t.hint ≤ (t.p.n : Int)) ∧ Keep Q0 W1 wr)) (fun iw _ => 300 - (intOf iw).toNat)
  case atStart => exact ⟨0, rfl, by omega, by omega, H0⟩
  case round =>
    obtain ⟨k, rfl, hkL, hk3, HG⟩ := hrel
    obtain ⟨t, s, hM, hH, hK⟩ := HG.out
    clear HG H0
    obtain ⟨xc, xb⟩ := HC.out wr hK
    have HFin : Hid (∀ w, Below wr.heap.size wr w → Below X W w) := fun w hw => (HC.out w (hK.trans (Keep.of hw))).2
    by_cases hlt : k < L ∧ k < 300
    · obtain ⟨hlt, h300⟩ := hlt
      have hlt' : (k : Int) < (L : Int) := by omega
      have h300' : (k : Int) < 300 := by omega
      have hk0 : ¬ ((k : Int) < 0) := by omega
      obtain ⟨lb, off, ha, hlb, o0, o1, o2, o3, o4, o5, o6, o7⟩ := (HO.out wr xb).at hlt
      subst ha
      have HRk : Hid (Rng (Q k).2.1 ∧ -9223372036854775808 ≤ (Q k).2.2.2 ∧ (Q k).2.2.2 ≤ (9223372036854775807 : Int)) := (HO.out W (Below.refl _ _)).1 k hlt
      generalize (Q k).1 = d at *
      generalize (Q k).2.1 = kk at *
      generalize (Q k).2.2.1 = v0 at *
      generalize (Q k).2.2.2 = m at *
      have Ba := b1 wr (.cells #[.int .i64 d, .int .i64 kk.1, .int .i64 kk.2.1, .string kk.2.2, .int .i64 v0.1, .int .i64 v0.2.1, .string v0.2.2, .int .i64 m] 33)
      have Oa := O8.made wr d kk v0 m
      obtain ⟨wa, hwa⟩ : ∃ wa, wr.alloc (.cells #[.int .i64 d, .int .i64 kk.1, .int .i64 kk.2.1, .string kk.2.2, .int .i64 v0.1, .int .i64 v0.2.1, .string v0.2.2, .int .i64 m] 33) = wa := ⟨_, rfl⟩
      rw [hwa] at Ba Oa
      have ha1 := hM.news Ba
      have hlta := Oa.lt
      obtain ⟨Q1, hQ1⟩ : ∃ Q1, (fun g => Q0 g ∨ (wr.heap.size ≤ g ∧ g < wa.heap.size)) = Q1 := ⟨_, rfl⟩
      have HQ1 : Hid ((∀ g, Q0 g → Q1 g) ∧ Q1 wr.heap.size) := by rw [← hQ1]; exact ⟨fun g q => .inl q, .inr ⟨Nat.le_refl _, hlta⟩⟩
      rw [hQ1] at ha1
      have HKa : Hid (Keep Q0 W1 wa) := hK.trans (Keep.of Ba)
      have HM : Hid (Bz Q1 wa T S hb RT G (3 + 300 * k) t s t s ∧ (0 ≤ t.hint ∧ t.hint ≤ (t.p.n : Int))) := ⟨ha1, hH⟩
      have HOx : Hid (∀ w', Keep Q1 wa w' → O8 w' wr.heap.size d kk v0 m) := fun w' q => Oa.kept q HQ1.out.2
      have p0 := Oa.c0
      have hc6 : 3 + 300 * k ≤ 100000 := by omega
      generalize hob : wr.heap.size = ob at *
      clear hM hH hK xb Ba Oa ha1 hlta hQ1 HFin HC HO hlb
      by_cases c1 : d = 1
      · have g1 : (d == 1) = true := by simp [c1]
        have p := HOx.out wa (Keep.refl _ _)
        have p1 := p.c1
        have p2 := p.c2
        have p3 := p.c3
        have p4 := p.c4
        have p5 := p.c5
        have p6 := p.c6
        have CS := HM.out.1.set (by omega) kk v0 HRk.out.1
        unfold vv vl tp at CS
        clear c1 p
        go_wp2_with fail
        refine CS.mono ?_; rintro e w5 ⟨rfl, h5, k5⟩
        have HK5 : Hid (Keep Q1 wa w5) := k5
        have p := HOx.out w5 k5
        have p1 := p.c1
        have p2 := p.c2
        have p3 := p.c3
        have p4 := p.c4
        have p5 := p.c5
        have p6 := p.c6
        have CR := h5.rset (by omega) kk v0 HRk.out.1
        unfold vv vl tp at CR
        clear CS h5 k5 p
        go_wp2_with fail
        refine CR.mono ?_; rintro e w6 ⟨rfl, h6, k6⟩
        obtain ⟨tz, htz⟩ : ∃ tz, (tset t s kk v0).1 = tz := ⟨_, rfl⟩
        obtain ⟨sz2, hsz2⟩ : ∃ sz2, (tset t s kk v0).2.1 = sz2 := ⟨_, rfl⟩
        have hth := tset_hint (s := s) kk v0 HM.out.2
        rw [htz] at h6 hth
        rw [hsz2] at h6
        have HZ : Hid (Bz Q1 w6 T S hb RT G (3 + 300 * k + 7 + 7) tz sz2 tz sz2 ∧ (0 ≤ tz.hint ∧ tz.hint ≤ (tz.p.n : Int)) ∧ Keep Q1 wa w6) := ⟨h6, hth, HK5.out.trans k6⟩
        clear CR h6 k6 htz hsz2 hth HM HOx HK5
        obtain ⟨XX, Fw9, F1w, F2w⟩ := class_of w6
        have HCc : Hid (∃ x, World.drew w6 = Fw9 x) := F2w _ (bdrew1 w6)
        have hSt : ∀ x, Calls Tryz.prog 17 #[.pointer (some ⟨T, 0, none⟩)] (Fw9 x) fun e w'' => e = .returned (.agg #[.int .i64 (tz.p.n : Nat), .int .i64 (tz.p.z : Nat), .int .i64 (tz.p.g.f : Nat), .int .i64 tz.hint]) ∧ ∃ y, w'' = Fw9 y := fun x => ((HZ.out.1.below (F1w x)).stats).mono fun e w' hh => ⟨hh.1, F2w _ (bthen (F1w x) (F1w x).size hh.2)⟩
        have hRs : ∀ x, Calls Tryz.prog 18 #[.pointer (some ⟨RT, 0, none⟩)] (Fw9 x) fun e w'' => e = .returned (.agg #[.int .i64 (tz.p.n : Nat), .int .i64 (tz.p.z : Nat), .int .i64 (tz.p.g.f : Nat), .int .i64 tz.hint]) ∧ ∃ y, w'' = Fw9 y := fun x => ((HZ.out.1.below (F1w x)).rstats).mono fun e w' hh => ⟨hh.1, F2w _ (bthen (F1w x) (F1w x).size hh.2)⟩
        have hPr : ∀ x, Calls Tryz.prog 19 #[.pointer (some ⟨T, 0, none⟩)] (Fw9 x) fun e w'' => e = .returned (.int .i64 tz.pr) ∧ ∃ y, w'' = Fw9 y := fun x => ((HZ.out.1.below (F1w x)).probes).mono fun e w' hh => ⟨hh.1, x, hh.2⟩
        have q5 : ∀ x, (Fw9 x).cell? ⟨RT, 5, none⟩ = some (.int .i64 tz.pr) := fun x => (HZ.out.1.below (F1w x)).cells.1
        have HRel : Hid (∀ x, ∃ t s, Bz Q0 (Fw9 x) T S hb RT G (3 + 300 * (k + 1)) t s t s ∧ (0 ≤ t.hint ∧ t.hint ≤ (t.p.n : Int)) ∧ Keep Q0 W1 (Fw9 x)) := fun x => ⟨tz, sz2, ((HZ.out.1.below (F1w x)).sub HQ1.out.1).more (by omega), HZ.out.2.1, (HKa.out.trans (HZ.out.2.2.sub HQ1.out.1)).trans (Keep.of (F1w x))⟩
        clear F1w F2w HZ
        generalize tz.pr = p9 at *
        generalize tz.hint = h9 at *
        generalize tz.p.g.f = f9 at *
        generalize tz.p.z = z9 at *
        generalize tz.p.n = n9 at *
        go_wp2_with fail
        haveI : Nonempty XX := HCc.out.elim fun x _ => ⟨x⟩
        refine wp_class (F := Fw9) (by kernel_rfl) (by kernel_rfl) HCc.out ?_
        repeat (go_big_quiet_step (fail))
        go_big_quiet_step (exact hSt _)
        repeat (go_big_quiet_step (fail))
        go_big_quiet_step (exact hRs _)
        repeat (go_big_quiet_step (fail))
        go_big_quiet_step (exact hPr _)
        repeat (go_big_quiet_step (fail))
        refine wpQuiet_nil ?_
        intro _ hw'
        obtain ⟨x9, rfl⟩ := hw'
        have HR9 : Hid _ := HRel.out x9
        clear HRel hSt hRs hPr q5
        go_wp2_with fail
        go_round
        case rel => exact ⟨k + 1, by go_num, by omega, by omega, HR9⟩
        case measure => simp [intOf]; omega
      · have g1 : (d == 1) = false := by simpa using c1
        clear c1
        by_cases c2 : d = 2
        · have g2 : (d == 2) = true := by simp [c2]
          have CS := HM.out.1.len (by omega) HM.out.2
          unfold tp at CS
          have hbl := blen_st HM.out.1.ti.1 HM.out.2
          clear c2
          obtain ⟨bl, hbl2⟩ : ∃ bl, blen t = bl := ⟨_, rfl⟩
          rw [hbl2] at CS hbl
          have HBl : Hid (blen t = bl) := hbl2
          have HHt : Hid (0 ≤ bl.2.hint ∧ bl.2.hint ≤ (bl.2.p.n : Int)) := ⟨hbl.2.1, by rw [hbl.1]; exact hbl.2.2.1⟩
          have hne : (bl.1 != bl.1) = false := by simp
          clear hbl hbl2
          go_wp2_with fail
          refine CS.mono ?_; rintro e w5 ⟨rfl, h5, k5⟩
          have HK5 : Hid (Keep Q1 wa w5) := k5
          have CR := h5.rlen (by omega) HM.out.2
          unfold tp at CR
          rw [HBl.out] at CR
          clear CS h5 k5
          go_wp2_with fail
          refine CR.mono ?_; rintro e w6 ⟨rfl, h6, k6⟩
          obtain ⟨tz, htz⟩ : ∃ tz, bl.2 = tz := ⟨_, rfl⟩
          obtain ⟨sz2, hsz2⟩ : ∃ sz2, s = sz2 := ⟨_, rfl⟩
          rw [htz] at h6 HHt
          rw [hsz2] at h6
          have HZ : Hid (Bz Q1 w6 T S hb RT G (3 + 300 * k + 131 + 130) tz sz2 tz sz2 ∧ (0 ≤ tz.hint ∧ tz.hint ≤ (tz.p.n : Int)) ∧ Keep Q1 wa w6) := ⟨h6, HHt.out, HK5.out.trans k6⟩
          clear CR h6 k6 htz hsz2 HHt HM HOx HK5 HBl
          obtain ⟨XX, Fw9, F1w, F2w⟩ := class_of w6
          have HCc : Hid (∃ x, World.drew w6 = Fw9 x) := F2w _ (bdrew1 w6)
          have hSt : ∀ x, Calls Tryz.prog 17 #[.pointer (some ⟨T, 0, none⟩)] (Fw9 x) fun e w'' => e = .returned (.agg #[.int .i64 (tz.p.n : Nat), .int .i64 (tz.p.z : Nat), .int .i64 (tz.p.g.f : Nat), .int .i64 tz.hint]) ∧ ∃ y, w'' = Fw9 y := fun x => ((HZ.out.1.below (F1w x)).stats).mono fun e w' hh => ⟨hh.1, F2w _ (bthen (F1w x) (F1w x).size hh.2)⟩
          have hRs : ∀ x, Calls Tryz.prog 18 #[.pointer (some ⟨RT, 0, none⟩)] (Fw9 x) fun e w'' => e = .returned (.agg #[.int .i64 (tz.p.n : Nat), .int .i64 (tz.p.z : Nat), .int .i64 (tz.p.g.f : Nat), .int .i64 tz.hint]) ∧ ∃ y, w'' = Fw9 y := fun x => ((HZ.out.1.below (F1w x)).rstats).mono fun e w' hh => ⟨hh.1, F2w _ (bthen (F1w x) (F1w x).size hh.2)⟩
          have hPr : ∀ x, Calls Tryz.prog 19 #[.pointer (some ⟨T, 0, none⟩)] (Fw9 x) fun e w'' => e = .returned (.int .i64 tz.pr) ∧ ∃ y, w'' = Fw9 y := fun x => ((HZ.out.1.below (F1w x)).probes).mono fun e w' hh => ⟨hh.1, x, hh.2⟩
          have q5 : ∀ x, (Fw9 x).cell? ⟨RT, 5, none⟩ = some (.int .i64 tz.pr) := fun x => (HZ.out.1.below (F1w x)).cells.1
          have HRel : Hid (∀ x, ∃ t s, Bz Q0 (Fw9 x) T S hb RT G (3 + 300 * (k + 1)) t s t s ∧ (0 ≤ t.hint ∧ t.hint ≤ (t.p.n : Int)) ∧ Keep Q0 W1 (Fw9 x)) := fun x => ⟨tz, sz2, ((HZ.out.1.below (F1w x)).sub HQ1.out.1).more (by omega), HZ.out.2.1, (HKa.out.trans (HZ.out.2.2.sub HQ1.out.1)).trans (Keep.of (F1w x))⟩
          clear F1w F2w HZ
          generalize tz.pr = p9 at *
          generalize tz.hint = h9 at *
          generalize tz.p.g.f = f9 at *
          generalize tz.p.z = z9 at *
          generalize tz.p.n = n9 at *
          go_wp2_with fail
          haveI : Nonempty XX := HCc.out.elim fun x _ => ⟨x⟩
          refine wp_class (F := Fw9) (by kernel_rfl) (by kernel_rfl) HCc.out ?_
          repeat (go_big_quiet_step (fail))
          go_big_quiet_step (exact hSt _)
          repeat (go_big_quiet_step (fail))
          go_big_quiet_step (exact hRs _)
          repeat (go_big_quiet_step (fail))
          go_big_quiet_step (exact hPr _)
          repeat (go_big_quiet_step (fail))
          refine wpQuiet_nil ?_
          intro _ hw'
          obtain ⟨x9, rfl⟩ := hw'
          have HR9 : Hid _ := HRel.out x9
          clear HRel hSt hRs hPr q5
          go_wp2_with fail
          go_round
          case rel => exact ⟨k + 1, by go_num, by omega, by omega, HR9⟩
          case measure => simp [intOf]; omega
        · have g2 : (d == 2) = false := by simpa using c2
          clear c2
          by_cases c3 : d = 3
          · have g3 : (d == 3) = true := by simp [c3]
            have CS := (HM.out.1.below (bdrew1 wa)).is (by omega) m HRk.out.2.1 HRk.out.2.2
            unfold tp at CS
            have hbl := bis_st t m
            clear c3
            obtain ⟨bl, hbl2⟩ : ∃ bl, bis t m = bl := ⟨_, rfl⟩
            rw [hbl2] at CS hbl
            have HBl : Hid (bis t m = bl) := hbl2
            have HHt : Hid (0 ≤ bl.2.hint ∧ bl.2.hint ≤ (bl.2.p.n : Int)) := by rw [hbl.2.1, hbl.1]; exact HM.out.2
            have hne : (bl.1 != bl.1) = false := by simp
            have HG0 : Hid (Keep Q1 wa wa.drew) := Keep.of (bdrew1 wa)
            have HSk : Hid (∀ w, Keep Q1 wa w → w.cell? ⟨ob, 7, none⟩ = some (.int .i64 m)) := fun w q => (HOx.out w q).c7
            clear hbl hbl2
            go_wp2_with fail
            go_cut [67] from 59 to 66 (fun cw wx => cw = .bool false ∧ Hid (Bz Q1 wx T S hb RT G (3 + 300 * k + 2 + 2) bl.2 s bl.2 s ∧ Keep Q1 wa wx))
            case first =>
              go_region_held3 (fun w' => w'.cell? ⟨ob, 7, none⟩ = some (.int .i64 m)) (exact HSk.out _ (by first | exact HG0.out | exact HG1.out | exact HG2.out)) (first
                | (go_at_call 11; refine CS.mono ?_; rintro e w5 ⟨rfl, h5, k5⟩; have HG1 : Hid (Keep Q1 wa w5) := HG0.out.trans k5; have CR := h5.ris (by omega) m HRk.out.2.1 HRk.out.2.2; unfold tp at CR; rw [HBl.out] at CR; clear h5 k5)
                | (go_at_call 12; refine CR.mono ?_; rintro e w6 ⟨rfl, h6, k6⟩; have HG2 : Hid (Keep Q1 wa w6) := HG1.out.trans k6; have HM6 : Hid (Bz Q1 w6 T S hb RT G (3 + 300 * k + 2 + 2) bl.2 s bl.2 s) := h6; clear h6 k6))
              all_goals
                go_wp2_with fail
                go_meet
                exact ⟨by first | rfl | rw [hne], HM6.out, HG2.out⟩
            case rest =>
              obtain ⟨rfl, HM7⟩ := hcut
              obtain ⟨w6, hw6⟩ : ∃ w6, w6 = wc := ⟨_, rfl⟩
              rw [← hw6] at HM7 ⊢
              clear hw6
              obtain ⟨tz, htz⟩ : ∃ tz, bl.2 = tz := ⟨_, rfl⟩
              obtain ⟨sz2, hsz2⟩ : ∃ sz2, s = sz2 := ⟨_, rfl⟩
              rw [htz] at HM7 HHt
              rw [hsz2] at HM7
              have HZ : Hid (Bz Q1 w6 T S hb RT G (3 + 300 * k + 2 + 2) tz sz2 tz sz2 ∧ (0 ≤ tz.hint ∧ tz.hint ≤ (tz.p.n : Int)) ∧ Keep Q1 wa w6) := ⟨HM7.out.1, HHt.out, HM7.out.2⟩
              clear htz hsz2 HHt HM HOx HBl HM7 CS HG0 HSk
              obtain ⟨XX, Fw9, F1w, F2w⟩ := class_of w6
              have HCc : Hid (∃ x, World.drew w6 = Fw9 x) := F2w _ (bdrew1 w6)
              have hSt : ∀ x, Calls Tryz.prog 17 #[.pointer (some ⟨T, 0, none⟩)] (Fw9 x) fun e w'' => e = .returned (.agg #[.int .i64 (tz.p.n : Nat), .int .i64 (tz.p.z : Nat), .int .i64 (tz.p.g.f : Nat), .int .i64 tz.hint]) ∧ ∃ y, w'' = Fw9 y := fun x => ((HZ.out.1.below (F1w x)).stats).mono fun e w' hh => ⟨hh.1, F2w _ (bthen (F1w x) (F1w x).size hh.2)⟩
              have hRs : ∀ x, Calls Tryz.prog 18 #[.pointer (some ⟨RT, 0, none⟩)] (Fw9 x) fun e w'' => e = .returned (.agg #[.int .i64 (tz.p.n : Nat), .int .i64 (tz.p.z : Nat), .int .i64 (tz.p.g.f : Nat), .int .i64 tz.hint]) ∧ ∃ y, w'' = Fw9 y := fun x => ((HZ.out.1.below (F1w x)).rstats).mono fun e w' hh => ⟨hh.1, F2w _ (bthen (F1w x) (F1w x).size hh.2)⟩
              have hPr : ∀ x, Calls Tryz.prog 19 #[.pointer (some ⟨T, 0, none⟩)] (Fw9 x) fun e w'' => e = .returned (.int .i64 tz.pr) ∧ ∃ y, w'' = Fw9 y := fun x => ((HZ.out.1.below (F1w x)).probes).mono fun e w' hh => ⟨hh.1, x, hh.2⟩
              have q5 : ∀ x, (Fw9 x).cell? ⟨RT, 5, none⟩ = some (.int .i64 tz.pr) := fun x => (HZ.out.1.below (F1w x)).cells.1
              have HRel : Hid (∀ x, ∃ t s, Bz Q0 (Fw9 x) T S hb RT G (3 + 300 * (k + 1)) t s t s ∧ (0 ≤ t.hint ∧ t.hint ≤ (t.p.n : Int)) ∧ Keep Q0 W1 (Fw9 x)) := fun x => ⟨tz, sz2, ((HZ.out.1.below (F1w x)).sub HQ1.out.1).more (by omega), HZ.out.2.1, (HKa.out.trans (HZ.out.2.2.sub HQ1.out.1)).trans (Keep.of (F1w x))⟩
              clear F1w F2w HZ
              generalize tz.pr = p9 at *
              generalize tz.hint = h9 at *
              generalize tz.p.g.f = f9 at *
              generalize tz.p.z = z9 at *
              generalize tz.p.n = n9 at *
              go_wp2_with fail
              haveI : Nonempty XX := HCc.out.elim fun x _ => ⟨x⟩
              refine wp_class (F := Fw9) (by kernel_rfl) (by kernel_rfl) HCc.out ?_
              repeat (go_big_quiet_step (fail))
              go_big_quiet_step (exact hSt _)
              repeat (go_big_quiet_step (fail))
              go_big_quiet_step (exact hRs _)
              repeat (go_big_quiet_step (fail))
              go_big_quiet_step (exact hPr _)
              repeat (go_big_quiet_step (fail))
              refine wpQuiet_nil ?_
              intro _ hw'
              obtain ⟨x9, rfl⟩ := hw'
              have HR9 : Hid _ := HRel.out x9
              clear HRel hSt hRs hPr q5
              go_wp2_with fail
              go_round
              case rel => exact ⟨k + 1, by go_num, by omega, by omega, HR9⟩
              case measure => simp [intOf]; omega
          · have g3 : (d == 3) = false := by simpa using c3
            clear c3
            by_cases c4 : d = 4
            · have g4 : (d == 4) = true := by simp [c4]
              have p := HOx.out wa (Keep.refl _ _)
              have p1 := p.c1
              have p2 := p.c2
              have p3 := p.c3
              have CS := HM.out.1.get (by omega) kk HRk.out.1
              unfold vv vl tp at CS
              clear c4 p
              go_wp2_with fail
              refine CS.mono ?_; rintro e w5 ⟨rfl, h5, k5⟩
              have HK5 : Hid (Keep Q1 wa w5) := k5
              have p := HOx.out w5 k5
              have p1 := p.c1
              have p2 := p.c2
              have p3 := p.c3
              have CR := h5.rget (by omega) kk HRk.out.1
              unfold vv vl tp at CR
              clear CS h5 k5 p
              go_wp2_with fail
              refine CR.mono ?_; rintro e w6 ⟨rfl, h6, k6⟩
              obtain ⟨tz, htz⟩ : ∃ tz : TS, { t with pr := t.pr + (prd t.p kk : Nat) } = tz := ⟨_, rfl⟩
              obtain ⟨sz2, hsz2⟩ : ∃ sz2, s = sz2 := ⟨_, rfl⟩
              have hth : 0 ≤ tz.hint ∧ tz.hint ≤ (tz.p.n : Int) := by rw [← htz]; exact HM.out.2
              rw [htz] at h6
              rw [hsz2] at h6
              have HZ : Hid (Bz Q1 w6 T S hb RT G (3 + 300 * k + 1 + 1) tz sz2 tz sz2 ∧ (0 ≤ tz.hint ∧ tz.hint ≤ (tz.p.n : Int)) ∧ Keep Q1 wa w6) := ⟨h6, hth, HK5.out.trans k6⟩
              clear CR h6 k6 htz hsz2 hth HM HOx HK5
              obtain ⟨XX, Fw9, F1w, F2w⟩ := class_of w6
              have HCc : Hid (∃ x, World.drew w6 = Fw9 x) := F2w _ (bdrew1 w6)
              have hSt : ∀ x, Calls Tryz.prog 17 #[.pointer (some ⟨T, 0, none⟩)] (Fw9 x) fun e w'' => e = .returned (.agg #[.int .i64 (tz.p.n : Nat), .int .i64 (tz.p.z : Nat), .int .i64 (tz.p.g.f : Nat), .int .i64 tz.hint]) ∧ ∃ y, w'' = Fw9 y := fun x => ((HZ.out.1.below (F1w x)).stats).mono fun e w' hh => ⟨hh.1, F2w _ (bthen (F1w x) (F1w x).size hh.2)⟩
              have hRs : ∀ x, Calls Tryz.prog 18 #[.pointer (some ⟨RT, 0, none⟩)] (Fw9 x) fun e w'' => e = .returned (.agg #[.int .i64 (tz.p.n : Nat), .int .i64 (tz.p.z : Nat), .int .i64 (tz.p.g.f : Nat), .int .i64 tz.hint]) ∧ ∃ y, w'' = Fw9 y := fun x => ((HZ.out.1.below (F1w x)).rstats).mono fun e w' hh => ⟨hh.1, F2w _ (bthen (F1w x) (F1w x).size hh.2)⟩
              have hPr : ∀ x, Calls Tryz.prog 19 #[.pointer (some ⟨T, 0, none⟩)] (Fw9 x) fun e w'' => e = .returned (.int .i64 tz.pr) ∧ ∃ y, w'' = Fw9 y := fun x => ((HZ.out.1.below (F1w x)).probes).mono fun e w' hh => ⟨hh.1, x, hh.2⟩
              have q5 : ∀ x, (Fw9 x).cell? ⟨RT, 5, none⟩ = some (.int .i64 tz.pr) := fun x => (HZ.out.1.below (F1w x)).cells.1
              have HRel : Hid (∀ x, ∃ t s, Bz Q0 (Fw9 x) T S hb RT G (3 + 300 * (k + 1)) t s t s ∧ (0 ≤ t.hint ∧ t.hint ≤ (t.p.n : Int)) ∧ Keep Q0 W1 (Fw9 x)) := fun x => ⟨tz, sz2, ((HZ.out.1.below (F1w x)).sub HQ1.out.1).more (by omega), HZ.out.2.1, (HKa.out.trans (HZ.out.2.2.sub HQ1.out.1)).trans (Keep.of (F1w x))⟩
              clear F1w F2w HZ
              generalize tz.pr = p9 at *
              generalize tz.hint = h9 at *
              generalize tz.p.g.f = f9 at *
              generalize tz.p.z = z9 at *
              generalize tz.p.n = n9 at *
              go_wp2_with fail
              haveI : Nonempty XX := HCc.out.elim fun x _ => ⟨x⟩
              refine wp_class (F := Fw9) (by kernel_rfl) (by kernel_rfl) HCc.out ?_
              repeat (go_big_quiet_step (fail))
              go_big_quiet_step (exact hSt _)
              repeat (go_big_quiet_step (fail))
              go_big_quiet_step (exact hRs _)
              repeat (go_big_quiet_step (fail))
              go_big_quiet_step (exact hPr _)
              repeat (go_big_quiet_step (fail))
              refine wpQuiet_nil ?_
              intro _ hw'
              obtain ⟨x9, rfl⟩ := hw'
              have HR9 : Hid _ := HRel.out x9
              clear HRel hSt hRs hPr q5
              go_wp2_with fail
              go_round
              case rel => exact ⟨k + 1, by go_num, by omega, by omega, HR9⟩
              case measure => simp [intOf]; omega
            · have g4 : (d == 4) = false := by simpa using c4
              clear c4
              by_cases c5 : d = 5
              · have g5 : (d == 5) = true := by simp [c5]
                have p7 := (HOx.out wa (Keep.refl _ _)).c7
                have CS := HM.out.1.hint m
                unfold tp at CS
                clear c5
                go_wp2_with fail
                refine CS.mono ?_; rintro e w5 ⟨rfl, h5, k5⟩
                have HK5 : Hid (Keep Q1 wa w5) := k5
                have p7 := (HOx.out w5 k5).c7
                have CR := h5.rhint m
                unfold tp at CR
                clear CS h5 k5
                go_wp2_with fail
                refine CR.mono ?_; rintro e w6 ⟨rfl, h6, k6⟩
                have hth := tHint_ok m HM.out.2
                obtain ⟨tz, htz⟩ : ∃ tz, tHint t m = tz := ⟨_, rfl⟩
                obtain ⟨sz2, hsz2⟩ : ∃ sz2, s = sz2 := ⟨_, rfl⟩
                rw [htz] at h6 hth
                rw [hsz2] at h6
                have HZ : Hid (Bz Q1 w6 T S hb RT G (3 + 300 * k + 1 + 1) tz sz2 tz sz2 ∧ (0 ≤ tz.hint ∧ tz.hint ≤ (tz.p.n : Int)) ∧ Keep Q1 wa w6) := ⟨h6, ⟨hth.1, hth.2.1⟩, HK5.out.trans k6⟩
                clear CR h6 k6 htz hsz2 hth HM HOx HK5
                obtain ⟨XX, Fw9, F1w, F2w⟩ := class_of w6
                have HCc : Hid (∃ x, World.drew w6 = Fw9 x) := F2w _ (bdrew1 w6)
                have hSt : ∀ x, Calls Tryz.prog 17 #[.pointer (some ⟨T, 0, none⟩)] (Fw9 x) fun e w'' => e = .returned (.agg #[.int .i64 (tz.p.n : Nat), .int .i64 (tz.p.z : Nat), .int .i64 (tz.p.g.f : Nat), .int .i64 tz.hint]) ∧ ∃ y, w'' = Fw9 y := fun x => ((HZ.out.1.below (F1w x)).stats).mono fun e w' hh => ⟨hh.1, F2w _ (bthen (F1w x) (F1w x).size hh.2)⟩
                have hRs : ∀ x, Calls Tryz.prog 18 #[.pointer (some ⟨RT, 0, none⟩)] (Fw9 x) fun e w'' => e = .returned (.agg #[.int .i64 (tz.p.n : Nat), .int .i64 (tz.p.z : Nat), .int .i64 (tz.p.g.f : Nat), .int .i64 tz.hint]) ∧ ∃ y, w'' = Fw9 y := fun x => ((HZ.out.1.below (F1w x)).rstats).mono fun e w' hh => ⟨hh.1, F2w _ (bthen (F1w x) (F1w x).size hh.2)⟩
                have hPr : ∀ x, Calls Tryz.prog 19 #[.pointer (some ⟨T, 0, none⟩)] (Fw9 x) fun e w'' => e = .returned (.int .i64 tz.pr) ∧ ∃ y, w'' = Fw9 y := fun x => ((HZ.out.1.below (F1w x)).probes).mono fun e w' hh => ⟨hh.1, x, hh.2⟩
                have q5 : ∀ x, (Fw9 x).cell? ⟨RT, 5, none⟩ = some (.int .i64 tz.pr) := fun x => (HZ.out.1.below (F1w x)).cells.1
                have HRel : Hid (∀ x, ∃ t s, Bz Q0 (Fw9 x) T S hb RT G (3 + 300 * (k + 1)) t s t s ∧ (0 ≤ t.hint ∧ t.hint ≤ (t.p.n : Int)) ∧ Keep Q0 W1 (Fw9 x)) := fun x => ⟨tz, sz2, ((HZ.out.1.below (F1w x)).sub HQ1.out.1).more (by omega), HZ.out.2.1, (HKa.out.trans (HZ.out.2.2.sub HQ1.out.1)).trans (Keep.of (F1w x))⟩
                clear F1w F2w HZ
                generalize tz.pr = p9 at *
                generalize tz.hint = h9 at *
                generalize tz.p.g.f = f9 at *
                generalize tz.p.z = z9 at *
                generalize tz.p.n = n9 at *
                go_wp2_with fail
                haveI : Nonempty XX := HCc.out.elim fun x _ => ⟨x⟩
                refine wp_class (F := Fw9) (by kernel_rfl) (by kernel_rfl) HCc.out ?_
                repeat (go_big_quiet_step (fail))
                go_big_quiet_step (exact hSt _)
                repeat (go_big_quiet_step (fail))
                go_big_quiet_step (exact hRs _)
                repeat (go_big_quiet_step (fail))
                go_big_quiet_step (exact hPr _)
                repeat (go_big_quiet_step (fail))
                refine wpQuiet_nil ?_
                intro _ hw'
                obtain ⟨x9, rfl⟩ := hw'
                have HR9 : Hid _ := HRel.out x9
                clear HRel hSt hRs hPr q5
                go_wp2_with fail
                go_round
                case rel => exact ⟨k + 1, by go_num, by omega, by omega, HR9⟩
                case measure => simp [intOf]; omega
              · have g5 : (d == 5) = false := by simpa using c5
                clear c5
                obtain ⟨tz, htz⟩ : ∃ tz, t = tz := ⟨_, rfl⟩
                obtain ⟨sz2, hsz2⟩ : ∃ sz2, s = sz2 := ⟨_, rfl⟩
                rw [htz, hsz2] at HM
                have HZ : Hid (Bz Q1 wa T S hb RT G (3 + 300 * k) tz sz2 tz sz2 ∧ (0 ≤ tz.hint ∧ tz.hint ≤ (tz.p.n : Int)) ∧ Keep Q1 wa wa) := ⟨HM.out.1, HM.out.2, Keep.refl _ _⟩
                clear htz hsz2 HM HOx
                obtain ⟨XX, Fw9, F1w, F2w⟩ := class_of wa
                have HCc : Hid (∃ x, World.drew wa = Fw9 x) := F2w _ (bdrew1 wa)
                have hSt : ∀ x, Calls Tryz.prog 17 #[.pointer (some ⟨T, 0, none⟩)] (Fw9 x) fun e w'' => e = .returned (.agg #[.int .i64 (tz.p.n : Nat), .int .i64 (tz.p.z : Nat), .int .i64 (tz.p.g.f : Nat), .int .i64 tz.hint]) ∧ ∃ y, w'' = Fw9 y := fun x => ((HZ.out.1.below (F1w x)).stats).mono fun e w' hh => ⟨hh.1, F2w _ (bthen (F1w x) (F1w x).size hh.2)⟩
                have hRs : ∀ x, Calls Tryz.prog 18 #[.pointer (some ⟨RT, 0, none⟩)] (Fw9 x) fun e w'' => e = .returned (.agg #[.int .i64 (tz.p.n : Nat), .int .i64 (tz.p.z : Nat), .int .i64 (tz.p.g.f : Nat), .int .i64 tz.hint]) ∧ ∃ y, w'' = Fw9 y := fun x => ((HZ.out.1.below (F1w x)).rstats).mono fun e w' hh => ⟨hh.1, F2w _ (bthen (F1w x) (F1w x).size hh.2)⟩
                have hPr : ∀ x, Calls Tryz.prog 19 #[.pointer (some ⟨T, 0, none⟩)] (Fw9 x) fun e w'' => e = .returned (.int .i64 tz.pr) ∧ ∃ y, w'' = Fw9 y := fun x => ((HZ.out.1.below (F1w x)).probes).mono fun e w' hh => ⟨hh.1, x, hh.2⟩
                have q5 : ∀ x, (Fw9 x).cell? ⟨RT, 5, none⟩ = some (.int .i64 tz.pr) := fun x => (HZ.out.1.below (F1w x)).cells.1
                have HRel : Hid (∀ x, ∃ t s, Bz Q0 (Fw9 x) T S hb RT G (3 + 300 * (k + 1)) t s t s ∧ (0 ≤ t.hint ∧ t.hint ≤ (t.p.n : Int)) ∧ Keep Q0 W1 (Fw9 x)) := fun x => ⟨tz, sz2, ((HZ.out.1.below (F1w x)).sub HQ1.out.1).more (by omega), HZ.out.2.1, (HKa.out.trans (HZ.out.2.2.sub HQ1.out.1)).trans (Keep.of (F1w x))⟩
                clear F1w F2w HZ
                generalize tz.pr = p9 at *
                generalize tz.hint = h9 at *
                generalize tz.p.g.f = f9 at *
                generalize tz.p.z = z9 at *
                generalize tz.p.n = n9 at *
                go_wp2_with fail
                haveI : Nonempty XX := HCc.out.elim fun x _ => ⟨x⟩
                refine wp_class (F := Fw9) (by kernel_rfl) (by kernel_rfl) HCc.out ?_
                repeat (go_big_quiet_step (fail))
                go_big_quiet_step (exact hSt _)
                repeat (go_big_quiet_step (fail))
                go_big_quiet_step (exact hRs _)
                repeat (go_big_quiet_step (fail))
                go_big_quiet_step (exact hPr _)
                repeat (go_big_quiet_step (fail))
                refine wpQuiet_nil ?_
                intro _ hw'
                obtain ⟨x9, rfl⟩ := hw'
                have HR9 : Hid _ := HRel.out x9
                clear HRel hSt hRs hPr q5
                go_wp2_with fail
                go_round
                case rel => exact ⟨k + 1, by go_num, by omega, by omega, HR9⟩
                case measure => simp [intOf]; omega
    · have HM : Hid (Bz Q0 wr T S hb RT G (3 + 300 * k) t s t s ∧ (0 ≤ t.hint ∧ t.hint ≤ (t.p.n : Int)) ∧ Keep Q0 W1 wr) := ⟨hM, hH, hK⟩
      have CS := hM.len (by omega) hH
      unfold tp at CS
      obtain ⟨bl, hbl2⟩ : ∃ bl, blen t = bl := ⟨_, rfl⟩
      rw [hbl2] at CS
      have HBl : Hid (blen t = bl) := hbl2
      have heq : (bl.1 == bl.1) = true := by simp
      clear hbl2 hM hH hK xb
      have hq : ((k : Int) < (L : Int) ∧ ¬ ((k : Int) < 300)) ∨ ¬ ((k : Int) < (L : Int)) := by omega
      clear hlt
      rcases hq with ⟨q1, q2⟩ | q1
      all_goals
        go_wp2_with fail
        refine CS.mono ?_; rintro e w5 ⟨rfl, h5, k5⟩
        have HK5 : Hid (Keep Q0 wr w5) := k5
        have CR := h5.rlen (by omega) HM.out.2.1
        unfold tp at CR
        rw [HBl.out] at CR
        clear CS h5 k5
        go_wp2_with fail
        refine CR.mono ?_; rintro e w6 ⟨rfl, h6, k6⟩
        have HM6 : Hid (Bz Q0 w6 T S hb RT G (3 + 300 * k + 131 + 130) bl.2 s bl.2 s ∧ Keep Q0 W1 w6) := ⟨h6, (HM.out.2.2.trans HK5.out).trans k6⟩
        have C1 := h6.stats
        unfold ts sv tp at C1
        clear CR h6 k6
        go_wp2_with fail
        refine C1.mono ?_; rintro e w7 ⟨rfl, hb7⟩
        have HM7 : Hid (Bz Q0 w7 T S hb RT G (3 + 300 * k + 131 + 130) bl.2 s bl.2 s ∧ Keep Q0 W1 w7) := ⟨HM6.out.1.below hb7, HM6.out.2.trans (Keep.of hb7)⟩
        have C2 := HM7.out.1.rstats
        unfold ts sv tp at C2
        clear C1 hb7
        go_wp2_with fail
        refine C2.mono ?_; rintro e w8 ⟨rfl, hb8⟩
        have HB8 : Hid (Below X W w8) := (HC.out w8 (HM7.out.2.trans (Keep.of hb8))).2
        clear C2 hb8
        go_wp2_with fail
        go_ret
        exact ⟨rfl, by rw [HX.out]; exact HB8.out⟩
end Go.Proofs.YtoomlihccniooaaGreat
