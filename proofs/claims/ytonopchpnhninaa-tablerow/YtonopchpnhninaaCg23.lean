/- The walk of TableRow. -/
import Derived.Test.YtonopchpnhninaaCg19
import Derived.Test.YtonopchpnhninaaCg22
namespace Go.Proofs.Ytonopchpnhninaa
open Go.RowKit

theorem ok4 : Okn (H.newSt 400000) 0 0 0 0 := ⟨rfl, by omega, ⟨0, rfl, by omega, by kernel_rfl⟩, .inl rfl, by kernel_rfl, by kernel_rfl, by kernel_rfl, by kernel_rfl⟩
def rs0 : H.St := nS (H.newSt 400000) 0 0
def rt0 : TS := newT 0 0 (H.takeId (H.takeSt (H.newSt 400000) 4) ((0 : Nat) : Int)) (H.takeId (H.takeSt (H.takeSt (H.newSt 400000) 4) ((0 : Nat) : Int)) (3 * ((0 : Nat) : Int)))
theorem rw0 (b : Int) : RW b 0 rt0 rs0 := by
  have e1 : rt0.sb = 0 := by kernel_rfl
  have e2 : rt0.nb = 0 := by kernel_rfl
  refine ⟨rfl, ⟨.inl ⟨rfl, e1⟩, .inl ⟨rfl, e2⟩, fun _ => e1, by kernel_rfl⟩, by kernel_rfl, by show 0 ≤ 1024; omega, fun i hi => absurd hi (Nat.not_lt_zero _), fun q h1 h2 => by omega⟩
theorem FSt.ti {w W : World} {T S hb c : Nat} {q : TS × H.St × Int} (h : FSt w T S hb c q W) : TI q.1.p ∧ H.Inv 0 q.2.1 := by
  obtain ⟨⟨A, b, a, ht⟩, _⟩ := h
  exact ⟨ht.ti, ht.iv⟩
theorem FSt.probes {w W : World} {T S hb c : Nat} {q : TS × H.St × Int} (h : FSt w T S hb c q W) : Calls Try.prog 21 #[tp T] W fun e w' => e = .returned (.int .i64 q.1.pr) ∧ w' = W := by
  obtain ⟨⟨A, b, a, ht⟩, _⟩ := h
  exact probes_any ht.tm
theorem FSt.pr {w W : World} {T S hb c : Nat} {q : TS × H.St × Int} (h : FSt w T S hb c q W) : 0 ≤ q.1.pr ∧ q.1.pr ≤ 65536 * (c : Int) := by
  obtain ⟨⟨A, b, a, ht⟩, _⟩ := h
  exact ⟨ht.p0, by have := ht.p1; omega⟩
set_option maxRecDepth 100000 in
set_option maxHeartbeats 8000000 in
theorem row_good (b m : Int) (M : Nat) (hM : min (max m 0) 700 = (M : Nat)) (hb1 : 2 * (M : Int) ≤ b) (hb2 : b < 4611686018427387904) (w : World) :
    Calls Try.prog 5 #[.int .i64 b, .int .i64 m] w fun e w' => e = .returned (.bool true) ∧ Below w.heap.size w w' := by
  have hM7 : M ≤ 700 := by omega
  have hw2 : IntKind.i64.wrap (2 * (M : Int)) = 2 * (M : Int) := by rw [IntKind.wrap_i64]; omega
  have hw5 : IntKind.i64.wrap (2 * (M : Int) + 5) = 2 * (M : Int) + 5 := by rw [IntKind.wrap_i64]; omega
  obtain ⟨B, rfl⟩ : ∃ B, B = b := ⟨_, rfl⟩
  have hc1 : ¬ (4611686018427387904 : Int) ≤ B := by omega
  have hc2 : ¬ B < 2 * (M : Int) := by omega
  have CF := fun w => fixed_any w
  have iv := H.Inv.new 400000 (by omega) (by omega)
  have C1 := fun w => H.new_walk w 400000 (by omega) (by omega)
  go_enter Try.func5, Try.ntmps5
  go_wp2_with fail
  refine (CF _).mono ?_; rintro e w1 ⟨rfl, hb1⟩
  have HB1 : Hid (Below w.heap.size w w1) := hb1
  clear hb1 CF
  have hp := new_hp w1 400000 (fun g => g < w1.heap.size) (fun g q => q)
  have B1 := b2 w1 (.map #[] 0) (.cells #[.int .i64 400000, .int .i64 0, .int .i64 0, .slice none 0 0, .map (some w1.heap.size)] 75)
  have C1' := C1 w1
  obtain ⟨W1, hW1⟩ : ∃ W1, (w1.alloc (.map #[] 0)).alloc (.cells #[.int .i64 400000, .int .i64 0, .int .i64 0, .slice none 0 0, .map (some w1.heap.size)] 75) = W1 := ⟨_, rfl⟩
  rw [hW1] at hp B1 C1'
  have C2 := ok4.new hp (by omega) iv
  have HBW : Hid (Below w1.heap.size w1 W1) := B1
  generalize hS : w1.heap.size + 1 = S at *
  clear iv hp B1 C1
  go_wp2_with fail
  refine C1'.mono ?_; rintro e w2 ⟨rfl, hw2'⟩; rw [hw2']; clear hw2' C1'
  go_wp2_with fail
  refine C2.mono ?_; rintro e W2 ⟨T, A, b', a, rfl, tt2, kk2⟩
  have HT : Hid (∃ q, FSt w1 T S w1.heap.size 3 q W2 ∧ RW B 0 q.1 q.2.1) := ⟨(rt0, rs0, 0), ⟨⟨A, b', a, tt2⟩, HBW.out.trans (kk2.below HBW.out.size (fun g hg => hg))⟩, rw0 B⟩
  have HBB : Hid (∀ W, Below w1.heap.size w1 W → Below w.heap.size w W) := fun W h => bthen HB1.out HB1.out.size h
  clear C2 tt2 kk2 HB1 HBW
  generalize w1.heap.size = hb at HT
  go_wp2_with fail
  go_loopw [9] (fun iw wr => ∃ i : Nat, iw = .int .i64 ((i : Int) + 1) ∧ i ≤ M ∧ Hid (∃ q, FSt w1 T S hb (3 + 7 * i) q wr ∧ RW B i q.1 q.2.1)) (fun iw _ => M + 1 - (intOf iw).toNat)
  case atStart => exact ⟨0, by go_num, by omega, HT⟩
  case round =>
    obtain ⟨i, rfl, hi, HR⟩ := hrel
    clear HT
    by_cases hlt : i < M
    · have hle : (i : Int) + 1 ≤ (M : Int) := by omega
      have hwi : IntKind.i64.wrap (B + ((i : Int) + 1)) = B + ((i : Int) + 1) := by rw [IntKind.wrap_i64]; omega
      have CI := fun W => mkI (B + ((i : Int) + 1)) W
      have CS := fun W => mkI ((i : Int) + 1) W
      unfold vl at CI CS
      go_wp2_with fail
      refine (CI _).mono ?_; rintro e W3 ⟨rfl, b3⟩
      obtain ⟨q, hF, hRW⟩ := HR.out
      have H3 : Hid (FSt w1 T S hb (3 + 7 * i) q W3) := hF.below b3
      have hst := hRW.step hF.ti.1 hF.ti.2 (m := M) (by omega) hM7 (by omega) (by omega)
      have HST : Hid ((nxs q (kI (B + ((i : Int) + 1))) (kI ((i : Int) + 1))).2.2 = 0 ∧ RW B (i + 1) (nxs q (kI (B + ((i : Int) + 1))) (kI ((i : Int) + 1))).1 (nxs q (kI (B + ((i : Int) + 1))) (kI ((i : Int) + 1))).2.1) := hst
      clear b3 HR hF hRW hst
      go_wp2_with fail
      refine (CS _).mono ?_; rintro e W4 ⟨rfl, b4⟩
      have C4 := (H3.out.below b4).set (by omega) (kI (B + ((i : Int) + 1))) (kI ((i : Int) + 1)) (by constructor <;> simp <;> omega)
      rw [HST.out.1] at C4
      unfold vv vl tp at C4
      clear b4 H3
      go_wp2_with fail
      refine C4.mono ?_; rintro e W5 ⟨rfl, h5⟩
      have H5 : Hid (∃ q, FSt w1 T S hb (3 + 7 * (i + 1)) q W5 ∧ RW B (i + 1) q.1 q.2.1) := ⟨_, h5, HST.out.2⟩
      clear C4 h5 HST CI CS
      go_wp2_with fail
      go_round
      case rel => exact ⟨i + 1, by go_num, by omega, H5⟩
      case measure => simp [intOf]; omega
    · obtain rfl : i = M := by omega
      have hle : ¬ ((i : Int) + 1 ≤ (i : Int)) := by omega
      obtain ⟨q, hF, hRW⟩ := HR.out
      have hrd := hRW.reads hF.ti.1 hM7 (by omega) (by omega)
      have hpr := hF.pr
      have HPR : Hid (0 ≤ q.1.pr ∧ q.1.pr ≤ 65536 * ((3 + 7 * i : Nat) : Int)) := hpr
      have HRD : Hid (sumTo i (fun x => prd q.1.p (kn (B + (x + 1 : Nat)))) ≤ i + 1) := hrd
      have CP := hF.probes
      have HF : Hid (FSt w1 T S hb (3 + 7 * i) q wr) := hF
      have HRW : Hid (RW B i q.1 q.2.1) := hRW
      unfold tp at CP
      clear hF hRW hrd hpr HR
      go_wp2_with fail
      refine CP.mono ?_; rintro e W3 ⟨rfl, hw3⟩; rw [hw3]; clear hw3 CP
      go_wp2_with fail
      go_loopw [11] (fun iw wr' => ∃ j : Nat, iw = .int .i64 ((j : Int) + 1) ∧ j ≤ i ∧ Hid (∃ q', FSt w1 T S hb (3 + 7 * i + j) q' wr' ∧ q'.1.p = q.1.p ∧ q'.1.pr = q.1.pr + (sumTo j (fun x => prd q.1.p (kn (B + (x + 1 : Nat)))) : Nat))) (fun iw _ => i + 1 - (intOf iw).toNat)
      case atStart => exact ⟨0, by go_num, by omega, ⟨q, HF.out, rfl, by simp [sumTo]⟩⟩
      case round =>
        obtain ⟨j, rfl, hj, HRj⟩ := hrel
        clear HF
        by_cases hjlt : j < i
        · have hjle : (j : Int) + 1 ≤ (i : Int) := by omega
          have hwi : IntKind.i64.wrap (B + ((j : Int) + 1)) = B + ((j : Int) + 1) := by rw [IntKind.wrap_i64]; omega
          have CI := fun W => mkI (B + ((j : Int) + 1)) W
          have CS := fun W => mkI ((j : Int) + 1) W
          unfold vl at CI CS
          go_wp2_with fail
          refine (CI _).mono ?_; rintro e W4 ⟨rfl, b4⟩
          obtain ⟨q', hF, hp1, hp2⟩ := HRj.out
          have C5 := (hF.below b4).get (by omega) (kI (B + ((j : Int) + 1))) (by constructor <;> simp <;> omega)
          have hg : pget q'.1.p (kI (B + ((j : Int) + 1))) = kI ((j : Int) + 1) := by
            rw [hp1]; exact HRW.out.get (j + 1) (by omega) (by omega)
          rw [hg] at C5
          have HN : Hid (∀ W, FSt w1 T S hb (3 + 7 * i + j + 1) ({ q'.1 with pr := q'.1.pr + (prd q'.1.p (kI (B + ((j : Int) + 1))) : Nat) }, q'.2.1, q'.2.2) W → ∃ q', FSt w1 T S hb (3 + 7 * i + (j + 1)) q' W ∧ q'.1.p = q.1.p ∧ q'.1.pr = q.1.pr + (sumTo (j + 1) (fun x => prd q.1.p (kn (B + (x + 1 : Nat)))) : Nat)) := fun W h => ⟨_, h, hp1, by
            show q'.1.pr + (prd q'.1.p (kI (B + ((j : Int) + 1))) : Nat) = _
            rw [sumTo, hp1, hp2]
            have e : kI (B + ((j : Int) + 1)) = kn (B + ((j + 1 : Nat) : Int)) := rfl
            rw [e]; omega⟩
          unfold vv vl tp at C5
          clear b4 hF hp1 hp2 hg HRj
          go_wp2_with fail
          refine C5.mono ?_; rintro e W5 ⟨rfl, h5⟩
          have H5 : Hid _ := HN.out W5 h5
          clear C5 h5 HN
          have N := neq32 2 ((j : Int) + 1) 2 ((j : Int) + 1) ⟨#[]⟩ ⟨#[]⟩
          simp only [decide_true, Bool.not_true] at N
          unfold vl at N
          go_wp2_with fail
          refine (CS _).mono ?_; rintro e W6 ⟨rfl, b6⟩
          have H6 : Hid (∃ q', FSt w1 T S hb (3 + 7 * i + (j + 1)) q' W6 ∧ q'.1.p = q.1.p ∧ q'.1.pr = q.1.pr + (sumTo (j + 1) (fun x => prd q.1.p (kn (B + (x + 1 : Nat)))) : Nat)) := by
            obtain ⟨q', h1, h2⟩ := H5.out
            exact ⟨q', h1.below b6, h2⟩
          clear b6 H5 CI CS
          go_wp2_with fail
          go_round
          case rel => exact ⟨j + 1, by go_num, by omega, H6⟩
          case measure => simp [intOf]; omega
        · obtain rfl : j = i := by omega
          have hjle : ¬ ((j : Int) + 1 ≤ (j : Int)) := by omega
          obtain ⟨q', hF, hp1, hp2⟩ := HRj.out
          have CP := hF.probes
          have CT := hF.stats
          have hn : q'.1.p.n = 0 := by rw [hp1]; exact HRW.out.n0
          unfold ts sv tp at CT
          rw [hn] at CT
          unfold tp at CP
          obtain ⟨sm, hsm⟩ : ∃ sm, sumTo j (fun x => prd q.1.p (kn (B + (x + 1 : Nat)))) = sm := ⟨_, rfl⟩
          rw [hsm] at hp2
          have hs1 : sm ≤ j + 1 := by have := HRD.out; omega
          have hq := HPR.out
          generalize q'.1.pr = pr2 at *
          generalize q.1.pr = pr1 at *
          have hwd : IntKind.i64.wrap (pr2 - pr1) = pr2 - pr1 := by rw [IntKind.wrap_i64]; omega
          have hwj : IntKind.i64.wrap ((j : Int) + 1) = (j : Int) + 1 := by rw [IntKind.wrap_i64]; omega
          have hfin : pr2 - pr1 ≤ (j : Int) + 1 := by omega
          have F0 := fun W => fld0 0 (q'.1.p.z : Nat) (q'.1.p.g.f : Nat) q'.1.hint W
          unfold sv at F0
          have HBf : Hid (∀ W, FSt w1 T S hb (3 + 7 * j + j) q' W → Below w.heap.size w W) := fun W h => HBB.out W h.2
          clear hF hp1 HRj hn HRW
          go_wp2_with fail
          refine CP.mono ?_; rintro e W5 ⟨rfl, hw5⟩; rw [hw5]; clear hw5 CP
          go_wp2_with fail
          refine CT.mono ?_; rintro e W6 ⟨rfl, h6⟩
          have H6 : Hid _ := HBf.out W6 h6
          clear CT h6 HBf
          go_wp2_with fail
          go_ret
          exact ⟨rfl, H6.out⟩
set_option maxRecDepth 100000 in
set_option maxHeartbeats 8000000 in
theorem row_great (b m : Int) (M : Nat) (hM : min (max m 0) 700 = (M : Nat)) (hb1 : 4611686018427387904 ≤ b) (w : World) :
    Calls Try.prog 5 #[.int .i64 b, .int .i64 m] w fun e w' => e = .returned (.bool true) ∧ Below w.heap.size w w' := by
  have hM7 : M ≤ 700 := by omega
  have hw2 : IntKind.i64.wrap (2 * (M : Int)) = 2 * (M : Int) := by rw [IntKind.wrap_i64]; omega
  have hw5 : IntKind.i64.wrap (2 * (M : Int) + 5) = 2 * (M : Int) + 5 := by rw [IntKind.wrap_i64]; omega
  have CF := fun w => fixed_any w
  have iv := H.Inv.new 400000 (by omega) (by omega)
  have C1 := fun w => H.new_walk w 400000 (by omega) (by omega)
  go_enter Try.func5, Try.ntmps5
  go_wp2_with fail
  refine (CF _).mono ?_; rintro e w1 ⟨rfl, hb1⟩
  have HB1 : Hid (Below w.heap.size w w1) := hb1
  clear hb1 CF
  have hp := new_hp w1 400000 (fun g => g < w1.heap.size) (fun g q => q)
  have B1 := b2 w1 (.map #[] 0) (.cells #[.int .i64 400000, .int .i64 0, .int .i64 0, .slice none 0 0, .map (some w1.heap.size)] 75)
  have C1' := C1 w1
  obtain ⟨W1, hW1⟩ : ∃ W1, (w1.alloc (.map #[] 0)).alloc (.cells #[.int .i64 400000, .int .i64 0, .int .i64 0, .slice none 0 0, .map (some w1.heap.size)] 75) = W1 := ⟨_, rfl⟩
  rw [hW1] at hp B1 C1'
  have C2 := ok4.new hp (by omega) iv
  have HBW : Hid (Below w1.heap.size w1 W1) := B1
  generalize hS : w1.heap.size + 1 = S at *
  clear iv hp B1 C1
  go_wp2_with fail
  generalize hB : 2 * (M : Int) + 5 = B at *
  refine C1'.mono ?_; rintro e w2 ⟨rfl, hw2'⟩; rw [hw2']; clear hw2' C1'
  go_wp2_with fail
  refine C2.mono ?_; rintro e W2 ⟨T, A, b', a, rfl, tt2, kk2⟩
  have HT : Hid (∃ q, FSt w1 T S w1.heap.size 3 q W2 ∧ RW B 0 q.1 q.2.1) := ⟨(rt0, rs0, 0), ⟨⟨A, b', a, tt2⟩, HBW.out.trans (kk2.below HBW.out.size (fun g hg => hg))⟩, rw0 B⟩
  have HBB : Hid (∀ W, Below w1.heap.size w1 W → Below w.heap.size w W) := fun W h => bthen HB1.out HB1.out.size h
  clear C2 tt2 kk2 HB1 HBW
  generalize w1.heap.size = hb at HT
  go_wp2_with fail
  go_loopw [9] (fun iw wr => ∃ i : Nat, iw = .int .i64 ((i : Int) + 1) ∧ i ≤ M ∧ Hid (∃ q, FSt w1 T S hb (3 + 7 * i) q wr ∧ RW B i q.1 q.2.1)) (fun iw _ => M + 1 - (intOf iw).toNat)
  case atStart => exact ⟨0, by go_num, by omega, HT⟩
  case round =>
    obtain ⟨i, rfl, hi, HR⟩ := hrel
    clear HT
    by_cases hlt : i < M
    · have hle : (i : Int) + 1 ≤ (M : Int) := by omega
      have hwi : IntKind.i64.wrap (B + ((i : Int) + 1)) = B + ((i : Int) + 1) := by rw [IntKind.wrap_i64]; omega
      have CI := fun W => mkI (B + ((i : Int) + 1)) W
      have CS := fun W => mkI ((i : Int) + 1) W
      unfold vl at CI CS
      go_wp2_with fail
      refine (CI _).mono ?_; rintro e W3 ⟨rfl, b3⟩
      obtain ⟨q, hF, hRW⟩ := HR.out
      have H3 : Hid (FSt w1 T S hb (3 + 7 * i) q W3) := hF.below b3
      have hst := hRW.step hF.ti.1 hF.ti.2 (m := M) (by omega) hM7 (by omega) (by omega)
      have HST : Hid ((nxs q (kI (B + ((i : Int) + 1))) (kI ((i : Int) + 1))).2.2 = 0 ∧ RW B (i + 1) (nxs q (kI (B + ((i : Int) + 1))) (kI ((i : Int) + 1))).1 (nxs q (kI (B + ((i : Int) + 1))) (kI ((i : Int) + 1))).2.1) := hst
      clear b3 HR hF hRW hst
      go_wp2_with fail
      refine (CS _).mono ?_; rintro e W4 ⟨rfl, b4⟩
      have C4 := (H3.out.below b4).set (by omega) (kI (B + ((i : Int) + 1))) (kI ((i : Int) + 1)) (by constructor <;> simp <;> omega)
      rw [HST.out.1] at C4
      unfold vv vl tp at C4
      clear b4 H3
      go_wp2_with fail
      refine C4.mono ?_; rintro e W5 ⟨rfl, h5⟩
      have H5 : Hid (∃ q, FSt w1 T S hb (3 + 7 * (i + 1)) q W5 ∧ RW B (i + 1) q.1 q.2.1) := ⟨_, h5, HST.out.2⟩
      clear C4 h5 HST CI CS
      go_wp2_with fail
      go_round
      case rel => exact ⟨i + 1, by go_num, by omega, H5⟩
      case measure => simp [intOf]; omega
    · obtain rfl : i = M := by omega
      have hle : ¬ ((i : Int) + 1 ≤ (i : Int)) := by omega
      obtain ⟨q, hF, hRW⟩ := HR.out
      have hrd := hRW.reads hF.ti.1 hM7 (by omega) (by omega)
      have hpr := hF.pr
      have HPR : Hid (0 ≤ q.1.pr ∧ q.1.pr ≤ 65536 * ((3 + 7 * i : Nat) : Int)) := hpr
      have HRD : Hid (sumTo i (fun x => prd q.1.p (kn (B + (x + 1 : Nat)))) ≤ i + 1) := hrd
      have CP := hF.probes
      have HF : Hid (FSt w1 T S hb (3 + 7 * i) q wr) := hF
      have HRW : Hid (RW B i q.1 q.2.1) := hRW
      unfold tp at CP
      clear hF hRW hrd hpr HR
      go_wp2_with fail
      refine CP.mono ?_; rintro e W3 ⟨rfl, hw3⟩; rw [hw3]; clear hw3 CP
      go_wp2_with fail
      go_loopw [11] (fun iw wr' => ∃ j : Nat, iw = .int .i64 ((j : Int) + 1) ∧ j ≤ i ∧ Hid (∃ q', FSt w1 T S hb (3 + 7 * i + j) q' wr' ∧ q'.1.p = q.1.p ∧ q'.1.pr = q.1.pr + (sumTo j (fun x => prd q.1.p (kn (B + (x + 1 : Nat)))) : Nat))) (fun iw _ => i + 1 - (intOf iw).toNat)
      case atStart => exact ⟨0, by go_num, by omega, ⟨q, HF.out, rfl, by simp [sumTo]⟩⟩
      case round =>
        obtain ⟨j, rfl, hj, HRj⟩ := hrel
        clear HF
        by_cases hjlt : j < i
        · have hjle : (j : Int) + 1 ≤ (i : Int) := by omega
          have hwi : IntKind.i64.wrap (B + ((j : Int) + 1)) = B + ((j : Int) + 1) := by rw [IntKind.wrap_i64]; omega
          have CI := fun W => mkI (B + ((j : Int) + 1)) W
          have CS := fun W => mkI ((j : Int) + 1) W
          unfold vl at CI CS
          go_wp2_with fail
          refine (CI _).mono ?_; rintro e W4 ⟨rfl, b4⟩
          obtain ⟨q', hF, hp1, hp2⟩ := HRj.out
          have C5 := (hF.below b4).get (by omega) (kI (B + ((j : Int) + 1))) (by constructor <;> simp <;> omega)
          have hg : pget q'.1.p (kI (B + ((j : Int) + 1))) = kI ((j : Int) + 1) := by
            rw [hp1]; exact HRW.out.get (j + 1) (by omega) (by omega)
          rw [hg] at C5
          have HN : Hid (∀ W, FSt w1 T S hb (3 + 7 * i + j + 1) ({ q'.1 with pr := q'.1.pr + (prd q'.1.p (kI (B + ((j : Int) + 1))) : Nat) }, q'.2.1, q'.2.2) W → ∃ q', FSt w1 T S hb (3 + 7 * i + (j + 1)) q' W ∧ q'.1.p = q.1.p ∧ q'.1.pr = q.1.pr + (sumTo (j + 1) (fun x => prd q.1.p (kn (B + (x + 1 : Nat)))) : Nat)) := fun W h => ⟨_, h, hp1, by
            show q'.1.pr + (prd q'.1.p (kI (B + ((j : Int) + 1))) : Nat) = _
            rw [sumTo, hp1, hp2]
            have e : kI (B + ((j : Int) + 1)) = kn (B + ((j + 1 : Nat) : Int)) := rfl
            rw [e]; omega⟩
          unfold vv vl tp at C5
          clear b4 hF hp1 hp2 hg HRj
          go_wp2_with fail
          refine C5.mono ?_; rintro e W5 ⟨rfl, h5⟩
          have H5 : Hid _ := HN.out W5 h5
          clear C5 h5 HN
          have N := neq32 2 ((j : Int) + 1) 2 ((j : Int) + 1) ⟨#[]⟩ ⟨#[]⟩
          simp only [decide_true, Bool.not_true] at N
          unfold vl at N
          go_wp2_with fail
          refine (CS _).mono ?_; rintro e W6 ⟨rfl, b6⟩
          have H6 : Hid (∃ q', FSt w1 T S hb (3 + 7 * i + (j + 1)) q' W6 ∧ q'.1.p = q.1.p ∧ q'.1.pr = q.1.pr + (sumTo (j + 1) (fun x => prd q.1.p (kn (B + (x + 1 : Nat)))) : Nat)) := by
            obtain ⟨q', h1, h2⟩ := H5.out
            exact ⟨q', h1.below b6, h2⟩
          clear b6 H5 CI CS
          go_wp2_with fail
          go_round
          case rel => exact ⟨j + 1, by go_num, by omega, H6⟩
          case measure => simp [intOf]; omega
        · obtain rfl : j = i := by omega
          have hjle : ¬ ((j : Int) + 1 ≤ (j : Int)) := by omega
          obtain ⟨q', hF, hp1, hp2⟩ := HRj.out
          have CP := hF.probes
          have CT := hF.stats
          have hn : q'.1.p.n = 0 := by rw [hp1]; exact HRW.out.n0
          unfold ts sv tp at CT
          rw [hn] at CT
          unfold tp at CP
          obtain ⟨sm, hsm⟩ : ∃ sm, sumTo j (fun x => prd q.1.p (kn (B + (x + 1 : Nat)))) = sm := ⟨_, rfl⟩
          rw [hsm] at hp2
          have hs1 : sm ≤ j + 1 := by have := HRD.out; omega
          have hq := HPR.out
          generalize q'.1.pr = pr2 at *
          generalize q.1.pr = pr1 at *
          have hwd : IntKind.i64.wrap (pr2 - pr1) = pr2 - pr1 := by rw [IntKind.wrap_i64]; omega
          have hwj : IntKind.i64.wrap ((j : Int) + 1) = (j : Int) + 1 := by rw [IntKind.wrap_i64]; omega
          have hfin : pr2 - pr1 ≤ (j : Int) + 1 := by omega
          have F0 := fun W => fld0 0 (q'.1.p.z : Nat) (q'.1.p.g.f : Nat) q'.1.hint W
          unfold sv at F0
          have HBf : Hid (∀ W, FSt w1 T S hb (3 + 7 * j + j) q' W → Below w.heap.size w W) := fun W h => HBB.out W h.2
          clear hF hp1 HRj hn HRW
          go_wp2_with fail
          refine CP.mono ?_; rintro e W5 ⟨rfl, hw5⟩; rw [hw5]; clear hw5 CP
          go_wp2_with fail
          refine CT.mono ?_; rintro e W6 ⟨rfl, h6⟩
          have H6 : Hid _ := HBf.out W6 h6
          clear CT h6 HBf
          go_wp2_with fail
          go_ret
          exact ⟨rfl, H6.out⟩
set_option maxRecDepth 100000 in
set_option maxHeartbeats 8000000 in
theorem row_small (b m : Int) (M : Nat) (hM : min (max m 0) 700 = (M : Nat)) (hb1 : b < 2 * (M : Int)) (hb2 : b < 4611686018427387904) (w : World) :
    Calls Try.prog 5 #[.int .i64 b, .int .i64 m] w fun e w' => e = .returned (.bool true) ∧ Below w.heap.size w w' := by
  have hM7 : M ≤ 700 := by omega
  have hw2 : IntKind.i64.wrap (2 * (M : Int)) = 2 * (M : Int) := by rw [IntKind.wrap_i64]; omega
  have hw5 : IntKind.i64.wrap (2 * (M : Int) + 5) = 2 * (M : Int) + 5 := by rw [IntKind.wrap_i64]; omega
  have hc1 : ¬ (4611686018427387904 : Int) ≤ b := by omega
  have CF := fun w => fixed_any w
  have iv := H.Inv.new 400000 (by omega) (by omega)
  have C1 := fun w => H.new_walk w 400000 (by omega) (by omega)
  go_enter Try.func5, Try.ntmps5
  go_wp2_with fail
  refine (CF _).mono ?_; rintro e w1 ⟨rfl, hb1⟩
  have HB1 : Hid (Below w.heap.size w w1) := hb1
  clear hb1 CF
  have hp := new_hp w1 400000 (fun g => g < w1.heap.size) (fun g q => q)
  have B1 := b2 w1 (.map #[] 0) (.cells #[.int .i64 400000, .int .i64 0, .int .i64 0, .slice none 0 0, .map (some w1.heap.size)] 75)
  have C1' := C1 w1
  obtain ⟨W1, hW1⟩ : ∃ W1, (w1.alloc (.map #[] 0)).alloc (.cells #[.int .i64 400000, .int .i64 0, .int .i64 0, .slice none 0 0, .map (some w1.heap.size)] 75) = W1 := ⟨_, rfl⟩
  rw [hW1] at hp B1 C1'
  have C2 := ok4.new hp (by omega) iv
  have HBW : Hid (Below w1.heap.size w1 W1) := B1
  generalize hS : w1.heap.size + 1 = S at *
  clear iv hp B1 C1
  go_wp2_with fail
  generalize hB : 2 * (M : Int) + 5 = B at *
  refine C1'.mono ?_; rintro e w2 ⟨rfl, hw2'⟩; rw [hw2']; clear hw2' C1'
  go_wp2_with fail
  refine C2.mono ?_; rintro e W2 ⟨T, A, b', a, rfl, tt2, kk2⟩
  have HT : Hid (∃ q, FSt w1 T S w1.heap.size 3 q W2 ∧ RW B 0 q.1 q.2.1) := ⟨(rt0, rs0, 0), ⟨⟨A, b', a, tt2⟩, HBW.out.trans (kk2.below HBW.out.size (fun g hg => hg))⟩, rw0 B⟩
  have HBB : Hid (∀ W, Below w1.heap.size w1 W → Below w.heap.size w W) := fun W h => bthen HB1.out HB1.out.size h
  clear C2 tt2 kk2 HB1 HBW
  generalize w1.heap.size = hb at HT
  go_wp2_with fail
  go_loopw [9] (fun iw wr => ∃ i : Nat, iw = .int .i64 ((i : Int) + 1) ∧ i ≤ M ∧ Hid (∃ q, FSt w1 T S hb (3 + 7 * i) q wr ∧ RW B i q.1 q.2.1)) (fun iw _ => M + 1 - (intOf iw).toNat)
  case atStart => exact ⟨0, by go_num, by omega, HT⟩
  case round =>
    obtain ⟨i, rfl, hi, HR⟩ := hrel
    clear HT
    by_cases hlt : i < M
    · have hle : (i : Int) + 1 ≤ (M : Int) := by omega
      have hwi : IntKind.i64.wrap (B + ((i : Int) + 1)) = B + ((i : Int) + 1) := by rw [IntKind.wrap_i64]; omega
      have CI := fun W => mkI (B + ((i : Int) + 1)) W
      have CS := fun W => mkI ((i : Int) + 1) W
      unfold vl at CI CS
      go_wp2_with fail
      refine (CI _).mono ?_; rintro e W3 ⟨rfl, b3⟩
      obtain ⟨q, hF, hRW⟩ := HR.out
      have H3 : Hid (FSt w1 T S hb (3 + 7 * i) q W3) := hF.below b3
      have hst := hRW.step hF.ti.1 hF.ti.2 (m := M) (by omega) hM7 (by omega) (by omega)
      have HST : Hid ((nxs q (kI (B + ((i : Int) + 1))) (kI ((i : Int) + 1))).2.2 = 0 ∧ RW B (i + 1) (nxs q (kI (B + ((i : Int) + 1))) (kI ((i : Int) + 1))).1 (nxs q (kI (B + ((i : Int) + 1))) (kI ((i : Int) + 1))).2.1) := hst
      clear b3 HR hF hRW hst
      go_wp2_with fail
      refine (CS _).mono ?_; rintro e W4 ⟨rfl, b4⟩
      have C4 := (H3.out.below b4).set (by omega) (kI (B + ((i : Int) + 1))) (kI ((i : Int) + 1)) (by constructor <;> simp <;> omega)
      rw [HST.out.1] at C4
      unfold vv vl tp at C4
      clear b4 H3
      go_wp2_with fail
      refine C4.mono ?_; rintro e W5 ⟨rfl, h5⟩
      have H5 : Hid (∃ q, FSt w1 T S hb (3 + 7 * (i + 1)) q W5 ∧ RW B (i + 1) q.1 q.2.1) := ⟨_, h5, HST.out.2⟩
      clear C4 h5 HST CI CS
      go_wp2_with fail
      go_round
      case rel => exact ⟨i + 1, by go_num, by omega, H5⟩
      case measure => simp [intOf]; omega
    · obtain rfl : i = M := by omega
      have hle : ¬ ((i : Int) + 1 ≤ (i : Int)) := by omega
      obtain ⟨q, hF, hRW⟩ := HR.out
      have hrd := hRW.reads hF.ti.1 hM7 (by omega) (by omega)
      have hpr := hF.pr
      have HPR : Hid (0 ≤ q.1.pr ∧ q.1.pr ≤ 65536 * ((3 + 7 * i : Nat) : Int)) := hpr
      have HRD : Hid (sumTo i (fun x => prd q.1.p (kn (B + (x + 1 : Nat)))) ≤ i + 1) := hrd
      have CP := hF.probes
      have HF : Hid (FSt w1 T S hb (3 + 7 * i) q wr) := hF
      have HRW : Hid (RW B i q.1 q.2.1) := hRW
      unfold tp at CP
      clear hF hRW hrd hpr HR
      go_wp2_with fail
      refine CP.mono ?_; rintro e W3 ⟨rfl, hw3⟩; rw [hw3]; clear hw3 CP
      go_wp2_with fail
      go_loopw [11] (fun iw wr' => ∃ j : Nat, iw = .int .i64 ((j : Int) + 1) ∧ j ≤ i ∧ Hid (∃ q', FSt w1 T S hb (3 + 7 * i + j) q' wr' ∧ q'.1.p = q.1.p ∧ q'.1.pr = q.1.pr + (sumTo j (fun x => prd q.1.p (kn (B + (x + 1 : Nat)))) : Nat))) (fun iw _ => i + 1 - (intOf iw).toNat)
      case atStart => exact ⟨0, by go_num, by omega, ⟨q, HF.out, rfl, by simp [sumTo]⟩⟩
      case round =>
        obtain ⟨j, rfl, hj, HRj⟩ := hrel
        clear HF
        by_cases hjlt : j < i
        · have hjle : (j : Int) + 1 ≤ (i : Int) := by omega
          have hwi : IntKind.i64.wrap (B + ((j : Int) + 1)) = B + ((j : Int) + 1) := by rw [IntKind.wrap_i64]; omega
          have CI := fun W => mkI (B + ((j : Int) + 1)) W
          have CS := fun W => mkI ((j : Int) + 1) W
          unfold vl at CI CS
          go_wp2_with fail
          refine (CI _).mono ?_; rintro e W4 ⟨rfl, b4⟩
          obtain ⟨q', hF, hp1, hp2⟩ := HRj.out
          have C5 := (hF.below b4).get (by omega) (kI (B + ((j : Int) + 1))) (by constructor <;> simp <;> omega)
          have hg : pget q'.1.p (kI (B + ((j : Int) + 1))) = kI ((j : Int) + 1) := by
            rw [hp1]; exact HRW.out.get (j + 1) (by omega) (by omega)
          rw [hg] at C5
          have HN : Hid (∀ W, FSt w1 T S hb (3 + 7 * i + j + 1) ({ q'.1 with pr := q'.1.pr + (prd q'.1.p (kI (B + ((j : Int) + 1))) : Nat) }, q'.2.1, q'.2.2) W → ∃ q', FSt w1 T S hb (3 + 7 * i + (j + 1)) q' W ∧ q'.1.p = q.1.p ∧ q'.1.pr = q.1.pr + (sumTo (j + 1) (fun x => prd q.1.p (kn (B + (x + 1 : Nat)))) : Nat)) := fun W h => ⟨_, h, hp1, by
            show q'.1.pr + (prd q'.1.p (kI (B + ((j : Int) + 1))) : Nat) = _
            rw [sumTo, hp1, hp2]
            have e : kI (B + ((j : Int) + 1)) = kn (B + ((j + 1 : Nat) : Int)) := rfl
            rw [e]; omega⟩
          unfold vv vl tp at C5
          clear b4 hF hp1 hp2 hg HRj
          go_wp2_with fail
          refine C5.mono ?_; rintro e W5 ⟨rfl, h5⟩
          have H5 : Hid _ := HN.out W5 h5
          clear C5 h5 HN
          have N := neq32 2 ((j : Int) + 1) 2 ((j : Int) + 1) ⟨#[]⟩ ⟨#[]⟩
          simp only [decide_true, Bool.not_true] at N
          unfold vl at N
          go_wp2_with fail
          refine (CS _).mono ?_; rintro e W6 ⟨rfl, b6⟩
          have H6 : Hid (∃ q', FSt w1 T S hb (3 + 7 * i + (j + 1)) q' W6 ∧ q'.1.p = q.1.p ∧ q'.1.pr = q.1.pr + (sumTo (j + 1) (fun x => prd q.1.p (kn (B + (x + 1 : Nat)))) : Nat)) := by
            obtain ⟨q', h1, h2⟩ := H5.out
            exact ⟨q', h1.below b6, h2⟩
          clear b6 H5 CI CS
          go_wp2_with fail
          go_round
          case rel => exact ⟨j + 1, by go_num, by omega, H6⟩
          case measure => simp [intOf]; omega
        · obtain rfl : j = i := by omega
          have hjle : ¬ ((j : Int) + 1 ≤ (j : Int)) := by omega
          obtain ⟨q', hF, hp1, hp2⟩ := HRj.out
          have CP := hF.probes
          have CT := hF.stats
          have hn : q'.1.p.n = 0 := by rw [hp1]; exact HRW.out.n0
          unfold ts sv tp at CT
          rw [hn] at CT
          unfold tp at CP
          obtain ⟨sm, hsm⟩ : ∃ sm, sumTo j (fun x => prd q.1.p (kn (B + (x + 1 : Nat)))) = sm := ⟨_, rfl⟩
          rw [hsm] at hp2
          have hs1 : sm ≤ j + 1 := by have := HRD.out; omega
          have hq := HPR.out
          generalize q'.1.pr = pr2 at *
          generalize q.1.pr = pr1 at *
          have hwd : IntKind.i64.wrap (pr2 - pr1) = pr2 - pr1 := by rw [IntKind.wrap_i64]; omega
          have hwj : IntKind.i64.wrap ((j : Int) + 1) = (j : Int) + 1 := by rw [IntKind.wrap_i64]; omega
          have hfin : pr2 - pr1 ≤ (j : Int) + 1 := by omega
          have F0 := fun W => fld0 0 (q'.1.p.z : Nat) (q'.1.p.g.f : Nat) q'.1.hint W
          unfold sv at F0
          have HBf : Hid (∀ W, FSt w1 T S hb (3 + 7 * j + j) q' W → Below w.heap.size w W) := fun W h => HBB.out W h.2
          clear hF hp1 HRj hn HRW
          go_wp2_with fail
          refine CP.mono ?_; rintro e W5 ⟨rfl, hw5⟩; rw [hw5]; clear hw5 CP
          go_wp2_with fail
          refine CT.mono ?_; rintro e W6 ⟨rfl, h6⟩
          have H6 : Hid _ := HBf.out W6 h6
          clear CT h6 HBf
          go_wp2_with fail
          go_ret
          exact ⟨rfl, H6.out⟩
end Go.Proofs.Ytonopchpnhninaa
