/- The walk of SortingSame. -/
import Derived.Test.YtkmopcanaalemabGreatCg48
import Derived.Test.YtkmopcanaalemabGreatCg49
namespace Go.Proofs.YtkmopcanaalemabGreat
open Go.RowKit
theorem enters17 : ∀ args w, (callFunc 17 args).run Tryz.prog w = .ok (.enter 17 args) w := enters_of Tryz.func17 (by kernel_rfl) rfl
theorem wr_nat (n : Nat) (h : n ≤ 1000) : IntKind.u64.wrap (n : Int) = (n : Int) ∧ IntKind.i64.wrap (n : Int) = (n : Int) ∧ wrap64 (n : Int) = (n : Int) := by
  refine ⟨by rw [IntKind.wrap_u64]; omega, by rw [IntKind.wrap_i64]; omega, by unfold wrap64; omega⟩
theorem wr_succ (k : Nat) (h : k ≤ 900) : IntKind.i64.wrap ((k : Int) + 1) = (k : Int) + 1 := (wr_nat (k + 1) (by omega)).2.1
theorem wr_succ2 (k : Nat) (h : k ≤ 900) : IntKind.i64.wrap ((k : Int) + 1 + 1) = (k : Int) + 1 + 1 := (wr_nat (k + 1 + 1) (by omega)).2.1
theorem lt_40 {r m : Nat} (h : r < m) (h2 : m ≤ 40) : r ≤ 1000 := by omega
theorem add_40 {i r m : Nat} (h : i < m) (h1 : r < m) (h2 : m ≤ 40) : i + r ≤ 1000 := by omega
theorem le_40 {m : Nat} (h2 : m ≤ 40) : m ≤ 1000 := by omega
theorem wrap_nat (turn : Int) : ∃ U : Nat, IntKind.u64.wrap turn = (U : Int) := by
  rw [IntKind.wrap_u64]
  exact Int.eq_ofNat_of_zero_le (Int.emod_nonneg _ (by decide))
theorem tmod_nat (a b : Nat) : (a : Int).tmod (b : Int) = ((a % b : Nat) : Int) := by rw [Int.tmod_eq_emod_of_nonneg (Int.natCast_nonneg a)]; simp
theorem rot_nat {turn : Int} {U : Nat} (h : IntKind.u64.wrap turn = (U : Int)) (m i : Nat) : rot turn m i = (i + U % m) % m := by unfold rot; rw [h]; rfl
theorem rot_facts (turn : Int) (m i : Nat) (hm : 0 < m) (hm2 : m ≤ 40) (hi : i < m) : ∃ U r j : Nat, IntKind.u64.wrap turn = (U : Int) ∧ IntKind.u64.wrap (m : Int) = (m : Int) ∧ (U : Int).tmod (m : Int) = (r : Int) ∧ IntKind.u64.wrap (r : Int) = (r : Int) ∧ IntKind.i64.wrap (r : Int) = (r : Int) ∧ wrap64 (r : Int) = (r : Int) ∧
    IntKind.i64.wrap ((i : Int) + (r : Int)) = (i : Int) + (r : Int) ∧ wrap64 ((i : Int) + (r : Int)) = (i : Int) + (r : Int) ∧ ((i : Int) + (r : Int)).tmod (m : Int) = (j : Int) ∧ IntKind.i64.wrap (j : Int) = (j : Int) ∧ wrap64 (j : Int) = (j : Int) ∧ j < m ∧ rot turn m i = j := by
  obtain ⟨U, hU⟩ := wrap_nat turn
  have hr : U % m < m := Nat.mod_lt _ hm
  have hj : (i + U % m) % m < m := Nat.mod_lt _ hm
  have a := wr_nat m (le_40 hm2)
  have b := wr_nat (U % m) (lt_40 hr hm2)
  have c := wr_nat (i + U % m) (add_40 hi hr hm2)
  have d := wr_nat ((i + U % m) % m) (lt_40 hj hm2)
  have t := tmod_nat (i + U % m) m
  rw [Int.natCast_add] at c t
  exact ⟨U, U % m, (i + U % m) % m, hU, a.1, tmod_nat U m, b.1, b.2.1, b.2.2, c.2.1, c.2.2, t, d.2.1, d.2.2, hj, rot_nat hU m i⟩
set_option maxRecDepth 20000 in
set_option maxHeartbeats 8000000 in
theorem same_walk {w : World} (hfix : ∀ W : World, Calls Tryz.prog 8 #[] W fun e w' => e = .returned (.bool true) ∧ Below W.heap.size W w') {av : Option Addr} {cv L : Nat} {F : Nat → Int} (hv : Nin w av L F) (hL : L ≤ 9223372036854775807) (hcap : L ≤ cv) (hcap2 : cv ≤ 9223372036854775807) (turn : Int) :
    Calls Tryz.prog 7 #[.slice av L cv, .int .i64 turn] w fun e w' => e = .returned (.bool true) ∧ Below w.heap.size w w' := by
  have CF := hfix w
  obtain ⟨m, hm⟩ : ∃ m : Nat, min L 40 = m := ⟨_, rfl⟩
  have hme : (min (L : Int) 40).toNat = m := by omega
  have hm40 : m ≤ 40 := by omega
  have HV : Hid (Nin w av m F) := hv.less (by omega)
  clear hv hfix
  go_enter Tryz.func7, Tryz.ntmps7
  go_wp2_with fail
  refine CF.mono ?_; rintro e w1 ⟨rfl, hb1⟩
  have HB1 : Hid (Below w.heap.size w w1) := hb1
  have hs1 := hb1.size
  clear CF hb1
  go_wp2_with fail
  have a0 : (w1.alloc (.cells #[.slice none 0 0, .int .i64 0, .slice none 0 0] 25)).heap[w1.heap.size]? = some (.cells #[.slice none 0 0, .int .i64 0, .slice none 0 0] 25) := (MapKept.heap_alloc w1 _).1
  have z1 : (w1.alloc (.cells #[.slice none 0 0, .int .i64 0, .slice none 0 0] 25)).heap.size = w1.heap.size + 1 := by simp
  have b0 : ((w1.alloc (.cells #[.slice none 0 0, .int .i64 0, .slice none 0 0] 25)).alloc (.cells #[.slice none 0 0, .int .i64 0, .slice none 0 0] 25)).heap[w1.heap.size + 1]? = some (.cells #[.slice none 0 0, .int .i64 0, .slice none 0 0] 25) := by
    have := (MapKept.heap_alloc (w1.alloc (.cells #[.slice none 0 0, .int .i64 0, .slice none 0 0] 25)) (.cells #[.slice none 0 0, .int .i64 0, .slice none 0 0] 25)).1
    rw [z1] at this
    exact this
  have z2 : ((w1.alloc (.cells #[.slice none 0 0, .int .i64 0, .slice none 0 0] 25)).alloc (.cells #[.slice none 0 0, .int .i64 0, .slice none 0 0] 25)).heap.size = w1.heap.size + 2 := by simp
  have k2 := b1 (w1.alloc (.cells #[.slice none 0 0, .int .i64 0, .slice none 0 0] 25)) (.cells #[.slice none 0 0, .int .i64 0, .slice none 0 0] 25)
  have a1 := (k2.block w1.heap.size (by omega)).trans a0
  have HS0 : Hid (Sx w ((w1.alloc (.cells #[.slice none 0 0, .int .i64 0, .slice none 0 0] 25)).alloc (.cells #[.slice none 0 0, .int .i64 0, .slice none 0 0] 25)) (w1.heap.size + 2) w1.heap.size (w1.heap.size + 1) (.slice none 0 0) (.slice none 0 0) 0 0 (fun k => (2, F k, ⟨#[]⟩)) (fun k => (2, F (rot turn m k), ⟨#[]⟩))) :=
    ⟨a1, b0, Lv.nil _ _ _, Lv.nil _ _ _, fun g e => by simp [Value.ownBlock] at e, by omega, by omega, by omega, by omega, bthen HB1.out hs1 (bthen (b1 _ _) (b1 _ _).size k2)⟩
  obtain ⟨W2, hW2⟩ : ∃ W2, (w1.alloc (.cells #[.slice none 0 0, .int .i64 0, .slice none 0 0] 25)).alloc (.cells #[.slice none 0 0, .int .i64 0, .slice none 0 0] 25) = W2 := ⟨_, rfl⟩
  rw [hW2] at HS0 ⊢
  obtain ⟨Ba, hBa⟩ : ∃ Ba, w1.heap.size = Ba := ⟨_, rfl⟩
  rw [hBa] at HS0 ⊢
  clear a0 z1 b0 z2 k2 a1 hW2 HB1 hs1 hBa
  go_loopw [7] (fun iw wr => ∃ i : Nat, iw = .int .i64 (i : Nat) ∧ i ≤ m ∧ Hid (∃ u v, Sx w wr (Ba + 2) Ba (Ba + 1) u v i i (fun k => (2, F k, ⟨#[]⟩)) (fun k => (2, F (rot turn m k), ⟨#[]⟩)))) (fun iw _ => m - (intOf iw).toNat)
  case atStart => exact ⟨0, rfl, by omega, ⟨_, _, HS0.out⟩⟩
  case round =>
    obtain ⟨i, rfl, hi, HR⟩ := hrel
    obtain ⟨u, v, sx⟩ := HR.out
    obtain ⟨ak, ck, hu⟩ := sx.l.form
    obtain ⟨bk, dk, hv⟩ := sx.r.form
    subst hu hv
    have HS : Hid (Sx w wr (Ba + 2) Ba (Ba + 1) (.slice ak i ck) (.slice bk i dk) i i (fun k => (2, F k, ⟨#[]⟩)) (fun k => (2, F (rot turn m k), ⟨#[]⟩))) := sx
    clear sx HR HS0
    by_cases hk : i < m
    · have h1 : (i : Int) < (m : Int) := by omega
      have sd := HS.out.below (bdrew1 wr)
      obtain ⟨lb, off, rfl, hlb, q0⟩ := (HV.out.below HS.out.k).at' i hk
      have C1 := mkI (F i) wr.drew
      have xa := HS.out.cellA
      have HSd : Hid (_) := sd
      have HFx : Hid (upd (fun k => ((2, F k, ⟨#[]⟩) : V)) i (2, F i, ⟨#[]⟩) = fun k => ((2, F k, ⟨#[]⟩) : V)) := by
        show _ = _
        funext k
        by_cases e : k = i
        · subst e; rw [upd_at]
        · rw [upd_ne _ _ e]
      clear sd hlb
      unfold vl at C1
      go_wp2_with fail
      go_cut [] (fun wx => ∃ u', Sx w wx (Ba + 2) Ba (Ba + 1) u' (.slice bk i dk) (i + 1) i (fun k => (2, F k, ⟨#[]⟩)) (fun k => (2, F (rot turn m k), ⟨#[]⟩)))
      case first =>
        go_region_law (first
          | (refine step_goE (by rfl) 17 _ _ (by rfl) _ (by simp [Act.eval]) enters17 C1 ?_; rintro e w3 ⟨rfl, hb3⟩
             have s3 := HSd.out.below hb3
             have xb := s3.cellA
             have s4 := s3.below (b1 w3 (.cells #[.int .i64 2, .int .i64 (F i), .string ⟨#[]⟩] 36))
             have xc := s4.cellA
             obtain ⟨g4, c4, w4, hr4, xd, fd, s5⟩ := s4.pushA (2, F i, ⟨#[]⟩) (Bx.made w3 (2, F i, ⟨#[]⟩)) (by omega)
             have HS5 : Hid _ := s5
             clear s3 s4 s5 hb3
             refine ⟨_, rfl, ?_⟩)
          | (refine step_run (by rfl) _ _ (by rfl) (by rfl) (by rfl) (by rfl) hr4 ?_))
        all_goals
          go_wp2_with fail
          go_meet
          exact ⟨_, HFx.out ▸ HS5.out⟩
      case rest =>
        obtain ⟨u', sx⟩ := hcut
        obtain ⟨ak', ck', hu'⟩ := sx.l.form
        subst hu'
        have HT : Hid (Sx w wc (Ba + 2) (Ba + 1) Ba (.slice bk i dk) (.slice ak' (i + 1) ck') i (i + 1) (fun k => (2, F (rot turn m k), ⟨#[]⟩)) (fun k => (2, F k, ⟨#[]⟩))) := sx.swap
        clear sx HS HSd HFx C1 xa q0
        have hm0 : ¬ (m : Int) = 0 := by omega
        have wi : IntKind.i64.wrap ((i : Int) + 1) = (i : Int) + 1 := wr_succ i (by omega)
        have hi400 : i ≤ 400 := by omega
        have hm0' : ¬ m = 0 := by omega
        have hmp : 0 < m := by omega
        have hnx : i + 1 ≤ m := hk
        have hms : m - (i + 1) < m - i := by omega
        obtain ⟨U, r, j, hU, hwm, ht1, hw1, hw2, hw2', hw3, hw3', ht2, hw4, hw4', hjm', hrot⟩ := rot_facts turn m i hmp hm40 hk
        have hjm : (j : Int) < (m : Int) := Int.ofNat_lt.2 hjm'
        have hj0 : ¬ (j : Int) < 0 := Int.not_lt.2 (Int.natCast_nonneg j)
        obtain ⟨lb', off', e', hlb, q0⟩ := (HV.out.below HT.out.k).at' j hjm'
        cases e'
        have HFx : Hid (upd (fun k => ((2, F (rot turn m k), ⟨#[]⟩) : V)) i (2, F j, ⟨#[]⟩) = fun k => ((2, F (rot turn m k), ⟨#[]⟩) : V)) := by
          show _ = _
          funext k
          by_cases e : k = i
          · subst e; rw [upd_at, hrot]
          · rw [upd_ne _ _ e]
        have sd := HT.out.below (bdrew1 wc)
        have C1 := mkI (F j) wc.drew
        have xa := HT.out.cellA
        have HSd : Hid (Sx w wc.drew (Ba + 2) (Ba + 1) Ba (.slice bk i dk) (.slice ak' (i + 1) ck') i (i + 1) (fun k => (2, F (rot turn m k), ⟨#[]⟩)) (fun k => (2, F k, ⟨#[]⟩))) := sd
        clear sd hlb hrot hk h1 hmp
        unfold vl at C1
        go_wp2_with fail
        go_region_law (first
          | (refine step_goE (by rfl) 17 _ _ (by rfl) _ (by simp [Act.eval]) enters17 C1 ?_; rintro e w3 ⟨rfl, hb3⟩
             have s3 := HSd.out.below hb3
             have xb := s3.cellA
             have s4 := s3.below (b1 w3 (.cells #[.int .i64 2, .int .i64 (F j), .string ⟨#[]⟩] 36))
             have xc := s4.cellA
             obtain ⟨g4, c4, w4, hr4, xd, fd, s5⟩ := s4.pushA (2, F j, ⟨#[]⟩) (Bx.made w3 (2, F j, ⟨#[]⟩)) hi400
             have HS5 : Hid _ := s5
             clear s3 s4 s5 hb3
             refine ⟨_, rfl, ?_⟩)
          | (refine step_run (by rfl) _ _ (by rfl) (by rfl) (by rfl) (by rfl) hr4 ?_))
        all_goals
          clear hU hwm ht1 hw1 hw2 hw2' hw3 hw3' ht2 hw4 hw4'
          go_wp2_with fail
          go_round
          case rel => exact ⟨i + 1, by first | rfl | simp, hnx, ⟨_, _, (HFx.out ▸ HS5.out).swap⟩⟩
          case measure => first | omega | (simp only [intOf]; omega) | (simp; omega)
    · have hi2 : i = m := by omega
      have h1 : ¬ (i : Int) < (m : Int) := by omega
      have hi40 : i ≤ 40 := by omega
      have HRt : Hid (U.Sc i (fun k => kn (F (k - 1).toNat)) (fun k => kn (F (rot turn m (k - 1).toNat)))) := by
        have : U.Sc i (fun k => kn (F (k - 1).toNat)) (fun k => kn (F (rot turn m (k - 1).toNat))) := by rw [hi2]; exact rot_sc turn m F
        exact this
      have HNa : Hid (nlast (fun k => ((2, F k, ⟨#[]⟩) : V)) (min i 60) = (i : Int)) := by
        have : nlast (fun k => ((2, F k, ⟨#[]⟩) : V)) (min i 60) = (i : Int) := by rw [show min i 60 = i by omega]; exact nlast_all i (fun j _ => fm_kn _)
        exact this
      have HNb : Hid (nlast (fun k => ((2, F (rot turn m k), ⟨#[]⟩) : V)) (min i 60) = (i : Int)) := by
        have : nlast (fun k => ((2, F (rot turn m k), ⟨#[]⟩) : V)) (min i 60) = (i : Int) := by rw [show min i 60 = i by omega]; exact nlast_all i (fun j _ => fm_kn _)
        exact this
      have x0 := HS.out.cellA
      have x1 : wr.cell? ⟨Ba, 1, none⟩ = some (.int .i64 0) := by simp only [World.cell?, HS.out.a]; rfl
      have x2 : wr.cell? ⟨Ba, 2, none⟩ = some (.slice none 0 0) := by simp only [World.cell?, HS.out.a]; rfl
      have C9 := begin16 HS.out.l (by omega) 0 (.slice none 0 0)
      unfold cw3 at C9
      clear hk hi2 hi
      go_wp2_with fail
      refine C9.mono ?_; rintro e w9 ⟨T, S, hb, RT, G, t, s, rfl, bz, bj, bw9⟩
      rw [HNa.out]
      rw [show min i 60 = i by omega] at bj
      have s9 := HS.out.below bw9
      have HZ1 : Hid (Bz (fun g => g < wr.heap.size) w9 T S hb RT G 1000 t s t s ∧ Bj (fun k => ((2, F k, ⟨#[]⟩) : V)) i t s ∧ Below wr.heap.size wr w9) := ⟨bz, bj, bw9⟩
      have y0 := s9.swap.cellA
      have y1 : w9.cell? ⟨Ba + 1, 1, none⟩ = some (.int .i64 0) := by simp only [World.cell?, s9.b]; rfl
      have y2 : w9.cell? ⟨Ba + 1, 2, none⟩ = some (.slice none 0 0) := by simp only [World.cell?, s9.b]; rfl
      have C10 := begin16 s9.r (by omega) 0 (.slice none 0 0)
      unfold cw3 at C10
      clear C9 bz bj bw9 s9 x0 x1 x2
      go_wp2_with fail
      refine C10.mono ?_; rintro e w10 ⟨T', S', hb', RT', G', t', s', rfl, bz, bj, bw10⟩
      rw [HNb.out]
      rw [show min i 60 = i by omega] at bj
      have HP0 : Hid (Du2 w w10 T S hb T' S' hb' 1000 i (fun k => kn (F (k - 1).toNat)) (fun k => kn (F (rot turn m (k - 1).toNat)))) := Du2.make HS.out.k HZ1.out.1 bz HZ1.out.2.2 bw10 HZ1.out.2.1 bj (by omega) (fun j _ => gi_kn _) (fun j _ => gi_kn _)
      have CS := HP0.out.sort (by omega) (by omega)
      clear C10 bz bj bw10 y0 y1 y2 HZ1 HP0
      go_wp2_with fail
      refine CS.mono ?_; rintro e w11 ⟨q1, g1, rfl, p11, sc1, sr1, gi1⟩
      have HG1 : Hid (U.Sc i (fun k => kn (F (k - 1).toNat)) g1 ∧ U.Srt ltI g1 i ∧ ∀ k, 1 ≤ k → k ≤ (i : Int) → Gi (g1 k)) := ⟨sc1, sr1, gi1⟩
      have CS2 := p11.swap.sort (by omega) (by omega)
      clear CS p11 sc1 sr1 gi1
      go_wp2_with fail
      refine CS2.mono ?_; rintro e w12 ⟨q2, g2, rfl, p12, sc2, sr2, gi2⟩
      have HG : Hid ((∀ k, 1 ≤ k → k ≤ (i : Int) → Gi (g1 k)) ∧ U.Srt ltI g1 i ∧ U.Sc i g1 g2) := ⟨HG1.out.2.2, HG1.out.2.1, ((sc_symm HG1.out.1).trans HRt.out).trans sc2⟩
      have HE2 : Hid (∀ k, 1 ≤ k → k ≤ (i : Int) → g1 k = g2 k) := U.srt_same od_int anti_int i HG.out.1 gi2 HG.out.2.1 sr2 HG.out.2.2
      have HP : Hid (Du2 w w12 T S hb T' S' hb' (241000 + 2 * 0) i g1 g2) := p12.swap
      clear CS2 p12 sc2 sr2 gi2 HG1 HRt
      go_wp2_with fail
      go_loopw [20] (fun iw wx => ∃ k : Nat, iw = .int .i64 ((k : Int) + 1) ∧ k ≤ i ∧ Hid (Du2 w wx T S hb T' S' hb' (241000 + 2 * k) i g1 g2)) (fun iw _ => i + 1 - (intOf iw).toNat)
      case atStart => exact ⟨0, by first | rfl | simp, by omega, HP⟩
      case round =>
        clear HP
        obtain ⟨k, rfl, hki, HP⟩ := hrel
        by_cases hk1 : k < i
        · have h2 : (k : Int) + 1 ≤ (i : Int) := by omega
          have wk : IntKind.i64.wrap ((k : Int) + 1 + 1) = (k : Int) + 1 + 1 := wr_succ2 k (by omega)
          have HGG : Hid (g1 ((k : Int) + 1) = g2 ((k : Int) + 1)) := HE2.out _ (by omega) (by omega)
          have CA := mkI ((k : Int) + 1) wr
          unfold vl at CA
          go_wp2_with fail
          refine CA.mono ?_; rintro e wa ⟨rfl, hba⟩
          have pa := HP.out.below hba
          have CG := pa.get (by omega) ((k : Int) + 1) (by omega) h2 (by omega)
          clear CA hba pa
          go_wp2_with fail
          refine CG.mono ?_; rintro e wb ⟨rfl, pb⟩
          have HPb : Hid _ := pb
          have CA := mkI ((k : Int) + 1) wb
          unfold vl at CA
          clear CG pb
          go_wp2_with fail
          refine CA.mono ?_; rintro e wd ⟨rfl, hbd⟩
          have pd := HPb.out.below hbd
          have CG := pd.swap.get (by omega) ((k : Int) + 1) (by omega) h2 (by omega)
          rw [← HGG.out] at CG
          clear CA hbd pd HGG
          go_wp2_with fail
          refine CG.mono ?_; rintro e we ⟨rfl, pe⟩
          have HPe : Hid _ := pe.swap
          have hnq := neq32 (g1 ((k : Int) + 1)).1 (g1 ((k : Int) + 1)).2.1 (g1 ((k : Int) + 1)).1 (g1 ((k : Int) + 1)).2.1 (g1 ((k : Int) + 1)).2.2 (g1 ((k : Int) + 1)).2.2 we
          simp only [decide_true, Bool.not_true] at hnq
          clear CG pe
          go_wp2
          go_round
          case rel => exact ⟨k + 1, by first | rfl | simp | (simp; omega), by omega, HPe.out.more (by omega)⟩
          case measure => first | omega | (simp only [intOf]; omega) | (simp; omega)
        · have h2 : ¬ (k : Int) + 1 ≤ (i : Int) := by omega
          have HP : Hid (Du2 w wr T S hb T' S' hb' 241120 i g1 g2) := HP.out.more (by omega)
          have CS := HP.out.swap.sort (by omega) (by omega)
          go_wp2_with fail
          refine CS.mono ?_; rintro e w13 ⟨q3, g3, rfl, p13, sc3, sr3, gi3⟩
          have HE3 : Hid (∀ k, 1 ≤ k → k ≤ (i : Int) → g1 k = g3 k) := U.srt_same od_int anti_int i HG.out.1 gi3 HG.out.2.1 sr3 (HG.out.2.2.trans sc3)
          have HP : Hid (Du2 w w13 T S hb T' S' hb' (361120 + 2 * 0) i g1 g3) := p13.swap
          clear CS p13 sc3 sr3 gi3
          go_wp2_with fail
          go_loopw [21] (fun iw wx => ∃ k : Nat, iw = .int .i64 ((k : Int) + 1) ∧ k ≤ i ∧ Hid (Du2 w wx T S hb T' S' hb' (361120 + 2 * k) i g1 g3)) (fun iw _ => i + 1 - (intOf iw).toNat)
          case atStart => exact ⟨0, by first | rfl | simp, by omega, HP⟩
          case round =>
            clear HP
            obtain ⟨k, rfl, hki, HP⟩ := hrel
            by_cases hk1 : k < i
            · have h2 : (k : Int) + 1 ≤ (i : Int) := by omega
              have wk : IntKind.i64.wrap ((k : Int) + 1 + 1) = (k : Int) + 1 + 1 := wr_succ2 k (by omega)
              have HGG : Hid (g1 ((k : Int) + 1) = g3 ((k : Int) + 1)) := HE3.out _ (by omega) (by omega)
              have CA := mkI ((k : Int) + 1) wr
              unfold vl at CA
              go_wp2_with fail
              refine CA.mono ?_; rintro e wa ⟨rfl, hba⟩
              have pa := HP.out.below hba
              have CG := pa.get (by omega) ((k : Int) + 1) (by omega) h2 (by omega)
              clear CA hba pa
              go_wp2_with fail
              refine CG.mono ?_; rintro e wb ⟨rfl, pb⟩
              have HPb : Hid _ := pb
              have CA := mkI ((k : Int) + 1) wb
              unfold vl at CA
              clear CG pb
              go_wp2_with fail
              refine CA.mono ?_; rintro e wd ⟨rfl, hbd⟩
              have pd := HPb.out.below hbd
              have CG := pd.swap.get (by omega) ((k : Int) + 1) (by omega) h2 (by omega)
              rw [← HGG.out] at CG
              clear CA hbd pd HGG
              go_wp2_with fail
              refine CG.mono ?_; rintro e we ⟨rfl, pe⟩
              have HPe : Hid _ := pe.swap
              have hnq := neq32 (g1 ((k : Int) + 1)).1 (g1 ((k : Int) + 1)).2.1 (g1 ((k : Int) + 1)).1 (g1 ((k : Int) + 1)).2.1 (g1 ((k : Int) + 1)).2.2 (g1 ((k : Int) + 1)).2.2 we
              simp only [decide_true, Bool.not_true] at hnq
              clear CG pe
              go_wp2
              go_round
              case rel => exact ⟨k + 1, by first | rfl | simp | (simp; omega), by omega, HPe.out.more (by omega)⟩
              case measure => first | omega | (simp only [intOf]; omega) | (simp; omega)
            · have h2 : ¬ (k : Int) + 1 ≤ (i : Int) := by omega
              have HP : Hid (Du2 w wr T S hb T' S' hb' 361240 i g1 g3) := HP.out.more (by omega)
              go_wp2
              go_ret
              exact ⟨rfl, HP.out.k⟩
end Go.Proofs.YtkmopcanaalemabGreat
