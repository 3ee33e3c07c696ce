/- The walk of SortingOrders, of texts. -/
import Derived.Test.YtkmopcanaalemabGreatCg52
namespace Go.Proofs.YtkmopcanaalemabGreat
open Go.RowKit
set_option maxRecDepth 20000 in
set_option maxHeartbeats 8000000 in
theorem orders_strs {w : World} (hfix : ∀ W : World, Calls Tryz.prog 8 #[] W fun e w' => e = .returned (.bool true) ∧ Below W.heap.size W w') {av : Option Addr} {cv L : Nat} {X : Nat → ByteArray} (hv : Sin w av L X) (hL : L ≤ 1100000) (ta : Option Addr) (tL tc : Nat) :
    Calls Tryz.prog 5 #[.slice ta tL tc, .slice av L cv, .bool true] w fun e w' => e = .returned (.bool true) ∧ Below w.heap.size w w' := by
  have HV : Hid (Sin w av L X) := hv
  clear hv
  have CF := hfix w
  go_enter Tryz.func5, Tryz.ntmps5
  go_wp2_with fail
  refine CF.mono ?_; rintro e w1 ⟨rfl, hb1⟩
  have HB1 : Hid (Below w.heap.size w w1) := hb1
  clear CF hb1
  go_wp2_with fail
  go_loopw [7, 8] (fun vw iw wx => vw = .slice none 0 0 ∧ iw = .int .i64 0 ∧ Hid (Below w.heap.size w wx)) (fun _ iw _ => 0)
  case atStart => exact ⟨rfl, rfl, HB1⟩
  case round =>
    clear HB1
    obtain ⟨rfl, rfl, HB2⟩ := hrel
    obtain ⟨Wa, hWa⟩ : ∃ Wa, Wa = wr := ⟨_, rfl⟩
    subst hWa
    by_cases h0 : 0 < tL
    · have h3 : (0 : Int) < (tL : Int) := by omega
      go_wp2_with fail
      go_loopw [7, 9] (fun vw iw wx => ∃ (i m : Nat) (FF : Nat → V), iw = .int .i64 (i : Nat) ∧ i ≤ L ∧ m ≤ i ∧ Hid (Lv wx w.heap.size vw m FF ∧ (∀ j, j < m → Gtx (FF j)) ∧ Below w.heap.size w wx)) (fun _ iw _ => L - (intOf iw).toNat)
      case atStart => exact ⟨0, 0, fun _ => nil, rfl, by omega, by omega, Lv.nil _ _ _, fun j hj => absurd hj (Nat.not_lt_zero _), HB2.out⟩
      case round =>
        clear HB2
        obtain ⟨i, m, FF, rfl, hi, hmi, HLv⟩ := hrel
        obtain ⟨ak, ck, hu⟩ := HLv.out.1.form
        subst hu
        have hm2 : m ≤ 1100000 := by omega
        by_cases hk : i < L
        · have h1 : (i : Int) < (L : Int) := by omega
          obtain ⟨lb, off, rfl, hlb, q0⟩ := (HV.out.below HLv.out.2.2).at' i hk
          have wi : IntKind.i64.wrap ((i : Int) + 1) = (i : Int) + 1 := by rw [IntKind.wrap_i64]; omega
          obtain ⟨x, hx⟩ : ∃ x, X i = x := ⟨_, rfl⟩
          rw [hx] at q0
          clear hlb hx
          by_cases hz : x.size ≤ 200
          · have hz2 : (x.size : Int) ≤ 200 := by omega
            have C1 := mkS x wr
            unfold vl at C1
            have HZ : Hid (Gtx (ks x)) := ⟨rfl, fm_ks hz⟩
            clear hz
            go_wp2_with fail
            refine C1.mono ?_; rintro e w2 ⟨rfl, hb2⟩
            have hB2 := bthen HLv.out.2.2 HLv.out.2.2.size hb2
            obtain ⟨g, c, w3, hr, l3, hb3⟩ := Lv.push3 hB2 hB2.size (HLv.out.1.below hb2) (ks x) hm2
            have HL3 : Hid (Lv w3 w.heap.size (.slice (some ⟨g, 0, none⟩) (m + 1) c) (m + 1) (upd FF m (ks x)) ∧ (∀ j, j < m + 1 → Gtx (upd FF m (ks x) j)) ∧ Below w.heap.size w w3) := ⟨l3, fun j hj => by
              by_cases e : j = m
              · subst e; rw [upd_at]; exact HZ.out
              · rw [upd_ne _ _ e]; exact HLv.out.2.1 j (by omega), hb3⟩
            clear C1 hb2 hB2 l3 hb3 HLv HZ
            go_wp2_with (at_builtin; refine wp_app rfl _ _ 22 rfl 22 rfl _ _ rfl rfl hr ?_)
            go_round
            case rel => exact ⟨i + 1, m + 1, _, by first | rfl | simp, by omega, by omega, HL3⟩
            case measure => first | omega | (simp only [intOf]; omega) | (simp; omega)
          · have hz2 : ¬ (x.size : Int) ≤ 200 := by omega
            go_wp2
            go_round
            case rel => exact ⟨i + 1, m, FF, by first | rfl | simp, by omega, by omega, HLv⟩
            case measure => first | omega | (simp only [intOf]; omega) | (simp; omega)
        · have h1 : ¬ (i : Int) < (L : Int) := by omega
          clear hi hmi HV
          obtain ⟨n, hn⟩ : ∃ n, min m 60 = n := ⟨_, rfl⟩
          have hn60 : n ≤ 60 := by omega
          have hnm : n ≤ m := by omega
          have HNl : Hid (nlast FF (min m 60) = ((n : Nat) : Int)) := by
            have : nlast FF (min m 60) = ((n : Nat) : Int) := by rw [hn]; exact nlast_all n (fun j hj => (ok_str.gv _ (HLv.out.2.1 j (by omega))).1)
            exact this
          have C9 := begin16w HLv.out.1 (by omega) 0 (.slice none 0 0)
          unfold cw3 at C9
          have hcap : (n : Int) ≤ (ck : Int) := by
            rcases HLv.out.1.own.2 with ⟨e1, e2⟩ | ⟨_, _, _, e1, _, _, e4, _⟩
            · omega
            · injection e1 with _ _ e3; omega
          clear hk
          go_wp2_with fail
          refine C9.mono ?_; rintro e w9 ⟨T, S, hb, RT, G, t, s, rfl, bz, bj, bw9⟩
          rw [HNl.out]
          rw [hn] at bj
          obtain ⟨No, s1⟩ := S1.make ok_str HLv.out.2.2 HLv.out.1 bz bw9 bj hn60 hnm HLv.out.2.1
          have CS := s1.sort ok_str (by omega) hn60
          clear C9 bz bj bw9 s1 HNl hn
          go_wp2_with fail
          refine CS.mono ?_; rintro e w10 ⟨q, g, rfl, hq1, hq2, s2, sc, sr⟩
          have HS : Hid (S1 w w10 No Gtx T S hb (121000 + 2 * 0) n g w.heap.size ak m ck FF) := s2
          have HG : Hid (U.Sc n (fun k => FF (k - 1).toNat) g ∧ U.Srt ltV g n) := ⟨sc, sr⟩
          have wn : IntKind.i64.wrap ((n : Int) - 1) = (n : Int) - 1 := by rw [IntKind.wrap_i64]; omega
          clear CS s2 sc sr
          go_upto_region 17 with fail
          go_cut [93] from 78 to 93 (fun v wx => v = .bool false ∧ wx = w10)
          case first =>
            by_cases hn1 : 1 < n
            · have hq3 : ¬ (q : Int) < 1 := by have := hq1 hn1; omega
              have hq4 : (1 : Int) < (n : Int) := by omega
              go_wp2
              all_goals (go_meet; exact ⟨rfl, rfl⟩)
            · have hq4 : ¬ (1 : Int) < (n : Int) := by omega
              go_wp2
              all_goals (go_meet; exact ⟨rfl, rfl⟩)
          case rest =>
            obtain ⟨rfl, hwc⟩ := hcut
            subst hwc
            clear hq1 hq2 wn
            go_wp2_with fail
            go_loopw [16, 17, 18] (fun iw _ _ wx => ∃ k : Nat, iw = .int .i64 ((k : Int) + 2) ∧ k ≤ n ∧ Hid (S1 w wx No Gtx T S hb (121000 + 2 * k) n g w.heap.size ak m ck FF)) (fun iw _ _ _ => n + 2 - (intOf iw).toNat)
            case atStart => exact ⟨0, by first | rfl | simp, by omega, HS⟩
            case round =>
              clear HS
              obtain ⟨k, rfl, hkn, HS⟩ := hrel
              by_cases hk1 : k + 2 ≤ n
              · have h2 : (k : Int) + 2 ≤ (n : Int) := by omega
                have wk : IntKind.i64.wrap ((k : Int) + 2 + 1) = (k : Int) + 2 + 1 := by rw [IntKind.wrap_i64]; omega
                have wm : IntKind.i64.wrap ((k : Int) + 2 - 1) = (k : Int) + 2 - 1 := by rw [IntKind.wrap_i64]; omega
                have em : (k : Int) + 2 - 1 = (k : Int) + 1 := by omega
                have HO : Hid (ltV (g ((k : Int) + 2)) (g ((k : Int) + 1)) = false ∧ Gtx (g ((k : Int) + 2)) ∧ Gtx (g ((k : Int) + 1))) := ⟨HG.out.2 _ _ (by omega) (by omega) h2, HS.out.gd _ (by omega) h2, HS.out.gd _ (by omega) (by omega)⟩
                have HW : Hid (IntKind.i64.wrap ((k : Int) + 2 + 1) = (k : Int) + 2 + 1) := wk
                have CA := mkI ((k : Int) + 2) wr
                unfold vl at CA
                clear wk
                go_wp2_with fail
                refine CA.mono ?_; rintro e wa ⟨rfl, hba⟩
                have CG := (HS.out.below hba).get (by omega) ((k : Int) + 2) (by omega) h2 hn60
                clear CA hba
                go_wp2_with fail
                refine CG.mono ?_; rintro e wb ⟨rfl, pb⟩
                have HPb : Hid _ := pb
                have CA := mkI ((k : Int) + 1) wb
                unfold vl at CA
                clear CG pb
                go_wp2_with fail
                first | refine CA.mono ?_ | (rw [em]; refine CA.mono ?_)
                rintro e wd ⟨rfl, hbd⟩
                have CG := (HPb.out.below hbd).get (by omega) ((k : Int) + 1) (by omega) (by omega) hn60
                clear CA hbd em wm
                go_wp2_with fail
                refine CG.mono ?_; rintro e we ⟨rfl, pe⟩
                have HPe : Hid _ := pe
                have CO := ok_str.r we (g ((k : Int) + 2)) (g ((k : Int) + 1)) HO.out.2.1 HO.out.2.2
                clear CG pe
                go_wp2_with fail
                refine CO.mono ?_; rintro e wf ⟨o, rfl, ho, hbf⟩
                have ho2 : ¬ o < 0 := by rw [HO.out.1] at ho; simpa using ho
                have HPf : Hid _ := HPe.out.below hbf
                have wk := HW.out
                clear CO ho hbf HO HW
                go_wp2
                go_round
                case rel => exact ⟨k + 1, by first | rfl | simp | (simp; omega), by omega, HPf.out.more (by omega)⟩
                case measure => first | omega | (simp only [intOf]; omega) | (simp; omega)
              · have h2 : ¬ (k : Int) + 2 ≤ (n : Int) := by omega
                have hn0 : ¬ (n : Int) < 0 := by omega
                have CO := HS.out.often (by omega) hn60 hnm (fun x => (HG.out.1 x).trans (U.cnt_cl FF _ x n (fun i hi => by simp)))
                go_wp2_with fail
                refine CO.mono ?_; rintro e wg ⟨rfl, hbg⟩
                have HBg : Hid (Below w.heap.size w wg) := hbg
                clear CO hbg
                go_wp2
                go_ret
                exact ⟨rfl, HBg.out⟩
    · have h3 : ¬ (0 : Int) < (tL : Int) := by omega
      go_wp2_with fail
      go_loopw [7, 9] (fun vw iw wx => ∃ (i m : Nat) (FF : Nat → V), iw = .int .i64 (i : Nat) ∧ i ≤ L ∧ m ≤ i ∧ Hid (Lv wx w.heap.size vw m FF ∧ (∀ j, j < m → Gtx (FF j)) ∧ Below w.heap.size w wx)) (fun _ iw _ => L - (intOf iw).toNat)
      case atStart => exact ⟨0, 0, fun _ => nil, rfl, by omega, by omega, Lv.nil _ _ _, fun j hj => absurd hj (Nat.not_lt_zero _), HB2.out⟩
      case round =>
        clear HB2
        obtain ⟨i, m, FF, rfl, hi, hmi, HLv⟩ := hrel
        obtain ⟨ak, ck, hu⟩ := HLv.out.1.form
        subst hu
        have hm2 : m ≤ 1100000 := by omega
        by_cases hk : i < L
        · have h1 : (i : Int) < (L : Int) := by omega
          obtain ⟨lb, off, rfl, hlb, q0⟩ := (HV.out.below HLv.out.2.2).at' i hk
          have wi : IntKind.i64.wrap ((i : Int) + 1) = (i : Int) + 1 := by rw [IntKind.wrap_i64]; omega
          obtain ⟨x, hx⟩ : ∃ x, X i = x := ⟨_, rfl⟩
          rw [hx] at q0
          clear hlb hx
          by_cases hz : x.size ≤ 200
          · have hz2 : (x.size : Int) ≤ 200 := by omega
            have C1 := mkS x wr
            unfold vl at C1
            have HZ : Hid (Gtx (ks x)) := ⟨rfl, fm_ks hz⟩
            clear hz
            go_wp2_with fail
            refine C1.mono ?_; rintro e w2 ⟨rfl, hb2⟩
            have hB2 := bthen HLv.out.2.2 HLv.out.2.2.size hb2
            obtain ⟨g, c, w3, hr, l3, hb3⟩ := Lv.push3 hB2 hB2.size (HLv.out.1.below hb2) (ks x) hm2
            have HL3 : Hid (Lv w3 w.heap.size (.slice (some ⟨g, 0, none⟩) (m + 1) c) (m + 1) (upd FF m (ks x)) ∧ (∀ j, j < m + 1 → Gtx (upd FF m (ks x) j)) ∧ Below w.heap.size w w3) := ⟨l3, fun j hj => by
              by_cases e : j = m
              · subst e; rw [upd_at]; exact HZ.out
              · rw [upd_ne _ _ e]; exact HLv.out.2.1 j (by omega), hb3⟩
            clear C1 hb2 hB2 l3 hb3 HLv HZ
            go_wp2_with (at_builtin; refine wp_app rfl _ _ 22 rfl 22 rfl _ _ rfl rfl hr ?_)
            go_round
            case rel => exact ⟨i + 1, m + 1, _, by first | rfl | simp, by omega, by omega, HL3⟩
            case measure => first | omega | (simp only [intOf]; omega) | (simp; omega)
          · have hz2 : ¬ (x.size : Int) ≤ 200 := by omega
            go_wp2
            go_round
            case rel => exact ⟨i + 1, m, FF, by first | rfl | simp, by omega, by omega, HLv⟩
            case measure => first | omega | (simp only [intOf]; omega) | (simp; omega)
        · have h1 : ¬ (i : Int) < (L : Int) := by omega
          clear hi hmi HV
          obtain ⟨n, hn⟩ : ∃ n, min m 60 = n := ⟨_, rfl⟩
          have hn60 : n ≤ 60 := by omega
          have hnm : n ≤ m := by omega
          have HNl : Hid (nlast FF (min m 60) = ((n : Nat) : Int)) := by
            have : nlast FF (min m 60) = ((n : Nat) : Int) := by rw [hn]; exact nlast_all n (fun j hj => (ok_str.gv _ (HLv.out.2.1 j (by omega))).1)
            exact this
          have C9 := begin16w HLv.out.1 (by omega) 0 (.slice none 0 0)
          unfold cw3 at C9
          have hcap : (n : Int) ≤ (ck : Int) := by
            rcases HLv.out.1.own.2 with ⟨e1, e2⟩ | ⟨_, _, _, e1, _, _, e4, _⟩
            · omega
            · injection e1 with _ _ e3; omega
          clear hk
          go_wp2_with fail
          refine C9.mono ?_; rintro e w9 ⟨T, S, hb, RT, G, t, s, rfl, bz, bj, bw9⟩
          rw [HNl.out]
          rw [hn] at bj
          obtain ⟨No, s1⟩ := S1.make ok_str HLv.out.2.2 HLv.out.1 bz bw9 bj hn60 hnm HLv.out.2.1
          have CS := s1.sort ok_str (by omega) hn60
          clear C9 bz bj bw9 s1 HNl hn
          go_wp2_with fail
          refine CS.mono ?_; rintro e w10 ⟨q, g, rfl, hq1, hq2, s2, sc, sr⟩
          have HS : Hid (S1 w w10 No Gtx T S hb (121000 + 2 * 0) n g w.heap.size ak m ck FF) := s2
          have HG : Hid (U.Sc n (fun k => FF (k - 1).toNat) g ∧ U.Srt ltV g n) := ⟨sc, sr⟩
          have wn : IntKind.i64.wrap ((n : Int) - 1) = (n : Int) - 1 := by rw [IntKind.wrap_i64]; omega
          clear CS s2 sc sr
          go_upto_region 17 with fail
          go_cut [93] from 78 to 93 (fun v wx => v = .bool false ∧ wx = w10)
          case first =>
            by_cases hn1 : 1 < n
            · have hq3 : ¬ (q : Int) < 1 := by have := hq1 hn1; omega
              have hq4 : (1 : Int) < (n : Int) := by omega
              go_wp2
              all_goals (go_meet; exact ⟨rfl, rfl⟩)
            · have hq4 : ¬ (1 : Int) < (n : Int) := by omega
              go_wp2
              all_goals (go_meet; exact ⟨rfl, rfl⟩)
          case rest =>
            obtain ⟨rfl, hwc⟩ := hcut
            subst hwc
            clear hq1 hq2 wn
            go_wp2_with fail
            go_loopw [16, 17, 18] (fun iw _ _ wx => ∃ k : Nat, iw = .int .i64 ((k : Int) + 2) ∧ k ≤ n ∧ Hid (S1 w wx No Gtx T S hb (121000 + 2 * k) n g w.heap.size ak m ck FF)) (fun iw _ _ _ => n + 2 - (intOf iw).toNat)
            case atStart => exact ⟨0, by first | rfl | simp, by omega, HS⟩
            case round =>
              clear HS
              obtain ⟨k, rfl, hkn, HS⟩ := hrel
              by_cases hk1 : k + 2 ≤ n
              · have h2 : (k : Int) + 2 ≤ (n : Int) := by omega
                have wk : IntKind.i64.wrap ((k : Int) + 2 + 1) = (k : Int) + 2 + 1 := by rw [IntKind.wrap_i64]; omega
                have wm : IntKind.i64.wrap ((k : Int) + 2 - 1) = (k : Int) + 2 - 1 := by rw [IntKind.wrap_i64]; omega
                have em : (k : Int) + 2 - 1 = (k : Int) + 1 := by omega
                have HO : Hid (ltV (g ((k : Int) + 2)) (g ((k : Int) + 1)) = false ∧ Gtx (g ((k : Int) + 2)) ∧ Gtx (g ((k : Int) + 1))) := ⟨HG.out.2 _ _ (by omega) (by omega) h2, HS.out.gd _ (by omega) h2, HS.out.gd _ (by omega) (by omega)⟩
                have HW : Hid (IntKind.i64.wrap ((k : Int) + 2 + 1) = (k : Int) + 2 + 1) := wk
                have CA := mkI ((k : Int) + 2) wr
                unfold vl at CA
                clear wk
                go_wp2_with fail
                refine CA.mono ?_; rintro e wa ⟨rfl, hba⟩
                have CG := (HS.out.below hba).get (by omega) ((k : Int) + 2) (by omega) h2 hn60
                clear CA hba
                go_wp2_with fail
                refine CG.mono ?_; rintro e wb ⟨rfl, pb⟩
                have HPb : Hid _ := pb
                have CA := mkI ((k : Int) + 1) wb
                unfold vl at CA
                clear CG pb
                go_wp2_with fail
                first | refine CA.mono ?_ | (rw [em]; refine CA.mono ?_)
                rintro e wd ⟨rfl, hbd⟩
                have CG := (HPb.out.below hbd).get (by omega) ((k : Int) + 1) (by omega) (by omega) hn60
                clear CA hbd em wm
                go_wp2_with fail
                refine CG.mono ?_; rintro e we ⟨rfl, pe⟩
                have HPe : Hid _ := pe
                have CO := ok_str.r we (g ((k : Int) + 2)) (g ((k : Int) + 1)) HO.out.2.1 HO.out.2.2
                clear CG pe
                go_wp2_with fail
                refine CO.mono ?_; rintro e wf ⟨o, rfl, ho, hbf⟩
                have ho2 : ¬ o < 0 := by rw [HO.out.1] at ho; simpa using ho
                have HPf : Hid _ := HPe.out.below hbf
                have wk := HW.out
                clear CO ho hbf HO HW
                go_wp2
                go_round
                case rel => exact ⟨k + 1, by first | rfl | simp | (simp; omega), by omega, HPf.out.more (by omega)⟩
                case measure => first | omega | (simp only [intOf]; omega) | (simp; omega)
              · have h2 : ¬ (k : Int) + 2 ≤ (n : Int) := by omega
                have hn0 : ¬ (n : Int) < 0 := by omega
                have CO := HS.out.often (by omega) hn60 hnm (fun x => (HG.out.1 x).trans (U.cnt_cl FF _ x n (fun i hi => by simp)))
                go_wp2_with fail
                refine CO.mono ?_; rintro e wg ⟨rfl, hbg⟩
                have HBg : Hid (Below w.heap.size w wg) := hbg
                clear CO hbg
                go_wp2
                go_ret
                exact ⟨rfl, HBg.out⟩
end Go.Proofs.YtkmopcanaalemabGreat
