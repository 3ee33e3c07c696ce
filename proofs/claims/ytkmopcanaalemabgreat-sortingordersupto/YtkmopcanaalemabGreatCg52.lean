/- The walk of SortingOrders. -/
import Derived.Test.YtkmopcanaalemabGreatCg51
import Derived.Test.YtkmopcanaalemabGreatCg48
namespace Go.Proofs.YtkmopcanaalemabGreat
open Go.RowKit

/-- A list of texts that came in. -/
structure Sin (w : World) (a : Option Addr) (L : Nat) (X : Nat → ByteArray) : Prop where
  at' : ∀ i, i < L → ∃ lb off, a = some ⟨lb, off, none⟩ ∧ lb < w.heap.size ∧ w.cell? ⟨lb, off + i, none⟩ = some (.string (X i))
theorem Sin.below {w w' : World} {a : Option Addr} {L : Nat} {X : Nat → ByteArray} (h : Sin w a L X) (k : Below w.heap.size w w') : Sin w' a L X := ⟨fun i hi => by
  obtain ⟨lb, off, e, hl, c0⟩ := h.at' i hi
  exact ⟨lb, off, e, Nat.lt_of_lt_of_le hl k.size, by rw [k.cell (by exact hl)]; exact c0⟩⟩
theorem fm_ks {s : ByteArray} (h : s.size ≤ 200) : fm (ks s) = true := by simp [fm, inF]; omega
set_option maxRecDepth 20000 in
set_option maxHeartbeats 8000000 in
theorem orders_ints {w : World} (hfix : ∀ W : World, Calls Tryz.prog 8 #[] W fun e w' => e = .returned (.bool true) ∧ Below W.heap.size W w') {av : Option Addr} {cv L : Nat} {F : Nat → Int} (hv : Nin w av L F) (hL : L ≤ 1100000) (ta : Option Addr) (tL tc : Nat) :
    Calls Tryz.prog 5 #[.slice av L cv, .slice ta tL tc, .bool false] w fun e w' => e = .returned (.bool true) ∧ Below w.heap.size w w' := by
  have HV : Hid (Nin w av L F) := hv
  clear hv
  have CF := hfix w
  go_enter Tryz.func5, Tryz.ntmps5
  go_wp2_with fail
  refine CF.mono ?_; rintro e w1 ⟨rfl, hb1⟩
  have HB1 : Hid (Below w.heap.size w w1) := hb1
  clear CF hb1
  go_wp2_with fail
  go_loopw [7, 8] (fun vw iw wx => ∃ i : Nat, iw = .int .i64 (i : Nat) ∧ i ≤ L ∧ Hid (Lv wx w.heap.size vw i (fun k => kn (F k)) ∧ Below w.heap.size w wx)) (fun _ iw _ => L - (intOf iw).toNat)
  case atStart => exact ⟨0, rfl, by omega, Lv.nil _ _ _, HB1.out⟩
  case round =>
    clear HB1
    obtain ⟨m, rfl, hi, HR⟩ := hrel
    obtain ⟨ak, ck, hu⟩ := HR.out.1.form
    subst hu
    by_cases hk : m < L
    · have h1 : (m : Int) < (L : Int) := by omega
      obtain ⟨lb, off, rfl, hlb, q0⟩ := (HV.out.below HR.out.2).at' m hk
      have wi : IntKind.i64.wrap ((m : Int) + 1) = (m : Int) + 1 := by rw [IntKind.wrap_i64]; omega
      have C1 := mkI (F m) wr
      unfold vl at C1
      have HFx : Hid (upd (fun k => (kn (F k) : V)) m (kn (F m)) = fun k => (kn (F k) : V)) := by
        show _ = _
        funext k
        by_cases e : k = m
        · subst e; rw [upd_at]
        · rw [upd_ne _ _ e]
      clear hlb
      go_wp2_with fail
      refine C1.mono ?_; rintro e w2 ⟨rfl, hb2⟩
      have hB2 := bthen HR.out.2 HR.out.2.size hb2
      obtain ⟨g, c, w3, hr, l3, hb3⟩ := Lv.push3 hB2 hB2.size (HR.out.1.below hb2) (kn (F m)) (by omega)
      have HL3 : Hid (Lv w3 w.heap.size (.slice (some ⟨g, 0, none⟩) (m + 1) c) (m + 1) (fun k => kn (F k)) ∧ Below w.heap.size w w3) := ⟨HFx.out ▸ l3, hb3⟩
      clear C1 hb2 hB2 l3 hb3 HFx HR
      go_wp2_with (at_builtin; refine wp_app rfl _ _ 22 rfl 22 rfl _ _ rfl rfl hr ?_)
      go_round
      case rel => exact ⟨m + 1, by first | rfl | simp, by omega, HL3⟩
      case measure => first | omega | (simp only [intOf]; omega) | (simp; omega)
    · have h1 : ¬ (m : Int) < (L : Int) := by omega
      have hm2 : m ≤ 1100000 := by omega
      have HLv : Hid (Lv wr w.heap.size (.slice ak m ck) m (fun k => kn (F k)) ∧ (∀ j, j < m → Gi ((fun k => kn (F k)) j)) ∧ Below w.heap.size w wr) := ⟨HR.out.1, fun j _ => rfl, HR.out.2⟩
      obtain ⟨FF, hFF⟩ : ∃ FF : Nat → V, (fun k => kn (F k)) = FF := ⟨_, rfl⟩
      rw [hFF] at HLv
      clear HR hFF HV
      obtain ⟨Wa, hWa⟩ : ∃ Wa, Wa = wr := ⟨_, rfl⟩
      subst hWa
      clear hi hk
      go_wp2_with fail
      go_loopw [7, 9] (fun vw iw wx => vw = .slice ak m ck ∧ iw = .int .i64 0 ∧ Hid (Lv wx w.heap.size (.slice ak m ck) m FF ∧ (∀ j, j < m → Gi (FF j)) ∧ Below w.heap.size w wx)) (fun _ iw _ => 0)
      case atStart => exact ⟨rfl, rfl, HLv⟩
      case round =>
        clear HLv
        obtain ⟨rfl, rfl, HLv⟩ := hrel
        by_cases hk : 0 < tL
        · have h3 : (0 : Int) < (tL : Int) := by omega
          obtain ⟨n, hn⟩ : ∃ n, min m 60 = n := ⟨_, rfl⟩
          have hn60 : n ≤ 60 := by omega
          have hnm : n ≤ m := by omega
          have HNl : Hid (nlast FF (min m 60) = ((n : Nat) : Int)) := by
            have : nlast FF (min m 60) = ((n : Nat) : Int) := by rw [hn]; exact nlast_all n (fun j hj => (ok_int.gv _ (HLv.out.2.1 j (by omega))).1)
            exact this
          have C9 := begin16w HLv.out.1 (by omega) 0 (.slice none 0 0)
          unfold cw3 at C9
          have hcap : (n : Int) ≤ (ck : Int) := by
            rcases HLv.out.1.own.2 with ⟨e1, e2⟩ | ⟨_, _, _, e1, _, _, e4, _⟩
            · omega
            · injection e1 with _ _ e3; omega
          clear hk
          go_wp2_with fail
          refine C9.mono ?_; rintro e w9 ⟨T, S, hb, RT, G, t, s, rfl, bz, bj, bw9⟩
          rw [HNl.out]
          rw [hn] at bj
          obtain ⟨No, s1⟩ := S1.make ok_int HLv.out.2.2 HLv.out.1 bz bw9 bj hn60 hnm HLv.out.2.1
          have CS := s1.sort ok_int (by omega) hn60
          clear C9 bz bj bw9 s1 HNl hn
          go_wp2_with fail
          refine CS.mono ?_; rintro e w10 ⟨q, g, rfl, hq1, hq2, s2, sc, sr⟩
          have HS : Hid (S1 w w10 No Gi T S hb (121000 + 2 * 0) n g w.heap.size ak m ck FF) := s2
          have HG : Hid (U.Sc n (fun k => FF (k - 1).toNat) g ∧ U.Srt ltI g n) := ⟨sc, sr⟩
          have wn : IntKind.i64.wrap ((n : Int) - 1) = (n : Int) - 1 := by rw [IntKind.wrap_i64]; omega
          clear CS s2 sc sr
          go_upto_region 17 with fail
          go_cut [93] from 78 to 93 (fun v wx => v = .bool false ∧ wx = w10)
          case first =>
            by_cases hn1 : 1 < n
            · have hq3 : ¬ (q : Int) < 1 := by have := hq1 hn1; omega
              have hq4 : (1 : Int) < (n : Int) := by omega
              go_wp2
              all_goals (go_meet; exact ⟨rfl, rfl⟩)
            · have hq4 : ¬ (1 : Int) < (n : Int) := by omega
              go_wp2
              all_goals (go_meet; exact ⟨rfl, rfl⟩)
          case rest =>
            obtain ⟨rfl, hwc⟩ := hcut
            subst hwc
            clear hq1 hq2 wn
            go_wp2_with fail
            go_loopw [16, 17, 18] (fun iw _ _ wx => ∃ k : Nat, iw = .int .i64 ((k : Int) + 2) ∧ k ≤ n ∧ Hid (S1 w wx No Gi T S hb (121000 + 2 * k) n g w.heap.size ak m ck FF)) (fun iw _ _ _ => n + 2 - (intOf iw).toNat)
            case atStart => exact ⟨0, by first | rfl | simp, by omega, HS⟩
            case round =>
              clear HS
              obtain ⟨k, rfl, hkn, HS⟩ := hrel
              by_cases hk1 : k + 2 ≤ n
              · have h2 : (k : Int) + 2 ≤ (n : Int) := by omega
                have wk : IntKind.i64.wrap ((k : Int) + 2 + 1) = (k : Int) + 2 + 1 := by rw [IntKind.wrap_i64]; omega
                have wm : IntKind.i64.wrap ((k : Int) + 2 - 1) = (k : Int) + 2 - 1 := by rw [IntKind.wrap_i64]; omega
                have em : (k : Int) + 2 - 1 = (k : Int) + 1 := by omega
                have HO : Hid (ltI (g ((k : Int) + 2)) (g ((k : Int) + 1)) = false ∧ Gi (g ((k : Int) + 2)) ∧ Gi (g ((k : Int) + 1))) := ⟨HG.out.2 _ _ (by omega) (by omega) h2, HS.out.gd _ (by omega) h2, HS.out.gd _ (by omega) (by omega)⟩
                have HW : Hid (IntKind.i64.wrap ((k : Int) + 2 + 1) = (k : Int) + 2 + 1) := wk
                have CA := mkI ((k : Int) + 2) wr
                unfold vl at CA
                clear wk
                go_wp2_with fail
                refine CA.mono ?_; rintro e wa ⟨rfl, hba⟩
                have CG := (HS.out.below hba).get (by omega) ((k : Int) + 2) (by omega) h2 hn60
                clear CA hba
                go_wp2_with fail
                refine CG.mono ?_; rintro e wb ⟨rfl, pb⟩
                have HPb : Hid _ := pb
                have CA := mkI ((k : Int) + 1) wb
                unfold vl at CA
                clear CG pb
                go_wp2_with fail
                first | refine CA.mono ?_ | (rw [em]; refine CA.mono ?_)
                rintro e wd ⟨rfl, hbd⟩
                have CG := (HPb.out.below hbd).get (by omega) ((k : Int) + 1) (by omega) (by omega) hn60
                clear CA hbd em wm
                go_wp2_with fail
                refine CG.mono ?_; rintro e we ⟨rfl, pe⟩
                have HPe : Hid _ := pe
                have CO := ok_int.r we (g ((k : Int) + 2)) (g ((k : Int) + 1)) HO.out.2.1 HO.out.2.2
                clear CG pe
                go_wp2_with fail
                refine CO.mono ?_; rintro e wf ⟨o, rfl, ho, hbf⟩
                have ho2 : ¬ o < 0 := by rw [HO.out.1] at ho; simpa using ho
                have HPf : Hid _ := HPe.out.below hbf
                have wk := HW.out
                clear CO ho hbf HO HW
                go_wp2
                go_round
                case rel => exact ⟨k + 1, by first | rfl | simp | (simp; omega), by omega, HPf.out.more (by omega)⟩
                case measure => first | omega | (simp only [intOf]; omega) | (simp; omega)
              · have h2 : ¬ (k : Int) + 2 ≤ (n : Int) := by omega
                have hn0 : ¬ (n : Int) < 0 := by omega
                have CO := HS.out.often (by omega) hn60 hnm (fun x => (HG.out.1 x).trans (U.cnt_cl FF _ x n (fun i hi => by simp)))
                go_wp2_with fail
                refine CO.mono ?_; rintro e wg ⟨rfl, hbg⟩
                have HBg : Hid (Below w.heap.size w wg) := hbg
                clear CO hbg
                go_wp2
                go_ret
                exact ⟨rfl, HBg.out⟩
        · have h3 : ¬ (0 : Int) < (tL : Int) := by omega
          obtain ⟨n, hn⟩ : ∃ n, min m 60 = n := ⟨_, rfl⟩
          have hn60 : n ≤ 60 := by omega
          have hnm : n ≤ m := by omega
          have HNl : Hid (nlast FF (min m 60) = ((n : Nat) : Int)) := by
            have : nlast FF (min m 60) = ((n : Nat) : Int) := by rw [hn]; exact nlast_all n (fun j hj => (ok_int.gv _ (HLv.out.2.1 j (by omega))).1)
            exact this
          have C9 := begin16w HLv.out.1 (by omega) 0 (.slice none 0 0)
          unfold cw3 at C9
          have hcap : (n : Int) ≤ (ck : Int) := by
            rcases HLv.out.1.own.2 with ⟨e1, e2⟩ | ⟨_, _, _, e1, _, _, e4, _⟩
            · omega
            · injection e1 with _ _ e3; omega
          clear hk
          go_wp2_with fail
          refine C9.mono ?_; rintro e w9 ⟨T, S, hb, RT, G, t, s, rfl, bz, bj, bw9⟩
          rw [HNl.out]
          rw [hn] at bj
          obtain ⟨No, s1⟩ := S1.make ok_int HLv.out.2.2 HLv.out.1 bz bw9 bj hn60 hnm HLv.out.2.1
          have CS := s1.sort ok_int (by omega) hn60
          clear C9 bz bj bw9 s1 HNl hn
          go_wp2_with fail
          refine CS.mono ?_; rintro e w10 ⟨q, g, rfl, hq1, hq2, s2, sc, sr⟩
          have HS : Hid (S1 w w10 No Gi T S hb (121000 + 2 * 0) n g w.heap.size ak m ck FF) := s2
          have HG : Hid (U.Sc n (fun k => FF (k - 1).toNat) g ∧ U.Srt ltI g n) := ⟨sc, sr⟩
          have wn : IntKind.i64.wrap ((n : Int) - 1) = (n : Int) - 1 := by rw [IntKind.wrap_i64]; omega
          clear CS s2 sc sr
          go_upto_region 17 with fail
          go_cut [93] from 78 to 93 (fun v wx => v = .bool false ∧ wx = w10)
          case first =>
            by_cases hn1 : 1 < n
            · have hq3 : ¬ (q : Int) < 1 := by have := hq1 hn1; omega
              have hq4 : (1 : Int) < (n : Int) := by omega
              go_wp2
              all_goals (go_meet; exact ⟨rfl, rfl⟩)
            · have hq4 : ¬ (1 : Int) < (n : Int) := by omega
              go_wp2
              all_goals (go_meet; exact ⟨rfl, rfl⟩)
          case rest =>
            obtain ⟨rfl, hwc⟩ := hcut
            subst hwc
            clear hq1 hq2 wn
            go_wp2_with fail
            go_loopw [16, 17, 18] (fun iw _ _ wx => ∃ k : Nat, iw = .int .i64 ((k : Int) + 2) ∧ k ≤ n ∧ Hid (S1 w wx No Gi T S hb (121000 + 2 * k) n g w.heap.size ak m ck FF)) (fun iw _ _ _ => n + 2 - (intOf iw).toNat)
            case atStart => exact ⟨0, by first | rfl | simp, by omega, HS⟩
            case round =>
              clear HS
              obtain ⟨k, rfl, hkn, HS⟩ := hrel
              by_cases hk1 : k + 2 ≤ n
              · have h2 : (k : Int) + 2 ≤ (n : Int) := by omega
                have wk : IntKind.i64.wrap ((k : Int) + 2 + 1) = (k : Int) + 2 + 1 := by rw [IntKind.wrap_i64]; omega
                have wm : IntKind.i64.wrap ((k : Int) + 2 - 1) = (k : Int) + 2 - 1 := by rw [IntKind.wrap_i64]; omega
                have em : (k : Int) + 2 - 1 = (k : Int) + 1 := by omega
                have HO : Hid (ltI (g ((k : Int) + 2)) (g ((k : Int) + 1)) = false ∧ Gi (g ((k : Int) + 2)) ∧ Gi (g ((k : Int) + 1))) := ⟨HG.out.2 _ _ (by omega) (by omega) h2, HS.out.gd _ (by omega) h2, HS.out.gd _ (by omega) (by omega)⟩
                have HW : Hid (IntKind.i64.wrap ((k : Int) + 2 + 1) = (k : Int) + 2 + 1) := wk
                have CA := mkI ((k : Int) + 2) wr
                unfold vl at CA
                clear wk
                go_wp2_with fail
                refine CA.mono ?_; rintro e wa ⟨rfl, hba⟩
                have CG := (HS.out.below hba).get (by omega) ((k : Int) + 2) (by omega) h2 hn60
                clear CA hba
                go_wp2_with fail
                refine CG.mono ?_; rintro e wb ⟨rfl, pb⟩
                have HPb : Hid _ := pb
                have CA := mkI ((k : Int) + 1) wb
                unfold vl at CA
                clear CG pb
                go_wp2_with fail
                first | refine CA.mono ?_ | (rw [em]; refine CA.mono ?_)
                rintro e wd ⟨rfl, hbd⟩
                have CG := (HPb.out.below hbd).get (by omega) ((k : Int) + 1) (by omega) (by omega) hn60
                clear CA hbd em wm
                go_wp2_with fail
                refine CG.mono ?_; rintro e we ⟨rfl, pe⟩
                have HPe : Hid _ := pe
                have CO := ok_int.r we (g ((k : Int) + 2)) (g ((k : Int) + 1)) HO.out.2.1 HO.out.2.2
                clear CG pe
                go_wp2_with fail
                refine CO.mono ?_; rintro e wf ⟨o, rfl, ho, hbf⟩
                have ho2 : ¬ o < 0 := by rw [HO.out.1] at ho; simpa using ho
                have HPf : Hid _ := HPe.out.below hbf
                have wk := HW.out
                clear CO ho hbf HO HW
                go_wp2
                go_round
                case rel => exact ⟨k + 1, by first | rfl | simp | (simp; omega), by omega, HPf.out.more (by omega)⟩
                case measure => first | omega | (simp only [intOf]; omega) | (simp; omega)
              · have h2 : ¬ (k : Int) + 2 ≤ (n : Int) := by omega
                have hn0 : ¬ (n : Int) < 0 := by omega
                have CO := HS.out.often (by omega) hn60 hnm (fun x => (HG.out.1 x).trans (U.cnt_cl FF _ x n (fun i hi => by simp)))
                go_wp2_with fail
                refine CO.mono ?_; rintro e wg ⟨rfl, hbg⟩
                have HBg : Hid (Below w.heap.size w wg) := hbg
                clear CO hbg
                go_wp2
                go_ret
                exact ⟨rfl, HBg.out⟩
end Go.Proofs.YtkmopcanaalemabGreat
