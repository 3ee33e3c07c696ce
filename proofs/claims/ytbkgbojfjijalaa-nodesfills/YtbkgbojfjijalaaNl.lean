/- The walk of NodesFills. -/
import Derived.Test.YtbkgbojfjijalaaCh
import Derived.Test.YtbkgbojfjijalaaGf
import Derived.Deep.CutBlock
import Derived.Deep.RegionWith
import Derived.Laws.BytesArg
namespace Go.Proofs.Ytbkgbojfjijalaa
open Go.RowKit

theorem pow8 : ∀ t : Nat, t ≤ 8 → 2 ^ t ≤ 256 ∧ (2 ^ t < 256 → t < 8) ∧ pw ((2 ^ t : Nat) : Int) = true ∧ 1 ≤ 2 ^ t := by decide

/-- The text key of a turn. -/
def ks (i : Nat) : V := (3, 0, ⟨#[UInt8.ofNat i, UInt8.ofNat (i / 256)]⟩)
theorem fm_ks (i : Nat) : fm (ks i) = true := by
  have hs : (ks i).2.2.size = 2 := rfl
  unfold fm inF
  rw [if_neg (show ¬ (ks i).1 = 0 from by show ¬ (3 : Int) = 0; decide), if_neg (show ¬ (ks i).1 = 1 from by show ¬ (3 : Int) = 1; decide), if_neg (show ¬ (ks i).1 = 2 from by show ¬ (3 : Int) = 2; decide), if_pos (show (ks i).1 = 3 from rfl), hs]
  rfl
theorem ks_ok (i : Nat) : KOK (ks i) := ⟨fm_ks i, by show (3 : Int) ≠ 0; decide, by show -9223372036854775808 ≤ (0 : Int); decide, by show (0 : Int) ≤ 9223372036854775807; decide⟩
theorem ki_ok {n : Int} (h0 : -9223372036854775808 ≤ n) (h1 : n ≤ 9223372036854775807) : KOK (ki n) := ⟨fm_ki n, by show (2 : Int) ≠ 0; decide, h0, h1⟩
theorem ks_inj {i j : Nat} (hi : i < 256) (hj : j < 256) (h : ks i = ks j) : i = j := by
  have h1 : (ks i).2.2 = (ks j).2.2 := by rw [h]
  have h2 := congrArg (fun b => b.data[0]?) h1
  have h3 : UInt8.ofNat i = UInt8.ofNat j := by simpa [ks] using h2
  have h4 := congrArg UInt8.toNat h3
  simp at h4
  omega
/-- Which keys there are behind i turns. -/
def Fk (g : G) (p i : Nat) : Prop := ∀ j, j < p → g.K j = nil ∨ (g.K j).1 = 2 ∨ ∃ i', i' < i ∧ g.K j = ks i'
theorem Fk.ks_new {g : G} {p i : Nat} (h : Fk g p i) (hi : i < 256) : ∀ j, j < p → g.K j ≠ ks i := by
  intro j hj e
  rcases h j hj with q | q | ⟨i', hi', q⟩
  · rw [q] at e; exact absurd (congrArg Prod.fst e) (by show (0 : Int) ≠ 3; decide)
  · rw [e] at q; exact absurd q (by show ¬ (3 : Int) = 2; decide)
  · rw [q] at e
    have := ks_inj (by omega) hi e
    omega
theorem Fk.t_new {g : G} {p i : Nat} (h : Fk g p i) (n : Int) : ∀ j, j < p → g.K j ≠ (4, n, ⟨#[]⟩) := by
  intro j hj e
  rcases h j hj with q | q | ⟨i', _, q⟩
  · rw [q] at e; exact absurd (congrArg Prod.fst e) (by show (0 : Int) ≠ 4; decide)
  · rw [e] at q; exact absurd q (by show ¬ (4 : Int) = 2; decide)
  · rw [q] at e; exact absurd (congrArg Prod.fst e) (by show (3 : Int) ≠ 4; decide)
theorem Fk.step {g g' : G} {p i : Nat} {k : V} (h : Fk g p i) (hk : k.1 = 2 ∨ k = ks i) (hg : ∀ j, j < p → g'.K j = k ∨ g'.K j = nil ∨ ∃ j', j' < p ∧ g'.K j = g.K j') : Fk g' p (i + 1) := by
  intro j hj
  rcases hg j hj with q | q | ⟨j', hj', q⟩
  · rw [q]
    rcases hk with hk | hk
    · exact .inr (.inl hk)
    · exact .inr (.inr ⟨i, by omega, hk⟩)
  · exact .inl q
  · rw [q]
    rcases h j' hj' with r | r | ⟨i', hi', r⟩
    · exact .inl r
    · exact .inr (.inl r)
    · exact .inr (.inr ⟨i', by omega, r⟩)

/-- What a turn's Put leaves. -/
theorem fills_put {W w : World} {a p i : Nat} {g : G} {k : V} (hS : St W.heap.size W w (a + 1) a p g) (hz : pw p = true) (hh : held g p = i) (hF : Fk g p i) (hi : i < p) (hk : KOK k) (hk2 : k.1 = 2 ∨ k = ks i) (hnew : ∀ j, j < p → g.K j ≠ k) (hab : W.heap.size ≤ a ∧ W.heap.size ≤ a + 1) :
    ∀ W', Below w.heap.size w W' → Calls Try.prog 12 #[pp (a + 1), vl k.1 k.2.1 k.2.2, vl 2 (i : Nat) ⟨#[]⟩] W' fun e w' => (∃ n : Int, e = .returned (.tuple #[.int .i64 n, .int .i64 0])) ∧ Hid (∃ g', St W.heap.size W w' (a + 1) a p g' ∧ held g' p = i + 1 ∧ Fk g' p (i + 1)) := by
  intro W' hW'
  have hS' := hS.bel hW'
  obtain ⟨h1, h2, h3⟩ := put_new (v := ki i) hS.inv hz hk (fm_ki i) (by show (2 : Int) ≠ 0; decide) hnew (by omega)
  refine (put_all k (ki i) W' hS'.pt hS'.inv (.inr hz) ⟨hk.2.2.1, hk.2.2.2⟩).mono ?_
  rintro e w' ⟨rfl, hp, hkp⟩
  refine ⟨⟨_, by rw [h1]⟩, _, hS'.put (.inr hz) ⟨hk.2.2.1, hk.2.2.2⟩ hp hkp hab, by rw [h2, hh], hF.step hk2 h3⟩
theorem conv2 (i : Nat) (w : World) : (convert 61 9 (.slice (some ⟨w.heap.size, 0, none⟩) 2 2)).run Try.prog (w.alloc (.cells #[.int .u8 (i : Int), .int .u8 ((i : Int) / 256)] 5)) = .ok (.string (ks i).2.2) (w.alloc (.cells #[.int .u8 (i : Int), .int .u8 ((i : Int) / 256)] 5)) := by
  have h := run_convert_bytes_arg (P := Try.prog) (w.alloc (.cells #[.int .u8 (i : Int), .int .u8 ((i : Int) / 256)] 5)) 61 5 Try.underlying61 Try.underlying5 w.heap.size 0 2 2 [(i : Int), (i : Int) / 256] rfl (fun j hj => by
    rw [cell_of_row (MapKept.heap_alloc w _).1]
    match j, hj with
    | 0, _ => rfl
    | 1, _ => rfl) 9 Try.underlying9
  rw [h]
  have e : strOfNums [(i : Int), (i : Int) / 256] = (ks i).2.2 := by
    unfold strOfNums ks
    have h1 : ((i : Int) / 256).toNat = i / 256 := by omega
    simp [h1]
  rw [e]

set_option maxRecDepth 100000 in
set_option maxHeartbeats 8000000 in
theorem fills_walk (kk first step : Int) (W : World) (hs0 : -9223372036854775808 ≤ step) (hs1 : step ≤ 9223372036854775807) :
    Calls Try.prog 6 #[.int .i64 kk, .int .i64 first, .int .i64 step] W fun e w' => e = .returned (.bool true) ∧ Below W.heap.size W w' := by
  have CF := fixed_any W
  go_enter Try.func6, Try.ntmps6
  go_wp2_with fail
  refine CF.mono ?_; rintro e w0 ⟨rfl, hb⟩
  have HB : Hid _ := hb
  clear hb CF
  go_upto_block 0 with fail
  go_cut [7, 8] from 26 to 36 (fun sw iw wx => ∃ t p : Nat, sw = .int .i64 (p : Nat) ∧ t ≤ 8 ∧ Hid (p = 2 ^ t) ∧ wx = w0)
  case first =>
    go_wp2_with fail
    go_loop [7, 8] (fun sw iw => ∃ t p : Nat, sw = .int .i64 (p : Nat) ∧ iw = .int .i64 (t : Nat) ∧ t ≤ 8 ∧ Hid (p = 2 ^ t)) (fun _ iw => 8 - (intOf iw).toNat)
    case atStart => exact ⟨0, 1, rfl, rfl, by omega, rfl⟩
    case round =>
      obtain ⟨t, p, rfl, rfl, ht, HP⟩ := hrel
      obtain ⟨q1, q2, q3, q4⟩ := pow8 t ht
      rw [← HP.out] at q1 q2 q4
      clear q3
      by_cases h1 : (t : Int) < kk
      · by_cases h2 : p < 256
        · have h2' : (p : Int) < 256 := by omega
          have h3 := q2 h2
          have HP2 : Hid (p * 2 = 2 ^ (t + 1)) := by show _ = _; rw [HP.out, Nat.pow_succ]
          go_wp2_with fail
          go_round
          case rel => exact ⟨t + 1, p * 2, by go_num, by go_num, by omega, HP2⟩
          case measure => simp [intOf]; omega
        · have h2' : ¬ (p : Int) < 256 := by omega
          go_wp2_with fail
          go_meet
          exact ⟨t, p, rfl, ht, HP, rfl⟩
      · go_wp2_with fail
        go_meet
        exact ⟨t, p, rfl, ht, HP, rfl⟩
  case rest =>
    obtain ⟨t, p, rfl, ht, HP, rfl⟩ := hcut
    go_upto_if 38 with fail
    go_cut [2] from 37 to 38 (fun sw wx => ∃ st : Int, sw = .int .i64 st ∧ -9223372036854775808 ≤ st ∧ st ≤ 9223372036854775807 ∧ wx = wc)
    case first =>
      by_cases h : step = 0
      · subst h
        go_wp2_with fail
        go_meet
        exact ⟨1, rfl, by omega, by omega, rfl⟩
      · have h' : (step == 0) = false := by simpa using h
        go_wp2_with fail
        go_meet
        exact ⟨step, rfl, hs0, hs1, rfl⟩
    case rest =>
      obtain ⟨st, rfl, hst0, hst1, rfl⟩ := hcut
      obtain ⟨q1, q2, q3, q4⟩ := pow8 t ht
      rw [← HP.out] at q1 q3 q4
      have HR : Hid (Rt p) := .inr q3
      have HZ : Hid (pw p = true) := q3
      clear q2 q3 HP ht hs0 hs1
      have CB := fun w => begin_any p w HR.out (by omega)
      unfold pp at CB
      go_wp2_with fail
      refine (CB _).mono ?_; rintro e w2 ⟨S, ka, va, ca, w1, rfl, h1, h2⟩
      have HS : Hid _ := St.start HB.out h1 h2
      have HBs : Hid _ := HB.out.size
      clear CB h1 h2 HB
      obtain ⟨a, ha⟩ : ∃ a, wc.heap.size = a := ⟨_, rfl⟩
      rw [ha] at HS HBs ⊢
      have HAB : Hid (W.heap.size ≤ a ∧ W.heap.size ≤ a + 1) := ⟨HBs.out, by have := HBs.out; omega⟩
      clear ha HBs
      go_wp2_with fail
      go_loopw [12, 13] (fun nw iw wr => ∃ i : Nat, nw = .int .i64 (i : Nat) ∧ iw = .int .i64 (i : Nat) ∧ i ≤ p ∧ Hid (∃ g, St W.heap.size W wr (a + 1) a p g ∧ held g p = i ∧ Fk g p i)) (fun _ iw _ => p - (intOf iw).toNat)
      case atStart => exact ⟨0, rfl, rfl, by omega, ⟨_, HS.out, (sumTo_congr (f' := fun _ => 0) (fun j _ => if_pos rfl)).trans (sumTo_zero p), fun j _ => .inl rfl⟩⟩
      case round =>
        obtain ⟨i, rfl, rfl, hi, HG⟩ := hrel
        obtain ⟨g, hS, hh, hF⟩ := HG.out
        clear HG HS
        by_cases hlt : i < p
        · have hlt' : (i : Int) < (p : Int) := by omega
          have CI := mkI
          unfold vl at CI
          go_wp2_with fail
          refine (CI _ _).mono ?_; rintro e w3 ⟨rfl, hb3⟩
          obtain ⟨qk, hqk⟩ : ∃ qk, wrap64 (first + wrap64 ((i : Int) * st)) = qk := ⟨_, rfl⟩
          have hq0 : -9223372036854775808 ≤ qk ∧ qk ≤ 9223372036854775807 := by rw [← hqk]; unfold wrap64; omega
          rw [hqk]
          clear hqk
          obtain ⟨w4, hw4⟩ : ∃ w4, w3.alloc (vb 2 qk ⟨#[]⟩) = w4 := ⟨_, rfl⟩
          have hb4 : Below wr.heap.size wr w4 := by rw [← hw4]; exact bthen hb3 hb3.size (b1 _ _)
          have X4 : Bx w4 w3.heap.size (ki qk) := by rw [← hw4]; exact Bx.made w3 (ki qk)
          have F4 : ∀ j, w4.frozen? ⟨w3.heap.size, j, none⟩ = false := fun j => by rw [← hw4]; exact new_free w3 _ _ j
          have HS4 : Hid _ := hS.bel hb4
          have hge : a < w3.heap.size ∧ a + 1 < w3.heap.size := ⟨Nat.lt_of_lt_of_le hS.pt.lta hb3.size, Nat.lt_of_lt_of_le hS.pt.ltb hb3.size⟩
          have HWB : Hid (W.heap.size < w3.heap.size) := by have h0 := HAB.out; show _ < _; omega
          unfold vb at hw4
          have HGE : Hid _ := hge
          have HX4 : Hid _ := X4
          have HF4 : Hid _ := F4
          have HH : Hid _ := hh
          have HF : Hid (Fk g p i) := hF
          clear hb3 hb4 X4 F4 hS hge hh hF
          have hkq : KOK (ki qk) := ki_ok hq0.1 hq0.2
          have CFi := find_any (ki qk) w4 HS4.out.pt HS4.out.inv HZ.out hkq
          have HFN : Hid _ := fun n (hn : find (pl p) g (ki qk) = (none, n)) => HS4.out.inv.find_none (fun k _ => pl_lt HZ.out k) hkq.ne hn
          unfold pp vl at CFi
          have HW4 : Hid _ := hw4
          clear hw4
          go_upto_region 18 with fail
          rw [HW4.out]
          have d0 : w4.cell? ⟨w3.heap.size, 0, none⟩ = some (.int .i64 2) := HX4.out.c0
          have d1 : w4.cell? ⟨w3.heap.size, 1, none⟩ = some (.int .i64 qk) := HX4.out.c1
          have d2 : w4.cell? ⟨w3.heap.size, 2, none⟩ = some (.string ⟨#[]⟩) := HX4.out.c2
          clear HW4
          go_wp2_with fail
          refine CFi.mono ?_; rintro e w5 ⟨rfl, hb5⟩
          have HS5 : Hid _ := HS4.out.bel hb5
          have HX5 : Hid _ := HX4.out.below hb5
          have HF5 : Hid (∀ j, w5.frozen? ⟨w3.heap.size, j, none⟩ = false) := fun j => by rw [hb5.frozen (by exact HX4.out.lt)]; exact HF4.out j
          clear CFi hb5 HS4 HX4 HF4 d0 d1 d2
          generalize w3.heap.size = B4 at *
          have d0 : w5.cell? ⟨B4, 0, none⟩ = some (.int .i64 2) := HX5.out.c0
          have d1 : w5.cell? ⟨B4, 1, none⟩ = some (.int .i64 qk) := HX5.out.c1
          have d2 : w5.cell? ⟨B4, 2, none⟩ = some (.string ⟨#[]⟩) := HX5.out.c2
          have f5 := HF5.out
          have CS := mkS
          unfold vl at CS
          cases hfn : find (pl p) g (ki qk) with
          | mk o m =>
            cases o with
            | none =>
              have HNEW : Hid (∀ j, j < p → g.K j ≠ ki qk) := HFN.out m hfn
              have hkok : KOK (ki qk) := hkq
              simp only [fi]
              clear hfn f5
              have CP := fills_put HS5.out HZ.out HH.out HF.out hlt hkok (.inl rfl) HNEW.out HAB.out
              have CN : ∀ W', Below w5.heap.size w5 W' → Calls Try.prog 13 #[.int .i64 (i : Nat)] W' fun e w8 => e = .returned (vl 2 (i : Nat) ⟨#[]⟩) ∧ Bx w8 B4 (ki qk) ∧ Below w5.heap.size w5 w8 := fun W' hW' => (mkI i W').mono fun e w8 ⟨h1, h2⟩ => ⟨h1, (HX5.out.below hW').below h2, bthen hW' hW'.size h2⟩
              unfold vl at CN
              unfold pp vl at CP
              clear CI CS
              go_wp2_with fail
              go_region_with (first | (go_at_call 13; refine (CN _ (by exact ⟨rfl, rfl, rfl, Nat.le_refl _, fun _ _ => rfl⟩)).mono ?_; rintro e w8 ⟨rfl, x8, b8⟩; have y0 := x8.c0; have y1 := x8.c1; have y2 := x8.c2) | (go_at_call 12; refine (CP _ (by first | exact b8 | exact b8.trans ⟨rfl, rfl, rfl, Nat.le_refl _, fun _ _ => rfl⟩)).mono ?_; rintro e w9 ⟨⟨n9, rfl⟩, HG9⟩))
              all_goals
                have HBD : Hid (∀ w', Below w9.heap.size w9 w' → ∃ g', St W.heap.size W w' (a + 1) a p g' ∧ held g' p = i + 1 ∧ Fk g' p (i + 1)) := fun w' hw' => by
                  obtain ⟨g', h1, h2, h3⟩ := HG9.out
                  exact ⟨g', h1.bel hw', h2, h3⟩
                clear HG9 CP CN
                go_wp2_with fail
                go_round
                case rel => exact ⟨i + 1, by go_num, by go_num, by omega, HBD.out _ (by first | exact Below.refl _ _ | exact ⟨rfl, rfl, rfl, Nat.le_refl _, fun _ _ => rfl⟩)⟩
                case measure => simp [intOf]; omega
            | some j0 =>
              have hj0 : ¬ ((j0 : Int) < 0) := by omega
              have hi256 : (i : Int) < 256 := by omega
              have HNEW : Hid (∀ j, j < p → g.K j ≠ ks i) := HF.out.ks_new (by omega)
              have CV := conv2 i w5
              simp only [fi]
              clear hfn
              obtain ⟨w6, hw6⟩ : ∃ w6, w5.alloc (.cells #[.int .u8 (i : Int), .int .u8 ((i : Int) / 256)] 5) = w6 := ⟨_, rfl⟩
              have hb6 : Below w5.heap.size w5 w6 := by rw [← hw6]; exact b1 _ _
              rw [hw6] at CV
              have HS6 : Hid _ := HS5.out.bel hb6
              have HX6 : Hid _ := HX5.out.below hb6
              have HF6 : Hid (∀ j, w6.frozen? ⟨B4, j, none⟩ = false) := fun j => by rw [hb6.frozen (by exact HX5.out.lt)]; exact HF5.out j
              clear hb6 HS5 HX5 HF5 d0 d1 d2 f5
              go_wp2_with fail
              refine (CS _ _).mono ?_; rintro e w7 ⟨rfl, hb7⟩
              have HS7 := HS6.out.bel hb7
              have X7 := HX6.out.below hb7
              have f7 : ∀ j, w7.frozen? ⟨B4, j, none⟩ = false := fun j => by rw [hb7.frozen (by exact HX6.out.lt)]; exact HF6.out j
              have c0 := X7.c0
              have c1 := X7.c1
              have c2 := X7.c2
              obtain ⟨wa, hwa⟩ : ∃ wa, ((w7.setCell ⟨B4, 0, none⟩ (.int .i64 3)).setCell ⟨B4, 1, none⟩ (.int .i64 0)).setCell ⟨B4, 2, none⟩ (.string (ks i).2.2) = wa := ⟨_, rfl⟩
              have Ka : Keep (fun y => y ≠ B4) w7 wa := by
                rw [← hwa]
                exact (((Keep.refl _ _).set (p := ⟨B4, 0, none⟩) (fun q => q rfl) _).set (p := ⟨B4, 1, none⟩) (fun q => q rfl) _).set (p := ⟨B4, 2, none⟩) (fun q => q rfl) _
              have HXa : Hid (Bx wa B4 (ks i)) := by
                rw [← hwa]
                refine ⟨?_, ?_, ?_, by simpa [World.setCell] using X7.lt⟩
                · rw [World.cell?_setCell_other _ _ _ _ (fun q => by injection q with _ q2; omega), World.cell?_setCell_other _ _ _ _ (fun q => by injection q with _ q2; omega)]
                  exact World.cell?_setCell_same _ _ _ X7.c0
                · rw [World.cell?_setCell_other _ _ _ _ (fun q => by injection q with _ q2; omega)]
                  exact World.cell?_setCell_same _ _ _ (by rw [World.cell?_setCell_other _ _ _ _ (fun q => by injection q with _ q2; omega)]; exact X7.c1)
                · exact World.cell?_setCell_same _ _ _ (by rw [World.cell?_setCell_other _ _ _ _ (fun q => by injection q with _ q2; omega), World.cell?_setCell_other _ _ _ _ (fun q => by injection q with _ q2; omega)]; exact X7.c2)
              have HSa : Hid (St W.heap.size W wa (a + 1) a p g) := ⟨HS7.pt.kept Ka (by have := HGE.out; show a + 1 ≠ B4; omega) (by have := HGE.out; show a ≠ B4; omega), HS7.inv, HS7.keep.trans (Ka.sub fun y hy => by show y ≠ B4; have h0 : y < W.heap.size := hy; have := HWB.out; omega)⟩
              clear hb7 X7 HS7 Ka HS6 HX6 HF6 CV hw6
              go_upto_region 21 with fail
              clear c0 c1 c2 f7 hwa
              have d0 : wa.cell? ⟨B4, 0, none⟩ = some (.int .i64 3) := HXa.out.c0
              have d1 : wa.cell? ⟨B4, 1, none⟩ = some (.int .i64 0) := HXa.out.c1
              have d2 : wa.cell? ⟨B4, 2, none⟩ = some (.string (ks i).2.2) := HXa.out.c2
              have CP := fills_put HSa.out HZ.out HH.out HF.out hlt (ks_ok i) (.inr rfl) HNEW.out HAB.out
              have CN : ∀ W', Below wa.heap.size wa W' → Calls Try.prog 13 #[.int .i64 (i : Nat)] W' fun e w8 => e = .returned (vl 2 (i : Nat) ⟨#[]⟩) ∧ Bx w8 B4 (ks i) ∧ Below wa.heap.size wa w8 := fun W' hW' => (mkI i W').mono fun e w8 ⟨h1, h2⟩ => ⟨h1, (HXa.out.below hW').below h2, bthen hW' hW'.size h2⟩
              unfold vl at CN
              unfold pp vl at CP
              clear CI CS
              go_wp2_with fail
              go_region_with (first | (go_at_call 13; refine (CN _ (by exact ⟨rfl, rfl, rfl, Nat.le_refl _, fun _ _ => rfl⟩)).mono ?_; rintro e w8 ⟨rfl, x8, b8⟩; have y0 := x8.c0; have y1 := x8.c1; have y2 := x8.c2) | (go_at_call 12; refine (CP _ (by first | exact b8 | exact b8.trans ⟨rfl, rfl, rfl, Nat.le_refl _, fun _ _ => rfl⟩)).mono ?_; rintro e w9 ⟨⟨n9, rfl⟩, HG9⟩))
              all_goals
                have HBD : Hid (∀ w', Below w9.heap.size w9 w' → ∃ g', St W.heap.size W w' (a + 1) a p g' ∧ held g' p = i + 1 ∧ Fk g' p (i + 1)) := fun w' hw' => by
                  obtain ⟨g', h1, h2, h3⟩ := HG9.out
                  exact ⟨g', h1.bel hw', h2, h3⟩
                clear HG9 CP CN
                go_wp2_with fail
                go_round
                case rel => exact ⟨i + 1, by go_num, by go_num, by omega, HBD.out _ (by first | exact Below.refl _ _ | exact ⟨rfl, rfl, rfl, Nat.le_refl _, fun _ _ => rfl⟩)⟩
                case measure => simp [intOf]; omega
        · have hip : i = p := by omega
          subst hip
          have hlt' : ¬ (i : Int) < (i : Int) := by omega
          have hall := full_all hh
          obtain ⟨nf1, hpf⟩ := put_full (k := (4, 77, ⟨#[]⟩)) (v := ki 1) hS.inv HZ.out ⟨by simp [inF, ByteArray.toList_eq], by show (4 : Int) ≠ 0; decide, by show -9223372036854775808 ≤ (77 : Int); decide, by show (77 : Int) ≤ 9223372036854775807; decide⟩ (fm_ki 1) (by show (2 : Int) ≠ 0; decide) (hF.t_new 77) hh
          have CD := dump_any wr hS.pt HR.out.le
          have HS : Hid _ := hS
          have HPF : Hid _ := hpf
          have HKD : Hid (∀ j, j < i → ((g.K j).1 == 0) = false) := fun j hj => by
            have h0 : ¬ (g.K j).1 = 0 := fun e => hall j hj ((hS.inv.kind hj).1 e)
            simpa using h0
          clear hS hh hF hpf hall
          unfold pp at CD
          go_wp2_with fail
          refine CD.mono ?_; rintro e w4 ⟨D1, c1, rfl, hrow, hfz, hDge, hDlt, hb⟩
          have HS4 : Hid _ := HS.out.bel hb
          have HD4 : Hid (Dm w4 D1 i g) := ⟨hrow, hDlt⟩
          have HDA : Hid (D1 ≠ a ∧ D1 ≠ a + 1) := by
            have q1 := HS.out.pt.lta
            have q2 := HS.out.pt.ltb
            show D1 ≠ a ∧ D1 ≠ a + 1
            omega
          clear CD hrow hfz hDge hDlt hb HS
          have CT := mkT 77
          have CI := mkI 1
          unfold vl at CT CI
          go_wp2_with fail
          refine (CT _).mono ?_; rintro e w5 ⟨rfl, hb⟩
          have HS5 : Hid _ := HS4.out.bel hb
          have HD5 : Hid _ := HD4.out.below hb
          clear hb HS4 HD4 CT
          go_wp2_with fail
          refine (CI _).mono ?_; rintro e w6 ⟨rfl, hb⟩
          have HS6 : Hid _ := HS5.out.bel hb
          have HD6 : Hid _ := HD5.out.below hb
          clear hb HS5 HD5 CI
          have CP := put_all (4, 77, ⟨#[]⟩) (ki 1) w6 HS6.out.pt HS6.out.inv HR.out ⟨by show -9223372036854775808 ≤ (77 : Int); decide, by show (77 : Int) ≤ 9223372036854775807; decide⟩
          have HST : Hid _ := fun w' h1 h2 => HS6.out.put HR.out (k := (4, 77, ⟨#[]⟩)) (v := ki 1) (w' := w') ⟨by show -9223372036854775808 ≤ (77 : Int); decide, by show (77 : Int) ≤ 9223372036854775807; decide⟩ h1 h2 HAB.out
          rw [HPF.out] at CP HST
          unfold pp vl ki at CP
          simp only at CP
          go_wp2_with fail
          refine CP.mono ?_; rintro e w7 ⟨rfl, hp, hk⟩
          have HS7 : Hid _ := HST.out w7 hp hk
          have HD7 : Hid (Dm w7 D1 i g) := ⟨HD6.out.row.block (hk.block D1 HD6.out.lt HDA.out), Nat.lt_of_lt_of_le HD6.out.lt hk.size⟩
          clear CP HST hp hk HS6 HD6
          have CD := dump_any w7 HS7.out.pt HR.out.le
          unfold pp at CD
          go_wp2_with fail
          refine CD.mono ?_; rintro e w8 ⟨D2, c2, rfl, hrow, hfz, hDge, hDlt, hb⟩
          have HS8 : Hid _ := HS7.out.bel hb
          have HDa : Hid _ := HD7.out.below hb
          have HDb : Hid (Dm w8 D2 i g) := ⟨hrow, hDlt⟩
          have CFr := free_any _ HS8.out.pt
          unfold pp at CFr
          clear CD hrow hfz hDge hDlt hb HS7 HD7
          go_wp2_with fail
          refine CFr.mono ?_; rintro e w8 ⟨rfl, rfl⟩
          clear CFr
          go_wp2_with fail
          go_loopw [23] (fun jw wr => ∃ j : Nat, jw = .int .i64 (j : Nat) ∧ j ≤ i ∧ Hid (Keep (fun y => y < W.heap.size) W wr) ∧ Hid (Dm wr D1 i g) ∧ Hid (Dm wr D2 i g)) (fun jw _ => i - (intOf jw).toNat)
          case atStart => exact ⟨0, rfl, by omega, HS8.out.keep, HDa, HDb⟩
          case round =>
            obtain ⟨j, rfl, hj, HK, HDx, HDy⟩ := hrel
            clear HS8 HDa HDb
            by_cases hjn : j < i
            · have hjn' : (j : Int) < (i : Int) := by omega
              obtain ⟨k0, k1, k2⟩ := HDx.out.k hjn
              obtain ⟨x0, x1, x2⟩ := HDx.out.x hjn
              have l6 := HDx.out.l hjn
              obtain ⟨p0, p1, p2⟩ := HDy.out.k hjn
              obtain ⟨p3, p4, p5⟩ := HDy.out.x hjn
              have p6 := HDy.out.l hjn
              have hkd : ((g.K j).1 == 0) = false := HKD.out j hjn
              have ne54 := neq54 (g.K j) (g.X j) (g.K j) (g.X j) (link (pl i) g j) (link (pl i) g j)
              simp only [decide_true, and_self, Bool.not_true] at ne54
              unfold vn at ne54
              have g54 := guard54
              generalize link (pl i) g j = l6v at *
              go_wp2_with fail
              go_quiet (fail)
              go_wp2_with fail
              go_round
              case rel => exact ⟨j + 1, by go_num, by omega, HK.out.bel (bdrew _ _ _), HDx.out.below (bdrew _ _ _), HDy.out.below (bdrew _ _ _)⟩
              case measure => simp [intOf]; omega
            · have hjn' : ¬ (j : Int) < (i : Int) := by omega
              go_wp2_with fail
              go_ret
              exact ⟨rfl, HK.out.below (Nat.le_refl _) (fun _ h => h)⟩
end Go.Proofs.Ytbkgbojfjijalaa
