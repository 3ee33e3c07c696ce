/- The walk of SortingKeeps. -/
import Derived.Test.YtkmopcanaalemabGreatCg33
import Derived.Test.YtkmopcanaalemabGreatCg46
import Derived.Test.YtkmopcanaalemabGreatCg47
import Derived.Test.YtkmopcanaalemabGreatCg32
import Derived.ProofKit
import Derived.OpenShut
import Derived.ChangeSlices
import Derived.ChangeOld
import Derived.SizedLaws
import Derived.Deep.Slices
import Derived.Deep.Fields
import Derived.Deep.Strs
namespace Go.Proofs.YtkmopcanaalemabGreat
open Go.RowKit

/-- A list of values that came in. -/
structure Vin (w : World) (a : Option Addr) (L : Nat) (F : Nat → V) : Prop where
  at' : ∀ i, i < L → ∃ lb off, a = some ⟨lb, off, none⟩ ∧ lb < w.heap.size ∧ w.cell? ⟨lb, off + i * 3, none⟩ = some (.int .i64 (F i).1) ∧ w.cell? ⟨lb, off + i * 3 + 1, none⟩ = some (.int .i64 (F i).2.1) ∧ w.cell? ⟨lb, off + i * 3 + 2, none⟩ = some (.string (F i).2.2)
/-- A list of truths that came in. -/
structure Bin (w : World) (a : Option Addr) (L : Nat) (An : Nat → Bool) : Prop where
  at' : ∀ i, i < L → ∃ lb off, a = some ⟨lb, off, none⟩ ∧ lb < w.heap.size ∧ w.cell? ⟨lb, off + i, none⟩ = some (.bool (An i))
theorem Vin.below {w w' : World} {a : Option Addr} {L : Nat} {F : Nat → V} (h : Vin w a L F) (k : Below w.heap.size w w') : Vin w' a L F := ⟨fun i hi => by
  obtain ⟨lb, off, e, hl, c0, c1, c2⟩ := h.at' i hi
  exact ⟨lb, off, e, Nat.lt_of_lt_of_le hl k.size, by rw [k.cell (by exact hl)]; exact c0, by rw [k.cell (by exact hl)]; exact c1, by rw [k.cell (by exact hl)]; exact c2⟩⟩
theorem Bin.below {w w' : World} {a : Option Addr} {L : Nat} {An : Nat → Bool} (h : Bin w a L An) (k : Below w.heap.size w w') : Bin w' a L An := ⟨fun i hi => by
  obtain ⟨lb, off, e, hl, c0⟩ := h.at' i hi
  exact ⟨lb, off, e, Nat.lt_of_lt_of_le hl k.size, by rw [k.cell (by exact hl)]; exact c0⟩⟩
set_option maxRecDepth 20000 in
set_option maxHeartbeats 8000000 in
theorem keeps_walk {w : World} (hfix : ∀ W : World, Calls Tryz.prog 8 #[] W fun e w' => e = .returned (.bool true) ∧ Below W.heap.size W w') {av aa : Option Addr} {cv ca L La : Nat} {F : Nat → V} {An : Nat → Bool} (hv : Vin w av L F) (hb : Bin w aa La An) (hL : L ≤ 9223372036854775807) (hLa : La ≤ 9223372036854775807) (nv : Int) :
    Calls Tryz.prog 6 #[.agg #[.slice av L cv, .int .i64 nv, .slice aa La ca]] w fun e w' => e = .returned (.bool true) ∧ Below w.heap.size w w' := by
  have B0 := b1 w (.cells #[.slice av L cv, .int .i64 nv, .slice aa La ca] 25)
  have c0 : (w.alloc (.cells #[.slice av L cv, .int .i64 nv, .slice aa La ca] 25)).heap[w.heap.size]? = some (.cells #[.slice av L cv, .int .i64 nv, .slice aa La ca] 25) := (MapKept.heap_alloc w _).1
  have hs0 : (w.alloc (.cells #[.slice av L cv, .int .i64 nv, .slice aa La ca] 25)).heap.size = w.heap.size + 1 := by simp
  obtain ⟨W0, hW0⟩ : ∃ W0, w.alloc (.cells #[.slice av L cv, .int .i64 nv, .slice aa La ca] 25) = W0 := ⟨_, rfl⟩
  rw [hW0] at B0 c0 hs0
  have HX : Hid (∀ Wq, Below W0.heap.size W0 Wq → Wq.cell? ⟨w.heap.size, 0, none⟩ = some (.slice av L cv) ∧ Wq.cell? ⟨w.heap.size, 2, none⟩ = some (.slice aa La ca)) := fun Wq kq => by
    have := kq.block w.heap.size (by omega)
    simp only [World.cell?, this, c0]
    exact ⟨rfl, rfl⟩
  have HV : Hid (Vin W0 av L F ∧ Bin W0 aa La An) := ⟨hv.below B0, hb.below B0⟩
  have HB0 : Hid (Below w.heap.size w W0) := B0
  have CF := hfix W0
  clear hv hb B0 c0 hs0 hfix
  go_enter Tryz.func6, Tryz.ntmps6
  go_wp2_with fail
  refine CF.mono ?_; rintro e w1 ⟨rfl, hb1⟩
  have HB1 : Hid (Below W0.heap.size W0 w1) := hb1
  clear CF hb1
  go_wp2_with fail
  go_loopw [3, 4] (fun vw iw wr => ∃ i m : Nat, iw = .int .i64 (i : Nat) ∧ i ≤ L ∧ m ≤ 40 ∧ Hid (∃ F', Lv wr W0.heap.size vw m F' ∧ ∀ j, j < m → Gv (F' j)) ∧ Hid (Below W0.heap.size W0 wr)) (fun _ iw _ => L - (intOf iw).toNat)
  case atStart => exact ⟨0, 0, rfl, by omega, by omega, ⟨fun _ => nil, Lv.nil _ _ _, fun j hj => by omega⟩, HB1⟩
  case round =>
    obtain ⟨i, m, rfl, hi, hm, HL, HB⟩ := hrel
    obtain ⟨F', hL', hG⟩ := HL.out
    obtain ⟨ak, ck, hvk⟩ := hL'.form
    subst hvk
    have HLv : Hid (Lv wr W0.heap.size (.slice ak m ck) m F' ∧ ∀ j, j < m → Gv (F' j)) := ⟨hL', hG⟩
    clear hL' hG HL HB1
    obtain ⟨x0, x2⟩ := HX.out wr HB.out
    by_cases hk : i < L ∧ m < 40
    · obtain ⟨hk1, hk2⟩ := hk
      have h1 : (i : Int) < (L : Int) := by omega
      have h2 : (m : Int) < 40 := by omega
      obtain ⟨lb, off, rfl, hlb, q0, q1, q2⟩ := (HV.out.1.below HB.out).at' i hk1
      have wi : IntKind.i64.wrap ((i : Int) + 1) = (i : Int) + 1 := by rw [IntKind.wrap_i64]; omega
      have CK := rcheck_any (F i).1 (F i).2.1 (F i).2.2 wr
      have BK := bw1 wr (vb (F i).1 (F i).2.1 (F i).2.2)
      obtain ⟨wk1, hwk1⟩ : ∃ wk1, wr.alloc (vb (F i).1 (F i).2.1 (F i).2.2) = wk1 := ⟨_, rfl⟩
      rw [hwk1] at CK BK
      have HW1 : Hid (Below W0.heap.size W0 wk1) := bthen HB.out HB.out.size BK
      have HL1 : Hid (Lv wk1 W0.heap.size (.slice ak m ck) m F') := HLv.out.1.below BK
      obtain ⟨y0, y2⟩ := HX.out wk1 HW1.out
      obtain ⟨lb', off', e', _, r0, r1, r2⟩ := (HV.out.1.below HW1.out).at' i hk1
      cases e'
      unfold vl at CK
      by_cases hf : fm (F i) = true
      · rw [(chk_fm (F i)).2 hf] at CK
        by_cases h0 : (F i).1 = 0
        · have hb0 : ((F i).1 != 0) = false := by simp [h0]
          clear h0 hf hlb
          go_wp2_with fail
          refine CK.mono ?_; rintro e w2 ⟨rfl, hw2⟩; rw [hw2]; clear hw2 CK
          go_wp2
          go_round
          case rel => exact ⟨i + 1, m, by first | rfl | simp, by omega, by omega, ⟨F', HL1.out, HLv.out.2⟩, HW1⟩
          case measure => first | omega | (simp only [intOf]; omega) | (simp; omega)
        · have hb0 : ((F i).1 != 0) = true := by simpa using h0
          obtain ⟨g, c, w6, hr, l6, hb6⟩ := Lv.push HW1.out HW1.out.size HL1.out (F i) (by omega)
          have HB6 : Hid (Below W0.heap.size W0 w6 ∧ Lv w6 W0.heap.size (.slice (some ⟨g, 0, none⟩) (m + 1) c) (m + 1) (upd F' m (F i)) ∧ ∀ j, j < m + 1 → Gv (upd F' m (F i) j)) := ⟨hb6, l6, fun j hj => by
            by_cases e : j = m
            · subst e; rw [upd_at]; exact ⟨hf, h0⟩
            · rw [upd_ne _ _ e]; exact HLv.out.2 j (by omega)⟩
          clear h0 hf hlb hb6 l6
          go_wp2_with fail
          refine CK.mono ?_; rintro e w2 ⟨rfl, hw2⟩; rw [hw2]; clear hw2 CK
          go_wp2_with (at_builtin; refine wp_app rfl _ _ 22 rfl 22 rfl _ _ rfl rfl hr ?_)
          go_round
          case rel => exact ⟨i + 1, m + 1, by first | rfl | simp, by omega, by omega, ⟨_, HB6.out.2.1, HB6.out.2.2⟩, HB6.out.1⟩
          case measure => first | omega | (simp only [intOf]; omega) | (simp; omega)
      · have hc2 : chk (F i).1 (F i).2.1 (F i).2.2 = 2 := by
          show (if fm (F i) = true then (0 : Int) else 2) = 2
          rw [if_neg hf]
        rw [hc2] at CK
        clear hf hc2 hlb
        go_wp2_with fail
        refine CK.mono ?_; rintro e w2 ⟨rfl, hw2⟩; rw [hw2]; clear hw2 CK
        go_wp2
        go_round
        case rel => exact ⟨i + 1, m, by first | rfl | simp, by omega, by omega, ⟨F', HL1.out, HLv.out.2⟩, HW1⟩
        case measure => first | omega | (simp only [intOf]; omega) | (simp; omega)
    · have HWr : Hid (W0.heap.size ≤ wr.heap.size) := HB.out.size
      by_cases hk1 : i < L
      · have h1 : (i : Int) < (L : Int) := by omega
        have h2 : ¬ (m : Int) < 40 := by omega
        clear hk
        have C9 := begin16 HLv.out.1 (by omega) 0 (.slice none 0 0)
        have HNl : Hid (nlast F' (min m 60) = (m : Int)) := by
          have : nlast F' (min m 60) = (m : Int) := by rw [show min m 60 = m by omega]; exact nlast_all m (fun j hj => (HLv.out.2 j hj).1)
          exact this
        unfold cw3 at C9
        go_wp2_with fail
        refine C9.mono ?_; rintro e w9 ⟨T, S, hb, RT, G, t, s, rfl, bz, bj, bw9⟩
        rw [HNl.out]
        rw [show min m 60 = m by omega] at bj
        obtain ⟨N1, N2, ⟨A, b, a, tt⟩, _, _, hN⟩ := bz.tt
        have C10 := snew_any tt (m : Int)
        have HS0 : Hid (Mt m t s (fun k => F' (k - 1).toNat)) := bj.mt tt.ti (by omega) HLv.out.2
        have HN1 : Hid (∀ g, g < wr.heap.size → N1 g) := fun g hg => (hN g hg).1
        have HW9 : Hid (Below W0.heap.size W0 w9) := bthen HB.out HB.out.size bw9
        have HL9 : Hid (Lv w9 W0.heap.size (.slice ak m ck) m F' ∧ ∀ g, (Value.slice ak m ck).ownBlock = some g → N1 g) := ⟨HLv.out.1.below bw9, fun g q => (hN g (HLv.out.1.own.lt g q).2).1⟩
        have HG : Hid (∀ j, j < m → Gv (F' j)) := HLv.out.2
        clear C9 HNl bz bj bw9 tt hN HLv HB x0 x2
        go_wp2_with fail
        refine C10.mono ?_; rintro e w10 ⟨rfl, so, kp⟩
        obtain ⟨B, hB⟩ : ∃ B, w9.heap.size = B := ⟨_, rfl⟩
        rw [hB] at so
        rw [hB]
        have H0 : Hid (∃ (wv : Value) (A b a : Nat) (d : SD) (g : Int → V), So N1 w10 B wv T A b a S hb (1000 + 31 * 0) d ∧ Mt m d.2.1 d.2.2 g ∧ U.Sc m (fun k => F' (k - 1).toNat) g ∧ U.Nx m d.1 g ((m : Int) * (m : Int) - ((0 : Nat) : Int)) ∧ d.1.wt.length ≤ 0 ∧ Keep N1 w9 w10) := ⟨_, _, _, _, _, _, so, HS0.out, U.Sc.refl _ _, .inl ⟨rfl, by have := U.sq_top m; omega⟩, Nat.le_refl _, kp⟩
        clear C10 so kp HS0 hB
        have hmm : 0 ≤ ((m : Int) + 2) * ((m : Int) + 2) ∧ ((m : Int) + 2) * ((m : Int) + 2) ≤ 42 * 42 := ⟨Int.mul_nonneg (by omega) (by omega), Int.mul_le_mul (by omega) (by omega) (by omega) (by omega)⟩
        have hm2 : (m : Int) * (m : Int) ≤ ((m : Int) + 2) * ((m : Int) + 2) := Int.mul_le_mul (by omega) (by omega) (by omega) (by omega)
        obtain ⟨Q2, hQ2⟩ : ∃ Q2, ((m : Int) + 2) * ((m : Int) + 2) = Q2 := ⟨_, rfl⟩
        obtain ⟨Q1, hQ1⟩ : ∃ Q1, (m : Int) * (m : Int) = Q1 := ⟨_, rfl⟩
        rw [hQ2] at hmm hm2
        rw [hQ1] at hm2 H0
        have wm : IntKind.i64.wrap ((m : Int) + 2) = (m : Int) + 2 := by rw [IntKind.wrap_i64]; omega
        have wq : IntKind.i64.wrap Q2 = Q2 := by rw [IntKind.wrap_i64]; omega
        go_wp2_with fail
        go_loopw [10, 11] (fun lw iw wr => ∃ (i : Nat) (less : Bool), iw = .int .i64 (i : Nat) ∧ lw = .bool less ∧ (i : Int) ≤ Q1 ∧ Hid (∃ (wv : Value) (A b a : Nat) (d : SD) (g : Int → V), So N1 wr B wv T A b a S hb (1000 + 31 * i) d ∧ Mt m d.2.1 d.2.2 g ∧ U.Sc m (fun k => F' (k - 1).toNat) g ∧ U.Nx m d.1 g (Q1 - (i : Int)) ∧ d.1.wt.length ≤ i ∧ Keep N1 w9 wr)) (fun _ iw _ => (Q1 + 1).toNat - (intOf iw).toNat)
        case atStart => exact ⟨0, false, rfl, rfl, by have h0 : 0 ≤ (m : Int) * (m : Int) := Int.mul_nonneg (by omega) (by omega); omega, H0⟩
        case round =>
          obtain ⟨i2, less, rfl, rfl, hi2, HR⟩ := hrel
          obtain ⟨wv, A, b, a, d, gf, so, mt, sc, nx, hw, kp⟩ := HR.out
          clear HR H0
          have hcond : (i2 : Int) ≤ Q2 := by omega
          have hi3 : i2 ≤ 1764 := by omega
          obtain ⟨fit, ha⟩ := nx.fit (by omega) (by omega)
          have CN := next_any so (by omega) fit less ha
          have bh := nx.go (hd_mt (by omega)) mt less
          have hlen := U.go_len d less
          obtain ⟨R, hR⟩ : ∃ R, goR d less = R := ⟨_, rfl⟩
          rw [hR] at CN bh hlen
          have HBh : Hid (U.Bh m (Mt m) gf (Q1 - (i2 : Int)) R ∧ R.1.1.wt.length ≤ i2 + 1 ∧ U.Sc m (fun k => F' (k - 1).toNat) gf) := ⟨bh, by omega, sc⟩
          have HK : Hid (Keep N1 w9 wr) := kp
          unfold tol4 at CN
          obtain ⟨tl, htl⟩ : ∃ tl, R.2 = tl := ⟨_, rfl⟩
          rw [htl] at CN
          have HT : Hid (R.2 = tl) := htl
          clear so mt sc nx hw kp fit ha bh hlen hR htl
          go_wp2_with fail
          refine CN.mono ?_; rintro e w5 ⟨rfl, ⟨wv5, A5, B5, D5, s5⟩, k5⟩
          obtain ⟨gn, sc5, mt5, hcase⟩ := HBh.out.1
          rw [HT.out] at hcase
          have B6 := b2 w5 (vb tl.1.1 tl.1.2.1 tl.1.2.2) (vb tl.2.1.1 tl.2.1.2.1 tl.2.1.2.2)
          have s6 := s5.below B6
          have HK6 : Hid (Keep N1 w9 ((w5.alloc (vb tl.1.1 tl.1.2.1 tl.1.2.2)).alloc (vb tl.2.1.1 tl.2.1.2.1 tl.2.1.2.2))) := (HK.out.trans k5).trans (Keep.of B6)
          obtain ⟨W6, hW6⟩ : ∃ W6, (w5.alloc (vb tl.1.1 tl.1.2.1 tl.1.2.2)).alloc (vb tl.2.1.1 tl.2.1.2.1 tl.2.1.2.2) = W6 := ⟨_, rfl⟩
          rw [hW6] at s6 HK6
          unfold vb at hW6
          have HW6 : Hid (Below W0.heap.size W0 W6) := HW9.out.trans (HK6.out.below HW9.out.size (fun g hg => HN1.out g (Nat.lt_of_lt_of_le hg HWr.out)))
          clear B6 s5 k5 CN HK
          rcases hcase with ⟨t1, t2, si, lf⟩ | ⟨er, he, e1, e2⟩
          · have HS6 : Hid (So N1 W6 B wv5 T A5 B5 D5 S hb (1000 + 31 * i2 + 31) R.1 ∧ Mt m R.1.2.1 R.1.2.2 gn ∧ U.Sc m (fun k => F' (k - 1).toNat) gn ∧ U.Nx m R.1.1 gn (Q1 - ((i2 + 1 : Nat) : Int)) ∧ R.1.1.wt.length ≤ i2 + 1) := ⟨s6, mt5, HBh.out.2.2.trans sc5, .inr ⟨si, by omega⟩, HBh.out.2.1⟩
            have hnn : (i2 : Int) + 1 ≤ Q1 := by have := HS6.out.2.2.2.1.nn; omega
            have wi2 : IntKind.i64.wrap ((i2 : Int) + 1) = (i2 : Int) + 1 := by rw [IntKind.wrap_i64]; omega
            obtain ⟨x0, x2⟩ := HX.out W6 HW6.out
            obtain ⟨ta, tb, tm, te⟩ := tl
            simp only at t1 t2 hW6 ⊢
            subst t1
            clear t2 si lf mt5 sc5 s6
            have HKK : Hid (∀ less', ∃ (i : Nat) (less : Bool), Value.int .i64 ((i2 : Int) + 1) = .int .i64 (i : Nat) ∧ Value.bool less' = .bool less ∧ (i : Int) ≤ Q1 ∧ ∀ Wx, Below W6.heap.size W6 Wx → Hid (∃ (wv : Value) (A b a : Nat) (d : SD) (g : Int → V), So N1 Wx B wv T A b a S hb (1000 + 31 * i) d ∧ Mt m d.2.1 d.2.2 g ∧ U.Sc m (fun k => F' (k - 1).toNat) g ∧ U.Nx m d.1 g (Q1 - (i : Int)) ∧ d.1.wt.length ≤ i ∧ Keep N1 w9 Wx)) := fun less' => ⟨i2 + 1, less', by simp, rfl, by omega, fun Wx kx => ⟨_, _, _, _, _, _, (HS6.out.1.below kx).more (by omega), HS6.out.2.1, HS6.out.2.2.1, HS6.out.2.2.2.1, HS6.out.2.2.2.2, HK6.out.trans (Keep.of kx)⟩⟩
            by_cases hla : 0 < La
            · have h5 : (0 : Int) < (La : Int) := by omega
              have h6 : ¬ (La : Int) = 0 := by omega
              have hrem : (i2 : Int).tmod (La : Int) = ((i2 % La : Nat) : Int) := by rw [Int.tmod_eq_emod_of_nonneg (by omega)]; simp
              have hidx := Nat.mod_lt i2 hla
              obtain ⟨lb5, off5, rfl, hl5, q5⟩ := (HV.out.2.below HW6.out).at' (i2 % La) hidx
              have wrem : IntKind.i64.wrap ((i2 % La : Nat) : Int) = ((i2 % La : Nat) : Int) := by rw [IntKind.wrap_i64]; omega
              obtain ⟨jx, hjx⟩ : ∃ jx, i2 % La = jx := ⟨_, rfl⟩
              rw [hjx] at hrem hidx q5 wrem
              have h7 : (jx : Int) < (La : Int) := by omega
              have h8 : ¬ (jx : Int) < 0 := by omega
              clear hjx hl5
              go_wp2_with fail
              go_quiet (fail)
              go_wp2
              go_round
              case rel =>
                obtain ⟨i', l', e1, e2, e3, e4⟩ := HKK.out (An jx)
                exact ⟨i', l', by first | exact e1 | simpa using e1, by first | exact e2 | simpa using e2, e3, e4 _ (bdrN _ _)⟩
              case measure => first | omega | (simp only [intOf]; omega) | (simp; omega)
            · have h5 : ¬ (0 : Int) < (La : Int) := by omega
              go_wp2_with fail
              go_quiet (fail)
              go_wp2
              go_round
              case rel =>
                obtain ⟨i', l', e1, e2, e3, e4⟩ := HKK.out false
                exact ⟨i', l', by first | exact e1 | simpa using e1, by first | exact e2 | simpa using e2, e3, e4 _ (bdrN _ _)⟩
              case measure => first | omega | (simp only [intOf]; omega) | (simp; omega)
          · have CO := often_any s6.tt (by omega) (HL9.out.1.keep HK6.out HL9.out.2) (fun g q => .inl (HL9.out.2 g q)) (by omega) (f := gn) (fun k k1 k2 => (mt5.2 k k1 k2).1) (fun x => (HBh.out.2.2.trans sc5 x).trans (U.cnt_cl F' _ x m (fun i hi => by simp)))
            have HE : Hid (∀ w', Keep (Nq N1 B wv5) W6 w' → Below w.heap.size w w') := fun w' kO => bthen HB0.out HB0.out.size (HW6.out.trans (kO.below HW6.out.size (fun g hg => .inl (HN1.out g (Nat.lt_of_lt_of_le hg HWr.out)))))
            obtain ⟨ta, tb, tm, te⟩ := tl
            have e3 : tm = false := congrArg (fun z : Tol => z.2.2.1) e2
            have e4 : te = er := congrArg (fun z : Tol => z.2.2.2) e2
            simp only at hW6 ⊢
            subst e3 e4
            clear s6 mt5 sc5 HBh HT e1 e2
            rcases he with rfl | rfl
            · go_wp2_with fail
              refine CO.mono ?_; rintro e w7 ⟨rfl, k7⟩
              have HF := HE.out w7 k7
              clear CO HE k7
              go_wp2
              go_ret
              exact ⟨rfl, HF⟩
            · go_wp2_with fail
              refine CO.mono ?_; rintro e w7 ⟨rfl, k7⟩
              have HF := HE.out w7 k7
              clear CO HE k7
              go_wp2
              go_ret
              exact ⟨rfl, HF⟩
      · have h1 : ¬ (i : Int) < (L : Int) := by omega
        clear hk
        have C9 := begin16 HLv.out.1 (by omega) 0 (.slice none 0 0)
        have HNl : Hid (nlast F' (min m 60) = (m : Int)) := by
          have : nlast F' (min m 60) = (m : Int) := by rw [show min m 60 = m by omega]; exact nlast_all m (fun j hj => (HLv.out.2 j hj).1)
          exact this
        unfold cw3 at C9
        go_wp2_with fail
        refine C9.mono ?_; rintro e w9 ⟨T, S, hb, RT, G, t, s, rfl, bz, bj, bw9⟩
        rw [HNl.out]
        rw [show min m 60 = m by omega] at bj
        obtain ⟨N1, N2, ⟨A, b, a, tt⟩, _, _, hN⟩ := bz.tt
        have C10 := snew_any tt (m : Int)
        have HS0 : Hid (Mt m t s (fun k => F' (k - 1).toNat)) := bj.mt tt.ti (by omega) HLv.out.2
        have HN1 : Hid (∀ g, g < wr.heap.size → N1 g) := fun g hg => (hN g hg).1
        have HW9 : Hid (Below W0.heap.size W0 w9) := bthen HB.out HB.out.size bw9
        have HL9 : Hid (Lv w9 W0.heap.size (.slice ak m ck) m F' ∧ ∀ g, (Value.slice ak m ck).ownBlock = some g → N1 g) := ⟨HLv.out.1.below bw9, fun g q => (hN g (HLv.out.1.own.lt g q).2).1⟩
        have HG : Hid (∀ j, j < m → Gv (F' j)) := HLv.out.2
        clear C9 HNl bz bj bw9 tt hN HLv HB x0 x2
        go_wp2_with fail
        refine C10.mono ?_; rintro e w10 ⟨rfl, so, kp⟩
        obtain ⟨B, hB⟩ : ∃ B, w9.heap.size = B := ⟨_, rfl⟩
        rw [hB] at so
        rw [hB]
        have H0 : Hid (∃ (wv : Value) (A b a : Nat) (d : SD) (g : Int → V), So N1 w10 B wv T A b a S hb (1000 + 31 * 0) d ∧ Mt m d.2.1 d.2.2 g ∧ U.Sc m (fun k => F' (k - 1).toNat) g ∧ U.Nx m d.1 g ((m : Int) * (m : Int) - ((0 : Nat) : Int)) ∧ d.1.wt.length ≤ 0 ∧ Keep N1 w9 w10) := ⟨_, _, _, _, _, _, so, HS0.out, U.Sc.refl _ _, .inl ⟨rfl, by have := U.sq_top m; omega⟩, Nat.le_refl _, kp⟩
        clear C10 so kp HS0 hB
        have hmm : 0 ≤ ((m : Int) + 2) * ((m : Int) + 2) ∧ ((m : Int) + 2) * ((m : Int) + 2) ≤ 42 * 42 := ⟨Int.mul_nonneg (by omega) (by omega), Int.mul_le_mul (by omega) (by omega) (by omega) (by omega)⟩
        have hm2 : (m : Int) * (m : Int) ≤ ((m : Int) + 2) * ((m : Int) + 2) := Int.mul_le_mul (by omega) (by omega) (by omega) (by omega)
        obtain ⟨Q2, hQ2⟩ : ∃ Q2, ((m : Int) + 2) * ((m : Int) + 2) = Q2 := ⟨_, rfl⟩
        obtain ⟨Q1, hQ1⟩ : ∃ Q1, (m : Int) * (m : Int) = Q1 := ⟨_, rfl⟩
        rw [hQ2] at hmm hm2
        rw [hQ1] at hm2 H0
        have wm : IntKind.i64.wrap ((m : Int) + 2) = (m : Int) + 2 := by rw [IntKind.wrap_i64]; omega
        have wq : IntKind.i64.wrap Q2 = Q2 := by rw [IntKind.wrap_i64]; omega
        go_wp2_with fail
        go_loopw [10, 11] (fun lw iw wr => ∃ (i : Nat) (less : Bool), iw = .int .i64 (i : Nat) ∧ lw = .bool less ∧ (i : Int) ≤ Q1 ∧ Hid (∃ (wv : Value) (A b a : Nat) (d : SD) (g : Int → V), So N1 wr B wv T A b a S hb (1000 + 31 * i) d ∧ Mt m d.2.1 d.2.2 g ∧ U.Sc m (fun k => F' (k - 1).toNat) g ∧ U.Nx m d.1 g (Q1 - (i : Int)) ∧ d.1.wt.length ≤ i ∧ Keep N1 w9 wr)) (fun _ iw _ => (Q1 + 1).toNat - (intOf iw).toNat)
        case atStart => exact ⟨0, false, rfl, rfl, by have h0 : 0 ≤ (m : Int) * (m : Int) := Int.mul_nonneg (by omega) (by omega); omega, H0⟩
        case round =>
          obtain ⟨i2, less, rfl, rfl, hi2, HR⟩ := hrel
          obtain ⟨wv, A, b, a, d, gf, so, mt, sc, nx, hw, kp⟩ := HR.out
          clear HR H0
          have hcond : (i2 : Int) ≤ Q2 := by omega
          have hi3 : i2 ≤ 1764 := by omega
          obtain ⟨fit, ha⟩ := nx.fit (by omega) (by omega)
          have CN := next_any so (by omega) fit less ha
          have bh := nx.go (hd_mt (by omega)) mt less
          have hlen := U.go_len d less
          obtain ⟨R, hR⟩ : ∃ R, goR d less = R := ⟨_, rfl⟩
          rw [hR] at CN bh hlen
          have HBh : Hid (U.Bh m (Mt m) gf (Q1 - (i2 : Int)) R ∧ R.1.1.wt.length ≤ i2 + 1 ∧ U.Sc m (fun k => F' (k - 1).toNat) gf) := ⟨bh, by omega, sc⟩
          have HK : Hid (Keep N1 w9 wr) := kp
          unfold tol4 at CN
          obtain ⟨tl, htl⟩ : ∃ tl, R.2 = tl := ⟨_, rfl⟩
          rw [htl] at CN
          have HT : Hid (R.2 = tl) := htl
          clear so mt sc nx hw kp fit ha bh hlen hR htl
          go_wp2_with fail
          refine CN.mono ?_; rintro e w5 ⟨rfl, ⟨wv5, A5, B5, D5, s5⟩, k5⟩
          obtain ⟨gn, sc5, mt5, hcase⟩ := HBh.out.1
          rw [HT.out] at hcase
          have B6 := b2 w5 (vb tl.1.1 tl.1.2.1 tl.1.2.2) (vb tl.2.1.1 tl.2.1.2.1 tl.2.1.2.2)
          have s6 := s5.below B6
          have HK6 : Hid (Keep N1 w9 ((w5.alloc (vb tl.1.1 tl.1.2.1 tl.1.2.2)).alloc (vb tl.2.1.1 tl.2.1.2.1 tl.2.1.2.2))) := (HK.out.trans k5).trans (Keep.of B6)
          obtain ⟨W6, hW6⟩ : ∃ W6, (w5.alloc (vb tl.1.1 tl.1.2.1 tl.1.2.2)).alloc (vb tl.2.1.1 tl.2.1.2.1 tl.2.1.2.2) = W6 := ⟨_, rfl⟩
          rw [hW6] at s6 HK6
          unfold vb at hW6
          have HW6 : Hid (Below W0.heap.size W0 W6) := HW9.out.trans (HK6.out.below HW9.out.size (fun g hg => HN1.out g (Nat.lt_of_lt_of_le hg HWr.out)))
          clear B6 s5 k5 CN HK
          rcases hcase with ⟨t1, t2, si, lf⟩ | ⟨er, he, e1, e2⟩
          · have HS6 : Hid (So N1 W6 B wv5 T A5 B5 D5 S hb (1000 + 31 * i2 + 31) R.1 ∧ Mt m R.1.2.1 R.1.2.2 gn ∧ U.Sc m (fun k => F' (k - 1).toNat) gn ∧ U.Nx m R.1.1 gn (Q1 - ((i2 + 1 : Nat) : Int)) ∧ R.1.1.wt.length ≤ i2 + 1) := ⟨s6, mt5, HBh.out.2.2.trans sc5, .inr ⟨si, by omega⟩, HBh.out.2.1⟩
            have hnn : (i2 : Int) + 1 ≤ Q1 := by have := HS6.out.2.2.2.1.nn; omega
            have wi2 : IntKind.i64.wrap ((i2 : Int) + 1) = (i2 : Int) + 1 := by rw [IntKind.wrap_i64]; omega
            obtain ⟨x0, x2⟩ := HX.out W6 HW6.out
            obtain ⟨ta, tb, tm, te⟩ := tl
            simp only at t1 t2 hW6 ⊢
            subst t1
            clear t2 si lf mt5 sc5 s6
            have HKK : Hid (∀ less', ∃ (i : Nat) (less : Bool), Value.int .i64 ((i2 : Int) + 1) = .int .i64 (i : Nat) ∧ Value.bool less' = .bool less ∧ (i : Int) ≤ Q1 ∧ ∀ Wx, Below W6.heap.size W6 Wx → Hid (∃ (wv : Value) (A b a : Nat) (d : SD) (g : Int → V), So N1 Wx B wv T A b a S hb (1000 + 31 * i) d ∧ Mt m d.2.1 d.2.2 g ∧ U.Sc m (fun k => F' (k - 1).toNat) g ∧ U.Nx m d.1 g (Q1 - (i : Int)) ∧ d.1.wt.length ≤ i ∧ Keep N1 w9 Wx)) := fun less' => ⟨i2 + 1, less', by simp, rfl, by omega, fun Wx kx => ⟨_, _, _, _, _, _, (HS6.out.1.below kx).more (by omega), HS6.out.2.1, HS6.out.2.2.1, HS6.out.2.2.2.1, HS6.out.2.2.2.2, HK6.out.trans (Keep.of kx)⟩⟩
            by_cases hla : 0 < La
            · have h5 : (0 : Int) < (La : Int) := by omega
              have h6 : ¬ (La : Int) = 0 := by omega
              have hrem : (i2 : Int).tmod (La : Int) = ((i2 % La : Nat) : Int) := by rw [Int.tmod_eq_emod_of_nonneg (by omega)]; simp
              have hidx := Nat.mod_lt i2 hla
              obtain ⟨lb5, off5, rfl, hl5, q5⟩ := (HV.out.2.below HW6.out).at' (i2 % La) hidx
              have wrem : IntKind.i64.wrap ((i2 % La : Nat) : Int) = ((i2 % La : Nat) : Int) := by rw [IntKind.wrap_i64]; omega
              obtain ⟨jx, hjx⟩ : ∃ jx, i2 % La = jx := ⟨_, rfl⟩
              rw [hjx] at hrem hidx q5 wrem
              have h7 : (jx : Int) < (La : Int) := by omega
              have h8 : ¬ (jx : Int) < 0 := by omega
              clear hjx hl5
              go_wp2_with fail
              go_quiet (fail)
              go_wp2
              go_round
              case rel =>
                obtain ⟨i', l', e1, e2, e3, e4⟩ := HKK.out (An jx)
                exact ⟨i', l', by first | exact e1 | simpa using e1, by first | exact e2 | simpa using e2, e3, e4 _ (bdrN _ _)⟩
              case measure => first | omega | (simp only [intOf]; omega) | (simp; omega)
            · have h5 : ¬ (0 : Int) < (La : Int) := by omega
              go_wp2_with fail
              go_quiet (fail)
              go_wp2
              go_round
              case rel =>
                obtain ⟨i', l', e1, e2, e3, e4⟩ := HKK.out false
                exact ⟨i', l', by first | exact e1 | simpa using e1, by first | exact e2 | simpa using e2, e3, e4 _ (bdrN _ _)⟩
              case measure => first | omega | (simp only [intOf]; omega) | (simp; omega)
          · have CO := often_any s6.tt (by omega) (HL9.out.1.keep HK6.out HL9.out.2) (fun g q => .inl (HL9.out.2 g q)) (by omega) (f := gn) (fun k k1 k2 => (mt5.2 k k1 k2).1) (fun x => (HBh.out.2.2.trans sc5 x).trans (U.cnt_cl F' _ x m (fun i hi => by simp)))
            have HE : Hid (∀ w', Keep (Nq N1 B wv5) W6 w' → Below w.heap.size w w') := fun w' kO => bthen HB0.out HB0.out.size (HW6.out.trans (kO.below HW6.out.size (fun g hg => .inl (HN1.out g (Nat.lt_of_lt_of_le hg HWr.out)))))
            obtain ⟨ta, tb, tm, te⟩ := tl
            have e3 : tm = false := congrArg (fun z : Tol => z.2.2.1) e2
            have e4 : te = er := congrArg (fun z : Tol => z.2.2.2) e2
            simp only at hW6 ⊢
            subst e3 e4
            clear s6 mt5 sc5 HBh HT e1 e2
            rcases he with rfl | rfl
            · go_wp2_with fail
              refine CO.mono ?_; rintro e w7 ⟨rfl, k7⟩
              have HF := HE.out w7 k7
              clear CO HE k7
              go_wp2
              go_ret
              exact ⟨rfl, HF⟩
            · go_wp2_with fail
              refine CO.mono ?_; rintro e w7 ⟨rfl, k7⟩
              have HF := HE.out w7 k7
              clear CO HE k7
              go_wp2
              go_ret
              exact ⟨rfl, HF⟩
end Go.Proofs.YtkmopcanaalemabGreat

/- How a case that came in is read: a list of values, a number, a list of truths. -/
namespace Go.Proofs.YtkmopcanaalemabGreat
open Go.RowKit Go.ChangeShapes Go.WideShapes Go.ChangeAt Go.Deep

theorem cells3 : Tryz.prog.cellsOf 3 = 1 := by kernel_rfl
theorem cells4 : Tryz.prog.cellsOf 4 = 1 := by kernel_rfl
theorem cells9 : Tryz.prog.cellsOf 9 = 1 := by kernel_rfl
theorem cells22 : Tryz.prog.cellsOf 22 = 1 := by kernel_rfl
theorem cells23 : Tryz.prog.cellsOf 23 = 1 := by kernel_rfl
theorem cells36 : Tryz.prog.cellsOf 36 = 3 := by kernel_rfl
theorem cells25 : Tryz.prog.cellsOf 25 = 3 := by kernel_rfl
theorem laidOut : laidOutB Tryz.prog = true := by kernel_rfl
theorem elem_val {H : Type} {enc : TypeId × Value → H} {W : World} {base : Nat} {sp : Nat → Bool} {held : Bool} {fuel : Nat} {cs : List Value} {x : DataW H × List MemPlace}
    (hlen : cs.length = 3) (hf : DataW.trod enc Tryz.prog W base sp held fuel 36 cs = some x) :
    ∃ (k n : Int) (s : ByteArray), cs = [.int .i64 k, .int .i64 n, .string s] ∧ (Lit.int .i64 n).wf = true := by
  obtain ⟨c0, c1, c2, rfl⟩ : ∃ c0 c1 c2, cs = [c0, c1, c2] := by
    match cs, hlen with
    | [c0, c1, c2], _ => exact ⟨c0, c1, c2, rfl⟩
  obtain ⟨y0, y1, y2, m, hx, _, t0, t1, t2⟩ := trod_struct3 Tryz.underlying36 hf
  obtain ⟨k, e0, f0, g0⟩ := DataW.trod_int Tryz.underlying3 t0
  obtain ⟨n, e1, f1, g1⟩ := DataW.trod_int Tryz.underlying3 t1
  obtain ⟨s, e2, f2, g2⟩ := DataW.trod_string Tryz.underlying9 t2
  simp [cells3, cells9] at e0 e1 e2
  subst e0 e1 e2
  exact ⟨k, n, s, rfl, g1⟩

theorem add_none {b off : Nat} (i : Nat) : (Addr.add ⟨b, off, none⟩ i) = ⟨b, off + i, none⟩ := by
  by_cases hj0 : i = 0
  · subst hj0; rfl
  · simp [Addr.add, hj0]
theorem spot_none {W : World} {a : Addr} {v : Value} (h : W.cell? a = some v) : a.spot = none := by
  obtain ⟨b, off, spot⟩ := a
  cases spot with
  | none => rfl
  | some q => unfold World.cell? at h; split at h <;> simp at h
set_option maxRecDepth 100000 in
theorem open_vals16 {H : Type} {enc : TypeId × Value → H} {W : World} {base : Nat} {held : Bool} {fuel : Nat} {c : Value} {x : DataW H × List MemPlace} (t3 : DataW.trod enc Tryz.prog W base (fun _ => true) held fuel 22 [c] = some x) :
    ∃ (a : Option Addr) (L cap : Nat) (F : Nat → V), c = .slice a L cap ∧ L ≤ 9223372036854775807 ∧ Vin W a L F := by
  rcases open_slice Tryz.underlying22 t3 with ⟨h0, _⟩ | ⟨a, len, cap, m, n, D, Pl, h0, hb, hl, hm, hmm, hx, he⟩
  · simp at h0
    subst h0
    exact ⟨none, 0, 0, fun _ => nil, rfl, by omega, ⟨fun i hi => absurd hi (Nat.not_lt_zero _)⟩⟩
  · simp only [if_true] at hmm
    subst hmm
    simp at h0
    subst h0
    have each : ∀ i, i < m → ∃ q : V, W.cell? (a.add (i * 3)) = some (.int .i64 q.1) ∧ W.cell? (a.add (i * 3 + 1)) = some (.int .i64 q.2.1) ∧ W.cell? (a.add (i * 3 + 2)) = some (.string q.2.2) := by
      intro i hi
      obtain ⟨cs', h1, h2⟩ := he i hi
      rw [cells36] at h1
      obtain ⟨_, hlen, hcell⟩ := World.cells?_some h1
      obtain ⟨k, n, s, rfl, _⟩ := elem_val hlen h2
      have c0 := hcell 0 (by omega)
      have c1 := hcell 1 (by omega)
      have c2 := hcell 2 (by omega)
      rw [Addr.add_add] at c0 c1 c2
      exact ⟨(k, n, s), c0, c1, c2⟩
    obtain ⟨F, hF⟩ : ∃ F : Nat → V, ∀ i, i < m → W.cell? (a.add (i * 3)) = some (.int .i64 (F i).1) ∧ W.cell? (a.add (i * 3 + 1)) = some (.int .i64 (F i).2.1) ∧ W.cell? (a.add (i * 3 + 2)) = some (.string (F i).2.2) :=
      ⟨fun i => if h : i < m then (each i h).choose else nil, fun i hi => by
        simp only [dif_pos hi]
        exact (each i hi).choose_spec⟩
    refine ⟨some a, len, m, F, rfl, by unfold maxLen at hm; omega, ⟨fun i hi => ?_⟩⟩
    have hc0 := (hF 0 (by omega)).1
    have ha : a.add (0 * 3) = a := rfl
    rw [ha] at hc0
    obtain ⟨b, off, spot⟩ := a
    have hs : spot = none := spot_none hc0
    subst hs
    obtain ⟨q0, q1, q2⟩ := hF i (by omega)
    rw [add_none] at q0 q1 q2
    exact ⟨b, off, rfl, World.block_lt_of_cell? W _ hc0, q0, by rw [Nat.add_assoc]; exact q1, by rw [Nat.add_assoc]; exact q2⟩
set_option maxRecDepth 100000 in
theorem open_bools16 {H : Type} {enc : TypeId × Value → H} {W : World} {base : Nat} {held : Bool} {fuel : Nat} {c : Value} {x : DataW H × List MemPlace} (t3 : DataW.trod enc Tryz.prog W base (fun _ => true) held fuel 23 [c] = some x) :
    ∃ (a : Option Addr) (L cap : Nat) (An : Nat → Bool), c = .slice a L cap ∧ L ≤ 9223372036854775807 ∧ Bin W a L An := by
  rcases open_slice Tryz.underlying23 t3 with ⟨h0, _⟩ | ⟨a, len, cap, m, n, D, Pl, h0, hb, hl, hm, hmm, hx, he⟩
  · simp at h0
    subst h0
    exact ⟨none, 0, 0, fun _ => false, rfl, by omega, ⟨fun i hi => absurd hi (Nat.not_lt_zero _)⟩⟩
  · simp only [if_true] at hmm
    subst hmm
    simp at h0
    subst h0
    have each : ∀ i, i < m → ∃ q : Bool, W.cell? (a.add i) = some (.bool q) := by
      intro i hi
      obtain ⟨cs', h1, h2⟩ := he i hi
      rw [cells4] at h1
      obtain ⟨_, hlen, hcell⟩ := World.cells?_some h1
      obtain ⟨c0, rfl⟩ : ∃ c0, cs' = [c0] := by
        match cs', hlen with
        | [c0], _ => exact ⟨c0, rfl⟩
      obtain ⟨q, e0, _⟩ := DataW.trod_bool Tryz.underlying4 h2
      simp at e0
      subst e0
      have c0 := hcell 0 (by omega)
      rw [Addr.add_add, Nat.mul_one] at c0
      exact ⟨q, c0⟩
    obtain ⟨F, hF⟩ : ∃ F : Nat → Bool, ∀ i, i < m → W.cell? (a.add i) = some (.bool (F i)) :=
      ⟨fun i => if h : i < m then (each i h).choose else false, fun i hi => by
        simp only [dif_pos hi]
        exact (each i hi).choose_spec⟩
    refine ⟨some a, len, m, F, rfl, by unfold maxLen at hm; omega, ⟨fun i hi => ?_⟩⟩
    have hc0 := hF 0 (by omega)
    have ha : a.add 0 = a := rfl
    rw [ha] at hc0
    obtain ⟨b, off, spot⟩ := a
    have hs : spot = none := spot_none hc0
    subst hs
    have q0 := hF i (by omega)
    rw [add_none] at q0
    exact ⟨b, off, rfl, World.block_lt_of_cell? W _ hc0, q0⟩
set_option maxRecDepth 100000 in
theorem open_case16 {H : Type} {enc : TypeId × Value → H} {W : World} {base b0 : Nat} {held : Bool} {r : Reach} {v : Value} {d : DataW H} {ps : List MemPlace}
    (hval : Value.okWide Tryz.prog W r b0 25 v) (hd : DataW.Trod enc Tryz.prog W base (fun _ => true) held 25 v d ps) :
    ∃ (av aa : Option Addr) (L cv La ca : Nat) (nv : Int) (F : Nat → V) (An : Nat → Bool), v = .agg #[.slice av L cv, .int .i64 nv, .slice aa La ca] ∧ L ≤ 9223372036854775807 ∧ La ≤ 9223372036854775807 ∧ Vin W av L F ∧ Bin W aa La An := by
  obtain ⟨cs, rfl, h2⟩ := okWide_struct Tryz.underlying25 hval
  rw [cells25] at h2
  obtain ⟨ll⟩ := cs
  obtain ⟨c0, c1, c2, rfl⟩ : ∃ c0 c1 c2, ll = [c0, c1, c2] := by
    match ll, h2 with
    | [c0, c1, c2], _ => exact ⟨c0, c1, c2, rfl⟩
  obtain ⟨fuel, hf⟩ := hd
  obtain ⟨y0, y1, y2, m, hx, _, t0, t1, t3⟩ := trod_struct3 Tryz.underlying25 hf
  obtain ⟨x, e1, f1, g1⟩ := DataW.trod_int Tryz.underlying3 t1
  simp [Value.cells, cells3] at e1
  subst e1
  rw [cells22] at t0
  rw [cells23] at t3
  obtain ⟨av, L, cv, F, e2, hL, hV⟩ := open_vals16 (c := c0) (by simpa [Value.cells] using t0)
  obtain ⟨aa, La, ca, An, e3, hLa, hB⟩ := open_bools16 (c := c2) (by simpa [Value.cells] using t3)
  subst e2 e3
  exact ⟨av, aa, L, cv, La, ca, x, F, An, rfl, hL, hLa, hV, hB⟩
end Go.Proofs.YtkmopcanaalemabGreat
