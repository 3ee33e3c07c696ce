/- The walk of WalkWhole. -/
import Derived.Test.YthlgeohncpmaaabCg32
import Derived.BigQuiet
import Derived.Deep.QuietTactic
namespace Go.Proofs.Ythlgeohncpmaaab
open Go.RowKit

set_option maxRecDepth 20000 in
set_option maxHeartbeats 4000000 in
theorem wwhole_walk (x y : Int) (a : Option Addr) (L cap : Nat) (W : World) (Q : Nat → Int × V × V) (hO : Ops W.heap.size W a L Q) (a2 : Option Addr) (L2 cap2 : Nat) (Q2 : Nat → Int × V × V) (hO2 : Ops W.heap.size W a2 L2 Q2) :
    Calls Try.prog 3 #[cw x y (.slice a L cap), .slice a2 L2 cap2] W fun e w' => e = .returned (.bool true) ∧ Below W.heap.size W w' := by
  obtain ⟨B0, hl0, x0, x1, x2⟩ := start_case x y a L cap W
  obtain ⟨W0, hW0⟩ : ∃ W0, W.alloc (.cells #[.int .i64 x, .int .i64 y, .slice a L cap] 24) = W0 := ⟨_, rfl⟩
  rw [hW0] at B0 hl0 x0 x1 x2
  obtain ⟨X, hX⟩ : ∃ X, W.heap.size = X := ⟨_, rfl⟩
  rw [hX] at B0 hl0 x0 x1 x2 hO
  have HX : Hid (W.heap.size = X) := hX
  have C1 := fixed_any W0
  have HO : Hid (∀ w', Below X W w' → Ops X w' a L Q) := fun w' k => hO.below k
  have HB0 : Hid (Below X W W0) := B0
  have HF : Hid (∀ W1, Below W0.heap.size W0 W1 → X < W1.heap.size ∧ W1.cell? ⟨X, 0, none⟩ = some (.int .i64 x) ∧ W1.cell? ⟨X, 1, none⟩ = some (.int .i64 y) ∧ W1.cell? ⟨X, 2, none⟩ = some (.slice a L cap)) := fun W1 k => start_fixed hl0 x0 x1 x2 k
  have HN : Hid (X ≤ W0.heap.size) := Nat.le_of_lt hl0
  clear B0 hO
  unfold cw
  have HO2 : Hid (∀ w', Below X W w' → Ops X w' a2 L2 Q2) := fun w' k => (hX ▸ hO2).below k
  clear hO2
  go_enter Try.func3, Try.ntmps3
  go_wp2_with fail
  refine C1.mono ?_; rintro e W1 ⟨rfl, k1⟩
  obtain ⟨hl1, y0, y1, y2⟩ := HF.out W1 k1
  have C2 := begin_any x y (.slice a L cap) W1
  have HB1 : Hid (Below X W W1) := bthen HB0.out HN.out k1
  unfold cw tp at C2
  have HL1 : Hid _ := And.intro hl1 y2
  clear C1 k1
  go_wp2_with fail
  refine C2.mono ?_; rintro e W2 ⟨T, A, b, a', S, hb, RT, t0, s0, rfl, tt, bw, st, _⟩
  have H0 : Hid (Ws (fun g => g < W1.heap.size) W W2 X (.slice a L cap) none T S hb 3 t0 s0) := ws_of tt bw (Or.inr ⟨HL1.out.1, rfl⟩) (fun k e => by cases e) HB1.out HL1.out.2
  generalize (fun g => g < W1.heap.size) = P1 at *
  have HS0 : Hid (pres t0.p = []) := st.pr
  clear C2 tt bw st y0 y1 y2 x0 x1 x2 hl1
  go_wp2_with fail
  go_loopw [8] (fun iw wr => ∃ k : Nat, iw = .int .i64 (k : Nat) ∧ k ≤ L ∧ k ≤ 300 ∧ Hid (∃ t s, Ws P1 W wr X (.slice a L cap) none T S hb (3 + 7 * k) t s ∧ (pres t.p).length ≤ k)) (fun iw _ => 300 - (intOf iw).toNat)
  case atStart => exact ⟨0, rfl, by omega, by omega, t0, s0, H0.out, by rw [HS0.out]; simp⟩
  case round =>
    obtain ⟨k, rfl, hk, hk3, HR0⟩ := hrel
    obtain ⟨t, s, HR, hpk⟩ := HR0.out
    have HPk : Hid ((pres t.p).length ≤ k) := hpk
    have HTi : Hid (TI t.p) := HR.ti
    clear hpk
    clear H0 HR0
    have xc := HR.xc
    by_cases hlt : k < L
    · by_cases hlt3 : k < 300
      · have hlt' : (k : Int) < (L : Int) := by omega
        have hlt3' : (k : Int) < 300 := by omega
        have hk0 : ¬ ((k : Int) < 0) := by omega
        obtain ⟨lb, off, rfl, hlb, i0, i1, i2, i3, i4, i5, i6⟩ := (HO.out wr HR.bel).at hlt
        have hr := ((HO.out wr HR.bel).1 k hlt)
        have hwi : IntKind.i64.wrap ((k : Int) + 1) = (k : Int) + 1 := by rw [IntKind.wrap_i64]; omega
        have CS := (HR.below (bdrew1 wr)).set (by omega) (Q k).2.1 (Q k).2.2 hr
        unfold vv vl tp at CS
        generalize Q k = q at *
        clear HR
        go_wp2_with fail
        refine wp_tail 13 (by kernel_rfl) (by kernel_rfl) ?_
        simp only [List.take_succ_cons, List.take_zero, List.drop_succ_cons, List.drop_zero]
        repeat still_step
        refine wpStill_nil ?_
        go_wp2_with fail
        refine CS.mono ?_; rintro e W4 ⟨rfl, b4, _⟩
        have H4 : Hid (Ws P1 W W4 X (.slice (some ⟨lb, off, none⟩) L cap) none T S hb (3 + 7 * k + 7) (tset t s q.2.1 q.2.2).1 (tset t s q.2.1 q.2.2).2.1 ∧ (pres (tset t s q.2.1 q.2.2).1.p).length ≤ k + 1) := ⟨b4, Nat.le_trans (pres_count HTi.out hr b4.ti) (Nat.succ_le_succ HPk.out)⟩
        clear CS b4
        go_wp2_with fail
        go_round
        case rel => exact ⟨k + 1, by go_num, by omega, by omega, _, _, H4.out.1, H4.out.2⟩
        case measure => simp [intOf]; omega
      · have hlt3' : ¬ ((k : Int) < 300) := by omega
        have hlt' : (k : Int) < (L : Int) := by omega
        clear hlt3 hlt
        have HT : Hid (Ws P1 W wr X (.slice a L cap) none T S hb (3 + 7 * k) t s) := HR
        have CL := HR.list
        unfold tp at CL
        have hll : (wl t.p).length ≤ 300 := Nat.le_trans (wl_count HTi.out) (by have := HPk.out; omega)
        obtain ⟨l, hl⟩ : ∃ l, wl t.p = l := ⟨_, rfl⟩
        rw [hl] at CL hll
        have HLe : Hid (wl t.p = l) := hl
        clear HR hl HPk
        go_wp2_with fail
        refine CL.mono ?_; rintro e W5 ⟨v5, rfl, row5, k5⟩
        obtain ⟨a1, cp, rfl, hrow⟩ := pr_of row5
        have HPr : Hid (Prs W5 l a1 ∧ ∀ g, a1 = some ⟨g, 0, none⟩ → wr.heap.size ≤ g ∧ g < W5.heap.size) := by
          refine ⟨fun i x hx => ?_, fun g e => ?_⟩
          · obtain ⟨g, e, g1, g2, g3⟩ := hrow x (List.mem_of_getElem? hx)
            obtain ⟨c0, c1, c2, _⟩ := g3 i x hx
            exact ⟨g, e, g2, c0, c1, c2⟩
          · exact row5.lt g (by rw [e]; rfl)
        have h5 := HT.out.news k5
        have bz := b1 W5 (.cells #[.int .i64 0, .int .i64 0, .string ⟨#[]⟩] 33)
        have r7 : R3 (W5.alloc (.cells #[.int .i64 0, .int .i64 0, .string ⟨#[]⟩] 33)) W5.heap.size nil := R3.made W5 nil
        have h7 := h5.news bz
        have s7 : (W5.alloc (.cells #[.int .i64 0, .int .i64 0, .string ⟨#[]⟩] 33)).heap.size = W5.heap.size + 1 := by simp
        obtain ⟨W7, hW7⟩ : ∃ W7, W5.alloc (.cells #[.int .i64 0, .int .i64 0, .string ⟨#[]⟩] 33) = W7 := ⟨_, rfl⟩
        rw [hW7] at bz r7 h7 s7
        have hx5 : X < wr.heap.size := HT.out.sz
        have z5 := k5.size
        have H7 : Hid (∃ P, Wt P W W7 X (.slice a L cap) T S hb (3 + 7 * k) t s l a1 W5.heap.size nil (.slice none 0 0) (.slice none 0 0) 0 0 (fun _ => nil) (fun _ => nil)) := by
          refine ⟨_, ⟨h7, (fun g e => .inl (.inr (HPr.out.2 g e))), .inr ⟨Nat.le_refl _, by omega⟩, (fun g e => by cases e), (fun g e => by cases e), HPr.out.1.below bz, r7, by omega, Lv.nil _ _ _, Lv.nil _ _ _, (fun g e => ⟨(by have := (HPr.out.2 g e).2; omega), (fun q => by cases q), (fun q => by cases q), (by have := (HPr.out.2 g e).1; omega), (by have := (HPr.out.2 g e).2; omega)⟩), ⟨(fun q => by cases q), (fun q => by cases q)⟩, (fun g e => by cases e)⟩⟩
        have HWz : Hid (W5.alloc (.cells #[.int .i64 0, .int .i64 0, .string ⟨#[]⟩] 33) = W7) := hW7
        clear CL hrow row5 k5 h5 bz r7 h7 s7 hW7 HPr HT
        go_wp2_with fail
        rw [HWz.out]
        clear HWz
        generalize W5.heap.size = kb at *
        go_loopw [9, 10, 13] (fun vg vc iw w' => ∃ i : Nat, iw = .int .i64 (i : Nat) ∧ i ≤ l.length ∧ Hid (∃ (P : Nat → Prop) (ng pos : Nat) (key : V) (t' : TS) (s' : H.St) (C G : Nat → V), Wt P W w' X (.slice a L cap) T S hb (3 + 7 * k + 20 * i) t' s' l a1 kb key vg vc ng i G C ∧ Tv t.p t'.p pos i C ng G ∧ Kpos t'.p pos key ∧ ng ≤ i)) (fun _ _ iw _ => l.length + 1 - (intOf iw).toNat)
        case atStart => exact ⟨0, rfl, by omega, H7.out.choose, 0, 0, nil, t, s, fun _ => nil, fun _ => nil, H7.out.choose_spec, Tv.start _ _ _, .inl ⟨rfl, rfl⟩, by omega⟩
        case round =>
          obtain ⟨i, rfl, hi, HR2⟩ := hrel
          obtain ⟨P, ng, pos, key, t', s', C, G, hw, htv, hkp, hng⟩ := HR2.out
          clear HR2 H7
          have hil' : (i : Int) ≤ (l.length : Int) := by omega
          have hwi : IntKind.i64.wrap ((i : Int) + 1) = (i : Int) + 1 := by rw [IntKind.wrap_i64]; omega
          have kz0 := hw.kx.bx.c0
          have kz1 := hw.kx.bx.c1
          have kz2 := hw.kx.bx.c2
          obtain ⟨ag, cg, rfl⟩ := hw.lg.form
          obtain ⟨ac, cc, rfl⟩ := hw.lc.form
          obtain ⟨x, hx⟩ : ∃ x, pnx t'.p pos = x := ⟨_, rfl⟩
          have HTV : Hid (Tv t.p t'.p pos i C ng G) := htv
          have HGx : Hid (pget t'.p x.1 = x.2 ∧ Rng x.1) := by
            show _ ∧ _
            rcases htv.next HTi.out with ⟨e, _, _⟩ | ⟨j, j0, j1, e, hv, _, _, _⟩
            · rw [← hx, e]
              refine ⟨?_, by constructor <;> simp [nil]⟩
              unfold pget mg fnd
              rw [if_neg (fun q => by have := q.1; simp [nil] at this), if_pos (.inr (.inr rfl))]
              rfl
            · rw [← hx, e]
              obtain ⟨_, _, _, q4, q5⟩ := plc_prO hw.ws.ti (i := j) j0 (by rw [htv.n, htv.z]; exact j1) hv
              exact ⟨q4, q5⟩
          have HNX : Hid (pnx t'.p pos = x) := hx
          have CN := hw.ws.next (by omega) key hkp.rng
          rw [hkp.next, hx] at CN
          unfold tp vv vl at CN
          have HW : Hid (Wt P W wr X (.slice a L cap) T S hb (3 + 7 * k + 20 * i) t' s' l a1 kb key (.slice ag ng cg) (.slice ac i cc) ng i G C) := hw
          clear hw htv hkp hx
          go_wp2_with fail
          refine CN.mono ?_; rintro e Wa ⟨rfl, ha, ka⟩
          have hwa := HW.out.kept ha ka
          have bb := b2 Wa (vb x.1.1 x.1.2.1 x.1.2.2) (vb x.2.1 x.2.2.1 x.2.2.2)
          have hwb := hwa.news bb
          have hbx := Box2.made Wa x
          have sb : ((Wa.alloc (vb x.1.1 x.1.2.1 x.1.2.2)).alloc (vb x.2.1 x.2.2.1 x.2.2.2)).heap.size = Wa.heap.size + 2 := by simp
          obtain ⟨Wb, hWb⟩ : ∃ Wb, (Wa.alloc (vb x.1.1 x.1.2.1 x.1.2.2)).alloc (vb x.2.1 x.2.2.1 x.2.2.2) = Wb := ⟨_, rfl⟩
          have hbx' : Box2 Wb Wa.heap.size x := by rw [← hWb]; exact hbx
          rw [hWb] at hwb sb
          obtain ⟨P5, hP5⟩ : ∃ P5, (fun g => P g ∨ (Wa.heap.size ≤ g ∧ g < Wb.heap.size)) = P5 := ⟨_, rfl⟩
          rw [hP5] at hwb
          have HP5 : Hid ((∀ g, P g → P5 g) ∧ P5 Wa.heap.size ∧ P5 (Wa.heap.size + 1)) := by
            rw [← hP5]; exact ⟨fun g q => .inl q, .inr ⟨by omega, by omega⟩, .inr ⟨by omega, by omega⟩⟩
          obtain ⟨t5, ht5⟩ : ∃ t5 : TS, { t' with pr := t'.pr + (if fm key = true ∧ key.1 ≠ 0 then prd t'.p key else 0 : Nat) } = t5 := ⟨_, rfl⟩
          have et5 : t5.p = t'.p := by rw [← ht5]
          rw [ht5] at hwb
          have CG := (hwb.ws.below (bdrew1 Wb)).get (by omega) x.1 HGx.out.2
          rw [show pget t5.p x.1 = x.2 by rw [et5]; exact HGx.out.1] at CG
          unfold tp vv vl at CG
          have HD : Hid ((∀ g, (Value.slice ag ng cg).ownBlock = some g → g < Wa.heap.size) ∧ (∀ g, (Value.slice ac i cc).ownBlock = some g → g < Wa.heap.size) ∧ kb < Wa.heap.size ∧ ∀ g, a1 = some ⟨g, 0, none⟩ → g < Wa.heap.size) := ⟨fun g e => (hwa.lg.own.lt g e).2, fun g e => (hwa.lc.own.lt g e).2, hwa.kx.bx.lt, fun g e => (hwa.d1 g e).2.2.2.2⟩
          have HSS : Hid (∀ W', Keep P5 Wb W' → Box2 W' Wa.heap.size x) := fun W' q => hbx'.kept q HP5.out.2.1 HP5.out.2.2
          have HK0 : Hid (Keep P5 Wb Wb.drew) := Keep.of (bdrew1 Wb)
          have HS6 : Hid (∀ W', Keep P5 Wb W' → W'.cell? ⟨Wa.heap.size, 0, none⟩ = some (.int .i64 x.1.1) ∧ W'.cell? ⟨Wa.heap.size, 1, none⟩ = some (.int .i64 x.1.2.1) ∧ W'.cell? ⟨Wa.heap.size, 2, none⟩ = some (.string x.1.2.2) ∧ W'.cell? ⟨Wa.heap.size + 1, 0, none⟩ = some (.int .i64 x.2.1) ∧ W'.cell? ⟨Wa.heap.size + 1, 1, none⟩ = some (.int .i64 x.2.2.1) ∧ W'.cell? ⟨Wa.heap.size + 1, 2, none⟩ = some (.string x.2.2.2)) := fun W' q => by
            have hb' := HSS.out W' q
            exact ⟨hb'.k0, hb'.k1, hb'.k2, hb'.v0, hb'.v1, hb'.v2⟩
          have q2 : ∀ W', (binOp .neq 33 (vl x.2.1 x.2.2.1 x.2.2.2) (vl x.2.1 x.2.2.1 x.2.2.2)).run Try.prog W' = .ok (.bool false) W' := fun W' => by rw [neq32]; simp
          unfold vl at q2
          have HWb : Hid ((Wa.alloc (.cells #[.int .i64 x.1.1, .int .i64 x.1.2.1, .string x.1.2.2] 33)).alloc (.cells #[.int .i64 x.2.1, .int .i64 x.2.2.1, .string x.2.2.2] 33) = Wb) := hWb
          have HWW : Hid (Wt P5 W Wb X (.slice a L cap) T S hb (3 + 7 * k + 20 * i + 1) t5 s' l a1 kb key (.slice ag ng cg) (.slice ac i cc) ng i G C) := hwb
          have HNw : Hid (∀ wx t2, t2.p = t'.p → Ws P5 W wx X (.slice a L cap) none T S hb (3 + 7 * k + 20 * i + 1 + 1) t2 s' → Keep P5 Wb wx → Hid (∃ t2 : TS, t2.p = t'.p ∧ Ws P5 W wx X (.slice a L cap) none T S hb (3 + 7 * k + 20 * i + 1 + 1) t2 s' ∧ Keep P5 Wb wx)) := fun wx t2 e1 e2 e3 => ⟨t2, e1, e2, e3⟩
          clear CN ha ka bb hwa hwb hbx hbx' sb hWb hP5 HW kz0 kz1 kz2
          go_upto_region 17 with fail
          rw [HWb.out]
          clear HWb
          generalize Wa.heap.size = B11 at *
          go_cut [77] from 69 to 77 (fun z wx => z = .bool false ∧ Hid (∃ t2 : TS, t2.p = t'.p ∧ Ws P5 W wx X (.slice a L cap) none T S hb (3 + 7 * k + 20 * i + 1 + 1) t2 s' ∧ Keep P5 Wb wx))
          case first =>
            go_region_held3 (fun W' => W'.cell? ⟨B11, 0, none⟩ = some (.int .i64 x.1.1) ∧ W'.cell? ⟨B11, 1, none⟩ = some (.int .i64 x.1.2.1) ∧ W'.cell? ⟨B11, 2, none⟩ = some (.string x.1.2.2) ∧ W'.cell? ⟨B11 + 1, 0, none⟩ = some (.int .i64 x.2.1) ∧ W'.cell? ⟨B11 + 1, 1, none⟩ = some (.int .i64 x.2.2.1) ∧ W'.cell? ⟨B11 + 1, 2, none⟩ = some (.string x.2.2.2)) (exact HS6.out _ (by first | exact HK1.out | exact HK0.out | exact Keep.refl _ _))
              ((go_at_call 13; refine CG.mono ?_; rintro e Wc ⟨rfl, hc, kc⟩; have HK1 : Hid (Keep P5 Wb Wc) := HK0.out.trans kc; have HNc : Hid _ := HNw.out Wc _ (by exact et5) hc HK1.out; clear hc kc))
            all_goals
              go_wp2_with fail
              go_meet
              exact ⟨rfl, HNc.out⟩
          case rest =>
            obtain ⟨rfl, HX5⟩ := hcut
            obtain ⟨t2, et2, hc5, kc5⟩ := HX5.out
            have hwc := HWW.out.kept hc5 kc5
            have hbc := HSS.out _ kc5
            have m0 := hbc.k0
            have m1 := hbc.k1
            have m2 := hbc.k2
            have n0 := hbc.v0
            have HBc : Hid (Box2 wc B11 x) := hbc
            have HWC : Hid (Wt P5 W wc X (.slice a L cap) T S hb (3 + 7 * k + 20 * i + 1 + 1) t2 s' l a1 kb key (.slice ag ng cg) (.slice ac i cc) ng i G C) := hwc
            rcases HTV.out.next HTi.out with ⟨hnx, hA2, hA1⟩ | ⟨j, j0, j1, hnx, hv, hnh, htv2, hil⟩
            · rw [HNX.out] at hnx
              rw [HLe.out] at hA1 hA2
              have CA := all_any (c1 := cp) hwc.pr hwc.lg hwc.lc (by omega) (by omega) (by omega) hA1 hA2
              subst hnx
              unfold nil at m0
              clear hwc hbc HX5 hc5 kc5 HSS HS6 HNw HK0 CG q2 HBc hA1 hA2 m1 m2 n0
              go_wp2_with fail
              refine CA.mono ?_; rintro e Wz ⟨rfl, kz⟩
              have HBz : Hid (Below X W Wz) := (HWC.out.ws.below kz).bel
              clear CA kz
              go_wp2_with fail
              go_ret
              first | exact ⟨rfl, HBz.out⟩ | exact ⟨rfl, by rw [HX.out]; exact HBz.out⟩
            · rw [HNX.out] at hnx
              have ti' : TI t'.p := by rw [← et2]; exact hc5.ti
              obtain ⟨b1', b2', b3', b4', b5'⟩ := plc_prO ti' (i := j) j0 (by rw [HTV.out.n, HTV.out.z]; exact j1) hv
              have hx0 := HTV.out.dn j j0 j1 hv
              have hxk : x.1 = (prO t.p j).1 := by rw [hnx]; exact HTV.out.key j
              rw [← hnx] at hv hnh htv2 b1' b2' b3' b5'
              have g1 : (x.1.1 == 0) = false := by simpa using b3'
              have g2 : (x.2.1 == 0) = false := by simpa using hv
              have HKp : Hid (Kpos t'.p j x.1 ∧ Tv t.p t'.p j (i + 1) (upd C i x.1) ng G) := ⟨.inr ⟨b2', b3', b1', by omega, b5'⟩, htv2⟩
              have HXJ : Hid (∃ j' : Nat, 1 ≤ j' ∧ j' ≤ t.p.n + t.p.z ∧ (prO t.p j').2.1 ≠ 0 ∧ x.1 = (prO t.p j').1) := ⟨j, j0, j1, hx0, hxk⟩
              have CH := has_any x.1 hwc.lc (by omega)
              rw [hnh] at CH
              unfold vv vl at CH
              have hil2 : i + 1 ≤ l.length := by rw [← HLe.out]; exact hil
              clear hwc hbc HX5 hc5 kc5 HSS HS6 HNw HK0 CG q2 hnx hnh htv2 b1' b2' b3' b4' b5' hil hv ti' hx0 hxk
              go_wp2_with fail
              refine CH.mono ?_; rintro e Wd ⟨rfl, kd⟩
              have hwd := HWC.out.below kd
              have hbd : Box2 Wd B11 x := HBc.out.kept (Ks := fun _ => True) (Keep.of kd) trivial trivial
              have p0 := hbd.k0
              have p1 := hbd.k1
              have p2 := hbd.k2
              obtain ⟨gn, cn, We, hr, hl6, hg6, hb6, hlt6⟩ := (hwd.lc.alloc (.cells #[.int .i64 x.1.1, .int .i64 x.1.2.1, .string x.1.2.2] 33)).app2 x.1 (Bx.made Wd x.1) (by omega) (by have := hwd.ws.sz; simp; omega)
              have hwe := hwd.appc (b1 Wd _) hg6 hl6 hb6 hlt6
              have kk6 : Keep (fun g => (Value.slice ac i cc).ownBlock ≠ some g) Wd We := (Keep.of (b1 Wd (.cells #[.int .i64 x.1.1, .int .i64 x.1.2.1, .string x.1.2.2] 33))).trans ⟨hg6.os, hg6.tape, hg6.output, hg6.size, fun g hlt hn => hg6.block g hlt (fun e => hn e.symm)⟩
              have hbe : Box2 We B11 x := hbd.kept kk6 (fun e => by have := HD.out.2.1 _ e; omega) (fun e => by have := HD.out.2.1 _ e; omega)
              have szd := kd.size
              obtain ⟨P6, hP6⟩ : ∃ P6, (fun g => P5 g ∨ (Wd.heap.size ≤ g ∧ g < We.heap.size)) = P6 := ⟨_, rfl⟩
              rw [hP6] at hwe
              have hP56 : ∀ g, P5 g → P6 g := by rw [← hP6]; exact fun g q => .inl q
              have kz0 := hwe.kx.bx.c0
              have kz1 := hwe.kx.bx.c1
              have kz2 := hwe.kx.bx.c2
              have kf0 := hwe.kx.fz 0
              have kf1 := hwe.kx.fz 1
              have kf2 := hwe.kx.fz 2
              have r0 := hbe.k0
              have r1 := hbe.k1
              have r2 := hbe.k2
              have hwf := hwe.store x.1
              have hbf : Box2 (set3 We kb x.1) B11 x := hbe.kept (Ks := fun g => g ≠ kb) ((Keep.refl _ We).set3 (fun q => q rfl) x.1) (by have := HD.out.2.2.1; show B11 ≠ kb; omega) (by have := HD.out.2.2.1; show B11 + 1 ≠ kb; omega)
              obtain ⟨Wf, hWf⟩ : ∃ Wf, set3 We kb x.1 = Wf := ⟨_, rfl⟩
              rw [hWf] at hwf hbf
              unfold set3 at hWf
              have hll0 : (0 : Int) < (l.length : Int) := by omega
              have HWF : Hid (Wt P6 W Wf X (.slice a L cap) T S hb (3 + 7 * k + 20 * i + 1 + 1) t2 s' l a1 kb x.1 (.slice ag ng cg) (.slice (some ⟨gn, 0, none⟩) (i + 1) cn) ng (i + 1) G (upd C i x.1)) := hwf
              have HBf : Hid (Box2 Wf B11 x) := hbf
              have HD2 : Hid (∀ g, (Value.slice (some ⟨gn, 0, none⟩) (i + 1) cn).ownBlock = some g → g ≠ B11 ∧ g ≠ B11 + 1) := fun g e => by
                have eg : gn = g := by injection e
                rcases hb6 with q | q
                · have := HD.out.2.1 _ q; omega
                · have := World.block_lt_of_cell? Wd _ hbd.k0; have := World.block_lt_of_cell? Wd _ hbd.v0; simp at *; omega
              have HP6 : Hid (P6 B11 ∧ P6 (B11 + 1) ∧ ∀ g, P5 g → P6 g) := ⟨hP56 _ HP5.out.2.1, hP56 _ HP5.out.2.2, hP56⟩
              clear hwd hbd kd hl6 hg6 hb6 hlt6 hwe kk6 hbe hP6 hP56 hwf hbf CH HBc HWC m0 m1 m2 n0 szd
              by_cases hi2 : i < L2
              · have hi2' : (i : Int) < (L2 : Int) := by omega
                obtain ⟨lb2, off2, rfl, hlb2, u0, u1, u2, u3, u4, u5, u6⟩ := (HO2.out Wf HWF.out.ws.bel).at hi2
                generalize Q2 i = q at *
                have HI2 : Hid (∀ wb, Below X W wb → wb.cell? ⟨lb2, off2 + i * 7, none⟩ = some (.int .i64 q.1) ∧ wb.cell? ⟨lb2, off2 + i * 7 + 4, none⟩ = some (.int .i64 q.2.2.1) ∧ wb.cell? ⟨lb2, off2 + i * 7 + 5, none⟩ = some (.int .i64 q.2.2.2.1) ∧ wb.cell? ⟨lb2, off2 + i * 7 + 6, none⟩ = some (.string q.2.2.2.2)) := fun wb hbb => by
                  have far : ∀ o v, Wf.cell? ⟨lb2, o, none⟩ = some v → wb.cell? ⟨lb2, o, none⟩ = some v := fun o v hv => by
                    rw [hbb.cell (p := ⟨lb2, o, none⟩) hlb2, ← HWF.out.ws.bel.cell (p := ⟨lb2, o, none⟩) hlb2]; exact hv
                  exact ⟨far _ _ u0, far _ _ u4, far _ _ u5, far _ _ u6⟩
                have hi0 : ¬ ((i : Int) < 0) := by omega
                obtain ⟨r, hrr, hrl⟩ := idx_mod q.2.1.2.1 l.length (by omega) (by omega)
                have hr0 : (0 : Int) ≤ (r : Int) := Int.natCast_nonneg _
                have hr1 : (r : Int) < (l.length : Int) := by omega
                obtain ⟨y, hy⟩ : ∃ y, l[r]? = some y := ⟨l[r], List.getElem?_eq_getElem hrl⟩
                obtain ⟨gl, rfl, hgl, f0, f1, f2⟩ := HWF.out.pr r y hy
                have bg := b1 Wf (vb y.1.1 y.1.2.1 y.1.2.2)
                have hwg := HWF.out.news bg
                have r17 := R3.made Wf y.1
                have sg : (Wf.alloc (vb y.1.1 y.1.2.1 y.1.2.2)).heap.size = Wf.heap.size + 1 := by simp
                obtain ⟨Wg, hWg⟩ : ∃ Wg, Wf.alloc (vb y.1.1 y.1.2.1 y.1.2.2) = Wg := ⟨_, rfl⟩
                rw [hWg] at hwg r17 sg
                obtain ⟨P7, hP7⟩ : ∃ P7, (fun g => P6 g ∨ (Wf.heap.size ≤ g ∧ g < Wg.heap.size)) = P7 := ⟨_, rfl⟩
                rw [hP7] at hwg
                have HP7 : Hid (P7 B11 ∧ P7 (B11 + 1) ∧ P7 Wf.heap.size) := by
                  rw [← hP7]; exact ⟨.inl HP6.out.1, .inl HP6.out.2.1, .inr ⟨Nat.le_refl _, by omega⟩⟩
                have HBg : Hid (Box2 Wg B11 x) := HBf.out.kept (Ks := fun _ => True) (Keep.of (by rw [← hWg]; exact bg)) trivial trivial
                have HYj : Hid (∃ j' : Nat, 1 ≤ j' ∧ j' ≤ t.p.n + t.p.z ∧ (prO t.p j').2.1 ≠ 0 ∧ y.1 = (prO t.p j').1) := by
                  have hm := List.mem_of_getElem? hy
                  rw [← HLe.out] at hm
                  obtain ⟨j', a1', a2', a3', rfl⟩ := lsF_mem.1 hm
                  exact ⟨j', by omega, by omega, a3', rfl⟩
                have HXj : Hid (∃ j' : Nat, 1 ≤ j' ∧ j' ≤ t.p.n + t.p.z ∧ (prO t.p j').2.1 ≠ 0 ∧ x.1 = (prO t.p j').1) := HXJ.out
                have HWG : Hid (Wt P7 W Wg X (.slice a L cap) T S hb (3 + 7 * k + 20 * i + 1 + 1) t2 s' l (some ⟨gl, 0, none⟩) kb x.1 (.slice ag ng cg) (.slice (some ⟨gn, 0, none⟩) (i + 1) cn) ng (i + 1) G (upd C i x.1)) := hwg
                have HR17 : Hid (R3 Wg Wf.heap.size y.1) := r17
                have HOw : Hid (Wf.heap.size ≠ kb ∧ ((Value.slice ag ng cg).ownBlock ≠ some Wf.heap.size ∧ (Value.slice (some ⟨gn, 0, none⟩) (i + 1) cn).ownBlock ≠ some Wf.heap.size) ∧ (some (⟨gl, 0, none⟩ : Addr) ≠ some ⟨Wf.heap.size, 0, none⟩) ∧ X < Wf.heap.size) := by
                  have e1 := HWF.out.kx.bx.lt
                  have e2 := HWF.out.ws.sz
                  refine ⟨by omega, ⟨fun e => ?_, fun e => ?_⟩, fun e => ?_, e2⟩
                  · have := (HWF.out.lg.own.lt _ e).2; omega
                  · have := (HWF.out.lc.own.lt _ e).2; omega
                  · injection e with e; injection e with e; omega
                have s0' := HBf.out.k0
                have s1' := HBf.out.k1
                have s2' := HBf.out.k2
                have v0' := HBg.out.k0
                have v1' := HBg.out.k1
                have v2' := HBg.out.k2
                have w0' := r17.bx.c0
                have w1' := r17.bx.c1
                have w2' := r17.bx.c2
                have z0' := r17.fz 0
                have z1' := r17.fz 1
                have z2' := r17.fz 2
                obtain ⟨c4, _, _, _⟩ := HI2.out Wg hwg.ws.bel
                unfold vb at hWg
                clear hwg r17 bg hy hP7 HBf HWF u4 u5 u6
                generalize hb17 : Wf.heap.size = b17 at *
                by_cases hk3 : q.1 = 3
                · have g3 : (q.1 == 3) = true := by simp [hk3]
                  have hwh := HWG.out.box HP7.out.2.2 HOw.out.2.2.2 HOw.out.1 HOw.out.2.1 HOw.out.2.2.1 x.1
                  have rh := HR17.out.set x.1
                  obtain ⟨Wh, hWh⟩ : ∃ Wh, set3 Wg b17 x.1 = Wh := ⟨_, rfl⟩
                  rw [hWh] at hwh rh
                  unfold set3 at hWh
                  have HPj := HXj
                  clear hk3
                  have HPR : Hid (Rng x.1 ∧ ∃ j' : Nat, 1 ≤ j' ∧ j' ≤ t.p.n + t.p.z ∧ (prO t'.p j').1 = x.1 ∧ pget t'.p x.1 = (prO t'.p j').2) := by
                    obtain ⟨j', a1', a2', a3', ekk⟩ := HPj.out
                    rw [ekk]
                    have q5 := plc_prO HTi.out (i := j') a1' a2' a3'
                    have hkk := HTV.out.key j'
                    refine ⟨q5.2.2.2.2, j', a1', a2', hkk, ?_⟩
                    rw [← hkk]
                    exact prO_get (by rw [← et2]; exact hwh.ws.ti) a1' (by rw [HTV.out.n, HTV.out.z]; exact a2') (by rw [hkk]; exact fun e => q5.2.2.1 (by rw [e]; rfl))
                  have CG2 := hwh.ws.get (by omega) x.1 HPR.out.1
                  rw [show pget t2.p x.1 = pget t'.p x.1 by rw [et2]] at CG2
                  obtain ⟨t3, ht3⟩ : ∃ t3 : TS, { t2 with pr := t2.pr + (prd t2.p x.1 : Nat) } = t3 := ⟨_, rfl⟩
                  have et3 : t3.p = t'.p := by rw [← ht3]; exact et2
                  rw [ht3] at CG2
                  unfold tp vv vl at CG2
                  have x0' := rh.bx.c0
                  have x1' := rh.bx.c1
                  have x2' := rh.bx.c2
                  have hfv := fldV
                  have HWH : Hid (Wt P7 W Wh X (.slice a L cap) T S hb (3 + 7 * k + 20 * i + 1 + 1) t2 s' l (some ⟨gl, 0, none⟩) kb x.1 (.slice ag ng cg) (.slice (some ⟨gn, 0, none⟩) (i + 1) cn) ng (i + 1) G (upd C i x.1)) := hwh
                  have HRH : Hid (R3 Wh b17 x.1) := rh
                  clear hwh rh
                  go_wp2_with (at_builtin; refine wp_app rfl _ _ 36 rfl 36 rfl _ _ rfl rfl hr ?_)
                  refine CG2.mono ?_; rintro e Wi ⟨rfl, hi', ki⟩
                  have hwi' := HWH.out.kept hi' ki
                  have ri := HRH.out.kept ki HP7.out.2.2
                  have HKp3 : Hid (Kpos t3.p j x.1 ∧ Tv t.p t3.p j (i + 1) (upd C i x.1) ng G) := by show _ ∧ _; rw [et3]; exact HKp.out
                  by_cases hp : (pget t'.p x.1).1 = 0
                  · have g5 : ((pget t'.p x.1).1 != 0) = false := by simp [hp]
                    have HNN : Hid (∃ (P : Nat → Prop) (ng' pos : Nat) (key : V) (t' : TS) (s' : H.St) (C' G' : Nat → V), Wt P W Wi X (.slice a L cap) T S hb (3 + 7 * k + 20 * (i + 1)) t' s' l (some ⟨gl, 0, none⟩) kb key (.slice ag ng cg) (.slice (some ⟨gn, 0, none⟩) (i + 1) cn) ng' (i + 1) G' C' ∧ Tv t.p t'.p pos (i + 1) C' ng' G' ∧ Kpos t'.p pos key ∧ ng' ≤ i + 1) := ⟨P7, ng, j, x.1, t3, s', upd C i x.1, G, { hwi' with ws := (hwi').ws.more (by omega) }, HKp3.out.2, HKp3.out.1, by omega⟩
                    clear hp hwi' ri hi' ki CG2
                    go_wp2_with fail
                    go_round
                    case rel => exact ⟨i + 1, by go_num, by omega, HNN.out⟩
                    case measure => simp [intOf]; omega
                  · have g5 : ((pget t'.p x.1).1 != 0) = true := by simp [hp]
                    obtain ⟨c9, d4, d5, d6⟩ := HI2.out Wi hwi'.ws.bel
                    have CC := rcheck_any q.2.2.1 q.2.2.2.1 q.2.2.2.2 Wi
                    rw [chk_of] at CC
                    unfold vl at CC
                    have bj := b1 Wi (vb q.2.2.1 q.2.2.2.1 q.2.2.2.2)
                    have hwj := hwi'.below bj
                    have rj := ri.below bj
                    obtain ⟨Wj, hWj⟩ : ∃ Wj, Wi.alloc (vb q.2.2.1 q.2.2.2.1 q.2.2.2.2) = Wj := ⟨_, rfl⟩
                    rw [hWj] at CC hwj rj
                    have HWJ : Hid (Wt P7 W Wj X (.slice a L cap) T S hb (3 + 7 * k + 20 * i + 1 + 1 + 1) t3 s' l (some ⟨gl, 0, none⟩) kb x.1 (.slice ag ng cg) (.slice (some ⟨gn, 0, none⟩) (i + 1) cn) ng (i + 1) G (upd C i x.1)) := hwj
                    cases hf : fm q.2.2
                    · rw [hf, if_neg (by decide)] at CC
                      have HNN : Hid (∃ (P : Nat → Prop) (ng' pos : Nat) (key : V) (t' : TS) (s' : H.St) (C' G' : Nat → V), Wt P W Wj X (.slice a L cap) T S hb (3 + 7 * k + 20 * (i + 1)) t' s' l (some ⟨gl, 0, none⟩) kb key (.slice ag ng cg) (.slice (some ⟨gn, 0, none⟩) (i + 1) cn) ng' (i + 1) G' C' ∧ Tv t.p t'.p pos (i + 1) C' ng' G' ∧ Kpos t'.p pos key ∧ ng' ≤ i + 1) := ⟨P7, ng, j, x.1, t3, s', upd C i x.1, G, { HWJ.out with ws := (HWJ.out).ws.more (by omega) }, HKp3.out.2, HKp3.out.1, by omega⟩
                      clear hf hp hwi' ri hi' ki CG2 hwj rj bj
                      go_wp2_with fail
                      refine CC.mono ?_; rintro e w6 ⟨rfl, hw6⟩; rw [hw6]; clear hw6 w6 CC
                      go_wp2_with fail
                      go_round
                      case rel => exact ⟨i + 1, by go_num, by omega, HNN.out⟩
                      case measure => simp [intOf]; omega
                    · rw [hf, if_pos rfl] at CC
                      obtain ⟨_, e4, e5, e6⟩ := HI2.out Wj hwj.ws.bel
                      have o0 := rj.bx.c0
                      have o1 := rj.bx.c1
                      have o2 := rj.bx.c2
                      have CS2 := (hwj.ws.below (bdrew1 Wj)).set (by omega) x.1 q.2.2 HPR.out.1
                      unfold tp vv vl at CS2
                      have HTS : Hid ((q.2.2.1 ≠ 0 → Tv t.p (tset t3 s' x.1 q.2.2).1.p j (i + 1) (upd C i x.1) ng G) ∧ (q.2.2.1 = 0 → Tv t.p (tset t3 s' x.1 q.2.2).1.p j (i + 1) (upd C i x.1) (ng + 1) (upd G ng x.1))) := by
                        obtain ⟨_, j', a1', a2', e1', e2'⟩ := HPR.out
                        have hv3 : (prO t3.p j').2.1 ≠ 0 := by rw [et3, ← e2']; exact hp
                        have TT3 := Tv.set (s := s') HKp3.out.2 hwi'.ws.ti a1' a2' hv3 hf
                        rw [show (prO t3.p j').1 = x.1 by rw [et3]; exact e1'] at TT3
                        exact TT3
                      have HRJ : Hid (R3 Wj b17 x.1) := rj
                      obtain ⟨t6, ht6⟩ : ∃ t6, (tset t3 s' x.1 q.2.2).1 = t6 := ⟨_, rfl⟩
                      obtain ⟨s6, hs6⟩ : ∃ s6, (tset t3 s' x.1 q.2.2).2.1 = s6 := ⟨_, rfl⟩
                      rw [ht6] at HTS CS2
                      rw [hs6] at CS2
                      clear hf hp hwi' ri hi' ki CG2 hwj rj bj ht6 hs6
                      go_wp2_with fail
                      refine CC.mono ?_; rintro e w6 ⟨rfl, hw6⟩; rw [hw6]; clear hw6 w6 CC
                      go_wp2_with fail
                      refine wp_tail 7 (by kernel_rfl) (by kernel_rfl) ?_
                      simp only [List.take_succ_cons, List.take_zero, List.drop_succ_cons, List.drop_zero]
                      repeat still_step
                      refine wpStill_nil ?_
                      go_wp2_with fail
                      refine CS2.mono ?_; rintro e Wk ⟨rfl, hk', kk'⟩
                      have hwk := (HWJ.out.below (bdrew1 Wj)).kept hk' kk'
                      have rk := (HRJ.out.below (bdrew1 Wj)).kept kk' HP7.out.2.2
                      obtain ⟨_, y4, y5, y6⟩ := HI2.out Wk hwk.ws.bel
                      by_cases hv0 : q.2.2.1 = 0
                      · have g6 : (q.2.2.1 == 0) = true := by simp [hv0]
                        have HT9 := HTS.out.2 hv0
                        have HK9 : Hid (Kpos t6.p j x.1 ∧ Tv t.p t6.p j (i + 1) (upd C i x.1) (ng + 1) (upd G ng x.1)) := ⟨HKp3.out.2.kpos HT9 HKp3.out.1, HT9⟩
                        have o0' := rk.bx.c0
                        have o1' := rk.bx.c1
                        have o2' := rk.bx.c2
                        obtain ⟨gm, cm, Wl, hrl2, hl9, hg9, hb9, hlt9⟩ := (hwk.lg.alloc (.cells #[.int .i64 x.1.1, .int .i64 x.1.2.1, .string x.1.2.2] 33)).app2 x.1 (Bx.made Wk x.1) (by omega) (by have := hwk.ws.sz; simp; omega)
                        have hwl := hwk.appg (b1 Wk _) hg9 hl9 hb9 hlt9
                        have HNN : Hid (∃ (P : Nat → Prop) (ng' pos : Nat) (key : V) (t' : TS) (s' : H.St) (C' G' : Nat → V), Wt P W Wl X (.slice a L cap) T S hb (3 + 7 * k + 20 * (i + 1)) t' s' l (some ⟨gl, 0, none⟩) kb key (.slice (some ⟨gm, 0, none⟩) (ng + 1) cm) (.slice (some ⟨gn, 0, none⟩) (i + 1) cn) ng' (i + 1) G' C' ∧ Tv t.p t'.p pos (i + 1) C' ng' G' ∧ Kpos t'.p pos key ∧ ng' ≤ i + 1) := ⟨_, ng + 1, j, x.1, t6, s6, upd C i x.1, upd G ng x.1, { hwl with ws := (hwl).ws.more (by omega) }, HK9.out.2, HK9.out.1, by omega⟩
                        clear hv0 HT9 hwk rk hk' kk' CS2 hl9 hg9 hb9 hlt9 hwl
                        go_wp2_with (at_builtin; refine wp_app rfl _ _ 36 rfl 36 rfl _ _ rfl rfl hrl2 ?_)
                        go_round
                        case rel => exact ⟨i + 1, by go_num, by omega, HNN.out⟩
                        case measure => simp [intOf]; omega
                      · have g6 : (q.2.2.1 == 0) = false := by simp [hv0]
                        have HT9 := HTS.out.1 hv0
                        have HK9 : Hid (Kpos t6.p j x.1 ∧ Tv t.p t6.p j (i + 1) (upd C i x.1) ng G) := ⟨HKp3.out.2.kpos HT9 HKp3.out.1, HT9⟩
                        have HNN : Hid (∃ (P : Nat → Prop) (ng' pos : Nat) (key : V) (t' : TS) (s' : H.St) (C' G' : Nat → V), Wt P W Wk X (.slice a L cap) T S hb (3 + 7 * k + 20 * (i + 1)) t' s' l (some ⟨gl, 0, none⟩) kb key (.slice ag ng cg) (.slice (some ⟨gn, 0, none⟩) (i + 1) cn) ng' (i + 1) G' C' ∧ Tv t.p t'.p pos (i + 1) C' ng' G' ∧ Kpos t'.p pos key ∧ ng' ≤ i + 1) := ⟨P7, ng, j, x.1, t6, s6, upd C i x.1, G, { hwk with ws := (hwk).ws.more (by omega) }, HK9.out.2, HK9.out.1, by omega⟩
                        clear hv0 HT9 hwk rk hk' kk' CS2
                        go_wp2_with fail
                        go_round
                        case rel => exact ⟨i + 1, by go_num, by omega, HNN.out⟩
                        case measure => simp [intOf]; omega
                · have g3 : (q.1 == 3) = false := by simp [hk3]
                  have hwh := HWG.out
                  have rh := HR17.out
                  have HPj := HYj
                  clear hk3
                  have HPR : Hid (Rng y.1 ∧ ∃ j' : Nat, 1 ≤ j' ∧ j' ≤ t.p.n + t.p.z ∧ (prO t'.p j').1 = y.1 ∧ pget t'.p y.1 = (prO t'.p j').2) := by
                    obtain ⟨j', a1', a2', a3', ekk⟩ := HPj.out
                    rw [ekk]
                    have q5 := plc_prO HTi.out (i := j') a1' a2' a3'
                    have hkk := HTV.out.key j'
                    refine ⟨q5.2.2.2.2, j', a1', a2', hkk, ?_⟩
                    rw [← hkk]
                    exact prO_get (by rw [← et2]; exact hwh.ws.ti) a1' (by rw [HTV.out.n, HTV.out.z]; exact a2') (by rw [hkk]; exact fun e => q5.2.2.1 (by rw [e]; rfl))
                  have CG2 := hwh.ws.get (by omega) y.1 HPR.out.1
                  rw [show pget t2.p y.1 = pget t'.p y.1 by rw [et2]] at CG2
                  obtain ⟨t3, ht3⟩ : ∃ t3 : TS, { t2 with pr := t2.pr + (prd t2.p y.1 : Nat) } = t3 := ⟨_, rfl⟩
                  have et3 : t3.p = t'.p := by rw [← ht3]; exact et2
                  rw [ht3] at CG2
                  unfold tp vv vl at CG2
                  have x0' := rh.bx.c0
                  have x1' := rh.bx.c1
                  have x2' := rh.bx.c2
                  have hfv := fldV
                  have HWH : Hid (Wt P7 W Wg X (.slice a L cap) T S hb (3 + 7 * k + 20 * i + 1 + 1) t2 s' l (some ⟨gl, 0, none⟩) kb x.1 (.slice ag ng cg) (.slice (some ⟨gn, 0, none⟩) (i + 1) cn) ng (i + 1) G (upd C i x.1)) := hwh
                  have HRH : Hid (R3 Wg b17 y.1) := rh
                  clear hwh rh
                  go_wp2_with (at_builtin; refine wp_app rfl _ _ 36 rfl 36 rfl _ _ rfl rfl hr ?_)
                  refine CG2.mono ?_; rintro e Wi ⟨rfl, hi', ki⟩
                  have hwi' := HWH.out.kept hi' ki
                  have ri := HRH.out.kept ki HP7.out.2.2
                  have HKp3 : Hid (Kpos t3.p j x.1 ∧ Tv t.p t3.p j (i + 1) (upd C i x.1) ng G) := by show _ ∧ _; rw [et3]; exact HKp.out
                  by_cases hp : (pget t'.p y.1).1 = 0
                  · have g5 : ((pget t'.p y.1).1 != 0) = false := by simp [hp]
                    have HNN : Hid (∃ (P : Nat → Prop) (ng' pos : Nat) (key : V) (t' : TS) (s' : H.St) (C' G' : Nat → V), Wt P W Wi X (.slice a L cap) T S hb (3 + 7 * k + 20 * (i + 1)) t' s' l (some ⟨gl, 0, none⟩) kb key (.slice ag ng cg) (.slice (some ⟨gn, 0, none⟩) (i + 1) cn) ng' (i + 1) G' C' ∧ Tv t.p t'.p pos (i + 1) C' ng' G' ∧ Kpos t'.p pos key ∧ ng' ≤ i + 1) := ⟨P7, ng, j, x.1, t3, s', upd C i x.1, G, { hwi' with ws := (hwi').ws.more (by omega) }, HKp3.out.2, HKp3.out.1, by omega⟩
                    clear hp hwi' ri hi' ki CG2
                    go_wp2_with fail
                    go_round
                    case rel => exact ⟨i + 1, by go_num, by omega, HNN.out⟩
                    case measure => simp [intOf]; omega
                  · have g5 : ((pget t'.p y.1).1 != 0) = true := by simp [hp]
                    obtain ⟨c9, d4, d5, d6⟩ := HI2.out Wi hwi'.ws.bel
                    have CC := rcheck_any q.2.2.1 q.2.2.2.1 q.2.2.2.2 Wi
                    rw [chk_of] at CC
                    unfold vl at CC
                    have bj := b1 Wi (vb q.2.2.1 q.2.2.2.1 q.2.2.2.2)
                    have hwj := hwi'.below bj
                    have rj := ri.below bj
                    obtain ⟨Wj, hWj⟩ : ∃ Wj, Wi.alloc (vb q.2.2.1 q.2.2.2.1 q.2.2.2.2) = Wj := ⟨_, rfl⟩
                    rw [hWj] at CC hwj rj
                    have HWJ : Hid (Wt P7 W Wj X (.slice a L cap) T S hb (3 + 7 * k + 20 * i + 1 + 1 + 1) t3 s' l (some ⟨gl, 0, none⟩) kb x.1 (.slice ag ng cg) (.slice (some ⟨gn, 0, none⟩) (i + 1) cn) ng (i + 1) G (upd C i x.1)) := hwj
                    cases hf : fm q.2.2
                    · rw [hf, if_neg (by decide)] at CC
                      have HNN : Hid (∃ (P : Nat → Prop) (ng' pos : Nat) (key : V) (t' : TS) (s' : H.St) (C' G' : Nat → V), Wt P W Wj X (.slice a L cap) T S hb (3 + 7 * k + 20 * (i + 1)) t' s' l (some ⟨gl, 0, none⟩) kb key (.slice ag ng cg) (.slice (some ⟨gn, 0, none⟩) (i + 1) cn) ng' (i + 1) G' C' ∧ Tv t.p t'.p pos (i + 1) C' ng' G' ∧ Kpos t'.p pos key ∧ ng' ≤ i + 1) := ⟨P7, ng, j, x.1, t3, s', upd C i x.1, G, { HWJ.out with ws := (HWJ.out).ws.more (by omega) }, HKp3.out.2, HKp3.out.1, by omega⟩
                      clear hf hp hwi' ri hi' ki CG2 hwj rj bj
                      go_wp2_with fail
                      refine CC.mono ?_; rintro e w6 ⟨rfl, hw6⟩; rw [hw6]; clear hw6 w6 CC
                      go_wp2_with fail
                      go_round
                      case rel => exact ⟨i + 1, by go_num, by omega, HNN.out⟩
                      case measure => simp [intOf]; omega
                    · rw [hf, if_pos rfl] at CC
                      obtain ⟨_, e4, e5, e6⟩ := HI2.out Wj hwj.ws.bel
                      have o0 := rj.bx.c0
                      have o1 := rj.bx.c1
                      have o2 := rj.bx.c2
                      have CS2 := (hwj.ws.below (bdrew1 Wj)).set (by omega) y.1 q.2.2 HPR.out.1
                      unfold tp vv vl at CS2
                      have HTS : Hid ((q.2.2.1 ≠ 0 → Tv t.p (tset t3 s' y.1 q.2.2).1.p j (i + 1) (upd C i x.1) ng G) ∧ (q.2.2.1 = 0 → Tv t.p (tset t3 s' y.1 q.2.2).1.p j (i + 1) (upd C i x.1) (ng + 1) (upd G ng y.1))) := by
                        obtain ⟨_, j', a1', a2', e1', e2'⟩ := HPR.out
                        have hv3 : (prO t3.p j').2.1 ≠ 0 := by rw [et3, ← e2']; exact hp
                        have TT3 := Tv.set (s := s') HKp3.out.2 hwi'.ws.ti a1' a2' hv3 hf
                        rw [show (prO t3.p j').1 = y.1 by rw [et3]; exact e1'] at TT3
                        exact TT3
                      have HRJ : Hid (R3 Wj b17 y.1) := rj
                      obtain ⟨t6, ht6⟩ : ∃ t6, (tset t3 s' y.1 q.2.2).1 = t6 := ⟨_, rfl⟩
                      obtain ⟨s6, hs6⟩ : ∃ s6, (tset t3 s' y.1 q.2.2).2.1 = s6 := ⟨_, rfl⟩
                      rw [ht6] at HTS CS2
                      rw [hs6] at CS2
                      clear hf hp hwi' ri hi' ki CG2 hwj rj bj ht6 hs6
                      go_wp2_with fail
                      refine CC.mono ?_; rintro e w6 ⟨rfl, hw6⟩; rw [hw6]; clear hw6 w6 CC
                      go_wp2_with fail
                      refine wp_tail 7 (by kernel_rfl) (by kernel_rfl) ?_
                      simp only [List.take_succ_cons, List.take_zero, List.drop_succ_cons, List.drop_zero]
                      repeat still_step
                      refine wpStill_nil ?_
                      go_wp2_with fail
                      refine CS2.mono ?_; rintro e Wk ⟨rfl, hk', kk'⟩
                      have hwk := (HWJ.out.below (bdrew1 Wj)).kept hk' kk'
                      have rk := (HRJ.out.below (bdrew1 Wj)).kept kk' HP7.out.2.2
                      obtain ⟨_, y4, y5, y6⟩ := HI2.out Wk hwk.ws.bel
                      by_cases hv0 : q.2.2.1 = 0
                      · have g6 : (q.2.2.1 == 0) = true := by simp [hv0]
                        have HT9 := HTS.out.2 hv0
                        have HK9 : Hid (Kpos t6.p j x.1 ∧ Tv t.p t6.p j (i + 1) (upd C i x.1) (ng + 1) (upd G ng y.1)) := ⟨HKp3.out.2.kpos HT9 HKp3.out.1, HT9⟩
                        have o0' := rk.bx.c0
                        have o1' := rk.bx.c1
                        have o2' := rk.bx.c2
                        obtain ⟨gm, cm, Wl, hrl2, hl9, hg9, hb9, hlt9⟩ := (hwk.lg.alloc (.cells #[.int .i64 y.1.1, .int .i64 y.1.2.1, .string y.1.2.2] 33)).app2 y.1 (Bx.made Wk y.1) (by omega) (by have := hwk.ws.sz; simp; omega)
                        have hwl := hwk.appg (b1 Wk _) hg9 hl9 hb9 hlt9
                        have HNN : Hid (∃ (P : Nat → Prop) (ng' pos : Nat) (key : V) (t' : TS) (s' : H.St) (C' G' : Nat → V), Wt P W Wl X (.slice a L cap) T S hb (3 + 7 * k + 20 * (i + 1)) t' s' l (some ⟨gl, 0, none⟩) kb key (.slice (some ⟨gm, 0, none⟩) (ng + 1) cm) (.slice (some ⟨gn, 0, none⟩) (i + 1) cn) ng' (i + 1) G' C' ∧ Tv t.p t'.p pos (i + 1) C' ng' G' ∧ Kpos t'.p pos key ∧ ng' ≤ i + 1) := ⟨_, ng + 1, j, x.1, t6, s6, upd C i x.1, upd G ng y.1, { hwl with ws := (hwl).ws.more (by omega) }, HK9.out.2, HK9.out.1, by omega⟩
                        clear hv0 HT9 hwk rk hk' kk' CS2 hl9 hg9 hb9 hlt9 hwl
                        go_wp2_with (at_builtin; refine wp_app rfl _ _ 36 rfl 36 rfl _ _ rfl rfl hrl2 ?_)
                        go_round
                        case rel => exact ⟨i + 1, by go_num, by omega, HNN.out⟩
                        case measure => simp [intOf]; omega
                      · have g6 : (q.2.2.1 == 0) = false := by simp [hv0]
                        have HT9 := HTS.out.1 hv0
                        have HK9 : Hid (Kpos t6.p j x.1 ∧ Tv t.p t6.p j (i + 1) (upd C i x.1) ng G) := ⟨HKp3.out.2.kpos HT9 HKp3.out.1, HT9⟩
                        have HNN : Hid (∃ (P : Nat → Prop) (ng' pos : Nat) (key : V) (t' : TS) (s' : H.St) (C' G' : Nat → V), Wt P W Wk X (.slice a L cap) T S hb (3 + 7 * k + 20 * (i + 1)) t' s' l (some ⟨gl, 0, none⟩) kb key (.slice ag ng cg) (.slice (some ⟨gn, 0, none⟩) (i + 1) cn) ng' (i + 1) G' C' ∧ Tv t.p t'.p pos (i + 1) C' ng' G' ∧ Kpos t'.p pos key ∧ ng' ≤ i + 1) := ⟨P7, ng, j, x.1, t6, s6, upd C i x.1, G, { hwk with ws := (hwk).ws.more (by omega) }, HK9.out.2, HK9.out.1, by omega⟩
                        clear hv0 HT9 hwk rk hk' kk' CS2
                        go_wp2_with fail
                        go_round
                        case rel => exact ⟨i + 1, by go_num, by omega, HNN.out⟩
                        case measure => simp [intOf]; omega
              · have hi2' : ¬ (i : Int) < (L2 : Int) := by omega
                have HNN : Hid (∃ (P : Nat → Prop) (ng' pos : Nat) (key : V) (t' : TS) (s' : H.St) (C' G' : Nat → V), Wt P W Wf X (.slice a L cap) T S hb (3 + 7 * k + 20 * (i + 1)) t' s' l a1 kb key (.slice ag ng cg) (.slice (some ⟨gn, 0, none⟩) (i + 1) cn) ng' (i + 1) G' C' ∧ Tv t.p t'.p pos (i + 1) C' ng' G' ∧ Kpos t'.p pos key ∧ ng' ≤ i + 1) := ⟨P6, ng, j, x.1, t2, s', upd C i x.1, G, { HWF.out with ws := HWF.out.ws.more (by omega) }, by rw [et2]; exact HKp.out.2, by rw [et2]; exact HKp.out.1, by omega⟩
                clear HWF HBf HD2 HP6
                go_wp2_with (at_builtin; refine wp_app rfl _ _ 36 rfl 36 rfl _ _ rfl rfl hr ?_)
                go_round
                case rel => exact ⟨i + 1, by go_num, by omega, HNN.out⟩
                case measure => simp [intOf]; omega
    · have hlt' : ¬ ((k : Int) < (L : Int)) := by omega
      clear hlt
      have HT : Hid (Ws P1 W wr X (.slice a L cap) none T S hb (3 + 7 * k) t s) := HR
      have CL := HR.list
      unfold tp at CL
      have hll : (wl t.p).length ≤ 300 := Nat.le_trans (wl_count HTi.out) (by have := HPk.out; omega)
      obtain ⟨l, hl⟩ : ∃ l, wl t.p = l := ⟨_, rfl⟩
      rw [hl] at CL hll
      have HLe : Hid (wl t.p = l) := hl
      clear HR hl HPk
      go_wp2_with fail
      refine CL.mono ?_; rintro e W5 ⟨v5, rfl, row5, k5⟩
      obtain ⟨a1, cp, rfl, hrow⟩ := pr_of row5
      have HPr : Hid (Prs W5 l a1 ∧ ∀ g, a1 = some ⟨g, 0, none⟩ → wr.heap.size ≤ g ∧ g < W5.heap.size) := by
        refine ⟨fun i x hx => ?_, fun g e => ?_⟩
        · obtain ⟨g, e, g1, g2, g3⟩ := hrow x (List.mem_of_getElem? hx)
          obtain ⟨c0, c1, c2, _⟩ := g3 i x hx
          exact ⟨g, e, g2, c0, c1, c2⟩
        · exact row5.lt g (by rw [e]; rfl)
      have h5 := HT.out.news k5
      have bz := b1 W5 (.cells #[.int .i64 0, .int .i64 0, .string ⟨#[]⟩] 33)
      have r7 : R3 (W5.alloc (.cells #[.int .i64 0, .int .i64 0, .string ⟨#[]⟩] 33)) W5.heap.size nil := R3.made W5 nil
      have h7 := h5.news bz
      have s7 : (W5.alloc (.cells #[.int .i64 0, .int .i64 0, .string ⟨#[]⟩] 33)).heap.size = W5.heap.size + 1 := by simp
      obtain ⟨W7, hW7⟩ : ∃ W7, W5.alloc (.cells #[.int .i64 0, .int .i64 0, .string ⟨#[]⟩] 33) = W7 := ⟨_, rfl⟩
      rw [hW7] at bz r7 h7 s7
      have hx5 : X < wr.heap.size := HT.out.sz
      have z5 := k5.size
      have H7 : Hid (∃ P, Wt P W W7 X (.slice a L cap) T S hb (3 + 7 * k) t s l a1 W5.heap.size nil (.slice none 0 0) (.slice none 0 0) 0 0 (fun _ => nil) (fun _ => nil)) := by
        refine ⟨_, ⟨h7, (fun g e => .inl (.inr (HPr.out.2 g e))), .inr ⟨Nat.le_refl _, by omega⟩, (fun g e => by cases e), (fun g e => by cases e), HPr.out.1.below bz, r7, by omega, Lv.nil _ _ _, Lv.nil _ _ _, (fun g e => ⟨(by have := (HPr.out.2 g e).2; omega), (fun q => by cases q), (fun q => by cases q), (by have := (HPr.out.2 g e).1; omega), (by have := (HPr.out.2 g e).2; omega)⟩), ⟨(fun q => by cases q), (fun q => by cases q)⟩, (fun g e => by cases e)⟩⟩
      have HWz : Hid (W5.alloc (.cells #[.int .i64 0, .int .i64 0, .string ⟨#[]⟩] 33) = W7) := hW7
      clear CL hrow row5 k5 h5 bz r7 h7 s7 hW7 HPr HT
      go_wp2_with fail
      rw [HWz.out]
      clear HWz
      generalize W5.heap.size = kb at *
      go_loopw [9, 10, 13] (fun vg vc iw w' => ∃ i : Nat, iw = .int .i64 (i : Nat) ∧ i ≤ l.length ∧ Hid (∃ (P : Nat → Prop) (ng pos : Nat) (key : V) (t' : TS) (s' : H.St) (C G : Nat → V), Wt P W w' X (.slice a L cap) T S hb (3 + 7 * k + 20 * i) t' s' l a1 kb key vg vc ng i G C ∧ Tv t.p t'.p pos i C ng G ∧ Kpos t'.p pos key ∧ ng ≤ i)) (fun _ _ iw _ => l.length + 1 - (intOf iw).toNat)
      case atStart => exact ⟨0, rfl, by omega, H7.out.choose, 0, 0, nil, t, s, fun _ => nil, fun _ => nil, H7.out.choose_spec, Tv.start _ _ _, .inl ⟨rfl, rfl⟩, by omega⟩
      case round =>
        obtain ⟨i, rfl, hi, HR2⟩ := hrel
        obtain ⟨P, ng, pos, key, t', s', C, G, hw, htv, hkp, hng⟩ := HR2.out
        clear HR2 H7
        have hil' : (i : Int) ≤ (l.length : Int) := by omega
        have hwi : IntKind.i64.wrap ((i : Int) + 1) = (i : Int) + 1 := by rw [IntKind.wrap_i64]; omega
        have kz0 := hw.kx.bx.c0
        have kz1 := hw.kx.bx.c1
        have kz2 := hw.kx.bx.c2
        obtain ⟨ag, cg, rfl⟩ := hw.lg.form
        obtain ⟨ac, cc, rfl⟩ := hw.lc.form
        obtain ⟨x, hx⟩ : ∃ x, pnx t'.p pos = x := ⟨_, rfl⟩
        have HTV : Hid (Tv t.p t'.p pos i C ng G) := htv
        have HGx : Hid (pget t'.p x.1 = x.2 ∧ Rng x.1) := by
          show _ ∧ _
          rcases htv.next HTi.out with ⟨e, _, _⟩ | ⟨j, j0, j1, e, hv, _, _, _⟩
          · rw [← hx, e]
            refine ⟨?_, by constructor <;> simp [nil]⟩
            unfold pget mg fnd
            rw [if_neg (fun q => by have := q.1; simp [nil] at this), if_pos (.inr (.inr rfl))]
            rfl
          · rw [← hx, e]
            obtain ⟨_, _, _, q4, q5⟩ := plc_prO hw.ws.ti (i := j) j0 (by rw [htv.n, htv.z]; exact j1) hv
            exact ⟨q4, q5⟩
        have HNX : Hid (pnx t'.p pos = x) := hx
        have CN := hw.ws.next (by omega) key hkp.rng
        rw [hkp.next, hx] at CN
        unfold tp vv vl at CN
        have HW : Hid (Wt P W wr X (.slice a L cap) T S hb (3 + 7 * k + 20 * i) t' s' l a1 kb key (.slice ag ng cg) (.slice ac i cc) ng i G C) := hw
        clear hw htv hkp hx
        go_wp2_with fail
        refine CN.mono ?_; rintro e Wa ⟨rfl, ha, ka⟩
        have hwa := HW.out.kept ha ka
        have bb := b2 Wa (vb x.1.1 x.1.2.1 x.1.2.2) (vb x.2.1 x.2.2.1 x.2.2.2)
        have hwb := hwa.news bb
        have hbx := Box2.made Wa x
        have sb : ((Wa.alloc (vb x.1.1 x.1.2.1 x.1.2.2)).alloc (vb x.2.1 x.2.2.1 x.2.2.2)).heap.size = Wa.heap.size + 2 := by simp
        obtain ⟨Wb, hWb⟩ : ∃ Wb, (Wa.alloc (vb x.1.1 x.1.2.1 x.1.2.2)).alloc (vb x.2.1 x.2.2.1 x.2.2.2) = Wb := ⟨_, rfl⟩
        have hbx' : Box2 Wb Wa.heap.size x := by rw [← hWb]; exact hbx
        rw [hWb] at hwb sb
        obtain ⟨P5, hP5⟩ : ∃ P5, (fun g => P g ∨ (Wa.heap.size ≤ g ∧ g < Wb.heap.size)) = P5 := ⟨_, rfl⟩
        rw [hP5] at hwb
        have HP5 : Hid ((∀ g, P g → P5 g) ∧ P5 Wa.heap.size ∧ P5 (Wa.heap.size + 1)) := by
          rw [← hP5]; exact ⟨fun g q => .inl q, .inr ⟨by omega, by omega⟩, .inr ⟨by omega, by omega⟩⟩
        obtain ⟨t5, ht5⟩ : ∃ t5 : TS, { t' with pr := t'.pr + (if fm key = true ∧ key.1 ≠ 0 then prd t'.p key else 0 : Nat) } = t5 := ⟨_, rfl⟩
        have et5 : t5.p = t'.p := by rw [← ht5]
        rw [ht5] at hwb
        have CG := (hwb.ws.below (bdrew1 Wb)).get (by omega) x.1 HGx.out.2
        rw [show pget t5.p x.1 = x.2 by rw [et5]; exact HGx.out.1] at CG
        unfold tp vv vl at CG
        have HD : Hid ((∀ g, (Value.slice ag ng cg).ownBlock = some g → g < Wa.heap.size) ∧ (∀ g, (Value.slice ac i cc).ownBlock = some g → g < Wa.heap.size) ∧ kb < Wa.heap.size ∧ ∀ g, a1 = some ⟨g, 0, none⟩ → g < Wa.heap.size) := ⟨fun g e => (hwa.lg.own.lt g e).2, fun g e => (hwa.lc.own.lt g e).2, hwa.kx.bx.lt, fun g e => (hwa.d1 g e).2.2.2.2⟩
        have HSS : Hid (∀ W', Keep P5 Wb W' → Box2 W' Wa.heap.size x) := fun W' q => hbx'.kept q HP5.out.2.1 HP5.out.2.2
        have HK0 : Hid (Keep P5 Wb Wb.drew) := Keep.of (bdrew1 Wb)
        have HS6 : Hid (∀ W', Keep P5 Wb W' → W'.cell? ⟨Wa.heap.size, 0, none⟩ = some (.int .i64 x.1.1) ∧ W'.cell? ⟨Wa.heap.size, 1, none⟩ = some (.int .i64 x.1.2.1) ∧ W'.cell? ⟨Wa.heap.size, 2, none⟩ = some (.string x.1.2.2) ∧ W'.cell? ⟨Wa.heap.size + 1, 0, none⟩ = some (.int .i64 x.2.1) ∧ W'.cell? ⟨Wa.heap.size + 1, 1, none⟩ = some (.int .i64 x.2.2.1) ∧ W'.cell? ⟨Wa.heap.size + 1, 2, none⟩ = some (.string x.2.2.2)) := fun W' q => by
          have hb' := HSS.out W' q
          exact ⟨hb'.k0, hb'.k1, hb'.k2, hb'.v0, hb'.v1, hb'.v2⟩
        have q2 : ∀ W', (binOp .neq 33 (vl x.2.1 x.2.2.1 x.2.2.2) (vl x.2.1 x.2.2.1 x.2.2.2)).run Try.prog W' = .ok (.bool false) W' := fun W' => by rw [neq32]; simp
        unfold vl at q2
        have HWb : Hid ((Wa.alloc (.cells #[.int .i64 x.1.1, .int .i64 x.1.2.1, .string x.1.2.2] 33)).alloc (.cells #[.int .i64 x.2.1, .int .i64 x.2.2.1, .string x.2.2.2] 33) = Wb) := hWb
        have HWW : Hid (Wt P5 W Wb X (.slice a L cap) T S hb (3 + 7 * k + 20 * i + 1) t5 s' l a1 kb key (.slice ag ng cg) (.slice ac i cc) ng i G C) := hwb
        have HNw : Hid (∀ wx t2, t2.p = t'.p → Ws P5 W wx X (.slice a L cap) none T S hb (3 + 7 * k + 20 * i + 1 + 1) t2 s' → Keep P5 Wb wx → Hid (∃ t2 : TS, t2.p = t'.p ∧ Ws P5 W wx X (.slice a L cap) none T S hb (3 + 7 * k + 20 * i + 1 + 1) t2 s' ∧ Keep P5 Wb wx)) := fun wx t2 e1 e2 e3 => ⟨t2, e1, e2, e3⟩
        clear CN ha ka bb hwa hwb hbx hbx' sb hWb hP5 HW kz0 kz1 kz2
        go_upto_region 17 with fail
        rw [HWb.out]
        clear HWb
        generalize Wa.heap.size = B11 at *
        go_cut [77] from 69 to 77 (fun z wx => z = .bool false ∧ Hid (∃ t2 : TS, t2.p = t'.p ∧ Ws P5 W wx X (.slice a L cap) none T S hb (3 + 7 * k + 20 * i + 1 + 1) t2 s' ∧ Keep P5 Wb wx))
        case first =>
          go_region_held3 (fun W' => W'.cell? ⟨B11, 0, none⟩ = some (.int .i64 x.1.1) ∧ W'.cell? ⟨B11, 1, none⟩ = some (.int .i64 x.1.2.1) ∧ W'.cell? ⟨B11, 2, none⟩ = some (.string x.1.2.2) ∧ W'.cell? ⟨B11 + 1, 0, none⟩ = some (.int .i64 x.2.1) ∧ W'.cell? ⟨B11 + 1, 1, none⟩ = some (.int .i64 x.2.2.1) ∧ W'.cell? ⟨B11 + 1, 2, none⟩ = some (.string x.2.2.2)) (exact HS6.out _ (by first | exact HK1.out | exact HK0.out | exact Keep.refl _ _))
            ((go_at_call 13; refine CG.mono ?_; rintro e Wc ⟨rfl, hc, kc⟩; have HK1 : Hid (Keep P5 Wb Wc) := HK0.out.trans kc; have HNc : Hid _ := HNw.out Wc _ (by exact et5) hc HK1.out; clear hc kc))
          all_goals
            go_wp2_with fail
            go_meet
            exact ⟨rfl, HNc.out⟩
        case rest =>
          obtain ⟨rfl, HX5⟩ := hcut
          obtain ⟨t2, et2, hc5, kc5⟩ := HX5.out
          have hwc := HWW.out.kept hc5 kc5
          have hbc := HSS.out _ kc5
          have m0 := hbc.k0
          have m1 := hbc.k1
          have m2 := hbc.k2
          have n0 := hbc.v0
          have HBc : Hid (Box2 wc B11 x) := hbc
          have HWC : Hid (Wt P5 W wc X (.slice a L cap) T S hb (3 + 7 * k + 20 * i + 1 + 1) t2 s' l a1 kb key (.slice ag ng cg) (.slice ac i cc) ng i G C) := hwc
          rcases HTV.out.next HTi.out with ⟨hnx, hA2, hA1⟩ | ⟨j, j0, j1, hnx, hv, hnh, htv2, hil⟩
          · rw [HNX.out] at hnx
            rw [HLe.out] at hA1 hA2
            have CA := all_any (c1 := cp) hwc.pr hwc.lg hwc.lc (by omega) (by omega) (by omega) hA1 hA2
            subst hnx
            unfold nil at m0
            clear hwc hbc HX5 hc5 kc5 HSS HS6 HNw HK0 CG q2 HBc hA1 hA2 m1 m2 n0
            go_wp2_with fail
            refine CA.mono ?_; rintro e Wz ⟨rfl, kz⟩
            have HBz : Hid (Below X W Wz) := (HWC.out.ws.below kz).bel
            clear CA kz
            go_wp2_with fail
            go_ret
            first | exact ⟨rfl, HBz.out⟩ | exact ⟨rfl, by rw [HX.out]; exact HBz.out⟩
          · rw [HNX.out] at hnx
            have ti' : TI t'.p := by rw [← et2]; exact hc5.ti
            obtain ⟨b1', b2', b3', b4', b5'⟩ := plc_prO ti' (i := j) j0 (by rw [HTV.out.n, HTV.out.z]; exact j1) hv
            have hx0 := HTV.out.dn j j0 j1 hv
            have hxk : x.1 = (prO t.p j).1 := by rw [hnx]; exact HTV.out.key j
            rw [← hnx] at hv hnh htv2 b1' b2' b3' b5'
            have g1 : (x.1.1 == 0) = false := by simpa using b3'
            have g2 : (x.2.1 == 0) = false := by simpa using hv
            have HKp : Hid (Kpos t'.p j x.1 ∧ Tv t.p t'.p j (i + 1) (upd C i x.1) ng G) := ⟨.inr ⟨b2', b3', b1', by omega, b5'⟩, htv2⟩
            have HXJ : Hid (∃ j' : Nat, 1 ≤ j' ∧ j' ≤ t.p.n + t.p.z ∧ (prO t.p j').2.1 ≠ 0 ∧ x.1 = (prO t.p j').1) := ⟨j, j0, j1, hx0, hxk⟩
            have CH := has_any x.1 hwc.lc (by omega)
            rw [hnh] at CH
            unfold vv vl at CH
            have hil2 : i + 1 ≤ l.length := by rw [← HLe.out]; exact hil
            clear hwc hbc HX5 hc5 kc5 HSS HS6 HNw HK0 CG q2 hnx hnh htv2 b1' b2' b3' b4' b5' hil hv ti' hx0 hxk
            go_wp2_with fail
            refine CH.mono ?_; rintro e Wd ⟨rfl, kd⟩
            have hwd := HWC.out.below kd
            have hbd : Box2 Wd B11 x := HBc.out.kept (Ks := fun _ => True) (Keep.of kd) trivial trivial
            have p0 := hbd.k0
            have p1 := hbd.k1
            have p2 := hbd.k2
            obtain ⟨gn, cn, We, hr, hl6, hg6, hb6, hlt6⟩ := (hwd.lc.alloc (.cells #[.int .i64 x.1.1, .int .i64 x.1.2.1, .string x.1.2.2] 33)).app2 x.1 (Bx.made Wd x.1) (by omega) (by have := hwd.ws.sz; simp; omega)
            have hwe := hwd.appc (b1 Wd _) hg6 hl6 hb6 hlt6
            have kk6 : Keep (fun g => (Value.slice ac i cc).ownBlock ≠ some g) Wd We := (Keep.of (b1 Wd (.cells #[.int .i64 x.1.1, .int .i64 x.1.2.1, .string x.1.2.2] 33))).trans ⟨hg6.os, hg6.tape, hg6.output, hg6.size, fun g hlt hn => hg6.block g hlt (fun e => hn e.symm)⟩
            have hbe : Box2 We B11 x := hbd.kept kk6 (fun e => by have := HD.out.2.1 _ e; omega) (fun e => by have := HD.out.2.1 _ e; omega)
            have szd := kd.size
            obtain ⟨P6, hP6⟩ : ∃ P6, (fun g => P5 g ∨ (Wd.heap.size ≤ g ∧ g < We.heap.size)) = P6 := ⟨_, rfl⟩
            rw [hP6] at hwe
            have hP56 : ∀ g, P5 g → P6 g := by rw [← hP6]; exact fun g q => .inl q
            have kz0 := hwe.kx.bx.c0
            have kz1 := hwe.kx.bx.c1
            have kz2 := hwe.kx.bx.c2
            have kf0 := hwe.kx.fz 0
            have kf1 := hwe.kx.fz 1
            have kf2 := hwe.kx.fz 2
            have r0 := hbe.k0
            have r1 := hbe.k1
            have r2 := hbe.k2
            have hwf := hwe.store x.1
            have hbf : Box2 (set3 We kb x.1) B11 x := hbe.kept (Ks := fun g => g ≠ kb) ((Keep.refl _ We).set3 (fun q => q rfl) x.1) (by have := HD.out.2.2.1; show B11 ≠ kb; omega) (by have := HD.out.2.2.1; show B11 + 1 ≠ kb; omega)
            obtain ⟨Wf, hWf⟩ : ∃ Wf, set3 We kb x.1 = Wf := ⟨_, rfl⟩
            rw [hWf] at hwf hbf
            unfold set3 at hWf
            have hll0 : (0 : Int) < (l.length : Int) := by omega
            have HWF : Hid (Wt P6 W Wf X (.slice a L cap) T S hb (3 + 7 * k + 20 * i + 1 + 1) t2 s' l a1 kb x.1 (.slice ag ng cg) (.slice (some ⟨gn, 0, none⟩) (i + 1) cn) ng (i + 1) G (upd C i x.1)) := hwf
            have HBf : Hid (Box2 Wf B11 x) := hbf
            have HD2 : Hid (∀ g, (Value.slice (some ⟨gn, 0, none⟩) (i + 1) cn).ownBlock = some g → g ≠ B11 ∧ g ≠ B11 + 1) := fun g e => by
              have eg : gn = g := by injection e
              rcases hb6 with q | q
              · have := HD.out.2.1 _ q; omega
              · have := World.block_lt_of_cell? Wd _ hbd.k0; have := World.block_lt_of_cell? Wd _ hbd.v0; simp at *; omega
            have HP6 : Hid (P6 B11 ∧ P6 (B11 + 1) ∧ ∀ g, P5 g → P6 g) := ⟨hP56 _ HP5.out.2.1, hP56 _ HP5.out.2.2, hP56⟩
            clear hwd hbd kd hl6 hg6 hb6 hlt6 hwe kk6 hbe hP6 hP56 hwf hbf CH HBc HWC m0 m1 m2 n0 szd
            by_cases hi2 : i < L2
            · have hi2' : (i : Int) < (L2 : Int) := by omega
              obtain ⟨lb2, off2, rfl, hlb2, u0, u1, u2, u3, u4, u5, u6⟩ := (HO2.out Wf HWF.out.ws.bel).at hi2
              generalize Q2 i = q at *
              have HI2 : Hid (∀ wb, Below X W wb → wb.cell? ⟨lb2, off2 + i * 7, none⟩ = some (.int .i64 q.1) ∧ wb.cell? ⟨lb2, off2 + i * 7 + 4, none⟩ = some (.int .i64 q.2.2.1) ∧ wb.cell? ⟨lb2, off2 + i * 7 + 5, none⟩ = some (.int .i64 q.2.2.2.1) ∧ wb.cell? ⟨lb2, off2 + i * 7 + 6, none⟩ = some (.string q.2.2.2.2)) := fun wb hbb => by
                have far : ∀ o v, Wf.cell? ⟨lb2, o, none⟩ = some v → wb.cell? ⟨lb2, o, none⟩ = some v := fun o v hv => by
                  rw [hbb.cell (p := ⟨lb2, o, none⟩) hlb2, ← HWF.out.ws.bel.cell (p := ⟨lb2, o, none⟩) hlb2]; exact hv
                exact ⟨far _ _ u0, far _ _ u4, far _ _ u5, far _ _ u6⟩
              have hi0 : ¬ ((i : Int) < 0) := by omega
              obtain ⟨r, hrr, hrl⟩ := idx_mod q.2.1.2.1 l.length (by omega) (by omega)
              have hr0 : (0 : Int) ≤ (r : Int) := Int.natCast_nonneg _
              have hr1 : (r : Int) < (l.length : Int) := by omega
              obtain ⟨y, hy⟩ : ∃ y, l[r]? = some y := ⟨l[r], List.getElem?_eq_getElem hrl⟩
              obtain ⟨gl, rfl, hgl, f0, f1, f2⟩ := HWF.out.pr r y hy
              have bg := b1 Wf (vb y.1.1 y.1.2.1 y.1.2.2)
              have hwg := HWF.out.news bg
              have r17 := R3.made Wf y.1
              have sg : (Wf.alloc (vb y.1.1 y.1.2.1 y.1.2.2)).heap.size = Wf.heap.size + 1 := by simp
              obtain ⟨Wg, hWg⟩ : ∃ Wg, Wf.alloc (vb y.1.1 y.1.2.1 y.1.2.2) = Wg := ⟨_, rfl⟩
              rw [hWg] at hwg r17 sg
              obtain ⟨P7, hP7⟩ : ∃ P7, (fun g => P6 g ∨ (Wf.heap.size ≤ g ∧ g < Wg.heap.size)) = P7 := ⟨_, rfl⟩
              rw [hP7] at hwg
              have HP7 : Hid (P7 B11 ∧ P7 (B11 + 1) ∧ P7 Wf.heap.size) := by
                rw [← hP7]; exact ⟨.inl HP6.out.1, .inl HP6.out.2.1, .inr ⟨Nat.le_refl _, by omega⟩⟩
              have HBg : Hid (Box2 Wg B11 x) := HBf.out.kept (Ks := fun _ => True) (Keep.of (by rw [← hWg]; exact bg)) trivial trivial
              have HYj : Hid (∃ j' : Nat, 1 ≤ j' ∧ j' ≤ t.p.n + t.p.z ∧ (prO t.p j').2.1 ≠ 0 ∧ y.1 = (prO t.p j').1) := by
                have hm := List.mem_of_getElem? hy
                rw [← HLe.out] at hm
                obtain ⟨j', a1', a2', a3', rfl⟩ := lsF_mem.1 hm
                exact ⟨j', by omega, by omega, a3', rfl⟩
              have HXj : Hid (∃ j' : Nat, 1 ≤ j' ∧ j' ≤ t.p.n + t.p.z ∧ (prO t.p j').2.1 ≠ 0 ∧ x.1 = (prO t.p j').1) := HXJ.out
              have HWG : Hid (Wt P7 W Wg X (.slice a L cap) T S hb (3 + 7 * k + 20 * i + 1 + 1) t2 s' l (some ⟨gl, 0, none⟩) kb x.1 (.slice ag ng cg) (.slice (some ⟨gn, 0, none⟩) (i + 1) cn) ng (i + 1) G (upd C i x.1)) := hwg
              have HR17 : Hid (R3 Wg Wf.heap.size y.1) := r17
              have HOw : Hid (Wf.heap.size ≠ kb ∧ ((Value.slice ag ng cg).ownBlock ≠ some Wf.heap.size ∧ (Value.slice (some ⟨gn, 0, none⟩) (i + 1) cn).ownBlock ≠ some Wf.heap.size) ∧ (some (⟨gl, 0, none⟩ : Addr) ≠ some ⟨Wf.heap.size, 0, none⟩) ∧ X < Wf.heap.size) := by
                have e1 := HWF.out.kx.bx.lt
                have e2 := HWF.out.ws.sz
                refine ⟨by omega, ⟨fun e => ?_, fun e => ?_⟩, fun e => ?_, e2⟩
                · have := (HWF.out.lg.own.lt _ e).2; omega
                · have := (HWF.out.lc.own.lt _ e).2; omega
                · injection e with e; injection e with e; omega
              have s0' := HBf.out.k0
              have s1' := HBf.out.k1
              have s2' := HBf.out.k2
              have v0' := HBg.out.k0
              have v1' := HBg.out.k1
              have v2' := HBg.out.k2
              have w0' := r17.bx.c0
              have w1' := r17.bx.c1
              have w2' := r17.bx.c2
              have z0' := r17.fz 0
              have z1' := r17.fz 1
              have z2' := r17.fz 2
              obtain ⟨c4, _, _, _⟩ := HI2.out Wg hwg.ws.bel
              unfold vb at hWg
              clear hwg r17 bg hy hP7 HBf HWF u4 u5 u6
              generalize hb17 : Wf.heap.size = b17 at *
              by_cases hk3 : q.1 = 3
              · have g3 : (q.1 == 3) = true := by simp [hk3]
                have hwh := HWG.out.box HP7.out.2.2 HOw.out.2.2.2 HOw.out.1 HOw.out.2.1 HOw.out.2.2.1 x.1
                have rh := HR17.out.set x.1
                obtain ⟨Wh, hWh⟩ : ∃ Wh, set3 Wg b17 x.1 = Wh := ⟨_, rfl⟩
                rw [hWh] at hwh rh
                unfold set3 at hWh
                have HPj := HXj
                clear hk3
                have HPR : Hid (Rng x.1 ∧ ∃ j' : Nat, 1 ≤ j' ∧ j' ≤ t.p.n + t.p.z ∧ (prO t'.p j').1 = x.1 ∧ pget t'.p x.1 = (prO t'.p j').2) := by
                  obtain ⟨j', a1', a2', a3', ekk⟩ := HPj.out
                  rw [ekk]
                  have q5 := plc_prO HTi.out (i := j') a1' a2' a3'
                  have hkk := HTV.out.key j'
                  refine ⟨q5.2.2.2.2, j', a1', a2', hkk, ?_⟩
                  rw [← hkk]
                  exact prO_get (by rw [← et2]; exact hwh.ws.ti) a1' (by rw [HTV.out.n, HTV.out.z]; exact a2') (by rw [hkk]; exact fun e => q5.2.2.1 (by rw [e]; rfl))
                have CG2 := hwh.ws.get (by omega) x.1 HPR.out.1
                rw [show pget t2.p x.1 = pget t'.p x.1 by rw [et2]] at CG2
                obtain ⟨t3, ht3⟩ : ∃ t3 : TS, { t2 with pr := t2.pr + (prd t2.p x.1 : Nat) } = t3 := ⟨_, rfl⟩
                have et3 : t3.p = t'.p := by rw [← ht3]; exact et2
                rw [ht3] at CG2
                unfold tp vv vl at CG2
                have x0' := rh.bx.c0
                have x1' := rh.bx.c1
                have x2' := rh.bx.c2
                have hfv := fldV
                have HWH : Hid (Wt P7 W Wh X (.slice a L cap) T S hb (3 + 7 * k + 20 * i + 1 + 1) t2 s' l (some ⟨gl, 0, none⟩) kb x.1 (.slice ag ng cg) (.slice (some ⟨gn, 0, none⟩) (i + 1) cn) ng (i + 1) G (upd C i x.1)) := hwh
                have HRH : Hid (R3 Wh b17 x.1) := rh
                clear hwh rh
                go_wp2_with (at_builtin; refine wp_app rfl _ _ 36 rfl 36 rfl _ _ rfl rfl hr ?_)
                refine CG2.mono ?_; rintro e Wi ⟨rfl, hi', ki⟩
                have hwi' := HWH.out.kept hi' ki
                have ri := HRH.out.kept ki HP7.out.2.2
                have HKp3 : Hid (Kpos t3.p j x.1 ∧ Tv t.p t3.p j (i + 1) (upd C i x.1) ng G) := by show _ ∧ _; rw [et3]; exact HKp.out
                by_cases hp : (pget t'.p x.1).1 = 0
                · have g5 : ((pget t'.p x.1).1 != 0) = false := by simp [hp]
                  have HNN : Hid (∃ (P : Nat → Prop) (ng' pos : Nat) (key : V) (t' : TS) (s' : H.St) (C' G' : Nat → V), Wt P W Wi X (.slice a L cap) T S hb (3 + 7 * k + 20 * (i + 1)) t' s' l (some ⟨gl, 0, none⟩) kb key (.slice ag ng cg) (.slice (some ⟨gn, 0, none⟩) (i + 1) cn) ng' (i + 1) G' C' ∧ Tv t.p t'.p pos (i + 1) C' ng' G' ∧ Kpos t'.p pos key ∧ ng' ≤ i + 1) := ⟨P7, ng, j, x.1, t3, s', upd C i x.1, G, { hwi' with ws := (hwi').ws.more (by omega) }, HKp3.out.2, HKp3.out.1, by omega⟩
                  clear hp hwi' ri hi' ki CG2
                  go_wp2_with fail
                  go_round
                  case rel => exact ⟨i + 1, by go_num, by omega, HNN.out⟩
                  case measure => simp [intOf]; omega
                · have g5 : ((pget t'.p x.1).1 != 0) = true := by simp [hp]
                  obtain ⟨c9, d4, d5, d6⟩ := HI2.out Wi hwi'.ws.bel
                  have CC := rcheck_any q.2.2.1 q.2.2.2.1 q.2.2.2.2 Wi
                  rw [chk_of] at CC
                  unfold vl at CC
                  have bj := b1 Wi (vb q.2.2.1 q.2.2.2.1 q.2.2.2.2)
                  have hwj := hwi'.below bj
                  have rj := ri.below bj
                  obtain ⟨Wj, hWj⟩ : ∃ Wj, Wi.alloc (vb q.2.2.1 q.2.2.2.1 q.2.2.2.2) = Wj := ⟨_, rfl⟩
                  rw [hWj] at CC hwj rj
                  have HWJ : Hid (Wt P7 W Wj X (.slice a L cap) T S hb (3 + 7 * k + 20 * i + 1 + 1 + 1) t3 s' l (some ⟨gl, 0, none⟩) kb x.1 (.slice ag ng cg) (.slice (some ⟨gn, 0, none⟩) (i + 1) cn) ng (i + 1) G (upd C i x.1)) := hwj
                  cases hf : fm q.2.2
                  · rw [hf, if_neg (by decide)] at CC
                    have HNN : Hid (∃ (P : Nat → Prop) (ng' pos : Nat) (key : V) (t' : TS) (s' : H.St) (C' G' : Nat → V), Wt P W Wj X (.slice a L cap) T S hb (3 + 7 * k + 20 * (i + 1)) t' s' l (some ⟨gl, 0, none⟩) kb key (.slice ag ng cg) (.slice (some ⟨gn, 0, none⟩) (i + 1) cn) ng' (i + 1) G' C' ∧ Tv t.p t'.p pos (i + 1) C' ng' G' ∧ Kpos t'.p pos key ∧ ng' ≤ i + 1) := ⟨P7, ng, j, x.1, t3, s', upd C i x.1, G, { HWJ.out with ws := (HWJ.out).ws.more (by omega) }, HKp3.out.2, HKp3.out.1, by omega⟩
                    clear hf hp hwi' ri hi' ki CG2 hwj rj bj
                    go_wp2_with fail
                    refine CC.mono ?_; rintro e w6 ⟨rfl, hw6⟩; rw [hw6]; clear hw6 w6 CC
                    go_wp2_with fail
                    go_round
                    case rel => exact ⟨i + 1, by go_num, by omega, HNN.out⟩
                    case measure => simp [intOf]; omega
                  · rw [hf, if_pos rfl] at CC
                    obtain ⟨_, e4, e5, e6⟩ := HI2.out Wj hwj.ws.bel
                    have o0 := rj.bx.c0
                    have o1 := rj.bx.c1
                    have o2 := rj.bx.c2
                    have CS2 := (hwj.ws.below (bdrew1 Wj)).set (by omega) x.1 q.2.2 HPR.out.1
                    unfold tp vv vl at CS2
                    have HTS : Hid ((q.2.2.1 ≠ 0 → Tv t.p (tset t3 s' x.1 q.2.2).1.p j (i + 1) (upd C i x.1) ng G) ∧ (q.2.2.1 = 0 → Tv t.p (tset t3 s' x.1 q.2.2).1.p j (i + 1) (upd C i x.1) (ng + 1) (upd G ng x.1))) := by
                      obtain ⟨_, j', a1', a2', e1', e2'⟩ := HPR.out
                      have hv3 : (prO t3.p j').2.1 ≠ 0 := by rw [et3, ← e2']; exact hp
                      have TT3 := Tv.set (s := s') HKp3.out.2 hwi'.ws.ti a1' a2' hv3 hf
                      rw [show (prO t3.p j').1 = x.1 by rw [et3]; exact e1'] at TT3
                      exact TT3
                    have HRJ : Hid (R3 Wj b17 x.1) := rj
                    obtain ⟨t6, ht6⟩ : ∃ t6, (tset t3 s' x.1 q.2.2).1 = t6 := ⟨_, rfl⟩
                    obtain ⟨s6, hs6⟩ : ∃ s6, (tset t3 s' x.1 q.2.2).2.1 = s6 := ⟨_, rfl⟩
                    rw [ht6] at HTS CS2
                    rw [hs6] at CS2
                    clear hf hp hwi' ri hi' ki CG2 hwj rj bj ht6 hs6
                    go_wp2_with fail
                    refine CC.mono ?_; rintro e w6 ⟨rfl, hw6⟩; rw [hw6]; clear hw6 w6 CC
                    go_wp2_with fail
                    refine wp_tail 7 (by kernel_rfl) (by kernel_rfl) ?_
                    simp only [List.take_succ_cons, List.take_zero, List.drop_succ_cons, List.drop_zero]
                    repeat still_step
                    refine wpStill_nil ?_
                    go_wp2_with fail
                    refine CS2.mono ?_; rintro e Wk ⟨rfl, hk', kk'⟩
                    have hwk := (HWJ.out.below (bdrew1 Wj)).kept hk' kk'
                    have rk := (HRJ.out.below (bdrew1 Wj)).kept kk' HP7.out.2.2
                    obtain ⟨_, y4, y5, y6⟩ := HI2.out Wk hwk.ws.bel
                    by_cases hv0 : q.2.2.1 = 0
                    · have g6 : (q.2.2.1 == 0) = true := by simp [hv0]
                      have HT9 := HTS.out.2 hv0
                      have HK9 : Hid (Kpos t6.p j x.1 ∧ Tv t.p t6.p j (i + 1) (upd C i x.1) (ng + 1) (upd G ng x.1)) := ⟨HKp3.out.2.kpos HT9 HKp3.out.1, HT9⟩
                      have o0' := rk.bx.c0
                      have o1' := rk.bx.c1
                      have o2' := rk.bx.c2
                      obtain ⟨gm, cm, Wl, hrl2, hl9, hg9, hb9, hlt9⟩ := (hwk.lg.alloc (.cells #[.int .i64 x.1.1, .int .i64 x.1.2.1, .string x.1.2.2] 33)).app2 x.1 (Bx.made Wk x.1) (by omega) (by have := hwk.ws.sz; simp; omega)
                      have hwl := hwk.appg (b1 Wk _) hg9 hl9 hb9 hlt9
                      have HNN : Hid (∃ (P : Nat → Prop) (ng' pos : Nat) (key : V) (t' : TS) (s' : H.St) (C' G' : Nat → V), Wt P W Wl X (.slice a L cap) T S hb (3 + 7 * k + 20 * (i + 1)) t' s' l (some ⟨gl, 0, none⟩) kb key (.slice (some ⟨gm, 0, none⟩) (ng + 1) cm) (.slice (some ⟨gn, 0, none⟩) (i + 1) cn) ng' (i + 1) G' C' ∧ Tv t.p t'.p pos (i + 1) C' ng' G' ∧ Kpos t'.p pos key ∧ ng' ≤ i + 1) := ⟨_, ng + 1, j, x.1, t6, s6, upd C i x.1, upd G ng x.1, { hwl with ws := (hwl).ws.more (by omega) }, HK9.out.2, HK9.out.1, by omega⟩
                      clear hv0 HT9 hwk rk hk' kk' CS2 hl9 hg9 hb9 hlt9 hwl
                      go_wp2_with (at_builtin; refine wp_app rfl _ _ 36 rfl 36 rfl _ _ rfl rfl hrl2 ?_)
                      go_round
                      case rel => exact ⟨i + 1, by go_num, by omega, HNN.out⟩
                      case measure => simp [intOf]; omega
                    · have g6 : (q.2.2.1 == 0) = false := by simp [hv0]
                      have HT9 := HTS.out.1 hv0
                      have HK9 : Hid (Kpos t6.p j x.1 ∧ Tv t.p t6.p j (i + 1) (upd C i x.1) ng G) := ⟨HKp3.out.2.kpos HT9 HKp3.out.1, HT9⟩
                      have HNN : Hid (∃ (P : Nat → Prop) (ng' pos : Nat) (key : V) (t' : TS) (s' : H.St) (C' G' : Nat → V), Wt P W Wk X (.slice a L cap) T S hb (3 + 7 * k + 20 * (i + 1)) t' s' l (some ⟨gl, 0, none⟩) kb key (.slice ag ng cg) (.slice (some ⟨gn, 0, none⟩) (i + 1) cn) ng' (i + 1) G' C' ∧ Tv t.p t'.p pos (i + 1) C' ng' G' ∧ Kpos t'.p pos key ∧ ng' ≤ i + 1) := ⟨P7, ng, j, x.1, t6, s6, upd C i x.1, G, { hwk with ws := (hwk).ws.more (by omega) }, HK9.out.2, HK9.out.1, by omega⟩
                      clear hv0 HT9 hwk rk hk' kk' CS2
                      go_wp2_with fail
                      go_round
                      case rel => exact ⟨i + 1, by go_num, by omega, HNN.out⟩
                      case measure => simp [intOf]; omega
              · have g3 : (q.1 == 3) = false := by simp [hk3]
                have hwh := HWG.out
                have rh := HR17.out
                have HPj := HYj
                clear hk3
                have HPR : Hid (Rng y.1 ∧ ∃ j' : Nat, 1 ≤ j' ∧ j' ≤ t.p.n + t.p.z ∧ (prO t'.p j').1 = y.1 ∧ pget t'.p y.1 = (prO t'.p j').2) := by
                  obtain ⟨j', a1', a2', a3', ekk⟩ := HPj.out
                  rw [ekk]
                  have q5 := plc_prO HTi.out (i := j') a1' a2' a3'
                  have hkk := HTV.out.key j'
                  refine ⟨q5.2.2.2.2, j', a1', a2', hkk, ?_⟩
                  rw [← hkk]
                  exact prO_get (by rw [← et2]; exact hwh.ws.ti) a1' (by rw [HTV.out.n, HTV.out.z]; exact a2') (by rw [hkk]; exact fun e => q5.2.2.1 (by rw [e]; rfl))
                have CG2 := hwh.ws.get (by omega) y.1 HPR.out.1
                rw [show pget t2.p y.1 = pget t'.p y.1 by rw [et2]] at CG2
                obtain ⟨t3, ht3⟩ : ∃ t3 : TS, { t2 with pr := t2.pr + (prd t2.p y.1 : Nat) } = t3 := ⟨_, rfl⟩
                have et3 : t3.p = t'.p := by rw [← ht3]; exact et2
                rw [ht3] at CG2
                unfold tp vv vl at CG2
                have x0' := rh.bx.c0
                have x1' := rh.bx.c1
                have x2' := rh.bx.c2
                have hfv := fldV
                have HWH : Hid (Wt P7 W Wg X (.slice a L cap) T S hb (3 + 7 * k + 20 * i + 1 + 1) t2 s' l (some ⟨gl, 0, none⟩) kb x.1 (.slice ag ng cg) (.slice (some ⟨gn, 0, none⟩) (i + 1) cn) ng (i + 1) G (upd C i x.1)) := hwh
                have HRH : Hid (R3 Wg b17 y.1) := rh
                clear hwh rh
                go_wp2_with (at_builtin; refine wp_app rfl _ _ 36 rfl 36 rfl _ _ rfl rfl hr ?_)
                refine CG2.mono ?_; rintro e Wi ⟨rfl, hi', ki⟩
                have hwi' := HWH.out.kept hi' ki
                have ri := HRH.out.kept ki HP7.out.2.2
                have HKp3 : Hid (Kpos t3.p j x.1 ∧ Tv t.p t3.p j (i + 1) (upd C i x.1) ng G) := by show _ ∧ _; rw [et3]; exact HKp.out
                by_cases hp : (pget t'.p y.1).1 = 0
                · have g5 : ((pget t'.p y.1).1 != 0) = false := by simp [hp]
                  have HNN : Hid (∃ (P : Nat → Prop) (ng' pos : Nat) (key : V) (t' : TS) (s' : H.St) (C' G' : Nat → V), Wt P W Wi X (.slice a L cap) T S hb (3 + 7 * k + 20 * (i + 1)) t' s' l (some ⟨gl, 0, none⟩) kb key (.slice ag ng cg) (.slice (some ⟨gn, 0, none⟩) (i + 1) cn) ng' (i + 1) G' C' ∧ Tv t.p t'.p pos (i + 1) C' ng' G' ∧ Kpos t'.p pos key ∧ ng' ≤ i + 1) := ⟨P7, ng, j, x.1, t3, s', upd C i x.1, G, { hwi' with ws := (hwi').ws.more (by omega) }, HKp3.out.2, HKp3.out.1, by omega⟩
                  clear hp hwi' ri hi' ki CG2
                  go_wp2_with fail
                  go_round
                  case rel => exact ⟨i + 1, by go_num, by omega, HNN.out⟩
                  case measure => simp [intOf]; omega
                · have g5 : ((pget t'.p y.1).1 != 0) = true := by simp [hp]
                  obtain ⟨c9, d4, d5, d6⟩ := HI2.out Wi hwi'.ws.bel
                  have CC := rcheck_any q.2.2.1 q.2.2.2.1 q.2.2.2.2 Wi
                  rw [chk_of] at CC
                  unfold vl at CC
                  have bj := b1 Wi (vb q.2.2.1 q.2.2.2.1 q.2.2.2.2)
                  have hwj := hwi'.below bj
                  have rj := ri.below bj
                  obtain ⟨Wj, hWj⟩ : ∃ Wj, Wi.alloc (vb q.2.2.1 q.2.2.2.1 q.2.2.2.2) = Wj := ⟨_, rfl⟩
                  rw [hWj] at CC hwj rj
                  have HWJ : Hid (Wt P7 W Wj X (.slice a L cap) T S hb (3 + 7 * k + 20 * i + 1 + 1 + 1) t3 s' l (some ⟨gl, 0, none⟩) kb x.1 (.slice ag ng cg) (.slice (some ⟨gn, 0, none⟩) (i + 1) cn) ng (i + 1) G (upd C i x.1)) := hwj
                  cases hf : fm q.2.2
                  · rw [hf, if_neg (by decide)] at CC
                    have HNN : Hid (∃ (P : Nat → Prop) (ng' pos : Nat) (key : V) (t' : TS) (s' : H.St) (C' G' : Nat → V), Wt P W Wj X (.slice a L cap) T S hb (3 + 7 * k + 20 * (i + 1)) t' s' l (some ⟨gl, 0, none⟩) kb key (.slice ag ng cg) (.slice (some ⟨gn, 0, none⟩) (i + 1) cn) ng' (i + 1) G' C' ∧ Tv t.p t'.p pos (i + 1) C' ng' G' ∧ Kpos t'.p pos key ∧ ng' ≤ i + 1) := ⟨P7, ng, j, x.1, t3, s', upd C i x.1, G, { HWJ.out with ws := (HWJ.out).ws.more (by omega) }, HKp3.out.2, HKp3.out.1, by omega⟩
                    clear hf hp hwi' ri hi' ki CG2 hwj rj bj
                    go_wp2_with fail
                    refine CC.mono ?_; rintro e w6 ⟨rfl, hw6⟩; rw [hw6]; clear hw6 w6 CC
                    go_wp2_with fail
                    go_round
                    case rel => exact ⟨i + 1, by go_num, by omega, HNN.out⟩
                    case measure => simp [intOf]; omega
                  · rw [hf, if_pos rfl] at CC
                    obtain ⟨_, e4, e5, e6⟩ := HI2.out Wj hwj.ws.bel
                    have o0 := rj.bx.c0
                    have o1 := rj.bx.c1
                    have o2 := rj.bx.c2
                    have CS2 := (hwj.ws.below (bdrew1 Wj)).set (by omega) y.1 q.2.2 HPR.out.1
                    unfold tp vv vl at CS2
                    have HTS : Hid ((q.2.2.1 ≠ 0 → Tv t.p (tset t3 s' y.1 q.2.2).1.p j (i + 1) (upd C i x.1) ng G) ∧ (q.2.2.1 = 0 → Tv t.p (tset t3 s' y.1 q.2.2).1.p j (i + 1) (upd C i x.1) (ng + 1) (upd G ng y.1))) := by
                      obtain ⟨_, j', a1', a2', e1', e2'⟩ := HPR.out
                      have hv3 : (prO t3.p j').2.1 ≠ 0 := by rw [et3, ← e2']; exact hp
                      have TT3 := Tv.set (s := s') HKp3.out.2 hwi'.ws.ti a1' a2' hv3 hf
                      rw [show (prO t3.p j').1 = y.1 by rw [et3]; exact e1'] at TT3
                      exact TT3
                    have HRJ : Hid (R3 Wj b17 y.1) := rj
                    obtain ⟨t6, ht6⟩ : ∃ t6, (tset t3 s' y.1 q.2.2).1 = t6 := ⟨_, rfl⟩
                    obtain ⟨s6, hs6⟩ : ∃ s6, (tset t3 s' y.1 q.2.2).2.1 = s6 := ⟨_, rfl⟩
                    rw [ht6] at HTS CS2
                    rw [hs6] at CS2
                    clear hf hp hwi' ri hi' ki CG2 hwj rj bj ht6 hs6
                    go_wp2_with fail
                    refine CC.mono ?_; rintro e w6 ⟨rfl, hw6⟩; rw [hw6]; clear hw6 w6 CC
                    go_wp2_with fail
                    refine wp_tail 7 (by kernel_rfl) (by kernel_rfl) ?_
                    simp only [List.take_succ_cons, List.take_zero, List.drop_succ_cons, List.drop_zero]
                    repeat still_step
                    refine wpStill_nil ?_
                    go_wp2_with fail
                    refine CS2.mono ?_; rintro e Wk ⟨rfl, hk', kk'⟩
                    have hwk := (HWJ.out.below (bdrew1 Wj)).kept hk' kk'
                    have rk := (HRJ.out.below (bdrew1 Wj)).kept kk' HP7.out.2.2
                    obtain ⟨_, y4, y5, y6⟩ := HI2.out Wk hwk.ws.bel
                    by_cases hv0 : q.2.2.1 = 0
                    · have g6 : (q.2.2.1 == 0) = true := by simp [hv0]
                      have HT9 := HTS.out.2 hv0
                      have HK9 : Hid (Kpos t6.p j x.1 ∧ Tv t.p t6.p j (i + 1) (upd C i x.1) (ng + 1) (upd G ng y.1)) := ⟨HKp3.out.2.kpos HT9 HKp3.out.1, HT9⟩
                      have o0' := rk.bx.c0
                      have o1' := rk.bx.c1
                      have o2' := rk.bx.c2
                      obtain ⟨gm, cm, Wl, hrl2, hl9, hg9, hb9, hlt9⟩ := (hwk.lg.alloc (.cells #[.int .i64 y.1.1, .int .i64 y.1.2.1, .string y.1.2.2] 33)).app2 y.1 (Bx.made Wk y.1) (by omega) (by have := hwk.ws.sz; simp; omega)
                      have hwl := hwk.appg (b1 Wk _) hg9 hl9 hb9 hlt9
                      have HNN : Hid (∃ (P : Nat → Prop) (ng' pos : Nat) (key : V) (t' : TS) (s' : H.St) (C' G' : Nat → V), Wt P W Wl X (.slice a L cap) T S hb (3 + 7 * k + 20 * (i + 1)) t' s' l (some ⟨gl, 0, none⟩) kb key (.slice (some ⟨gm, 0, none⟩) (ng + 1) cm) (.slice (some ⟨gn, 0, none⟩) (i + 1) cn) ng' (i + 1) G' C' ∧ Tv t.p t'.p pos (i + 1) C' ng' G' ∧ Kpos t'.p pos key ∧ ng' ≤ i + 1) := ⟨_, ng + 1, j, x.1, t6, s6, upd C i x.1, upd G ng y.1, { hwl with ws := (hwl).ws.more (by omega) }, HK9.out.2, HK9.out.1, by omega⟩
                      clear hv0 HT9 hwk rk hk' kk' CS2 hl9 hg9 hb9 hlt9 hwl
                      go_wp2_with (at_builtin; refine wp_app rfl _ _ 36 rfl 36 rfl _ _ rfl rfl hrl2 ?_)
                      go_round
                      case rel => exact ⟨i + 1, by go_num, by omega, HNN.out⟩
                      case measure => simp [intOf]; omega
                    · have g6 : (q.2.2.1 == 0) = false := by simp [hv0]
                      have HT9 := HTS.out.1 hv0
                      have HK9 : Hid (Kpos t6.p j x.1 ∧ Tv t.p t6.p j (i + 1) (upd C i x.1) ng G) := ⟨HKp3.out.2.kpos HT9 HKp3.out.1, HT9⟩
                      have HNN : Hid (∃ (P : Nat → Prop) (ng' pos : Nat) (key : V) (t' : TS) (s' : H.St) (C' G' : Nat → V), Wt P W Wk X (.slice a L cap) T S hb (3 + 7 * k + 20 * (i + 1)) t' s' l (some ⟨gl, 0, none⟩) kb key (.slice ag ng cg) (.slice (some ⟨gn, 0, none⟩) (i + 1) cn) ng' (i + 1) G' C' ∧ Tv t.p t'.p pos (i + 1) C' ng' G' ∧ Kpos t'.p pos key ∧ ng' ≤ i + 1) := ⟨P7, ng, j, x.1, t6, s6, upd C i x.1, G, { hwk with ws := (hwk).ws.more (by omega) }, HK9.out.2, HK9.out.1, by omega⟩
                      clear hv0 HT9 hwk rk hk' kk' CS2
                      go_wp2_with fail
                      go_round
                      case rel => exact ⟨i + 1, by go_num, by omega, HNN.out⟩
                      case measure => simp [intOf]; omega
            · have hi2' : ¬ (i : Int) < (L2 : Int) := by omega
              have HNN : Hid (∃ (P : Nat → Prop) (ng' pos : Nat) (key : V) (t' : TS) (s' : H.St) (C' G' : Nat → V), Wt P W Wf X (.slice a L cap) T S hb (3 + 7 * k + 20 * (i + 1)) t' s' l a1 kb key (.slice ag ng cg) (.slice (some ⟨gn, 0, none⟩) (i + 1) cn) ng' (i + 1) G' C' ∧ Tv t.p t'.p pos (i + 1) C' ng' G' ∧ Kpos t'.p pos key ∧ ng' ≤ i + 1) := ⟨P6, ng, j, x.1, t2, s', upd C i x.1, G, { HWF.out with ws := HWF.out.ws.more (by omega) }, by rw [et2]; exact HKp.out.2, by rw [et2]; exact HKp.out.1, by omega⟩
              clear HWF HBf HD2 HP6
              go_wp2_with (at_builtin; refine wp_app rfl _ _ 36 rfl 36 rfl _ _ rfl rfl hr ?_)
              go_round
              case rel => exact ⟨i + 1, by go_num, by omega, HNN.out⟩
              case measure => simp [intOf]; omega

end Go.Proofs.Ythlgeohncpmaaab
