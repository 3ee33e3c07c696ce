/- The walk of WalkLists. -/
import Derived.Test.YthlgeohncpmaaabCg28
import Derived.Deep.RegionHeld3
namespace Go.Proofs.Ythlgeohncpmaaab
open Go.RowKit

theorem Ws.sub0 {P : Nat → Prop} {W w : World} {X : Nat} {xs : Value} {T S hb c : Nat} {t : TS} {s : H.St} (h : Ws P W w X xs none T S hb c t s) {P' : Nat → Prop} (hs : ∀ g, P' g → P g) (hlo : ∀ g, g ≤ X → P' g) : Ws P' W w X xs none T S hb c t s := by
  obtain ⟨A, b, a, ht⟩ := h.tt
  exact ⟨⟨A, b, a, ht.sub hs⟩, hlo, (fun _ e => by cases e), h.bel, h.xc, h.sz⟩
set_option maxRecDepth 20000 in
set_option maxHeartbeats 4000000 in
theorem wlists_walk (x y : Int) (a : Option Addr) (L cap : Nat) (W : World) (Q : Nat → Int × V × V) (hO : Ops W.heap.size W a L Q) :
    Calls Try.prog 5 #[cw x y (.slice a L cap)] W fun e w' => e = .returned (.bool true) ∧ Below W.heap.size W w' := by
  obtain ⟨B0, hl0, x0, x1, x2⟩ := start_case x y a L cap W
  obtain ⟨W0, hW0⟩ : ∃ W0, W.alloc (.cells #[.int .i64 x, .int .i64 y, .slice a L cap] 24) = W0 := ⟨_, rfl⟩
  rw [hW0] at B0 hl0 x0 x1 x2
  obtain ⟨X, hX⟩ : ∃ X, W.heap.size = X := ⟨_, rfl⟩
  rw [hX] at B0 hl0 x0 x1 x2 hO
  have HX : Hid (W.heap.size = X) := hX
  have C1 := fixed_any W0
  have HO : Hid (∀ w', Below X W w' → Ops X w' a L Q) := fun w' k => hO.below k
  have HB0 : Hid (Below X W W0) := B0
  have HF : Hid (∀ W1, Below W0.heap.size W0 W1 → X < W1.heap.size ∧ W1.cell? ⟨X, 0, none⟩ = some (.int .i64 x) ∧ W1.cell? ⟨X, 1, none⟩ = some (.int .i64 y) ∧ W1.cell? ⟨X, 2, none⟩ = some (.slice a L cap)) := fun W1 k => start_fixed hl0 x0 x1 x2 k
  have HN : Hid (X ≤ W0.heap.size) := Nat.le_of_lt hl0
  clear B0 hO
  unfold cw
  go_enter Try.func5, Try.ntmps5
  go_wp2_with fail
  refine C1.mono ?_; rintro e W1 ⟨rfl, k1⟩
  obtain ⟨hl1, y0, y1, y2⟩ := HF.out W1 k1
  have C2 := begin_any x y (.slice a L cap) W1
  have HB1 : Hid (Below X W W1) := bthen HB0.out HN.out k1
  unfold cw tp at C2
  have HL1 : Hid _ := And.intro hl1 y2
  clear C1 k1
  go_wp2_with fail
  refine C2.mono ?_; rintro e W2 ⟨T, A, b, a', S, hb, RT, t0, s0, rfl, tt, bw, st, _⟩
  have H0 : Hid (Ws (fun g => g < W1.heap.size) W W2 X (.slice a L cap) none T S hb 3 t0 s0) := ws_of tt bw (Or.inr ⟨HL1.out.1, rfl⟩) (fun k e => by cases e) HB1.out HL1.out.2
  generalize (fun g => g < W1.heap.size) = P1 at *
  have HS0 : Hid (pres t0.p = []) := st.pr
  clear C2 tt bw st y0 y1 y2 x0 x1 x2 hl1
  go_wp2_with fail
  go_loopw [6] (fun iw wr => ∃ k : Nat, iw = .int .i64 (k : Nat) ∧ k ≤ L ∧ k ≤ 300 ∧ Hid (∃ t s, Ws P1 W wr X (.slice a L cap) none T S hb (3 + 7 * k) t s)) (fun iw _ => 300 - (intOf iw).toNat)
  case atStart => exact ⟨0, rfl, by omega, by omega, t0, s0, H0.out⟩
  case round =>
    obtain ⟨k, rfl, hk, hk3, HR0⟩ := hrel
    obtain ⟨t, s, HR⟩ := HR0.out
    clear H0 HR0
    have xc := HR.xc
    by_cases hlt : k < L
    · by_cases hlt3 : k < 300
      · have hlt' : (k : Int) < (L : Int) := by omega
        have hlt3' : (k : Int) < 300 := by omega
        have hk0 : ¬ ((k : Int) < 0) := by omega
        obtain ⟨lb, off, rfl, hlb, i0, i1, i2, i3, i4, i5, i6⟩ := (HO.out wr HR.bel).at hlt
        have hr := ((HO.out wr HR.bel).1 k hlt)
        have hwi : IntKind.i64.wrap ((k : Int) + 1) = (k : Int) + 1 := by rw [IntKind.wrap_i64]; omega
        have CS := (HR.below (bdrew1 wr)).set (by omega) (Q k).2.1 (Q k).2.2 hr
        unfold vv vl tp at CS
        generalize Q k = q at *
        clear HR
        go_wp2_with fail
        refine wp_tail 13 (by kernel_rfl) (by kernel_rfl) ?_
        simp only [List.take_succ_cons, List.take_zero, List.drop_succ_cons, List.drop_zero]
        repeat still_step
        refine wpStill_nil ?_
        go_wp2_with fail
        refine CS.mono ?_; rintro e W4 ⟨rfl, b4, _⟩
        have H4 : Hid _ := b4
        clear CS b4
        go_wp2_with fail
        go_round
        case rel => exact ⟨k + 1, by go_num, by omega, by omega, _, _, H4.out⟩
        case measure => simp [intOf]; omega
      · have hlt3' : ¬ ((k : Int) < 300) := by omega
        have hlt' : (k : Int) < (L : Int) := by omega
        clear hlt3 hlt
        have CL := HR.list
        unfold tp at CL
        have HR1 : Hid (Ws P1 W wr X (.slice a L cap) none T S hb (3 + 7 * k) t s) := HR
        have HX0 : Hid (X < wr.heap.size) := HR.sz
        have hti := HR.ti
        have hll : (wl t.p).length ≤ 131072 := by
          have := lsF_len t.p (t.p.n + t.p.z) 1
          have := hti.le
          have := hti.rt.le
          unfold wl; omega
        have HTi : Hid (TI t.p) := hti
        clear HR hti
        go_wp2_with fail
        refine CL.mono ?_; rintro e W5 ⟨v5, rfl, row5, k5⟩
        have fz5 := row_fz row5
        obtain ⟨ad, cp, rfl, hrow⟩ := pr_of row5
        have h5 := HR1.out.news k5
        have CM := h5.list
        unfold tp at CM
        have HR5 : Hid _ := h5
        have HK5 : Hid (Below wr.heap.size wr W5) := k5
        clear CL row5 k5 HR1 h5
        go_wp2_with fail
        refine CM.mono ?_; rintro e W6 ⟨v6, rfl, row6, k6⟩
        obtain ⟨ad2, cp2, rfl, hrow2⟩ := pr_of row6
        have h6 := HR5.out.news k6
        have bz := b1 W6 (vb 0 0 ⟨#[]⟩)
        have h7 := h6.news bz
        have r7 : R3 (W6.alloc (vb 0 0 ⟨#[]⟩)) W6.heap.size nil := R3.made W6 nil
        have s7 : (W6.alloc (vb 0 0 ⟨#[]⟩)).heap.size = W6.heap.size + 1 := by simp
        obtain ⟨W7, hW7⟩ : ∃ W7, W6.alloc (vb 0 0 ⟨#[]⟩) = W7 := ⟨_, rfl⟩
        rw [hW7] at bz h7 r7 s7
        unfold vb at hW7
        obtain ⟨l, hl⟩ : ∃ l, wl t.p = l := ⟨_, rfl⟩
        rw [hl] at hrow hrow2 hll ⊢
        have HL0 : Hid (l = lsF t.p (t.p.n + t.p.z - 0) (0 + 1)) := hl.symm
        have hXw : X < W6.heap.size := h6.sz
        obtain ⟨P4, hP4⟩ : ∃ P4, (fun g => ((P1 g ∨ (wr.heap.size ≤ g ∧ g < W5.heap.size)) ∨ (W5.heap.size ≤ g ∧ g < W6.heap.size)) ∨ (W6.heap.size ≤ g ∧ g < W7.heap.size)) = P4 := ⟨_, rfl⟩
        have h7' : Ws P4 W W7 X (.slice a L cap) none T S hb (3 + 7 * k) t s := by rw [← hP4]; exact h7
        have HP4 : Hid (∀ g, wr.heap.size ≤ g → g < W7.heap.size → P4 g) := fun g q1 q2 => by
          have s5 := HK5.out.size
          have s6 := k6.size
          have s8 := bz.size
          rw [← hP4]
          rcases Nat.lt_or_ge g W5.heap.size with q | q
          · exact .inl (.inl (.inr ⟨q1, q⟩))
          · rcases Nat.lt_or_ge g W6.heap.size with q' | q'
            · exact .inl (.inr ⟨q, q'⟩)
            · exact .inr ⟨q', q2⟩
        have HLo : Hid (∀ g, g ≤ X → P4 g) := h7'.lo
        have HSz : Hid (wr.heap.size ≤ W5.heap.size ∧ W5.heap.size ≤ W6.heap.size ∧ W7.heap.size = W6.heap.size + 1 ∧ X < wr.heap.size) := ⟨HK5.out.size, k6.size, s7, HX0.out⟩
        have H7 : Hid (Ws P4 W W7 X (.slice a L cap) none T S hb (3 + 7 * k) t s ∧ R3 W7 W6.heap.size nil) := ⟨h7', r7⟩
        have HK67 : Hid (Below W6.heap.size W6 W7) := bz
        have HK56 : Hid (Below W5.heap.size W5 W6) := k6
        have HWz : Hid (W6.alloc (.cells #[.int .i64 0, .int .i64 0, .string ⟨#[]⟩] 33) = W7) := hW7
        clear hW7 hP4 h7 h7' r7 s7 bz h6 k6 row6 CM HR5 HK5
        by_cases hl0 : l = []
        · subst hl0
          have hpn : pnx t.p 0 = (nil, nil) := left_nil HL0.out
          clear hrow hrow2 fz5
          go_wp2_with fail
          rw [HWz.out]
          clear HWz
          go_loopw [10] (fun iw wr' => iw = .int .i64 0 ∧ wr' = W7) (fun _ _ => 0)
          case atStart => exact ⟨rfl, rfl⟩
          case round =>
            obtain ⟨rfl, rfl⟩ := hrel
            have hwz := H7.out.1
            have hkr := H7.out.2
            have etp : t.p = t.p := rfl
            have hkp : Kpos t.p 0 nil := .inl ⟨rfl, rfl⟩
            have CN := hwz.next (by omega) nil hkp.rng
            rw [show wnx t.p nil = (nil, nil, 0) by rw [hkp.next, hpn]] at CN
            unfold tp vv vl nil at CN
            have kz0 := hkr.bx.c0
            have kz1 := hkr.bx.c1
            have kz2 := hkr.bx.c2
            have q5 : ∀ W', (binOp .eql 33 (vl 0 0 ⟨#[]⟩) (vl 0 0 ⟨#[]⟩)).run Try.prog W' = .ok (.bool true) W' := fun W' => by rw [eql32]; simp
            unfold vl at q5
            clear hwz hkr hkp
            go_wp2_with fail
            refine CN.mono ?_; rintro e Wz ⟨rfl, hz, _⟩
            have kz := b2 Wz (.cells #[.int .i64 0, .int .i64 0, .string ⟨#[]⟩] 33) (.cells #[.int .i64 0, .int .i64 0, .string ⟨#[]⟩] 33)
            have HBz : Hid _ := (hz.below kz).bel
            clear CN hz kz
            go_wp2_with fail
            go_ret
            first | exact ⟨rfl, HBz.out⟩ | exact ⟨rfl, by rw [HX.out]; exact HBz.out⟩
        · obtain ⟨x0, hx0⟩ := List.exists_mem_of_ne_nil l hl0
          obtain ⟨g1, rfl, hg1, hg1', hc1⟩ := hrow x0 hx0
          obtain ⟨g2, rfl, hg2, hg2', hc2⟩ := hrow2 x0 hx0
          have HLi : Hid (Li W7 l 0 g1 g2 W6.heap.size nil) := by
            have k57 : Below W5.heap.size W5 W7 := bthen HK56.out HK56.out.size HK67.out
            have s5 := k57.size
            refine ⟨fun j x _ hx => (show C6 W5 g1 (j * 6) x from hc1 j x hx).kept (Ks := fun _ => True) (Keep.of k57) trivial, fun j x hx => (show C6 W6 g2 (j * 6) x from hc2 j x hx).kept (Ks := fun _ => True) (Keep.of HK67.out) trivial, fun j => ?_, by omega, H7.out.2⟩
            rw [World.frozen?_of_block (w := W5) (k57.block g1 hg1')]
            exact fz5 g1 (by simp [Value.ownBlock]) j
          have HG : Hid ((P4 g1 ∧ P4 g2 ∧ P4 W6.heap.size) ∧ (g1 ≠ g2 ∧ g1 ≠ W6.heap.size ∧ g2 ≠ W6.heap.size) ∧ X < g1 ∧ X < W6.heap.size) := by
            obtain ⟨z1, z2, z3, z4⟩ := HSz.out
            exact ⟨⟨HP4.out _ hg1 (by omega), HP4.out _ (by omega) (by omega), HP4.out _ (by omega) (by omega)⟩, ⟨by omega, by omega, by omega⟩, by omega, by omega⟩
          clear hrow hrow2 hg1 hg1' hc1 hg2 hg2' hc2 fz5 hx0 hl0 HK56 HK67
          go_wp2_with fail
          rw [HWz.out]
          clear HWz
          generalize hkbe : W6.heap.size = kb at *
          go_loopw [10] (fun iw wr' => ∃ i : Nat, iw = .int .i64 (i : Nat) ∧ i ≤ l.length ∧ Hid (∃ (pos : Nat) (kk : V) (t' : TS), t'.p = t.p ∧ Ws P4 W wr' X (.slice a L cap) none T S hb (3 + 7 * k + 2 * i) t' s ∧ pos ≤ t.p.n + t.p.z ∧ l.drop i = lsF t.p (t.p.n + t.p.z - pos) (pos + 1) ∧ Kpos t.p pos kk ∧ Li wr' l i g1 g2 kb kk)) (fun iw _ => l.length - (intOf iw).toNat)
          case atStart => exact ⟨0, rfl, by omega, 0, nil, t, rfl, H7.out.1, by omega, HL0.out, .inl ⟨rfl, rfl⟩, HLi.out⟩
          case round =>
            obtain ⟨i, rfl, hi, HR2⟩ := hrel
            obtain ⟨pos, kk, t', etp, hwz, hpos, hdr, hkp, hli⟩ := HR2.out
            clear HR2 H7 HLi
            by_cases hil : i < l.length
            · have hil' : (i : Int) < (l.length : Int) := by omega
              have hi0 : ¬ ((i : Int) < 0) := by omega
              have hwi : IntKind.i64.wrap ((i : Int) + 1) = (i : Int) + 1 := by rw [IntKind.wrap_i64]; omega
              obtain ⟨x, hx⟩ : ∃ x, l[i]? = some x := ⟨l[i], List.getElem?_eq_getElem hil⟩
              have hdc : l.drop i = x :: l.drop (i + 1) := by
                rw [List.drop_eq_getElem_cons hil]
                have := List.getElem?_eq_some_iff.1 hx
                rw [this.2]
              rw [hdc] at hdr
              obtain ⟨hpx, j, hj, hkj, hdj, hgx⟩ := left_cons HTi.out hpos hdr
              have HJ : Hid (j ≤ t.p.n + t.p.z ∧ Kpos t.p j x.1 ∧ l.drop (i + 1) = lsF t.p (t.p.n + t.p.z - j) (j + 1)) := ⟨hj, hkj, hdj⟩
              have CN := hwz.next (by omega) kk hkp.rng
              rw [show wnx t'.p kk = (x.1, x.2, 0) by rw [etp, hkp.next, hpx]] at CN
              unfold tp vv vl at CN
              have kz0 := hli.kx.bx.c0
              have kz1 := hli.kx.bx.c1
              have kz2 := hli.kx.bx.c2
              have HLi : Hid (Li wr l i g1 g2 kb kk) := hli
              have HGx : Hid (pget t.p x.1 = x.2 ∧ Rng x.1) := ⟨hgx, hkj.rng⟩
              clear hwz hli hdr hdc hkp hkj hdj hpx hgx hj
              go_wp2_with fail
              refine CN.mono ?_; rintro e Wa ⟨rfl, ha, ka⟩
              have bb := b2 Wa (vb x.1.1 x.1.2.1 x.1.2.2) (vb x.2.1 x.2.2.1 x.2.2.2)
              have hb5 := ha.news bb
              have hbx := Box2.made Wa x
              have hlb := (HLi.out.kept ka HG.out.1.1 HG.out.1.2.1 HG.out.1.2.2).kept (Ks := P4) (Keep.of bb) HG.out.1.1 HG.out.1.2.1 HG.out.1.2.2
              have sb : ((Wa.alloc (vb x.1.1 x.1.2.1 x.1.2.2)).alloc (vb x.2.1 x.2.2.1 x.2.2.2)).heap.size = Wa.heap.size + 2 := by simp
              obtain ⟨Wb, hWb⟩ : ∃ Wb, (Wa.alloc (vb x.1.1 x.1.2.1 x.1.2.2)).alloc (vb x.2.1 x.2.2.1 x.2.2.2) = Wb := ⟨_, rfl⟩
              have hbx' : Box2 Wb Wa.heap.size x := by rw [← hWb]; exact hbx
              rw [hWb] at hb5 hlb sb
              obtain ⟨P5, hP5⟩ : ∃ P5, (fun g => P4 g ∨ (Wa.heap.size ≤ g ∧ g < Wb.heap.size)) = P5 := ⟨_, rfl⟩
              rw [hP5] at hb5
              have HP5 : Hid ((∀ g, P4 g → P5 g) ∧ P5 Wa.heap.size ∧ P5 (Wa.heap.size + 1)) := by
                rw [← hP5]; exact ⟨fun g q => .inl q, .inr ⟨by omega, by omega⟩, .inr ⟨by omega, by omega⟩⟩
              have CG := (hb5.below (bdrew1 Wb)).get (by omega) x.1 HGx.out.2
              rw [show pget ({ t' with pr := t'.pr + ((if fm kk = true ∧ kk.1 ≠ 0 then prd t'.p kk else 0 : Nat) : Int) } : TS).p x.1 = x.2 by show pget t'.p x.1 = x.2; rw [etp]; exact HGx.out.1] at CG
              unfold tp vv vl at CG
              have HSS : Hid (∀ W', Keep P5 Wb W' → Li W' l i g1 g2 kb kk ∧ Box2 W' Wa.heap.size x) := fun W' q => ⟨hlb.kept q (HP5.out.1 _ HG.out.1.1) (HP5.out.1 _ HG.out.1.2.1) (HP5.out.1 _ HG.out.1.2.2), hbx'.kept q HP5.out.2.1 HP5.out.2.2⟩
              have HK0 : Hid (Keep P5 Wb Wb.drew) := Keep.of (bdrew1 Wb)
              have HS6 : Hid (∀ W', Keep P5 Wb W' → W'.cell? ⟨Wa.heap.size, 0, none⟩ = some (.int .i64 x.1.1) ∧ W'.cell? ⟨Wa.heap.size, 1, none⟩ = some (.int .i64 x.1.2.1) ∧ W'.cell? ⟨Wa.heap.size, 2, none⟩ = some (.string x.1.2.2) ∧ W'.cell? ⟨Wa.heap.size + 1, 0, none⟩ = some (.int .i64 x.2.1) ∧ W'.cell? ⟨Wa.heap.size + 1, 1, none⟩ = some (.int .i64 x.2.2.1) ∧ W'.cell? ⟨Wa.heap.size + 1, 2, none⟩ = some (.string x.2.2.2) ∧
                  W'.cell? ⟨g1, i * 6, none⟩ = some (.int .i64 x.1.1) ∧ W'.cell? ⟨g1, i * 6 + 1, none⟩ = some (.int .i64 x.1.2.1) ∧ W'.cell? ⟨g1, i * 6 + 2, none⟩ = some (.string x.1.2.2) ∧ W'.cell? ⟨g1, i * 6 + 3, none⟩ = some (.int .i64 x.2.1) ∧ W'.cell? ⟨g1, i * 6 + 4, none⟩ = some (.int .i64 x.2.2.1) ∧ W'.cell? ⟨g1, i * 6 + 5, none⟩ = some (.string x.2.2.2) ∧
                  W'.cell? ⟨g2, i * 6, none⟩ = some (.int .i64 x.1.1) ∧ W'.cell? ⟨g2, i * 6 + 1, none⟩ = some (.int .i64 x.1.2.1) ∧ W'.cell? ⟨g2, i * 6 + 2, none⟩ = some (.string x.1.2.2) ∧ W'.cell? ⟨g2, i * 6 + 3, none⟩ = some (.int .i64 x.2.1) ∧ W'.cell? ⟨g2, i * 6 + 4, none⟩ = some (.int .i64 x.2.2.1) ∧ W'.cell? ⟨g2, i * 6 + 5, none⟩ = some (.string x.2.2.2)) := fun W' q => by
                obtain ⟨hl', hb'⟩ := HSS.out W' q
                obtain ⟨u0, u1, u2, u3, u4, u5⟩ := hl'.r1 i x (Nat.le_refl _) hx
                obtain ⟨w0, w1, w2, w3, w4, w5⟩ := hl'.r2 i x hx
                exact ⟨hb'.k0, hb'.k1, hb'.k2, hb'.v0, hb'.v1, hb'.v2, u0, u1, u2, u3, u4, u5, w0, w1, w2, w3, w4, w5⟩
              have q1 : ∀ W', (binOp .neq 33 (vl x.1.1 x.1.2.1 x.1.2.2) (vl x.1.1 x.1.2.1 x.1.2.2)).run Try.prog W' = .ok (.bool false) W' := fun W' => by rw [neq32]; simp
              have q2 : ∀ W', (binOp .neq 33 (vl x.2.1 x.2.2.1 x.2.2.2) (vl x.2.1 x.2.2.1 x.2.2.2)).run Try.prog W' = .ok (.bool false) W' := fun W' => by rw [neq32]; simp
              unfold vl at q1 q2
              have q3 := neq45 x
              have q4 : ((l.length : Int) != (l.length : Int)) = false := by simp
              have HWb : Hid ((Wa.alloc (.cells #[.int .i64 x.1.1, .int .i64 x.1.2.1, .string x.1.2.2] 33)).alloc (.cells #[.int .i64 x.2.1, .int .i64 x.2.2.1, .string x.2.2.2] 33) = Wb) := hWb
              have HNw : Hid (∀ wx t2, t2.p = t.p → Ws P5 W wx X (.slice a L cap) none T S hb (3 + 7 * k + 2 * i + 1 + 1) t2 s → Keep P5 Wb wx → Hid (∃ t2 : TS, t2.p = t.p ∧ Ws P5 W wx X (.slice a L cap) none T S hb (3 + 7 * k + 2 * i + 1 + 1) t2 s ∧ Keep P5 Wb wx)) := fun wx t2 e1 e2 e3 => ⟨t2, e1, e2, e3⟩
              have HHx : Hid (l[i]? = some x) := hx
              clear CN ha ka bb hb5 hbx hbx' hlb sb hWb hP5 HLi HGx hx kz0 kz1 kz2
              go_upto_region 17 with fail
              rw [HWb.out]
              clear HWb
              generalize Wa.heap.size = B11 at *
              go_cut [114] from 70 to 114 (fun z wx => z = .bool false ∧ Hid (∃ t2 : TS, t2.p = t.p ∧ Ws P5 W wx X (.slice a L cap) none T S hb (3 + 7 * k + 2 * i + 1 + 1) t2 s ∧ Keep P5 Wb wx))
              case first =>
                go_region_held3 (fun W' => W'.cell? ⟨B11, 0, none⟩ = some (.int .i64 x.1.1) ∧ W'.cell? ⟨B11, 1, none⟩ = some (.int .i64 x.1.2.1) ∧ W'.cell? ⟨B11, 2, none⟩ = some (.string x.1.2.2) ∧ W'.cell? ⟨B11 + 1, 0, none⟩ = some (.int .i64 x.2.1) ∧ W'.cell? ⟨B11 + 1, 1, none⟩ = some (.int .i64 x.2.2.1) ∧ W'.cell? ⟨B11 + 1, 2, none⟩ = some (.string x.2.2.2) ∧
                  W'.cell? ⟨g1, i * 6, none⟩ = some (.int .i64 x.1.1) ∧ W'.cell? ⟨g1, i * 6 + 1, none⟩ = some (.int .i64 x.1.2.1) ∧ W'.cell? ⟨g1, i * 6 + 2, none⟩ = some (.string x.1.2.2) ∧ W'.cell? ⟨g1, i * 6 + 3, none⟩ = some (.int .i64 x.2.1) ∧ W'.cell? ⟨g1, i * 6 + 4, none⟩ = some (.int .i64 x.2.2.1) ∧ W'.cell? ⟨g1, i * 6 + 5, none⟩ = some (.string x.2.2.2) ∧
                  W'.cell? ⟨g2, i * 6, none⟩ = some (.int .i64 x.1.1) ∧ W'.cell? ⟨g2, i * 6 + 1, none⟩ = some (.int .i64 x.1.2.1) ∧ W'.cell? ⟨g2, i * 6 + 2, none⟩ = some (.string x.1.2.2) ∧ W'.cell? ⟨g2, i * 6 + 3, none⟩ = some (.int .i64 x.2.1) ∧ W'.cell? ⟨g2, i * 6 + 4, none⟩ = some (.int .i64 x.2.2.1) ∧ W'.cell? ⟨g2, i * 6 + 5, none⟩ = some (.string x.2.2.2)) (exact HS6.out _ (by first | exact HK1.out | exact HK0.out))
                  ((go_at_call 13; refine CG.mono ?_; rintro e Wc ⟨rfl, hc, kc⟩; have HK1 : Hid (Keep P5 Wb Wc) := HK0.out.trans kc; have HNc : Hid _ := HNw.out Wc _ (by exact etp) hc HK1.out; clear hc kc))
                all_goals
                  go_wp2_with fail
                  go_meet
                  exact ⟨rfl, HNc.out⟩
              case rest =>
                obtain ⟨rfl, HX5⟩ := hcut
                obtain ⟨t2, et2, hc5, kc5⟩ := HX5.out
                obtain ⟨hlc, hbc⟩ := HSS.out _ kc5
                have HC5 : Hid (Ws P5 W wc X (.slice a L cap) none T S hb (3 + 7 * k + 2 * i + 1 + 1) t2 s) := hc5
                have HLc : Hid (Li wc l i g1 g2 kb kk) := hlc
                have kz0 := hlc.kx.bx.c0
                have kz1 := hlc.kx.bx.c1
                have kz2 := hlc.kx.bx.c2
                have kf0 := hlc.kx.fz 0
                have kf1 := hlc.kx.fz 1
                have kf2 := hlc.kx.fz 2
                have m0 := hbc.k0
                have m1 := hbc.k1
                have m2 := hbc.k2
                have s5 := hc5.set3 (HP5.out.1 _ HG.out.1.2.2) HG.out.2.2.2 x.1
                obtain ⟨Wd, hWd⟩ : ∃ Wd, set3 wc kb x.1 = Wd := ⟨_, rfl⟩
                rw [hWd] at s5
                have HSd : Hid (Ws P5 W Wd X (.slice a L cap) none T S hb (3 + 7 * k + 2 * i + 1 + 1) t2 s) := s5
                have HWd : Hid (set3 wc kb x.1 = Wd) := hWd
                have CS := mkS ⟨#[33]⟩ Wd
                unfold set3 at hWd
                clear HX5 hc5 kc5 hlc hbc HSS HS6 HNw HK0 CG q1 q2 q3 s5 HC5
                go_wp2_with fail
                refine CS.mono ?_; rintro e We ⟨rfl, be⟩
                have hn := HLc.out.step HG.out.2.1.1 HG.out.2.1.2.1 HG.out.2.1.2.2 (y := x.1) (W1 := We) (by rw [HWd.out]; exact be) ((3, 0, ⟨#[33]⟩), nil)
                have hs6 := ((HSd.out.below be).set6 (HP5.out.1 _ HG.out.1.1) HG.out.2.2.1 (i * 6) ((3, 0, ⟨#[33]⟩), nil))
                have kd : Keep (fun g => g ≠ kb) wc Wd := by rw [← HWd.out]; exact (Keep.refl _ wc).set3 (fun q => q rfl) x.1
                obtain ⟨v0, v1, v2, v3, v4, v5⟩ := ((HLc.out.r1 i x (Nat.le_refl _) HHx.out).kept kd (fun e => HG.out.2.1.2.1 e)).kept (Ks := fun _ => True) (Keep.of be) trivial
                have fz6 : ∀ j, We.frozen? ⟨g1, j, none⟩ = false := fun j => by
                  have := hn.fz j
                  unfold set6 at this
                  simpa only [World.frozen?_setCell] using this
                have y0 := fz6 (i * 6)
                have y1 := fz6 (i * 6 + 1)
                have y2 := fz6 (i * 6 + 2)
                have y3 := fz6 (i * 6 + 3)
                have y4 := fz6 (i * 6 + 4)
                have y5 := fz6 (i * 6 + 5)
                obtain ⟨Wg, hWg⟩ : ∃ Wg, set6 We g1 (i * 6) ((3, 0, ⟨#[33]⟩), nil) = Wg := ⟨_, rfl⟩
                rw [hWg] at hn hs6
                unfold set6 nil at hWg
                have HWg : Hid _ := hWg
                have HEnd : Hid (∃ (pos : Nat) (kk : V) (t' : TS), t'.p = t.p ∧ Ws P4 W Wg X (.slice a L cap) none T S hb (3 + 7 * k + 2 * (i + 1)) t' s ∧ pos ≤ t.p.n + t.p.z ∧ l.drop (i + 1) = lsF t.p (t.p.n + t.p.z - pos) (pos + 1) ∧ Kpos t.p pos kk ∧ Li Wg l (i + 1) g1 g2 kb kk) := ⟨j, x.1, t2, et2, (hs6.sub0 HP5.out.1 HLo.out).more (by omega), HJ.out.1, HJ.out.2.2, HJ.out.2.1, hn⟩
                clear hn hs6 fz6 hWg hWd be CS kd
                unfold vl
                go_wp2_with fail
                go_round
                case rel => exact ⟨i + 1, by go_num, by omega, by first | (rw [← HWg.out] at HEnd; exact HEnd.out) | (rw [HWg.out]; exact HEnd.out) | exact HEnd.out⟩
                case measure => simp [intOf]; omega
            · have hil' : ¬ ((i : Int) < (l.length : Int)) := by omega
              have hpn : pnx t.p pos = (nil, nil) := left_nil (by rw [← hdr, List.drop_eq_nil_iff.2 (by omega)])
              have hkr := hli.kx
              clear hli hdr
              have CN := hwz.next (by omega) kk hkp.rng
              rw [show wnx t'.p kk = (nil, nil, 0) by rw [etp, hkp.next, hpn]] at CN
              unfold tp vv vl nil at CN
              have kz0 := hkr.bx.c0
              have kz1 := hkr.bx.c1
              have kz2 := hkr.bx.c2
              have q5 : ∀ W', (binOp .eql 33 (vl 0 0 ⟨#[]⟩) (vl 0 0 ⟨#[]⟩)).run Try.prog W' = .ok (.bool true) W' := fun W' => by rw [eql32]; simp
              unfold vl at q5
              clear hwz hkr hkp
              go_wp2_with fail
              refine CN.mono ?_; rintro e Wz ⟨rfl, hz, _⟩
              have kz := b2 Wz (.cells #[.int .i64 0, .int .i64 0, .string ⟨#[]⟩] 33) (.cells #[.int .i64 0, .int .i64 0, .string ⟨#[]⟩] 33)
              have HBz : Hid _ := (hz.below kz).bel
              clear CN hz kz
              go_wp2_with fail
              go_ret
              first | exact ⟨rfl, HBz.out⟩ | exact ⟨rfl, by rw [HX.out]; exact HBz.out⟩
    · have hlt' : ¬ ((k : Int) < (L : Int)) := by omega
      clear hlt
      have CL := HR.list
      unfold tp at CL
      have HR1 : Hid (Ws P1 W wr X (.slice a L cap) none T S hb (3 + 7 * k) t s) := HR
      have HX0 : Hid (X < wr.heap.size) := HR.sz
      have hti := HR.ti
      have hll : (wl t.p).length ≤ 131072 := by
        have := lsF_len t.p (t.p.n + t.p.z) 1
        have := hti.le
        have := hti.rt.le
        unfold wl; omega
      have HTi : Hid (TI t.p) := hti
      clear HR hti
      go_wp2_with fail
      refine CL.mono ?_; rintro e W5 ⟨v5, rfl, row5, k5⟩
      have fz5 := row_fz row5
      obtain ⟨ad, cp, rfl, hrow⟩ := pr_of row5
      have h5 := HR1.out.news k5
      have CM := h5.list
      unfold tp at CM
      have HR5 : Hid _ := h5
      have HK5 : Hid (Below wr.heap.size wr W5) := k5
      clear CL row5 k5 HR1 h5
      go_wp2_with fail
      refine CM.mono ?_; rintro e W6 ⟨v6, rfl, row6, k6⟩
      obtain ⟨ad2, cp2, rfl, hrow2⟩ := pr_of row6
      have h6 := HR5.out.news k6
      have bz := b1 W6 (vb 0 0 ⟨#[]⟩)
      have h7 := h6.news bz
      have r7 : R3 (W6.alloc (vb 0 0 ⟨#[]⟩)) W6.heap.size nil := R3.made W6 nil
      have s7 : (W6.alloc (vb 0 0 ⟨#[]⟩)).heap.size = W6.heap.size + 1 := by simp
      obtain ⟨W7, hW7⟩ : ∃ W7, W6.alloc (vb 0 0 ⟨#[]⟩) = W7 := ⟨_, rfl⟩
      rw [hW7] at bz h7 r7 s7
      unfold vb at hW7
      obtain ⟨l, hl⟩ : ∃ l, wl t.p = l := ⟨_, rfl⟩
      rw [hl] at hrow hrow2 hll ⊢
      have HL0 : Hid (l = lsF t.p (t.p.n + t.p.z - 0) (0 + 1)) := hl.symm
      have hXw : X < W6.heap.size := h6.sz
      obtain ⟨P4, hP4⟩ : ∃ P4, (fun g => ((P1 g ∨ (wr.heap.size ≤ g ∧ g < W5.heap.size)) ∨ (W5.heap.size ≤ g ∧ g < W6.heap.size)) ∨ (W6.heap.size ≤ g ∧ g < W7.heap.size)) = P4 := ⟨_, rfl⟩
      have h7' : Ws P4 W W7 X (.slice a L cap) none T S hb (3 + 7 * k) t s := by rw [← hP4]; exact h7
      have HP4 : Hid (∀ g, wr.heap.size ≤ g → g < W7.heap.size → P4 g) := fun g q1 q2 => by
        have s5 := HK5.out.size
        have s6 := k6.size
        have s8 := bz.size
        rw [← hP4]
        rcases Nat.lt_or_ge g W5.heap.size with q | q
        · exact .inl (.inl (.inr ⟨q1, q⟩))
        · rcases Nat.lt_or_ge g W6.heap.size with q' | q'
          · exact .inl (.inr ⟨q, q'⟩)
          · exact .inr ⟨q', q2⟩
      have HLo : Hid (∀ g, g ≤ X → P4 g) := h7'.lo
      have HSz : Hid (wr.heap.size ≤ W5.heap.size ∧ W5.heap.size ≤ W6.heap.size ∧ W7.heap.size = W6.heap.size + 1 ∧ X < wr.heap.size) := ⟨HK5.out.size, k6.size, s7, HX0.out⟩
      have H7 : Hid (Ws P4 W W7 X (.slice a L cap) none T S hb (3 + 7 * k) t s ∧ R3 W7 W6.heap.size nil) := ⟨h7', r7⟩
      have HK67 : Hid (Below W6.heap.size W6 W7) := bz
      have HK56 : Hid (Below W5.heap.size W5 W6) := k6
      have HWz : Hid (W6.alloc (.cells #[.int .i64 0, .int .i64 0, .string ⟨#[]⟩] 33) = W7) := hW7
      clear hW7 hP4 h7 h7' r7 s7 bz h6 k6 row6 CM HR5 HK5
      by_cases hl0 : l = []
      · subst hl0
        have hpn : pnx t.p 0 = (nil, nil) := left_nil HL0.out
        clear hrow hrow2 fz5
        go_wp2_with fail
        rw [HWz.out]
        clear HWz
        go_loopw [10] (fun iw wr' => iw = .int .i64 0 ∧ wr' = W7) (fun _ _ => 0)
        case atStart => exact ⟨rfl, rfl⟩
        case round =>
          obtain ⟨rfl, rfl⟩ := hrel
          have hwz := H7.out.1
          have hkr := H7.out.2
          have etp : t.p = t.p := rfl
          have hkp : Kpos t.p 0 nil := .inl ⟨rfl, rfl⟩
          have CN := hwz.next (by omega) nil hkp.rng
          rw [show wnx t.p nil = (nil, nil, 0) by rw [hkp.next, hpn]] at CN
          unfold tp vv vl nil at CN
          have kz0 := hkr.bx.c0
          have kz1 := hkr.bx.c1
          have kz2 := hkr.bx.c2
          have q5 : ∀ W', (binOp .eql 33 (vl 0 0 ⟨#[]⟩) (vl 0 0 ⟨#[]⟩)).run Try.prog W' = .ok (.bool true) W' := fun W' => by rw [eql32]; simp
          unfold vl at q5
          clear hwz hkr hkp
          go_wp2_with fail
          refine CN.mono ?_; rintro e Wz ⟨rfl, hz, _⟩
          have kz := b2 Wz (.cells #[.int .i64 0, .int .i64 0, .string ⟨#[]⟩] 33) (.cells #[.int .i64 0, .int .i64 0, .string ⟨#[]⟩] 33)
          have HBz : Hid _ := (hz.below kz).bel
          clear CN hz kz
          go_wp2_with fail
          go_ret
          first | exact ⟨rfl, HBz.out⟩ | exact ⟨rfl, by rw [HX.out]; exact HBz.out⟩
      · obtain ⟨x0, hx0⟩ := List.exists_mem_of_ne_nil l hl0
        obtain ⟨g1, rfl, hg1, hg1', hc1⟩ := hrow x0 hx0
        obtain ⟨g2, rfl, hg2, hg2', hc2⟩ := hrow2 x0 hx0
        have HLi : Hid (Li W7 l 0 g1 g2 W6.heap.size nil) := by
          have k57 : Below W5.heap.size W5 W7 := bthen HK56.out HK56.out.size HK67.out
          have s5 := k57.size
          refine ⟨fun j x _ hx => (show C6 W5 g1 (j * 6) x from hc1 j x hx).kept (Ks := fun _ => True) (Keep.of k57) trivial, fun j x hx => (show C6 W6 g2 (j * 6) x from hc2 j x hx).kept (Ks := fun _ => True) (Keep.of HK67.out) trivial, fun j => ?_, by omega, H7.out.2⟩
          rw [World.frozen?_of_block (w := W5) (k57.block g1 hg1')]
          exact fz5 g1 (by simp [Value.ownBlock]) j
        have HG : Hid ((P4 g1 ∧ P4 g2 ∧ P4 W6.heap.size) ∧ (g1 ≠ g2 ∧ g1 ≠ W6.heap.size ∧ g2 ≠ W6.heap.size) ∧ X < g1 ∧ X < W6.heap.size) := by
          obtain ⟨z1, z2, z3, z4⟩ := HSz.out
          exact ⟨⟨HP4.out _ hg1 (by omega), HP4.out _ (by omega) (by omega), HP4.out _ (by omega) (by omega)⟩, ⟨by omega, by omega, by omega⟩, by omega, by omega⟩
        clear hrow hrow2 hg1 hg1' hc1 hg2 hg2' hc2 fz5 hx0 hl0 HK56 HK67
        go_wp2_with fail
        rw [HWz.out]
        clear HWz
        generalize hkbe : W6.heap.size = kb at *
        go_loopw [10] (fun iw wr' => ∃ i : Nat, iw = .int .i64 (i : Nat) ∧ i ≤ l.length ∧ Hid (∃ (pos : Nat) (kk : V) (t' : TS), t'.p = t.p ∧ Ws P4 W wr' X (.slice a L cap) none T S hb (3 + 7 * k + 2 * i) t' s ∧ pos ≤ t.p.n + t.p.z ∧ l.drop i = lsF t.p (t.p.n + t.p.z - pos) (pos + 1) ∧ Kpos t.p pos kk ∧ Li wr' l i g1 g2 kb kk)) (fun iw _ => l.length - (intOf iw).toNat)
        case atStart => exact ⟨0, rfl, by omega, 0, nil, t, rfl, H7.out.1, by omega, HL0.out, .inl ⟨rfl, rfl⟩, HLi.out⟩
        case round =>
          obtain ⟨i, rfl, hi, HR2⟩ := hrel
          obtain ⟨pos, kk, t', etp, hwz, hpos, hdr, hkp, hli⟩ := HR2.out
          clear HR2 H7 HLi
          by_cases hil : i < l.length
          · have hil' : (i : Int) < (l.length : Int) := by omega
            have hi0 : ¬ ((i : Int) < 0) := by omega
            have hwi : IntKind.i64.wrap ((i : Int) + 1) = (i : Int) + 1 := by rw [IntKind.wrap_i64]; omega
            obtain ⟨x, hx⟩ : ∃ x, l[i]? = some x := ⟨l[i], List.getElem?_eq_getElem hil⟩
            have hdc : l.drop i = x :: l.drop (i + 1) := by
              rw [List.drop_eq_getElem_cons hil]
              have := List.getElem?_eq_some_iff.1 hx
              rw [this.2]
            rw [hdc] at hdr
            obtain ⟨hpx, j, hj, hkj, hdj, hgx⟩ := left_cons HTi.out hpos hdr
            have HJ : Hid (j ≤ t.p.n + t.p.z ∧ Kpos t.p j x.1 ∧ l.drop (i + 1) = lsF t.p (t.p.n + t.p.z - j) (j + 1)) := ⟨hj, hkj, hdj⟩
            have CN := hwz.next (by omega) kk hkp.rng
            rw [show wnx t'.p kk = (x.1, x.2, 0) by rw [etp, hkp.next, hpx]] at CN
            unfold tp vv vl at CN
            have kz0 := hli.kx.bx.c0
            have kz1 := hli.kx.bx.c1
            have kz2 := hli.kx.bx.c2
            have HLi : Hid (Li wr l i g1 g2 kb kk) := hli
            have HGx : Hid (pget t.p x.1 = x.2 ∧ Rng x.1) := ⟨hgx, hkj.rng⟩
            clear hwz hli hdr hdc hkp hkj hdj hpx hgx hj
            go_wp2_with fail
            refine CN.mono ?_; rintro e Wa ⟨rfl, ha, ka⟩
            have bb := b2 Wa (vb x.1.1 x.1.2.1 x.1.2.2) (vb x.2.1 x.2.2.1 x.2.2.2)
            have hb5 := ha.news bb
            have hbx := Box2.made Wa x
            have hlb := (HLi.out.kept ka HG.out.1.1 HG.out.1.2.1 HG.out.1.2.2).kept (Ks := P4) (Keep.of bb) HG.out.1.1 HG.out.1.2.1 HG.out.1.2.2
            have sb : ((Wa.alloc (vb x.1.1 x.1.2.1 x.1.2.2)).alloc (vb x.2.1 x.2.2.1 x.2.2.2)).heap.size = Wa.heap.size + 2 := by simp
            obtain ⟨Wb, hWb⟩ : ∃ Wb, (Wa.alloc (vb x.1.1 x.1.2.1 x.1.2.2)).alloc (vb x.2.1 x.2.2.1 x.2.2.2) = Wb := ⟨_, rfl⟩
            have hbx' : Box2 Wb Wa.heap.size x := by rw [← hWb]; exact hbx
            rw [hWb] at hb5 hlb sb
            obtain ⟨P5, hP5⟩ : ∃ P5, (fun g => P4 g ∨ (Wa.heap.size ≤ g ∧ g < Wb.heap.size)) = P5 := ⟨_, rfl⟩
            rw [hP5] at hb5
            have HP5 : Hid ((∀ g, P4 g → P5 g) ∧ P5 Wa.heap.size ∧ P5 (Wa.heap.size + 1)) := by
              rw [← hP5]; exact ⟨fun g q => .inl q, .inr ⟨by omega, by omega⟩, .inr ⟨by omega, by omega⟩⟩
            have CG := (hb5.below (bdrew1 Wb)).get (by omega) x.1 HGx.out.2
            rw [show pget ({ t' with pr := t'.pr + ((if fm kk = true ∧ kk.1 ≠ 0 then prd t'.p kk else 0 : Nat) : Int) } : TS).p x.1 = x.2 by show pget t'.p x.1 = x.2; rw [etp]; exact HGx.out.1] at CG
            unfold tp vv vl at CG
            have HSS : Hid (∀ W', Keep P5 Wb W' → Li W' l i g1 g2 kb kk ∧ Box2 W' Wa.heap.size x) := fun W' q => ⟨hlb.kept q (HP5.out.1 _ HG.out.1.1) (HP5.out.1 _ HG.out.1.2.1) (HP5.out.1 _ HG.out.1.2.2), hbx'.kept q HP5.out.2.1 HP5.out.2.2⟩
            have HK0 : Hid (Keep P5 Wb Wb.drew) := Keep.of (bdrew1 Wb)
            have HS6 : Hid (∀ W', Keep P5 Wb W' → W'.cell? ⟨Wa.heap.size, 0, none⟩ = some (.int .i64 x.1.1) ∧ W'.cell? ⟨Wa.heap.size, 1, none⟩ = some (.int .i64 x.1.2.1) ∧ W'.cell? ⟨Wa.heap.size, 2, none⟩ = some (.string x.1.2.2) ∧ W'.cell? ⟨Wa.heap.size + 1, 0, none⟩ = some (.int .i64 x.2.1) ∧ W'.cell? ⟨Wa.heap.size + 1, 1, none⟩ = some (.int .i64 x.2.2.1) ∧ W'.cell? ⟨Wa.heap.size + 1, 2, none⟩ = some (.string x.2.2.2) ∧
                W'.cell? ⟨g1, i * 6, none⟩ = some (.int .i64 x.1.1) ∧ W'.cell? ⟨g1, i * 6 + 1, none⟩ = some (.int .i64 x.1.2.1) ∧ W'.cell? ⟨g1, i * 6 + 2, none⟩ = some (.string x.1.2.2) ∧ W'.cell? ⟨g1, i * 6 + 3, none⟩ = some (.int .i64 x.2.1) ∧ W'.cell? ⟨g1, i * 6 + 4, none⟩ = some (.int .i64 x.2.2.1) ∧ W'.cell? ⟨g1, i * 6 + 5, none⟩ = some (.string x.2.2.2) ∧
                W'.cell? ⟨g2, i * 6, none⟩ = some (.int .i64 x.1.1) ∧ W'.cell? ⟨g2, i * 6 + 1, none⟩ = some (.int .i64 x.1.2.1) ∧ W'.cell? ⟨g2, i * 6 + 2, none⟩ = some (.string x.1.2.2) ∧ W'.cell? ⟨g2, i * 6 + 3, none⟩ = some (.int .i64 x.2.1) ∧ W'.cell? ⟨g2, i * 6 + 4, none⟩ = some (.int .i64 x.2.2.1) ∧ W'.cell? ⟨g2, i * 6 + 5, none⟩ = some (.string x.2.2.2)) := fun W' q => by
              obtain ⟨hl', hb'⟩ := HSS.out W' q
              obtain ⟨u0, u1, u2, u3, u4, u5⟩ := hl'.r1 i x (Nat.le_refl _) hx
              obtain ⟨w0, w1, w2, w3, w4, w5⟩ := hl'.r2 i x hx
              exact ⟨hb'.k0, hb'.k1, hb'.k2, hb'.v0, hb'.v1, hb'.v2, u0, u1, u2, u3, u4, u5, w0, w1, w2, w3, w4, w5⟩
            have q1 : ∀ W', (binOp .neq 33 (vl x.1.1 x.1.2.1 x.1.2.2) (vl x.1.1 x.1.2.1 x.1.2.2)).run Try.prog W' = .ok (.bool false) W' := fun W' => by rw [neq32]; simp
            have q2 : ∀ W', (binOp .neq 33 (vl x.2.1 x.2.2.1 x.2.2.2) (vl x.2.1 x.2.2.1 x.2.2.2)).run Try.prog W' = .ok (.bool false) W' := fun W' => by rw [neq32]; simp
            unfold vl at q1 q2
            have q3 := neq45 x
            have q4 : ((l.length : Int) != (l.length : Int)) = false := by simp
            have HWb : Hid ((Wa.alloc (.cells #[.int .i64 x.1.1, .int .i64 x.1.2.1, .string x.1.2.2] 33)).alloc (.cells #[.int .i64 x.2.1, .int .i64 x.2.2.1, .string x.2.2.2] 33) = Wb) := hWb
            have HNw : Hid (∀ wx t2, t2.p = t.p → Ws P5 W wx X (.slice a L cap) none T S hb (3 + 7 * k + 2 * i + 1 + 1) t2 s → Keep P5 Wb wx → Hid (∃ t2 : TS, t2.p = t.p ∧ Ws P5 W wx X (.slice a L cap) none T S hb (3 + 7 * k + 2 * i + 1 + 1) t2 s ∧ Keep P5 Wb wx)) := fun wx t2 e1 e2 e3 => ⟨t2, e1, e2, e3⟩
            have HHx : Hid (l[i]? = some x) := hx
            clear CN ha ka bb hb5 hbx hbx' hlb sb hWb hP5 HLi HGx hx kz0 kz1 kz2
            go_upto_region 17 with fail
            rw [HWb.out]
            clear HWb
            generalize Wa.heap.size = B11 at *
            go_cut [114] from 70 to 114 (fun z wx => z = .bool false ∧ Hid (∃ t2 : TS, t2.p = t.p ∧ Ws P5 W wx X (.slice a L cap) none T S hb (3 + 7 * k + 2 * i + 1 + 1) t2 s ∧ Keep P5 Wb wx))
            case first =>
              go_region_held3 (fun W' => W'.cell? ⟨B11, 0, none⟩ = some (.int .i64 x.1.1) ∧ W'.cell? ⟨B11, 1, none⟩ = some (.int .i64 x.1.2.1) ∧ W'.cell? ⟨B11, 2, none⟩ = some (.string x.1.2.2) ∧ W'.cell? ⟨B11 + 1, 0, none⟩ = some (.int .i64 x.2.1) ∧ W'.cell? ⟨B11 + 1, 1, none⟩ = some (.int .i64 x.2.2.1) ∧ W'.cell? ⟨B11 + 1, 2, none⟩ = some (.string x.2.2.2) ∧
                W'.cell? ⟨g1, i * 6, none⟩ = some (.int .i64 x.1.1) ∧ W'.cell? ⟨g1, i * 6 + 1, none⟩ = some (.int .i64 x.1.2.1) ∧ W'.cell? ⟨g1, i * 6 + 2, none⟩ = some (.string x.1.2.2) ∧ W'.cell? ⟨g1, i * 6 + 3, none⟩ = some (.int .i64 x.2.1) ∧ W'.cell? ⟨g1, i * 6 + 4, none⟩ = some (.int .i64 x.2.2.1) ∧ W'.cell? ⟨g1, i * 6 + 5, none⟩ = some (.string x.2.2.2) ∧
                W'.cell? ⟨g2, i * 6, none⟩ = some (.int .i64 x.1.1) ∧ W'.cell? ⟨g2, i * 6 + 1, none⟩ = some (.int .i64 x.1.2.1) ∧ W'.cell? ⟨g2, i * 6 + 2, none⟩ = some (.string x.1.2.2) ∧ W'.cell? ⟨g2, i * 6 + 3, none⟩ = some (.int .i64 x.2.1) ∧ W'.cell? ⟨g2, i * 6 + 4, none⟩ = some (.int .i64 x.2.2.1) ∧ W'.cell? ⟨g2, i * 6 + 5, none⟩ = some (.string x.2.2.2)) (exact HS6.out _ (by first | exact HK1.out | exact HK0.out))
                ((go_at_call 13; refine CG.mono ?_; rintro e Wc ⟨rfl, hc, kc⟩; have HK1 : Hid (Keep P5 Wb Wc) := HK0.out.trans kc; have HNc : Hid _ := HNw.out Wc _ (by exact etp) hc HK1.out; clear hc kc))
              all_goals
                go_wp2_with fail
                go_meet
                exact ⟨rfl, HNc.out⟩
            case rest =>
              obtain ⟨rfl, HX5⟩ := hcut
              obtain ⟨t2, et2, hc5, kc5⟩ := HX5.out
              obtain ⟨hlc, hbc⟩ := HSS.out _ kc5
              have HC5 : Hid (Ws P5 W wc X (.slice a L cap) none T S hb (3 + 7 * k + 2 * i + 1 + 1) t2 s) := hc5
              have HLc : Hid (Li wc l i g1 g2 kb kk) := hlc
              have kz0 := hlc.kx.bx.c0
              have kz1 := hlc.kx.bx.c1
              have kz2 := hlc.kx.bx.c2
              have kf0 := hlc.kx.fz 0
              have kf1 := hlc.kx.fz 1
              have kf2 := hlc.kx.fz 2
              have m0 := hbc.k0
              have m1 := hbc.k1
              have m2 := hbc.k2
              have s5 := hc5.set3 (HP5.out.1 _ HG.out.1.2.2) HG.out.2.2.2 x.1
              obtain ⟨Wd, hWd⟩ : ∃ Wd, set3 wc kb x.1 = Wd := ⟨_, rfl⟩
              rw [hWd] at s5
              have HSd : Hid (Ws P5 W Wd X (.slice a L cap) none T S hb (3 + 7 * k + 2 * i + 1 + 1) t2 s) := s5
              have HWd : Hid (set3 wc kb x.1 = Wd) := hWd
              have CS := mkS ⟨#[33]⟩ Wd
              unfold set3 at hWd
              clear HX5 hc5 kc5 hlc hbc HSS HS6 HNw HK0 CG q1 q2 q3 s5 HC5
              go_wp2_with fail
              refine CS.mono ?_; rintro e We ⟨rfl, be⟩
              have hn := HLc.out.step HG.out.2.1.1 HG.out.2.1.2.1 HG.out.2.1.2.2 (y := x.1) (W1 := We) (by rw [HWd.out]; exact be) ((3, 0, ⟨#[33]⟩), nil)
              have hs6 := ((HSd.out.below be).set6 (HP5.out.1 _ HG.out.1.1) HG.out.2.2.1 (i * 6) ((3, 0, ⟨#[33]⟩), nil))
              have kd : Keep (fun g => g ≠ kb) wc Wd := by rw [← HWd.out]; exact (Keep.refl _ wc).set3 (fun q => q rfl) x.1
              obtain ⟨v0, v1, v2, v3, v4, v5⟩ := ((HLc.out.r1 i x (Nat.le_refl _) HHx.out).kept kd (fun e => HG.out.2.1.2.1 e)).kept (Ks := fun _ => True) (Keep.of be) trivial
              have fz6 : ∀ j, We.frozen? ⟨g1, j, none⟩ = false := fun j => by
                have := hn.fz j
                unfold set6 at this
                simpa only [World.frozen?_setCell] using this
              have y0 := fz6 (i * 6)
              have y1 := fz6 (i * 6 + 1)
              have y2 := fz6 (i * 6 + 2)
              have y3 := fz6 (i * 6 + 3)
              have y4 := fz6 (i * 6 + 4)
              have y5 := fz6 (i * 6 + 5)
              obtain ⟨Wg, hWg⟩ : ∃ Wg, set6 We g1 (i * 6) ((3, 0, ⟨#[33]⟩), nil) = Wg := ⟨_, rfl⟩
              rw [hWg] at hn hs6
              unfold set6 nil at hWg
              have HWg : Hid _ := hWg
              have HEnd : Hid (∃ (pos : Nat) (kk : V) (t' : TS), t'.p = t.p ∧ Ws P4 W Wg X (.slice a L cap) none T S hb (3 + 7 * k + 2 * (i + 1)) t' s ∧ pos ≤ t.p.n + t.p.z ∧ l.drop (i + 1) = lsF t.p (t.p.n + t.p.z - pos) (pos + 1) ∧ Kpos t.p pos kk ∧ Li Wg l (i + 1) g1 g2 kb kk) := ⟨j, x.1, t2, et2, (hs6.sub0 HP5.out.1 HLo.out).more (by omega), HJ.out.1, HJ.out.2.2, HJ.out.2.1, hn⟩
              clear hn hs6 fz6 hWg hWd be CS kd
              unfold vl
              go_wp2_with fail
              go_round
              case rel => exact ⟨i + 1, by go_num, by omega, by first | (rw [← HWg.out] at HEnd; exact HEnd.out) | (rw [HWg.out]; exact HEnd.out) | exact HEnd.out⟩
              case measure => simp [intOf]; omega
          · have hil' : ¬ ((i : Int) < (l.length : Int)) := by omega
            have hpn : pnx t.p pos = (nil, nil) := left_nil (by rw [← hdr, List.drop_eq_nil_iff.2 (by omega)])
            have hkr := hli.kx
            clear hli hdr
            have CN := hwz.next (by omega) kk hkp.rng
            rw [show wnx t'.p kk = (nil, nil, 0) by rw [etp, hkp.next, hpn]] at CN
            unfold tp vv vl nil at CN
            have kz0 := hkr.bx.c0
            have kz1 := hkr.bx.c1
            have kz2 := hkr.bx.c2
            have q5 : ∀ W', (binOp .eql 33 (vl 0 0 ⟨#[]⟩) (vl 0 0 ⟨#[]⟩)).run Try.prog W' = .ok (.bool true) W' := fun W' => by rw [eql32]; simp
            unfold vl at q5
            clear hwz hkr hkp
            go_wp2_with fail
            refine CN.mono ?_; rintro e Wz ⟨rfl, hz, _⟩
            have kz := b2 Wz (.cells #[.int .i64 0, .int .i64 0, .string ⟨#[]⟩] 33) (.cells #[.int .i64 0, .int .i64 0, .string ⟨#[]⟩] 33)
            have HBz : Hid _ := (hz.below kz).bel
            clear CN hz kz
            go_wp2_with fail
            go_ret
            first | exact ⟨rfl, HBz.out⟩ | exact ⟨rfl, by rw [HX.out]; exact HBz.out⟩
end Go.Proofs.Ythlgeohncpmaaab
