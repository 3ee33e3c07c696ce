/- The walk of WalkKeys. -/
import Derived.Test.YthlgeohncpmaaabCg30
import Derived.BigQuiet
import Derived.Deep.QuietTactic
namespace Go.Proofs.Ythlgeohncpmaaab
open Go.RowKit

set_option maxRecDepth 20000 in
set_option maxHeartbeats 4000000 in
theorem wkeys_walk (x y : Int) (a : Option Addr) (L cap : Nat) (W : World) (Q : Nat → Int × V × V) (hO : Ops W.heap.size W a L Q) (kk : V) (hkr : Rng kk) :
    Calls Try.prog 4 #[cw x y (.slice a L cap), vv kk] W fun e w' => e = .returned (.bool true) ∧ Below W.heap.size W w' := by
  obtain ⟨B0, hl0, x0, x1, x2⟩ := start_case x y a L cap W
  have Bk := b1 (W.alloc (.cells #[.int .i64 x, .int .i64 y, .slice a L cap] 24)) (vb kk.1 kk.2.1 kk.2.2)
  have kx0 := Bx.made (W.alloc (.cells #[.int .i64 x, .int .i64 y, .slice a L cap] 24)) kk
  rw [show (W.alloc (.cells #[.int .i64 x, .int .i64 y, .slice a L cap] 24)).heap.size = W.heap.size + 1 by simp] at kx0
  obtain ⟨hl0', x0', x1', x2'⟩ := start_fixed hl0 x0 x1 x2 Bk
  have B0' := bthen B0 B0.size Bk
  clear B0 hl0 x0 x1 x2
  obtain ⟨W0, hW0⟩ : ∃ W0, (W.alloc (.cells #[.int .i64 x, .int .i64 y, .slice a L cap] 24)).alloc (vb kk.1 kk.2.1 kk.2.2) = W0 := ⟨_, rfl⟩
  rw [hW0] at B0' hl0' x0' x1' x2' kx0
  have B0 := B0'
  have hl0 := hl0'
  have x0 := x0'
  have x1 := x1'
  have x2 := x2'
  clear B0' hl0' x0' x1' x2' Bk
  unfold vb at hW0
  obtain ⟨X, hX⟩ : ∃ X, W.heap.size = X := ⟨_, rfl⟩
  rw [hX] at B0 hl0 x0 x1 x2 hO kx0
  have HX : Hid (W.heap.size = X) := hX
  have C1 := fixed_any W0
  have HO : Hid (∀ w', Below X W w' → Ops X w' a L Q) := fun w' k => hO.below k
  have HB0 : Hid (Below X W W0) := B0
  have HF : Hid (∀ W1, Below W0.heap.size W0 W1 → (X < W1.heap.size ∧ W1.cell? ⟨X, 0, none⟩ = some (.int .i64 x) ∧ W1.cell? ⟨X, 1, none⟩ = some (.int .i64 y) ∧ W1.cell? ⟨X, 2, none⟩ = some (.slice a L cap)) ∧ (X + 1 < W1.heap.size ∨ (X < W1.heap.size ∧ ((some kk) : Option V) = none)) ∧ ∀ k, ((some kk) : Option V) = some k → Bx W1 (X + 1) k) := fun W1 k => ⟨start_fixed hl0 x0 x1 x2 k, Or.inl (Nat.lt_of_lt_of_le kx0.lt k.size), fun k' e => by cases e; exact kx0.below k⟩
  have HN : Hid (X ≤ W0.heap.size) := Nat.le_of_lt hl0
  clear B0 hO
  unfold cw vv vl
  go_enter Try.func4, Try.ntmps4
  go_wp2_with fail
  refine C1.mono ?_; rintro e W1 ⟨rfl, k1⟩
  obtain ⟨⟨hl1, y0, y1, y2⟩, hz1, hk1⟩ := HF.out W1 k1
  have C2 := begin_any x y (.slice a L cap) W1
  have HB1 : Hid (Below X W W1) := bthen HB0.out HN.out k1
  unfold cw tp at C2
  have HZ1 : Hid (X + 1 < W1.heap.size ∨ (X < W1.heap.size ∧ ((some kk) : Option V) = none)) := hz1
  have HL1 : Hid _ := And.intro hk1 y2
  clear C1 k1 hz1 hk1
  go_wp2_with fail
  refine C2.mono ?_; rintro e W2 ⟨T, A, b, a', S, hb, RT, t0, s0, rfl, tt, bw, st, _⟩
  have H0 : Hid (Ws (fun g => g < W1.heap.size) W W2 X (.slice a L cap) (some kk) T S hb 3 t0 s0) := ws_of tt bw HZ1.out HL1.out.1 HB1.out HL1.out.2
  generalize (fun g => g < W1.heap.size) = P1 at *
  have HS0 : Hid (pres t0.p = []) := st.pr
  clear C2 tt bw st y0 y1 y2 x0 x1 x2 hl1 HZ1
  go_wp2_with fail
  go_loopw [8] (fun iw wr => ∃ k : Nat, iw = .int .i64 (k : Nat) ∧ k ≤ L ∧ k ≤ 300 ∧ Hid (∃ t s, Ws P1 W wr X (.slice a L cap) (some kk) T S hb (3 + 9 * k) t s)) (fun iw _ => 300 - (intOf iw).toNat)
  case atStart => exact ⟨0, rfl, by omega, by omega, t0, s0, H0.out⟩
  case round =>
    obtain ⟨k, rfl, hk, hk3, HR0⟩ := hrel
    obtain ⟨t, s, HR⟩ := HR0.out
    clear H0 HR0
    have xc := HR.xc
    by_cases hlt : k < L
    · by_cases hlt3 : k < 300
      · have hlt' : (k : Int) < (L : Int) := by omega
        have hlt3' : (k : Int) < 300 := by omega
        have hk0 : ¬ ((k : Int) < 0) := by omega
        obtain ⟨lb, off, rfl, hlb, i0, i1, i2, i3, i4, i5, i6⟩ := (HO.out wr HR.bel).at hlt
        have hr := ((HO.out wr HR.bel).1 k hlt)
        have hwi : IntKind.i64.wrap ((k : Int) + 1) = (k : Int) + 1 := by rw [IntKind.wrap_i64]; omega
        have HLo : Hid (∀ g, g ≤ X + 1 → P1 g) := fun g hg => by
          by_cases e : g ≤ X
          · exact HR.lo g e
          · have : g = X + 1 := by omega
            rw [this]; exact (HR.lk kk rfl).1
        have HT : Hid (Ws P1 W wr X (.slice (some ⟨lb, off, none⟩) L cap) (some kk) T S hb (3 + 9 * k) t s) := HR
        have CSt := HR.stats
        unfold tp ts sv at CSt
        generalize Q k = q at *
        have HI : Hid (∀ wb, Below X W wb → wb.cell? ⟨lb, off + k * 7 + 1, none⟩ = some (.int .i64 q.2.1.1) ∧ wb.cell? ⟨lb, off + k * 7 + 2, none⟩ = some (.int .i64 q.2.1.2.1) ∧ wb.cell? ⟨lb, off + k * 7 + 3, none⟩ = some (.string q.2.1.2.2) ∧ wb.cell? ⟨lb, off + k * 7 + 4, none⟩ = some (.int .i64 q.2.2.1) ∧ wb.cell? ⟨lb, off + k * 7 + 5, none⟩ = some (.int .i64 q.2.2.2.1) ∧ wb.cell? ⟨lb, off + k * 7 + 6, none⟩ = some (.string q.2.2.2.2)) := fun wb hbb => by
          have far : ∀ o v, wr.cell? ⟨lb, o, none⟩ = some v → wb.cell? ⟨lb, o, none⟩ = some v := fun o v hv => by
            rw [hbb.cell (p := ⟨lb, o, none⟩) hlb, ← HR.bel.cell (p := ⟨lb, o, none⟩) hlb]; exact hv
          exact ⟨far _ _ i1, far _ _ i2, far _ _ i3, far _ _ i4, far _ _ i5, far _ _ i6⟩
        clear HR i0 i1 i2 i3 i4 i5 i6
        go_wp2_with fail
        refine CSt.mono ?_; rintro e w1 ⟨rfl, k1⟩
        have k2 : Below wr.heap.size wr (w1.alloc (.cells #[.int .i64 (t.p.n : Nat), .int .i64 (t.p.z : Nat), .int .i64 (t.p.g.f : Nat), .int .i64 t.hint] 50)) := k1.alloc k1.size _
        have s2 : (w1.alloc (.cells #[.int .i64 (t.p.n : Nat), .int .i64 (t.p.z : Nat), .int .i64 (t.p.g.f : Nat), .int .i64 t.hint] 50)).heap.size = w1.heap.size + 1 := by simp
        have d0 := (MapKept.heap_alloc w1 (.cells #[.int .i64 (t.p.n : Nat), .int .i64 (t.p.z : Nat), .int .i64 (t.p.g.f : Nat), .int .i64 t.hint] 50)).1
        have e0 := cell_of_row d0 0
        have e1 := cell_of_row d0 1
        have e2 := cell_of_row d0 2
        have e3 := cell_of_row d0 3
        obtain ⟨W2, hW2⟩ : ∃ W2, w1.alloc (.cells #[.int .i64 (t.p.n : Nat), .int .i64 (t.p.z : Nat), .int .i64 (t.p.g.f : Nat), .int .i64 t.hint] 50) = W2 := ⟨_, rfl⟩
        rw [hW2] at k2 s2 e0 e1 e2 e3
        have h2 := HT.out.news k2
        obtain ⟨P2, hP2⟩ : ∃ P2, (fun g => P1 g ∨ (wr.heap.size ≤ g ∧ g < W2.heap.size)) = P2 := ⟨_, rfl⟩
        have HP2 : Hid ((∀ g, P1 g → P2 g) ∧ P2 w1.heap.size) := by
          rw [← hP2]; have := k1.size; exact ⟨fun g q => .inl q, .inr ⟨by omega, by omega⟩⟩
        rw [hP2] at h2
        have HBx : Hid (∀ w', Keep P2 W2 w' → w'.cell? ⟨w1.heap.size, 0, none⟩ = some (.int .i64 (t.p.n : Nat)) ∧ w'.cell? ⟨w1.heap.size, 1, none⟩ = some (.int .i64 (t.p.z : Nat)) ∧ w'.cell? ⟨w1.heap.size, 2, none⟩ = some (.int .i64 (t.p.g.f : Nat)) ∧ w'.cell? ⟨w1.heap.size, 3, none⟩ = some (.int .i64 t.hint)) := fun w' kq => by
          have hb := kq.block w1.heap.size (by omega) HP2.out.2
          exact ⟨(World.cell?_of_block hb).trans e0, (World.cell?_of_block hb).trans e1, (World.cell?_of_block hb).trans e2, (World.cell?_of_block hb).trans e3⟩
        have x2 := h2.xc
        obtain ⟨j1, j2, j3, _⟩ := HI.out W2 h2.bel
        have CG := h2.get (by omega) q.2.1 hr
        unfold tp vv vl at CG
        have hfv := fldV
        clear CSt k1 k2 e0 e1 e2 e3 d0 h2 hP2
        go_wp2_with fail
        refine CG.mono ?_; rintro e W3 ⟨rfl, h3, kq3⟩
        have x3 := h3.xc
        obtain ⟨l1, l2, l3, l4, l5, l6⟩ := HI.out W3 h3.bel
        have CS := (h3.below (bdrew1 W3)).set (by omega) q.2.1 q.2.2 hr
        unfold tp vv vl at CS
        have HK3 : Hid (Keep P2 W2 W3) := kq3
        clear CG h3 kq3 x2 j1 j2 j3
        go_wp2_with fail
        refine wp_tail 13 (by kernel_rfl) (by kernel_rfl) ?_
        simp only [List.take_succ_cons, List.take_zero, List.drop_succ_cons, List.drop_zero]
        repeat still_step
        refine wpStill_nil ?_
        go_wp2_with fail
        refine CS.mono ?_; rintro e W4 ⟨rfl, h4, kq4⟩
        have x4 := h4.xc
        obtain ⟨l1, l2, l3, _⟩ := HI.out W4 h4.bel
        have CN := h4.next (by omega) q.2.1 hr
        have HE : Hid ((pget t.p q.2.1).1 ≠ 0 → (wnx (tset { t with pr := t.pr + (prd t.p q.2.1 : Nat) } s q.2.1 q.2.2).1.p q.2.1).2.2 = 0) := fun hp => set_plc (t := { t with pr := t.pr + (prd t.p q.2.1 : Nat) }) hp
        obtain ⟨t4, ht4⟩ : ∃ t4, (tset { t with pr := t.pr + (prd t.p q.2.1 : Nat) } s q.2.1 q.2.2).1 = t4 := ⟨_, rfl⟩
        obtain ⟨s4, hs4⟩ : ∃ s4, (tset { t with pr := t.pr + (prd t.p q.2.1 : Nat) } s q.2.1 q.2.2).2.1 = s4 := ⟨_, rfl⟩
        rw [ht4] at HE
        rw [ht4, hs4] at CN
        obtain ⟨nn, hnn⟩ : ∃ nn, wnx t4.p q.2.1 = nn := ⟨_, rfl⟩
        rw [hnn] at CN HE
        unfold tp vv vl at CN
        have HK4 : Hid (Keep P2 W2 W4) := (HK3.out.trans (Keep.of (bdrew1 W3))).trans kq4
        clear CS h4 kq4 x3 HK3
        go_wp2_with fail
        refine CN.mono ?_; rintro e W5 ⟨rfl, h5, kq5⟩
        have bb := b2 W5 (vb nn.1.1 nn.1.2.1 nn.1.2.2) (vb nn.2.1.1 nn.2.1.2.1 nn.2.1.2.2)
        have h6 := h5.below bb
        obtain ⟨W6, hW6⟩ : ∃ W6, (W5.alloc (vb nn.1.1 nn.1.2.1 nn.1.2.2)).alloc (vb nn.2.1.1 nn.2.1.2.1 nn.2.1.2.2) = W6 := ⟨_, rfl⟩
        rw [hW6] at bb h6
        unfold vb at hW6
        have HK6 : Hid (Keep P2 W2 W6) := (HK4.out.trans kq5).trans (Keep.of bb)
        have H6 : Hid _ := h6
        obtain ⟨XX, F, F1, F2⟩ := class_of W6
        have HC : Hid (∃ x, W6.drew = F x) := F2 _ (bdrew1 W6)
        obtain ⟨t5, ht5⟩ : ∃ t5 : TS, { t4 with pr := t4.pr + (if fm q.2.1 = true ∧ q.2.1.1 ≠ 0 then prd t4.p q.2.1 else 0 : Nat) } = t5 := ⟨_, rfl⟩
        rw [ht5] at h6 H6
        have hSt : ∀ x, Calls Try.prog 17 #[.pointer (some ⟨T, 0, none⟩)] (F x) fun e w'' => e = .returned (.agg #[.int .i64 (t5.p.n : Nat), .int .i64 (t5.p.z : Nat), .int .i64 (t5.p.g.f : Nat), .int .i64 t5.hint]) ∧ ∃ y, w'' = F y := fun x => ((h6.below (F1 x)).stats).mono fun e w' hh => ⟨hh.1, F2 _ (bthen (F1 x) (F1 x).size hh.2)⟩
        have e0 : ∀ x, (F x).cell? ⟨w1.heap.size, 0, none⟩ = some (.int .i64 (t.p.n : Nat)) := fun x => (HBx.out _ (HK6.out.trans (Keep.of (F1 x)))).1
        have e1 : ∀ x, (F x).cell? ⟨w1.heap.size, 1, none⟩ = some (.int .i64 (t.p.z : Nat)) := fun x => (HBx.out _ (HK6.out.trans (Keep.of (F1 x)))).2.1
        have e2 : ∀ x, (F x).cell? ⟨w1.heap.size, 2, none⟩ = some (.int .i64 (t.p.g.f : Nat)) := fun x => (HBx.out _ (HK6.out.trans (Keep.of (F1 x)))).2.2.1
        have e3 : ∀ x, (F x).cell? ⟨w1.heap.size, 3, none⟩ = some (.int .i64 t.hint) := fun x => (HBx.out _ (HK6.out.trans (Keep.of (F1 x)))).2.2.2
        have HN : Hid (∀ x, Ws P1 W (F x) X (.slice (some ⟨lb, off, none⟩) L cap) (some kk) T S hb (3 + 9 * (k + 1)) t5 s4) := fun x => ((h6.below (F1 x)).sub HP2.out.1 HLo.out).more (by omega)
        clear CN h5 kq5 bb h6 H6 HK6 HK4 HBx x4 l1 l2 l3 F1 F2 hW2 s2
        go_upto_region 13 with fail
        by_cases hp : (pget t.p q.2.1).1 = 0
        · have g1 : ((pget t.p q.2.1).1 != 0) = false := by simp [hp]
          rw [g1]
          clear hp HE
          haveI : Nonempty XX := HC.out.elim fun x _ => ⟨x⟩
          refine wp_class (F := F) (by kernel_rfl) (by kernel_rfl) HC.out ?_
          repeat (go_big_quiet_step (exact hSt _))
          refine wpQuiet_nil ?_
          intro _ hw'
          obtain ⟨x9, rfl⟩ := hw'
          have HX5 : Hid _ := HN.out x9
          go_wp2_with fail
          go_round
          case rel => exact ⟨k + 1, by go_num, by omega, by omega, _, _, HX5.out⟩
          case measure => simp [intOf]; omega
        · have g1 : ((pget t.p q.2.1).1 != 0) = true := by simp [hp]
          have g2 : (nn.2.2 != 0) = false := by rw [HE.out hp]; rfl
          have hq50 := eql50 (t5.p.n : Nat) (t5.p.z : Nat) (t5.p.g.f : Nat) t5.hint (t.p.n : Nat) (t.p.z : Nat) (t.p.g.f : Nat) t.hint
          generalize decide (((t5.p.n : Nat) : Int) = ((t.p.n : Nat) : Int) ∧ ((t5.p.z : Nat) : Int) = ((t.p.z : Nat) : Int) ∧ ((t5.p.g.f : Nat) : Int) = ((t.p.g.f : Nat) : Int) ∧ t5.hint = t.hint) = D at hq50
          rw [g1]
          clear hp HE
          cases D
          all_goals
            haveI : Nonempty XX := HC.out.elim fun x _ => ⟨x⟩
            refine wp_class (F := F) (by kernel_rfl) (by kernel_rfl) HC.out ?_
            repeat (go_big_quiet_step (exact hSt _))
            refine wpQuiet_nil ?_
            intro _ hw'
            obtain ⟨x9, rfl⟩ := hw'
            have HX5 : Hid _ := HN.out x9
            go_wp2_with fail
            go_round
            case rel => exact ⟨k + 1, by go_num, by omega, by omega, _, _, HX5.out⟩
            case measure => simp [intOf]; omega
      · have hlt3' : ¬ ((k : Int) < 300) := by omega
        have hlt' : (k : Int) < (L : Int) := by omega
        clear hlt3 hlt
        have HT : Hid (Ws P1 W wr X (.slice a L cap) (some kk) T S hb (3 + 9 * k) t s) := HR
        have kb := (HR.lk kk rfl).2
        have kc0 := kb.c0
        have kc1 := kb.c1
        have kc2 := kb.c2
        have CN := HR.next (by omega) kk hkr
        have HTI : Hid (TI t.p) := HR.ti
        obtain ⟨nn, hnn⟩ : ∃ nn, wnx t.p kk = nn := ⟨_, rfl⟩
        have HNN : Hid (wnx t.p kk = nn) := hnn
        rw [hnn] at CN
        unfold tp vv vl at CN
        clear HR kb hnn
        go_wp2_with fail
        refine CN.mono ?_; rintro e W3 ⟨rfl, h3, _⟩
        have bb := b2 W3 (vb nn.1.1 nn.1.2.1 nn.1.2.2) (vb nn.2.1.1 nn.2.1.2.1 nn.2.1.2.2)
        have h4 := h3.below bb
        obtain ⟨W4, hW4⟩ : ∃ W4, (W3.alloc (vb nn.1.1 nn.1.2.1 nn.1.2.2)).alloc (vb nn.2.1.1 nn.2.1.2.1 nn.2.1.2.2) = W4 := ⟨_, rfl⟩
        rw [hW4] at bb h4
        unfold vb at hW4
        obtain ⟨t4, ht4⟩ : ∃ t4 : TS, { t with pr := t.pr + (if fm kk = true ∧ kk.1 ≠ 0 then prd t.p kk else 0 : Nat) } = t4 := ⟨_, rfl⟩
        have etp : t4.p = t.p := by rw [← ht4]
        rw [ht4] at h4
        have kb4 := (h4.lk kk rfl).2
        have kd0 := kb4.c0
        have kd1 := kb4.c1
        have kd2 := kb4.c2
        have CC := rcheck_any kk.1 kk.2.1 kk.2.2 W4
        rw [chk_of] at CC
        unfold vl at CC
        have h5 := h4.below (b1 W4 (vb kk.1 kk.2.1 kk.2.2))
        have HB5 : Hid (Below X W (W4.alloc (vb kk.1 kk.2.1 kk.2.2))) := h5.bel
        obtain ⟨W5, hW5⟩ : ∃ W5, W4.alloc (vb kk.1 kk.2.1 kk.2.2) = W5 := ⟨_, rfl⟩
        rw [hW5] at CC h5 HB5
        clear CN h3 bb kc0 kc1 kc2 h4 kb4
        cases hf : fm kk
        · have hn2 : nn.2.2 = 2 := by
            rw [← HNN.out]; unfold wnx; rw [if_pos hf]
          rw [hf, if_neg (by decide)] at CC
          have g2 : (nn.2.2 == 2) = true := by rw [hn2]; rfl
          clear hf h5
          go_wp2_with fail
          refine CC.mono ?_; rintro e w6 ⟨rfl, hw6⟩; rw [hw6]; clear hw6 w6 CC
          go_wp2_with fail
          go_ret
          first | exact ⟨rfl, HB5.out⟩ | exact ⟨rfl, by rw [HX.out]; exact HB5.out⟩
        · have HE : Hid (nn.2.2 = if heldN t.p kk t.p.z = true then 0 else 9) := by
            show _ = _
            rw [← HNN.out]; exact held_next HTI.out hf hkr
          rw [hf, if_pos rfl] at CC
          have HF5 : Hid (fm kk = true) := hf
          clear hf HNN
          go_wp2_with fail
          refine CC.mono ?_; rintro e w6 ⟨rfl, hw6⟩; rw [hw6]; clear hw6 w6 CC
          have kb5 := (h5.lk kk rfl).2
          have hfs := fldS0
          obtain ⟨XX, F, F1, F2⟩ := class_of W5
          have HC : Hid (∃ x, W5.drew = F x) := F2 _ (bdrew1 W5)
          have hSt : ∀ x, Calls Try.prog 17 #[.pointer (some ⟨T, 0, none⟩)] (F x) fun e w'' => e = .returned (.agg #[.int .i64 (t.p.n : Nat), .int .i64 (t4.p.z : Nat), .int .i64 (t4.p.g.f : Nat), .int .i64 t4.hint]) ∧ ∃ y, w'' = F y := fun x => ((h5.below (F1 x)).stats).mono fun e w' hh => by
            rw [← etp]
            exact ⟨hh.1, F2 _ (bthen (F1 x) (F1 x).size hh.2)⟩
          have e0 : ∀ x, (F x).cell? ⟨X + 1, 0, none⟩ = some (.int .i64 kk.1) := fun x => (kb5.below (F1 x)).c0
          have e1 : ∀ x, (F x).cell? ⟨X + 1, 1, none⟩ = some (.int .i64 kk.2.1) := fun x => (kb5.below (F1 x)).c1
          have HW : Hid (∀ x, Ws P1 W (F x) X (.slice a L cap) (some kk) T S hb (3 + 9 * k + 1) t4 s) := fun x => h5.below (F1 x)
          clear h5 kb5 kd0 kd1 kd2 F1 F2 HT
          go_upto_region 18 with fail
          by_cases c0 : kk.1 = 0
          · have hh0 : heldN t.p kk 0 = true := by simp [heldN, c0]
            have g0 : (kk.1 == 0) = true := by simp [c0]
            clear c0
            haveI : Nonempty XX := HC.out.elim fun x _ => ⟨x⟩
            refine wp_class (F := F) (by kernel_rfl) (by kernel_rfl) HC.out ?_
            repeat (go_big_quiet_step (exact hSt _))
            refine wpQuiet_nil ?_
            intro _ hw'
            obtain ⟨x9, rfl⟩ := hw'
            have h9 := HW.out x9
            generalize F x9 = W9 at *
            obtain ⟨A9, b9, a9, tt9⟩ := h9.tt
            have CD := tdump_any tt9.tm tt9.ti
            rw [etp] at CD
            unfold tp at CD
            have H9 : Hid _ := h9
            clear hSt e0 e1 HW HC tt9 h9
            go_wp2_with fail
            refine CD.mono ?_; rintro e Wd ⟨vd, gd, cd, rfl, hd⟩
            have kbd := ((H9.out.below hd.bel).lk kk rfl).2
            have HD : Hid (Dt W9 Wd vd gd cd t.p) := hd
            have HBd : Hid (Below X W Wd) := (H9.out.below hd.bel).bel
            have hzz : t.p.z ≤ 65536 := HTI.out.rt.le
            have HK : Hid (Bx Wd (X + 1) kk) := kbd
            have hXd : X ≤ Wd.heap.size := Nat.le_of_lt (H9.out.below hd.bel).sz
            clear CD hd kbd H9
            go_wp2_with fail
            go_loopw [17, 20] (fun vh iw wq => ∃ i : Nat, iw = .int .i64 (i : Nat) ∧ vh = .bool (heldN t.p kk i) ∧ i ≤ t.p.z ∧ Hid (Below Wd.heap.size Wd wq)) (fun _ iw _ => t.p.z - (intOf iw).toNat)
            case atStart => exact ⟨0, rfl, by rw [hh0], by omega, Below.refl _ _⟩
            case round =>
              obtain ⟨i, rfl, rfl, hi, HBq⟩ := hrel
              by_cases hlz : i < t.p.z
              · have hlz' : (i : Int) < ((t.p.z : Nat) : Int) := by omega
                have hi0 : ¬ ((i : Int) < 0) := by omega
                have hwj : IntKind.i64.wrap ((i : Int) + 1) = (i : Int) + 1 := by rw [IntKind.wrap_i64]; omega
                have n0 := (HBq.out.cell (p := ⟨gd, i * 7 + 0, none⟩) HD.out.lt).trans (HD.out.rc.c i hlz 0 (by omega))
                have n1 := (HBq.out.cell (p := ⟨gd, i * 7 + 1, none⟩) HD.out.lt).trans (HD.out.rc.c i hlz 1 (by omega))
                have n2 := (HBq.out.cell (p := ⟨gd, i * 7 + 2, none⟩) HD.out.lt).trans (HD.out.rc.c i hlz 2 (by omega))
                have m0 := (HBq.out.cell (p := ⟨X + 1, 0, none⟩) HK.out.lt).trans HK.out.c0
                have m1 := (HBq.out.cell (p := ⟨X + 1, 1, none⟩) HK.out.lt).trans HK.out.c1
                have m2 := (HBq.out.cell (p := ⟨X + 1, 2, none⟩) HK.out.lt).trans HK.out.c2
                simp only [nf, nc, Nat.add_zero] at n0 n1 n2
                have hs : heldN t.p kk (i + 1) = (heldN t.p kk i || decide (t.p.g.K i = kk)) := rfl
                have hq : ∀ W', (binOp .eql 33 (vl (t.p.g.K i).1 (t.p.g.K i).2.1 (t.p.g.K i).2.2) (vl kk.1 kk.2.1 kk.2.2)).run Try.prog W' = .ok (.bool (decide (t.p.g.K i = kk))) W' := fun W' => by rw [eql32]
                unfold vl at hq
                cases hh : heldN t.p kk i
                · rw [hh, Bool.false_or] at hs
                  have HS : Hid (heldN t.p kk (i + 1) = decide (t.p.g.K i = kk)) := hs
                  clear hs hh
                  go_wp2_with fail
                  go_quiet (fail)
                  go_wp2_with fail
                  go_round
                  case rel => exact ⟨i + 1, by go_num, by rw [HS.out], by omega, HBq.out.trans (by exact ⟨rfl, rfl, rfl, Nat.le_refl _, fun _ _ => rfl⟩)⟩
                  case measure => simp [intOf]; omega
                · rw [hh, Bool.true_or] at hs
                  have HS : Hid (heldN t.p kk (i + 1) = true) := hs
                  clear hs hh
                  go_wp2_with fail
                  go_quiet (fail)
                  go_wp2_with fail
                  go_round
                  case rel => exact ⟨i + 1, by go_num, by rw [HS.out], by omega, HBq.out.trans (by exact ⟨rfl, rfl, rfl, Nat.le_refl _, fun _ _ => rfl⟩)⟩
                  case measure => simp [intOf]; omega
              · have hiz : i = t.p.z := by omega
                subst hiz
                have hlz' : ¬ (((t.p.z : Nat) : Int) < ((t.p.z : Nat) : Int)) := by omega
                have HBz : Hid (Below X W wr) := bthen HBd.out hXd HBq.out
                have hE := HE.out
                cases hh : heldN t.p kk t.p.z
                · rw [hh, if_neg (by decide)] at hE
                  have g2 : (nn.2.2 == 9) = true := by rw [hE]; rfl
                  clear hE hh HE
                  go_wp2_with fail
                  go_ret
                  first | exact ⟨rfl, HBz.out⟩ | exact ⟨rfl, by rw [HX.out]; exact HBz.out⟩
                · rw [hh, if_pos rfl] at hE
                  have g2 : (nn.2.2 == 0) = true := by rw [hE]; rfl
                  clear hE hh HE
                  go_wp2_with fail
                  go_ret
                  first | exact ⟨rfl, HBz.out⟩ | exact ⟨rfl, by rw [HX.out]; exact HBz.out⟩
          · have g0 : (kk.1 == 0) = false := by simp [c0]
            by_cases c1 : kk.1 = 2
            · have g1 : (kk.1 == 2) = true := by simp [c1]
              by_cases c2 : 1 ≤ kk.2.1
              · have g2 : decide (1 ≤ kk.2.1) = true := by simp [c2]
                by_cases c3 : kk.2.1 ≤ (t.p.n : Int)
                · have g3 : decide (kk.2.1 ≤ (t.p.n : Int)) = true := by simp [c3]
                  have hh0 : heldN t.p kk 0 = true := by simp [heldN, c1, c2, c3]
                  clear c0 c1 c2 c3
                  haveI : Nonempty XX := HC.out.elim fun x _ => ⟨x⟩
                  refine wp_class (F := F) (by kernel_rfl) (by kernel_rfl) HC.out ?_
                  repeat (go_big_quiet_step (exact hSt _))
                  refine wpQuiet_nil ?_
                  intro _ hw'
                  obtain ⟨x9, rfl⟩ := hw'
                  have h9 := HW.out x9
                  generalize F x9 = W9 at *
                  obtain ⟨A9, b9, a9, tt9⟩ := h9.tt
                  have CD := tdump_any tt9.tm tt9.ti
                  rw [etp] at CD
                  unfold tp at CD
                  have H9 : Hid _ := h9
                  clear hSt e0 e1 HW HC tt9 h9
                  go_wp2_with fail
                  refine CD.mono ?_; rintro e Wd ⟨vd, gd, cd, rfl, hd⟩
                  have kbd := ((H9.out.below hd.bel).lk kk rfl).2
                  have HD : Hid (Dt W9 Wd vd gd cd t.p) := hd
                  have HBd : Hid (Below X W Wd) := (H9.out.below hd.bel).bel
                  have hzz : t.p.z ≤ 65536 := HTI.out.rt.le
                  have HK : Hid (Bx Wd (X + 1) kk) := kbd
                  have hXd : X ≤ Wd.heap.size := Nat.le_of_lt (H9.out.below hd.bel).sz
                  clear CD hd kbd H9
                  go_wp2_with fail
                  go_loopw [17, 20] (fun vh iw wq => ∃ i : Nat, iw = .int .i64 (i : Nat) ∧ vh = .bool (heldN t.p kk i) ∧ i ≤ t.p.z ∧ Hid (Below Wd.heap.size Wd wq)) (fun _ iw _ => t.p.z - (intOf iw).toNat)
                  case atStart => exact ⟨0, rfl, by rw [hh0], by omega, Below.refl _ _⟩
                  case round =>
                    obtain ⟨i, rfl, rfl, hi, HBq⟩ := hrel
                    by_cases hlz : i < t.p.z
                    · have hlz' : (i : Int) < ((t.p.z : Nat) : Int) := by omega
                      have hi0 : ¬ ((i : Int) < 0) := by omega
                      have hwj : IntKind.i64.wrap ((i : Int) + 1) = (i : Int) + 1 := by rw [IntKind.wrap_i64]; omega
                      have n0 := (HBq.out.cell (p := ⟨gd, i * 7 + 0, none⟩) HD.out.lt).trans (HD.out.rc.c i hlz 0 (by omega))
                      have n1 := (HBq.out.cell (p := ⟨gd, i * 7 + 1, none⟩) HD.out.lt).trans (HD.out.rc.c i hlz 1 (by omega))
                      have n2 := (HBq.out.cell (p := ⟨gd, i * 7 + 2, none⟩) HD.out.lt).trans (HD.out.rc.c i hlz 2 (by omega))
                      have m0 := (HBq.out.cell (p := ⟨X + 1, 0, none⟩) HK.out.lt).trans HK.out.c0
                      have m1 := (HBq.out.cell (p := ⟨X + 1, 1, none⟩) HK.out.lt).trans HK.out.c1
                      have m2 := (HBq.out.cell (p := ⟨X + 1, 2, none⟩) HK.out.lt).trans HK.out.c2
                      simp only [nf, nc, Nat.add_zero] at n0 n1 n2
                      have hs : heldN t.p kk (i + 1) = (heldN t.p kk i || decide (t.p.g.K i = kk)) := rfl
                      have hq : ∀ W', (binOp .eql 33 (vl (t.p.g.K i).1 (t.p.g.K i).2.1 (t.p.g.K i).2.2) (vl kk.1 kk.2.1 kk.2.2)).run Try.prog W' = .ok (.bool (decide (t.p.g.K i = kk))) W' := fun W' => by rw [eql32]
                      unfold vl at hq
                      cases hh : heldN t.p kk i
                      · rw [hh, Bool.false_or] at hs
                        have HS : Hid (heldN t.p kk (i + 1) = decide (t.p.g.K i = kk)) := hs
                        clear hs hh
                        go_wp2_with fail
                        go_quiet (fail)
                        go_wp2_with fail
                        go_round
                        case rel => exact ⟨i + 1, by go_num, by rw [HS.out], by omega, HBq.out.trans (by exact ⟨rfl, rfl, rfl, Nat.le_refl _, fun _ _ => rfl⟩)⟩
                        case measure => simp [intOf]; omega
                      · rw [hh, Bool.true_or] at hs
                        have HS : Hid (heldN t.p kk (i + 1) = true) := hs
                        clear hs hh
                        go_wp2_with fail
                        go_quiet (fail)
                        go_wp2_with fail
                        go_round
                        case rel => exact ⟨i + 1, by go_num, by rw [HS.out], by omega, HBq.out.trans (by exact ⟨rfl, rfl, rfl, Nat.le_refl _, fun _ _ => rfl⟩)⟩
                        case measure => simp [intOf]; omega
                    · have hiz : i = t.p.z := by omega
                      subst hiz
                      have hlz' : ¬ (((t.p.z : Nat) : Int) < ((t.p.z : Nat) : Int)) := by omega
                      have HBz : Hid (Below X W wr) := bthen HBd.out hXd HBq.out
                      have hE := HE.out
                      cases hh : heldN t.p kk t.p.z
                      · rw [hh, if_neg (by decide)] at hE
                        have g2 : (nn.2.2 == 9) = true := by rw [hE]; rfl
                        clear hE hh HE
                        go_wp2_with fail
                        go_ret
                        first | exact ⟨rfl, HBz.out⟩ | exact ⟨rfl, by rw [HX.out]; exact HBz.out⟩
                      · rw [hh, if_pos rfl] at hE
                        have g2 : (nn.2.2 == 0) = true := by rw [hE]; rfl
                        clear hE hh HE
                        go_wp2_with fail
                        go_ret
                        first | exact ⟨rfl, HBz.out⟩ | exact ⟨rfl, by rw [HX.out]; exact HBz.out⟩
                · have g3 : decide (kk.2.1 ≤ (t.p.n : Int)) = false := by simp [c3]
                  have hh0 : heldN t.p kk 0 = false := by simp [heldN, c0, c3]
                  clear c0 c1 c2 c3
                  haveI : Nonempty XX := HC.out.elim fun x _ => ⟨x⟩
                  refine wp_class (F := F) (by kernel_rfl) (by kernel_rfl) HC.out ?_
                  repeat (go_big_quiet_step (exact hSt _))
                  refine wpQuiet_nil ?_
                  intro _ hw'
                  obtain ⟨x9, rfl⟩ := hw'
                  have h9 := HW.out x9
                  generalize F x9 = W9 at *
                  obtain ⟨A9, b9, a9, tt9⟩ := h9.tt
                  have CD := tdump_any tt9.tm tt9.ti
                  rw [etp] at CD
                  unfold tp at CD
                  have H9 : Hid _ := h9
                  clear hSt e0 e1 HW HC tt9 h9
                  go_wp2_with fail
                  refine CD.mono ?_; rintro e Wd ⟨vd, gd, cd, rfl, hd⟩
                  have kbd := ((H9.out.below hd.bel).lk kk rfl).2
                  have HD : Hid (Dt W9 Wd vd gd cd t.p) := hd
                  have HBd : Hid (Below X W Wd) := (H9.out.below hd.bel).bel
                  have hzz : t.p.z ≤ 65536 := HTI.out.rt.le
                  have HK : Hid (Bx Wd (X + 1) kk) := kbd
                  have hXd : X ≤ Wd.heap.size := Nat.le_of_lt (H9.out.below hd.bel).sz
                  clear CD hd kbd H9
                  go_wp2_with fail
                  go_loopw [17, 20] (fun vh iw wq => ∃ i : Nat, iw = .int .i64 (i : Nat) ∧ vh = .bool (heldN t.p kk i) ∧ i ≤ t.p.z ∧ Hid (Below Wd.heap.size Wd wq)) (fun _ iw _ => t.p.z - (intOf iw).toNat)
                  case atStart => exact ⟨0, rfl, by rw [hh0], by omega, Below.refl _ _⟩
                  case round =>
                    obtain ⟨i, rfl, rfl, hi, HBq⟩ := hrel
                    by_cases hlz : i < t.p.z
                    · have hlz' : (i : Int) < ((t.p.z : Nat) : Int) := by omega
                      have hi0 : ¬ ((i : Int) < 0) := by omega
                      have hwj : IntKind.i64.wrap ((i : Int) + 1) = (i : Int) + 1 := by rw [IntKind.wrap_i64]; omega
                      have n0 := (HBq.out.cell (p := ⟨gd, i * 7 + 0, none⟩) HD.out.lt).trans (HD.out.rc.c i hlz 0 (by omega))
                      have n1 := (HBq.out.cell (p := ⟨gd, i * 7 + 1, none⟩) HD.out.lt).trans (HD.out.rc.c i hlz 1 (by omega))
                      have n2 := (HBq.out.cell (p := ⟨gd, i * 7 + 2, none⟩) HD.out.lt).trans (HD.out.rc.c i hlz 2 (by omega))
                      have m0 := (HBq.out.cell (p := ⟨X + 1, 0, none⟩) HK.out.lt).trans HK.out.c0
                      have m1 := (HBq.out.cell (p := ⟨X + 1, 1, none⟩) HK.out.lt).trans HK.out.c1
                      have m2 := (HBq.out.cell (p := ⟨X + 1, 2, none⟩) HK.out.lt).trans HK.out.c2
                      simp only [nf, nc, Nat.add_zero] at n0 n1 n2
                      have hs : heldN t.p kk (i + 1) = (heldN t.p kk i || decide (t.p.g.K i = kk)) := rfl
                      have hq : ∀ W', (binOp .eql 33 (vl (t.p.g.K i).1 (t.p.g.K i).2.1 (t.p.g.K i).2.2) (vl kk.1 kk.2.1 kk.2.2)).run Try.prog W' = .ok (.bool (decide (t.p.g.K i = kk))) W' := fun W' => by rw [eql32]
                      unfold vl at hq
                      cases hh : heldN t.p kk i
                      · rw [hh, Bool.false_or] at hs
                        have HS : Hid (heldN t.p kk (i + 1) = decide (t.p.g.K i = kk)) := hs
                        clear hs hh
                        go_wp2_with fail
                        go_quiet (fail)
                        go_wp2_with fail
                        go_round
                        case rel => exact ⟨i + 1, by go_num, by rw [HS.out], by omega, HBq.out.trans (by exact ⟨rfl, rfl, rfl, Nat.le_refl _, fun _ _ => rfl⟩)⟩
                        case measure => simp [intOf]; omega
                      · rw [hh, Bool.true_or] at hs
                        have HS : Hid (heldN t.p kk (i + 1) = true) := hs
                        clear hs hh
                        go_wp2_with fail
                        go_quiet (fail)
                        go_wp2_with fail
                        go_round
                        case rel => exact ⟨i + 1, by go_num, by rw [HS.out], by omega, HBq.out.trans (by exact ⟨rfl, rfl, rfl, Nat.le_refl _, fun _ _ => rfl⟩)⟩
                        case measure => simp [intOf]; omega
                    · have hiz : i = t.p.z := by omega
                      subst hiz
                      have hlz' : ¬ (((t.p.z : Nat) : Int) < ((t.p.z : Nat) : Int)) := by omega
                      have HBz : Hid (Below X W wr) := bthen HBd.out hXd HBq.out
                      have hE := HE.out
                      cases hh : heldN t.p kk t.p.z
                      · rw [hh, if_neg (by decide)] at hE
                        have g2 : (nn.2.2 == 9) = true := by rw [hE]; rfl
                        clear hE hh HE
                        go_wp2_with fail
                        go_ret
                        first | exact ⟨rfl, HBz.out⟩ | exact ⟨rfl, by rw [HX.out]; exact HBz.out⟩
                      · rw [hh, if_pos rfl] at hE
                        have g2 : (nn.2.2 == 0) = true := by rw [hE]; rfl
                        clear hE hh HE
                        go_wp2_with fail
                        go_ret
                        first | exact ⟨rfl, HBz.out⟩ | exact ⟨rfl, by rw [HX.out]; exact HBz.out⟩
              · have g2 : decide (1 ≤ kk.2.1) = false := by simp [c2]
                have hh0 : heldN t.p kk 0 = false := by simp [heldN, c0, c2]
                clear c0 c1 c2
                haveI : Nonempty XX := HC.out.elim fun x _ => ⟨x⟩
                refine wp_class (F := F) (by kernel_rfl) (by kernel_rfl) HC.out ?_
                repeat (go_big_quiet_step (exact hSt _))
                refine wpQuiet_nil ?_
                intro _ hw'
                obtain ⟨x9, rfl⟩ := hw'
                have h9 := HW.out x9
                generalize F x9 = W9 at *
                obtain ⟨A9, b9, a9, tt9⟩ := h9.tt
                have CD := tdump_any tt9.tm tt9.ti
                rw [etp] at CD
                unfold tp at CD
                have H9 : Hid _ := h9
                clear hSt e0 e1 HW HC tt9 h9
                go_wp2_with fail
                refine CD.mono ?_; rintro e Wd ⟨vd, gd, cd, rfl, hd⟩
                have kbd := ((H9.out.below hd.bel).lk kk rfl).2
                have HD : Hid (Dt W9 Wd vd gd cd t.p) := hd
                have HBd : Hid (Below X W Wd) := (H9.out.below hd.bel).bel
                have hzz : t.p.z ≤ 65536 := HTI.out.rt.le
                have HK : Hid (Bx Wd (X + 1) kk) := kbd
                have hXd : X ≤ Wd.heap.size := Nat.le_of_lt (H9.out.below hd.bel).sz
                clear CD hd kbd H9
                go_wp2_with fail
                go_loopw [17, 20] (fun vh iw wq => ∃ i : Nat, iw = .int .i64 (i : Nat) ∧ vh = .bool (heldN t.p kk i) ∧ i ≤ t.p.z ∧ Hid (Below Wd.heap.size Wd wq)) (fun _ iw _ => t.p.z - (intOf iw).toNat)
                case atStart => exact ⟨0, rfl, by rw [hh0], by omega, Below.refl _ _⟩
                case round =>
                  obtain ⟨i, rfl, rfl, hi, HBq⟩ := hrel
                  by_cases hlz : i < t.p.z
                  · have hlz' : (i : Int) < ((t.p.z : Nat) : Int) := by omega
                    have hi0 : ¬ ((i : Int) < 0) := by omega
                    have hwj : IntKind.i64.wrap ((i : Int) + 1) = (i : Int) + 1 := by rw [IntKind.wrap_i64]; omega
                    have n0 := (HBq.out.cell (p := ⟨gd, i * 7 + 0, none⟩) HD.out.lt).trans (HD.out.rc.c i hlz 0 (by omega))
                    have n1 := (HBq.out.cell (p := ⟨gd, i * 7 + 1, none⟩) HD.out.lt).trans (HD.out.rc.c i hlz 1 (by omega))
                    have n2 := (HBq.out.cell (p := ⟨gd, i * 7 + 2, none⟩) HD.out.lt).trans (HD.out.rc.c i hlz 2 (by omega))
                    have m0 := (HBq.out.cell (p := ⟨X + 1, 0, none⟩) HK.out.lt).trans HK.out.c0
                    have m1 := (HBq.out.cell (p := ⟨X + 1, 1, none⟩) HK.out.lt).trans HK.out.c1
                    have m2 := (HBq.out.cell (p := ⟨X + 1, 2, none⟩) HK.out.lt).trans HK.out.c2
                    simp only [nf, nc, Nat.add_zero] at n0 n1 n2
                    have hs : heldN t.p kk (i + 1) = (heldN t.p kk i || decide (t.p.g.K i = kk)) := rfl
                    have hq : ∀ W', (binOp .eql 33 (vl (t.p.g.K i).1 (t.p.g.K i).2.1 (t.p.g.K i).2.2) (vl kk.1 kk.2.1 kk.2.2)).run Try.prog W' = .ok (.bool (decide (t.p.g.K i = kk))) W' := fun W' => by rw [eql32]
                    unfold vl at hq
                    cases hh : heldN t.p kk i
                    · rw [hh, Bool.false_or] at hs
                      have HS : Hid (heldN t.p kk (i + 1) = decide (t.p.g.K i = kk)) := hs
                      clear hs hh
                      go_wp2_with fail
                      go_quiet (fail)
                      go_wp2_with fail
                      go_round
                      case rel => exact ⟨i + 1, by go_num, by rw [HS.out], by omega, HBq.out.trans (by exact ⟨rfl, rfl, rfl, Nat.le_refl _, fun _ _ => rfl⟩)⟩
                      case measure => simp [intOf]; omega
                    · rw [hh, Bool.true_or] at hs
                      have HS : Hid (heldN t.p kk (i + 1) = true) := hs
                      clear hs hh
                      go_wp2_with fail
                      go_quiet (fail)
                      go_wp2_with fail
                      go_round
                      case rel => exact ⟨i + 1, by go_num, by rw [HS.out], by omega, HBq.out.trans (by exact ⟨rfl, rfl, rfl, Nat.le_refl _, fun _ _ => rfl⟩)⟩
                      case measure => simp [intOf]; omega
                  · have hiz : i = t.p.z := by omega
                    subst hiz
                    have hlz' : ¬ (((t.p.z : Nat) : Int) < ((t.p.z : Nat) : Int)) := by omega
                    have HBz : Hid (Below X W wr) := bthen HBd.out hXd HBq.out
                    have hE := HE.out
                    cases hh : heldN t.p kk t.p.z
                    · rw [hh, if_neg (by decide)] at hE
                      have g2 : (nn.2.2 == 9) = true := by rw [hE]; rfl
                      clear hE hh HE
                      go_wp2_with fail
                      go_ret
                      first | exact ⟨rfl, HBz.out⟩ | exact ⟨rfl, by rw [HX.out]; exact HBz.out⟩
                    · rw [hh, if_pos rfl] at hE
                      have g2 : (nn.2.2 == 0) = true := by rw [hE]; rfl
                      clear hE hh HE
                      go_wp2_with fail
                      go_ret
                      first | exact ⟨rfl, HBz.out⟩ | exact ⟨rfl, by rw [HX.out]; exact HBz.out⟩
            · have g1 : (kk.1 == 2) = false := by simp [c1]
              have hh0 : heldN t.p kk 0 = false := by simp [heldN, c0, c1]
              clear c0 c1
              haveI : Nonempty XX := HC.out.elim fun x _ => ⟨x⟩
              refine wp_class (F := F) (by kernel_rfl) (by kernel_rfl) HC.out ?_
              repeat (go_big_quiet_step (exact hSt _))
              refine wpQuiet_nil ?_
              intro _ hw'
              obtain ⟨x9, rfl⟩ := hw'
              have h9 := HW.out x9
              generalize F x9 = W9 at *
              obtain ⟨A9, b9, a9, tt9⟩ := h9.tt
              have CD := tdump_any tt9.tm tt9.ti
              rw [etp] at CD
              unfold tp at CD
              have H9 : Hid _ := h9
              clear hSt e0 e1 HW HC tt9 h9
              go_wp2_with fail
              refine CD.mono ?_; rintro e Wd ⟨vd, gd, cd, rfl, hd⟩
              have kbd := ((H9.out.below hd.bel).lk kk rfl).2
              have HD : Hid (Dt W9 Wd vd gd cd t.p) := hd
              have HBd : Hid (Below X W Wd) := (H9.out.below hd.bel).bel
              have hzz : t.p.z ≤ 65536 := HTI.out.rt.le
              have HK : Hid (Bx Wd (X + 1) kk) := kbd
              have hXd : X ≤ Wd.heap.size := Nat.le_of_lt (H9.out.below hd.bel).sz
              clear CD hd kbd H9
              go_wp2_with fail
              go_loopw [17, 20] (fun vh iw wq => ∃ i : Nat, iw = .int .i64 (i : Nat) ∧ vh = .bool (heldN t.p kk i) ∧ i ≤ t.p.z ∧ Hid (Below Wd.heap.size Wd wq)) (fun _ iw _ => t.p.z - (intOf iw).toNat)
              case atStart => exact ⟨0, rfl, by rw [hh0], by omega, Below.refl _ _⟩
              case round =>
                obtain ⟨i, rfl, rfl, hi, HBq⟩ := hrel
                by_cases hlz : i < t.p.z
                · have hlz' : (i : Int) < ((t.p.z : Nat) : Int) := by omega
                  have hi0 : ¬ ((i : Int) < 0) := by omega
                  have hwj : IntKind.i64.wrap ((i : Int) + 1) = (i : Int) + 1 := by rw [IntKind.wrap_i64]; omega
                  have n0 := (HBq.out.cell (p := ⟨gd, i * 7 + 0, none⟩) HD.out.lt).trans (HD.out.rc.c i hlz 0 (by omega))
                  have n1 := (HBq.out.cell (p := ⟨gd, i * 7 + 1, none⟩) HD.out.lt).trans (HD.out.rc.c i hlz 1 (by omega))
                  have n2 := (HBq.out.cell (p := ⟨gd, i * 7 + 2, none⟩) HD.out.lt).trans (HD.out.rc.c i hlz 2 (by omega))
                  have m0 := (HBq.out.cell (p := ⟨X + 1, 0, none⟩) HK.out.lt).trans HK.out.c0
                  have m1 := (HBq.out.cell (p := ⟨X + 1, 1, none⟩) HK.out.lt).trans HK.out.c1
                  have m2 := (HBq.out.cell (p := ⟨X + 1, 2, none⟩) HK.out.lt).trans HK.out.c2
                  simp only [nf, nc, Nat.add_zero] at n0 n1 n2
                  have hs : heldN t.p kk (i + 1) = (heldN t.p kk i || decide (t.p.g.K i = kk)) := rfl
                  have hq : ∀ W', (binOp .eql 33 (vl (t.p.g.K i).1 (t.p.g.K i).2.1 (t.p.g.K i).2.2) (vl kk.1 kk.2.1 kk.2.2)).run Try.prog W' = .ok (.bool (decide (t.p.g.K i = kk))) W' := fun W' => by rw [eql32]
                  unfold vl at hq
                  cases hh : heldN t.p kk i
                  · rw [hh, Bool.false_or] at hs
                    have HS : Hid (heldN t.p kk (i + 1) = decide (t.p.g.K i = kk)) := hs
                    clear hs hh
                    go_wp2_with fail
                    go_quiet (fail)
                    go_wp2_with fail
                    go_round
                    case rel => exact ⟨i + 1, by go_num, by rw [HS.out], by omega, HBq.out.trans (by exact ⟨rfl, rfl, rfl, Nat.le_refl _, fun _ _ => rfl⟩)⟩
                    case measure => simp [intOf]; omega
                  · rw [hh, Bool.true_or] at hs
                    have HS : Hid (heldN t.p kk (i + 1) = true) := hs
                    clear hs hh
                    go_wp2_with fail
                    go_quiet (fail)
                    go_wp2_with fail
                    go_round
                    case rel => exact ⟨i + 1, by go_num, by rw [HS.out], by omega, HBq.out.trans (by exact ⟨rfl, rfl, rfl, Nat.le_refl _, fun _ _ => rfl⟩)⟩
                    case measure => simp [intOf]; omega
                · have hiz : i = t.p.z := by omega
                  subst hiz
                  have hlz' : ¬ (((t.p.z : Nat) : Int) < ((t.p.z : Nat) : Int)) := by omega
                  have HBz : Hid (Below X W wr) := bthen HBd.out hXd HBq.out
                  have hE := HE.out
                  cases hh : heldN t.p kk t.p.z
                  · rw [hh, if_neg (by decide)] at hE
                    have g2 : (nn.2.2 == 9) = true := by rw [hE]; rfl
                    clear hE hh HE
                    go_wp2_with fail
                    go_ret
                    first | exact ⟨rfl, HBz.out⟩ | exact ⟨rfl, by rw [HX.out]; exact HBz.out⟩
                  · rw [hh, if_pos rfl] at hE
                    have g2 : (nn.2.2 == 0) = true := by rw [hE]; rfl
                    clear hE hh HE
                    go_wp2_with fail
                    go_ret
                    first | exact ⟨rfl, HBz.out⟩ | exact ⟨rfl, by rw [HX.out]; exact HBz.out⟩
    · have hlt' : ¬ ((k : Int) < (L : Int)) := by omega
      clear hlt
      have HT : Hid (Ws P1 W wr X (.slice a L cap) (some kk) T S hb (3 + 9 * k) t s) := HR
      have kb := (HR.lk kk rfl).2
      have kc0 := kb.c0
      have kc1 := kb.c1
      have kc2 := kb.c2
      have CN := HR.next (by omega) kk hkr
      have HTI : Hid (TI t.p) := HR.ti
      obtain ⟨nn, hnn⟩ : ∃ nn, wnx t.p kk = nn := ⟨_, rfl⟩
      have HNN : Hid (wnx t.p kk = nn) := hnn
      rw [hnn] at CN
      unfold tp vv vl at CN
      clear HR kb hnn
      go_wp2_with fail
      refine CN.mono ?_; rintro e W3 ⟨rfl, h3, _⟩
      have bb := b2 W3 (vb nn.1.1 nn.1.2.1 nn.1.2.2) (vb nn.2.1.1 nn.2.1.2.1 nn.2.1.2.2)
      have h4 := h3.below bb
      obtain ⟨W4, hW4⟩ : ∃ W4, (W3.alloc (vb nn.1.1 nn.1.2.1 nn.1.2.2)).alloc (vb nn.2.1.1 nn.2.1.2.1 nn.2.1.2.2) = W4 := ⟨_, rfl⟩
      rw [hW4] at bb h4
      unfold vb at hW4
      obtain ⟨t4, ht4⟩ : ∃ t4 : TS, { t with pr := t.pr + (if fm kk = true ∧ kk.1 ≠ 0 then prd t.p kk else 0 : Nat) } = t4 := ⟨_, rfl⟩
      have etp : t4.p = t.p := by rw [← ht4]
      rw [ht4] at h4
      have kb4 := (h4.lk kk rfl).2
      have kd0 := kb4.c0
      have kd1 := kb4.c1
      have kd2 := kb4.c2
      have CC := rcheck_any kk.1 kk.2.1 kk.2.2 W4
      rw [chk_of] at CC
      unfold vl at CC
      have h5 := h4.below (b1 W4 (vb kk.1 kk.2.1 kk.2.2))
      have HB5 : Hid (Below X W (W4.alloc (vb kk.1 kk.2.1 kk.2.2))) := h5.bel
      obtain ⟨W5, hW5⟩ : ∃ W5, W4.alloc (vb kk.1 kk.2.1 kk.2.2) = W5 := ⟨_, rfl⟩
      rw [hW5] at CC h5 HB5
      clear CN h3 bb kc0 kc1 kc2 h4 kb4
      cases hf : fm kk
      · have hn2 : nn.2.2 = 2 := by
          rw [← HNN.out]; unfold wnx; rw [if_pos hf]
        rw [hf, if_neg (by decide)] at CC
        have g2 : (nn.2.2 == 2) = true := by rw [hn2]; rfl
        clear hf h5
        go_wp2_with fail
        refine CC.mono ?_; rintro e w6 ⟨rfl, hw6⟩; rw [hw6]; clear hw6 w6 CC
        go_wp2_with fail
        go_ret
        first | exact ⟨rfl, HB5.out⟩ | exact ⟨rfl, by rw [HX.out]; exact HB5.out⟩
      · have HE : Hid (nn.2.2 = if heldN t.p kk t.p.z = true then 0 else 9) := by
          show _ = _
          rw [← HNN.out]; exact held_next HTI.out hf hkr
        rw [hf, if_pos rfl] at CC
        have HF5 : Hid (fm kk = true) := hf
        clear hf HNN
        go_wp2_with fail
        refine CC.mono ?_; rintro e w6 ⟨rfl, hw6⟩; rw [hw6]; clear hw6 w6 CC
        have kb5 := (h5.lk kk rfl).2
        have hfs := fldS0
        obtain ⟨XX, F, F1, F2⟩ := class_of W5
        have HC : Hid (∃ x, W5.drew = F x) := F2 _ (bdrew1 W5)
        have hSt : ∀ x, Calls Try.prog 17 #[.pointer (some ⟨T, 0, none⟩)] (F x) fun e w'' => e = .returned (.agg #[.int .i64 (t.p.n : Nat), .int .i64 (t4.p.z : Nat), .int .i64 (t4.p.g.f : Nat), .int .i64 t4.hint]) ∧ ∃ y, w'' = F y := fun x => ((h5.below (F1 x)).stats).mono fun e w' hh => by
          rw [← etp]
          exact ⟨hh.1, F2 _ (bthen (F1 x) (F1 x).size hh.2)⟩
        have e0 : ∀ x, (F x).cell? ⟨X + 1, 0, none⟩ = some (.int .i64 kk.1) := fun x => (kb5.below (F1 x)).c0
        have e1 : ∀ x, (F x).cell? ⟨X + 1, 1, none⟩ = some (.int .i64 kk.2.1) := fun x => (kb5.below (F1 x)).c1
        have HW : Hid (∀ x, Ws P1 W (F x) X (.slice a L cap) (some kk) T S hb (3 + 9 * k + 1) t4 s) := fun x => h5.below (F1 x)
        clear h5 kb5 kd0 kd1 kd2 F1 F2 HT
        go_upto_region 18 with fail
        by_cases c0 : kk.1 = 0
        · have hh0 : heldN t.p kk 0 = true := by simp [heldN, c0]
          have g0 : (kk.1 == 0) = true := by simp [c0]
          clear c0
          haveI : Nonempty XX := HC.out.elim fun x _ => ⟨x⟩
          refine wp_class (F := F) (by kernel_rfl) (by kernel_rfl) HC.out ?_
          repeat (go_big_quiet_step (exact hSt _))
          refine wpQuiet_nil ?_
          intro _ hw'
          obtain ⟨x9, rfl⟩ := hw'
          have h9 := HW.out x9
          generalize F x9 = W9 at *
          obtain ⟨A9, b9, a9, tt9⟩ := h9.tt
          have CD := tdump_any tt9.tm tt9.ti
          rw [etp] at CD
          unfold tp at CD
          have H9 : Hid _ := h9
          clear hSt e0 e1 HW HC tt9 h9
          go_wp2_with fail
          refine CD.mono ?_; rintro e Wd ⟨vd, gd, cd, rfl, hd⟩
          have kbd := ((H9.out.below hd.bel).lk kk rfl).2
          have HD : Hid (Dt W9 Wd vd gd cd t.p) := hd
          have HBd : Hid (Below X W Wd) := (H9.out.below hd.bel).bel
          have hzz : t.p.z ≤ 65536 := HTI.out.rt.le
          have HK : Hid (Bx Wd (X + 1) kk) := kbd
          have hXd : X ≤ Wd.heap.size := Nat.le_of_lt (H9.out.below hd.bel).sz
          clear CD hd kbd H9
          go_wp2_with fail
          go_loopw [17, 20] (fun vh iw wq => ∃ i : Nat, iw = .int .i64 (i : Nat) ∧ vh = .bool (heldN t.p kk i) ∧ i ≤ t.p.z ∧ Hid (Below Wd.heap.size Wd wq)) (fun _ iw _ => t.p.z - (intOf iw).toNat)
          case atStart => exact ⟨0, rfl, by rw [hh0], by omega, Below.refl _ _⟩
          case round =>
            obtain ⟨i, rfl, rfl, hi, HBq⟩ := hrel
            by_cases hlz : i < t.p.z
            · have hlz' : (i : Int) < ((t.p.z : Nat) : Int) := by omega
              have hi0 : ¬ ((i : Int) < 0) := by omega
              have hwj : IntKind.i64.wrap ((i : Int) + 1) = (i : Int) + 1 := by rw [IntKind.wrap_i64]; omega
              have n0 := (HBq.out.cell (p := ⟨gd, i * 7 + 0, none⟩) HD.out.lt).trans (HD.out.rc.c i hlz 0 (by omega))
              have n1 := (HBq.out.cell (p := ⟨gd, i * 7 + 1, none⟩) HD.out.lt).trans (HD.out.rc.c i hlz 1 (by omega))
              have n2 := (HBq.out.cell (p := ⟨gd, i * 7 + 2, none⟩) HD.out.lt).trans (HD.out.rc.c i hlz 2 (by omega))
              have m0 := (HBq.out.cell (p := ⟨X + 1, 0, none⟩) HK.out.lt).trans HK.out.c0
              have m1 := (HBq.out.cell (p := ⟨X + 1, 1, none⟩) HK.out.lt).trans HK.out.c1
              have m2 := (HBq.out.cell (p := ⟨X + 1, 2, none⟩) HK.out.lt).trans HK.out.c2
              simp only [nf, nc, Nat.add_zero] at n0 n1 n2
              have hs : heldN t.p kk (i + 1) = (heldN t.p kk i || decide (t.p.g.K i = kk)) := rfl
              have hq : ∀ W', (binOp .eql 33 (vl (t.p.g.K i).1 (t.p.g.K i).2.1 (t.p.g.K i).2.2) (vl kk.1 kk.2.1 kk.2.2)).run Try.prog W' = .ok (.bool (decide (t.p.g.K i = kk))) W' := fun W' => by rw [eql32]
              unfold vl at hq
              cases hh : heldN t.p kk i
              · rw [hh, Bool.false_or] at hs
                have HS : Hid (heldN t.p kk (i + 1) = decide (t.p.g.K i = kk)) := hs
                clear hs hh
                go_wp2_with fail
                go_quiet (fail)
                go_wp2_with fail
                go_round
                case rel => exact ⟨i + 1, by go_num, by rw [HS.out], by omega, HBq.out.trans (by exact ⟨rfl, rfl, rfl, Nat.le_refl _, fun _ _ => rfl⟩)⟩
                case measure => simp [intOf]; omega
              · rw [hh, Bool.true_or] at hs
                have HS : Hid (heldN t.p kk (i + 1) = true) := hs
                clear hs hh
                go_wp2_with fail
                go_quiet (fail)
                go_wp2_with fail
                go_round
                case rel => exact ⟨i + 1, by go_num, by rw [HS.out], by omega, HBq.out.trans (by exact ⟨rfl, rfl, rfl, Nat.le_refl _, fun _ _ => rfl⟩)⟩
                case measure => simp [intOf]; omega
            · have hiz : i = t.p.z := by omega
              subst hiz
              have hlz' : ¬ (((t.p.z : Nat) : Int) < ((t.p.z : Nat) : Int)) := by omega
              have HBz : Hid (Below X W wr) := bthen HBd.out hXd HBq.out
              have hE := HE.out
              cases hh : heldN t.p kk t.p.z
              · rw [hh, if_neg (by decide)] at hE
                have g2 : (nn.2.2 == 9) = true := by rw [hE]; rfl
                clear hE hh HE
                go_wp2_with fail
                go_ret
                first | exact ⟨rfl, HBz.out⟩ | exact ⟨rfl, by rw [HX.out]; exact HBz.out⟩
              · rw [hh, if_pos rfl] at hE
                have g2 : (nn.2.2 == 0) = true := by rw [hE]; rfl
                clear hE hh HE
                go_wp2_with fail
                go_ret
                first | exact ⟨rfl, HBz.out⟩ | exact ⟨rfl, by rw [HX.out]; exact HBz.out⟩
        · have g0 : (kk.1 == 0) = false := by simp [c0]
          by_cases c1 : kk.1 = 2
          · have g1 : (kk.1 == 2) = true := by simp [c1]
            by_cases c2 : 1 ≤ kk.2.1
            · have g2 : decide (1 ≤ kk.2.1) = true := by simp [c2]
              by_cases c3 : kk.2.1 ≤ (t.p.n : Int)
              · have g3 : decide (kk.2.1 ≤ (t.p.n : Int)) = true := by simp [c3]
                have hh0 : heldN t.p kk 0 = true := by simp [heldN, c1, c2, c3]
                clear c0 c1 c2 c3
                haveI : Nonempty XX := HC.out.elim fun x _ => ⟨x⟩
                refine wp_class (F := F) (by kernel_rfl) (by kernel_rfl) HC.out ?_
                repeat (go_big_quiet_step (exact hSt _))
                refine wpQuiet_nil ?_
                intro _ hw'
                obtain ⟨x9, rfl⟩ := hw'
                have h9 := HW.out x9
                generalize F x9 = W9 at *
                obtain ⟨A9, b9, a9, tt9⟩ := h9.tt
                have CD := tdump_any tt9.tm tt9.ti
                rw [etp] at CD
                unfold tp at CD
                have H9 : Hid _ := h9
                clear hSt e0 e1 HW HC tt9 h9
                go_wp2_with fail
                refine CD.mono ?_; rintro e Wd ⟨vd, gd, cd, rfl, hd⟩
                have kbd := ((H9.out.below hd.bel).lk kk rfl).2
                have HD : Hid (Dt W9 Wd vd gd cd t.p) := hd
                have HBd : Hid (Below X W Wd) := (H9.out.below hd.bel).bel
                have hzz : t.p.z ≤ 65536 := HTI.out.rt.le
                have HK : Hid (Bx Wd (X + 1) kk) := kbd
                have hXd : X ≤ Wd.heap.size := Nat.le_of_lt (H9.out.below hd.bel).sz
                clear CD hd kbd H9
                go_wp2_with fail
                go_loopw [17, 20] (fun vh iw wq => ∃ i : Nat, iw = .int .i64 (i : Nat) ∧ vh = .bool (heldN t.p kk i) ∧ i ≤ t.p.z ∧ Hid (Below Wd.heap.size Wd wq)) (fun _ iw _ => t.p.z - (intOf iw).toNat)
                case atStart => exact ⟨0, rfl, by rw [hh0], by omega, Below.refl _ _⟩
                case round =>
                  obtain ⟨i, rfl, rfl, hi, HBq⟩ := hrel
                  by_cases hlz : i < t.p.z
                  · have hlz' : (i : Int) < ((t.p.z : Nat) : Int) := by omega
                    have hi0 : ¬ ((i : Int) < 0) := by omega
                    have hwj : IntKind.i64.wrap ((i : Int) + 1) = (i : Int) + 1 := by rw [IntKind.wrap_i64]; omega
                    have n0 := (HBq.out.cell (p := ⟨gd, i * 7 + 0, none⟩) HD.out.lt).trans (HD.out.rc.c i hlz 0 (by omega))
                    have n1 := (HBq.out.cell (p := ⟨gd, i * 7 + 1, none⟩) HD.out.lt).trans (HD.out.rc.c i hlz 1 (by omega))
                    have n2 := (HBq.out.cell (p := ⟨gd, i * 7 + 2, none⟩) HD.out.lt).trans (HD.out.rc.c i hlz 2 (by omega))
                    have m0 := (HBq.out.cell (p := ⟨X + 1, 0, none⟩) HK.out.lt).trans HK.out.c0
                    have m1 := (HBq.out.cell (p := ⟨X + 1, 1, none⟩) HK.out.lt).trans HK.out.c1
                    have m2 := (HBq.out.cell (p := ⟨X + 1, 2, none⟩) HK.out.lt).trans HK.out.c2
                    simp only [nf, nc, Nat.add_zero] at n0 n1 n2
                    have hs : heldN t.p kk (i + 1) = (heldN t.p kk i || decide (t.p.g.K i = kk)) := rfl
                    have hq : ∀ W', (binOp .eql 33 (vl (t.p.g.K i).1 (t.p.g.K i).2.1 (t.p.g.K i).2.2) (vl kk.1 kk.2.1 kk.2.2)).run Try.prog W' = .ok (.bool (decide (t.p.g.K i = kk))) W' := fun W' => by rw [eql32]
                    unfold vl at hq
                    cases hh : heldN t.p kk i
                    · rw [hh, Bool.false_or] at hs
                      have HS : Hid (heldN t.p kk (i + 1) = decide (t.p.g.K i = kk)) := hs
                      clear hs hh
                      go_wp2_with fail
                      go_quiet (fail)
                      go_wp2_with fail
                      go_round
                      case rel => exact ⟨i + 1, by go_num, by rw [HS.out], by omega, HBq.out.trans (by exact ⟨rfl, rfl, rfl, Nat.le_refl _, fun _ _ => rfl⟩)⟩
                      case measure => simp [intOf]; omega
                    · rw [hh, Bool.true_or] at hs
                      have HS : Hid (heldN t.p kk (i + 1) = true) := hs
                      clear hs hh
                      go_wp2_with fail
                      go_quiet (fail)
                      go_wp2_with fail
                      go_round
                      case rel => exact ⟨i + 1, by go_num, by rw [HS.out], by omega, HBq.out.trans (by exact ⟨rfl, rfl, rfl, Nat.le_refl _, fun _ _ => rfl⟩)⟩
                      case measure => simp [intOf]; omega
                  · have hiz : i = t.p.z := by omega
                    subst hiz
                    have hlz' : ¬ (((t.p.z : Nat) : Int) < ((t.p.z : Nat) : Int)) := by omega
                    have HBz : Hid (Below X W wr) := bthen HBd.out hXd HBq.out
                    have hE := HE.out
                    cases hh : heldN t.p kk t.p.z
                    · rw [hh, if_neg (by decide)] at hE
                      have g2 : (nn.2.2 == 9) = true := by rw [hE]; rfl
                      clear hE hh HE
                      go_wp2_with fail
                      go_ret
                      first | exact ⟨rfl, HBz.out⟩ | exact ⟨rfl, by rw [HX.out]; exact HBz.out⟩
                    · rw [hh, if_pos rfl] at hE
                      have g2 : (nn.2.2 == 0) = true := by rw [hE]; rfl
                      clear hE hh HE
                      go_wp2_with fail
                      go_ret
                      first | exact ⟨rfl, HBz.out⟩ | exact ⟨rfl, by rw [HX.out]; exact HBz.out⟩
              · have g3 : decide (kk.2.1 ≤ (t.p.n : Int)) = false := by simp [c3]
                have hh0 : heldN t.p kk 0 = false := by simp [heldN, c0, c3]
                clear c0 c1 c2 c3
                haveI : Nonempty XX := HC.out.elim fun x _ => ⟨x⟩
                refine wp_class (F := F) (by kernel_rfl) (by kernel_rfl) HC.out ?_
                repeat (go_big_quiet_step (exact hSt _))
                refine wpQuiet_nil ?_
                intro _ hw'
                obtain ⟨x9, rfl⟩ := hw'
                have h9 := HW.out x9
                generalize F x9 = W9 at *
                obtain ⟨A9, b9, a9, tt9⟩ := h9.tt
                have CD := tdump_any tt9.tm tt9.ti
                rw [etp] at CD
                unfold tp at CD
                have H9 : Hid _ := h9
                clear hSt e0 e1 HW HC tt9 h9
                go_wp2_with fail
                refine CD.mono ?_; rintro e Wd ⟨vd, gd, cd, rfl, hd⟩
                have kbd := ((H9.out.below hd.bel).lk kk rfl).2
                have HD : Hid (Dt W9 Wd vd gd cd t.p) := hd
                have HBd : Hid (Below X W Wd) := (H9.out.below hd.bel).bel
                have hzz : t.p.z ≤ 65536 := HTI.out.rt.le
                have HK : Hid (Bx Wd (X + 1) kk) := kbd
                have hXd : X ≤ Wd.heap.size := Nat.le_of_lt (H9.out.below hd.bel).sz
                clear CD hd kbd H9
                go_wp2_with fail
                go_loopw [17, 20] (fun vh iw wq => ∃ i : Nat, iw = .int .i64 (i : Nat) ∧ vh = .bool (heldN t.p kk i) ∧ i ≤ t.p.z ∧ Hid (Below Wd.heap.size Wd wq)) (fun _ iw _ => t.p.z - (intOf iw).toNat)
                case atStart => exact ⟨0, rfl, by rw [hh0], by omega, Below.refl _ _⟩
                case round =>
                  obtain ⟨i, rfl, rfl, hi, HBq⟩ := hrel
                  by_cases hlz : i < t.p.z
                  · have hlz' : (i : Int) < ((t.p.z : Nat) : Int) := by omega
                    have hi0 : ¬ ((i : Int) < 0) := by omega
                    have hwj : IntKind.i64.wrap ((i : Int) + 1) = (i : Int) + 1 := by rw [IntKind.wrap_i64]; omega
                    have n0 := (HBq.out.cell (p := ⟨gd, i * 7 + 0, none⟩) HD.out.lt).trans (HD.out.rc.c i hlz 0 (by omega))
                    have n1 := (HBq.out.cell (p := ⟨gd, i * 7 + 1, none⟩) HD.out.lt).trans (HD.out.rc.c i hlz 1 (by omega))
                    have n2 := (HBq.out.cell (p := ⟨gd, i * 7 + 2, none⟩) HD.out.lt).trans (HD.out.rc.c i hlz 2 (by omega))
                    have m0 := (HBq.out.cell (p := ⟨X + 1, 0, none⟩) HK.out.lt).trans HK.out.c0
                    have m1 := (HBq.out.cell (p := ⟨X + 1, 1, none⟩) HK.out.lt).trans HK.out.c1
                    have m2 := (HBq.out.cell (p := ⟨X + 1, 2, none⟩) HK.out.lt).trans HK.out.c2
                    simp only [nf, nc, Nat.add_zero] at n0 n1 n2
                    have hs : heldN t.p kk (i + 1) = (heldN t.p kk i || decide (t.p.g.K i = kk)) := rfl
                    have hq : ∀ W', (binOp .eql 33 (vl (t.p.g.K i).1 (t.p.g.K i).2.1 (t.p.g.K i).2.2) (vl kk.1 kk.2.1 kk.2.2)).run Try.prog W' = .ok (.bool (decide (t.p.g.K i = kk))) W' := fun W' => by rw [eql32]
                    unfold vl at hq
                    cases hh : heldN t.p kk i
                    · rw [hh, Bool.false_or] at hs
                      have HS : Hid (heldN t.p kk (i + 1) = decide (t.p.g.K i = kk)) := hs
                      clear hs hh
                      go_wp2_with fail
                      go_quiet (fail)
                      go_wp2_with fail
                      go_round
                      case rel => exact ⟨i + 1, by go_num, by rw [HS.out], by omega, HBq.out.trans (by exact ⟨rfl, rfl, rfl, Nat.le_refl _, fun _ _ => rfl⟩)⟩
                      case measure => simp [intOf]; omega
                    · rw [hh, Bool.true_or] at hs
                      have HS : Hid (heldN t.p kk (i + 1) = true) := hs
                      clear hs hh
                      go_wp2_with fail
                      go_quiet (fail)
                      go_wp2_with fail
                      go_round
                      case rel => exact ⟨i + 1, by go_num, by rw [HS.out], by omega, HBq.out.trans (by exact ⟨rfl, rfl, rfl, Nat.le_refl _, fun _ _ => rfl⟩)⟩
                      case measure => simp [intOf]; omega
                  · have hiz : i = t.p.z := by omega
                    subst hiz
                    have hlz' : ¬ (((t.p.z : Nat) : Int) < ((t.p.z : Nat) : Int)) := by omega
                    have HBz : Hid (Below X W wr) := bthen HBd.out hXd HBq.out
                    have hE := HE.out
                    cases hh : heldN t.p kk t.p.z
                    · rw [hh, if_neg (by decide)] at hE
                      have g2 : (nn.2.2 == 9) = true := by rw [hE]; rfl
                      clear hE hh HE
                      go_wp2_with fail
                      go_ret
                      first | exact ⟨rfl, HBz.out⟩ | exact ⟨rfl, by rw [HX.out]; exact HBz.out⟩
                    · rw [hh, if_pos rfl] at hE
                      have g2 : (nn.2.2 == 0) = true := by rw [hE]; rfl
                      clear hE hh HE
                      go_wp2_with fail
                      go_ret
                      first | exact ⟨rfl, HBz.out⟩ | exact ⟨rfl, by rw [HX.out]; exact HBz.out⟩
            · have g2 : decide (1 ≤ kk.2.1) = false := by simp [c2]
              have hh0 : heldN t.p kk 0 = false := by simp [heldN, c0, c2]
              clear c0 c1 c2
              haveI : Nonempty XX := HC.out.elim fun x _ => ⟨x⟩
              refine wp_class (F := F) (by kernel_rfl) (by kernel_rfl) HC.out ?_
              repeat (go_big_quiet_step (exact hSt _))
              refine wpQuiet_nil ?_
              intro _ hw'
              obtain ⟨x9, rfl⟩ := hw'
              have h9 := HW.out x9
              generalize F x9 = W9 at *
              obtain ⟨A9, b9, a9, tt9⟩ := h9.tt
              have CD := tdump_any tt9.tm tt9.ti
              rw [etp] at CD
              unfold tp at CD
              have H9 : Hid _ := h9
              clear hSt e0 e1 HW HC tt9 h9
              go_wp2_with fail
              refine CD.mono ?_; rintro e Wd ⟨vd, gd, cd, rfl, hd⟩
              have kbd := ((H9.out.below hd.bel).lk kk rfl).2
              have HD : Hid (Dt W9 Wd vd gd cd t.p) := hd
              have HBd : Hid (Below X W Wd) := (H9.out.below hd.bel).bel
              have hzz : t.p.z ≤ 65536 := HTI.out.rt.le
              have HK : Hid (Bx Wd (X + 1) kk) := kbd
              have hXd : X ≤ Wd.heap.size := Nat.le_of_lt (H9.out.below hd.bel).sz
              clear CD hd kbd H9
              go_wp2_with fail
              go_loopw [17, 20] (fun vh iw wq => ∃ i : Nat, iw = .int .i64 (i : Nat) ∧ vh = .bool (heldN t.p kk i) ∧ i ≤ t.p.z ∧ Hid (Below Wd.heap.size Wd wq)) (fun _ iw _ => t.p.z - (intOf iw).toNat)
              case atStart => exact ⟨0, rfl, by rw [hh0], by omega, Below.refl _ _⟩
              case round =>
                obtain ⟨i, rfl, rfl, hi, HBq⟩ := hrel
                by_cases hlz : i < t.p.z
                · have hlz' : (i : Int) < ((t.p.z : Nat) : Int) := by omega
                  have hi0 : ¬ ((i : Int) < 0) := by omega
                  have hwj : IntKind.i64.wrap ((i : Int) + 1) = (i : Int) + 1 := by rw [IntKind.wrap_i64]; omega
                  have n0 := (HBq.out.cell (p := ⟨gd, i * 7 + 0, none⟩) HD.out.lt).trans (HD.out.rc.c i hlz 0 (by omega))
                  have n1 := (HBq.out.cell (p := ⟨gd, i * 7 + 1, none⟩) HD.out.lt).trans (HD.out.rc.c i hlz 1 (by omega))
                  have n2 := (HBq.out.cell (p := ⟨gd, i * 7 + 2, none⟩) HD.out.lt).trans (HD.out.rc.c i hlz 2 (by omega))
                  have m0 := (HBq.out.cell (p := ⟨X + 1, 0, none⟩) HK.out.lt).trans HK.out.c0
                  have m1 := (HBq.out.cell (p := ⟨X + 1, 1, none⟩) HK.out.lt).trans HK.out.c1
                  have m2 := (HBq.out.cell (p := ⟨X + 1, 2, none⟩) HK.out.lt).trans HK.out.c2
                  simp only [nf, nc, Nat.add_zero] at n0 n1 n2
                  have hs : heldN t.p kk (i + 1) = (heldN t.p kk i || decide (t.p.g.K i = kk)) := rfl
                  have hq : ∀ W', (binOp .eql 33 (vl (t.p.g.K i).1 (t.p.g.K i).2.1 (t.p.g.K i).2.2) (vl kk.1 kk.2.1 kk.2.2)).run Try.prog W' = .ok (.bool (decide (t.p.g.K i = kk))) W' := fun W' => by rw [eql32]
                  unfold vl at hq
                  cases hh : heldN t.p kk i
                  · rw [hh, Bool.false_or] at hs
                    have HS : Hid (heldN t.p kk (i + 1) = decide (t.p.g.K i = kk)) := hs
                    clear hs hh
                    go_wp2_with fail
                    go_quiet (fail)
                    go_wp2_with fail
                    go_round
                    case rel => exact ⟨i + 1, by go_num, by rw [HS.out], by omega, HBq.out.trans (by exact ⟨rfl, rfl, rfl, Nat.le_refl _, fun _ _ => rfl⟩)⟩
                    case measure => simp [intOf]; omega
                  · rw [hh, Bool.true_or] at hs
                    have HS : Hid (heldN t.p kk (i + 1) = true) := hs
                    clear hs hh
                    go_wp2_with fail
                    go_quiet (fail)
                    go_wp2_with fail
                    go_round
                    case rel => exact ⟨i + 1, by go_num, by rw [HS.out], by omega, HBq.out.trans (by exact ⟨rfl, rfl, rfl, Nat.le_refl _, fun _ _ => rfl⟩)⟩
                    case measure => simp [intOf]; omega
                · have hiz : i = t.p.z := by omega
                  subst hiz
                  have hlz' : ¬ (((t.p.z : Nat) : Int) < ((t.p.z : Nat) : Int)) := by omega
                  have HBz : Hid (Below X W wr) := bthen HBd.out hXd HBq.out
                  have hE := HE.out
                  cases hh : heldN t.p kk t.p.z
                  · rw [hh, if_neg (by decide)] at hE
                    have g2 : (nn.2.2 == 9) = true := by rw [hE]; rfl
                    clear hE hh HE
                    go_wp2_with fail
                    go_ret
                    first | exact ⟨rfl, HBz.out⟩ | exact ⟨rfl, by rw [HX.out]; exact HBz.out⟩
                  · rw [hh, if_pos rfl] at hE
                    have g2 : (nn.2.2 == 0) = true := by rw [hE]; rfl
                    clear hE hh HE
                    go_wp2_with fail
                    go_ret
                    first | exact ⟨rfl, HBz.out⟩ | exact ⟨rfl, by rw [HX.out]; exact HBz.out⟩
          · have g1 : (kk.1 == 2) = false := by simp [c1]
            have hh0 : heldN t.p kk 0 = false := by simp [heldN, c0, c1]
            clear c0 c1
            haveI : Nonempty XX := HC.out.elim fun x _ => ⟨x⟩
            refine wp_class (F := F) (by kernel_rfl) (by kernel_rfl) HC.out ?_
            repeat (go_big_quiet_step (exact hSt _))
            refine wpQuiet_nil ?_
            intro _ hw'
            obtain ⟨x9, rfl⟩ := hw'
            have h9 := HW.out x9
            generalize F x9 = W9 at *
            obtain ⟨A9, b9, a9, tt9⟩ := h9.tt
            have CD := tdump_any tt9.tm tt9.ti
            rw [etp] at CD
            unfold tp at CD
            have H9 : Hid _ := h9
            clear hSt e0 e1 HW HC tt9 h9
            go_wp2_with fail
            refine CD.mono ?_; rintro e Wd ⟨vd, gd, cd, rfl, hd⟩
            have kbd := ((H9.out.below hd.bel).lk kk rfl).2
            have HD : Hid (Dt W9 Wd vd gd cd t.p) := hd
            have HBd : Hid (Below X W Wd) := (H9.out.below hd.bel).bel
            have hzz : t.p.z ≤ 65536 := HTI.out.rt.le
            have HK : Hid (Bx Wd (X + 1) kk) := kbd
            have hXd : X ≤ Wd.heap.size := Nat.le_of_lt (H9.out.below hd.bel).sz
            clear CD hd kbd H9
            go_wp2_with fail
            go_loopw [17, 20] (fun vh iw wq => ∃ i : Nat, iw = .int .i64 (i : Nat) ∧ vh = .bool (heldN t.p kk i) ∧ i ≤ t.p.z ∧ Hid (Below Wd.heap.size Wd wq)) (fun _ iw _ => t.p.z - (intOf iw).toNat)
            case atStart => exact ⟨0, rfl, by rw [hh0], by omega, Below.refl _ _⟩
            case round =>
              obtain ⟨i, rfl, rfl, hi, HBq⟩ := hrel
              by_cases hlz : i < t.p.z
              · have hlz' : (i : Int) < ((t.p.z : Nat) : Int) := by omega
                have hi0 : ¬ ((i : Int) < 0) := by omega
                have hwj : IntKind.i64.wrap ((i : Int) + 1) = (i : Int) + 1 := by rw [IntKind.wrap_i64]; omega
                have n0 := (HBq.out.cell (p := ⟨gd, i * 7 + 0, none⟩) HD.out.lt).trans (HD.out.rc.c i hlz 0 (by omega))
                have n1 := (HBq.out.cell (p := ⟨gd, i * 7 + 1, none⟩) HD.out.lt).trans (HD.out.rc.c i hlz 1 (by omega))
                have n2 := (HBq.out.cell (p := ⟨gd, i * 7 + 2, none⟩) HD.out.lt).trans (HD.out.rc.c i hlz 2 (by omega))
                have m0 := (HBq.out.cell (p := ⟨X + 1, 0, none⟩) HK.out.lt).trans HK.out.c0
                have m1 := (HBq.out.cell (p := ⟨X + 1, 1, none⟩) HK.out.lt).trans HK.out.c1
                have m2 := (HBq.out.cell (p := ⟨X + 1, 2, none⟩) HK.out.lt).trans HK.out.c2
                simp only [nf, nc, Nat.add_zero] at n0 n1 n2
                have hs : heldN t.p kk (i + 1) = (heldN t.p kk i || decide (t.p.g.K i = kk)) := rfl
                have hq : ∀ W', (binOp .eql 33 (vl (t.p.g.K i).1 (t.p.g.K i).2.1 (t.p.g.K i).2.2) (vl kk.1 kk.2.1 kk.2.2)).run Try.prog W' = .ok (.bool (decide (t.p.g.K i = kk))) W' := fun W' => by rw [eql32]
                unfold vl at hq
                cases hh : heldN t.p kk i
                · rw [hh, Bool.false_or] at hs
                  have HS : Hid (heldN t.p kk (i + 1) = decide (t.p.g.K i = kk)) := hs
                  clear hs hh
                  go_wp2_with fail
                  go_quiet (fail)
                  go_wp2_with fail
                  go_round
                  case rel => exact ⟨i + 1, by go_num, by rw [HS.out], by omega, HBq.out.trans (by exact ⟨rfl, rfl, rfl, Nat.le_refl _, fun _ _ => rfl⟩)⟩
                  case measure => simp [intOf]; omega
                · rw [hh, Bool.true_or] at hs
                  have HS : Hid (heldN t.p kk (i + 1) = true) := hs
                  clear hs hh
                  go_wp2_with fail
                  go_quiet (fail)
                  go_wp2_with fail
                  go_round
                  case rel => exact ⟨i + 1, by go_num, by rw [HS.out], by omega, HBq.out.trans (by exact ⟨rfl, rfl, rfl, Nat.le_refl _, fun _ _ => rfl⟩)⟩
                  case measure => simp [intOf]; omega
              · have hiz : i = t.p.z := by omega
                subst hiz
                have hlz' : ¬ (((t.p.z : Nat) : Int) < ((t.p.z : Nat) : Int)) := by omega
                have HBz : Hid (Below X W wr) := bthen HBd.out hXd HBq.out
                have hE := HE.out
                cases hh : heldN t.p kk t.p.z
                · rw [hh, if_neg (by decide)] at hE
                  have g2 : (nn.2.2 == 9) = true := by rw [hE]; rfl
                  clear hE hh HE
                  go_wp2_with fail
                  go_ret
                  first | exact ⟨rfl, HBz.out⟩ | exact ⟨rfl, by rw [HX.out]; exact HBz.out⟩
                · rw [hh, if_pos rfl] at hE
                  have g2 : (nn.2.2 == 0) = true := by rw [hE]; rfl
                  clear hE hh HE
                  go_wp2_with fail
                  go_ret
                  first | exact ⟨rfl, HBz.out⟩ | exact ⟨rfl, by rw [HX.out]; exact HBz.out⟩

end Go.Proofs.Ythlgeohncpmaaab
