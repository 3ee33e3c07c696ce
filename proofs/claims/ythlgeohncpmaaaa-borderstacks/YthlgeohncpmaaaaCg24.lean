/- The walk of BorderTrue. -/
import Derived.Test.YthlgeohncpmaaaaCg23
namespace Go.Proofs.Ythlgeohncpmaaaa
open Go.RowKit

/-- An operation in a block of its own. -/
theorem op8 (w : World) (q : Int × V × V × Int) (ty : Nat) : let W := w.alloc (.cells #[.int .i64 q.1, .int .i64 q.2.1.1, .int .i64 q.2.1.2.1, .string q.2.1.2.2, .int .i64 q.2.2.1.1, .int .i64 q.2.2.1.2.1, .string q.2.2.1.2.2, .int .i64 q.2.2.2] ty)
    Below w.heap.size w W ∧ W.cell? ⟨w.heap.size, 0, none⟩ = some (.int .i64 q.1) ∧ W.cell? ⟨w.heap.size, 1, none⟩ = some (.int .i64 q.2.1.1) ∧ W.cell? ⟨w.heap.size, 2, none⟩ = some (.int .i64 q.2.1.2.1) ∧ W.cell? ⟨w.heap.size, 3, none⟩ = some (.string q.2.1.2.2) ∧ W.cell? ⟨w.heap.size, 4, none⟩ = some (.int .i64 q.2.2.1.1) ∧ W.cell? ⟨w.heap.size, 5, none⟩ = some (.int .i64 q.2.2.1.2.1) ∧ W.cell? ⟨w.heap.size, 6, none⟩ = some (.string q.2.2.1.2.2) ∧ W.cell? ⟨w.heap.size, 7, none⟩ = some (.int .i64 q.2.2.2) := by
  intro W
  have h := (MapKept.heap_alloc w (.cells #[.int .i64 q.1, .int .i64 q.2.1.1, .int .i64 q.2.1.2.1, .string q.2.1.2.2, .int .i64 q.2.2.1.1, .int .i64 q.2.2.1.2.1, .string q.2.2.1.2.2, .int .i64 q.2.2.2] ty)).1
  exact ⟨b1 w _, cell_of_row h 0, cell_of_row h 1, cell_of_row h 2, cell_of_row h 3, cell_of_row h 4, cell_of_row h 5, cell_of_row h 6, cell_of_row h 7⟩
/-- A case that was boxed, behind fixed and begin: where a law of border begins to play. -/
theorem start_case (x y : Int) (a : Option Addr) (L cap : Nat) (W : World) : let W0 := W.alloc (.cells #[.int .i64 x, .int .i64 y, .slice a L cap] 24)
    Below W.heap.size W W0 ∧ W.heap.size < W0.heap.size ∧ W0.cell? ⟨W.heap.size, 0, none⟩ = some (.int .i64 x) ∧ W0.cell? ⟨W.heap.size, 1, none⟩ = some (.int .i64 y) ∧ W0.cell? ⟨W.heap.size, 2, none⟩ = some (.slice a L cap) := by
  intro W0
  have h := (MapKept.heap_alloc W (.cells #[.int .i64 x, .int .i64 y, .slice a L cap] 24)).1
  exact ⟨b1 W _, by simp [W0], cell_of_row h 0, cell_of_row h 1, cell_of_row h 2⟩
/-- fixed in whatever world behind the box, with what the law reads of the box then. -/
theorem start_fixed {W0 W1 : World} {X : Nat} {x y : Int} {v : Value} (hl : X < W0.heap.size) (h0 : W0.cell? ⟨X, 0, none⟩ = some (.int .i64 x)) (h1 : W0.cell? ⟨X, 1, none⟩ = some (.int .i64 y)) (h2 : W0.cell? ⟨X, 2, none⟩ = some v) (k : Below W0.heap.size W0 W1) :
    X < W1.heap.size ∧ W1.cell? ⟨X, 0, none⟩ = some (.int .i64 x) ∧ W1.cell? ⟨X, 1, none⟩ = some (.int .i64 y) ∧ W1.cell? ⟨X, 2, none⟩ = some v :=
  ⟨Nat.lt_of_lt_of_le hl k.size, by rw [k.cell (by exact hl)]; exact h0, by rw [k.cell (by exact hl)]; exact h1, by rw [k.cell (by exact hl)]; exact h2⟩
set_option maxRecDepth 20000 in
set_option maxHeartbeats 4000000 in
theorem btrue_walk (x y : Int) (a : Option Addr) (L cap : Nat) (W : World) (Q : Nat → Int × V × V × Int) (hO : Ops W.heap.size W a L Q) :
    Calls Try.prog 3 #[cw x y (.slice a L cap)] W fun e w' => e = .returned (.bool true) ∧ Below W.heap.size W w' := by
  obtain ⟨B0, hl0, x0, x1, x2⟩ := start_case x y a L cap W
  obtain ⟨W0, hW0⟩ : ∃ W0, W.alloc (.cells #[.int .i64 x, .int .i64 y, .slice a L cap] 24) = W0 := ⟨_, rfl⟩
  rw [hW0] at B0 hl0 x0 x1 x2
  obtain ⟨X, hX⟩ : ∃ X, W.heap.size = X := ⟨_, rfl⟩
  rw [hX] at B0 hl0 x0 x1 x2 hO
  have HX : Hid (W.heap.size = X) := hX
  have C1 := fixed_any W0
  have HO : Hid (∀ w', Below X W w' → Ops X w' a L Q) := fun w' k => hO.below k
  have HB0 : Hid (Below X W W0) := B0
  have HF : Hid (∀ W1, Below W0.heap.size W0 W1 → X < W1.heap.size ∧ W1.cell? ⟨X, 0, none⟩ = some (.int .i64 x) ∧ W1.cell? ⟨X, 1, none⟩ = some (.int .i64 y) ∧ W1.cell? ⟨X, 2, none⟩ = some (.slice a L cap)) := fun W1 k => start_fixed hl0 x0 x1 x2 k
  have HN : Hid (X ≤ W0.heap.size) := Nat.le_of_lt hl0
  clear B0 hO
  unfold cw
  go_enter Try.func3, Try.ntmps3
  go_wp2_with fail
  refine C1.mono ?_; rintro e W1 ⟨rfl, k1⟩
  obtain ⟨hl1, y0, y1, y2⟩ := HF.out W1 k1
  have C2 := begin_any x y (.slice a L cap) W1
  have HB1 : Hid (Below X W W1) := bthen HB0.out HN.out k1
  unfold cw tp at C2
  have HL1 : Hid _ := And.intro hl1 y2
  clear C1 k1
  go_wp2_with fail
  refine C2.mono ?_; rintro e W2 ⟨T, A, b, a', S, hb, RT, t0, s0, rfl, tt, bw, st, _⟩
  have H0 : Hid (Bs (fun g => g ≤ X) W W2 X (.slice a L cap) T S hb 3 t0 s0) := st.bs tt bw HL1.out.1 HB1.out HL1.out.2
  clear C2 tt bw st y0 y1 y2 x0 x1 x2
  go_wp2_with fail
  go_loopw [6] (fun iw wr => ∃ k : Nat, iw = .int .i64 (k : Nat) ∧ k ≤ L ∧ k ≤ 300 ∧ Hid (∃ t s, Bs (fun g => g ≤ X) W wr X (.slice a L cap) T S hb (3 + 150 * k) t s)) (fun iw _ => 300 - (intOf iw).toNat)
  case atStart => exact ⟨0, rfl, by omega, by omega, t0, s0, H0.out⟩
  case round =>
    obtain ⟨k, rfl, hk, hk3, HR0⟩ := hrel
    obtain ⟨t, s, HR⟩ := HR0.out
    clear H0 HR0
    have xc := HR.xc
    by_cases hlt : k < L
    · by_cases hlt3 : k < 300
      · have hlt' : (k : Int) < (L : Int) := by omega
        have hlt3' : (k : Int) < 300 := by omega
        have hk0 : ¬ ((k : Int) < 0) := by omega
        obtain ⟨lb, off, rfl, hlb, i0, i1, i2, i3, i4, i5, i6, i7⟩ := (HO.out wr HR.bel).at hlt
        have hr := ((HO.out wr HR.bel).1 k hlt).1
        have hrN := ((HO.out wr HR.bel).1 k hlt).2
        obtain ⟨ob, o0, o1, o2, o3, o4, o5, o6, o7⟩ := op8 wr (Q k) 33
        have HR1 := HR.below ob
        obtain ⟨W3, hW3⟩ : ∃ W3, wr.alloc (.cells #[.int .i64 (Q k).1, .int .i64 (Q k).2.1.1, .int .i64 (Q k).2.1.2.1, .string (Q k).2.1.2.2, .int .i64 (Q k).2.2.1.1, .int .i64 (Q k).2.2.1.2.1, .string (Q k).2.2.1.2.2, .int .i64 (Q k).2.2.2] 33) = W3 := ⟨_, rfl⟩
        rw [hW3] at o0 o1 o2 o3 o4 o5 o6 o7 HR1
        have hwi : IntKind.i64.wrap ((k : Int) + 1) = (k : Int) + 1 := by rw [IntKind.wrap_i64]; omega
        have hf := fldV
        have CS := HR1.set (by omega) (Q k).2.1 (Q k).2.2.1 hr
        have CH := HR1.hint (Q k).2.2.2
        unfold vv vl tp at CS
        unfold tp at CH
        generalize Q k = q at *
        have HLen : Hid (∀ w1 t s c, c ≤ 700000 → Bs (fun g => g ≤ X) W w1 X (.slice (some ⟨lb, off, none⟩) L cap) T S hb c t s → Calls Try.prog 12 #[.pointer (some ⟨T, 0, none⟩)] w1 fun e w' => e = .returned (.int .i64 (blen t).1) ∧ Bs (fun g => g ≤ X) W w' X (.slice (some ⟨lb, off, none⟩) L cap) T S hb (c + 130) (blen t).2 s ∧ (blen t).2.p = t.p ∧ Bd t.p (blen t).1) := fun w1 t s c hc h => (h.len hc).mono fun e w' hh => ⟨hh.1, hh.2.1, (blen_st h.ti.1 h.hh).1, blen_bd h.ti.1 h.hh⟩
        have HI : Hid (∀ (n : Int) w1 t s c, Bs (fun g => g ≤ X) W w1 X (.slice (some ⟨lb, off, none⟩) L cap) T S hb c t s → Calls Try.prog 14 #[.int .i64 n] w1 fun e w' => e = .returned (.agg #[.int .i64 2, .int .i64 n, .string ⟨#[]⟩]) ∧ Bs (fun g => g ≤ X) W w' X (.slice (some ⟨lb, off, none⟩) L cap) T S hb c t s) := fun n w1 t s c h => (mkI n w1).mono fun e w' hh => ⟨hh.1, h.below hh.2⟩
        have HG : Hid (∀ (n : Int) w1 t s c, c ≤ 700000 → 0 ≤ n → n ≤ (9223372036854775807 : Int) → Bs (fun g => g ≤ X) W w1 X (.slice (some ⟨lb, off, none⟩) L cap) T S hb c t s → Calls Try.prog 13 #[.pointer (some ⟨T, 0, none⟩), .agg #[.int .i64 2, .int .i64 n, .string ⟨#[]⟩]] w1 fun e w' => e = .returned (.agg #[.int .i64 (pget t.p (kn n)).1, .int .i64 (pget t.p (kn n)).2.1, .string (pget t.p (kn n)).2.2]) ∧ ∃ t', t'.p = t.p ∧ Bs (fun g => g ≤ X) W w' X (.slice (some ⟨lb, off, none⟩) L cap) T S hb (c + 1) t' s) := fun n w1 t s c hc h0 h1 h => (h.get hc (kn n) (rng_kn h0 h1)).mono fun e w' hh => ⟨hh.1, { t with pr := t.pr + (prd t.p (kn n) : Nat) }, rfl, hh.2.1⟩
        have HIs : Hid (∀ (n : Int) w1 t s c, c ≤ 700000 → 0 ≤ n → n ≤ (9223372036854775807 : Int) → Bs (fun g => g ≤ X) W w1 X (.slice (some ⟨lb, off, none⟩) L cap) T S hb c t s → Bd t.p n → Calls Try.prog 15 #[.pointer (some ⟨T, 0, none⟩), .int .i64 n] w1 fun e w' => e = .returned (.bool true) ∧ ∃ t', Bs (fun g => g ≤ X) W w' X (.slice (some ⟨lb, off, none⟩) L cap) T S hb (c + 2) t' s) := fun n w1 t s c hc h0 h1 h hb => (h.is hc n (by omega) h1).mono fun e w' hh => ⟨by rw [hh.1, (bis_ok t n h1).2 hb], _, hh.2.1⟩
        clear ob HR HR1
        by_cases hq : q.1 = 5
        · have hq5 : (q.1 == 5) = true := by simp [hq]
          clear hq CS
          go_wp2_with fail
          refine CH.mono ?_; rintro e W4 ⟨rfl, b4, _⟩
          have b5 := b4.more (by omega : 3 + 150 * k + 1 ≤ 3 + 150 * k + 7)
          generalize tHint t q.2.2.2 = t1 at b5
          clear CH b4
          have C5 := HLen.out W4 t1 s _ (by omega) b5
          generalize hn : (blen t1).1 = n at C5
          generalize (blen t1).2 = t2 at C5
          clear b5 hn
          go_wp2_with fail
          refine C5.mono ?_; rintro e W5 ⟨rfl, b6, ep, hbd⟩
          have HBd : Hid (Bd t2.p n) := by show Bd _ _; rw [ep]; exact hbd
          have hn0 : ¬ (n < 0) := by have := HBd.out.1; omega
          have hnx : n ≤ (9223372036854775807 : Int) := HBd.out.2.1
          clear C5 ep hbd
          have C6 := HI.out n W5 _ _ _ b6
          have C6' := fun (hx : n < (9223372036854775807 : Int)) => HI.out (n + 1) W5 _ _ _ b6
          have C6'' := fun (hx : n = (9223372036854775807 : Int)) => HIs.out n W5 _ _ _ (by omega) (by omega) hnx b6 HBd.out
          have H6 : Hid _ := b6
          clear b6
          by_cases hz : n = 0
          · subst hz
            have C7 := C6' (by omega)
            clear C6 C6' C6''
            go_wp2_with fail
            refine C7.mono ?_; rintro e W6 ⟨rfl, b7⟩
            have C8 := HG.out 1 W6 _ _ _ (by omega) (by omega) (by omega) b7
            have hp1 : ((pget t2.p (kn 1)).1 != 0) = false := by
              have := HBd.out.2.2.2.resolve_left (by omega)
              rw [bne_dec]; exact this
            clear C7 b7
            go_wp2_with fail
            refine C8.mono ?_; rintro e W7 ⟨rfl, t3, ep3, b8⟩
            have C9 := HIs.out 0 W7 _ _ _ (by omega) (by omega) (by omega) b8 (by rw [ep3]; exact HBd.out)
            clear C8 b8
            go_wp2_with fail
            refine C9.mono ?_; rintro e W8 ⟨rfl, t4, b9⟩
            have H9 : Hid _ := b9
            clear C9 b9
            go_wp2_with fail
            go_round
            case rel => exact ⟨k + 1, by go_num, by omega, by omega, _, _, H9.out.more (by omega)⟩
            case measure => simp [intOf]; omega
          · have hn1 : (0 : Int) < n := by omega
            have hp0 : ((pget t2.p (kn n)).1 == 0) = false := by
              have h1 := HBd.out.2.2.1.resolve_left hz
              have h2 : ((pget t2.p (kn n)).1 != 0) = true := by rw [bne_dec]; exact h1
              simpa using h2
            by_cases hm : n = (9223372036854775807 : Int)
            · have C7 := C6
              have hnl : ¬ (n < (9223372036854775807 : Int)) := by omega
              clear C6 C6' C6''
              subst hm
              go_wp2_with fail
              refine C7.mono ?_; rintro e W6 ⟨rfl, b7⟩
              have C8 := HG.out (9223372036854775807 : Int) W6 _ _ _ (by omega) (by omega) (by omega) b7
              clear C7 b7
              go_wp2_with fail
              refine C8.mono ?_; rintro e W7 ⟨rfl, t3, ep3, b8⟩
              have C9 := HIs.out (9223372036854775807 : Int) W7 _ _ _ (by omega) (by omega) (by omega) b8 (by rw [ep3]; exact HBd.out)
              clear C8 b8
              go_wp2_with fail
              refine C9.mono ?_; rintro e W8 ⟨rfl, t4, b9⟩
              have H9 : Hid _ := b9
              clear C9 b9
              go_wp2_with fail
              go_round
              case rel => exact ⟨k + 1, by go_num, by omega, by omega, _, _, H9.out.more (by omega)⟩
              case measure => simp [intOf]; omega
            · have hnl : n < (9223372036854775807 : Int) := by omega
              have hwn : IntKind.i64.wrap (n + 1) = n + 1 := by rw [IntKind.wrap_i64]; omega
              have C7 := C6
              clear C6 C6' C6''
              have hp1 : ((pget t2.p (kn (n + 1))).1 != 0) = false := by
                have := HBd.out.2.2.2.resolve_left hm
                rw [bne_dec]; exact this
              clear hm hz
              go_wp2_with fail
              refine C7.mono ?_; rintro e W6 ⟨rfl, b7⟩
              have C8 := HG.out n W6 _ _ _ (by omega) (by omega) hnx b7
              clear C7 b7
              go_wp2_with fail
              refine C8.mono ?_; rintro e W7 ⟨rfl, t3, ep3, b8⟩
              have C9 := HI.out (n + 1) W7 _ _ _ b8
              clear C8 b8
              go_wp2_with fail
              refine C9.mono ?_; rintro e W8 ⟨rfl, b9⟩
              have Ca := HG.out (n + 1) W8 _ _ _ (by omega) (by omega) (by omega) b9
              rw [ep3] at Ca
              clear C9 b9
              go_wp2_with fail
              refine Ca.mono ?_; rintro e W9 ⟨rfl, t5, ep5, ba⟩
              have Cb := HIs.out n W9 _ _ _ (by omega) (by omega) hnx ba (by rw [ep5]; exact HBd.out)
              clear Ca ba
              go_wp2_with fail
              refine Cb.mono ?_; rintro e Wa ⟨rfl, t6, bb⟩
              have H9 : Hid _ := bb
              clear Cb bb
              go_wp2_with fail
              go_round
              case rel => exact ⟨k + 1, by go_num, by omega, by omega, _, _, H9.out.more (by omega)⟩
              case measure => simp [intOf]; omega
        · have hq5 : (q.1 == 5) = false := by simp [hq]
          clear hq CH
          go_wp2_with fail
          refine CS.mono ?_; rintro e W4 ⟨rfl, b5, _⟩
          generalize (tset t s q.2.1 q.2.2.1).1 = t1 at b5
          generalize (tset t s q.2.1 q.2.2.1).2.1 = s1 at b5
          clear CS
          have C5 := HLen.out W4 t1 s1 _ (by omega) b5
          generalize hn : (blen t1).1 = n at C5
          generalize (blen t1).2 = t2 at C5
          clear b5 hn
          go_wp2_with fail
          refine C5.mono ?_; rintro e W5 ⟨rfl, b6, ep, hbd⟩
          have HBd : Hid (Bd t2.p n) := by show Bd _ _; rw [ep]; exact hbd
          have hn0 : ¬ (n < 0) := by have := HBd.out.1; omega
          have hnx : n ≤ (9223372036854775807 : Int) := HBd.out.2.1
          clear C5 ep hbd
          have C6 := HI.out n W5 _ _ _ b6
          have C6' := fun (hx : n < (9223372036854775807 : Int)) => HI.out (n + 1) W5 _ _ _ b6
          have C6'' := fun (hx : n = (9223372036854775807 : Int)) => HIs.out n W5 _ _ _ (by omega) (by omega) hnx b6 HBd.out
          have H6 : Hid _ := b6
          clear b6
          by_cases hz : n = 0
          · subst hz
            have C7 := C6' (by omega)
            clear C6 C6' C6''
            go_wp2_with fail
            refine C7.mono ?_; rintro e W6 ⟨rfl, b7⟩
            have C8 := HG.out 1 W6 _ _ _ (by omega) (by omega) (by omega) b7
            have hp1 : ((pget t2.p (kn 1)).1 != 0) = false := by
              have := HBd.out.2.2.2.resolve_left (by omega)
              rw [bne_dec]; exact this
            clear C7 b7
            go_wp2_with fail
            refine C8.mono ?_; rintro e W7 ⟨rfl, t3, ep3, b8⟩
            have C9 := HIs.out 0 W7 _ _ _ (by omega) (by omega) (by omega) b8 (by rw [ep3]; exact HBd.out)
            clear C8 b8
            go_wp2_with fail
            refine C9.mono ?_; rintro e W8 ⟨rfl, t4, b9⟩
            have H9 : Hid _ := b9
            clear C9 b9
            go_wp2_with fail
            go_round
            case rel => exact ⟨k + 1, by go_num, by omega, by omega, _, _, H9.out.more (by omega)⟩
            case measure => simp [intOf]; omega
          · have hn1 : (0 : Int) < n := by omega
            have hp0 : ((pget t2.p (kn n)).1 == 0) = false := by
              have h1 := HBd.out.2.2.1.resolve_left hz
              have h2 : ((pget t2.p (kn n)).1 != 0) = true := by rw [bne_dec]; exact h1
              simpa using h2
            by_cases hm : n = (9223372036854775807 : Int)
            · have C7 := C6
              have hnl : ¬ (n < (9223372036854775807 : Int)) := by omega
              clear C6 C6' C6''
              subst hm
              go_wp2_with fail
              refine C7.mono ?_; rintro e W6 ⟨rfl, b7⟩
              have C8 := HG.out (9223372036854775807 : Int) W6 _ _ _ (by omega) (by omega) (by omega) b7
              clear C7 b7
              go_wp2_with fail
              refine C8.mono ?_; rintro e W7 ⟨rfl, t3, ep3, b8⟩
              have C9 := HIs.out (9223372036854775807 : Int) W7 _ _ _ (by omega) (by omega) (by omega) b8 (by rw [ep3]; exact HBd.out)
              clear C8 b8
              go_wp2_with fail
              refine C9.mono ?_; rintro e W8 ⟨rfl, t4, b9⟩
              have H9 : Hid _ := b9
              clear C9 b9
              go_wp2_with fail
              go_round
              case rel => exact ⟨k + 1, by go_num, by omega, by omega, _, _, H9.out.more (by omega)⟩
              case measure => simp [intOf]; omega
            · have hnl : n < (9223372036854775807 : Int) := by omega
              have hwn : IntKind.i64.wrap (n + 1) = n + 1 := by rw [IntKind.wrap_i64]; omega
              have C7 := C6
              clear C6 C6' C6''
              have hp1 : ((pget t2.p (kn (n + 1))).1 != 0) = false := by
                have := HBd.out.2.2.2.resolve_left hm
                rw [bne_dec]; exact this
              clear hm hz
              go_wp2_with fail
              refine C7.mono ?_; rintro e W6 ⟨rfl, b7⟩
              have C8 := HG.out n W6 _ _ _ (by omega) (by omega) hnx b7
              clear C7 b7
              go_wp2_with fail
              refine C8.mono ?_; rintro e W7 ⟨rfl, t3, ep3, b8⟩
              have C9 := HI.out (n + 1) W7 _ _ _ b8
              clear C8 b8
              go_wp2_with fail
              refine C9.mono ?_; rintro e W8 ⟨rfl, b9⟩
              have Ca := HG.out (n + 1) W8 _ _ _ (by omega) (by omega) (by omega) b9
              rw [ep3] at Ca
              clear C9 b9
              go_wp2_with fail
              refine Ca.mono ?_; rintro e W9 ⟨rfl, t5, ep5, ba⟩
              have Cb := HIs.out n W9 _ _ _ (by omega) (by omega) hnx ba (by rw [ep5]; exact HBd.out)
              clear Ca ba
              go_wp2_with fail
              refine Cb.mono ?_; rintro e Wa ⟨rfl, t6, bb⟩
              have H9 : Hid _ := bb
              clear Cb bb
              go_wp2_with fail
              go_round
              case rel => exact ⟨k + 1, by go_num, by omega, by omega, _, _, H9.out.more (by omega)⟩
              case measure => simp [intOf]; omega
      · obtain rfl : k = 300 := by omega
        have hlt' : ((300 : Nat) : Int) < (L : Int) := by omega
        go_wp2_with fail
        go_ret
        first | exact ⟨rfl, HR.bel⟩ | exact ⟨rfl, by rw [HX.out]; exact HR.bel⟩
    · obtain rfl : k = L := by omega
      have hlt' : ¬ ((k : Int) < (k : Int)) := by omega
      go_wp2_with fail
      go_ret
      first | exact ⟨rfl, HR.bel⟩ | exact ⟨rfl, by rw [HX.out]; exact HR.bel⟩
end Go.Proofs.Ythlgeohncpmaaaa
