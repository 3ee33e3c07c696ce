/- The walk of BorderReads. -/
import Derived.Test.YthlgeohncpmaaaaCg24
import Derived.Test.YthlgeohncpmaaaaCg26
namespace Go.Proofs.Ythlgeohncpmaaaa
open Go.RowKit

set_option maxRecDepth 20000 in
set_option maxHeartbeats 4000000 in
theorem breads_walk (x y : Int) (a : Option Addr) (L cap : Nat) (W : World) (Q : Nat → Int × V × V × Int) (hO : Ops W.heap.size W a L Q) :
    Calls Try.prog 6 #[cw x y (.slice a L cap)] W fun e w' => e = .returned (.bool true) ∧ Below W.heap.size W w' := by
  obtain ⟨B0, hl0, x0, x1, x2⟩ := start_case x y a L cap W
  obtain ⟨W0, hW0⟩ : ∃ W0, W.alloc (.cells #[.int .i64 x, .int .i64 y, .slice a L cap] 24) = W0 := ⟨_, rfl⟩
  rw [hW0] at B0 hl0 x0 x1 x2
  obtain ⟨X, hX⟩ : ∃ X, W.heap.size = X := ⟨_, rfl⟩
  rw [hX] at B0 hl0 x0 x1 x2 hO
  have HX : Hid (W.heap.size = X) := hX
  have C1 := fixed_any W0
  have HO : Hid (∀ w', Below X W w' → Ops X w' a L Q) := fun w' k => hO.below k
  have HB0 : Hid (Below X W W0) := B0
  have HF : Hid (∀ W1, Below W0.heap.size W0 W1 → X < W1.heap.size ∧ W1.cell? ⟨X, 0, none⟩ = some (.int .i64 x) ∧ W1.cell? ⟨X, 1, none⟩ = some (.int .i64 y) ∧ W1.cell? ⟨X, 2, none⟩ = some (.slice a L cap)) := fun W1 k => start_fixed hl0 x0 x1 x2 k
  have HN : Hid (X ≤ W0.heap.size) := Nat.le_of_lt hl0
  clear B0 hO
  unfold cw
  go_enter Try.func6, Try.ntmps6
  go_wp2_with fail
  refine C1.mono ?_; rintro e W1 ⟨rfl, k1⟩
  obtain ⟨hl1, y0, y1, y2⟩ := HF.out W1 k1
  have C2 := begin_any x y (.slice a L cap) W1
  have HB1 : Hid (Below X W W1) := bthen HB0.out HN.out k1
  unfold cw tp at C2
  have HL1 : Hid _ := And.intro hl1 y2
  clear C1 k1
  go_wp2_with fail
  refine C2.mono ?_; rintro e W2 ⟨T, A, b, a', S, hb, RT, t0, s0, rfl, tt, bw, st, _⟩
  have H0 : Hid (Bs (fun g => g ≤ X) W W2 X (.slice a L cap) T S hb 3 t0 s0) := st.bs tt bw HL1.out.1 HB1.out HL1.out.2
  clear C2 tt bw st y0 y1 y2 x0 x1 x2
  go_wp2_with fail
  go_loopw [6] (fun iw wr => ∃ k : Nat, iw = .int .i64 (k : Nat) ∧ k ≤ L ∧ k ≤ 300 ∧ Hid (∃ t s, Bs (fun g => g ≤ X) W wr X (.slice a L cap) T S hb (3 + 150 * k) t s)) (fun iw _ => 300 - (intOf iw).toNat)
  case atStart => exact ⟨0, rfl, by omega, by omega, t0, s0, H0.out⟩
  case round =>
    obtain ⟨k, rfl, hk, hk3, HR0⟩ := hrel
    obtain ⟨t, s, HR⟩ := HR0.out
    clear H0 HR0
    have xc := HR.xc
    by_cases hlt : k < L
    · by_cases hlt3 : k < 300
      · have hlt' : (k : Int) < (L : Int) := by omega
        have hlt3' : (k : Int) < 300 := by omega
        have hk0 : ¬ ((k : Int) < 0) := by omega
        obtain ⟨lb, off, rfl, hlb, i0, i1, i2, i3, i4, i5, i6, i7⟩ := (HO.out wr HR.bel).at hlt
        have hr := ((HO.out wr HR.bel).1 k hlt).1
        have hrN := ((HO.out wr HR.bel).1 k hlt).2
        have hwi : IntKind.i64.wrap ((k : Int) + 1) = (k : Int) + 1 := by rw [IntKind.wrap_i64]; omega
        have CS := (HR.below (bdrew1 wr)).set (by omega) (Q k).2.1 (Q k).2.2.1 hr
        unfold vv vl tp at CS
        generalize Q k = q at *
        clear HR
        have hf3 := fld3
        unfold sv at hf3
        go_wp2_with fail
        refine wp_tail 13 (by kernel_rfl) (by kernel_rfl) ?_
        simp only [List.take_succ_cons, List.take_zero, List.drop_succ_cons, List.drop_zero]
        repeat still_step
        refine wpStill_nil ?_
        go_wp2_with fail
        refine CS.mono ?_; rintro e W4 ⟨rfl, b4, _⟩
        generalize (tset t s q.2.1 q.2.2.1).1 = t1 at b4
        generalize (tset t s q.2.1 q.2.2.1).2.1 = s1 at b4
        clear CS xc i0 i1 i2 i3 i4 i5 i6 i7
        have C5 := b4.stats
        unfold ts sv tp at C5
        have H4 : Hid _ := b4
        clear b4
        go_wp2_with fail
        refine C5.mono ?_; rintro e W5 ⟨rfl, k5⟩
        have b5 := H4.out.below k5
        have C6 := b5.probes
        unfold tp at C6
        have H5 : Hid _ := b5
        clear C5 k5 b5 H4
        go_wp2_with fail
        refine C6.mono ?_; rintro e W6 ⟨rfl, hw6⟩; rw [hw6]; clear hw6 C6 W6
        have bn := (MapKept.heap_alloc W5 (.cells #[.int .i64 (t1.p.n : Nat), .int .i64 (t1.p.z : Nat), .int .i64 (t1.p.g.f : Nat), .int .i64 t1.hint] 45)).1
        have bb := b1 W5 (.cells #[.int .i64 (t1.p.n : Nat), .int .i64 (t1.p.z : Nat), .int .i64 (t1.p.g.f : Nat), .int .i64 t1.hint] 45)
        have lt6 : W5.heap.size < (W5.alloc (.cells #[.int .i64 (t1.p.n : Nat), .int .i64 (t1.p.z : Nat), .int .i64 (t1.p.g.f : Nat), .int .i64 t1.hint] 45)).heap.size := by simp
        obtain ⟨W6, hW6⟩ : ∃ W6, W5.alloc (.cells #[.int .i64 (t1.p.n : Nat), .int .i64 (t1.p.z : Nat), .int .i64 (t1.p.g.f : Nat), .int .i64 t1.hint] 45) = W6 := ⟨_, rfl⟩
        rw [hW6] at bn bb lt6
        have d0 : W6.cell? ⟨W5.heap.size, 0, none⟩ = some (.int .i64 (t1.p.n : Nat)) := cell_of_row bn 0
        have d3 : W6.cell? ⟨W5.heap.size, 3, none⟩ = some (.int .i64 t1.hint) := cell_of_row bn 3
        have CP := pair_last (H5.out.below bb)
        have HD : Hid (∀ W', Below W6.heap.size W6 W' → W'.cell? ⟨W5.heap.size, 0, none⟩ = some (.int .i64 (t1.p.n : Nat)) ∧ W'.cell? ⟨W5.heap.size, 3, none⟩ = some (.int .i64 t1.hint) ∧ Below W5.heap.size W5 W' ∧ W5.heap.size < W'.heap.size) := fun W' q => ⟨by rw [q.cell (by exact lt6)]; exact d0, by rw [q.cell (by exact lt6)]; exact d3, bthen bb bb.size q, Nat.lt_of_lt_of_le lt6 q.size⟩
        unfold vv vl tp at CP
        clear bn bb lt6
        go_wp2_with fail
        refine CP.mono ?_; rintro e W7 ⟨y7, z7, rfl, k7, hz7⟩
        have HZ : Hid _ := hz7
        have bz := (MapKept.heap_alloc (W7.alloc (.cells #[.int .i64 y7.1, .int .i64 y7.2.1, .string y7.2.2] 31)) (.cells #[.int .i64 z7.1, .int .i64 z7.2.1, .string z7.2.2] 31)).1
        have es : (W7.alloc (.cells #[.int .i64 y7.1, .int .i64 y7.2.1, .string y7.2.2] 31)).heap.size = W7.heap.size + 1 := by simp
        rw [es] at bz
        have ez : W7.heap.size + 1 < ((W7.alloc (.cells #[.int .i64 y7.1, .int .i64 y7.2.1, .string y7.2.2] 31)).alloc (.cells #[.int .i64 z7.1, .int .i64 z7.2.1, .string z7.2.2] 31)).heap.size := by simp
        have bb := b2 W7 (.cells #[.int .i64 y7.1, .int .i64 y7.2.1, .string y7.2.2] 31) (.cells #[.int .i64 z7.1, .int .i64 z7.2.1, .string z7.2.2] 31)
        obtain ⟨W8, hW8⟩ : ∃ W8, (W7.alloc (.cells #[.int .i64 y7.1, .int .i64 y7.2.1, .string y7.2.2] 31)).alloc (.cells #[.int .i64 z7.1, .int .i64 z7.2.1, .string z7.2.2] 31) = W8 := ⟨_, rfl⟩
        rw [hW8] at bz bb ez
        have k8 := bthen k7 k7.size bb
        obtain ⟨_, _, k58, l58⟩ := HD.out W8 k8
        have b8 := H5.out.news k58
        have C8 := b8.len (by omega)
        have h57 : W5.heap.size ≤ W7.heap.size := by obtain ⟨_, _, q, _⟩ := HD.out W7 k7; exact q.size
        have HE : Hid (∀ W', Keep (fun g => (g ≤ X) ∨ (W5.heap.size ≤ g ∧ g < W8.heap.size)) W8 W' → W'.cell? ⟨W5.heap.size, 0, none⟩ = some (.int .i64 (t1.p.n : Nat)) ∧ W'.cell? ⟨W5.heap.size, 3, none⟩ = some (.int .i64 t1.hint) ∧ W'.cell? ⟨W7.heap.size + 1, 0, none⟩ = some (.int .i64 z7.1)) := fun W' q => by
          obtain ⟨g0, g3, _, _⟩ := HD.out W8 k8
          have q1 := q.block W5.heap.size l58 (.inr ⟨Nat.le_refl _, l58⟩)
          have q2 := q.block (W7.heap.size + 1) ez (.inr ⟨by omega, ez⟩)
          exact ⟨by rw [World.cell?_of_block (w := W8) q1]; exact g0, by rw [World.cell?_of_block (w := W8) q1]; exact g3, by rw [World.cell?_of_block (w := W8) q2]; exact cell_of_row bz 0⟩
        obtain ⟨_, _, _, _, _, hst⟩ := blen_st H5.out.ti.1 H5.out.hh
        have HSt : Hid _ := hst
        unfold tp at C8
        clear CP hz7 bz bb k8 k58 l58 b8 k7 d0 d3 h57 hst
        go_wp2_with fail
        refine C8.mono ?_; rintro e W9 ⟨rfl, b9, k9⟩
        obtain ⟨f0, f3, fz⟩ := HE.out W9 k9
        have HB9 : Hid (Bs (fun g => g ≤ X) W W9 X (.slice (some ⟨lb, off, none⟩) L cap) T S hb (3 + 150 * k + 7 + 130) (blen t1).2 s1) := b9.sub (fun g hg => .inl hg) (fun g hg => hg)
        have CPr := b9.probes
        have CSt := b9.stats
        have CSt0 : ∀ m, Calls Try.prog 16 #[tp T] (W9.drewN m) fun e w' => e = .returned (ts (blen t1).2) ∧ Below W9.heap.size W9 w' := fun m => ((b9.below (bdrew _ _ m)).stats).mono fun e w' hh => ⟨hh.1, bthen (bdrew _ W9 m) (Nat.le_refl _) hh.2⟩
        have HBl : Hid (∀ W', Below W9.heap.size W9 W' → Bs (fun g => g ≤ X) W W' X (.slice (some ⟨lb, off, none⟩) L cap) T S hb (3 + 150 * k + 7 + 130) (blen t1).2 s1 ∧ W'.cell? ⟨W5.heap.size, 0, none⟩ = some (.int .i64 (t1.p.n : Nat)) ∧ W'.cell? ⟨W5.heap.size, 3, none⟩ = some (.int .i64 t1.hint)) := fun W' q => ⟨HB9.out.below q, by rw [q.cell (by exact World.block_lt_of_cell? W9 _ f0)]; exact f0, by rw [q.cell (by exact World.block_lt_of_cell? W9 ⟨W5.heap.size, 0, none⟩ f0)]; exact f3⟩
        unfold tp at CPr
        unfold ts sv tp at CSt CSt0
        clear C8 b9 k9
        rcases HSt.out with ⟨n0, s0', e2, hlt2⟩ | ⟨nn, e2, hle2⟩
        · have hz0 : (z7.1 == 0) = true := by
            have := HZ.out n0
            rw [s0'] at this
            have h2 : (z7.1 != 0) = false := this.symm
            simpa using h2
          have hn0 : (0 : Int) < (t1.p.n : Int) := by omega
          have ep : (blen t1).2.pr = t1.pr := by rw [e2]
          have eh : (blen t1).2.hint = (blen t1).1 := by rw [e2]
          rw [ep] at CPr
          rw [eh] at CSt
          have hge : ¬ ((t1.p.n : Int) ≤ (blen t1).1) := by omega
          have hq1 : (t1.pr != t1.pr) = false := by simp
          have hq2 : ((blen t1).1 != (blen t1).1) = false := by simp
          clear e2 ep eh n0 s0' hlt2
          go_wp2_with fail
          refine CPr.mono ?_; rintro e w9 ⟨rfl, hw9⟩; rw [hw9]; clear hw9 CPr w9
          go_wp2_with fail
          refine CSt.mono ?_; rintro e Wa ⟨rfl, ka⟩
          obtain ⟨ba, fa0, fa3⟩ := HBl.out Wa ka
          have HB9 : Hid _ := ba
          clear CSt ka ba
          go_wp2_with fail
          go_round
          case rel => exact ⟨k + 1, by go_num, by omega, by omega, _, _, HB9.out.more (by omega)⟩
          case measure => simp [intOf]; omega
        · have eh : (blen t1).2.hint = t1.hint := by rw [e2]
          simp only [eh] at CSt0
          have CSt' := CSt0
          clear CSt0 CSt
          have hq2 : (t1.hint != t1.hint) = false := by simp
          have hge : ¬ ((blen t1).1 < (t1.p.n : Int)) := by omega
          clear e2 eh
          by_cases hn0 : t1.p.n = 0
          · have hn1 : ¬ ((0 : Int) < (t1.p.n : Int)) := by omega
            clear hn0
            go_upto_region 16 with fail
            go_cut [96] from 85 to 96 (fun x wx => x = .bool false ∧ Hid (∃ t s, Bs (fun g => g ≤ X) W wx X (.slice (some ⟨lb, off, none⟩) L cap) T S hb (3 + 150 * k + 7 + 130) t s))
            case first =>
              go_region_with (go_at_call 16; refine (CSt' _).mono ?_; rintro e Wa ⟨rfl, ka⟩; obtain ⟨ba, fa0, fa3⟩ := HBl.out Wa ka; have HBa : Hid _ := ba; clear ba)
              all_goals
                go_wp2_with fail
                go_meet
                exact ⟨by first | rfl | rw [decide_eq_false (Int.not_lt.2 hge)], _, _, HBa.out⟩
            case rest =>
              obtain ⟨rfl, HBc⟩ := hcut
              go_wp2_with fail
              go_round
              case rel => obtain ⟨t', s', h'⟩ := HBc.out; exact ⟨k + 1, by go_num, by omega, by omega, t', s', h'.more (by omega)⟩
              case measure => simp [intOf]; omega
          · have hn1 : (0 : Int) < (t1.p.n : Int) := by omega
            have hz0 : (z7.1 == 0) = false := by
              have := HZ.out hn0
              cases hs1 : sl t1.p t1.p.n with
              | false => exact absurd ⟨hn0, hs1⟩ nn
              | true =>
                rw [hs1] at this
                have h2 : (z7.1 != 0) = true := this.symm
                simpa using h2
            clear hn0 nn
            go_upto_region 16 with fail
            go_cut [96] from 85 to 96 (fun x wx => x = .bool false ∧ Hid (∃ t s, Bs (fun g => g ≤ X) W wx X (.slice (some ⟨lb, off, none⟩) L cap) T S hb (3 + 150 * k + 7 + 130) t s))
            case first =>
              go_region_with (go_at_call 16; refine (CSt' _).mono ?_; rintro e Wa ⟨rfl, ka⟩; obtain ⟨ba, fa0, fa3⟩ := HBl.out Wa ka; have HBa : Hid _ := ba; clear ba)
              all_goals
                go_wp2_with fail
                go_meet
                exact ⟨by first | rfl | rw [decide_eq_false (Int.not_lt.2 hge)], _, _, HBa.out⟩
            case rest =>
              obtain ⟨rfl, HBc⟩ := hcut
              go_wp2_with fail
              go_round
              case rel => obtain ⟨t', s', h'⟩ := HBc.out; exact ⟨k + 1, by go_num, by omega, by omega, t', s', h'.more (by omega)⟩
              case measure => simp [intOf]; omega
      · obtain rfl : k = 300 := by omega
        have hlt' : ((300 : Nat) : Int) < (L : Int) := by omega
        go_wp2_with fail
        go_ret
        first | exact ⟨rfl, HR.bel⟩ | exact ⟨rfl, by rw [HX.out]; exact HR.bel⟩
    · obtain rfl : k = L := by omega
      have hlt' : ¬ ((k : Int) < (k : Int)) := by omega
      go_wp2_with fail
      go_ret
      first | exact ⟨rfl, HR.bel⟩ | exact ⟨rfl, by rw [HX.out]; exact HR.bel⟩
end Go.Proofs.Ythlgeohncpmaaaa
