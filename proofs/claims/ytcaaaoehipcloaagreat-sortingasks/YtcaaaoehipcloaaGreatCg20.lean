/- The sorter within a body, on: put; a callee at a world as it is; the walk of leave. -/
import Derived.Test.YtcaaaoehipcloaaGreatCg19
namespace Go.Proofs.YtcaaaoehipcloaaGreat
open Go.RowKit

theorem putD_eta (d : SD) (a : Int) (v : V) (b : Int) (u : V) : putD d a v b u = (d.1, (putD d a v b u).2) := by
  have e : (putD d a v b u).1 = d.1 := by unfold putD stD; split <;> rfl
  exact Prod.ext e rfl
theorem Sk.pu0 {N2 : Nat → Prop} {W0 w w' : World} {B : Nat} {wv : Value} {T A b a S hb c : Nat} {d : SD} (h : Sk N2 W0 w B wv T A b a S hb c d) (hw : Below w.heap.size w w') (hc : c ≤ 600000) (i1 i2 : Int) (v u : V) (h1 : -9223372036854775808 ≤ i1) (h2 : i1 ≤ 9223372036854775807) (h3 : -9223372036854775808 ≤ i2) (h4 : i2 ≤ 9223372036854775807) :
    Calls Tryz.prog 67 #[.pointer (some ⟨B, 0, none⟩), .int .i64 i1, .agg #[.int .i64 v.1, .int .i64 v.2.1, .string v.2.2], .int .i64 i2, .agg #[.int .i64 u.1, .int .i64 u.2.1, .string u.2.2]] w' fun e w' => e = .returned (.int .i64 (putE d i1 v i2 u)) ∧ ∃ A' b' a', Sk N2 W0 w' B wv T A' b' a' S hb (c + 14) (d.1, (putD d i1 v i2 u).2) :=
  (put_any (h.below hw).so hc i1 i2 v u h1 h2 h3 h4).mono fun _ _ hh => ⟨hh.1, by
    obtain ⟨A', b', a', q⟩ := hh.2.1
    rw [putD_eta] at q
    exact ⟨A', b', a', q, (h.below hw).kp.trans (hh.2.2.sub (fun _ q => .inl q))⟩⟩
theorem Sk.rdw {N2 : Nat → Prop} {W0 w w' : World} {B : Nat} {wv : Value} {T A b a S hb c : Nat} {d : SD} (h : Sk N2 W0 w B wv T A b a S hb c d) (hw : Below w.heap.size w w') (hc : c ≤ 900000) (n : Int) (h1 : -9223372036854775808 ≤ n) (h2 : n ≤ 9223372036854775807) :
    Calls Tryz.prog 70 #[.pointer (some ⟨B, 0, none⟩), .int .i64 n] w' fun e w' => e = .returned (.agg #[.int .i64 (rdV d n).1, .int .i64 (rdV d n).2.1, .string (rdV d n).2.2]) ∧ Sk N2 W0 w' B wv T A b a S hb (c + 1) (rdD d n) := (h.below hw).rd0 hc n h1 h2
/-- A function of the sorter, called within a body. -/
theorem Sk.of0 {N2 : Nat → Prop} {W0 w w' : World} {B : Nat} {wv : Value} {T A b a S hb c c' : Nat} {d : SD} {f : FuncId} {xs : Array Value} {r : SD × Tol} (h : Sk N2 W0 w B wv T A b a S hb c d) (hw : Below w.heap.size w w') (C : ∀ {No : Nat → Prop} {w : World}, So No w B wv T A b a S hb c d → Calls Tryz.prog f xs w (GP No w B T S hb c' r)) :
    Calls Tryz.prog f xs w' (Gk N2 W0 B T S hb c' r) :=
  (C (h.below hw).so).mono fun _ _ hh => ⟨hh.1, by
    obtain ⟨wv', A', b', a', q⟩ := hh.2.1
    exact ⟨wv', A', b', a', q, (h.below hw).kp.trans hh.2.2⟩⟩
theorem Sk.en0 {N2 : Nat → Prop} {W0 w w' : World} {B : Nat} {wv : Value} {T A b a S hb c : Nat} {d : SD} (h : Sk N2 W0 w B wv T A b a S hb c d) (hw : Below w.heap.size w w') (er : Int) :
    Calls Tryz.prog 68 #[.pointer (some ⟨B, 0, none⟩), .int .i64 er] w' (Gk N2 W0 B T S hb c (endD d er, endT er)) :=
  (end_any (h.below hw).so er).mono fun _ _ hh => ⟨hh.1, _, _, _, _, hh.2.1, (h.below hw).kp.trans hh.2.2⟩
theorem Sk.askw {N2 : Nat → Prop} {W0 w w' : World} {B : Nat} {wv : Value} {T A b a S hb c : Nat} {d : SD} (h : Sk N2 W0 w B wv T A b a S hb c d) (hw : Below w.heap.size w w') (k : Int) (v u : V) :
    Calls Tryz.prog 71 #[.pointer (some ⟨B, 0, none⟩), .int .i64 k, .agg #[.int .i64 v.1, .int .i64 v.2.1, .string v.2.2], .agg #[.int .i64 u.1, .int .i64 u.2.1, .string u.2.2]] w' (Gk N2 W0 B T S hb c (askD d k, askT v u)) :=
  (ask_any (h.below hw).so k v u).mono fun _ _ hh => ⟨hh.1, _, _, _, _, hh.2.1, (h.below hw).kp.trans hh.2.2⟩
theorem Gk.more {N2 : Nat → Prop} {W0 : World} {B T S hb c c' : Nat} {r : SD × Tol} {e : Ending} {w : World} (h : Gk N2 W0 B T S hb c r e w) (hc : c ≤ c') : Gk N2 W0 B T S hb c' r e w := by
  obtain ⟨h1, wv', A', b', a', q⟩ := h
  exact ⟨h1, wv', A', b', a', q.more hc⟩
theorem bself (w : World) : Below w.heap.size w w := bdrewN w 0
set_option maxRecDepth 20000 in
set_option maxHeartbeats 4000000 in
theorem leave_any {No : Nat → Prop} {w : World} {B : Nat} {wv : Value} {T A b a S hb c : Nat} {d : SD} (h : So No w B wv T A b a S hb c d) (hc : c ≤ 800000) (hr : ∀ r ∈ d.1.wt, r.1 < r.2 → -4611686018427387904 ≤ r.1 ∧ r.2 ≤ 4611686018427387904) :
    Calls Tryz.prog 69 #[.pointer (some ⟨B, 0, none⟩)] w (GP No w B T S hb (c + 2) (leaveR d)) := by
  obtain ⟨N2, s0, HF0⟩ := h.tell2
  have HF : Hid _ := HF0
  obtain ⟨W0, hW0⟩ : ∃ W0, w.alloc z8 = W0 := ⟨_, rfl⟩
  rw [hW0] at HF s0
  unfold z8 at hW0
  clear HF0
  have a1 : W0.cell? ⟨B, 1, none⟩ = some (.int .i64 d.1.lo) := s0.so.cell (j := 1) rfl
  have a2 : W0.cell? ⟨B, 2, none⟩ = some (.int .i64 d.1.up) := s0.so.cell (j := 2) rfl
  have f0 := s0.so.free
  have s1 := (s0.st1 1 0 { d.1 with lo := 0 } rfl rfl).st1 2 0 { d.1 with lo := 0, up := 0 } rfl rfl
  obtain ⟨W1, hW1⟩ : ∃ W1, (W0.setCell ⟨B, 1, none⟩ (.int .i64 0)).setCell ⟨B, 2, none⟩ (.int .i64 0) = W1 := ⟨_, rfl⟩
  rw [hW1] at s1
  have C := s1.of0 (f := 48) (xs := #[.pointer (some ⟨B, 0, none⟩)]) (bself W1) (fun q => nrow_any q hc (fun r hr' hlt => by
    rcases List.mem_cons.1 hr' with e | e
    · subst e; exact absurd (show (0 : Int) < 0 from hlt) (by omega)
    · exact hr r e hlt))
  obtain ⟨R, hR⟩ : ∃ R, leaveR d = R := ⟨_, rfl⟩
  have hR' : nrow ({ d.1 with lo := 0, up := 0 }, d.2) = R := hR
  rw [hR]
  simp only at C
  rw [hR'] at C
  unfold GP
  clear h s0 s1 hR hR' hr
  go_enter Tryz.func69, Tryz.ntmps69
  go_wp2_with fail
  refine (C).mono ?_
  rintro e w4 ⟨rfl, wv4, A4, b4, a4, s4⟩
  obtain ⟨r4, r5, s5, k5⟩ := HF.out w4 wv4 A4 b4 a4 _ _ R.2 s4
  have HZ : Hid (_ ∧ _ ∧ _) := ⟨r5, s5, k5⟩
  obtain ⟨tl, htl⟩ : ∃ tl, R.2 = tl := ⟨_, rfl⟩
  rw [htl] at HZ ⊢
  obtain ⟨W5, hW5⟩ : ∃ W5, set8 w4 w.heap.size tl = W5 := ⟨_, rfl⟩
  rw [hW5] at HZ
  unfold set8 at hW5
  unfold tolV
  obtain ⟨n0, n1, n2, n3, n4, n5, n6, n7⟩ := r4.eight
  simp only [nil] at n0 n1 n2 n3 n4 n5 n6 n7
  have nf := fun j => r4.free j
  clear r4 r5 s5 k5 s4 HF C
  go_wp2
  obtain ⟨q1, q2, q3⟩ := HZ.out
  obtain ⟨r0, r1, r2, r3, r4, r5, r6, r7⟩ := q1.eight
  exact bodyPost_ret (v := tolV tl) (by simp [results, Tryz.results69, go_sem, r0, r1, r2, r3, r4, r5, r6, r7, tolV]) rfl ⟨by first | rfl | rw [htl], ⟨_, _, _, _, q2.more (by omega)⟩, q3⟩
end Go.Proofs.YtcaaaoehipcloaaGreat
