/- The walk of Sort, where an order answers. -/
import Derived.Test.YtkmopcanaalemabGreatCg32
import Derived.Test.YtkmopcanaalemabGreatCg48
import Derived.Test.YtkmopcanaalemabGreatCg33
import Derived.Test.YtkmopcanaalemabGreatCg00
import Derived.Test.YtkmopcanaalemabGreatCg46
namespace Go.Proofs.YtkmopcanaalemabGreat
open Go.RowKit

/-- What Sort answers and leaves. -/
structure Sro (No : Nat → Prop) (w : World) (T S hb c : Nat) (n : Nat) (lt : V → V → Bool) (M : TS → H.St → (Int → V) → Prop) (f : Int → V) (e : Ending) (w' : World) : Prop where
  ex : ∃ (q : Nat) (g : Int → V) (A b a : Nat) (t : TS) (s : H.St), e = .returned (.tuple #[.int .i64 (q : Int), .int .i64 0]) ∧ (1 < n → 1 ≤ q) ∧ q ≤ 3600 ∧ TT No w' T A b a S hb c t s ∧ M t s g ∧ U.Sc n f g ∧ U.Srt lt g n ∧ Keep No w w'
set_option maxRecDepth 20000 in
set_option maxHeartbeats 8000000 in
theorem sort_any {n : Nat} {Gd : V → Prop} {lt : V → V → Bool} {M : TS → H.St → (Int → V) → Prop} (hd : U.Hd n Gd M) (ho : U.Od Gd lt)
    (hO : ∀ (W : World) (x y : V), Gd x → Gd y → Calls Tryz.prog 38 #[.agg #[.int .i64 x.1, .int .i64 x.2.1, .string x.2.2], .agg #[.int .i64 y.1, .int .i64 y.2.1, .string y.2.2]] W fun e w' => ∃ o : Int, e = .returned (.tuple #[.int .i64 o, .int .i64 0]) ∧ decide (o < 0) = lt x y ∧ Below W.heap.size W w')
    {No : Nat → Prop} {w : World} {T A b a S hb c : Nat} {t : TS} {s : H.St} (tt : TT No w T A b a S hb c t s) (hc : c ≤ 280000) (hn : n ≤ 60) (fuel : Int) (hfu : 3600 ≤ fuel) {f : Int → V} (hm : M t s f) :
    Calls Tryz.prog 15 #[.pointer (some ⟨T, 0, none⟩), .int .i64 (n : Int), .int .i64 fuel] w (Sro No w T S hb (c + 120000) n lt M f) := by
  have CN0 := snew_any tt (n : Int)
  have HM0 : Hid (M t s f) := hm
  have HO : Hid (∀ (W : World) (x y : V), Gd x → Gd y → Calls Tryz.prog 38 #[.agg #[.int .i64 x.1, .int .i64 x.2.1, .string x.2.2], .agg #[.int .i64 y.1, .int .i64 y.2.1, .string y.2.2]] W fun e w' => ∃ o : Int, e = .returned (.tuple #[.int .i64 o, .int .i64 0]) ∧ decide (o < 0) = lt x y ∧ Below W.heap.size W w') := hO
  have HD : Hid (U.Hd n Gd M ∧ U.Od Gd lt) := ⟨hd, ho⟩
  have hf0 : ¬ fuel < 0 := by omega
  have hq1 : (n : Int) * (n : Int) ≤ 60 * 60 := Int.mul_le_mul (by omega) (by omega) (by omega) (by omega)
  have hq0 : 0 ≤ (n : Int) * (n : Int) := Int.mul_nonneg (by omega) (by omega)
  obtain ⟨Q1, hQ1⟩ : ∃ Q1, (n : Int) * (n : Int) = Q1 := ⟨_, rfl⟩
  rw [hQ1] at hq1 hq0
  have hst := U.sq_top n
  rw [hQ1] at hst
  clear tt hm hO hd ho hQ1
  go_enter Tryz.func15, Tryz.ntmps15
  go_wp2_with fail
  refine CN0.mono ?_; rintro e w1 ⟨rfl, so, kp⟩
  obtain ⟨B, hB⟩ : ∃ B, w.heap.size = B := ⟨_, rfl⟩
  rw [hB] at so
  rw [hB]
  have H0 : Hid (∃ (wv : Value) (A b a : Nat) (d : SD) (g : Int → V), So No w1 B wv T A b a S hb (c + 31 * 0) d ∧ M d.2.1 d.2.2 g ∧ U.Sc n f g ∧ U.Nx n d.1 g (Q1 - ((0 : Nat) : Int)) ∧ (d.1 = U.s0 (n : Int) ∨ (U.OI n lt d.1 g ∧ false = lt (U.qs d.1).1 (U.qs d.1).2 ∧ 0 < 0)) ∧ d.1.wt.length ≤ 0 ∧ Keep No w w1) := ⟨_, _, _, _, _, _, so, HM0.out, U.Sc.refl _ _, .inl ⟨rfl, by omega⟩, .inl rfl, Nat.le_refl _, kp⟩
  clear CN0 so kp HM0 hB hst
  go_wp2_with fail
  go_loopw [9, 10] (fun lw iw wr => ∃ (i : Nat) (less : Bool), iw = .int .i64 (i : Nat) ∧ lw = .bool less ∧ (i : Int) ≤ Q1 ∧ Hid (∃ (wv : Value) (A b a : Nat) (d : SD) (g : Int → V), So No wr B wv T A b a S hb (c + 31 * i) d ∧ M d.2.1 d.2.2 g ∧ U.Sc n f g ∧ U.Nx n d.1 g (Q1 - (i : Int)) ∧ (d.1 = U.s0 (n : Int) ∨ (U.OI n lt d.1 g ∧ less = lt (U.qs d.1).1 (U.qs d.1).2 ∧ 0 < i)) ∧ d.1.wt.length ≤ i ∧ Keep No w wr)) (fun _ iw _ => (Q1 + 1).toNat - (intOf iw).toNat)
  case atStart => exact ⟨0, false, rfl, rfl, hq0, H0⟩
  case round =>
    obtain ⟨i2, less, rfl, rfl, hi2, HR⟩ := hrel
    obtain ⟨wv, A, b, a, d, gf, so, mt, sc, nx, hz, hw, kp⟩ := HR.out
    clear HR H0
    have hi3 : i2 ≤ 3600 := by omega
    obtain ⟨fit, ha⟩ := nx.fit (by omega) (by omega)
    have CN := next_any so (by omega) fit less ha
    have bh := U.Nx.both HD.out.1 HD.out.2 mt nx (hz.imp id (fun q => q.1)) (less := less) (hz.imp id (fun q => q.2.1))
    have hlen := U.go_len d less
    have hfirst : 1 < n → (goR d less).2.2.2.1 = false → 1 ≤ i2 := fun hn1 he => by
      rcases hz with e | e
      · exfalso
        obtain ⟨ds, dt⟩ := d
        simp only at e
        subst e
        have e1 : goR (U.s0 (n : Int), dt) less = nrow (U.s0 (n : Int), dt) := rfl
        rw [e1, nrow_some (by show (1 : Int) < (n : Int); omega)] at he
        cases he
      · exact e.2.2
    obtain ⟨R, hR⟩ : ∃ R, goR d less = R := ⟨_, rfl⟩
    rw [hR] at CN bh hlen hfirst
    obtain ⟨gn, sc5, mt5, hcase⟩ := bh
    have HK : Hid (Keep No w wr ∧ (1 < n → R.2.2.2.1 = false → 1 ≤ i2) ∧ R.1.1.wt.length ≤ i2 + 1 ∧ U.Sc n f gn ∧ M R.1.2.1 R.1.2.2 gn) := ⟨kp, hfirst, by omega, sc.trans sc5, mt5⟩
    unfold tol4 at CN
    obtain ⟨tl, htl⟩ : ∃ tl, R.2 = tl := ⟨_, rfl⟩
    rw [htl] at CN hcase
    have HT : Hid (R.2 = tl) := htl
    clear so mt sc nx hw kp fit ha hlen hR htl hz hfirst sc5 mt5
    go_wp2_with fail
    refine CN.mono ?_; rintro e w5 ⟨rfl, ⟨wv5, A5, B5, D5, s5⟩, k5⟩
    have B6 := b2 w5 (vb tl.1.1 tl.1.2.1 tl.1.2.2) (vb tl.2.1.1 tl.2.1.2.1 tl.2.1.2.2)
    have s6 := s5.below B6
    have HK6 : Hid (Keep No w ((w5.alloc (vb tl.1.1 tl.1.2.1 tl.1.2.2)).alloc (vb tl.2.1.1 tl.2.1.2.1 tl.2.1.2.2))) := (HK.out.1.trans k5).trans (Keep.of B6)
    have X1 := (Bx.made w5 tl.1).below (bw1 (w5.alloc (vb tl.1.1 tl.1.2.1 tl.1.2.2)) (vb tl.2.1.1 tl.2.1.2.1 tl.2.1.2.2))
    have X2 := Bx.made (w5.alloc (vb tl.1.1 tl.1.2.1 tl.1.2.2)) tl.2.1
    have z5 : (w5.alloc (vb tl.1.1 tl.1.2.1 tl.1.2.2)).heap.size = w5.heap.size + 1 := by simp
    rw [z5] at X2
    obtain ⟨W6, hW6⟩ : ∃ W6, (w5.alloc (vb tl.1.1 tl.1.2.1 tl.1.2.2)).alloc (vb tl.2.1.1 tl.2.1.2.1 tl.2.1.2.2) = W6 := ⟨_, rfl⟩
    rw [hW6] at s6 HK6 X1 X2
    unfold vb at hW6
    have x0 := X1.c0
    have x1 := X1.c1
    have x2 := X1.c2
    have y0 := X2.c0
    have y1 := X2.c1
    have y2 := X2.c2
    clear B6 s5 k5 CN X1 X2 z5
    rcases hcase with ⟨t1, t2, si, oi, lf⟩ | ⟨e1, e2, e3⟩
    · have hgd := U.qs_at si (P := Gd) (fun k k1 k2 => HD.out.1.gd _ _ gn k HK.out.2.2.2.2 k1 k2)
      have HS6 : Hid (So No W6 B wv5 T A5 B5 D5 S hb (c + 31 * i2 + 31) R.1 ∧ U.OI n lt R.1.1 gn ∧ U.Nx n R.1.1 gn (Q1 - ((i2 + 1 : Nat) : Int)) ∧ tl.1 = (U.qs R.1.1).1 ∧ tl.2.1 = (U.qs R.1.1).2) := ⟨s6, oi, .inr ⟨si, by omega⟩, by rw [t2]; rfl, by rw [t2]; rfl⟩
      have hnn : (i2 : Int) + 1 ≤ Q1 := by have := HS6.out.2.2.1.nn; omega
      have hne : ¬ (i2 : Int) = fuel := by omega
      have wi2 : IntKind.i64.wrap ((i2 : Int) + 1) = (i2 : Int) + 1 := by rw [IntKind.wrap_i64]; omega
      rw [← HS6.out.2.2.2.1, ← HS6.out.2.2.2.2] at hgd
      have CO := HO.out W6 tl.1 tl.2.1 hgd.1 hgd.2
      obtain ⟨ta, tb, tm, te⟩ := tl
      simp only at t1 x0 x1 x2 y0 y1 y2 hW6 CO ⊢
      subst t1
      clear si oi lf s6 t2 hgd
      go_wp2_with fail
      refine CO.mono ?_; rintro e w7 ⟨o, rfl, ho7, hb7⟩
      have HB7 : Hid (Below W6.heap.size W6 w7 ∧ decide (o < 0) = lt ta tb) := ⟨hb7, ho7⟩
      clear CO hb7 ho7
      go_wp2_with fail
      go_round
      case rel =>
        refine ⟨i2 + 1, decide (o < 0), by first | rfl | simp, by first | rfl | simp, by omega, ⟨_, _, _, _, _, _, (HS6.out.1.below HB7.out.1).more (by omega), HK.out.2.2.2.2, HK.out.2.2.2.1, HS6.out.2.2.1, .inr ⟨HS6.out.2.1, ?_, by omega⟩, HK.out.2.2.1, HK6.out.trans (Keep.of HB7.out.1)⟩⟩
        rw [HB7.out.2]
        have q1 := HS6.out.2.2.2.1
        have q2 := HS6.out.2.2.2.2
        rw [q1, q2]
      case measure => first | omega | (simp only [intOf]; omega) | (simp; omega)
    · have HE : Hid (∃ (g : Int → V) (A b a : Nat) (t : TS) (s : H.St), (1 < n → 1 ≤ i2) ∧ TT No W6 T A b a S hb (c + 120000) t s ∧ M t s g ∧ U.Sc n f g ∧ U.Srt lt g n) := ⟨gn, _, _, _, _, _, fun hn1 => HK.out.2.1 hn1 (by rw [HT.out, e2]; rfl), (s6.tt.more (by omega)).sub (fun g q => .inl q), HK.out.2.2.2.2, HK.out.2.2.2.1, e3⟩
      obtain ⟨ta, tb, tm, te⟩ := tl
      have q3 : tm = false := congrArg (fun z : Tol => z.2.2.1) e2
      have q4 : te = 0 := congrArg (fun z : Tol => z.2.2.2) e2
      simp only at hW6 ⊢
      subst q3 q4
      clear e1 e2 e3 s6
      go_wp2_with fail
      obtain ⟨g, A', b', a', t', s', r1, r2, r3, r4, r5⟩ := HE.out
      exact bodyPost_ret (v := .tuple #[.int .i64 (i2 : Int), .int .i64 0]) (by simp [results, Tryz.results15, go_sem]) rfl ⟨i2, g, A', b', a', t', s', rfl, r1, hi3, r2, r3, r4, r5, HK6.out⟩
end Go.Proofs.YtkmopcanaalemabGreat

/- The walk of box.Order of two Ints. -/
namespace Go.Proofs.YtkmopcanaalemabGreat
open Go.RowKit

theorem ta_yes (t : TypeId) (v : Value) (w : World) (u : TypeDesc) (hu : Tryz.prog.underlying t = some u) (hn : ∀ ms, u ≠ .interface ms) : (Instr.typeAssert (.iface t v) 20 t true).run Tryz.prog w = .ok (.tuple #[v, .bool true]) w := by
  unfold Instr.typeAssert
  cases u <;> simp_all [run_underlying hu, go_sem, Result.andThen]
theorem y127 (v : Value) (w : World) : (Instr.typeAssert (.iface 127 v) 20 127 true).run Tryz.prog w = .ok (.tuple #[v, .bool true]) w := ta_yes 127 v w _ Tryz.underlying127 (by intro ms h; cases h)
set_option maxRecDepth 20000 in
set_option maxHeartbeats 4000000 in
theorem oput_int (n : Int) (w : World) : Calls Tryz.prog 108 #[.agg #[.int .i64 2, .int .i64 n, .string ⟨#[]⟩]] w fun e w' => e = .returned (.tuple #[.iface 127 (.int .i64 n), .int .i64 0]) ∧ Below w.heap.size w w' := by
  have B0 := b1 w (vb 2 n ⟨#[]⟩)
  have X := Bx.made w (kn n)
  obtain ⟨W0, hW0⟩ : ∃ W0, w.alloc (vb 2 n ⟨#[]⟩) = W0 := ⟨_, rfl⟩
  rw [hW0] at B0 X
  have CK := check_any 2 n ⟨#[]⟩ W0
  have hc : chk 2 n ⟨#[]⟩ = 0 := by simp [chk, inF, ByteArray.toList_eq]
  rw [hc] at CK
  have B1 := b1 W0 (vb 2 n ⟨#[]⟩)
  have Y := X.below B1
  obtain ⟨W1, hW1⟩ : ∃ W1, W0.alloc (vb 2 n ⟨#[]⟩) = W1 := ⟨_, rfl⟩
  rw [hW1] at CK B1 Y
  have HB : Hid (Below w.heap.size w W1) := bthen B0 B0.size B1
  have x0 := X.c0
  have x1 := X.c1
  have x2 := X.c2
  have y0 := Y.c0
  have y1 := Y.c1
  have y2 := Y.c2
  unfold vl at CK
  unfold vb at hW0
  clear B0 B1 X Y hc
  go_enter Tryz.func108, Tryz.ntmps108
  go_wp2_with fail
  refine CK.mono ?_; rintro e w1 ⟨rfl, hw1⟩; rw [hw1]; clear hw1 CK
  go_wp2
  exact bodyPost_ret (v := .tuple #[.iface 127 (.int .i64 n), .int .i64 0]) (by simp [results, Tryz.results108, go_sem]) rfl ⟨rfl, HB.out⟩
set_option maxRecDepth 20000 in
theorem nan_int (n : Int) (w : World) : Calls Tryz.prog 109 #[.int .i64 n] w fun e w' => e = .returned (.bool false) ∧ w' = w := by
  go_enter Tryz.func109, Tryz.ntmps109
  go_wp2
  go_ret
  exact ⟨rfl, rfl⟩
/-- How two numbers compare. -/
def cmpI (x y : Int) : Int := if x < y then -1 else if y < x then 1 else 0
set_option maxRecDepth 20000 in
set_option maxHeartbeats 4000000 in
theorem cmp_int (x y : Int) (w : World) : Calls Tryz.prog 79 #[.int .i64 x, .int .i64 y] w fun e w' => e = .returned (.int .i64 (cmpI x y)) ∧ w' = w := by
  have C1 := nan_int x w
  have C2 := nan_int y w
  unfold cmpI
  by_cases h1 : x < y
  · rw [if_pos h1]
    go_enter Tryz.func79, Tryz.ntmps79
    go_wp2_with fail
    refine C1.mono ?_; rintro e w1 ⟨rfl, hw1⟩; rw [hw1]; clear hw1
    go_wp2_with fail
    refine C2.mono ?_; rintro e w2 ⟨rfl, hw2⟩; rw [hw2]; clear hw2
    go_wp2
    go_ret
    exact ⟨rfl, rfl⟩
  · rw [if_neg h1]
    by_cases h2 : y < x
    · rw [if_pos h2]
      go_enter Tryz.func79, Tryz.ntmps79
      go_wp2_with fail
      refine C1.mono ?_; rintro e w1 ⟨rfl, hw1⟩; rw [hw1]; clear hw1
      go_wp2_with fail
      refine C2.mono ?_; rintro e w2 ⟨rfl, hw2⟩; rw [hw2]; clear hw2
      go_wp2
      go_ret
      exact ⟨rfl, rfl⟩
    · rw [if_neg h2]
      go_enter Tryz.func79, Tryz.ntmps79
      go_wp2_with fail
      refine C1.mono ?_; rintro e w1 ⟨rfl, hw1⟩; rw [hw1]; clear hw1
      go_wp2_with fail
      refine C2.mono ?_; rintro e w2 ⟨rfl, hw2⟩; rw [hw2]; clear hw2
      go_wp2
      go_ret
      exact ⟨rfl, rfl⟩
set_option maxRecDepth 20000 in
set_option maxHeartbeats 4000000 in
theorem both_int (x y : Int) (w : World) : Calls Tryz.prog 78 #[.agg #[.int .i64 2, .int .i64 x, .string ⟨#[]⟩], .agg #[.int .i64 2, .int .i64 y, .string ⟨#[]⟩]] w fun e w' => e = .returned (.tuple #[.iface 127 (.int .i64 x), .iface 127 (.int .i64 y), .int .i64 0]) ∧ Below w.heap.size w w' := by
  have B0 := b2 w (vb 2 x ⟨#[]⟩) (vb 2 y ⟨#[]⟩)
  have X := (Bx.made w (kn x)).below (b1 (w.alloc (vb 2 x ⟨#[]⟩)) (vb 2 y ⟨#[]⟩))
  have Y := Bx.made (w.alloc (vb 2 x ⟨#[]⟩)) (kn y)
  have z : (w.alloc (vb 2 x ⟨#[]⟩)).heap.size = w.heap.size + 1 := by simp
  rw [z] at Y
  obtain ⟨W0, hW0⟩ : ∃ W0, (w.alloc (vb 2 x ⟨#[]⟩)).alloc (vb 2 y ⟨#[]⟩) = W0 := ⟨_, rfl⟩
  rw [hW0] at B0 X Y
  have C1 := oput_int x W0
  have HY : Hid (Bx W0 (w.heap.size + 1) (kn y) ∧ Below w.heap.size w W0) := ⟨Y, B0⟩
  have x0 := X.c0
  have x1 := X.c1
  have x2 := X.c2
  unfold vb at hW0
  clear B0 X Y z
  go_enter Tryz.func78, Tryz.ntmps78
  go_wp2_with fail
  refine C1.mono ?_; rintro e w1 ⟨rfl, hb1⟩
  have Y1 := HY.out.1.below hb1
  have y0 := Y1.c0
  have y1 := Y1.c1
  have y2 := Y1.c2
  have C2 := oput_int y w1
  have HB1 : Hid (Below w.heap.size w w1) := bthen HY.out.2 HY.out.2.size hb1
  clear Y1 hb1 C1 HY
  go_wp2_with fail
  refine C2.mono ?_; rintro e w2 ⟨rfl, hb2⟩
  have HB2 : Hid (Below w.heap.size w w2) := bthen HB1.out HB1.out.size hb2
  clear hb2 C2 HB1
  go_wp2
  exact bodyPost_ret (v := .tuple #[.iface 127 (.int .i64 x), .iface 127 (.int .i64 y), .int .i64 0]) (by simp [results, Tryz.results78, go_sem]) rfl ⟨rfl, HB2.out⟩
set_option maxRecDepth 20000 in
set_option maxHeartbeats 4000000 in
theorem order_int (x y : Int) (w : World) : Calls Tryz.prog 38 #[.agg #[.int .i64 2, .int .i64 x, .string ⟨#[]⟩], .agg #[.int .i64 2, .int .i64 y, .string ⟨#[]⟩]] w fun e w' => e = .returned (.tuple #[.int .i64 (cmpI x y), .int .i64 0]) ∧ Below w.heap.size w w' := by
  have B0 := b2 w (vb 2 x ⟨#[]⟩) (vb 2 y ⟨#[]⟩)
  have X := (Bx.made w (kn x)).below (b1 (w.alloc (vb 2 x ⟨#[]⟩)) (vb 2 y ⟨#[]⟩))
  have Y := Bx.made (w.alloc (vb 2 x ⟨#[]⟩)) (kn y)
  have z : (w.alloc (vb 2 x ⟨#[]⟩)).heap.size = w.heap.size + 1 := by simp
  rw [z] at Y
  obtain ⟨W0, hW0⟩ : ∃ W0, (w.alloc (vb 2 x ⟨#[]⟩)).alloc (vb 2 y ⟨#[]⟩) = W0 := ⟨_, rfl⟩
  rw [hW0] at B0 X Y
  have C1 := both_int x y W0
  have HB0 : Hid (Below w.heap.size w W0) := B0
  have x0 := X.c0
  have x1 := X.c1
  have x2 := X.c2
  have y0 := Y.c0
  have y1 := Y.c1
  have y2 := Y.c2
  unfold vb at hW0
  clear B0 X Y z
  go_enter Tryz.func38, Tryz.ntmps38
  go_wp2_with fail
  refine C1.mono ?_; rintro e w1 ⟨rfl, hb1⟩
  have C2 := cmp_int x y w1
  have HB1 : Hid (Below w.heap.size w w1) := bthen HB0.out HB0.out.size hb1
  have ty := y127
  clear hb1 C1 HB0
  go_wp2_with fail
  refine C2.mono ?_; rintro e w2 ⟨rfl, hw2⟩; rw [hw2]; clear hw2 C2
  go_wp2
  exact bodyPost_ret (v := .tuple #[.int .i64 (cmpI x y), .int .i64 0]) (by simp [results, Tryz.results38, go_sem]) rfl ⟨rfl, HB1.out⟩
/-- The order of Ints. -/
def Gi (v : V) : Prop := v = kn v.2.1
def ltI (x y : V) : Bool := decide (x.2.1 < y.2.1)
theorem od_int : U.Od Gi ltI where
  irr := fun a _ => by unfold ltI; simp
  tr := fun a b c _ _ _ h1 h2 => by unfold ltI at *; simp only [decide_eq_false_iff_not] at *; omega
  asy := fun a b _ _ h => by unfold ltI at *; simp only [decide_eq_true_eq, decide_eq_false_iff_not] at *; omega
theorem anti_int (a b : V) (ha : Gi a) (hb : Gi b) (h1 : ltI a b = false) (h2 : ltI b a = false) : a = b := by
  unfold ltI at h1 h2
  simp only [decide_eq_false_iff_not] at h1 h2
  rw [ha, hb, show a.2.1 = b.2.1 by omega]
theorem order_gi (W : World) (x y : V) (hx : Gi x) (hy : Gi y) : Calls Tryz.prog 38 #[.agg #[.int .i64 x.1, .int .i64 x.2.1, .string x.2.2], .agg #[.int .i64 y.1, .int .i64 y.2.1, .string y.2.2]] W fun e w' => ∃ o : Int, e = .returned (.tuple #[.int .i64 o, .int .i64 0]) ∧ decide (o < 0) = ltI x y ∧ Below W.heap.size W w' := by
  rw [hx, hy]
  refine (order_int x.2.1 y.2.1 W).mono fun e w' hh => ⟨_, hh.1, ?_, hh.2⟩
  unfold cmpI ltI
  split
  · rename_i q; simp [q]
  · rename_i q
    split
    · simp [q]
    · simp [q]
end Go.Proofs.YtkmopcanaalemabGreat

/- A list that is turned has the same values, each as often (no program in it). -/
namespace Go.Proofs.YtkmopcanaalemabGreat
namespace U
theorem cl_same {F G : Nat → V} (w : V) : ∀ n : Nat, (∀ i, i < n → F i = G i) → cl F w n = cl G w n
  | 0, _ => rfl
  | n + 1, h => by
    unfold cl
    rw [cl_same w n (fun i hi => h i (by omega)), h n (by omega)]
theorem cl_shift (F : Nat → V) (w : V) : ∀ m : Nat, cl F w (m + 1) = (if F 0 = w then 1 else 0) + cl (fun i => F (i + 1)) w m
  | 0 => Nat.add_comm 0 _
  | m + 1 => by
    have ih := cl_shift F w m
    show cl F w (m + 1) + (if F (m + 1) = w then 1 else 0) = _ + (cl (fun i => F (i + 1)) w m + (if F (m + 1) = w then 1 else 0))
    omega
theorem cl_rot1 (F : Nat → V) (w : V) (n : Nat) : cl (fun i => F ((i + 1) % n)) w n = cl F w n := by
  cases n with
  | zero => rfl
  | succ m =>
    rw [cl_shift F w m]
    show cl (fun i => F ((i + 1) % (m + 1))) w m + (if F ((m + 1) % (m + 1)) = w then 1 else 0) = _
    rw [Nat.mod_self, cl_same (G := fun i => F (i + 1)) w m (fun i hi => by show F ((i + 1) % (m + 1)) = F (i + 1); rw [Nat.mod_eq_of_lt (by omega)])]
    omega
theorem cl_rot (F : Nat → V) (w : V) (n : Nat) (hn : 0 < n) : ∀ r : Nat, cl (fun i => F ((i + r) % n)) w n = cl F w n
  | 0 => cl_same w n (fun i hi => by show F ((i + 0) % n) = F i; rw [Nat.add_zero, Nat.mod_eq_of_lt hi])
  | r + 1 => by
    rw [← cl_rot F w n hn r, ← cl_rot1 (fun i => F ((i + r) % n)) w n]
    refine cl_same w n (fun i _ => ?_)
    show F ((i + (r + 1)) % n) = F (((i + 1) % n + r) % n)
    rw [Nat.mod_add_mod, show i + (r + 1) = i + 1 + r by omega]
end U
end Go.Proofs.YtkmopcanaalemabGreat

/- SortingSame: two tables side by side, each with a row of Ints. -/
namespace Go.Proofs.YtkmopcanaalemabGreat
open Go.RowKit

theorem gi_kn (x : Int) : Gi (kn x) := rfl
theorem gi_gv {v : V} (h : Gi v) : Gv v := by
  rw [h]; exact ⟨fm_kn _, by show (2 : Int) ≠ 0; decide⟩
/-- The places 1 to n hold f, all Ints. -/
def Mg (n : Nat) (t : TS) (s : H.St) (f : Int → V) : Prop := Mt n t s f ∧ ∀ k, 1 ≤ k → k ≤ (n : Int) → Gi (f k)
theorem hd_gi {n : Nat} (hn : n ≤ 65536) : U.Hd n Gi (Mg n) where
  gd := fun _ _ _ k h h1 h2 => h.2 k h1 h2
  rd := fun t s f k h h1 h2 => (hd_mt hn).rd t s f k h.1 h1 h2
  pr := fun t s f r h => ⟨(hd_mt hn).pr t s f r h.1, h.2⟩
  st := fun t s f k v h h1 h2 hv => by
    obtain ⟨e0, e1⟩ := (hd_mt hn).st t s f k v h.1 h1 h2 (gi_gv hv)
    refine ⟨e0, e1, fun j j1 j2 => ?_⟩
    unfold U.sw1
    split
    · exact hv
    · exact h.2 j j1 j2

/-- Two tables, each on its heap; what one call changes is not the other's. -/
structure Du2 (w0 w : World) (T S hb T' S' hb' c n : Nat) (f f' : Int → V) : Prop where
  ex : ∃ (N1 N2 : Nat → Prop) (A b a A' b' a' : Nat) (t t' : TS) (s s' : H.St), TT N1 w T A b a S hb c t s ∧ TT N2 w T' A' b' a' S' hb' c t' s' ∧ Mg n t s f ∧ Mg n t' s' f' ∧ (∀ g, g < w.heap.size → N1 g ∨ N2 g) ∧ ∀ g, g < w0.heap.size → N1 g ∧ N2 g
  k : Below w0.heap.size w0 w
section
variable {w0 w w' : World} {T S hb T' S' hb' c n : Nat} {f f' : Int → V}
theorem Du2.swap (h : Du2 w0 w T S hb T' S' hb' c n f f') : Du2 w0 w T' S' hb' T S hb c n f' f := by
  obtain ⟨N1, N2, A, b, a, A', b', a', t, t', s, s', h1, h2, h3, h4, h5, h6⟩ := h.ex
  exact ⟨⟨N2, N1, A', b', a', A, b, a, t', t, s', s, h2, h1, h4, h3, fun g hg => (h5 g hg).symm, fun g hg => (h6 g hg).symm⟩, h.k⟩
theorem Du2.more {c' : Nat} (h : Du2 w0 w T S hb T' S' hb' c n f f') (hc : c ≤ c') : Du2 w0 w T S hb T' S' hb' c' n f f' := by
  obtain ⟨N1, N2, A, b, a, A', b', a', t, t', s, s', h1, h2, h3, h4, h5, h6⟩ := h.ex
  exact ⟨⟨N1, N2, A, b, a, A', b', a', t, t', s, s', h1.more hc, h2.more hc, h3, h4, h5, h6⟩, h.k⟩
theorem Du2.below (h : Du2 w0 w T S hb T' S' hb' c n f f') (k : Below w.heap.size w w') : Du2 w0 w' T S hb T' S' hb' c n f f' := by
  obtain ⟨N1, N2, A, b, a, A', b', a', t, t', s, s', h1, h2, h3, h4, h5, h6⟩ := h.ex
  refine ⟨⟨_, _, A, b, a, A', b', a', t, t', s, s', h1.news k, h2.news k, h3, h4, fun g hg => ?_, fun g hg => ⟨.inl (h6 g hg).1, .inl (h6 g hg).2⟩⟩, bthen h.k h.k.size k⟩
  by_cases q : g < w.heap.size
  · exact (h5 g q).imp .inl .inl
  · exact .inl (.inr ⟨by omega, hg⟩)
/-- Behind a call on the first table. -/
theorem Du2.first {c' : Nat} (h : Du2 w0 w T S hb T' S' hb' c n f f') (hc : c ≤ c') {g1 : Int → V} (hh : ∀ N1, (∀ g, g < w0.heap.size → N1 g) → (∃ A b a t s, TT N1 w T A b a S hb c t s ∧ Mg n t s f) → (∃ A b a t s, TT N1 w' T A b a S hb c' t s ∧ Mg n t s g1) ∧ Keep N1 w w') : Du2 w0 w' T S hb T' S' hb' c' n g1 f' := by
  obtain ⟨N1, N2, A, b, a, A', b', a', t, t', s, s', h1, h2, h3, h4, h5, h6⟩ := h.ex
  obtain ⟨⟨A1, b1, a1, t1, s1, q1, q2⟩, kk⟩ := hh N1 (fun g hg => (h6 g hg).1) ⟨A, b, a, t, s, h1, h3⟩
  have f2 := h2.frame2 (w' := w') kk.os kk.tape kk.output kk.size (fun g hg hn => kk.block g hg ((h5 g hg).resolve_right hn))
  refine ⟨⟨N1, _, A1, b1, a1, A', b', a', t1, t', s1, s', q1, f2.more hc, q2, h4, fun g hg => ?_, fun g hg => ⟨(h6 g hg).1, .inl (h6 g hg).2⟩⟩, h.k.trans (kk.below h.k.size (fun g hg => (h6 g hg).1))⟩
  by_cases q : g < w.heap.size
  · exact (h5 g q).imp id .inl
  · exact .inr (.inr ⟨by omega, hg⟩)
theorem Du2.sort (h : Du2 w0 w T S hb T' S' hb' c n f f') (hc : c ≤ 280000) (hn : n ≤ 60) :
    Calls Tryz.prog 15 #[.pointer (some ⟨T, 0, none⟩), .int .i64 (n : Int), .int .i64 10000] w fun e w' => ∃ (q : Nat) (g : Int → V), e = .returned (.tuple #[.int .i64 (q : Int), .int .i64 0]) ∧ Du2 w0 w' T S hb T' S' hb' (c + 120000) n g f' ∧ U.Sc n f g ∧ U.Srt ltI g n ∧ ∀ k, 1 ≤ k → k ≤ (n : Int) → Gi (g k) := by
  obtain ⟨N1, N2, A, b, a, A', b', a', t, t', s, s', h1, h2, h3, h4, h5, h6⟩ := h.ex
  refine (sort_any (hd_gi (n := n) (by omega)) od_int (fun W x y hx hy => order_gi W x y hx hy) h1 hc hn 10000 (by omega) h3).mono fun e w' ⟨q, g, A1, b1, a1, t1, s1, e1, _, _, q4, q5, q6, q7, q8⟩ => ?_
  refine ⟨q, g, e1, ?_, q6, q7, q5.2⟩
  have f2 := h2.frame2 (w' := w') q8.os q8.tape q8.output q8.size (fun g hg hn => q8.block g hg ((h5 g hg).resolve_right hn))
  refine ⟨⟨N1, _, A1, b1, a1, A', b', a', t1, t', s1, s', q4, f2.more (by omega), q5, h4, fun g hg => ?_, fun g hg => ⟨(h6 g hg).1, .inl (h6 g hg).2⟩⟩, h.k.trans (q8.below h.k.size (fun g hg => (h6 g hg).1))⟩
  by_cases q : g < w.heap.size
  · exact (h5 g q).imp id .inl
  · exact .inr (.inr ⟨by omega, hg⟩)
theorem Du2.get (h : Du2 w0 w T S hb T' S' hb' c n f f') (hc : c ≤ 800000) (k : Int) (h1k : 1 ≤ k) (h2k : k ≤ (n : Int)) (hn : n ≤ 60) :
    Calls Tryz.prog 20 #[.pointer (some ⟨T, 0, none⟩), .agg #[.int .i64 2, .int .i64 k, .string ⟨#[]⟩]] w fun e w' => e = .returned (.agg #[.int .i64 (f k).1, .int .i64 (f k).2.1, .string (f k).2.2]) ∧ Du2 w0 w' T S hb T' S' hb' (c + 1) n f f' := by
  obtain ⟨N1, N2, A, b, a, A', b', a', t, t', s, s', h1, h2, h3, h4, h5, h6⟩ := h.ex
  have C := tget_any h1 (by omega) (kn k) (rng_kn (by omega) (by omega))
  rw [(h3.1.2 k h1k h2k).1] at C
  refine C.mono fun e w' ⟨e1, q4, q8⟩ => ?_
  refine ⟨e1, ?_⟩
  have f2 := h2.frame2 (w' := w') q8.os q8.tape q8.output q8.size (fun g hg hn => q8.block g hg ((h5 g hg).resolve_right hn))
  refine ⟨⟨N1, _, A, b, a, A', b', a', _, t', s, s', q4, f2.more (by omega), (hd_gi (n := n) (by omega)).pr _ _ _ _ h3, h4, fun g hg => ?_, fun g hg => ⟨(h6 g hg).1, .inl (h6 g hg).2⟩⟩, h.k.trans (q8.below h.k.size (fun g hg => (h6 g hg).1))⟩
  by_cases q : g < w.heap.size
  · exact (h5 g q).imp id .inl
  · exact .inr (.inr ⟨by omega, hg⟩)
end
/-- What two begins leave. -/
theorem Du2.make {w0 wL w9 w10 : World} {T S hb RT G T' S' hb' RT' G' m : Nat} {t t' : TS} {s s' : H.St} {F F' : Nat → V} (k0 : Below w0.heap.size w0 wL) (z1 : Bz (fun g => g < wL.heap.size) w9 T S hb RT G 1000 t s t s) (z2 : Bz (fun g => g < w9.heap.size) w10 T' S' hb' RT' G' 1000 t' s' t' s') (k9 : Below wL.heap.size wL w9) (k10 : Below w9.heap.size w9 w10)
    (j1 : Bj F m t s) (j2 : Bj F' m t' s') (hm : m ≤ 60) (g1 : ∀ j, j < m → Gi (F j)) (g2 : ∀ j, j < m → Gi (F' j)) : Du2 w0 w10 T S hb T' S' hb' 1000 m (fun k => F (k - 1).toNat) (fun k => F' (k - 1).toNat) := by
  obtain ⟨N1, _, ⟨A, b, a, t1⟩, _, _, hN⟩ := z1.tt
  obtain ⟨M1, _, ⟨A', b', a', t2⟩, _, _, hM⟩ := z2.tt
  refine ⟨⟨_, M1, A, b, a, A', b', a', t, t', s, s', t1.news k10, t2, ⟨j1.mt z1.ti.1 hm (fun j hj => gi_gv (g1 j hj)), fun k h1 h2 => g1 _ (by omega)⟩, ⟨j2.mt z2.ti.1 hm (fun j hj => gi_gv (g2 j hj)), fun k h1 h2 => g2 _ (by omega)⟩, fun g hg => ?_, fun g hg => ⟨.inl (hN g (Nat.lt_of_lt_of_le hg k0.size)).1, (hM g (Nat.lt_of_lt_of_le hg (Nat.le_trans k0.size k9.size))).1⟩⟩, bthen k0 k0.size (bthen k9 k9.size k10)⟩
  by_cases q : g < w9.heap.size
  · exact .inr (hM g q).1
  · exact .inl (.inr ⟨by omega, hg⟩)
/-- The number at which the turned list's i-th stands. -/
def rot (turn : Int) (m i : Nat) : Nat := (i + (IntKind.u64.wrap turn).toNat % m) % m
theorem rot_sc (turn : Int) (m : Nat) (F : Nat → Int) : U.Sc m (fun k => kn (F (k - 1).toNat)) (fun k => kn (F (rot turn m (k - 1).toNat))) := fun x => by
  rw [U.cnt_cl (fun i => kn (F (rot turn m i))) _ x m (fun i _ => by simp), U.cnt_cl (fun i => kn (F i)) _ x m (fun i _ => by simp)]
  rcases Nat.eq_zero_or_pos m with rfl | h
  · rfl
  · exact U.cl_rot (fun i => kn (F i)) x m h ((IntKind.u64.wrap turn).toNat % m)
theorem sc_symm {n : Nat} {f g : Int → V} (h : U.Sc n f g) : U.Sc n g f := fun w => (h w).symm
end Go.Proofs.YtkmopcanaalemabGreat
