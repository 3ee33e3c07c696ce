/- Two rows in order with the same values, each as often, are alike (no program in it). -/
import Derived.Test.YtkmopcanaalemabGreatCg31
import Derived.Test.YtkmopcanaalemabGreatCg32
import Derived.Test.YtkmopcanaalemabGreatCg33
import Derived.Test.YtkmopcanaalemabGreatCg00
import Derived.Laws.Cover1
namespace Go.Proofs.YtkmopcanaalemabGreat
namespace U
/-- In order. -/
def Srt (lt : V → V → Bool) (f : Int → V) (n : Nat) : Prop := ∀ a b : Int, 1 ≤ a → a < b → b ≤ (n : Int) → lt (f b) (f a) = false
theorem cnt_pos {f : Int → V} {w : V} : ∀ n : Nat, 0 < cnt f w n → ∃ j : Int, 1 ≤ j ∧ j ≤ (n : Int) ∧ f j = w
  | 0, h => absurd h (Nat.lt_irrefl _)
  | n + 1, h => by
    unfold cnt at h
    by_cases q : f ((n : Int) + 1) = w
    · exact ⟨(n : Int) + 1, by omega, by omega, q⟩
    · rw [if_neg q] at h
      obtain ⟨j, h1, h2, h3⟩ := cnt_pos n (by omega)
      exact ⟨j, h1, by omega, h3⟩
theorem Srt.top {lt : V → V → Bool} {f : Int → V} {n : Nat} (h : Srt lt f n) {Gd : V → Prop} (ho : Od Gd lt) (hg : ∀ k, 1 ≤ k → k ≤ (n : Int) → Gd (f k)) {j : Int} (h1 : 1 ≤ j) (h2 : j ≤ (n : Int)) : lt (f (n : Int)) (f j) = false := by
  by_cases q : j = (n : Int)
  · rw [q]; exact ho.irr _ (hg _ (by omega) (by omega))
  · exact h j (n : Int) h1 (by omega) (Int.le_refl _)
theorem Srt.down {lt : V → V → Bool} {f : Int → V} {n : Nat} (h : Srt lt f (n + 1)) : Srt lt f n := fun a b h1 h2 h3 => h a b h1 h2 (by omega)
theorem srt_same {Gd : V → Prop} {lt : V → V → Bool} (ho : Od Gd lt) (ha : ∀ a b, Gd a → Gd b → lt a b = false → lt b a = false → a = b) : ∀ (n : Nat) {f g : Int → V}, (∀ k, 1 ≤ k → k ≤ (n : Int) → Gd (f k)) → (∀ k, 1 ≤ k → k ≤ (n : Int) → Gd (g k)) → Srt lt f n → Srt lt g n → Sc n f g → ∀ k, 1 ≤ k → k ≤ (n : Int) → f k = g k
  | 0, _, _, _, _, _, _, _, k, h1, h2 => by omega
  | n + 1, f, g, hf, hg, sf, sg, sc, k, h1, h2 => by
    have e : f ((n : Int) + 1) = g ((n : Int) + 1) := by
      have cf : 0 < cnt f (f ((n : Int) + 1)) (n + 1) := by
        show 0 < cnt f _ n + (if _ then 1 else 0)
        rw [if_pos rfl]; omega
      have cg : 0 < cnt g (g ((n : Int) + 1)) (n + 1) := by
        show 0 < cnt g _ n + (if _ then 1 else 0)
        rw [if_pos rfl]; omega
      rw [← sc] at cf
      rw [sc] at cg
      obtain ⟨j, j1, j2, j3⟩ := cnt_pos (n + 1) cf
      obtain ⟨i, i1, i2, i3⟩ := cnt_pos (n + 1) cg
      have t1 := sg.top ho hg j1 j2
      have t2 := sf.top ho hf i1 i2
      rw [j3] at t1
      rw [i3] at t2
      have gf := hf ((n : Int) + 1) (by omega) (by omega)
      have gg := hg ((n : Int) + 1) (by omega) (by omega)
      have en : (((n + 1 : Nat)) : Int) = (n : Int) + 1 := by omega
      rw [en] at t1 t2
      exact ha _ _ gf gg t2 t1
    by_cases q : k = (n : Int) + 1
    · rw [q]; exact e
    · refine srt_same ho ha n (fun k a b => hf k a (by omega)) (fun k a b => hg k a (by omega)) sf.down sg.down (fun w => ?_) k h1 (by omega)
      have := sc w
      unfold cnt at this
      rw [e] at this
      omega
end U
end Go.Proofs.YtkmopcanaalemabGreat
namespace Go.Proofs.YtkmopcanaalemabGreat
namespace U
/-- What is asked about stands in the row. -/
theorem qs_at {n : Nat} {s : SS} {f : Int → V} (h : SI n s f) {P : V → Prop} (hp : ∀ k, 1 ≤ k → k ≤ (n : Int) → P (f k)) : P (qs s).1 ∧ P (qs s).2 := by
  have h1 := h.lt
  have h2 := h.lo
  have h3 := h.up
  have no : ∀ {k j : Int}, s.ak = k → k ≠ j → ¬ s.ak = j := fun e q z => q (e.symm.trans z)
  unfold qs
  rcases h.st with ⟨ea, ex, ey⟩ | ⟨ea, e1, ep, ex, ey⟩ | ⟨ea, e1, ep, ex, ey⟩ | ⟨ea, ev, ex, e1, e2, e3, e4⟩ | ⟨ea, ev, ex, ey, e1, e2, e3, e4⟩
  · rw [if_pos ea, ex, ey]; exact ⟨hp _ (by omega) h3, hp _ h2 (by omega)⟩
  · rw [if_neg (no ea (by omega)), if_pos ea, ex, ey]; exact ⟨hp _ (by omega) (by omega), hp _ h2 (by omega)⟩
  · rw [if_neg (no ea (by omega)), if_neg (no ea (by omega)), if_pos ea, ex, ey]; exact ⟨hp _ (by omega) h3, hp _ (by omega) (by omega)⟩
  · rw [if_neg (no ea (by omega)), if_neg (no ea (by omega)), if_neg (no ea (by omega)), if_pos ea, ex, ev]; exact ⟨hp _ (by omega) (by omega), hp _ (by omega) (by omega)⟩
  · rw [if_neg (no ea (by omega)), if_neg (no ea (by omega)), if_neg (no ea (by omega)), if_neg (no ea (by omega)), ey, ev]; exact ⟨hp _ (by omega) (by omega), hp _ (by omega) (by omega)⟩
end U
end Go.Proofs.YtkmopcanaalemabGreat

/- The walk of Sort, where an order answers. -/
namespace Go.Proofs.YtkmopcanaalemabGreat
open Go.RowKit

/-- What Sort answers and leaves. -/
structure Sro (No : Nat → Prop) (w : World) (T S hb c : Nat) (n : Nat) (lt : V → V → Bool) (M : TS → H.St → (Int → V) → Prop) (f : Int → V) (e : Ending) (w' : World) : Prop where
  ex : ∃ (q : Nat) (g : Int → V) (A b a : Nat) (t : TS) (s : H.St), e = .returned (.tuple #[.int .i64 (q : Int), .int .i64 0]) ∧ (1 < n → 1 ≤ q) ∧ q ≤ 3600 ∧ TT No w' T A b a S hb c t s ∧ M t s g ∧ U.Sc n f g ∧ U.Srt lt g n ∧ Keep No w w'
set_option maxRecDepth 20000 in
set_option maxHeartbeats 8000000 in
theorem sort_any {n : Nat} {Gd : V → Prop} {lt : V → V → Bool} {M : TS → H.St → (Int → V) → Prop} (hd : U.Hd n Gd M) (ho : U.Od Gd lt)
    (hO : ∀ (W : World) (x y : V), Gd x → Gd y → Calls Tryz.prog 38 #[.agg #[.int .i64 x.1, .int .i64 x.2.1, .string x.2.2], .agg #[.int .i64 y.1, .int .i64 y.2.1, .string y.2.2]] W fun e w' => ∃ o : Int, e = .returned (.tuple #[.int .i64 o, .int .i64 0]) ∧ decide (o < 0) = lt x y ∧ Below W.heap.size W w')
    {No : Nat → Prop} {w : World} {T A b a S hb c : Nat} {t : TS} {s : H.St} (tt : TT No w T A b a S hb c t s) (hc : c ≤ 280000) (hn : n ≤ 60) (fuel : Int) (hfu : 3600 ≤ fuel) {f : Int → V} (hm : M t s f) :
    Calls Tryz.prog 15 #[.pointer (some ⟨T, 0, none⟩), .int .i64 (n : Int), .int .i64 fuel] w (Sro No w T S hb (c + 120000) n lt M f) := by
  have CN0 := snew_any tt (n : Int)
  have HM0 : Hid (M t s f) := hm
  have HO : Hid (∀ (W : World) (x y : V), Gd x → Gd y → Calls Tryz.prog 38 #[.agg #[.int .i64 x.1, .int .i64 x.2.1, .string x.2.2], .agg #[.int .i64 y.1, .int .i64 y.2.1, .string y.2.2]] W fun e w' => ∃ o : Int, e = .returned (.tuple #[.int .i64 o, .int .i64 0]) ∧ decide (o < 0) = lt x y ∧ Below W.heap.size W w') := hO
  have HD : Hid (U.Hd n Gd M ∧ U.Od Gd lt) := ⟨hd, ho⟩
  have hf0 : ¬ fuel < 0 := by omega
  have hq1 : (n : Int) * (n : Int) ≤ 60 * 60 := Int.mul_le_mul (by omega) (by omega) (by omega) (by omega)
  have hq0 : 0 ≤ (n : Int) * (n : Int) := Int.mul_nonneg (by omega) (by omega)
  obtain ⟨Q1, hQ1⟩ : ∃ Q1, (n : Int) * (n : Int) = Q1 := ⟨_, rfl⟩
  rw [hQ1] at hq1 hq0
  have hst := U.sq_top n
  rw [hQ1] at hst
  clear tt hm hO hd ho hQ1
  go_enter Tryz.func15, Tryz.ntmps15
  go_wp2_with fail
  refine CN0.mono ?_; rintro e w1 ⟨rfl, so, kp⟩
  obtain ⟨B, hB⟩ : ∃ B, w.heap.size = B := ⟨_, rfl⟩
  rw [hB] at so
  rw [hB]
  have H0 : Hid (∃ (wv : Value) (A b a : Nat) (d : SD) (g : Int → V), So No w1 B wv T A b a S hb (c + 31 * 0) d ∧ M d.2.1 d.2.2 g ∧ U.Sc n f g ∧ U.Nx n d.1 g (Q1 - ((0 : Nat) : Int)) ∧ (d.1 = U.s0 (n : Int) ∨ (U.OI n lt d.1 g ∧ false = lt (U.qs d.1).1 (U.qs d.1).2 ∧ 0 < 0)) ∧ d.1.wt.length ≤ 0 ∧ Keep No w w1) := ⟨_, _, _, _, _, _, so, HM0.out, U.Sc.refl _ _, .inl ⟨rfl, by omega⟩, .inl rfl, Nat.le_refl _, kp⟩
  clear CN0 so kp HM0 hB hst
  go_wp2_with fail
  go_loopw [9, 10] (fun lw iw wr => ∃ (i : Nat) (less : Bool), iw = .int .i64 (i : Nat) ∧ lw = .bool less ∧ (i : Int) ≤ Q1 ∧ Hid (∃ (wv : Value) (A b a : Nat) (d : SD) (g : Int → V), So No wr B wv T A b a S hb (c + 31 * i) d ∧ M d.2.1 d.2.2 g ∧ U.Sc n f g ∧ U.Nx n d.1 g (Q1 - (i : Int)) ∧ (d.1 = U.s0 (n : Int) ∨ (U.OI n lt d.1 g ∧ less = lt (U.qs d.1).1 (U.qs d.1).2 ∧ 0 < i)) ∧ d.1.wt.length ≤ i ∧ Keep No w wr)) (fun _ iw _ => (Q1 + 1).toNat - (intOf iw).toNat)
  case atStart => exact ⟨0, false, rfl, rfl, hq0, H0⟩
  case round =>
    obtain ⟨i2, less, rfl, rfl, hi2, HR⟩ := hrel
    obtain ⟨wv, A, b, a, d, gf, so, mt, sc, nx, hz, hw, kp⟩ := HR.out
    clear HR H0
    have hi3 : i2 ≤ 3600 := by omega
    obtain ⟨fit, ha⟩ := nx.fit (by omega) (by omega)
    have CN := next_any so (by omega) fit less ha
    have bh := U.Nx.both HD.out.1 HD.out.2 mt nx (hz.imp id (fun q => q.1)) (less := less) (hz.imp id (fun q => q.2.1))
    have hlen := U.go_len d less
    have hfirst : 1 < n → (goR d less).2.2.2.1 = false → 1 ≤ i2 := fun hn1 he => by
      rcases hz with e | e
      · exfalso
        obtain ⟨ds, dt⟩ := d
        simp only at e
        subst e
        have e1 : goR (U.s0 (n : Int), dt) less = nrow (U.s0 (n : Int), dt) := rfl
        rw [e1, nrow_some (by show (1 : Int) < (n : Int); omega)] at he
        cases he
      · exact e.2.2
    obtain ⟨R, hR⟩ : ∃ R, goR d less = R := ⟨_, rfl⟩
    rw [hR] at CN bh hlen hfirst
    obtain ⟨gn, sc5, mt5, hcase⟩ := bh
    have HK : Hid (Keep No w wr ∧ (1 < n → R.2.2.2.1 = false → 1 ≤ i2) ∧ R.1.1.wt.length ≤ i2 + 1 ∧ U.Sc n f gn ∧ M R.1.2.1 R.1.2.2 gn) := ⟨kp, hfirst, by omega, sc.trans sc5, mt5⟩
    unfold tol4 at CN
    obtain ⟨tl, htl⟩ : ∃ tl, R.2 = tl := ⟨_, rfl⟩
    rw [htl] at CN hcase
    have HT : Hid (R.2 = tl) := htl
    clear so mt sc nx hw kp fit ha hlen hR htl hz hfirst sc5 mt5
    go_wp2_with fail
    refine CN.mono ?_; rintro e w5 ⟨rfl, ⟨wv5, A5, B5, D5, s5⟩, k5⟩
    have B6 := b2 w5 (vb tl.1.1 tl.1.2.1 tl.1.2.2) (vb tl.2.1.1 tl.2.1.2.1 tl.2.1.2.2)
    have s6 := s5.below B6
    have HK6 : Hid (Keep No w ((w5.alloc (vb tl.1.1 tl.1.2.1 tl.1.2.2)).alloc (vb tl.2.1.1 tl.2.1.2.1 tl.2.1.2.2))) := (HK.out.1.trans k5).trans (Keep.of B6)
    have X1 := (Bx.made w5 tl.1).below (bw1 (w5.alloc (vb tl.1.1 tl.1.2.1 tl.1.2.2)) (vb tl.2.1.1 tl.2.1.2.1 tl.2.1.2.2))
    have X2 := Bx.made (w5.alloc (vb tl.1.1 tl.1.2.1 tl.1.2.2)) tl.2.1
    have z5 : (w5.alloc (vb tl.1.1 tl.1.2.1 tl.1.2.2)).heap.size = w5.heap.size + 1 := by simp
    rw [z5] at X2
    obtain ⟨W6, hW6⟩ : ∃ W6, (w5.alloc (vb tl.1.1 tl.1.2.1 tl.1.2.2)).alloc (vb tl.2.1.1 tl.2.1.2.1 tl.2.1.2.2) = W6 := ⟨_, rfl⟩
    rw [hW6] at s6 HK6 X1 X2
    unfold vb at hW6
    have x0 := X1.c0
    have x1 := X1.c1
    have x2 := X1.c2
    have y0 := X2.c0
    have y1 := X2.c1
    have y2 := X2.c2
    clear B6 s5 k5 CN X1 X2 z5
    rcases hcase with ⟨t1, t2, si, oi, lf⟩ | ⟨e1, e2, e3⟩
    · have hgd := U.qs_at si (P := Gd) (fun k k1 k2 => HD.out.1.gd _ _ gn k HK.out.2.2.2.2 k1 k2)
      have HS6 : Hid (So No W6 B wv5 T A5 B5 D5 S hb (c + 31 * i2 + 31) R.1 ∧ U.OI n lt R.1.1 gn ∧ U.Nx n R.1.1 gn (Q1 - ((i2 + 1 : Nat) : Int)) ∧ tl.1 = (U.qs R.1.1).1 ∧ tl.2.1 = (U.qs R.1.1).2) := ⟨s6, oi, .inr ⟨si, by omega⟩, by rw [t2]; rfl, by rw [t2]; rfl⟩
      have hnn : (i2 : Int) + 1 ≤ Q1 := by have := HS6.out.2.2.1.nn; omega
      have hne : ¬ (i2 : Int) = fuel := by omega
      have wi2 : IntKind.i64.wrap ((i2 : Int) + 1) = (i2 : Int) + 1 := by rw [IntKind.wrap_i64]; omega
      rw [← HS6.out.2.2.2.1, ← HS6.out.2.2.2.2] at hgd
      have CO := HO.out W6 tl.1 tl.2.1 hgd.1 hgd.2
      obtain ⟨ta, tb, tm, te⟩ := tl
      simp only at t1 x0 x1 x2 y0 y1 y2 hW6 CO ⊢
      subst t1
      clear si oi lf s6 t2 hgd
      go_wp2_with fail
      refine CO.mono ?_; rintro e w7 ⟨o, rfl, ho7, hb7⟩
      have HB7 : Hid (Below W6.heap.size W6 w7 ∧ decide (o < 0) = lt ta tb) := ⟨hb7, ho7⟩
      clear CO hb7 ho7
      go_wp2_with fail
      go_round
      case rel =>
        refine ⟨i2 + 1, decide (o < 0), by first | rfl | simp, by first | rfl | simp, by omega, ⟨_, _, _, _, _, _, (HS6.out.1.below HB7.out.1).more (by omega), HK.out.2.2.2.2, HK.out.2.2.2.1, HS6.out.2.2.1, .inr ⟨HS6.out.2.1, ?_, by omega⟩, HK.out.2.2.1, HK6.out.trans (Keep.of HB7.out.1)⟩⟩
        rw [HB7.out.2]
        have q1 := HS6.out.2.2.2.1
        have q2 := HS6.out.2.2.2.2
        rw [q1, q2]
      case measure => first | omega | (simp only [intOf]; omega) | (simp; omega)
    · have HE : Hid (∃ (g : Int → V) (A b a : Nat) (t : TS) (s : H.St), (1 < n → 1 ≤ i2) ∧ TT No W6 T A b a S hb (c + 120000) t s ∧ M t s g ∧ U.Sc n f g ∧ U.Srt lt g n) := ⟨gn, _, _, _, _, _, fun hn1 => HK.out.2.1 hn1 (by rw [HT.out, e2]; rfl), (s6.tt.more (by omega)).sub (fun g q => .inl q), HK.out.2.2.2.2, HK.out.2.2.2.1, e3⟩
      obtain ⟨ta, tb, tm, te⟩ := tl
      have q3 : tm = false := congrArg (fun z : Tol => z.2.2.1) e2
      have q4 : te = 0 := congrArg (fun z : Tol => z.2.2.2) e2
      simp only at hW6 ⊢
      subst q3 q4
      clear e1 e2 e3 s6
      go_wp2_with fail
      obtain ⟨g, A', b', a', t', s', r1, r2, r3, r4, r5⟩ := HE.out
      exact bodyPost_ret (v := .tuple #[.int .i64 (i2 : Int), .int .i64 0]) (by simp [results, Tryz.results15, go_sem]) rfl ⟨i2, g, A', b', a', t', s', rfl, r1, hi3, r2, r3, r4, r5, HK6.out⟩
end Go.Proofs.YtkmopcanaalemabGreat

/- The walk of box.Order of two Ints. -/
namespace Go.Proofs.YtkmopcanaalemabGreat
open Go.RowKit

theorem ta_yes (t : TypeId) (v : Value) (w : World) (u : TypeDesc) (hu : Tryz.prog.underlying t = some u) (hn : ∀ ms, u ≠ .interface ms) : (Instr.typeAssert (.iface t v) 20 t true).run Tryz.prog w = .ok (.tuple #[v, .bool true]) w := by
  unfold Instr.typeAssert
  cases u <;> simp_all [run_underlying hu, go_sem, Result.andThen]
theorem y127 (v : Value) (w : World) : (Instr.typeAssert (.iface 127 v) 20 127 true).run Tryz.prog w = .ok (.tuple #[v, .bool true]) w := ta_yes 127 v w _ Tryz.underlying127 (by intro ms h; cases h)
set_option maxRecDepth 20000 in
set_option maxHeartbeats 4000000 in
theorem oput_int (n : Int) (w : World) : Calls Tryz.prog 108 #[.agg #[.int .i64 2, .int .i64 n, .string ⟨#[]⟩]] w fun e w' => e = .returned (.tuple #[.iface 127 (.int .i64 n), .int .i64 0]) ∧ Below w.heap.size w w' := by
  have B0 := b1 w (vb 2 n ⟨#[]⟩)
  have X := Bx.made w (kn n)
  obtain ⟨W0, hW0⟩ : ∃ W0, w.alloc (vb 2 n ⟨#[]⟩) = W0 := ⟨_, rfl⟩
  rw [hW0] at B0 X
  have CK := check_any 2 n ⟨#[]⟩ W0
  have hc : chk 2 n ⟨#[]⟩ = 0 := by simp [chk, inF, ByteArray.toList_eq]
  rw [hc] at CK
  have B1 := b1 W0 (vb 2 n ⟨#[]⟩)
  have Y := X.below B1
  obtain ⟨W1, hW1⟩ : ∃ W1, W0.alloc (vb 2 n ⟨#[]⟩) = W1 := ⟨_, rfl⟩
  rw [hW1] at CK B1 Y
  have HB : Hid (Below w.heap.size w W1) := bthen B0 B0.size B1
  have x0 := X.c0
  have x1 := X.c1
  have x2 := X.c2
  have y0 := Y.c0
  have y1 := Y.c1
  have y2 := Y.c2
  unfold vl at CK
  unfold vb at hW0
  clear B0 B1 X Y hc
  go_enter Tryz.func108, Tryz.ntmps108
  go_wp2_with fail
  refine CK.mono ?_; rintro e w1 ⟨rfl, hw1⟩; rw [hw1]; clear hw1 CK
  go_wp2
  exact bodyPost_ret (v := .tuple #[.iface 127 (.int .i64 n), .int .i64 0]) (by simp [results, Tryz.results108, go_sem]) rfl ⟨rfl, HB.out⟩
set_option maxRecDepth 20000 in
theorem nan_int (n : Int) (w : World) : Calls Tryz.prog 109 #[.int .i64 n] w fun e w' => e = .returned (.bool false) ∧ w' = w := by
  go_enter Tryz.func109, Tryz.ntmps109
  go_wp2
  go_ret
  exact ⟨rfl, rfl⟩
/-- How two numbers compare. -/
def cmpI (x y : Int) : Int := if x < y then -1 else if y < x then 1 else 0
set_option maxRecDepth 20000 in
set_option maxHeartbeats 4000000 in
theorem cmp_int (x y : Int) (w : World) : Calls Tryz.prog 79 #[.int .i64 x, .int .i64 y] w fun e w' => e = .returned (.int .i64 (cmpI x y)) ∧ w' = w := by
  have C1 := nan_int x w
  have C2 := nan_int y w
  unfold cmpI
  by_cases h1 : x < y
  · rw [if_pos h1]
    go_enter Tryz.func79, Tryz.ntmps79
    go_wp2_with fail
    refine C1.mono ?_; rintro e w1 ⟨rfl, hw1⟩; rw [hw1]; clear hw1
    go_wp2_with fail
    refine C2.mono ?_; rintro e w2 ⟨rfl, hw2⟩; rw [hw2]; clear hw2
    go_wp2
    go_ret
    exact ⟨rfl, rfl⟩
  · rw [if_neg h1]
    by_cases h2 : y < x
    · rw [if_pos h2]
      go_enter Tryz.func79, Tryz.ntmps79
      go_wp2_with fail
      refine C1.mono ?_; rintro e w1 ⟨rfl, hw1⟩; rw [hw1]; clear hw1
      go_wp2_with fail
      refine C2.mono ?_; rintro e w2 ⟨rfl, hw2⟩; rw [hw2]; clear hw2
      go_wp2
      go_ret
      exact ⟨rfl, rfl⟩
    · rw [if_neg h2]
      go_enter Tryz.func79, Tryz.ntmps79
      go_wp2_with fail
      refine C1.mono ?_; rintro e w1 ⟨rfl, hw1⟩; rw [hw1]; clear hw1
      go_wp2_with fail
      refine C2.mono ?_; rintro e w2 ⟨rfl, hw2⟩; rw [hw2]; clear hw2
      go_wp2
      go_ret
      exact ⟨rfl, rfl⟩
set_option maxRecDepth 20000 in
set_option maxHeartbeats 4000000 in
theorem both_int (x y : Int) (w : World) : Calls Tryz.prog 78 #[.agg #[.int .i64 2, .int .i64 x, .string ⟨#[]⟩], .agg #[.int .i64 2, .int .i64 y, .string ⟨#[]⟩]] w fun e w' => e = .returned (.tuple #[.iface 127 (.int .i64 x), .iface 127 (.int .i64 y), .int .i64 0]) ∧ Below w.heap.size w w' := by
  have B0 := b2 w (vb 2 x ⟨#[]⟩) (vb 2 y ⟨#[]⟩)
  have X := (Bx.made w (kn x)).below (b1 (w.alloc (vb 2 x ⟨#[]⟩)) (vb 2 y ⟨#[]⟩))
  have Y := Bx.made (w.alloc (vb 2 x ⟨#[]⟩)) (kn y)
  have z : (w.alloc (vb 2 x ⟨#[]⟩)).heap.size = w.heap.size + 1 := by simp
  rw [z] at Y
  obtain ⟨W0, hW0⟩ : ∃ W0, (w.alloc (vb 2 x ⟨#[]⟩)).alloc (vb 2 y ⟨#[]⟩) = W0 := ⟨_, rfl⟩
  rw [hW0] at B0 X Y
  have C1 := oput_int x W0
  have HY : Hid (Bx W0 (w.heap.size + 1) (kn y) ∧ Below w.heap.size w W0) := ⟨Y, B0⟩
  have x0 := X.c0
  have x1 := X.c1
  have x2 := X.c2
  unfold vb at hW0
  clear B0 X Y z
  go_enter Tryz.func78, Tryz.ntmps78
  go_wp2_with fail
  refine C1.mono ?_; rintro e w1 ⟨rfl, hb1⟩
  have Y1 := HY.out.1.below hb1
  have y0 := Y1.c0
  have y1 := Y1.c1
  have y2 := Y1.c2
  have C2 := oput_int y w1
  have HB1 : Hid (Below w.heap.size w w1) := bthen HY.out.2 HY.out.2.size hb1
  clear Y1 hb1 C1 HY
  go_wp2_with fail
  refine C2.mono ?_; rintro e w2 ⟨rfl, hb2⟩
  have HB2 : Hid (Below w.heap.size w w2) := bthen HB1.out HB1.out.size hb2
  clear hb2 C2 HB1
  go_wp2
  exact bodyPost_ret (v := .tuple #[.iface 127 (.int .i64 x), .iface 127 (.int .i64 y), .int .i64 0]) (by simp [results, Tryz.results78, go_sem]) rfl ⟨rfl, HB2.out⟩
set_option maxRecDepth 20000 in
set_option maxHeartbeats 4000000 in
theorem order_int (x y : Int) (w : World) : Calls Tryz.prog 38 #[.agg #[.int .i64 2, .int .i64 x, .string ⟨#[]⟩], .agg #[.int .i64 2, .int .i64 y, .string ⟨#[]⟩]] w fun e w' => e = .returned (.tuple #[.int .i64 (cmpI x y), .int .i64 0]) ∧ Below w.heap.size w w' := by
  have B0 := b2 w (vb 2 x ⟨#[]⟩) (vb 2 y ⟨#[]⟩)
  have X := (Bx.made w (kn x)).below (b1 (w.alloc (vb 2 x ⟨#[]⟩)) (vb 2 y ⟨#[]⟩))
  have Y := Bx.made (w.alloc (vb 2 x ⟨#[]⟩)) (kn y)
  have z : (w.alloc (vb 2 x ⟨#[]⟩)).heap.size = w.heap.size + 1 := by simp
  rw [z] at Y
  obtain ⟨W0, hW0⟩ : ∃ W0, (w.alloc (vb 2 x ⟨#[]⟩)).alloc (vb 2 y ⟨#[]⟩) = W0 := ⟨_, rfl⟩
  rw [hW0] at B0 X Y
  have C1 := both_int x y W0
  have HB0 : Hid (Below w.heap.size w W0) := B0
  have x0 := X.c0
  have x1 := X.c1
  have x2 := X.c2
  have y0 := Y.c0
  have y1 := Y.c1
  have y2 := Y.c2
  unfold vb at hW0
  clear B0 X Y z
  go_enter Tryz.func38, Tryz.ntmps38
  go_wp2_with fail
  refine C1.mono ?_; rintro e w1 ⟨rfl, hb1⟩
  have C2 := cmp_int x y w1
  have HB1 : Hid (Below w.heap.size w w1) := bthen HB0.out HB0.out.size hb1
  have ty := y127
  clear hb1 C1 HB0
  go_wp2_with fail
  refine C2.mono ?_; rintro e w2 ⟨rfl, hw2⟩; rw [hw2]; clear hw2 C2
  go_wp2
  exact bodyPost_ret (v := .tuple #[.int .i64 (cmpI x y), .int .i64 0]) (by simp [results, Tryz.results38, go_sem]) rfl ⟨rfl, HB1.out⟩
/-- The order of Ints. -/
def Gi (v : V) : Prop := v = kn v.2.1
def ltI (x y : V) : Bool := decide (x.2.1 < y.2.1)
theorem od_int : U.Od Gi ltI where
  irr := fun a _ => by unfold ltI; simp
  tr := fun a b c _ _ _ h1 h2 => by unfold ltI at *; simp only [decide_eq_false_iff_not] at *; omega
  asy := fun a b _ _ h => by unfold ltI at *; simp only [decide_eq_true_eq, decide_eq_false_iff_not] at *; omega
theorem anti_int (a b : V) (ha : Gi a) (hb : Gi b) (h1 : ltI a b = false) (h2 : ltI b a = false) : a = b := by
  unfold ltI at h1 h2
  simp only [decide_eq_false_iff_not] at h1 h2
  rw [ha, hb, show a.2.1 = b.2.1 by omega]
theorem order_gi (W : World) (x y : V) (hx : Gi x) (hy : Gi y) : Calls Tryz.prog 38 #[.agg #[.int .i64 x.1, .int .i64 x.2.1, .string x.2.2], .agg #[.int .i64 y.1, .int .i64 y.2.1, .string y.2.2]] W fun e w' => ∃ o : Int, e = .returned (.tuple #[.int .i64 o, .int .i64 0]) ∧ decide (o < 0) = ltI x y ∧ Below W.heap.size W w' := by
  rw [hx, hy]
  refine (order_int x.2.1 y.2.1 W).mono fun e w' hh => ⟨_, hh.1, ?_, hh.2⟩
  unfold cmpI ltI
  split
  · rename_i q; simp [q]
  · rename_i q
    split
    · simp [q]
    · simp [q]
end Go.Proofs.YtkmopcanaalemabGreat

/- The walk of box.Order of two Strs. -/
namespace Go.Proofs.YtkmopcanaalemabGreat
open Go.RowKit

/-- A text as a value. -/
abbrev ks (s : ByteArray) : V := (3, 0, s)
theorem y130 (v : Value) (w : World) : (Instr.typeAssert (.iface 130 v) 20 130 true).run Tryz.prog w = .ok (.tuple #[v, .bool true]) w := ta_yes 130 v w _ Tryz.underlying130 (by intro ms h; cases h)
theorem ta_no (t t' : TypeId) (v z : Value) (w : World) (u : TypeDesc) (hu : Tryz.prog.underlying t = some u) (hn : ∀ ms, u ≠ .interface ms) (hz : ∀ w, (zeroValue t).run Tryz.prog w = .ok z w) (hne : ¬ t' = t) : (Instr.typeAssert (.iface t' v) 20 t true).run Tryz.prog w = .ok (.tuple #[z, .bool false]) w := by
  unfold Instr.typeAssert
  cases u <;> simp_all [run_underlying hu, go_sem, Result.andThen]
theorem n127 (v : Value) (w : World) : (Instr.typeAssert (.iface 130 v) 20 127 true).run Tryz.prog w = .ok (.tuple #[.int .i64 0, .bool false]) w := ta_no 127 130 v _ w _ Tryz.underlying127 (by intro ms h; cases h) (fun w => by kernel_rfl) (by decide)
theorem less_irr (l : List UInt8) : Op.bytesLess l l = false := by
  induction l with
  | nil => rfl
  | cons c l ih => simp [Op.bytesLess, ih]
theorem less_tri (l : List UInt8) : ∀ m, Op.bytesLess l m = false → l ≠ m → Op.bytesLess m l = true := by
  induction l with
  | nil =>
    intro m h hne
    cases m with
    | nil => exact absurd rfl hne
    | cons d m => simp [Op.bytesLess] at h
  | cons c l ih =>
    intro m h hne
    cases m with
    | nil => rfl
    | cons d m =>
      simp only [Op.bytesLess, Bool.or_eq_false_iff, decide_eq_false_iff_not] at h
      simp only [Op.bytesLess, Bool.or_eq_true, decide_eq_true_eq, Bool.and_eq_true, beq_iff_eq]
      by_cases hcd : c = d
      · subst hcd
        right
        refine ⟨rfl, ih m (by simpa using h.2) (fun e => hne (by rw [e]))⟩
      · left
        have h1 := h.1
        rw [UInt8.lt_iff_toNat_lt] at h1 ⊢
        have : c.toNat ≠ d.toNat := fun e => hcd (UInt8.toNat_inj.1 e)
        omega
theorem less_asym (l : List UInt8) : ∀ m, Op.bytesLess l m = true → Op.bytesLess m l = false := by
  induction l with
  | nil =>
    intro m h
    cases m with
    | nil => rfl
    | cons d m => rfl
  | cons c l ih =>
    intro m h
    cases m with
    | nil => simp [Op.bytesLess] at h
    | cons d m =>
      simp only [Op.bytesLess, Bool.or_eq_true, decide_eq_true_eq, Bool.and_eq_true, beq_iff_eq] at h
      simp only [Op.bytesLess, Bool.or_eq_false_iff, decide_eq_false_iff_not]
      rcases h with h | ⟨h, h2⟩
      · rw [UInt8.lt_iff_toNat_lt] at h
        refine ⟨by rw [UInt8.lt_iff_toNat_lt]; omega, ?_⟩
        have : ¬ d = c := fun e => by rw [e] at h; omega
        simp [this]
      · subst h
        refine ⟨by rw [UInt8.lt_iff_toNat_lt]; omega, by simp [ih m h2]⟩
theorem less_trans (l : List UInt8) : ∀ m k, Op.bytesLess l m = true → Op.bytesLess m k = true → Op.bytesLess l k = true := by
  induction l with
  | nil =>
    intro m k h1 h2
    cases k with
    | nil => cases m <;> simp [Op.bytesLess] at h2
    | cons e k => rfl
  | cons c l ih =>
    intro m k h1 h2
    cases m with
    | nil => simp [Op.bytesLess] at h1
    | cons d m =>
      cases k with
      | nil => simp [Op.bytesLess] at h2
      | cons e k =>
        simp only [Op.bytesLess, Bool.or_eq_true, decide_eq_true_eq, Bool.and_eq_true, beq_iff_eq] at h1 h2 ⊢
        rw [UInt8.lt_iff_toNat_lt] at h1 h2 ⊢
        rcases h1 with h1 | ⟨h1, h1'⟩
        · rcases h2 with h2 | ⟨h2, h2'⟩
          · left; omega
          · left; rw [← h2]; exact h1
        · rcases h2 with h2 | ⟨h2, h2'⟩
          · left; rw [h1]; exact h2
          · right; exact ⟨h1.trans h2, ih m k h1' h2'⟩
set_option maxRecDepth 20000 in
set_option maxHeartbeats 4000000 in
theorem oput_str (n : ByteArray) (hf : fm (ks n) = true) (w : World) : Calls Tryz.prog 108 #[.agg #[.int .i64 3, .int .i64 0, .string n]] w fun e w' => e = .returned (.tuple #[.iface 130 (.string n), .int .i64 0]) ∧ Below w.heap.size w w' := by
  have B0 := b1 w (vb 3 0 n)
  have X := Bx.made w (ks n)
  obtain ⟨W0, hW0⟩ : ∃ W0, w.alloc (vb 3 0 n) = W0 := ⟨_, rfl⟩
  rw [hW0] at B0 X
  have CK := check_any 3 0 n W0
  have hc : chk 3 0 n = 0 := by show (if fm (ks n) = true then (0 : Int) else 2) = 0; rw [if_pos hf]
  rw [hc] at CK
  have B1 := b1 W0 (vb 3 0 n)
  have Y := X.below B1
  obtain ⟨W1, hW1⟩ : ∃ W1, W0.alloc (vb 3 0 n) = W1 := ⟨_, rfl⟩
  rw [hW1] at CK B1 Y
  have HB : Hid (Below w.heap.size w W1) := bthen B0 B0.size B1
  have x0 := X.c0
  have x1 := X.c1
  have x2 := X.c2
  have y0 := Y.c0
  have y1 := Y.c1
  have y2 := Y.c2
  unfold vl at CK
  unfold vb at hW0
  clear B0 B1 X Y hc
  go_enter Tryz.func108, Tryz.ntmps108
  go_wp2_with fail
  refine CK.mono ?_; rintro e w1 ⟨rfl, hw1⟩; rw [hw1]; clear hw1 CK
  go_wp2
  exact bodyPost_ret (v := .tuple #[.iface 130 (.string n), .int .i64 0]) (by simp [results, Tryz.results108, go_sem]) rfl ⟨rfl, HB.out⟩
set_option maxRecDepth 20000 in
theorem nan_str (n : ByteArray) (w : World) : Calls Tryz.prog 110 #[.string n] w fun e w' => e = .returned (.bool false) ∧ w' = w := by
  go_enter Tryz.func110, Tryz.ntmps110
  go_wp2
  go_ret
  exact ⟨rfl, rfl⟩
/-- Is the text ahead of the other, byte by byte? -/
def ltT (s t : ByteArray) : Bool := Op.bytesLess s.toList t.toList
def cS (s t : ByteArray) : Int := if ltT s t = true then -1 else if (s.toList == t.toList) = true then 0 else 1
set_option maxRecDepth 20000 in
set_option maxHeartbeats 4000000 in
theorem cmp_str (x y : ByteArray) (w : World) : Calls Tryz.prog 80 #[.string x, .string y] w fun e w' => e = .returned (.int .i64 (cS x y)) ∧ w' = w := by
  have C1 := nan_str x w
  have C2 := nan_str y w
  unfold cS ltT
  cases h1 : Op.bytesLess x.toList y.toList
  · cases h2 : (x.toList == y.toList)
    · go_enter Tryz.func80, Tryz.ntmps80
      go_wp2_with fail
      refine C1.mono ?_; rintro e w1 ⟨rfl, hw1⟩; rw [hw1]; clear hw1
      go_wp2_with fail
      refine C2.mono ?_; rintro e w2 ⟨rfl, hw2⟩; rw [hw2]; clear hw2
      go_wp2
      go_ret
      exact ⟨rfl, rfl⟩
    · go_enter Tryz.func80, Tryz.ntmps80
      go_wp2_with fail
      refine C1.mono ?_; rintro e w1 ⟨rfl, hw1⟩; rw [hw1]; clear hw1
      go_wp2_with fail
      refine C2.mono ?_; rintro e w2 ⟨rfl, hw2⟩; rw [hw2]; clear hw2
      go_wp2
      go_ret
      exact ⟨rfl, rfl⟩
  · go_enter Tryz.func80, Tryz.ntmps80
    go_wp2_with fail
    refine C1.mono ?_; rintro e w1 ⟨rfl, hw1⟩; rw [hw1]; clear hw1
    go_wp2_with fail
    refine C2.mono ?_; rintro e w2 ⟨rfl, hw2⟩; rw [hw2]; clear hw2
    go_wp2
    go_ret
    exact ⟨rfl, rfl⟩
set_option maxRecDepth 20000 in
set_option maxHeartbeats 4000000 in
theorem both_str (x y : ByteArray) (hx : fm (ks x) = true) (hy : fm (ks y) = true) (w : World) : Calls Tryz.prog 78 #[.agg #[.int .i64 3, .int .i64 0, .string x], .agg #[.int .i64 3, .int .i64 0, .string y]] w fun e w' => e = .returned (.tuple #[.iface 130 (.string x), .iface 130 (.string y), .int .i64 0]) ∧ Below w.heap.size w w' := by
  have B0 := b2 w (vb 3 0 x) (vb 3 0 y)
  have X := (Bx.made w (ks x)).below (b1 (w.alloc (vb 3 0 x)) (vb 3 0 y))
  have Y := Bx.made (w.alloc (vb 3 0 x)) (ks y)
  have z : (w.alloc (vb 3 0 x)).heap.size = w.heap.size + 1 := by simp
  rw [z] at Y
  obtain ⟨W0, hW0⟩ : ∃ W0, (w.alloc (vb 3 0 x)).alloc (vb 3 0 y) = W0 := ⟨_, rfl⟩
  rw [hW0] at B0 X Y
  have C1 := oput_str x hx W0
  have HY : Hid (Bx W0 (w.heap.size + 1) (ks y) ∧ Below w.heap.size w W0) := ⟨Y, B0⟩
  have x0 := X.c0
  have x1 := X.c1
  have x2 := X.c2
  unfold vb at hW0
  clear B0 X Y z
  go_enter Tryz.func78, Tryz.ntmps78
  go_wp2_with fail
  refine C1.mono ?_; rintro e w1 ⟨rfl, hb1⟩
  have Y1 := HY.out.1.below hb1
  have y0 := Y1.c0
  have y1 := Y1.c1
  have y2 := Y1.c2
  have C2 := oput_str y hy w1
  have HB1 : Hid (Below w.heap.size w w1) := bthen HY.out.2 HY.out.2.size hb1
  clear Y1 hb1 C1 HY
  go_wp2_with fail
  refine C2.mono ?_; rintro e w2 ⟨rfl, hb2⟩
  have HB2 : Hid (Below w.heap.size w w2) := bthen HB1.out HB1.out.size hb2
  clear hb2 C2 HB1
  go_wp2
  exact bodyPost_ret (v := .tuple #[.iface 130 (.string x), .iface 130 (.string y), .int .i64 0]) (by simp [results, Tryz.results78, go_sem]) rfl ⟨rfl, HB2.out⟩
set_option maxRecDepth 20000 in
set_option maxHeartbeats 4000000 in
theorem order_str (x y : ByteArray) (hx : fm (ks x) = true) (hy : fm (ks y) = true) (w : World) : Calls Tryz.prog 38 #[.agg #[.int .i64 3, .int .i64 0, .string x], .agg #[.int .i64 3, .int .i64 0, .string y]] w fun e w' => e = .returned (.tuple #[.int .i64 (cS x y), .int .i64 0]) ∧ Below w.heap.size w w' := by
  have B0 := b2 w (vb 3 0 x) (vb 3 0 y)
  have X := (Bx.made w (ks x)).below (b1 (w.alloc (vb 3 0 x)) (vb 3 0 y))
  have Y := Bx.made (w.alloc (vb 3 0 x)) (ks y)
  have z : (w.alloc (vb 3 0 x)).heap.size = w.heap.size + 1 := by simp
  rw [z] at Y
  obtain ⟨W0, hW0⟩ : ∃ W0, (w.alloc (vb 3 0 x)).alloc (vb 3 0 y) = W0 := ⟨_, rfl⟩
  rw [hW0] at B0 X Y
  have C1 := both_str x y hx hy W0
  have HB0 : Hid (Below w.heap.size w W0) := B0
  have x0 := X.c0
  have x1 := X.c1
  have x2 := X.c2
  have y0 := Y.c0
  have y1 := Y.c1
  have y2 := Y.c2
  unfold vb at hW0
  clear B0 X Y z
  go_enter Tryz.func38, Tryz.ntmps38
  go_wp2_with fail
  refine C1.mono ?_; rintro e w1 ⟨rfl, hb1⟩
  have C2 := cmp_str x y w1
  have HB1 : Hid (Below w.heap.size w w1) := bthen HB0.out HB0.out.size hb1
  have ty := y130
  have tn := n127
  clear hb1 C1 HB0
  go_wp2_with fail
  refine C2.mono ?_; rintro e w2 ⟨rfl, hw2⟩; rw [hw2]; clear hw2 C2
  go_wp2
  exact bodyPost_ret (v := .tuple #[.int .i64 (cS x y), .int .i64 0]) (by simp [results, Tryz.results38, go_sem]) rfl ⟨rfl, HB1.out⟩
/-- The order of Strs. -/
def Gtx (v : V) : Prop := v = ks v.2.2 ∧ fm v = true
def ltV (x y : V) : Bool := ltT x.2.2 y.2.2
theorem cS_lt (x y : ByteArray) : decide (cS x y < 0) = ltT x y := by
  unfold cS
  cases h : ltT x y
  · rw [if_neg (by simp)]; split <;> rfl
  · rfl
theorem od_str : U.Od Gtx ltV where
  irr := fun a _ => less_irr _
  tr := fun a b c _ _ _ h1 h2 => by
    unfold ltV ltT at *
    by_cases e1 : b.2.2.toList = a.2.2.toList
    · rw [← e1]; exact h2
    · by_cases e2 : c.2.2.toList = b.2.2.toList
      · rw [e2]; exact h1
      · exact less_asym _ _ (less_trans _ _ _ (less_tri _ _ h1 e1) (less_tri _ _ h2 e2))
  asy := fun a b _ _ h => less_asym _ _ h
theorem order_gs (W : World) (x y : V) (hx : Gtx x) (hy : Gtx y) : Calls Tryz.prog 38 #[.agg #[.int .i64 x.1, .int .i64 x.2.1, .string x.2.2], .agg #[.int .i64 y.1, .int .i64 y.2.1, .string y.2.2]] W fun e w' => ∃ o : Int, e = .returned (.tuple #[.int .i64 o, .int .i64 0]) ∧ decide (o < 0) = ltV x y ∧ Below W.heap.size W w' := by
  obtain ⟨ex, fx⟩ := hx
  obtain ⟨ey, fy⟩ := hy
  rw [ex] at fx ⊢
  rw [ey] at fy ⊢
  exact (order_str x.2.2 y.2.2 fx fy W).mono fun e w' hh => ⟨_, hh.1, cS_lt _ _, hh.2⟩
end Go.Proofs.YtkmopcanaalemabGreat
