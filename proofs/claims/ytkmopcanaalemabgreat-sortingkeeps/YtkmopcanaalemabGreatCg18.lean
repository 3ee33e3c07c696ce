/- The sorter in memory, beside its table; the walk of read. -/
import Derived.Test.YtkmopcanaalemabGreatCg07
import Derived.Test.YtkmopcanaalemabGreatCg16
import Derived.Test.YtkmopcanaalemabGreatCg15
namespace Go.Proofs.YtkmopcanaalemabGreat
open Go.RowKit

/-- The cells of the sorter. -/
def scl (T : Nat) (wv : Value) (s : SS) : Array Value :=
  #[.pointer (some ⟨T, 0, none⟩), .int .i64 s.lo, .int .i64 s.up, wv, .int .i64 s.ak, .int .i64 s.p, .int .i64 s.i, .int .i64 s.j, .int .i64 s.x.1, .int .i64 s.x.2.1, .string s.x.2.2, .int .i64 s.y.1, .int .i64 s.y.2.1, .string s.y.2.2, .int .i64 s.pv.1, .int .i64 s.pv.2.1, .string s.pv.2.2, .int .i64 s.er]
/-- The cells of rows that wait. -/
def rws (l : List (Int × Int)) : List Value := l.flatMap fun r => [.int .i64 r.1, .int .i64 r.2]
/-- Blocks that the table must leave: others', the sorter's, that of the rows. -/
def Nq (No : Nat → Prop) (B : Nat) (wv : Value) : Nat → Prop := fun g => No g ∨ g = B ∨ wv.ownBlock = some g
/-- A sorter and its table. -/
structure So (No : Nat → Prop) (w : World) (B : Nat) (wv : Value) (T A b a S hb c : Nat) (d : SD) : Prop where
  blk : w.heap[B]? = some (.cells (scl T wv d.1) 73 (0, 0))
  row : w.ownsRow (B + 1) 70 2 wv d.1.wt.length (rws d.1.wt.reverse)
  tt : TT (Nq No B wv) w T A b a S hb c d.2.1 d.2.2
  nB : ¬ No B
  nW : ∀ g, wv.ownBlock = some g → ¬ No g
theorem So.lt {No : Nat → Prop} {w : World} {B : Nat} {wv : Value} {T A b a S hb c : Nat} {d : SD} (h : So No w B wv T A b a S hb c d) : B < w.heap.size := (Array.getElem?_eq_some_iff.1 h.blk).1
theorem So.cell {No : Nat → Prop} {w : World} {B : Nat} {wv : Value} {T A b a S hb c : Nat} {d : SD} (h : So No w B wv T A b a S hb c d) {j : Nat} {v : Value} (hj : (scl T wv d.1)[j]? = some v) : w.cell? ⟨B, j, none⟩ = some v := by
  simp only [World.cell?, h.blk]
  simpa using hj
theorem So.free {No : Nat → Prop} {w : World} {B : Nat} {wv : Value} {T A b a S hb c : Nat} {d : SD} (h : So No w B wv T A b a S hb c d) (j : Nat) : w.frozen? ⟨B, j, none⟩ = false := by
  simp [World.frozen?, h.blk]
/-- What a call leaves that keeps the sorter's blocks and changes the table. -/
theorem So.via {No : Nat → Prop} {w w' : World} {B : Nat} {wv : Value} {T A b a S hb c : Nat} {d : SD} (h : So No w B wv T A b a S hb c d) (k : Keep (Nq No B wv) w w') {A' b' a' c' : Nat} {t : TS} {s : H.St} (ht : TT (Nq No B wv) w' T A' b' a' S hb c' t s) : So No w' B wv T A' b' a' S hb c' (d.1, t, s) := by
  refine ⟨(k.block B h.lt (.inr (.inl rfl))).trans h.blk, ?_, ht, h.nB, h.nW⟩
  have hlt := h.row.lt
  refine ⟨h.row.1, ?_⟩
  rcases h.row.2 with h2 | ⟨g, cap, cur, e, h2, h3, r⟩
  · exact .inl h2
  · exact .inr ⟨g, cap, cur, e, h2, (k.block g (hlt g (by rw [e]; rfl)).2 (.inr (.inr (by rw [e]; rfl)))).trans h3, r⟩
theorem So.below {No : Nat → Prop} {w w' : World} {B : Nat} {wv : Value} {T A b a S hb c : Nat} {d : SD} (h : So No w B wv T A b a S hb c d) (k : Below w.heap.size w w') : So No w' B wv T A b a S hb c d := h.via (Keep.of k) (h.tt.below k)
theorem rng_kn {n : Int} (h1 : -9223372036854775808 ≤ n) (h2 : n ≤ 9223372036854775807) : Rng (kn n) := ⟨h1, h2⟩
set_option maxRecDepth 20000 in
set_option maxHeartbeats 2000000 in
theorem read_any {No : Nat → Prop} {w : World} {B : Nat} {wv : Value} {T A b a S hb c : Nat} {d : SD} (h : So No w B wv T A b a S hb c d) (hc : c ≤ 900000) (n : Int) (h1 : -9223372036854775808 ≤ n) (h2 : n ≤ 9223372036854775807) :
    Calls Tryz.prog 100 #[.pointer (some ⟨B, 0, none⟩), .int .i64 n] w fun e w' => e = .returned (vv (rdV d n)) ∧ So No w' B wv T A b a S hb (c + 1) (rdD d n) ∧ Keep (Nq No B wv) w w' := by
  have B0 := b1 w (vb 0 0 ⟨#[]⟩)
  have R0 := R3.made w nil
  have hs0 := h.below B0
  have tn := h.tt.news B0
  have z0 : (w.alloc (vb 0 0 ⟨#[]⟩)).heap.size = w.heap.size + 1 := by simp
  obtain ⟨W0, hW0⟩ : ∃ W0, w.alloc (vb 0 0 ⟨#[]⟩) = W0 := ⟨_, rfl⟩
  have R0' : R3 W0 w.heap.size nil := hW0 ▸ R0
  rw [hW0] at B0 hs0 tn z0
  have c0 : W0.cell? ⟨B, 0, none⟩ = some (.pointer (some ⟨T, 0, none⟩)) := hs0.cell (j := 0) rfl
  have C := tget_any tn hc (kn n) (rng_kn h1 h2)
  have HF : Hid (∀ w1, Keep (fun g => Nq No B wv g ∨ (w.heap.size ≤ g ∧ g < W0.heap.size)) W0 w1 → TT (fun g => Nq No B wv g ∨ (w.heap.size ≤ g ∧ g < W0.heap.size)) w1 T A b a S hb (c + 1) { d.2.1 with pr := d.2.1.pr + (prd d.2.1.p (kn n) : Nat) } d.2.2 → R3 w1 w.heap.size nil ∧ ∀ x, R3 (set3 w1 w.heap.size x) w.heap.size x ∧ So No (set3 w1 w.heap.size x) B wv T A b a S hb (c + 1) (rdD d n) ∧ Keep (Nq No B wv) w (set3 w1 w.heap.size x)) := fun w1 k1 t1 => by
    have r1 := R0'.kept k1 (.inr ⟨Nat.le_refl _, by omega⟩)
    refine ⟨r1, fun x => ⟨r1.set x, ?_, ?_⟩⟩
    · have t2 := (t1.set3 (N := w.heap.size) (.inr ⟨Nat.le_refl _, by omega⟩) x).sub (No' := Nq No B wv) (fun g q => .inl q)
      have k2 : Keep (Nq No B wv) W0 (set3 w1 w.heap.size x) := (k1.sub (fun g q => .inl q)).set3 (fun q => by
        rcases q with q | q | q
        · obtain ⟨vb, hp⟩ := h.tt.hp
          have := hp.nos _ (.inl (.inl q)); omega
        · have := h.lt; omega
        · have := (h.row.lt _ q).2; omega) x
      exact hs0.via k2 t2
    · exact (Keep.of B0).trans ((k1.sub (fun g q => .inl q)).set3 (fun q => by
        rcases q with q | q | q
        · obtain ⟨vb, hp⟩ := h.tt.hp
          have := hp.nos _ (.inl (.inl q)); omega
        · have := h.lt; omega
        · have := (h.row.lt _ q).2; omega) x)
  have hval : rdV d n = pget d.2.1.p (kn n) := rfl
  rw [hval]
  generalize pget d.2.1.p (kn n) = gv0 at *
  unfold tp vv vl kn at C
  unfold vv vl
  unfold vb at hW0
  clear tn hs0 R0 R0' z0 h B0 hval
  go_enter Tryz.func100, Tryz.ntmps100
  go_wp2_with fail
  refine C.mono ?_
  rintro e w1 ⟨rfl, t1, k1⟩
  obtain ⟨r1, hz⟩ := HF.out w1 k1 t1
  have HZ : Hid _ := hz gv0
  obtain ⟨W3, hW3⟩ : ∃ W3, set3 w1 w.heap.size gv0 = W3 := ⟨_, rfl⟩
  rw [hW3] at HZ
  unfold set3 at hW3
  have n0 : w1.cell? ⟨w.heap.size, 0, none⟩ = some (.int .i64 0) := r1.bx.c0
  have n1 : w1.cell? ⟨w.heap.size, 1, none⟩ = some (.int .i64 0) := r1.bx.c1
  have n2 : w1.cell? ⟨w.heap.size, 2, none⟩ = some (.string ⟨#[]⟩) := r1.bx.c2
  have nf := r1.fz
  clear C HF hz r1 t1 k1 c0
  go_wp2
  obtain ⟨q1, q2, q3⟩ := HZ.out
  have o0 := q1.bx.c0
  have o1 := q1.bx.c1
  have o2 := q1.bx.c2
  refine bodyPost_ret (v := .agg #[.int .i64 gv0.1, .int .i64 gv0.2.1, .string gv0.2.2]) (by simp [results, Tryz.results100, go_sem, o0, o1, o2]) rfl ⟨rfl, q2, q3⟩
end Go.Proofs.YtkmopcanaalemabGreat

/- The walk of put: one place has v, and then the other has u. -/
namespace Go.Proofs.YtkmopcanaalemabGreat
open Go.RowKit

/-- What a put answers and leaves. -/
def PuP (No : Nat → Prop) (w : World) (B : Nat) (wv : Value) (T S hb c : Nat) (d : SD) (a1 : Int) (v : V) (b1 : Int) (u : V) (e : Ending) (w' : World) : Prop :=
  e = .returned (.int .i64 (putE d a1 v b1 u)) ∧ (∃ A' b' a', So No w' B wv T A' b' a' S hb (c + 14) (putD d a1 v b1 u)) ∧ Keep (Nq No B wv) w w'
set_option maxRecDepth 20000 in
set_option maxHeartbeats 4000000 in
theorem put_any {No : Nat → Prop} {w : World} {B : Nat} {wv : Value} {T A b a S hb c : Nat} {d : SD} (h : So No w B wv T A b a S hb c d) (hc : c ≤ 600000) (i1 i2 : Int) (v u : V) (h1 : -9223372036854775808 ≤ i1) (h2 : i1 ≤ 9223372036854775807) (h3 : -9223372036854775808 ≤ i2) (h4 : i2 ≤ 9223372036854775807) :
    Calls Tryz.prog 97 #[.pointer (some ⟨B, 0, none⟩), .int .i64 i1, vv v, .int .i64 i2, vv u] w (PuP No w B wv T S hb c d i1 v i2 u) := by
  have B0 := b2 w (vb v.1 v.2.1 v.2.2) (vb u.1 u.2.1 u.2.2)
  have X1 := (Bx.made w v).below (b1 _ (vb u.1 u.2.1 u.2.2))
  have X2 := Bx.made (w.alloc (vb v.1 v.2.1 v.2.2)) u
  have eX : (w.alloc (vb v.1 v.2.1 v.2.2)).heap.size = w.heap.size + 1 := by simp
  rw [eX] at X2
  have z0 : ((w.alloc (vb v.1 v.2.1 v.2.2)).alloc (vb u.1 u.2.1 u.2.2)).heap.size = w.heap.size + 2 := by simp
  obtain ⟨W0, hW0⟩ : ∃ W0, (w.alloc (vb v.1 v.2.1 v.2.2)).alloc (vb u.1 u.2.1 u.2.2) = W0 := ⟨_, rfl⟩
  rw [hW0] at B0 X1 X2 z0
  have hs0 := h.below B0
  have tn := h.tt.news B0
  have c0 : W0.cell? ⟨B, 0, none⟩ = some (.pointer (some ⟨T, 0, none⟩)) := hs0.cell (j := 0) rfl
  obtain ⟨N2, hN2⟩ : ∃ N2, (fun g => Nq No B wv g ∨ (w.heap.size ≤ g ∧ g < W0.heap.size)) = N2 := ⟨_, rfl⟩
  have HN : Hid ((∀ g, Nq No B wv g → N2 g) ∧ N2 w.heap.size ∧ N2 (w.heap.size + 1) ∧ N2 B) := by
    subst hN2
    exact ⟨fun g q => .inl q, .inr ⟨Nat.le_refl _, by omega⟩, .inr ⟨by omega, by omega⟩, .inl (.inr (.inl rfl))⟩
  rw [hN2] at tn
  clear hN2
  have C1 := tset_any (tn.below (bdrew1 W0)) (by omega) (kn i1) v (rng_kn h1 h2)
  have HX1 : Hid (Bx W0 w.heap.size v) := X1
  have HX2 : Hid (Bx W0 (w.heap.size + 1) u) := X2
  have HS : Hid (So No W0 B wv T A b a S hb c d) := hs0
  have HK : Hid (Keep (Nq No B wv) w W0) := Keep.of B0
  have x0 := X1.c0
  have x1 := X1.c1
  have x2 := X1.c2
  obtain ⟨R1, hR1⟩ : ∃ R1, tset d.2.1 d.2.2 (kn i1) v = R1 := ⟨_, rfl⟩
  rw [hR1] at C1
  have hE : stE d i1 v = R1.2.2 := by unfold stE; rw [hR1]
  have hD : stD d i1 v = (d.1, R1.1, R1.2.1) := by unfold stD; rw [hR1]
  unfold PuP putE putD
  rw [hE, hD]
  unfold vv vl kn at C1
  unfold vv vl
  unfold vb at hW0
  clear hs0 tn X1 X2 h B0 hE hD hR1
  by_cases hE0 : R1.2.2 = 0
  · rw [if_neg (by rw [hE0]; simp), if_neg (by rw [hE0]; simp)]
    obtain ⟨R2, hR2⟩ : ∃ R2, tset R1.1 R1.2.1 (kn i2) u = R2 := ⟨_, rfl⟩
    have hE2 : stE (d.1, R1.1, R1.2.1) i2 u = R2.2.2 := by unfold stE; rw [hR2]
    have hD2 : stD (d.1, R1.1, R1.2.1) i2 u = (d.1, R2.1, R2.2.1) := by unfold stD; rw [hR2]
    rw [hE2, hD2]
    have HR2 : Hid (tset R1.1 R1.2.1 (kn i2) u = R2) := hR2
    clear hR2 hE2 hD2
    go_enter Tryz.func97, Tryz.ntmps97
    go_wp2_with fail
    refine wp_tail 7 (by kernel_rfl) (by kernel_rfl) ?_
    simp only [List.take_succ_cons, List.take_zero, List.drop_succ_cons, List.drop_zero]
    repeat still_step
    refine wpStill_nil ?_
    go_wp2_with fail
    refine C1.mono ?_
    rintro e w1 ⟨rfl, ⟨A1, b1', a1', t1⟩, k1⟩
    have K1 : Keep N2 W0 w1 := ((Keep.refl N2 W0).drew).trans k1
    have Y2 := HX2.out.kept K1 HN.out.2.2.1
    have HS1 : Hid (So No w1 B wv T A1 b1' a1' S hb (c + 7) (d.1, R1.1, R1.2.1)) := HS.out.via (K1.sub HN.out.1) (t1.sub HN.out.1)
    have HK1 : Hid (Keep (Nq No B wv) w w1) := HK.out.trans (K1.sub HN.out.1)
    have c1 : w1.cell? ⟨B, 0, none⟩ = some (.pointer (some ⟨T, 0, none⟩)) := HS1.out.cell (j := 0) rfl
    have y0 := Y2.c0
    have y1 := Y2.c1
    have y2 := Y2.c2
    have C2 := tset_any (t1.below (bdrew1 w1)) (by omega) (kn i2) u (rng_kn h3 h4)
    rw [HR2.out] at C2
    have HDD : Hid (∀ w2 A2 b2' a2', Keep N2 w1.drew w2 → TT N2 w2 T A2 b2' a2' S hb (c + 7 + 7) R2.1 R2.2.1 → So No w2 B wv T A2 b2' a2' S hb (c + 14) (d.1, R2.1, R2.2.1) ∧ Keep (Nq No B wv) w w2) := fun w2 A2 b2' a2' k2 t2 => by
      have K2 : Keep N2 w1 w2 := ((Keep.refl N2 w1).drew).trans k2
      exact ⟨HS1.out.via (K2.sub HN.out.1) (t2.sub HN.out.1), HK1.out.trans (K2.sub HN.out.1)⟩
    rw [hE0]
    unfold vv vl kn at C2
    clear C1 t1 k1 K1 Y2 HS1 HK1 HX1 HX2 HS HK x0 x1 x2 c0 hE0 HR2
    go_wp2_with fail
    refine wp_tail 7 (by kernel_rfl) (by kernel_rfl) ?_
    simp only [List.take_succ_cons, List.take_zero, List.drop_succ_cons, List.drop_zero]
    repeat still_step
    refine wpStill_nil ?_
    go_wp2_with fail
    refine C2.mono ?_
    rintro e w2 ⟨rfl, ⟨A2, b2', a2', t2⟩, k2⟩
    obtain ⟨q1, q2⟩ := HDD.out w2 A2 b2' a2' k2 t2
    have HQ : Hid (_ ∧ _) := ⟨q1, q2⟩
    clear HDD q1 q2 t2 k2 C2
    go_wp2
    go_ret
    exact ⟨rfl, ⟨A2, b2', a2', HQ.out.1⟩, HQ.out.2⟩
  · rw [if_pos hE0, if_pos hE0]
    have hE0' : (R1.2.2 != 0) = true := by simpa using hE0
    go_enter Tryz.func97, Tryz.ntmps97
    go_wp2_with fail
    refine wp_tail 7 (by kernel_rfl) (by kernel_rfl) ?_
    simp only [List.take_succ_cons, List.take_zero, List.drop_succ_cons, List.drop_zero]
    repeat still_step
    refine wpStill_nil ?_
    go_wp2_with fail
    refine C1.mono ?_
    rintro e w1 ⟨rfl, ⟨A1, b1', a1', t1⟩, k1⟩
    have K1 : Keep N2 W0 w1 := ((Keep.refl N2 W0).drew).trans k1
    have HQ : Hid (So No w1 B wv T A1 b1' a1' S hb (c + 14) (d.1, R1.1, R1.2.1) ∧ Keep (Nq No B wv) w w1) := ⟨HS.out.via (K1.sub HN.out.1) ((t1.sub HN.out.1).more (by omega)), HK.out.trans (K1.sub HN.out.1)⟩
    clear C1 t1 k1 K1 HX1 HX2 HS HK x0 x1 x2 c0 hE0
    go_wp2
    go_ret
    exact ⟨rfl, ⟨A1, b1', a1', HQ.out.1⟩, HQ.out.2⟩
end Go.Proofs.YtkmopcanaalemabGreat
