/- The walk of often. -/
import Derived.Test.YtcaaaoehipcloaaGreatCg32
import Derived.Test.YtcaaaoehipcloaaGreatCg16
import Derived.Test.YtcaaaoehipcloaaGreatCg08
import Derived.Test.YtcaaaoehipcloaaGreatCg04
import Derived.Test.YtcaaaoehipcloaaGreatCg28
import Derived.Test.YtcaaaoehipcloaaGreatCg22
import Derived.Test.YtcaaaoehipcloaaGreatCg30
import Derived.Test.YtcaaaoehipcloaaGreatCg31
import Derived.Test.YtcaaaoehipcloaaGreatCg42
import Derived.Deep.RegionHeld3
import Derived.Deep.DeepCutAuto
namespace Go.Proofs.YtcaaaoehipcloaaGreat
open Go.RowKit

theorem info4 : (Tryz.prog.info? 4).map (fun i => (i.zero, i.size, i.bytes)) = some (some (.bool false), 1, 1) := by kernel_rfl
theorem make_bool (m : Nat) (hm : m ≤ 1000000) (W : World) : (Instr.makeSlice 23 (.int .i64 m) (.int .i64 m)).run Tryz.prog W = .ok (.slice (some ⟨W.heap.size, 0, none⟩) m m) (W.alloc (.cells (madeCells (Value.bool false).cells (m * 1)) 4)) := by
  obtain ⟨i0, hi, hz0, hz1, hz2⟩ := info_parts info4
  have h := run_make (P := Tryz.prog) W 23 4 i0 (.bool false) Tryz.underlying23 hi hz0 .i64 .i64 m m (by omega) (Int.le_refl _) (by rw [hz2]; omega) (by omega)
  rw [hz1] at h
  simpa using h
theorem made_bool (w : World) (n i : Nat) (h : i < n) : (w.alloc (.cells (madeCells (Value.bool false).cells (n * 1)) 4)).cell? ⟨w.heap.size, i, none⟩ = some (.bool false) := by
  rw [cell_of_row (MapKept.heap_alloc w _).1]
  simp [madeCells, Value.cells, h, Nat.mod_one]
/-- A list of truths in a block of its own. -/
structure Ub (w : World) (ub n : Nat) (u : Nat → Bool) : Prop where
  cell : ∀ j, j < n → w.cell? ⟨ub, j, none⟩ = some (.bool (u j))
  fz : ∀ j, w.frozen? ⟨ub, j, none⟩ = false
  lt : ub < w.heap.size
theorem Ub.keep {No : Nat → Prop} {w w' : World} {ub n : Nat} {u : Nat → Bool} (h : Ub w ub n u) (k : Keep No w w') (hn : No ub) : Ub w' ub n u :=
  ⟨fun j hj => by rw [World.cell?_of_block (w := w) (k.block ub h.lt hn)]; exact h.cell j hj, fun j => by rw [World.frozen?_of_block (w := w) (k.block ub h.lt hn)]; exact h.fz j, Nat.lt_of_lt_of_le h.lt k.size⟩
theorem Ub.below {w w' : World} {ub n : Nat} {u : Nat → Bool} (h : Ub w ub n u) (k : Below w.heap.size w w') : Ub w' ub n u := h.keep (No := fun _ => True) (Keep.of k) trivial
theorem Ub.set {w : World} {ub n : Nat} {u : Nat → Bool} (h : Ub w ub n u) {k : Nat} (hk : k < n) : Ub (w.setCell ⟨ub, k, none⟩ (.bool true)) ub n (U.usd u k) := by
  refine ⟨fun j hj => ?_, fun j => by simpa using h.fz j, by simpa [World.setCell] using h.lt⟩
  unfold U.usd
  by_cases e : j = k
  · subst e
    rw [if_pos rfl]
    exact World.cell?_setCell_same _ _ _ (h.cell j hj)
  · rw [if_neg e, World.cell?_setCell_other _ _ _ _ (fun q => by injection q with _ q2; omega)]
    exact h.cell j hj
theorem TT.touch {No : Nat → Prop} {w : World} {T A b a S hb c : Nat} {t : TS} {s : H.St} (h : TT No w T A b a S hb c t s) {g j : Nat} (hg : No g) (v : Value) : TT No (w.setCell ⟨g, j, none⟩ v) T A b a S hb c t s := by
  have k : Keep (fun x => x ≠ g) w (w.setCell ⟨g, j, none⟩ v) := (Keep.refl _ w).set (p := ⟨g, j, none⟩) (fun q => q rfl) _
  exact (h.frame2 k.os k.tape k.output k.size (fun x hx hn => k.block x hx (fun e => hn (e ▸ hg)))).sub (fun x q => .inl q)
theorem bdrN (w : World) (n : Nat) : Below w.heap.size w (w.drewN n) := ⟨rfl, rfl, rfl, Nat.le_refl _, fun _ _ => rfl⟩
end Go.Proofs.YtcaaaoehipcloaaGreat

/- The document's first example, by the sorter as plain data. -/
namespace Go.Proofs.YtcaaaoehipcloaaGreat
open Go.RowKit

/-- The states behind the two questions. -/
def sf1 : SS := ⟨1, 3, [], 1, 0, 0, 0, kn 3, kn 2, nil, 0⟩
def sf2 : SS := ⟨1, 3, [], 2, 2, 0, 0, kn 1, kn 2, nil, 0⟩
theorem fixed_one {f : Int → V} (a1 : f 1 = kn 3) (a3 : f 3 = kn 2) {t : TS} {s : H.St} (hm : Mt 3 t s f) :
    ∃ t1 : TS × H.St, goR (U.s0 3, t, s) false = ((sf1, t1), askT (kn 2) (kn 3)) ∧ Mt 3 t1.1 t1.2 f := by
  have hd := hd_mt (n := 3) (by omega)
  have e1 : goR (U.s0 3, t, s) false = nrow (U.s0 3, t, s) := rfl
  have r1 := nrow_some (s := U.s0 3) (t := (t, s)) (by show (1 : Int) < 3; omega)
  obtain ⟨x1, x2, _⟩ := hd.read (d := (U.s0 3, t, s)) hm (k := 1) (by omega) (by omega)
  obtain ⟨y1, y2, _⟩ := hd.read (d := rdD (U.s0 3, t, s) 1) x2 (k := 3) (by omega) (by omega)
  rw [a1] at x1
  rw [a3] at y1
  refine ⟨(rdD (rdD (U.s0 3, t, s) 1) 3).2, ?_, y2⟩
  rw [e1, r1]
  show (askD ({ (rdD (rdD (U.s0 3, t, s) 1) 3).1 with x := rdV (U.s0 3, t, s) 1, y := rdV (rdD (U.s0 3, t, s) 1) 3 }, (rdD (rdD (U.s0 3, t, s) 1) 3).2) 1, askT (rdV (rdD (U.s0 3, t, s) 1) 3) (rdV (U.s0 3, t, s) 1)) = _
  rw [x1, y1]
  rfl
theorem fixed_two {f : Int → V} (a1 : f 1 = kn 3) (a2 : f 2 = kn 1) (a3 : f 3 = kn 2) {t1 : TS × H.St} (hm : Mt 3 t1.1 t1.2 f) :
    ∃ t2 : TS × H.St, goR (sf1, t1) true = ((sf2, t2), askT (kn 1) (kn 2)) ∧ Mt 3 t2.1 t2.2 (U.swp f 1 3) := by
  have hd := hd_mt (n := 3) (by omega)
  have e1 : goR (sf1, t1) true = endsR (sf1, t1) true := rfl
  obtain ⟨p1, p2, _⟩ := hd.put (d := (sf1, t1)) hm (a := 1) (b := 3) (by omega) (by omega) (by omega) (by omega) a1.symm a3.symm
  have p1' : putE (sf1, t1) (sf1, t1).1.lo (sf1, t1).1.y (sf1, t1).1.up (sf1, t1).1.x = 0 := p1
  obtain ⟨P2, hP2⟩ : ∃ P2, (putD (sf1, t1) (sf1, t1).1.lo (sf1, t1).1.y (sf1, t1).1.up (sf1, t1).1.x).2 = P2 := ⟨_, rfl⟩
  have p2' : Mt 3 P2.1 P2.2 (U.swp f 1 3) := by rw [← hP2]; exact p2
  have b2 : U.swp f 1 3 2 = kn 1 := by rw [U.swp_at, if_neg (by omega), if_neg (by omega)]; exact a2
  have b1 : U.swp f 1 3 1 = kn 2 := by rw [U.swp_at, if_neg (by omega), if_pos rfl]; exact a3
  obtain ⟨x1, x2, _⟩ := hd.read (d := ({ sf1 with p := 2 }, P2)) p2' (k := 2) (by omega) (by omega)
  obtain ⟨y1, y2, _⟩ := hd.read (d := rdD ({ sf1 with p := 2 }, P2) 2) x2 (k := 1) (by omega) (by omega)
  rw [b2] at x1
  rw [b1] at y1
  refine ⟨(rdD (rdD ({ sf1 with p := 2 }, P2) 2) 1).2, ?_, y2⟩
  rw [e1, ends_yes, hP2, p1', if_neg (by simp), ends_two (by show ¬ (3 : Int) - 1 = 1; omega)]
  show (askD ({ ({ sf1 with p := 2 } : SS) with x := rdV ({ sf1 with p := 2 }, P2) 2, y := rdV (rdD ({ sf1 with p := 2 }, P2) 2) 1 }, (rdD (rdD ({ sf1 with p := 2 }, P2) 2) 1).2) 2, askT (rdV ({ sf1 with p := 2 }, P2) 2) (rdV (rdD ({ sf1 with p := 2 }, P2) 2) 1)) = _
  rw [x1, y1]
  rfl
theorem fixed_three {g : Int → V} (b1 : g 1 = kn 2) (b2 : g 2 = kn 1) {t2 : TS × H.St} (hm : Mt 3 t2.1 t2.2 g) :
    ∃ t3 : TS × H.St, goR (sf2, t2) true = ((endS 0, t3), endT 0) ∧ Mt 3 t3.1 t3.2 (U.swp g 2 1) := by
  have hd := hd_mt (n := 3) (by omega)
  have e1 : goR (sf2, t2) true = lowR (sf2, t2) true := rfl
  obtain ⟨p1, p2, _⟩ := hd.put (d := (sf2, t2)) hm (a := 2) (b := 1) (by omega) (by omega) (by omega) (by omega) b2.symm b1.symm
  have p1' : putE (sf2, t2) (sf2, t2).1.p (sf2, t2).1.y (sf2, t2).1.lo (sf2, t2).1.x = 0 := p1
  obtain ⟨P2, hP2⟩ : ∃ P2, (putD (sf2, t2) (sf2, t2).1.p (sf2, t2).1.y (sf2, t2).1.lo (sf2, t2).1.x).2 = P2 := ⟨_, rfl⟩
  have p2' : Mt 3 P2.1 P2.2 (U.swp g 2 1) := by rw [← hP2]; exact p2
  refine ⟨P2, ?_, p2'⟩
  rw [e1, low_yes, hP2, p1', if_neg (by simp), split_two (by show (3 : Int) - 1 = 2; omega)]
  show nrow ({ sf2 with lo := 0, up := 0 }, P2) = _
  rw [nrow_end (by show ¬ (0 : Int) < 0; omega) rfl]
  rfl
theorem sf_fit : Fit (U.s0 3) ∧ Fit sf1 ∧ Fit sf2 := by
  have n0 : U.Nx 3 (U.s0 3) (fun _ => nil) 9 := .inl ⟨rfl, by have := U.sq_top 3; omega⟩
  have n1 : U.Nx 3 sf1 (fun k => if k = 1 then kn 3 else kn 2) (U.lft sf1) := .inr ⟨⟨fun r hr => (by cases hr), by show (1 : Int) < 3; omega, by show (1 : Int) ≤ 1; omega, by show (3 : Int) ≤ ((3 : Nat) : Int); omega, .inl ⟨rfl, rfl, rfl⟩⟩, Int.le_refl _⟩
  have n2 : U.Nx 3 sf2 (fun k => if k = 1 then kn 2 else kn 1) (U.lft sf2) := .inr ⟨⟨fun r hr => (by cases hr), by show (1 : Int) < 3; omega, by show (1 : Int) ≤ 1; omega, by show (3 : Int) ≤ ((3 : Nat) : Int); omega, .inr (.inl ⟨rfl, by show (1 : Int) + 1 < 3; omega, rfl, rfl, rfl⟩)⟩, Int.le_refl _⟩
  exact ⟨(n0.fit (by omega) (by show 0 ≤ 900000; omega)).1, (n1.fit (by omega) (by show 0 ≤ 900000; omega)).1, (n2.fit (by omega) (by show 0 ≤ 900000; omega)).1⟩
end Go.Proofs.YtcaaaoehipcloaaGreat

/- The walk of fixed: the document's first example. -/
namespace Go.Proofs.YtcaaaoehipcloaaGreat
open Go.RowKit

/-- Three, one, two. -/
def F3 : Nat → V := fun k => if k = 0 then kn 3 else if k = 1 then kn 1 else kn 2
abbrev l9 : Array Value := #[.int .i64 2, .int .i64 3, .string ⟨#[]⟩, .int .i64 2, .int .i64 1, .string ⟨#[]⟩, .int .i64 2, .int .i64 2, .string ⟨#[]⟩]
theorem lv3 (w : World) : Lv (w.alloc (.cells l9 34)) w.heap.size (.slice (some ⟨w.heap.size, 0, none⟩) 3 3) 3 F3 := by
  have h := World.ownsRow_lit (base := w.heap.size) (e := 34) (size := 3) w l9 3 (Nat.le_refl _) (by unfold maxLen; omega) rfl
  refine ⟨?_⟩
  have e : l9.toList = cellsV F3 3 := by
    unfold cellsV F3
    rfl
  rw [← e]
  exact h
/-- A table's call within others' blocks: what is left of it. -/
structure Gs (N : Nat → Prop) (Wk : World) (T A b a S hb c : Nat) (t : TS) (s : H.St) (W : World) : Prop where
  tt : ∃ pr, TT N W T A b a S hb c { t with pr := pr } s
  kp : Keep N Wk W
theorem Gs.below {N : Nat → Prop} {Wk W W' : World} {T A b a S hb c : Nat} {t : TS} {s : H.St} (h : Gs N Wk T A b a S hb c t s W) (k : Below W.heap.size W W') : Gs N Wk T A b a S hb c t s W' := by
  obtain ⟨pr, tt⟩ := h.tt
  exact ⟨⟨pr, tt.below k⟩, h.kp.trans (Keep.of k)⟩
theorem Gs.get {N : Nat → Prop} {Wk W : World} {T A b a S hb c : Nat} {t : TS} {s : H.St} (h : Gs N Wk T A b a S hb c t s W) (hc : c ≤ 700000) (n : Int) (h1 : -9223372036854775808 ≤ n) (h2 : n ≤ 9223372036854775807) {v : V} (hv : pget t.p (kn n) = v) :
    Calls Tryz.prog 9 #[.pointer (some ⟨T, 0, none⟩), .agg #[.int .i64 2, .int .i64 n, .string ⟨#[]⟩]] W fun e w' => e = .returned (.agg #[.int .i64 v.1, .int .i64 v.2.1, .string v.2.2]) ∧ Gs N Wk T A b a S hb (c + 1) t s w' := by
  obtain ⟨pr, tt⟩ := h.tt
  refine (tget_any tt (by omega) (kn n) ⟨h1, h2⟩).mono ?_
  rintro e w' ⟨rfl, t', k'⟩
  refine ⟨?_, ⟨_, t'⟩, h.kp.trans k'⟩
  show Ending.returned (vv (pget t.p (kn n))) = _
  rw [hv]
set_option maxRecDepth 20000 in
set_option maxHeartbeats 8000000 in
theorem fixed_any (w : World) : Calls Tryz.prog 4 #[] w fun e w' => e = .returned (.bool true) ∧ Below w.heap.size w w' := by
  have HI : Hid (∀ (n : Int) (W : World), Calls Tryz.prog 7 #[.int .i64 n] W fun e w' => e = .returned (.agg #[.int .i64 2, .int .i64 n, .string ⟨#[]⟩]) ∧ Below W.heap.size W w') := fun n W => mkI n W
  go_enter Tryz.func4, Tryz.ntmps4
  go_wp2_with fail
  refine (HI.out 3 _).mono ?_; rintro e w1 ⟨rfl, hb1⟩
  go_wp2_with fail
  refine (HI.out 1 _).mono ?_; rintro e w2 ⟨rfl, hb2⟩
  go_wp2_with fail
  refine (HI.out 2 _).mono ?_; rintro e w3 ⟨rfl, hb3⟩
  have hb4 := bw1 w3 (.cells l9 34)
  have L3 := lv3 w3
  have z3 : (w3.alloc (.cells l9 34)).heap.size = w3.heap.size + 1 := by simp
  obtain ⟨W3, hW3⟩ : ∃ W3, w3.alloc (.cells l9 34) = W3 := ⟨_, rfl⟩
  rw [hW3] at hb4 L3 z3
  have HB3 : Hid (Below w.heap.size w W3) := by
    have c1 := bthen hb1 hb1.size hb2
    have c2 := bthen c1 c1.size hb3
    exact bthen c2 c2.size hb4
  have C9 := begin16 L3 (by omega) 0 (.slice none 0 0)
  unfold cw3 at C9
  clear hb1 hb2 hb3 hb4 L3 z3
  go_wp2_with fail
  refine C9.mono ?_; rintro e w9 ⟨T, S, hb, RT, G, t, s, rfl, bz, bj, bw9⟩
  have hnl : nlast F3 (min 3 60) = 3 := by kernel_rfl
  rw [hnl]
  have hmin : min 3 60 = 3 := rfl
  rw [hmin] at bj
  obtain ⟨N1, N2, ⟨A, b, a, tt⟩, _, _, hN⟩ := bz.tt
  have C10 := snew_any tt 3
  have hg : ∀ j, j < 3 → Gv (F3 j) := fun j hj => by
    rcases (show j = 0 ∨ j = 1 ∨ j = 2 by omega) with rfl | rfl | rfl
    · exact ⟨fm_kn 3, by decide⟩
    · exact ⟨fm_kn 1, by decide⟩
    · exact ⟨fm_kn 2, by decide⟩
  have HMt : Hid (Mt 3 t s (fun k => F3 (k - 1).toNat)) := bj.mt tt.ti (by omega) hg
  have HN1 : Hid (∀ g, g < W3.heap.size → N1 g) := fun g hg => (hN g hg).1
  have HW9 : Hid (Below w.heap.size w w9) := bthen HB3.out HB3.out.size bw9
  clear C9 bz bj bw9 tt hN hg hnl hmin
  go_wp2_with fail
  refine C10.mono ?_; rintro e w10 ⟨rfl, so, kp⟩
  obtain ⟨B, hB⟩ : ∃ B, w9.heap.size = B := ⟨_, rfl⟩
  rw [hB] at so
  rw [hB]
  obtain ⟨t1, g1, m1⟩ := fixed_one (f := fun k => F3 (k - 1).toNat) rfl rfl HMt.out
  obtain ⟨t2, g2, m2⟩ := fixed_two (f := fun k => F3 (k - 1).toNat) rfl rfl rfl m1
  obtain ⟨t3, g3, m3⟩ := fixed_three (g := U.swp (fun k => F3 (k - 1).toNat) 1 3) rfl rfl m2
  have HG : Hid (goR (sf1, t1) true = ((sf2, t2), askT (kn 1) (kn 2)) ∧ goR (sf2, t2) true = ((endS 0, t3), endT 0)) := ⟨g2, g3⟩
  have HP : Hid (pget t3.1.p (kn 1) = kn 1 ∧ pget t3.1.p (kn 3) = kn 3) := ⟨(m3.2 1 (by omega) (by omega)).1, (m3.2 3 (by omega) (by omega)).1⟩
  have CN1 := next_any so (by omega) sf_fit.1 false ⟨by show (0 : Int) ≤ 0; omega, by show (0 : Int) ≤ 6; omega⟩
  rw [g1] at CN1
  unfold tol4 askT at CN1
  have HK10 : Hid (Keep N1 w9 w10) := kp
  clear C10 so kp hB g1 g2 g3 m1 m2 m3 HMt
  go_wp2_with fail
  refine CN1.mono ?_; rintro e w11 ⟨rfl, ⟨v1, A1, B1, D1, s1⟩, k1⟩
  have b11 := b2 w11 (vb 2 2 ⟨#[]⟩) (vb 2 3 ⟨#[]⟩)
  have s1' := s1.news b11
  have x6 := (Bx.made w11 (kn 2)).below (bw1 (w11.alloc (vb 2 2 ⟨#[]⟩)) (vb 2 3 ⟨#[]⟩))
  have x7 := Bx.made (w11.alloc (vb 2 2 ⟨#[]⟩)) (kn 3)
  have z11 : (w11.alloc (vb 2 2 ⟨#[]⟩)).heap.size = w11.heap.size + 1 := by simp
  have z11' : ((w11.alloc (vb 2 2 ⟨#[]⟩)).alloc (vb 2 3 ⟨#[]⟩)).heap.size = w11.heap.size + 2 := by simp
  rw [z11] at x7
  obtain ⟨N2, hN2⟩ : ∃ N2 : Nat → Prop, (fun g => N1 g ∨ (w11.heap.size ≤ g ∧ g < ((w11.alloc (vb 2 2 ⟨#[]⟩)).alloc (vb 2 3 ⟨#[]⟩)).heap.size)) = N2 := ⟨_, rfl⟩
  have HN2 : Hid ((∀ g, N1 g → N2 g) ∧ N2 w11.heap.size ∧ N2 (w11.heap.size + 1)) := by
    subst hN2
    exact ⟨fun g q => .inl q, .inr ⟨Nat.le_refl _, by omega⟩, .inr ⟨by omega, by omega⟩⟩
  rw [hN2] at s1'
  have CN2 := next_any s1' (by omega) sf_fit.2.1 true ⟨by show (0 : Int) ≤ 1; omega, by show (1 : Int) ≤ 6; omega⟩
  rw [HG.out.1] at CN2
  unfold tol4 askT at CN2
  have HX1 : Hid (Bx ((w11.alloc (vb 2 2 ⟨#[]⟩)).alloc (vb 2 3 ⟨#[]⟩)) w11.heap.size (kn 2) ∧ Bx ((w11.alloc (vb 2 2 ⟨#[]⟩)).alloc (vb 2 3 ⟨#[]⟩)) (w11.heap.size + 1) (kn 3) ∧ Keep N1 w9 ((w11.alloc (vb 2 2 ⟨#[]⟩)).alloc (vb 2 3 ⟨#[]⟩))) := ⟨x6, x7, (HK10.out.trans k1).trans (Keep.of b11)⟩
  unfold vb at CN2 HX1
  clear CN1 b11 s1 s1' k1 x6 x7 z11 z11' hN2 HK10
  go_wp2_with fail
  refine CN2.mono ?_; rintro e w12 ⟨rfl, ⟨v2, A2, B2, D2, s2⟩, k2⟩
  have y6 := HX1.out.1.kept k2 HN2.out.2.1
  have y7 := HX1.out.2.1.kept k2 HN2.out.2.2
  have kk2 : Keep N1 w9 w12 := HX1.out.2.2.trans (k2.sub HN2.out.1)
  obtain ⟨B6, hB6⟩ : ∃ B6, w11.heap.size = B6 := ⟨_, rfl⟩
  rw [hB6] at y6 y7 HN2
  rw [hB6]
  have b12 := b2 w12 (vb 2 1 ⟨#[]⟩) (vb 2 2 ⟨#[]⟩)
  have s2' := s2.news b12
  have u6 := y6.below b12
  have u7 := y7.below b12
  have u10 := (Bx.made w12 (kn 1)).below (bw1 (w12.alloc (vb 2 1 ⟨#[]⟩)) (vb 2 2 ⟨#[]⟩))
  have u11 := Bx.made (w12.alloc (vb 2 1 ⟨#[]⟩)) (kn 2)
  have z12 : (w12.alloc (vb 2 1 ⟨#[]⟩)).heap.size = w12.heap.size + 1 := by simp
  have z12' : ((w12.alloc (vb 2 1 ⟨#[]⟩)).alloc (vb 2 2 ⟨#[]⟩)).heap.size = w12.heap.size + 2 := by simp
  rw [z12] at u11
  obtain ⟨N3, hN3⟩ : ∃ N3 : Nat → Prop, (fun g => N2 g ∨ (w12.heap.size ≤ g ∧ g < ((w12.alloc (vb 2 1 ⟨#[]⟩)).alloc (vb 2 2 ⟨#[]⟩)).heap.size)) = N3 := ⟨_, rfl⟩
  have HN3 : Hid ((∀ g, N1 g → N3 g) ∧ N3 B6 ∧ N3 (B6 + 1) ∧ N3 w12.heap.size ∧ N3 (w12.heap.size + 1)) := by
    subst hN3
    exact ⟨fun g q => .inl (HN2.out.1 g q), .inl HN2.out.2.1, .inl HN2.out.2.2, .inr ⟨Nat.le_refl _, by omega⟩, .inr ⟨by omega, by omega⟩⟩
  rw [hN3] at s2'
  have CN3 := next_any s2' (by omega) sf_fit.2.2 true ⟨by show (0 : Int) ≤ 2; omega, by show (2 : Int) ≤ 6; omega⟩
  rw [HG.out.2] at CN3
  obtain ⟨ta, tb, hta⟩ : ∃ ta tb : V, endT 0 = (ta, tb, false, 0) := ⟨nil, nil, rfl⟩
  rw [hta] at CN3
  unfold tol4 at CN3
  have HX2 : Hid ((Bx ((w12.alloc (vb 2 1 ⟨#[]⟩)).alloc (vb 2 2 ⟨#[]⟩)) B6 (kn 2) ∧ Bx ((w12.alloc (vb 2 1 ⟨#[]⟩)).alloc (vb 2 2 ⟨#[]⟩)) (B6 + 1) (kn 3)) ∧ (Bx ((w12.alloc (vb 2 1 ⟨#[]⟩)).alloc (vb 2 2 ⟨#[]⟩)) w12.heap.size (kn 1) ∧ Bx ((w12.alloc (vb 2 1 ⟨#[]⟩)).alloc (vb 2 2 ⟨#[]⟩)) (w12.heap.size + 1) (kn 2)) ∧ Keep N1 w9 ((w12.alloc (vb 2 1 ⟨#[]⟩)).alloc (vb 2 2 ⟨#[]⟩))) := ⟨⟨u6, u7⟩, ⟨u10, u11⟩, kk2.trans (Keep.of b12)⟩
  unfold vb at CN3 HX2
  clear CN2 b12 s2 s2' k2 y6 y7 u6 u7 u10 u11 z12 z12' hN3 HX1 HN2 kk2 hta HG hB6
  go_wp2_with fail
  refine CN3.mono ?_; rintro e w13 ⟨rfl, ⟨v3, A3, B3, D3, s3⟩, k3⟩
  simp only
  obtain ⟨B10, hB10⟩ : ∃ B10, w12.heap.size = B10 := ⟨_, rfl⟩
  have q6 := HX2.out.1.1.kept k3 HN3.out.2.1
  have q7 := HX2.out.1.2.kept k3 HN3.out.2.2.1
  have q10 := HX2.out.2.1.1.kept k3 HN3.out.2.2.2.1
  have q11 := HX2.out.2.1.2.kept k3 HN3.out.2.2.2.2
  rw [hB10] at q10 q11 HN3
  rw [hB10]
  have kk3 : Keep N1 w9 w13 := HX2.out.2.2.trans (k3.sub HN3.out.1)
  have b13 := b2 w13 (vb ta.1 ta.2.1 ta.2.2) (vb tb.1 tb.2.1 tb.2.2)
  have s3' := s3.below b13
  have HQ : Hid (∀ W', Keep N3 ((w13.alloc (vb ta.1 ta.2.1 ta.2.2)).alloc (vb tb.1 tb.2.1 tb.2.2)) W' → (W'.cell? ⟨B6, 0, none⟩ = some (.int .i64 2) ∧ W'.cell? ⟨B6, 1, none⟩ = some (.int .i64 2) ∧ W'.cell? ⟨B6, 2, none⟩ = some (.string ⟨#[]⟩)) ∧ (W'.cell? ⟨B6 + 1, 0, none⟩ = some (.int .i64 2) ∧ W'.cell? ⟨B6 + 1, 1, none⟩ = some (.int .i64 3) ∧ W'.cell? ⟨B6 + 1, 2, none⟩ = some (.string ⟨#[]⟩)) ∧ (W'.cell? ⟨B10, 0, none⟩ = some (.int .i64 2) ∧ W'.cell? ⟨B10, 1, none⟩ = some (.int .i64 1) ∧ W'.cell? ⟨B10, 2, none⟩ = some (.string ⟨#[]⟩)) ∧ (W'.cell? ⟨B10 + 1, 0, none⟩ = some (.int .i64 2) ∧ W'.cell? ⟨B10 + 1, 1, none⟩ = some (.int .i64 2) ∧ W'.cell? ⟨B10 + 1, 2, none⟩ = some (.string ⟨#[]⟩))) := fun W' kq => by
    have p6 := (q6.below b13).kept kq HN3.out.2.1
    have p7 := (q7.below b13).kept kq HN3.out.2.2.1
    have p10 := (q10.below b13).kept kq HN3.out.2.2.2.1
    have p11 := (q11.below b13).kept kq HN3.out.2.2.2.2
    exact ⟨⟨p6.c0, p6.c1, p6.c2⟩, ⟨p7.c0, p7.c1, p7.c2⟩, ⟨p10.c0, p10.c1, p10.c2⟩, ⟨p11.c0, p11.c1, p11.c2⟩⟩
  have HE : Hid (∀ W', Keep N3 ((w13.alloc (vb ta.1 ta.2.1 ta.2.2)).alloc (vb tb.1 tb.2.1 tb.2.2)) W' → Below w.heap.size w W') := fun W' kq => by
    have k9 : Keep N1 w9 W' := (kk3.trans (Keep.of b13)).trans (kq.sub HN3.out.1)
    exact HW9.out.trans (k9.below HW9.out.size (fun g hg => HN1.out g (Nat.lt_of_lt_of_le hg HB3.out.size)))
  have HGs : Hid (Gs (Nq N3 B v3) ((w13.alloc (vb ta.1 ta.2.1 ta.2.2)).alloc (vb tb.1 tb.2.1 tb.2.2)) T A3 B3 D3 S hb (1000 + 31 + 31 + 31) t3.1 t3.2 ((w13.alloc (vb ta.1 ta.2.1 ta.2.2)).alloc (vb tb.1 tb.2.1 tb.2.2))) := ⟨⟨_, s3'.tt⟩, Keep.refl _ _⟩
  obtain ⟨Wk, hWk⟩ : ∃ Wk, (w13.alloc (vb ta.1 ta.2.1 ta.2.2)).alloc (vb tb.1 tb.2.1 tb.2.2) = Wk := ⟨_, rfl⟩
  rw [hWk] at HQ HE HGs
  unfold vb at hWk
  clear CN3 s3 s3' k3 q6 q7 q10 q11 HX2 kk3 b13 hB10 HN1 HW9 HB3 HN3
  go_wp2_with fail
  have g32 := guard32
  have e1 : ∀ W', (binOp .eql 34 (vl 2 1 ⟨#[]⟩) (vl 2 1 ⟨#[]⟩)).run Tryz.prog W' = .ok (.bool true) W' := fun W' => by rw [eql32]; simp
  have e2 : ∀ W', (binOp .eql 34 (vl 2 2 ⟨#[]⟩) (vl 2 2 ⟨#[]⟩)).run Tryz.prog W' = .ok (.bool true) W' := fun W' => by rw [eql32]; simp
  have e3 : ∀ W', (binOp .eql 34 (vl 2 3 ⟨#[]⟩) (vl 2 3 ⟨#[]⟩)).run Tryz.prog W' = .ok (.bool true) W' := fun W' => by rw [eql32]; simp
  unfold vl at e1 e2 e3
  have HGet1 : Hid (∀ c W', c ≤ 700000 → Gs (Nq N3 B v3) Wk T A3 B3 D3 S hb c t3.1 t3.2 W' → Calls Tryz.prog 9 #[.pointer (some ⟨T, 0, none⟩), .agg #[.int .i64 2, .int .i64 1, .string ⟨#[]⟩]] W' fun e w' => e = .returned (.agg #[.int .i64 2, .int .i64 1, .string ⟨#[]⟩]) ∧ Gs (Nq N3 B v3) Wk T A3 B3 D3 S hb (c + 1) t3.1 t3.2 w') := fun c W' hc z => z.get hc 1 (by omega) (by omega) HP.out.1
  have HGet3 : Hid (∀ c W', c ≤ 700000 → Gs (Nq N3 B v3) Wk T A3 B3 D3 S hb c t3.1 t3.2 W' → Calls Tryz.prog 9 #[.pointer (some ⟨T, 0, none⟩), .agg #[.int .i64 2, .int .i64 3, .string ⟨#[]⟩]] W' fun e w' => e = .returned (.agg #[.int .i64 2, .int .i64 3, .string ⟨#[]⟩]) ∧ Gs (Nq N3 B v3) Wk T A3 B3 D3 S hb (c + 1) t3.1 t3.2 w') := fun c W' hc z => z.get hc 3 (by omega) (by omega) HP.out.2
  have HG0 : Hid (Gs (Nq N3 B v3) Wk T A3 B3 D3 S hb 1093 t3.1 t3.2 Wk.drew) := HGs.out.below (bdrew1 Wk)
  have HK0 : Hid (Keep N3 Wk Wk.drew) := HG0.out.kp.sub (fun _ q => .inl q)
  have HKk : Hid (Keep N3 Wk Wk) := Keep.refl _ _
  have HQ2 : Hid (∀ w', Keep N3 Wk w' → w'.cell? ⟨B6, 0, none⟩ = some (.int .i64 2) ∧ w'.cell? ⟨B6, 1, none⟩ = some (.int .i64 2) ∧ w'.cell? ⟨B6, 2, none⟩ = some (.string ⟨#[]⟩) ∧ w'.cell? ⟨B6 + 1, 0, none⟩ = some (.int .i64 2) ∧ w'.cell? ⟨B6 + 1, 1, none⟩ = some (.int .i64 3) ∧ w'.cell? ⟨B6 + 1, 2, none⟩ = some (.string ⟨#[]⟩) ∧ w'.cell? ⟨B10, 0, none⟩ = some (.int .i64 2) ∧ w'.cell? ⟨B10, 1, none⟩ = some (.int .i64 1) ∧ w'.cell? ⟨B10, 2, none⟩ = some (.string ⟨#[]⟩) ∧ w'.cell? ⟨B10 + 1, 0, none⟩ = some (.int .i64 2) ∧ w'.cell? ⟨B10 + 1, 1, none⟩ = some (.int .i64 2) ∧ w'.cell? ⟨B10 + 1, 2, none⟩ = some (.string ⟨#[]⟩)) := fun w' kq => by
    obtain ⟨⟨p0, p1, p2⟩, ⟨p3, p4, p5⟩, ⟨p6, p7, p8⟩, ⟨p9, p10, p11⟩⟩ := HQ.out w' kq
    exact ⟨p0, p1, p2, p3, p4, p5, p6, p7, p8, p9, p10, p11⟩
  clear HQ HGs hWk
  go_cut [0] (fun x wx => x = .bool true ∧ Hid (Below w.heap.size w wx))
  case first =>
    go_region_held3 (fun w' => w'.cell? ⟨B6, 0, none⟩ = some (.int .i64 2) ∧ w'.cell? ⟨B6, 1, none⟩ = some (.int .i64 2) ∧ w'.cell? ⟨B6, 2, none⟩ = some (.string ⟨#[]⟩) ∧ w'.cell? ⟨B6 + 1, 0, none⟩ = some (.int .i64 2) ∧ w'.cell? ⟨B6 + 1, 1, none⟩ = some (.int .i64 3) ∧ w'.cell? ⟨B6 + 1, 2, none⟩ = some (.string ⟨#[]⟩) ∧ w'.cell? ⟨B10, 0, none⟩ = some (.int .i64 2) ∧ w'.cell? ⟨B10, 1, none⟩ = some (.int .i64 1) ∧ w'.cell? ⟨B10, 2, none⟩ = some (.string ⟨#[]⟩) ∧ w'.cell? ⟨B10 + 1, 0, none⟩ = some (.int .i64 2) ∧ w'.cell? ⟨B10 + 1, 1, none⟩ = some (.int .i64 2) ∧ w'.cell? ⟨B10 + 1, 2, none⟩ = some (.string ⟨#[]⟩)) (exact HQ2.out _ (by first | exact HK10.out | exact HK9.out | exact HK8.out | exact HK7.out | exact HK6.out | exact HK5.out | exact HK4.out | exact HK3.out | exact HK2.out | exact HK1.out | exact HK0.out | exact HKk.out)) (first
      | (go_at_call 7; (fail_if_success (have kz := HK1)); refine (HI.out 2 _).mono ?_; rintro e w10 ⟨rfl, bb⟩; have HG1 : Hid (Gs (Nq N3 B v3) Wk T A3 B3 D3 S hb 1093 t3.1 t3.2 w10) := HG0.out.below bb; have HK1 : Hid (Keep N3 Wk w10) := HG1.out.kp.sub (fun _ q => .inl q); clear bb)
      | (go_at_call 7; (fail_if_success (have kz := HK2)); refine (HI.out 3 _).mono ?_; rintro e w20 ⟨rfl, bb⟩; have HG2 : Hid (Gs (Nq N3 B v3) Wk T A3 B3 D3 S hb 1093 t3.1 t3.2 w20) := HG1.out.below bb; have HK2 : Hid (Keep N3 Wk w20) := HG2.out.kp.sub (fun _ q => .inl q); clear bb)
      | (go_at_call 7; (fail_if_success (have kz := HK3)); refine (HI.out 1 _).mono ?_; rintro e w30 ⟨rfl, bb⟩; have HG3 : Hid (Gs (Nq N3 B v3) Wk T A3 B3 D3 S hb 1093 t3.1 t3.2 w30) := HG2.out.below bb; have HK3 : Hid (Keep N3 Wk w30) := HG3.out.kp.sub (fun _ q => .inl q); clear bb)
      | (go_at_call 7; (fail_if_success (have kz := HK4)); refine (HI.out 2 _).mono ?_; rintro e w40 ⟨rfl, bb⟩; have HG4 : Hid (Gs (Nq N3 B v3) Wk T A3 B3 D3 S hb 1093 t3.1 t3.2 w40) := HG3.out.below bb; have HK4 : Hid (Keep N3 Wk w40) := HG4.out.kp.sub (fun _ q => .inl q); clear bb)
      | (go_at_call 7; (fail_if_success (have kz := HK5)); refine (HI.out 1 _).mono ?_; rintro e w50 ⟨rfl, bb⟩; have HG5 : Hid (Gs (Nq N3 B v3) Wk T A3 B3 D3 S hb 1093 t3.1 t3.2 w50) := HG4.out.below bb; have HK5 : Hid (Keep N3 Wk w50) := HG5.out.kp.sub (fun _ q => .inl q); clear bb)
      | (go_at_call 9; (fail_if_success (have kz := HK6)); refine (HGet1.out 1093 _ (by omega) HG5.out).mono ?_; rintro e w60 ⟨rfl, gg⟩; have HG6 : Hid (Gs (Nq N3 B v3) Wk T A3 B3 D3 S hb 1094 t3.1 t3.2 w60) := gg; have HK6 : Hid (Keep N3 Wk w60) := HG6.out.kp.sub (fun _ q => .inl q); clear gg)
      | (go_at_call 7; (fail_if_success (have kz := HK7)); refine (HI.out 1 _).mono ?_; rintro e w70 ⟨rfl, bb⟩; have HG7 : Hid (Gs (Nq N3 B v3) Wk T A3 B3 D3 S hb 1094 t3.1 t3.2 w70) := HG6.out.below bb; have HK7 : Hid (Keep N3 Wk w70) := HG7.out.kp.sub (fun _ q => .inl q); clear bb)
      | (go_at_call 7; (fail_if_success (have kz := HK8)); refine (HI.out 3 _).mono ?_; rintro e w80 ⟨rfl, bb⟩; have HG8 : Hid (Gs (Nq N3 B v3) Wk T A3 B3 D3 S hb 1094 t3.1 t3.2 w80) := HG7.out.below bb; have HK8 : Hid (Keep N3 Wk w80) := HG8.out.kp.sub (fun _ q => .inl q); clear bb)
      | (go_at_call 9; (fail_if_success (have kz := HK9)); refine (HGet3.out 1094 _ (by omega) HG8.out).mono ?_; rintro e w90 ⟨rfl, gg⟩; have HG9 : Hid (Gs (Nq N3 B v3) Wk T A3 B3 D3 S hb 1095 t3.1 t3.2 w90) := gg; have HK9 : Hid (Keep N3 Wk w90) := HG9.out.kp.sub (fun _ q => .inl q); clear gg)
      | (go_at_call 7; (fail_if_success (have kz := HK10)); refine (HI.out 3 _).mono ?_; rintro e w100 ⟨rfl, bb⟩; have HG10 : Hid (Gs (Nq N3 B v3) Wk T A3 B3 D3 S hb 1095 t3.1 t3.2 w100) := HG9.out.below bb; have HK10 : Hid (Keep N3 Wk w100) := HG10.out.kp.sub (fun _ q => .inl q); clear bb))
    all_goals
      go_wp2_with fail
      go_meet
      exact ⟨rfl, HE.out _ HK10.out⟩
  case rest =>
    obtain ⟨rfl, HX5⟩ := hcut
    go_wp2_with fail
    go_ret
    exact ⟨rfl, HX5.out⟩
end Go.Proofs.YtcaaaoehipcloaaGreat
