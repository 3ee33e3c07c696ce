/- The walk of sameNodes: two rows of nodes that are alike. -/
import Derived.Test.YtonopchpnhninaaGreatCg33
import Derived.Test.YtonopchpnhninaaGreatCg37
namespace Go.Proofs.YtonopchpnhninaaGreat
open Go.RowKit

set_option maxRecDepth 100000 in
set_option maxHeartbeats 4000000 in
theorem same_any {D1 D2 n c1 c2 : Nat} {g : G} (w : World) (h1 : Rc w D1 n (nf (pl n) g)) (h2 : Rc w D2 n (nf (pl n) g)) (hn : n ≤ 65536) :
    Calls Tryz.prog 50 #[.slice (some ⟨D1, 0, none⟩) n c1, .slice (some ⟨D2, 0, none⟩) n c2] w fun e w' => e = .returned (.bool true) ∧ Below w.heap.size w w' := by
  have H1 : Hid (∀ w', Below w.heap.size w w' → Rc w' D1 n (nf (pl n) g) ∧ Rc w' D2 n (nf (pl n) g)) := fun w' hw => by
    by_cases q1 : D1 < w.heap.size
    · by_cases q2 : D2 < w.heap.size
      · exact ⟨h1.block (hw.block D1 q1), h2.block (hw.block D2 q2)⟩
      · by_cases q3 : n = 0
        · exact ⟨h1.block (hw.block D1 q1), ⟨fun i hi => by omega⟩⟩
        · have := World.block_lt_of_cell? w _ (h2.c 0 (by omega) 0 (by omega)); exact absurd this q2
    · by_cases q3 : n = 0
      · exact ⟨⟨fun i hi => by omega⟩, ⟨fun i hi => by omega⟩⟩
      · have := World.block_lt_of_cell? w _ (h1.c 0 (by omega) 0 (by omega)); exact absurd this q1
  clear h1 h2
  go_enter Tryz.func50, Tryz.ntmps50
  go_wp2_with fail
  go_loopw [5] (fun iw wr => ∃ i : Nat, iw = .int .i64 (i : Nat) ∧ i ≤ n ∧ Hid (Below w.heap.size w wr)) (fun iw _ => n - (intOf iw).toNat)
  case atStart => exact ⟨0, rfl, by omega, Below.refl _ _⟩
  case round =>
    obtain ⟨i, rfl, hi, HB⟩ := hrel
    by_cases hlt : i < n
    · have hlt' : (i : Int) < (n : Int) := by omega
      obtain ⟨r1, r2⟩ := H1.out wr HB.out
      have a0 : wr.cell? ⟨D1, i * 7, none⟩ = some (.int .i64 (g.K i).1) := r1.c i hlt 0 (by omega)
      have a1 : wr.cell? ⟨D1, i * 7 + 1, none⟩ = some (.int .i64 (g.K i).2.1) := r1.c i hlt 1 (by omega)
      have a2 : wr.cell? ⟨D1, i * 7 + 2, none⟩ = some (.string (g.K i).2.2) := r1.c i hlt 2 (by omega)
      have a3 : wr.cell? ⟨D1, i * 7 + 3, none⟩ = some (.int .i64 (g.X i).1) := r1.c i hlt 3 (by omega)
      have a4 : wr.cell? ⟨D1, i * 7 + 4, none⟩ = some (.int .i64 (g.X i).2.1) := r1.c i hlt 4 (by omega)
      have a5 : wr.cell? ⟨D1, i * 7 + 5, none⟩ = some (.string (g.X i).2.2) := r1.c i hlt 5 (by omega)
      have a6 : wr.cell? ⟨D1, i * 7 + 6, none⟩ = some (.int .i64 (link (pl n) g i)) := r1.c i hlt 6 (by omega)
      have b0 : wr.cell? ⟨D2, i * 7, none⟩ = some (.int .i64 (g.K i).1) := r2.c i hlt 0 (by omega)
      have b1 : wr.cell? ⟨D2, i * 7 + 1, none⟩ = some (.int .i64 (g.K i).2.1) := r2.c i hlt 1 (by omega)
      have b2 : wr.cell? ⟨D2, i * 7 + 2, none⟩ = some (.string (g.K i).2.2) := r2.c i hlt 2 (by omega)
      have b3 : wr.cell? ⟨D2, i * 7 + 3, none⟩ = some (.int .i64 (g.X i).1) := r2.c i hlt 3 (by omega)
      have b4 : wr.cell? ⟨D2, i * 7 + 4, none⟩ = some (.int .i64 (g.X i).2.1) := r2.c i hlt 4 (by omega)
      have b5 : wr.cell? ⟨D2, i * 7 + 5, none⟩ = some (.string (g.X i).2.2) := r2.c i hlt 5 (by omega)
      have b6 : wr.cell? ⟨D2, i * 7 + 6, none⟩ = some (.int .i64 (link (pl n) g i)) := r2.c i hlt 6 (by omega)
      have N1 := neq32 (g.K i).1 (g.K i).2.1 (g.K i).1 (g.K i).2.1 (g.K i).2.2 (g.K i).2.2
      have N2 := neq32 (g.X i).1 (g.X i).2.1 (g.X i).1 (g.X i).2.1 (g.X i).2.2 (g.X i).2.2
      simp only [decide_true, Bool.not_true] at N1 N2
      unfold vl at N1 N2
      have g32 := guard32
      clear r1 r2
      go_wp2_with fail
      go_quiet (fail)
      go_wp2_with fail
      go_round
      case rel => exact ⟨i + 1, by go_num, by omega, HB.out.trans (bdrew _ _ _)⟩
      case measure => simp [intOf]; omega
    · have hlt' : ¬ (i : Int) < (n : Int) := by omega
      go_wp2_with fail
      go_ret
      exact ⟨rfl, HB.out⟩
set_option maxRecDepth 100000 in
set_option maxHeartbeats 4000000 in
theorem samev_any {B A n c2 : Nat} {v : Value} {F : Nat → V} (w : World) (h1 : Lv w B v n F) (h2 : Rv w A n F) (hA : A < w.heap.size) (hn : n ≤ 65536) :
    Calls Tryz.prog 49 #[v, .slice (some ⟨A, 0, none⟩) n c2] w fun e w' => e = .returned (.bool true) ∧ Below w.heap.size w w' := by
  have HL : Hid (Lv w B v n F) := h1
  have HR : Hid (∀ w', Below w.heap.size w w' → Rv w' A n F) := fun w' hw => h2.block (hw.block A hA)
  obtain ⟨av, cv, rfl⟩ := h1.form
  clear h1 h2
  go_enter Tryz.func49, Tryz.ntmps49
  go_wp2_with fail
  go_loopw [5] (fun iw wr => ∃ i : Nat, iw = .int .i64 (i : Nat) ∧ i ≤ n ∧ Hid (Below w.heap.size w wr)) (fun iw _ => n - (intOf iw).toNat)
  case atStart => exact ⟨0, rfl, by omega, Below.refl _ _⟩
  case round =>
    obtain ⟨i, rfl, hi, HB⟩ := hrel
    by_cases hlt : i < n
    · have hlt' : (i : Int) < (n : Int) := by omega
      obtain ⟨g0, c0, hv, _, _, _, x0, x1, x2⟩ := (HL.out.below HB.out).at hlt
      obtain ⟨rfl, rfl⟩ : av = some ⟨g0, 0, none⟩ ∧ cv = c0 := by simpa using hv
      obtain ⟨y0, y1, y2⟩ := (HR.out wr HB.out).at hlt
      have N1 := neq32 (F i).1 (F i).2.1 (F i).1 (F i).2.1 (F i).2.2 (F i).2.2
      simp only [decide_true, Bool.not_true] at N1
      unfold vl at N1
      have g32 := guard32
      clear hv
      generalize F i = x at *
      go_wp2_with fail
      go_quiet (fail)
      go_wp2_with fail
      go_round
      case rel => exact ⟨i + 1, by go_num, by omega, HB.out.trans (bdrew _ _ _)⟩
      case measure => simp [intOf]; omega
    · have hlt' : ¬ (i : Int) < (n : Int) := by omega
      go_wp2_with fail
      go_ret
      exact ⟨rfl, HB.out⟩
set_option maxRecDepth 20000 in
set_option maxHeartbeats 2000000 in
theorem Bz.dumps {Q : Nat → Prop} {w : World} {T S hb RT G c : Nat} {t u : TS} {s s' : H.St} (h : Bz Q w T S hb RT G c t s u s') (he : t.p = u.p) : Calls Tryz.prog 23 #[tp T, tp RT] w fun e w' => e = .returned (.bool true) ∧ Below w.heap.size w w' := by
  have CD := h.dump
  obtain ⟨N1, N2, _, ⟨A, P, ka, va, ca, cb, h2⟩, _, _⟩ := h.tt
  have HQ : Hid (RQ N2 w RT A P ka va ca cb G c u s') := h2
  have hz := h2.ti.rt
  have HTI : Hid (TI u.p) := h2.ti
  rw [he] at CD
  clear h h2 he
  unfold tp at CD ⊢
  go_enter Tryz.func23, Tryz.ntmps23
  go_wp2_with fail
  refine CD.mono ?_; rintro e w1 ⟨v, g', c', rfl, hd⟩
  have HD : Hid (Dt w w1 v g' c' u.p) := hd
  have r1 := HQ.out.rb.below hd.bel
  have e0 := r1.c0
  have CS := samev_any (c2 := u.p.n) w1 hd.lv r1.sl r1.ltA HTI.out.le
  obtain ⟨av, cv, rfl⟩ := hd.lv.form
  clear CD hd r1
  go_wp2_with fail
  refine CS.mono ?_; rintro e w2 ⟨rfl, hb2⟩
  have hb02 := bthen HD.out.bel HD.out.bel.size hb2
  have HB2 : Hid (Below w.heap.size w w2 ∧ Below w1.heap.size w1 w2) := ⟨hb02, hb2⟩
  have r2 := HQ.out.rb.below hb02
  have e1 := r2.c1
  have CR := rdump_any w2 r2.rp HTI.out.inv hz
  unfold pp at CR
  clear CS hb02 hb2 r2 e0
  go_wp2_with fail
  refine CR.mono ?_; rintro e w3 ⟨rfl, rc3, lt3, hb3⟩
  have hrc : Rc w3 g' u.p.z (nf (pl u.p.z) u.p.g) := (HD.out.rc.block (HB2.out.2.block g' HD.out.lt)).block (hb3.block g' (by have := HB2.out.2.size; have := HD.out.lt; omega))
  have CN := same_any (c1 := c') (c2 := u.p.z) w3 hrc rc3 hz.le
  have HB3 : Hid (Below w.heap.size w w3) := bthen HB2.out.1 HB2.out.1.size hb3
  clear CR rc3 lt3 hb3 hrc e1
  go_wp2_with fail
  refine CN.mono ?_; rintro e w4 ⟨rfl, hb4⟩
  have HB4 : Hid (Below w.heap.size w w4) := bthen HB3.out HB3.out.size hb4
  clear CN hb4
  go_wp2_with fail
  go_ret
  exact ⟨rfl, HB4.out⟩
end Go.Proofs.YtonopchpnhninaaGreat

/- Both tables beside cells that a law writes over. The great seat's numbers. -/
namespace Go.Proofs.YtonopchpnhninaaGreat
open Go.RowKit

/-- Cells that may be written. -/
structure Wt (w : World) (g m : Nat) : Prop where
  c : ∀ j, j < m → ∃ x, w.cell? ⟨g, j, none⟩ = some x
  f : ∀ j, w.frozen? ⟨g, j, none⟩ = false
  lt : g < w.heap.size
theorem Wt.set {w : World} {g m : Nat} (h : Wt w g m) (p : Addr) (v : Value) : Wt (w.setCell p v) g m := by
  refine ⟨fun j hj => ?_, fun j => by simpa using h.f j, by simpa [World.setCell] using h.lt⟩
  obtain ⟨x, hx⟩ := h.c j hj
  by_cases e : p = ⟨g, j, none⟩
  · exact ⟨v, by rw [e]; exact World.cell?_setCell_same _ _ _ hx⟩
  · exact ⟨x, by rw [World.cell?_setCell_other _ _ _ _ (fun q => e q)]; exact hx⟩
theorem Wt.below {w w' : World} {g m : Nat} (h : Wt w g m) (k : Below w.heap.size w w') : Wt w' g m := by
  have e := k.block g h.lt
  exact ⟨fun j hj => by rw [World.cell?_of_block (w := w) e]; exact h.c j hj, fun j => by rw [World.frozen?_of_block (w := w) e]; exact h.f j, Nat.lt_of_lt_of_le h.lt k.size⟩
theorem Bz.write {Q : Nat → Prop} {w w' : World} {T S hb RT G c : Nat} {t u : TS} {s s' : H.St} (h : Bz Q w T S hb RT G c t s u s') (k : Keep (fun g => ¬ Q g) w w') : Bz Q w' T S hb RT G c t s u s' := by
  obtain ⟨N1, N2, ⟨A, b, a, h1⟩, ⟨A', P, ka, va, ca, cb, h2⟩, h3, h4⟩ := h.tt
  have f1 := h1.frame2 (w' := w') k.os k.tape k.output k.size (fun g hg hn => k.block g hg (fun q => hn (h4 g q).1))
  have f2 := h2.frame (w' := w') (k.sub fun g hn q => hn (h4 g q).2)
  refine ⟨⟨_, _, ⟨A, b, a, f1⟩, ⟨A', P, ka, va, ca, cb, f2⟩, fun g q => ?_, fun g q => ⟨.inl (h4 g q).1, .inl (h4 g q).2⟩⟩⟩
  by_cases hg : g < w.heap.size
  · rcases h3 g hg with r | r
    · exact .inl (.inl r)
    · exact .inr (.inl r)
  · exact .inl (.inr ⟨by omega, q⟩)
structure Ws (Q0 Q1 : Nat → Prop) (W3 w : World) (T S hb RT G c : Nat) (t : TS) (s : H.St) (av : Option Addr) (n g' z : Nat) : Prop where
  bz : Bz Q1 w T S hb RT G c t s t s
  kp : Keep Q0 W3 w
  ws : ∀ g, av = some ⟨g, 0, none⟩ → Wt w g (n * 3) ∧ Q1 g ∧ ¬ Q0 g
  wn : Wt w g' (z * 7) ∧ Q1 g' ∧ ¬ Q0 g'
section
variable {Q0 Q1 : Nat → Prop} {W3 w w' : World} {T S hb RT G c : Nat} {t : TS} {s : H.St} {av : Option Addr} {n g' z : Nat}
theorem Ws.below (h : Ws Q0 Q1 W3 w T S hb RT G c t s av n g' z) (k : Below w.heap.size w w') : Ws Q0 Q1 W3 w' T S hb RT G c t s av n g' z :=
  ⟨h.bz.below k, h.kp.trans (Keep.of k), fun g e => ⟨(h.ws g e).1.below k, (h.ws g e).2⟩, h.wn.1.below k, h.wn.2⟩
theorem Ws.set (h : Ws Q0 Q1 W3 w T S hb RT G c t s av n g' z) {g : Nat} (hq : Q1 g ∧ ¬ Q0 g) (j : Nat) (x : Value) : Ws Q0 Q1 W3 (w.setCell ⟨g, j, none⟩ x) T S hb RT G c t s av n g' z :=
  ⟨h.bz.write ((Keep.refl _ w).set (p := ⟨g, j, none⟩) (fun q => q hq.1) x), h.kp.trans ((Keep.refl _ w).set (p := ⟨g, j, none⟩) hq.2 x), fun g e => ⟨(h.ws g e).1.set _ _, (h.ws g e).2⟩, h.wn.1.set _ _, h.wn.2⟩
/-- Behind Dump. -/
theorem Bz.ws {Q0 : Nat → Prop} {W3 w w' : World} {av : Option Addr} {cv dg dc : Nat} (h : Bz Q0 w T S hb RT G c t s t s) (k : Keep Q0 W3 w) (hq : ∀ g, w.heap.size ≤ g → ¬ Q0 g) (d : Dt w w' (.slice av t.p.n cv) dg dc t.p) :
    Ws Q0 (fun g => Q0 g ∨ (w.heap.size ≤ g ∧ g < w'.heap.size)) W3 w' T S hb RT G c t s av t.p.n dg t.p.z := by
  refine ⟨h.news d.bel, k.trans (Keep.of d.bel), fun g e => ?_, ⟨fun j hj => ?_, d.fz, d.lt⟩, .inr ⟨d.ge, d.lt⟩, hq dg d.ge⟩
  · subst e
    have ho : (Value.slice (some ⟨g, 0, none⟩) t.p.n cv).ownBlock = some g := rfl
    have l := d.lv.own.lt g ho
    refine ⟨⟨fun j hj => ?_, fun j => ?_, l.2⟩, .inr l, hq g l.1⟩
    · have h3 : 0 < 3 := by omega
      obtain ⟨g0, c0, hv, _, _, _, x0, x1, x2⟩ := d.lv.at (i := j / 3) (by rw [Nat.div_lt_iff_lt_mul h3]; exact hj)
      obtain ⟨rfl, rfl⟩ : g = g0 ∧ cv = c0 := by simpa using hv
      have e : j = j / 3 * 3 + j % 3 := by omega
      have : j % 3 = 0 ∨ j % 3 = 1 ∨ j % 3 = 2 := by omega
      rcases this with q | q | q
      · exact ⟨_, by rw [e, q]; exact x0⟩
      · exact ⟨_, by rw [e, q]; exact x1⟩
      · exact ⟨_, by rw [e, q]; exact x2⟩
    · rcases d.lv.own.2 with ⟨q, _⟩ | ⟨g0, cap, cur, q, h2, h3, h4⟩
      · cases q
      · obtain ⟨rfl, rfl⟩ : g = g0 ∧ cv = cap := by simpa using q
        unfold World.frozen?
        rw [h3]
        simp
  · have e : j = j / 7 * 7 + j % 7 := by omega
    exact ⟨_, by rw [e]; exact d.rc.c (j / 7) (by omega) (j % 7) (by omega)⟩
/-- A node is written over. -/
abbrev set7i (w : World) (g i : Nat) (k x : V) (l : Int) : World := ((((((w.setCell ⟨g, i * 7, none⟩ (.int .i64 k.1)).setCell ⟨g, i * 7 + 1, none⟩ (.int .i64 k.2.1)).setCell ⟨g, i * 7 + 2, none⟩ (.string k.2.2)).setCell ⟨g, i * 7 + 3, none⟩ (.int .i64 x.1)).setCell ⟨g, i * 7 + 4, none⟩ (.int .i64 x.2.1)).setCell ⟨g, i * 7 + 5, none⟩ (.string x.2.2)).setCell ⟨g, i * 7 + 6, none⟩ (.int .i64 l)
theorem Ws.set7 (h : Ws Q0 Q1 W3 w T S hb RT G c t s av n g' z) {g : Nat} (hq : Q1 g ∧ ¬ Q0 g) (i : Nat) (k x : V) (l : Int) : Ws Q0 Q1 W3 (set7i w g i k x l) T S hb RT G c t s av n g' z :=
  ((((((h.set hq _ _).set hq _ _).set hq _ _).set hq _ _).set hq _ _).set hq _ _).set hq _ _
theorem Ws.set3 (h : Ws Q0 Q1 W3 w T S hb RT G c t s av n g' z) {g : Nat} (hq : Q1 g ∧ ¬ Q0 g) (i : Nat) (x : V) : Ws Q0 Q1 W3 (set3i w g i x) T S hb RT G c t s av n g' z :=
  ((h.set hq _ _).set hq _ _).set hq _ _
end
end Go.Proofs.YtonopchpnhninaaGreat
