/- The sorter's row of rows: one put on. -/
import Derived.Test.YtcaaaoehipcloaaGreatCg18
import Derived.Test.YtcaaaoehipcloaaGreatCg08
import Derived.Test.YtcaaaoehipcloaaGreatCg20
import Derived.BigRegion
import Derived.Deep.DeepCutAuto
namespace Go.Proofs.YtcaaaoehipcloaaGreat
open Go.RowKit

theorem info70 : (Tryz.prog.info? 68).map (fun i => (i.zero, i.size, i.bytes)) = some (some (.agg #[.int .i64 0, .int .i64 0]), 2, 16) := by kernel_rfl
/-- A row is put on: what append answers, and what is owned then. -/
theorem So.push {No : Nat → Prop} {w : World} {B : Nat} {wv : Value} {T A b a S hb c : Nat} {d : SD} (h : So No w B wv T A b a S hb c d) (hl : d.1.wt.length ≤ 1000000) {b0 : Nat} {r : Int × Int} (c0 : w.cell? ⟨b0, 0, none⟩ = some (.int .i64 r.1)) (c1 : w.cell? ⟨b0, 1, none⟩ = some (.int .i64 r.2)) :
    ∃ g cap w', (Builtin.append_ #[69, 69] 69 #[wv, .slice (some ⟨b0, 0, none⟩) 1 1]).run Tryz.prog w = .ok (.slice (some ⟨g, 0, none⟩) (d.1.wt.length + 1) cap) w' ∧ w'.ownsRow (B + 1) 68 2 (.slice (some ⟨g, 0, none⟩) (d.1.wt.length + 1) cap) (d.1.wt.length + 1) (rws (r :: d.1.wt).reverse) ∧ w.grownBy w' wv.ownBlock ∧ (wv.ownBlock = some g ∨ g = w.heap.size) ∧ g < w'.heap.size := by
  obtain ⟨i0, hi, hz0, hz1, hz2⟩ := info_parts info70
  have hlt := h.lt
  obtain ⟨g, cap, w', h1, h2, h3, h4, h5⟩ := run_append_lies (P := Tryz.prog) w 69 69 (B + 1) 68 i0 (.agg #[.int .i64 0, .int .i64 0]) 2 16 Tryz.underlying69 hi hz0 hz1 hz2 rfl (by omega) wv d.1.wt.length (rws d.1.wt.reverse) h.row ⟨b0, 0, none⟩ 1 1 [.int .i64 r.1, .int .i64 r.2] rfl (fun j u hu => by
    have hadd : (⟨b0, 0, none⟩ : Addr).add j = ⟨b0, j, none⟩ := by unfold Addr.add; split <;> simp_all
    rw [hadd]
    have hj : j < 2 := (List.getElem?_eq_some_iff.1 hu).1
    rcases (show j = 0 ∨ j = 1 by omega) with rfl | rfl
    · simp at hu; rw [← hu]; exact c0
    · simp at hu; rw [← hu]; exact c1) (by intro u hu; simp at hu; rcases hu with rfl | rfl <;> rfl) (by omega) (by simp only [maxLen]; omega) (by omega) (by omega) _ rfl
  exact ⟨g, cap, w', h1, by rw [rws_snoc]; exact h2, h3, h4, h5⟩
/-- The sorter behind an append and stores into its own block. -/
theorem So.pushed {No : Nat → Prop} {w w' W : World} {B : Nat} {wv : Value} {T A b a S hb c : Nat} {d : SD} (h : So No w B wv T A b a S hb c d) {g cap : Nat} {s' : SS} (hg : w.grownBy w' wv.ownBlock) (hgg : wv.ownBlock = some g ∨ g = w.heap.size) (hlt : g < w'.heap.size) (hrow : w'.ownsRow (B + 1) 68 2 (.slice (some ⟨g, 0, none⟩) s'.wt.length cap) s'.wt.length (rws s'.wt.reverse))
    (k : Keep (fun x => x ≠ B) w' W) (hb' : W.heap[B]? = some (.cells (scl T (.slice (some ⟨g, 0, none⟩) s'.wt.length cap) s') 71 (0, 0))) : So No W B (.slice (some ⟨g, 0, none⟩) s'.wt.length cap) T A b a S hb c (s', d.2) ∧ Keep No w W := by
  have hN : ∀ x, No x → x < w.heap.size := fun x q => by
    obtain ⟨vb, hp⟩ := h.tt.hp
    exact hp.nos _ (.inl (.inl q))
  have hgB : B + 1 ≤ g := by
    rcases hrow.2 with ⟨q, _⟩ | ⟨g', cap', cur, e, q, _⟩
    · cases q
    · cases e; exact q
  have hkb : ∀ x, x < w.heap.size → x ≠ B → wv.ownBlock ≠ some x → W.heap[x]? = w.heap[x]? := fun x hx hB hw => by
    rw [k.block x (Nat.lt_of_lt_of_le hx hg.size) hB]
    exact hg.block x hx (fun q => hw q.symm)
  have hrW : W.ownsRow (B + 1) 68 2 (.slice (some ⟨g, 0, none⟩) s'.wt.length cap) s'.wt.length (rws s'.wt.reverse) := by
    refine ⟨hrow.1, ?_⟩
    rcases hrow.2 with ⟨q, _⟩ | ⟨g', cap', cur, e, q1, q2, q3⟩
    · cases q
    · cases e
      refine .inr ⟨g, cap, cur, rfl, q1, ?_, q3⟩
      rw [k.block g hlt (by omega)]
      exact q2
  have hnW : ¬ No g := fun q => by
    rcases hgg with e | e
    · exact h.nW g e q
    · have := hN g q; omega
  refine ⟨⟨hb', hrW, ?_, h.nB, fun x e => by cases e; exact hnW⟩, ⟨k.os.trans hg.os, k.tape.trans hg.tape, k.output.trans hg.output, Nat.le_trans hg.size k.size, fun x hx q => hkb x hx (fun e => h.nB (e ▸ q)) (fun e => h.nW x e q)⟩⟩
  refine (h.tt.frame2 (w' := W) (k.os.trans hg.os) (k.tape.trans hg.tape) (k.output.trans hg.output) (Nat.le_trans hg.size k.size) (fun x hx hn => hkb x hx (fun e => hn (.inr (.inl e))) (fun e => hn (.inr (.inr e))))).sub (fun x q => ?_)
  rcases q with q | q | q
  · exact .inl (.inl q)
  · exact .inl (.inr (.inl q))
  · have e : g = x := by simpa [Value.ownBlock] using q
    subst e
    rcases hgg with e | e
    · exact .inl (.inr (.inr e))
    · right
      exact ⟨by omega, Nat.lt_of_lt_of_le hlt k.size⟩
end Go.Proofs.YtcaaaoehipcloaaGreat

/- The sorter beside two rows in blocks of their own. -/
namespace Go.Proofs.YtcaaaoehipcloaaGreat
open Go.RowKit

theorem bw1 (w : World) (o : Obj) : Below w.heap.size w (w.alloc o) := b1 w o
abbrev rb (r : Int × Int) : Obj := .cells #[.int .i64 r.1, .int .i64 r.2] 68
/-- The sorter, and two rows in blocks that nobody else has. -/
structure Tw2 (N2 : Nat → Prop) (W0 w : World) (B : Nat) (wv : Value) (T A b a S hb c : Nat) (d : SD) (f0 t0 : Nat) (r q : Int × Int) : Prop where
  sk : Sk N2 W0 w B wv T A b a S hb c d
  fb : w.heap[f0]? = some (rb r)
  tb : w.heap[t0]? = some (rb q)
  ne : f0 ≠ t0
  nf : ¬ N2 f0
  nt : ¬ N2 t0
  n3 : ∃ N3 : Nat → Prop, So N3 w B wv T A b a S hb c d ∧ (∀ g, N2 g → N3 g) ∧ N3 f0 ∧ N3 t0
theorem So.outs {No : Nat → Prop} {w W : World} {B : Nat} {wv : Value} {T A b a S hb c : Nat} {d : SD} (h : So No w B wv T A b a S hb c d) (k : Keep (fun g => ¬ No g) w W) : So No W B wv T A b a S hb c d := h.out (fun _ z => z) k
variable {N2 : Nat → Prop} {W0 w W : World} {B : Nat} {wv : Value} {T A b a S hb c : Nat} {d : SD} {f0 t0 : Nat} {r q : Int × Int}
theorem Sk.nos (h : Sk N2 W0 w B wv T A b a S hb c d) (g : Nat) (hg : N2 g) : g < w.heap.size := by
  obtain ⟨vb, hp⟩ := h.so.tt.hp
  exact hp.nos _ (.inl (.inl hg))
/-- Two new blocks. -/
theorem Sk.two (h : Sk N2 W0 w B wv T A b a S hb c d) (k : Below w.heap.size w W) (hf : W.heap[f0]? = some (rb r)) (ht : W.heap[t0]? = some (rb q)) (ne : f0 ≠ t0) (gf : w.heap.size ≤ f0) (gt : w.heap.size ≤ t0) : Tw2 N2 W0 W B wv T A b a S hb c d f0 t0 r q := by
  have lf := (Array.getElem?_eq_some_iff.1 hf).1
  have lt := (Array.getElem?_eq_some_iff.1 ht).1
  exact ⟨h.below k, hf, ht, ne, fun z => by have := h.nos _ z; omega, fun z => by have := h.nos _ z; omega, _, h.so.news k, fun g z => .inl z, .inr ⟨gf, lf⟩, .inr ⟨gt, lt⟩⟩
theorem Sk.two1 (h : Sk N2 W0 w B wv T A b a S hb c d) (r q : Int × Int) : Tw2 N2 W0 (((w.alloc (rb r)).alloc (rb q)).drew) B wv T A b a S hb c d w.heap.size (w.heap.size + 1) r q := by
  have k : Below w.heap.size w (((w.alloc (rb r)).alloc (rb q)).drew) := bthen (b2 w (rb r) (rb q)) (b2 w (rb r) (rb q)).size (bdrew1 _)
  have e1 : (w.alloc (rb r)).heap[w.heap.size]? = some (rb r) := (MapKept.heap_alloc w _).1
  have z1 : (w.alloc (rb r)).heap.size = w.heap.size + 1 := by simp
  have e2 : ((w.alloc (rb r)).alloc (rb q)).heap[(w.alloc (rb r)).heap.size]? = some (rb q) := (MapKept.heap_alloc _ _).1
  rw [z1] at e2
  have e3 := (b1 (w.alloc (rb r)) (rb q)).block w.heap.size (by omega)
  exact h.two k (e3.trans e1) e2 (by omega) (Nat.le_refl _) (by omega)
theorem Sk.two2 (h : Sk N2 W0 w B wv T A b a S hb c d) (r q : Int × Int) : Tw2 N2 W0 (((w.alloc (rb q)).alloc (rb r)).drew) B wv T A b a S hb c d (w.heap.size + 1) w.heap.size r q := by
  have k : Below w.heap.size w (((w.alloc (rb q)).alloc (rb r)).drew) := bthen (b2 w (rb q) (rb r)) (b2 w (rb q) (rb r)).size (bdrew1 _)
  have e1 : (w.alloc (rb q)).heap[w.heap.size]? = some (rb q) := (MapKept.heap_alloc w _).1
  have z1 : (w.alloc (rb q)).heap.size = w.heap.size + 1 := by simp
  have e2 : ((w.alloc (rb q)).alloc (rb r)).heap[(w.alloc (rb q)).heap.size]? = some (rb r) := (MapKept.heap_alloc _ _).1
  rw [z1] at e2
  have e3 := (b1 (w.alloc (rb q)) (rb r)).block w.heap.size (by omega)
  exact h.two k e2 (e3.trans e1) (by omega) (by omega) (Nat.le_refl _)
theorem Tw2.below (h : Tw2 N2 W0 w B wv T A b a S hb c d f0 t0 r q) (k : Below w.heap.size w W) : Tw2 N2 W0 W B wv T A b a S hb c d f0 t0 r q := by
  have lf := (Array.getElem?_eq_some_iff.1 h.fb).1
  have lt := (Array.getElem?_eq_some_iff.1 h.tb).1
  obtain ⟨N3, s, h1, h2, h3⟩ := h.n3
  exact ⟨h.sk.below k, (k.block f0 lf).trans h.fb, (k.block t0 lt).trans h.tb, h.ne, h.nf, h.nt, N3, s.below k, h1, h2, h3⟩
theorem Tw2.cells (h : Tw2 N2 W0 w B wv T A b a S hb c d f0 t0 r q) : (w.cell? ⟨f0, 0, none⟩ = some (.int .i64 r.1) ∧ w.cell? ⟨f0, 1, none⟩ = some (.int .i64 r.2) ∧ w.cell? ⟨t0, 0, none⟩ = some (.int .i64 q.1) ∧ w.cell? ⟨t0, 1, none⟩ = some (.int .i64 q.2)) ∧ (∀ j, w.frozen? ⟨f0, j, none⟩ = false) ∧ ∀ j, w.frozen? ⟨t0, j, none⟩ = false := by
  refine ⟨⟨?_, ?_, ?_, ?_⟩, fun j => ?_, fun j => ?_⟩
  · simp only [World.cell?, h.fb]; rfl
  · simp only [World.cell?, h.fb]; rfl
  · simp only [World.cell?, h.tb]; rfl
  · simp only [World.cell?, h.tb]; rfl
  · simp [World.frozen?, h.fb]
  · simp [World.frozen?, h.tb]
/-- The two rows are exchanged. -/
theorem Tw2.swap (h : Tw2 N2 W0 w B wv T A b a S hb c d f0 t0 r q) : Tw2 N2 W0 ((((w.setCell ⟨f0, 0, none⟩ (.int .i64 q.1)).setCell ⟨f0, 1, none⟩ (.int .i64 q.2)).setCell ⟨t0, 0, none⟩ (.int .i64 r.1)).setCell ⟨t0, 1, none⟩ (.int .i64 r.2)) B wv T A b a S hb c d f0 t0 q r := by
  have x1 := blk_set (j := 0) h.fb (.int .i64 q.1)
  have x2 := blk_set (j := 1) x1 (.int .i64 q.2)
  have lf := (Array.getElem?_eq_some_iff.1 h.fb).1
  have lt := (Array.getElem?_eq_some_iff.1 h.tb).1
  have kf : Keep (fun g => g ≠ f0) w ((w.setCell ⟨f0, 0, none⟩ (.int .i64 q.1)).setCell ⟨f0, 1, none⟩ (.int .i64 q.2)) := ((Keep.refl _ w).set (p := ⟨f0, 0, none⟩) (fun z => z rfl) _).set (p := ⟨f0, 1, none⟩) (fun z => z rfl) _
  have t1 := (kf.block t0 lt (fun z => h.ne z.symm)).trans h.tb
  generalize (w.setCell ⟨f0, 0, none⟩ (.int .i64 q.1)).setCell ⟨f0, 1, none⟩ (.int .i64 q.2) = w1 at *
  have y1 := blk_set (j := 0) t1 (.int .i64 r.1)
  have y2 := blk_set (j := 1) y1 (.int .i64 r.2)
  have kt : Keep (fun g => g ≠ t0) w1 ((w1.setCell ⟨t0, 0, none⟩ (.int .i64 r.1)).setCell ⟨t0, 1, none⟩ (.int .i64 r.2)) := ((Keep.refl _ w1).set (p := ⟨t0, 0, none⟩) (fun z => z rfl) _).set (p := ⟨t0, 1, none⟩) (fun z => z rfl) _
  have lf1 := (Array.getElem?_eq_some_iff.1 x2).1
  have f1 := (kt.block f0 lf1 h.ne).trans x2
  obtain ⟨N3, s, h1, h2, h3⟩ := h.n3
  have kk : ∀ P : Nat → Prop, ¬ P f0 → ¬ P t0 → Keep P w ((w1.setCell ⟨t0, 0, none⟩ (.int .i64 r.1)).setCell ⟨t0, 1, none⟩ (.int .i64 r.2)) := fun P p1 p2 => (kf.sub (fun g z e => p1 (e ▸ z))).trans (kt.sub (fun g z e => p2 (e ▸ z)))
  refine ⟨⟨s.out h1 (kk _ (fun z => z h2) (fun z => z h3)), h.sk.kp.trans (kk _ h.nf h.nt)⟩, f1, y2, h.ne, h.nf, h.nt, fun g => N3 g, ?_, h1, h2, h3⟩
  exact s.outs (kk _ (fun z => z h2) (fun z => z h3))
end Go.Proofs.YtcaaaoehipcloaaGreat

/- part, as plain data. -/
namespace Go.Proofs.YtcaaaoehipcloaaGreat
open Go.RowKit

/-- part, behind the exchange. -/
def partT (d4 : SD) : SD × Tol :=
  if d4.1.up - d4.1.i ≤ d4.1.i - d4.1.lo then nrow ({ d4.1 with lo := d4.1.i + 1, up := d4.1.up, wt := (d4.1.lo, d4.1.i - 1) :: d4.1.wt }, d4.2)
  else nrow ({ d4.1 with lo := d4.1.lo, up := d4.1.i - 1, wt := (d4.1.i + 1, d4.1.up) :: d4.1.wt }, d4.2)
theorem part_eq {d : SD} {v1 v2 : V} (h1 : rdV d (d.1.up - 1) = v1) (h2 : rdV (rdD d (d.1.up - 1)) d.1.i = v2) {d3 : SD} (e3 : ({ d.1 with x := v1, y := v2 }, (rdD (rdD d (d.1.up - 1)) d.1.i).2) = d3) :
    partR d = if putE d3 (d.1.up - 1) v2 d.1.i v1 ≠ 0 then (endD (d3.1, (putD d3 (d.1.up - 1) v2 d.1.i v1).2) (putE d3 (d.1.up - 1) v2 d.1.i v1), endT (putE d3 (d.1.up - 1) v2 d.1.i v1)) else partT (d3.1, (putD d3 (d.1.up - 1) v2 d.1.i v1).2) := by
  have e1 : (putD d3 (d.1.up - 1) v2 d.1.i v1).1 = d3.1 := by rw [putD_eta]
  have e2 : d3.1.lo = d.1.lo ∧ d3.1.up = d.1.up ∧ d3.1.i = d.1.i := by rw [← e3]; exact ⟨rfl, rfl, rfl⟩
  have e0 : partR d = if putE d3 (d.1.up - 1) v2 d.1.i v1 ≠ 0 then (endD (putD d3 (d.1.up - 1) v2 d.1.i v1) (putE d3 (d.1.up - 1) v2 d.1.i v1), endT (putE d3 (d.1.up - 1) v2 d.1.i v1)) else if d.1.up - d.1.i ≤ d.1.i - d.1.lo then nrow ({ (putD d3 (d.1.up - 1) v2 d.1.i v1).1 with lo := d.1.i + 1, up := d.1.up, wt := (d.1.lo, d.1.i - 1) :: (putD d3 (d.1.up - 1) v2 d.1.i v1).1.wt }, (putD d3 (d.1.up - 1) v2 d.1.i v1).2) else nrow ({ (putD d3 (d.1.up - 1) v2 d.1.i v1).1 with lo := d.1.lo, up := d.1.i - 1, wt := (d.1.i + 1, d.1.up) :: (putD d3 (d.1.up - 1) v2 d.1.i v1).1.wt }, (putD d3 (d.1.up - 1) v2 d.1.i v1).2) := by
    subst e3 h1 h2
    rfl
  rw [e0, e1]
  unfold partT
  simp only [e2.1, e2.2.1, e2.2.2]
  rfl
end Go.Proofs.YtcaaaoehipcloaaGreat
