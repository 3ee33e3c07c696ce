/- The walk of begin: both tables, of small sizes. The numbers of the seat of BorderPlays. -/
import Derived.Test.YtoomlihccniooaaGreatCg32
import Derived.Test.YtoomlihccniooaaGreatCg40
import Derived.Test.YtoomlihccniooaaGreatCg38
import Derived.Test.YtoomlihccniooaaGreatCg18
namespace Go.Proofs.YtoomlihccniooaaGreat
open Go.RowKit

set_option maxRecDepth 20000 in
set_option maxHeartbeats 4000000 in
theorem begin9_any (x y : Int) (v : Value) (w : World) :
    Calls Tryz.prog 6 #[cw x y v] w fun e w' => ∃ T S hb RT G t s, e = .returned (.tuple #[tp T, tp RT, .bool true]) ∧ Bz (fun g => g < w.heap.size) w' T S hb RT G 3 t s t s ∧ Below w.heap.size w w' ∧ t.hint = 0 ∧ t = newT t.p.n t.p.z t.sb t.nb ∧ s = nS (H.newSt 400000) (sz x) (sz y) ∧ Okn (H.newSt 400000) (sz x) (sz y) t.p.n t.p.z ∧ t.sb = H.takeId (H.takeSt (H.newSt 400000) 4) (t.p.n : Nat) ∧ t.nb = H.takeId (H.takeSt (H.takeSt (H.newSt 400000) 4) (t.p.n : Nat)) (3 * (t.p.z : Nat)) := by
  have hx := sz_ok x
  have hy := sz_ok y
  have he := ne_small hx hy
  have iv := H.Inv.new 400000 (by omega) (by omega)
  have C1 := fun W => H.new_walk W 400000 (by omega) (by omega)
  have B0 := b1 w (.cells #[.int .i64 x, .int .i64 y, v] 24)
  have c0 : (w.alloc (.cells #[.int .i64 x, .int .i64 y, v] 24)).heap[w.heap.size]? = some (.cells #[.int .i64 x, .int .i64 y, v] 24) := (MapKept.heap_alloc w _).1
  obtain ⟨W0, hW0⟩ : ∃ W0, w.alloc (.cells #[.int .i64 x, .int .i64 y, v] 24) = W0 := ⟨_, rfl⟩
  rw [hW0] at B0 c0
  have x1 : W0.cell? ⟨w.heap.size, 0, none⟩ = some (.int .i64 x) := cell_of_row c0 0
  have x2 : W0.cell? ⟨w.heap.size, 1, none⟩ = some (.int .i64 y) := cell_of_row c0 1
  obtain ⟨W0', hW0'⟩ : ∃ W, W0.drew = W := ⟨_, rfl⟩
  have B0' : Below w.heap.size w W0' := by rw [← hW0']; exact bthen B0 B0.size (bdrew1 W0)
  have hp := new_hp W0' 400000 (fun g => g < W0'.heap.size) (fun g q => q)
  have B1 := b2 W0' (.map #[] 0) (.cells #[.int .i64 400000, .int .i64 0, .int .i64 0, .slice none 0 0, .map (some W0'.heap.size)] 109)
  have C1' := C1 W0'
  obtain ⟨W1, hW1⟩ : ∃ W1, (W0'.alloc (.map #[] 0)).alloc (.cells #[.int .i64 400000, .int .i64 0, .int .i64 0, .slice none 0 0, .map (some W0'.heap.size)] 109) = W1 := ⟨_, rfl⟩
  rw [hW1] at hp B1 C1'
  obtain ⟨n', z, hok⟩ := okn he
  have C2 := hok.new hp (by omega) iv
  have HB1 : Hid (Below w.heap.size w W1) := bthen B0' B0'.size B1
  have HBs : Hid (w.heap.size ≤ W0'.heap.size ∧ W0'.heap.size ≤ W1.heap.size) := ⟨B0'.size, B1.size⟩
  have HC3 : Hid (∀ W : World, RH (fun g => g < W.heap.size) (W.alloc (.cells #[.int .i64 400000, .int .i64 0, .int .i64 0, .slice none 0 0] 78)) W.heap.size 0 (H.newSt 400000)) := fun W => new_rh W 400000 _ (fun g q => q)
  have HOK : Hid (Okn (H.newSt 400000) (sz x) (sz y) n' z) := hok
  have HIv : Hid (H.Inv 0 (H.newSt 400000)) := iv
  have HXY : Hid ((0 ≤ sz x ∧ sz x < 200) ∧ (0 ≤ sz y ∧ sz y < 200)) := ⟨hx, hy⟩
  have y1 : W0'.cell? ⟨w.heap.size, 0, none⟩ = some (.int .i64 x) := by rw [← hW0']; exact x1
  have y2 : W0'.cell? ⟨w.heap.size, 1, none⟩ = some (.int .i64 y) := by rw [← hW0']; exact x2
  have hw1 : wrap64 ((IntKind.u64.wrap x).tmod 200) = sz x := by
    have : 0 ≤ IntKind.u64.wrap x := by rw [IntKind.wrap_u64]; omega
    unfold sz at *; rw [Int.tmod_eq_emod_of_nonneg this]; unfold wrap64; omega
  have hw2 : wrap64 ((IntKind.u64.wrap y).tmod 200) = sz y := by
    have : 0 ≤ IntKind.u64.wrap y := by rw [IntKind.wrap_u64]; omega
    unfold sz at *; rw [Int.tmod_eq_emod_of_nonneg this]; unfold wrap64; omega
  have HS1 : Hid (H.Inv 0 (nS (H.newSt 400000) (sz x) (sz y))) := nS_inv iv (sz x) (sz y)
  have HBG : Hid (∀ (W2 W3 W4 : World) (T A b a RT RA P ka va ca : Nat), TT (fun g => g < W0'.heap.size) W2 T A b a (W0'.heap.size + 1) W0'.heap.size (0 + 3) (newT n' z (H.takeId (H.takeSt (H.newSt 400000) 4) (n' : Nat)) (H.takeId (H.takeSt (H.takeSt (H.newSt 400000) 4) (n' : Nat)) (3 * (z : Nat)))) (nS (H.newSt 400000) (sz x) (sz y)) → Keep (fun g => g < W0'.heap.size) W1 W2 → Below W2.heap.size W2 W3 → Keep (fun g => g < W2.heap.size) W3 W4 →
      RH (fun g => g < W2.heap.size ∨ g = RT ∨ g = RA ∨ g = P ∨ g = ka ∨ g = va ∨ g = ca) W4 W2.heap.size (0 + 3) (nS (H.newSt 400000) (sz x) (sz y)) → Nr W3 W4 n' z RT RA P ka va ca W2.heap.size (H.takeId (H.takeSt (H.newSt 400000) 4) (n' : Nat)) (H.takeId (H.takeSt (H.takeSt (H.newSt 400000) 4) (n' : Nat)) (3 * (z : Nat))) →
      Bgn w W4 W2.heap.size T A b a (W0'.heap.size + 1) W0'.heap.size RT RA P ka va ca W2.heap.size n' z (newT n' z (H.takeId (H.takeSt (H.newSt 400000) 4) (n' : Nat)) (H.takeId (H.takeSt (H.takeSt (H.newSt 400000) 4) (n' : Nat)) (3 * (z : Nat)))) (nS (H.newSt 400000) (sz x) (sz y))) := fun W2 W3 W4 T A b a RT RA P ka va ca tt2 kk2 B3 kk4 rh4 nr4 => by
    have hb2 := HB1.out.trans (kk2.below HB1.out.size (fun g hg => Nat.lt_of_lt_of_le hg HBs.out.1))
    have hb4 : Below w.heap.size w W4 := hb2.trans ((B3.mono hb2.size).trans (kk4.below (Nat.le_trans hb2.size B3.size) (fun g hg => Nat.lt_of_lt_of_le hg hb2.size)))
    have t3 := tt2.news B3
    refine ⟨(t3.frame2 kk4.os kk4.tape kk4.output kk4.size (fun g hg hn => kk4.block g hg ?_)).sub (fun g q => ?_), rh4, ⟨W3, B3.size, nr4⟩, hb4, hb2.size, HS1.out, rfl, HOK.out.hz, HOK.out.hn⟩
    · rcases Nat.lt_or_ge g W2.heap.size with q | q
      · exact q
      · exact absurd (.inr ⟨q, hg⟩) hn
    · have := kk4.size
      rcases q with q | q
      · exact .inl (.inl (Nat.lt_of_lt_of_le q HBs.out.1))
      · rcases Nat.lt_or_ge g W3.heap.size with q2 | q2
        · exact .inl (.inr ⟨q.1, q2⟩)
        · exact .inr ⟨q2, q.2⟩
  clear B0 B0' B1 c0 C1 hp iv hx hy he hok
  unfold cw tp
  go_enter Tryz.func6, Tryz.ntmps6
  go_upto_region 1 with fail
  go_cut [5, 6] from 13 to 22 (fun p q wx => p = .int .i64 (sz x) ∧ q = .int .i64 (sz y) ∧ wx = W0')
  case first =>
    go_region
    all_goals
      go_wp2_with fail
      go_meet
      exact ⟨by rw [hw1], by rw [hw2], rfl⟩
  case rest =>
    obtain ⟨rfl, rfl, hwc⟩ := hcut
    subst hwc
    clear hW0'
    go_wp2_with fail
    refine C1'.mono ?_; rintro e w1 ⟨rfl, hw1⟩; rw [hw1]; clear hw1 C1'
    go_wp2_with fail
    refine C2.mono ?_; rintro e W2 ⟨T, A, b, a', rfl, tt2, kk2⟩
    have B3 := b1 W2 (.cells #[.int .i64 400000, .int .i64 0, .int .i64 0, .slice none 0 0] 78)
    have rh := HC3.out W2
    have HT2 : Hid _ := And.intro tt2 kk2
    obtain ⟨W3, hW3⟩ : ∃ W3, W2.alloc (.cells #[.int .i64 400000, .int .i64 0, .int .i64 0, .slice none 0 0] 78) = W3 := ⟨_, rfl⟩
    rw [hW3] at B3 rh
    have C4 := HOK.out.rnew rh (by omega) HIv.out
    have HB3 : Hid (Below W2.heap.size W2 W3) := B3
    clear C2 tt2 kk2 B3 rh
    go_wp2_with fail
    refine C4.mono ?_; rintro e W4 ⟨RT, RA, P, ka, va, ca, rfl, rh4, kk4, nr4⟩
    have bg := HBG.out W2 W3 W4 T A b a' RT RA P ka va ca HT2.out.1 HT2.out.2 HB3.out kk4 rh4 nr4
    have HF : Hid _ := And.intro bg.bz bg.bel
    clear bg
    clear C4 rh4 kk4 nr4
    go_wp2_with fail
    refine bodyPost_ret (v := .tuple #[.pointer (some ⟨T, 0, none⟩), .pointer (some ⟨RT, 0, none⟩), .bool true]) (by simp [results, Tryz.results6, go_sem]) rfl ⟨T, _, _, RT, _, _, _, rfl, HF.out.1, HF.out.2, rfl, rfl, rfl, HOK.out, rfl, rfl⟩
end Go.Proofs.YtoomlihccniooaaGreat

/- Where a law of border stands: one table, its hint in bounds; each call's contract there. -/
namespace Go.Proofs.YtoomlihccniooaaGreat
open Go.RowKit

theorem reh_hint {u : TS} {s : H.St} {k : V} (h : (reh u s k).2.2 = 0) : (reh u s k).1.hint = 0 := by
  unfold reh at h ⊢
  by_cases h1 : rsE u.p k ≠ 0
  · rw [if_pos h1] at h; exact absurd h h1
  · rw [if_neg h1] at h ⊢
    by_cases h2 : tpE s (rsA u.p k) (rsZ u.p k) ≠ 0
    · rw [if_pos h2] at h; exact absurd h h2
    · rw [if_neg h2]
theorem tset_hint {t : TS} {s : H.St} (k v : V) (hh : 0 ≤ t.hint ∧ t.hint ≤ (t.p.n : Int)) : 0 ≤ (tset t s k v).1.hint ∧ (tset t s k v).1.hint ≤ ((tset t s k v).1.p.n : Int) := by
  have h1 : (one t k v).p.n = t.p.n := (pset_nz t.p k v).1
  unfold tset
  split
  · exact hh
  · split
    · exact hh
    · split
      · rw [h1]; exact hh
      · split
        · rename_i q
          rw [reh_err q, h1]; exact hh
        · rename_i q
          have e := reh_hint (Classical.byContradiction fun z => q z)
          show 0 ≤ (reh (one t k v) s k).1.hint ∧ (reh (one t k v) s k).1.hint ≤ _
          rw [e]
          exact ⟨Int.le_refl _, by omega⟩
theorem tHint_ok {t : TS} (n : Int) (hh : 0 ≤ t.hint ∧ t.hint ≤ (t.p.n : Int)) : 0 ≤ (tHint t n).hint ∧ (tHint t n).hint ≤ ((tHint t n).p.n : Int) ∧ (tHint t n).p = t.p ∧ (tHint t n).sb = t.sb ∧ (tHint t n).nb = t.nb := by
  unfold tHint
  split
  · rename_i q; exact ⟨q.1, q.2, rfl, rfl, rfl⟩
  · exact ⟨hh.1, hh.2, rfl, rfl, rfl⟩
structure Bs (P : Nat → Prop) (W w : World) (X : Nat) (xs : Value) (T S hb c : Nat) (t : TS) (s : H.St) : Prop where
  tt : ∃ A b a, TT P w T A b a S hb c t s
  lo : ∀ g, g ≤ X → P g
  bel : Below X W w
  xc : w.cell? ⟨X, 2, none⟩ = some xs
  sz : X < w.heap.size
  hh : 0 ≤ t.hint ∧ t.hint ≤ (t.p.n : Int)
  tb : TB t s 4
  lim : s.lim = 400000
variable {P : Nat → Prop} {W w w' : World} {X : Nat} {xs : Value} {T S hb c : Nat} {t : TS} {s : H.St}
theorem Bs.ti (h : Bs P W w X xs T S hb c t s) : TI t.p ∧ H.Inv 0 s := by obtain ⟨A, b, a, ht⟩ := h.tt; exact ⟨ht.ti, ht.iv⟩
theorem Bs.below (h : Bs P W w X xs T S hb c t s) (k : Below w.heap.size w w') : Bs P W w' X xs T S hb c t s := by
  obtain ⟨A, b, a, ht⟩ := h.tt
  exact ⟨⟨A, b, a, ht.below k⟩, h.lo, bthen h.bel (Nat.le_of_lt h.sz) k, by rw [k.cell (by exact h.sz)]; exact h.xc, Nat.lt_of_lt_of_le h.sz k.size, h.hh, h.tb, h.lim⟩
theorem Bs.news (h : Bs P W w X xs T S hb c t s) (k : Below w.heap.size w w') : Bs (fun g => P g ∨ (w.heap.size ≤ g ∧ g < w'.heap.size)) W w' X xs T S hb c t s := by
  obtain ⟨A, b, a, ht⟩ := h.tt
  exact ⟨⟨A, b, a, ht.news k⟩, fun g q => .inl (h.lo g q), bthen h.bel (Nat.le_of_lt h.sz) k, by rw [k.cell (by exact h.sz)]; exact h.xc, Nat.lt_of_lt_of_le h.sz k.size, h.hh, h.tb, h.lim⟩
theorem Bs.sub (h : Bs P W w X xs T S hb c t s) {P' : Nat → Prop} (hs : ∀ g, P' g → P g) (hlo : ∀ g, g ≤ X → P' g) : Bs P' W w X xs T S hb c t s := by
  obtain ⟨A, b, a, ht⟩ := h.tt
  exact ⟨⟨A, b, a, ht.sub hs⟩, hlo, h.bel, h.xc, h.sz, h.hh, h.tb, h.lim⟩
theorem Bs.more (h : Bs P W w X xs T S hb c t s) {c' : Nat} (hc : c ≤ c') : Bs P W w X xs T S hb c' t s := by
  obtain ⟨A, b, a, ht⟩ := h.tt
  exact ⟨⟨A, b, a, ht.more hc⟩, h.lo, h.bel, h.xc, h.sz, h.hh, h.tb, h.lim⟩
theorem Bs.kept (h : Bs P W w X xs T S hb c t s) {c' : Nat} {t' : TS} {s' : H.St} (ht : ∃ A b a, TT P w' T A b a S hb c' t' s') (k : Keep P w w') (hh : 0 ≤ t'.hint ∧ t'.hint ≤ (t'.p.n : Int)) (tb : TB t' s' 4) (lim : s'.lim = 400000) : Bs P W w' X xs T S hb c' t' s' :=
  ⟨ht, h.lo, h.bel.trans (k.below (Nat.le_of_lt h.sz) (fun g hg => h.lo g (Nat.le_of_lt hg))), by rw [World.cell?_of_block (w := w) (k.block X h.sz (h.lo X (Nat.le_refl _)))]; exact h.xc, Nat.lt_of_lt_of_le h.sz k.size, hh, tb, lim⟩
theorem TB.like {L : Int} (h : TB t s L) {t' : TS} (hp : t'.p = t.p) (h1 : t'.sb = t.sb) (h2 : t'.nb = t.nb) : TB t' s L := ⟨by rw [hp, h1]; exact h.b1, by rw [hp, h2]; exact h.b2, by rw [h1, h2]; exact h.ne, by rw [hp]; exact h.live⟩
theorem Bs.set (h : Bs P W w X xs T S hb c t s) (hc : c ≤ 700000) (k v : V) (hr : Rng k) :
    Calls Tryz.prog 7 #[tp T, vv k, vv v] w fun e w' => e = .returned (.int .i64 (tset t s k v).2.2) ∧ Bs P W w' X xs T S hb (c + 7) (tset t s k v).1 (tset t s k v).2.1 ∧ Keep P w w' := by
  obtain ⟨A, b, a, ht⟩ := h.tt
  refine (tset_any ht hc k v hr).mono ?_
  rintro e w' ⟨rfl, h', kk⟩
  have := h.tb.set ht.iv k v
  exact ⟨rfl, h.kept h' kk (tset_hint k v h.hh) this.1 (this.2.trans h.lim), kk⟩
theorem Bs.get (h : Bs P W w X xs T S hb c t s) (hc : c ≤ 700000) (k : V) (hr : Rng k) :
    Calls Tryz.prog 13 #[tp T, vv k] w fun e w' => e = .returned (vv (pget t.p k)) ∧ Bs P W w' X xs T S hb (c + 1) { t with pr := t.pr + (prd t.p k : Nat) } s ∧ Keep P w w' := by
  obtain ⟨A, b, a, ht⟩ := h.tt
  refine (tget_any ht (by omega) k hr).mono ?_
  rintro e w' ⟨rfl, h', kk⟩
  exact ⟨rfl, h.kept ⟨A, b, a, h'⟩ kk h.hh (h.tb.like rfl rfl rfl) h.lim, kk⟩
theorem Bs.len (h : Bs P W w X xs T S hb c t s) (hc : c ≤ 700000) :
    Calls Tryz.prog 9 #[tp T] w fun e w' => e = .returned (.int .i64 (blen t).1) ∧ Bs P W w' X xs T S hb (c + 130) (blen t).2 s ∧ Keep P w w' := by
  have hti := h.ti.1
  obtain ⟨A, b, a, ht⟩ := h.tt
  refine (len_any ht hc h.hh).mono ?_
  rintro e w' ⟨rfl, h', kk⟩
  obtain ⟨q1, q2, q3, q4, q5, _⟩ := blen_st hti h.hh
  exact ⟨rfl, h.kept ⟨A, b, a, h'⟩ kk ⟨q2, by rw [q1]; exact q3⟩ (h.tb.like q1 q4 q5) h.lim, kk⟩
theorem Bs.is (h : Bs P W w X xs T S hb c t s) (hc : c ≤ 700000) (n : Int) (h0 : -9223372036854775808 ≤ n) (h1 : n ≤ (9223372036854775807 : Int)) :
    Calls Tryz.prog 11 #[tp T, .int .i64 n] w fun e w' => e = .returned (.bool (bis t n).1) ∧ Bs P W w' X xs T S hb (c + 2) (bis t n).2 s ∧ Keep P w w' := by
  obtain ⟨A, b, a, ht⟩ := h.tt
  refine (is_any ht hc n h0 h1).mono ?_
  rintro e w' ⟨rfl, h', kk⟩
  obtain ⟨q1, q2, q3, q4⟩ := bis_st t n
  exact ⟨rfl, h.kept ⟨A, b, a, h'⟩ kk (by rw [q1, q2]; exact h.hh) (h.tb.like q1 q3 q4) h.lim, kk⟩
theorem Bs.hint (h : Bs P W w X xs T S hb c t s) (n : Int) :
    Calls Tryz.prog 15 #[tp T, .int .i64 n] w fun e w' => e = .returned (.tuple #[]) ∧ Bs P W w' X xs T S hb (c + 1) (tHint t n) s ∧ Keep P w w' := by
  obtain ⟨A, b, a, ht⟩ := h.tt
  refine (hint_any ht n).mono ?_
  rintro e w' ⟨rfl, h', kk⟩
  obtain ⟨q1, q2, q3, q4, q5⟩ := tHint_ok n h.hh
  exact ⟨rfl, h.kept ⟨A, b, a, h'⟩ kk ⟨q1, q2⟩ (h.tb.like q3 q4 q5) h.lim, kk⟩
theorem Bs.stats (h : Bs P W w X xs T S hb c t s) : Calls Tryz.prog 17 #[tp T] w fun e w' => e = .returned (ts t) ∧ Below w.heap.size w w' := by
  obtain ⟨A, b, a, ht⟩ := h.tt
  exact stats_any ht.tm
theorem Bs.probes (h : Bs P W w X xs T S hb c t s) : Calls Tryz.prog 19 #[tp T] w fun e w' => e = .returned (.int .i64 t.pr) ∧ w' = w := by
  obtain ⟨A, b, a, ht⟩ := h.tt
  exact probes_any ht.tm
theorem Bs.pair (h : Bs P W w X xs T S hb c t s) (i : Int) (h0 : 1 ≤ i) (h1 : i ≤ ((t.p.n + t.p.z : Nat) : Int)) :
    Calls Tryz.prog 74 #[tp T, .int .i64 i] w fun e w' => e = .returned (.tuple #[vv (prO t.p i).1, vv (prO t.p i).2]) ∧ Below w.heap.size w w' := by
  obtain ⟨A, b, a, ht⟩ := h.tt
  exact pair_at ht.tm ht.ti.le ht.ti.rt.le i h0 h1
/-- Behind begin. -/
theorem St0.bs (q : St0 t s) {A b a : Nat} (tt : TT (fun g => g < w.heap.size) w' T A b a S hb 3 t s) (bw : Below w.heap.size w w') (hX : X < w.heap.size) (hb0 : Below X W w) (hc : w.cell? ⟨X, 2, none⟩ = some xs) : Bs (fun g => g ≤ X) W w' X xs T S hb 3 t s :=
  ⟨⟨A, b, a, tt.sub (fun g hg => Nat.lt_of_le_of_lt hg hX)⟩, fun g hg => hg, bthen hb0 (Nat.le_of_lt hX) bw, by rw [bw.cell (by exact hX)]; exact hc, Nat.lt_of_lt_of_le hX bw.size, by rw [q.hint]; exact ⟨Int.le_refl _, by omega⟩, q.tb, q.lim⟩
end Go.Proofs.YtoomlihccniooaaGreat

/- The document's first example, as plain data; the walk of fixed. -/
namespace Go.Proofs.YtoomlihccniooaaGreat
open Go.RowKit
abbrev kI (n : Int) : V := (2, n, ⟨#[]⟩)
abbrev kS (s : ByteArray) : V := (3, 0, s)
def fs0 : H.St := nS (H.newSt 136) 0 0
def ft0 : TS := newT 0 0 (H.takeId (H.takeSt (H.newSt 136) 4) ((0 : Nat) : Int)) (H.takeId (H.takeSt (H.takeSt (H.newSt 136) 4) ((0 : Nat) : Int)) (3 * ((0 : Nat) : Int)))
def nxs (q : TS × H.St × Int) (k v : V) : TS × H.St × Int := tset q.1 q.2.1 k v
def fza : Nat → TS × H.St × Int
  | 0 => (ft0, fs0, 0)
  | i + 1 => nxs (fza i) (kI ((i : Int) + 1)) (kS ⟨#[97]⟩)
def fz5 := nxs (fza 4) (kS ⟨#[134]⟩) (kI 1)
def fz6 := nxs fz5 (kS ⟨#[121]⟩) (kI 2)
theorem fz6n : fz6.1.p.n = 4 ∧ fz6.1.p.z = 2 ∧ fz6.1.hint = 0 ∧ fz6.2.1.live = 14 := ⟨by kernel_rfl, by kernel_rfl, by kernel_rfl, by kernel_rfl⟩
theorem fz6g : pget fz6.1.p (kI 3) = kS ⟨#[97]⟩ ∧ pget fz6.1.p (kS ⟨#[134]⟩) = kI 1 := ⟨by kernel_rfl, by kernel_rfl⟩
theorem ok0 : Okn (H.newSt 136) 0 0 0 0 := ⟨rfl, by omega, ⟨0, rfl, by omega, by kernel_rfl⟩, .inl rfl, by kernel_rfl, by kernel_rfl, by kernel_rfl, by kernel_rfl⟩

theorem under42 : Tryz.prog.underlying 43 = some (.struct (Tryz.prog.fieldsOf 43)) := by kernel_rfl
theorem stood42 : Tryz.prog.stoodInHeld 43 = false := by kernel_rfl
theorem eql42 (x y u v x' y' u' v' : Int) (W : World) : (binOp .eql 43 (sv x y u v) (sv x' y' u' v')).run Tryz.prog W = .ok (.bool (decide (x = x' ∧ y = y' ∧ u = u' ∧ v = v'))) W := by
  unfold sv
  rw [run_eql_struct, run_equalIn_agg W _ _ _ _ under42 stood42]
  simp [go_sem]
  by_cases h1 : x = x' <;> by_cases h2 : y = y' <;> by_cases h3 : u = u' <;> by_cases h4 : v = v' <;> simp [h1, h2, h3, h4]
theorem neq42 (x y u v x' y' u' v' : Int) (W : World) : (binOp .neq 43 (sv x y u v) (sv x' y' u' v')).run Tryz.prog W = .ok (.bool (!decide (x = x' ∧ y = y' ∧ u = u' ∧ v = v'))) W := by
  unfold sv
  rw [run_neq_struct, run_equalIn_agg W _ _ _ _ under42 stood42]
  simp [go_sem]
  by_cases h1 : x = x' <;> by_cases h2 : y = y' <;> by_cases h3 : u = u' <;> by_cases h4 : v = v' <;> simp [h1, h2, h3, h4]
theorem fld0 (x y u v : Int) (W : World) : (Instr.field 43 (sv x y u v) 0).run Tryz.prog W = .ok (.int .i64 x) W := by kernel_rfl
theorem fld1 (x y u v : Int) (W : World) : (Instr.field 43 (sv x y u v) 1).run Tryz.prog W = .ok (.int .i64 y) W := by kernel_rfl
theorem fld2 (x y u v : Int) (W : World) : (Instr.field 43 (sv x y u v) 2).run Tryz.prog W = .ok (.int .i64 u) W := by kernel_rfl
theorem fld3 (x y u v : Int) (W : World) : (Instr.field 43 (sv x y u v) 3).run Tryz.prog W = .ok (.int .i64 v) W := by kernel_rfl
/-- A table that was made behind the world w. -/
def FSt (w : World) (T S hb c : Nat) (q : TS × H.St × Int) (W : World) : Prop := (∃ A b a, TT (fun g => g < w.heap.size) W T A b a S hb c q.1 q.2.1) ∧ Below w.heap.size w W
theorem FSt.below {w W W' : World} {T S hb c : Nat} {q : TS × H.St × Int} (h : FSt w T S hb c q W) (k : Below W.heap.size W W') : FSt w T S hb c q W' := by
  obtain ⟨⟨A, b, a, ht⟩, hb⟩ := h
  exact ⟨⟨A, b, a, ht.below k⟩, bthen hb hb.size k⟩
theorem FSt.set {w W : World} {T S hb c : Nat} {q : TS × H.St × Int} (h : FSt w T S hb c q W) (hc : c ≤ 700000) (k v : V) (hr : Rng k) :
    Calls Tryz.prog 7 #[tp T, vv k, vv v] W fun e w' => e = .returned (.int .i64 (nxs q k v).2.2) ∧ FSt w T S hb (c + 7) (nxs q k v) w' := by
  obtain ⟨⟨A, b, a, ht⟩, hb⟩ := h
  refine (tset_any ht hc k v hr).mono ?_
  rintro e w' ⟨rfl, ⟨A', b', a', h'⟩, kk⟩
  exact ⟨rfl, ⟨A', b', a', h'⟩, hb.trans (kk.below hb.size (fun g hg => hg))⟩
theorem FSt.get {w W : World} {T S hb c : Nat} {q : TS × H.St × Int} (h : FSt w T S hb c q W) (hc : c ≤ 700000) (k : V) (hr : Rng k) :
    Calls Tryz.prog 13 #[tp T, vv k] W fun e w' => e = .returned (vv (pget q.1.p k)) ∧ FSt w T S hb (c + 1) ({ q.1 with pr := q.1.pr + (prd q.1.p k : Nat) }, q.2.1, q.2.2) w' := by
  obtain ⟨⟨A, b, a, ht⟩, hb⟩ := h
  refine (tget_any ht (by omega) k hr).mono ?_
  rintro e w' ⟨rfl, h', kk⟩
  exact ⟨rfl, ⟨A, b, a, h'⟩, hb.trans (kk.below hb.size (fun g hg => hg))⟩
theorem FSt.stats {w W : World} {T S hb c : Nat} {q : TS × H.St × Int} (h : FSt w T S hb c q W) : Calls Tryz.prog 17 #[tp T] W fun e w' => e = .returned (ts q.1) ∧ FSt w T S hb c q w' := by
  have h' := h
  obtain ⟨⟨A, b, a, ht⟩, hb⟩ := h
  refine (stats_any ht.tm).mono ?_
  rintro e w' ⟨rfl, kk⟩
  exact ⟨rfl, h'.below kk⟩
end Go.Proofs.YtoomlihccniooaaGreat

/- The walk of fixed: the document's first example. -/
namespace Go.Proofs.YtoomlihccniooaaGreat
open Go.RowKit

set_option maxRecDepth 20000 in
set_option maxHeartbeats 1000000 in
theorem behind_nil (w : World) : Calls Tryz.prog 40 #[.pointer none, .int .i64 0] w fun e w' => e = .returned (.int .i64 0) ∧ Below w.heap.size w w' := by
  obtain ⟨B0, x0⟩ := box1 w (.pointer none) 26
  obtain ⟨W0, hW0⟩ : ∃ W0, w.alloc (.cells #[.pointer none] 26) = W0 := ⟨_, rfl⟩
  rw [hW0] at B0 x0
  have C1 := has_nil 1 W0
  have HB : Hid _ := B0
  clear B0
  go_enter Tryz.func40, Tryz.ntmps40
  go_wp2_with fail
  refine C1.mono ?_; rintro e W1 ⟨rfl, k1⟩
  have HK : Hid _ := k1
  clear C1 k1
  go_wp2_with fail
  go_ret
  exact ⟨rfl, bthen HB.out HB.out.size HK.out⟩
set_option maxRecDepth 20000 in
set_option maxHeartbeats 1000000 in
theorem len_nil (w : World) : Calls Tryz.prog 9 #[.pointer none] w fun e w' => e = .returned (.int .i64 0) ∧ Below w.heap.size w w' := by
  have C1 := stats_nil w
  unfold sv at C1
  go_enter Tryz.func9, Tryz.ntmps9
  go_wp2_with fail
  refine C1.mono ?_; rintro e W1 ⟨rfl, k1⟩
  have B2 := bthen k1 k1.size (b1 W1 (.cells #[.int .i64 0, .int .i64 0, .int .i64 0, .int .i64 0] 43))
  have C2 := behind_nil (W1.alloc (.cells #[.int .i64 0, .int .i64 0, .int .i64 0, .int .i64 0] 43))
  have HB : Hid _ := B2
  clear C1 k1 B2
  go_wp2_with fail
  refine C2.mono ?_; rintro e W2 ⟨rfl, k2⟩
  have HK : Hid _ := bthen HB.out HB.out.size k2
  clear C2 k2 HB
  go_wp2_with fail
  go_ret
  exact ⟨rfl, HK.out⟩
def bS0 : H.St := nS (H.newSt 400000) 0 0
def bT0 : TS := newT 0 0 (H.takeId (H.takeSt (H.newSt 400000) 4) ((0 : Nat) : Int)) (H.takeId (H.takeSt (H.takeSt (H.newSt 400000) 4) ((0 : Nat) : Int)) (3 * ((0 : Nat) : Int)))
def bnx (q : TS × H.St) (k v : V) : TS × H.St := ((tset q.1 q.2 k v).1, (tset q.1 q.2 k v).2.1)
def bq : Nat → TS × H.St
  | 0 => (bT0, bS0)
  | i + 1 => bnx (bq i) (kn ((i : Int) + 1)) (kn ((i : Int) + 1))
def bq5 := bnx (bq 4) (kn 4) nil
def bq6 : TS × H.St := ((blen bq5.1).2, bq5.2)
def bq7 := bnx bq6 (kn 2) nil
def bq8 : TS × H.St := ((blen bq7.1).2, bq7.2)
def bq9 := bnx bq8 (kn 3) nil
def bqa : TS × H.St := ((blen bq9.1).2, bq9.2)
def bqb : TS × H.St := ((bis bqa.1 1).2, bqa.2)
theorem bq_len : (blen bq5.1).1 = 3 ∧ (blen bq7.1).1 = 3 ∧ (blen bq9.1).1 = 1 ∧ bqa.1.hint = 1 ∧ (bis bqa.1 1).1 = true ∧ (bis bqb.1 2).1 = false := ⟨by kernel_rfl, by kernel_rfl, by kernel_rfl, by kernel_rfl, by kernel_rfl, by kernel_rfl⟩
theorem bq_h5 : 0 ≤ bq5.1.hint ∧ bq5.1.hint ≤ (bq5.1.p.n : Int) := ⟨of_decide_eq_true (by kernel_rfl), of_decide_eq_true (by kernel_rfl)⟩
theorem bq_h7 : 0 ≤ bq7.1.hint ∧ bq7.1.hint ≤ (bq7.1.p.n : Int) := ⟨of_decide_eq_true (by kernel_rfl), of_decide_eq_true (by kernel_rfl)⟩
theorem bq_h9 : 0 ≤ bq9.1.hint ∧ bq9.1.hint ≤ (bq9.1.p.n : Int) := ⟨of_decide_eq_true (by kernel_rfl), of_decide_eq_true (by kernel_rfl)⟩
/-- A table that was made behind the world w. -/
def Fb (w : World) (T S hb c : Nat) (q : TS × H.St) (W : World) : Prop := (∃ A b a, TT (fun g => g < w.heap.size) W T A b a S hb c q.1 q.2) ∧ Below w.heap.size w W
theorem Fb.below {w W W' : World} {T S hb c : Nat} {q : TS × H.St} (h : Fb w T S hb c q W) (k : Below W.heap.size W W') : Fb w T S hb c q W' := by
  obtain ⟨⟨A, b, a, ht⟩, hb⟩ := h
  exact ⟨⟨A, b, a, ht.below k⟩, bthen hb hb.size k⟩
theorem Fb.set {w W : World} {T S hb c : Nat} {q : TS × H.St} (h : Fb w T S hb c q W) (hc : c ≤ 700000) (k v : V) (hr : Rng k) :
    Calls Tryz.prog 7 #[tp T, vv k, vv v] W fun e w' => (∃ x : Int, e = .returned (.int .i64 x)) ∧ Fb w T S hb (c + 7) (bnx q k v) w' := by
  obtain ⟨⟨A, b, a, ht⟩, hb⟩ := h
  refine (tset_any ht hc k v hr).mono ?_
  rintro e w' ⟨rfl, ⟨A', b', a', h'⟩, kk⟩
  exact ⟨⟨_, rfl⟩, ⟨A', b', a', h'⟩, hb.trans (kk.below hb.size (fun g hg => hg))⟩
theorem Fb.len {w W : World} {T S hb c : Nat} {q : TS × H.St} (h : Fb w T S hb c q W) (hc : c ≤ 700000) (hh : 0 ≤ q.1.hint ∧ q.1.hint ≤ (q.1.p.n : Int)) :
    Calls Tryz.prog 9 #[tp T] W fun e w' => e = .returned (.int .i64 (blen q.1).1) ∧ Fb w T S hb (c + 130) ((blen q.1).2, q.2) w' := by
  obtain ⟨⟨A, b, a, ht⟩, hb⟩ := h
  refine (len_any ht hc hh).mono ?_
  rintro e w' ⟨rfl, h', kk⟩
  exact ⟨rfl, ⟨A, b, a, h'⟩, hb.trans (kk.below hb.size (fun g hg => hg))⟩
theorem Fb.is {w W : World} {T S hb c : Nat} {q : TS × H.St} (h : Fb w T S hb c q W) (hc : c ≤ 700000) (n : Int) (h0 : 0 ≤ n) (h1 : n ≤ (9223372036854775807 : Int)) :
    Calls Tryz.prog 11 #[tp T, .int .i64 n] W fun e w' => e = .returned (.bool (bis q.1 n).1) ∧ Fb w T S hb (c + 2) ((bis q.1 n).2, q.2) w' := by
  obtain ⟨⟨A, b, a, ht⟩, hb⟩ := h
  refine (is_any ht hc n (by omega) h1).mono ?_
  rintro e w' ⟨rfl, h', kk⟩
  exact ⟨rfl, ⟨A, b, a, h'⟩, hb.trans (kk.below hb.size (fun g hg => hg))⟩
theorem Fb.stats {w W : World} {T S hb c : Nat} {q : TS × H.St} (h : Fb w T S hb c q W) : Calls Tryz.prog 17 #[tp T] W fun e w' => e = .returned (ts q.1) ∧ Fb w T S hb c q w' := by
  have h' := h
  obtain ⟨⟨A, b, a, ht⟩, hb⟩ := h
  refine (stats_any ht.tm).mono ?_
  rintro e w' ⟨rfl, kk⟩
  exact ⟨rfl, h'.below kk⟩
theorem begin_fb (w : World) : Calls Tryz.prog 6 #[cw 0 0 (.slice none 0 0)] w fun e w' => ∃ T S hb RT, e = .returned (.tuple #[tp T, tp RT, .bool true]) ∧ Fb w T S hb 3 (bq 0) w' := by
  refine (begin_any 0 0 (.slice none 0 0) w).mono ?_
  rintro e w' ⟨T, A, b, a, S, hb, RT, t, s, rfl, tt, bw, st, et, es, ok, e1, e2⟩
  have z0 : sz 0 = 0 := by kernel_rfl
  have hn : t.p.n = 0 := by have := ok.ex; rw [z0] at this; omega
  have hz : t.p.z = 0 := by
    obtain ⟨m, hm, _, hz⟩ := ok.hy
    have hm0 : m = 0 := by rw [z0] at hm; omega
    subst hm0
    have : C.up2 ((0 : Nat) : Int) = 0 := by kernel_rfl
    rw [this] at hz; omega
  have e3 : t = bT0 := by
    rw [et, hn, hz, e1, e2, hn, hz]; rfl
  have e4 : s = bS0 := by rw [es, z0]; rfl
  rw [e3, e4] at tt
  exact ⟨T, S, hb, RT, rfl, ⟨A, b, a, tt⟩, bw⟩
set_option maxRecDepth 20000 in
set_option maxHeartbeats 4000000 in
theorem fixed_any (w : World) : Calls Tryz.prog 5 #[] w fun e w' => e = .returned (.bool true) ∧ Below w.heap.size w w' := by
  have C1 := begin_fb w
  have HI : Hid (∀ (n : Int) (T S hb c : Nat) (q : TS × H.St) (W : World), Fb w T S hb c q W → Calls Tryz.prog 27 #[.int .i64 n] W fun e w' => e = .returned (.agg #[.int .i64 2, .int .i64 n, .string ⟨#[]⟩]) ∧ Fb w T S hb c q w') := fun n T S hb c q W h => (mkI n W).mono fun e w' hh => ⟨hh.1, h.below hh.2⟩
  have HS : Hid (∀ (n m : Int) (T S hb c : Nat) (q : TS × H.St) (W : World), c ≤ 700000 → 0 ≤ n → n ≤ 10 → Fb w T S hb c q W → Calls Tryz.prog 7 #[.pointer (some ⟨T, 0, none⟩), .agg #[.int .i64 2, .int .i64 n, .string ⟨#[]⟩], .agg #[.int .i64 2, .int .i64 m, .string ⟨#[]⟩]] W fun e w' => (∃ x : Int, e = .returned (.int .i64 x)) ∧ Fb w T S hb (c + 7) (bnx q (kn n) (kn m)) w') := fun n m T S hb c q W hc h0 h1 h => h.set hc (kn n) (kn m) (rng_kn h0 (by omega))
  have HZ : Hid (∀ (n : Int) (T S hb c : Nat) (q : TS × H.St) (W : World), c ≤ 700000 → 0 ≤ n → n ≤ 10 → Fb w T S hb c q W → Calls Tryz.prog 7 #[.pointer (some ⟨T, 0, none⟩), .agg #[.int .i64 2, .int .i64 n, .string ⟨#[]⟩], .agg #[.int .i64 0, .int .i64 0, .string ⟨#[]⟩]] W fun e w' => (∃ x : Int, e = .returned (.int .i64 x)) ∧ Fb w T S hb (c + 7) (bnx q (kn n) nil) w') := fun n T S hb c q W hc h0 h1 h => h.set hc (kn n) nil (rng_kn h0 (by omega))
  have HL : Hid (∀ (T S hb c : Nat) (q : TS × H.St) (W : World), c ≤ 700000 → (0 ≤ q.1.hint ∧ q.1.hint ≤ (q.1.p.n : Int)) → Fb w T S hb c q W → Calls Tryz.prog 9 #[.pointer (some ⟨T, 0, none⟩)] W fun e w' => e = .returned (.int .i64 (blen q.1).1) ∧ Fb w T S hb (c + 130) ((blen q.1).2, q.2) w') := fun T S hb c q W hc hh h => h.len hc hh
  obtain ⟨l5, l7, l9, ha, i1, i2⟩ := bq_len
  unfold cw tp at C1
  go_enter Tryz.func5, Tryz.ntmps5
  go_wp2_with fail
  refine C1.mono ?_; rintro e W1 ⟨T, S, hb, RT, rfl, f1⟩
  have H0 : Hid (Fb w T S hb 3 (bq 0) W1) := f1
  clear C1 f1
  go_wp2_with fail
  go_loopw [4] (fun iw wr => ∃ m : Nat, iw = .int .i64 ((m : Int) + 1) ∧ m ≤ 4 ∧ Hid (Fb w T S hb (3 + 7 * m) (bq m) wr)) (fun iw _ => (5 - intOf iw).toNat)
  case atStart => exact ⟨0, rfl, by omega, H0⟩
  case round =>
    obtain ⟨m, rfl, hm, HR⟩ := hrel
    clear H0
    by_cases hlt : m < 4
    · have h4 : (m : Int) + 1 ≤ 4 := by omega
      have hwi : IntKind.i64.wrap ((m : Int) + 1 + 1) = (m : Int) + 1 + 1 := by rw [IntKind.wrap_i64]; omega
      have C2 := HI.out ((m : Int) + 1) _ _ _ _ _ wr HR.out
      go_wp2_with fail
      refine C2.mono ?_; rintro e W2 ⟨rfl, f2⟩
      have C3 := HI.out ((m : Int) + 1) _ _ _ _ _ W2 f2
      clear C2 f2
      go_wp2_with fail
      refine C3.mono ?_; rintro e W3 ⟨rfl, f3⟩
      have C4 := HS.out ((m : Int) + 1) ((m : Int) + 1) _ _ _ _ _ W3 (by omega) (by omega) (by omega) f3
      clear C3 f3
      go_wp2_with fail
      refine C4.mono ?_; rintro e W4 ⟨⟨x, rfl⟩, f4⟩
      have H4 : Hid _ := f4
      clear C4 f4
      go_wp2_with fail
      go_round
      case rel => exact ⟨m + 1, by go_num, by omega, by have := H4.out; rw [show 3 + 7 * m + 7 = 3 + 7 * (m + 1) by omega] at this; exact this⟩
      case measure => simp [intOf]; omega
    · obtain rfl : m = 4 := by omega
      have C2 := HI.out 4 _ _ _ _ _ wr HR.out
      go_wp2_with fail
      refine C2.mono ?_; rintro e W2 ⟨rfl, f2⟩
      have C3 := HZ.out 4 _ _ _ _ _ W2 (by omega) (by omega) (by omega) f2
      clear C2 f2
      go_wp2_with fail
      refine C3.mono ?_; rintro e W3 ⟨⟨x3, rfl⟩, f3⟩
      have C4 := HL.out T S hb _ bq5 W3 (by omega) bq_h5 f3
      rw [l5] at C4
      clear C3 f3
      go_wp2_with fail
      refine C4.mono ?_; rintro e W4 ⟨rfl, f4⟩
      have C5 := HI.out 2 _ _ _ _ _ W4 f4
      clear C4 f4
      go_wp2_with fail
      refine C5.mono ?_; rintro e W5 ⟨rfl, f5⟩
      have C6 := HZ.out 2 _ _ _ _ bq6 W5 (by omega) (by omega) (by omega) f5
      clear C5 f5
      go_wp2_with fail
      refine C6.mono ?_; rintro e W6 ⟨⟨x6, rfl⟩, f6⟩
      have C7 := HL.out T S hb _ bq7 W6 (by omega) bq_h7 f6
      rw [l7] at C7
      clear C6 f6
      go_wp2_with fail
      refine C7.mono ?_; rintro e W7 ⟨rfl, f7⟩
      have C8 := HI.out 3 _ _ _ _ _ W7 f7
      clear C7 f7
      go_wp2_with fail
      refine C8.mono ?_; rintro e W8 ⟨rfl, f8⟩
      have C9 := HZ.out 3 _ _ _ _ bq8 W8 (by omega) (by omega) (by omega) f8
      clear C8 f8
      go_wp2_with fail
      refine C9.mono ?_; rintro e W9 ⟨⟨x9, rfl⟩, f9⟩
      have Ca := HL.out T S hb _ bq9 W9 (by omega) bq_h9 f9
      rw [l9] at Ca
      clear C9 f9
      go_wp2_with fail
      refine Ca.mono ?_; rintro e Wa ⟨rfl, fa⟩
      have Cb := fa.stats
      unfold ts sv tp at Cb
      have eh : ((blen bq9.1).2).hint = 1 := ha
      rw [eh] at Cb
      clear Ca fa eh
      have hf3 := fld3
      unfold sv at hf3
      go_wp2_with fail
      refine Cb.mono ?_; rintro e Wb ⟨rfl, fb⟩
      have Cc := Fb.is (q := bqa) fb (by omega) 1 (by omega) (by omega)
      rw [i1] at Cc
      unfold tp at Cc
      clear Cb fb
      go_wp2_with fail
      refine Cc.mono ?_; rintro e Wc ⟨rfl, fc⟩
      have Cd := Fb.is (q := bqb) fc (by omega) 2 (by omega) (by omega)
      rw [i2] at Cd
      unfold tp at Cd
      clear Cc fc
      go_wp2_with fail
      refine Cd.mono ?_; rintro e Wd ⟨rfl, fd⟩
      have Ce := len_nil Wd
      have Hd : Hid _ := fd.2
      clear Cd fd
      go_wp2_with fail
      refine Ce.mono ?_; rintro e We ⟨rfl, ke⟩
      have HE : Hid _ := bthen Hd.out Hd.out.size ke
      clear Ce ke
      go_wp2_with fail
      go_ret
      exact ⟨rfl, HE.out⟩
end Go.Proofs.YtoomlihccniooaaGreat
