/- The walks of Next and New. -/
import Derived.Test.YtcaaaoehipcloaaGreatCg30
import Derived.BigRegion
import Derived.Deep.DeepCutAuto
import Derived.Test.YtcaaaoehipcloaaGreatCg15
import Derived.Test.YtcaaaoehipcloaaGreatCg16
namespace Go.Proofs.YtcaaaoehipcloaaGreat
open Go.RowKit

/-- Two results' blocks among others' blocks. -/
theorem So.pair {No : Nat → Prop} {w : World} {B : Nat} {wv : Value} {T A b a S hb c : Nat} {d : SD} (h : So No w B wv T A b a S hb c d) :
    ∃ N2 : Nat → Prop, So N2 ((w.alloc (vb 0 0 ⟨#[]⟩)).alloc (vb 0 0 ⟨#[]⟩)) B wv T A b a S hb c d ∧ ∀ w4 wv' A' b' a' c' d' (o : Obj) (x y : V), Keep N2 ((w.alloc (vb 0 0 ⟨#[]⟩)).alloc (vb 0 0 ⟨#[]⟩)) w4 → So N2 w4 B wv' T A' b' a' S hb c' d' →
      (R3 (w4.alloc o) w.heap.size nil ∧ R3 (w4.alloc o) (w.heap.size + 1) nil ∧ w.heap.size + 1 < w4.heap.size) ∧ R3 (set3 (set3 (w4.alloc o) w.heap.size x) (w.heap.size + 1) y) w.heap.size x ∧ R3 (set3 (set3 (w4.alloc o) w.heap.size x) (w.heap.size + 1) y) (w.heap.size + 1) y ∧ So No (set3 (set3 (w4.alloc o) w.heap.size x) (w.heap.size + 1) y) B wv' T A' b' a' S hb c' d' ∧ Keep No w (set3 (set3 (w4.alloc o) w.heap.size x) (w.heap.size + 1) y) := by
  have B0 := b2 w (vb 0 0 ⟨#[]⟩) (vb 0 0 ⟨#[]⟩)
  have X1 := (R3.made w nil).below (b1 _ (vb 0 0 ⟨#[]⟩))
  have X2 := R3.made (w.alloc (vb 0 0 ⟨#[]⟩)) nil
  have eX : (w.alloc (vb 0 0 ⟨#[]⟩)).heap.size = w.heap.size + 1 := by simp
  rw [eX] at X2
  have z0 : ((w.alloc (vb 0 0 ⟨#[]⟩)).alloc (vb 0 0 ⟨#[]⟩)).heap.size = w.heap.size + 2 := by simp
  have hNo : ∀ g, No g → g < w.heap.size := fun g q => by
    obtain ⟨vb, hp⟩ := h.tt.hp
    exact hp.nos _ (.inl (.inl q))
  refine ⟨_, h.news B0, fun w4 wv' A' b' a' c' d' o x y k4 s4 => ?_⟩
  have n0 : (fun g => No g ∨ (w.heap.size ≤ g ∧ g < ((w.alloc (vb 0 0 ⟨#[]⟩)).alloc (vb 0 0 ⟨#[]⟩)).heap.size)) w.heap.size := .inr ⟨Nat.le_refl _, by omega⟩
  have n1 : (fun g => No g ∨ (w.heap.size ≤ g ∧ g < ((w.alloc (vb 0 0 ⟨#[]⟩)).alloc (vb 0 0 ⟨#[]⟩)).heap.size)) (w.heap.size + 1) := .inr ⟨by omega, by omega⟩
  have a1 := (R3.kept X1 k4 n0).below (b1 w4 o)
  have a2 := (R3.kept X2 k4 n1).below (b1 w4 o)
  have hl : w.heap.size + 1 < w4.heap.size := by have := k4.size; omega
  have y1 := a1.set x
  have k1 : Keep (fun g => g ≠ w.heap.size) (w4.alloc o) (set3 (w4.alloc o) w.heap.size x) := (Keep.refl _ _).set3 (fun q => q rfl) x
  have a2' := a2.kept k1 (by show w.heap.size + 1 ≠ w.heap.size; omega)
  have y2 := a2'.set y
  have k2 : Keep (fun g => g ≠ w.heap.size + 1) (set3 (w4.alloc o) w.heap.size x) (set3 (set3 (w4.alloc o) w.heap.size x) (w.heap.size + 1) y) := (Keep.refl _ _).set3 (fun q => q rfl) y
  have y1' := y1.kept k2 (by show w.heap.size ≠ w.heap.size + 1; omega)
  refine ⟨⟨a1, a2, hl⟩, y1', y2, ?_, ?_⟩
  · exact (s4.below (b1 w4 o)).out (fun g q => .inl q) (((Keep.refl _ _).set3 (fun q => q n0) x).set3 (fun q => q n1) y)
  · exact ((((Keep.of B0).trans (k4.sub (fun g q => .inl q))).trans (Keep.of (b1 w4 o))).set3 (fun q => by have := hNo _ q; omega) x).set3 (fun q => by have := hNo _ q; omega) y
/-- What Next answers. -/
def tol4 (tl : Tol) : Value := .tuple #[.agg #[.int .i64 tl.1.1, .int .i64 tl.1.2.1, .string tl.1.2.2], .agg #[.int .i64 tl.2.1.1, .int .i64 tl.2.1.2.1, .string tl.2.1.2.2], .bool tl.2.2.1, .int .i64 tl.2.2.2]
set_option maxRecDepth 20000 in
set_option maxHeartbeats 4000000 in
theorem next_any {No : Nat → Prop} {w : World} {B : Nat} {wv : Value} {T A b a S hb c : Nat} {d : SD} (h : So No w B wv T A b a S hb c d) (hc : c ≤ 400000) (hf : Fit d.1) (less : Bool) (ha : 0 ≤ d.1.ak ∧ d.1.ak ≤ 6) :
    Calls Tryz.prog 11 #[.pointer (some ⟨B, 0, none⟩), .bool less] w fun e w' => e = .returned (tol4 (goR d less).2) ∧ (∃ wv' A' b' a', So No w' B wv' T A' b' a' S hb (c + 31) (goR d less).1) ∧ Keep No w w' := by
  obtain ⟨N2, s0, HF0⟩ := h.pair
  have HF : Hid _ := HF0
  have C := goOn_any s0 hc hf less ha
  have a0 : ((w.alloc (vb 0 0 ⟨#[]⟩)).alloc (vb 0 0 ⟨#[]⟩)).cell? ⟨B, 0, none⟩ = some (.pointer (some ⟨T, 0, none⟩)) := s0.cell (j := 0) rfl
  obtain ⟨W0, hW0⟩ : ∃ W0, (w.alloc (vb 0 0 ⟨#[]⟩)).alloc (vb 0 0 ⟨#[]⟩) = W0 := ⟨_, rfl⟩
  rw [hW0] at HF C a0
  unfold vb at hW0
  obtain ⟨R, hR⟩ : ∃ R, goR d less = R := ⟨_, rfl⟩
  rw [hR] at C ⊢
  obtain ⟨tl, htl⟩ : ∃ tl, R.2 = tl := ⟨_, rfl⟩
  unfold GP tolV at C
  unfold tol4
  rw [htl] at C ⊢
  clear HF0 h s0 hR htl hf ha
  go_enter Tryz.func11, Tryz.ntmps11
  go_wp2_with fail
  refine C.mono ?_
  rintro e w4 ⟨rfl, ⟨wv4, A4, b4, a4, s4⟩, k4⟩
  obtain ⟨⟨r1, r2, hl⟩, y1, y2, s5, k5⟩ := HF.out w4 wv4 A4 b4 a4 _ _ (.cells #[.int .i64 tl.1.1, .int .i64 tl.1.2.1, .string tl.1.2.2, .int .i64 tl.2.1.1, .int .i64 tl.2.1.2.1, .string tl.2.1.2.2, .bool tl.2.2.1, .int .i64 tl.2.2.2] 73) tl.1 tl.2.1 k4 s4
  have HZ : Hid (_ ∧ _ ∧ _ ∧ _) := ⟨y1, y2, s5, k5⟩
  obtain ⟨W4, hW4⟩ : ∃ W4, w4.alloc (.cells #[.int .i64 tl.1.1, .int .i64 tl.1.2.1, .string tl.1.2.2, .int .i64 tl.2.1.1, .int .i64 tl.2.1.2.1, .string tl.2.1.2.2, .bool tl.2.2.1, .int .i64 tl.2.2.2] 73) = W4 := ⟨_, rfl⟩
  have bX := (MapKept.heap_alloc w4 (.cells #[.int .i64 tl.1.1, .int .i64 tl.1.2.1, .string tl.1.2.2, .int .i64 tl.2.1.1, .int .i64 tl.2.1.2.1, .string tl.2.1.2.2, .bool tl.2.2.1, .int .i64 tl.2.2.2] 73)).1
  rw [hW4] at r1 r2 HZ bX
  have R4 : R8 W4 w4.heap.size tl := ⟨bX⟩
  obtain ⟨m0, m1, m2, m3, m4, m5, m6, m7⟩ := R4.eight
  have R5 : R8 (set3 (set3 W4 w.heap.size tl.1) (w.heap.size + 1) tl.2.1) w4.heap.size tl := R4.kept (No := fun g => g ≠ w.heap.size ∧ g ≠ w.heap.size + 1) (((Keep.refl _ W4).set3 (fun q => q.1 rfl) _).set3 (fun q => q.2 rfl) _) ⟨by omega, by omega⟩
  obtain ⟨W5, hW5⟩ : ∃ W5, set3 (set3 W4 w.heap.size tl.1) (w.heap.size + 1) tl.2.1 = W5 := ⟨_, rfl⟩
  rw [hW5] at HZ R5
  obtain ⟨l0, l1, l2, l3, l4, l5, l6, l7⟩ := R5.eight
  unfold set3 at hW5
  have n0 := r1.bx.c0
  have n1 := r1.bx.c1
  have n2 := r1.bx.c2
  have n3 := r2.bx.c0
  have n4 := r2.bx.c1
  have n5 := r2.bx.c2
  have f1 := r1.fz
  have f2 := r2.fz
  simp only [nil] at n0 n1 n2 n3 n4 n5
  have hd0 : ¬ w4.heap.size = w.heap.size := by omega
  have hd1 : ¬ w4.heap.size = w.heap.size + 1 := by omega
  have hd2 : ¬ w.heap.size = w4.heap.size := by omega
  have hd3 : ¬ w.heap.size + 1 = w4.heap.size := by omega
  clear r1 r2 y1 y2 s5 k5 HF C s4 k4 bX R4 R5 a0 hl
  go_wp2_with fail
  go_region
  all_goals
    go_wp2
    obtain ⟨q1, q2, q3, q4⟩ := HZ.out
    have o0 := q1.bx.c0
    have o1 := q1.bx.c1
    have o2 := q1.bx.c2
    have o3 := q2.bx.c0
    have o4 := q2.bx.c1
    have o5 := q2.bx.c2
    refine bodyPost_ret (v := .tuple #[.agg #[.int .i64 tl.1.1, .int .i64 tl.1.2.1, .string tl.1.2.2], .agg #[.int .i64 tl.2.1.1, .int .i64 tl.2.1.2.1, .string tl.2.1.2.2], .bool tl.2.2.1, .int .i64 tl.2.2.2]) (by simp [results, Tryz.results11, go_sem, o0, o1, o2, o3, o4, o5]) rfl ⟨rfl, ⟨_, _, _, _, q3.below (bdrew1 _)⟩, q4.trans (Keep.of (bdrew1 _))⟩
/-- A sorter's block among others'. -/
theorem TT.begin {No : Nat → Prop} {w : World} {T A b a S hb c : Nat} {t : TS} {s : H.St} (h : TT No w T A b a S hb c t s) (n : Int) : So No (w.alloc (.cells (scl T (.slice none 0 0) (U.s0 n)) 71)) w.heap.size (.slice none 0 0) T A b a S hb c (U.s0 n, t, s) ∧ Keep No w (w.alloc (.cells (scl T (.slice none 0 0) (U.s0 n)) 71)) := by
  have B0 := b1 w (.cells (scl T (.slice none 0 0) (U.s0 n)) 71)
  have hNo : ∀ g, No g → g < w.heap.size := fun g q => by
    obtain ⟨vb, hp⟩ := h.hp
    exact hp.nos _ (.inl q)
  refine ⟨⟨(MapKept.heap_alloc w _).1, World.ownsRow_nil _ _ _ _, (h.news B0).sub (fun g q => ?_), fun q => by have := hNo _ q; omega, fun g q => by cases q⟩, Keep.of B0⟩
  rcases q with q | q | q
  · exact .inl q
  · right
    rw [q]
    exact ⟨Nat.le_refl _, by simp⟩
  · cases q
theorem snew_any {No : Nat → Prop} {w : World} {T A b a S hb c : Nat} {t : TS} {s : H.St} (h : TT No w T A b a S hb c t s) (n : Int) :
    Calls Tryz.prog 10 #[.pointer (some ⟨T, 0, none⟩), .int .i64 n] w fun e w' => e = .returned (.pointer (some ⟨w.heap.size, 0, none⟩)) ∧ So No w' w.heap.size (.slice none 0 0) T A b a S hb c (U.s0 n, t, s) ∧ Keep No w w' := by
  have HS : Hid (_ ∧ _) := h.begin n
  unfold scl U.s0 nil at HS
  clear h
  go_enter Tryz.func10, Tryz.ntmps10
  go_wp2
  go_ret
  exact ⟨rfl, HS.out⟩
end Go.Proofs.YtcaaaoehipcloaaGreat

/- The pure part of a table, on: a Set is a map's. -/
namespace Go.Proofs.YtcaaaoehipcloaaGreat
open Go.RowKit

theorem tset_map {t : TS} {s : H.St} {k v : V} (h : TI t.p) (hr : Rng k) :
    ((tset t s k v).2.2 = 0 → KOK k ∧ fm v = true ∧ pget (tset t s k v).1.p k = v ∧ ∀ k', KOK k' → k' ≠ k → pget (tset t s k v).1.p k' = pget t.p k') ∧
    ((tset t s k v).2.2 ≠ 0 → ∀ k', pget (tset t s k v).1.p k' = pget t.p k') := by
  unfold tset
  by_cases hf : fm k = true ∧ fm v = true
  · rw [if_neg (fun q => q hf)]
    by_cases hk0 : k.1 = 0
    · rw [if_pos hk0]
      exact ⟨fun q => absurd (show (9 : Int) = 0 from q) (by decide), fun _ _ => rfl⟩
    · rw [if_neg hk0]
      have hk : KOK k := ⟨hf.1, hk0, hr.1, hr.2⟩
      by_cases he : (pset t.p k v).2.2 = 12
      · rw [if_neg (fun q => q he)]
        obtain ⟨hA, hv, hv0, hnew, hfull, hg, hp, ha⟩ := h.full hk he
        have hb : ∀ k', pget (pset t.p k v).1 k' = pget t.p k' := pset_bad (by rw [he]; decide)
        have h1 : TI (pset t.p k v).1 := h.set hr hv
        have ep : (one t k v).p = (pset t.p k v).1 := rfl
        have hA1 : ¬ inA (pset t.p k v).1.n k := by rw [(pset_nz t.p k v).1]; exact hA
        have hnew1 : ∀ i, i < (pset t.p k v).1.z → (pset t.p k v).1.g.K i ≠ k := fun i hi e => by
          have hz := (pset_nz t.p k v).2
          rw [hz] at hi
          have e1 : pset t.p k v = ({ t.p with g := (put t.p.z t.p.g k v).1 }, (put t.p.z t.p.g k v).2.1, (put t.p.z t.p.g k v).2.2) := by unfold pset; rw [if_neg hA]
          have he' : (put t.p.z t.p.g k v).2.2 = 12 := by rw [e1] at he; exact he
          have e2 := (put_12 h.inv h.rt hk he').2.2.2.2.1
          rw [e1] at e
          have e3 : (put t.p.z t.p.g k v).1.K i = k := e
          rw [e2] at e3
          exact hnew i hi e3
        generalize one t k v = u at *
        by_cases hR : (reh u s k).2.2 = 0
        · rw [if_neg (fun q => q hR)]
          have e0 : rsE u.p k = 0 := by
            unfold reh at hR
            by_cases q : rsE u.p k = 0
            · exact q
            · rw [if_pos q] at hR; exact absurd hR q
          have e1 : (reh u s k).1.p = fill u.p (fresh (rsA u.p k) (rsZ u.p k)) := by
            unfold reh at hR ⊢
            rw [if_neg (fun q => q e0)] at hR ⊢
            by_cases q : tpE s (rsA u.p k) (rsZ u.p k) = 0
            · rw [if_neg (fun x => x q)]
            · rw [if_pos q] at hR; exact absurd hR q
          rw [← ep] at ha h1 hA1 hnew1 hb
          obtain ⟨_, i1, i2, i3, i4, i5⟩ := h1.behind hk hv hv0 hA1 hnew1 ha e0
          rw [e1]
          obtain ⟨m1, m2⟩ := i1.map hk i5
          exact ⟨fun _ => ⟨hk, hv, m1, fun k' hk' hne => (m2 k' hk' hne).trans ((i4 k' hk').trans (hb k'))⟩, fun q => absurd i5 q⟩
        · rw [if_pos hR]
          refine ⟨fun q => absurd q hR, fun _ k' => ?_⟩
          have e1 : (reh u s k).1 = u := by
            unfold reh at hR ⊢
            by_cases q : rsE u.p k = 0
            · rw [if_neg (fun x => x q)] at hR ⊢
              by_cases q2 : tpE s (rsA u.p k) (rsZ u.p k) = 0
              · rw [if_neg (fun x => x q2)] at hR; exact absurd rfl hR
              · rw [if_pos q2]
            · rw [if_pos q]
          rw [e1, ep]
          exact hb k'
      · rw [if_pos he]
        refine ⟨fun q => ?_, fun q k' => pset_bad q k'⟩
        obtain ⟨m1, m2⟩ := h.map hk q
        exact ⟨hk, hf.2, m1, m2⟩
  · rw [if_pos hf]
    exact ⟨fun q => absurd (show (2 : Int) = 0 from q) (by decide), fun _ _ => rfl⟩
end Go.Proofs.YtcaaaoehipcloaaGreat

/- The pure part of a heap, on: which block is whose; what a table holds of it. -/
namespace Go.Proofs.YtcaaaoehipcloaaGreat
open Go.RowKit

/-- The block id is taken and has n cells; or there is none, for no cells. -/
def Blk (s : H.St) (id n : Int) : Prop := (n = 0 ∧ id = 0) ∨ (1 ≤ n ∧ ∃ k : Nat, id = (k : Int) + 1 ∧ s.bl[k]? = some (n, true))
theorem setT_at {l : List (Int × Bool)} {k : Nat} {n : Int} {b : Bool} (h : l[k]? = some (n, b)) (t : Bool) (j : Nat) : (H.setT l k t)[j]? = if j = k then some (n, t) else l[j]? := by
  have hk : k < l.length := (List.getElem?_eq_some_iff.1 h).1
  have e : l.getD k (0, false) = (n, b) := by rw [List.getD, h]; rfl
  unfold H.setT
  rw [e, List.getElem?_set]
  by_cases q : k = j
  · rw [if_pos q, if_pos hk, if_pos q.symm]
  · rw [if_neg q, if_neg (fun e => q e.symm)]
theorem blk_take {sp : Int} {s : H.St} {n : Int} (h : H.Inv sp s) (he : H.takeE s n = 0) :
    Blk (H.takeSt s n) (H.takeId s n) n ∧ (H.takeSt s n).live = s.live + n ∧ (H.takeSt s n).lim = s.lim ∧ ∀ id m, Blk s id m → Blk (H.takeSt s n) id m ∧ (id = H.takeId s n → id = 0) := by
  have h0 : ¬ n < 0 := fun q => by unfold H.takeE at he; rw [if_pos q] at he; cases he
  have h1 : ¬ s.lim - s.live < n := fun q => by unfold H.takeE at he; rw [if_neg h0, if_pos q] at he; cases he
  by_cases hz : n = 0
  · have e1 : H.takeSt s n = s := by unfold H.takeSt; rw [if_neg h0, if_neg h1, if_pos hz]
    have e2 : H.takeId s n = 0 := by unfold H.takeId; rw [if_neg h0, if_neg h1, if_pos hz]
    rw [e1, e2]
    exact ⟨.inl ⟨hz, rfl⟩, by omega, rfl, fun id m q => ⟨q, fun e => e⟩⟩
  · rcases List.eq_nil_or_concat (s.R n) with hR | ⟨zs, x, hR⟩
    · obtain ⟨e1, e2, _⟩ := H.take_new (s := s) (n := n) (by omega) (by omega) hR
      rw [e1, e2]
      refine ⟨.inr ⟨by omega, s.bl.length, rfl, by simp⟩, rfl, rfl, fun id m q => ?_⟩
      rcases q with ⟨q1, q2⟩ | ⟨q1, k, q2, q3⟩
      · exact ⟨.inl ⟨q1, q2⟩, fun e => by omega⟩
      · have hk : k < s.bl.length := (List.getElem?_eq_some_iff.1 q3).1
        exact ⟨.inr ⟨q1, k, q2, by show (s.bl ++ [(n, true)])[k]? = _; rw [List.getElem?_append_left hk]; exact q3⟩, fun e => by omega⟩
    · rw [List.concat_eq_append] at hR
      obtain ⟨k, rfl, hk, hb⟩ := h.ids n x (by rw [hR]; simp)
      obtain ⟨e1, e2, _⟩ := H.take_old (s := s) (n := n) (by omega) (by omega) hR
      have hb' : s.bl[k]? = some (n, false) := by rw [List.getElem?_eq_getElem hk, hb]
      rw [e1, e2]
      refine ⟨.inr ⟨by omega, k, rfl, by show (H.setT s.bl k true)[k]? = _; rw [setT_at hb', if_pos rfl]⟩, rfl, rfl, fun id m q => ?_⟩
      rcases q with ⟨q1, q2⟩ | ⟨q1, k', q2, q3⟩
      · exact ⟨.inl ⟨q1, q2⟩, fun e => by omega⟩
      · have hne : k' ≠ k := fun e => by rw [e, hb'] at q3; cases q3
        exact ⟨.inr ⟨q1, k', q2, by show (H.setT s.bl k true)[k']? = _; rw [setT_at hb', if_neg hne]; exact q3⟩, fun e => by omega⟩
theorem blk_give {s : H.St} {id n : Int} (h : Blk s id n) : (H.giveSt s id).live = s.live - n ∧ (H.giveSt s id).lim = s.lim ∧ ∀ id' m, Blk s id' m → (id' = id → id' = 0) → Blk (H.giveSt s id) id' m := by
  rcases h with ⟨rfl, rfl⟩ | ⟨h1, k, rfl, hb⟩
  · rw [(H.give_zero s).2]
    exact ⟨by omega, rfl, fun _ _ q _ => q⟩
  · have hk : k < s.bl.length := (List.getElem?_eq_some_iff.1 hb).1
    have hb2 : s.bl[k]'hk = (n, true) := (List.getElem?_eq_some_iff.1 hb).2
    rw [(H.give_at hk (by rw [hb2])).2]
    refine ⟨by show s.live - (s.bl[k]'hk).1 = _; rw [hb2], rfl, fun id' m q hne => ?_⟩
    rcases q with q | ⟨q1, k', q2, q3⟩
    · exact .inl q
    · have hne' : k' ≠ k := fun e => by have := hne (by omega); omega
      exact .inr ⟨q1, k', q2, by show (H.setT s.bl k false)[k']? = _; rw [setT_at hb, if_neg hne']; exact q3⟩

theorem flA_nz (old : Pa) (s : Nat) (p : Pa) (m : Nat) : (flA old s p m).n = p.n ∧ (flA old s p m).z = p.z := by
  induction m with
  | zero => exact ⟨rfl, rfl⟩
  | succ m ih => rw [flA, (stp_nz _ _ _).1, (stp_nz _ _ _).2]; exact ih
theorem flH_nz (old p : Pa) (m : Nat) : (flH old p m).n = p.n ∧ (flH old p m).z = p.z := by
  induction m with
  | zero => exact ⟨rfl, rfl⟩
  | succ m ih => rw [flH, (stp_nz _ _ _).1, (stp_nz _ _ _).2]; exact ih
theorem fill_nz (old p : Pa) : (fill old p).n = p.n ∧ (fill old p).z = p.z := by
  unfold fill
  rw [(flH_nz _ _ _).1, (flH_nz _ _ _).2, (flA_nz _ _ _ _).1, (flA_nz _ _ _ _).2]
  exact ⟨rfl, rfl⟩

/-- What a table holds of the heap s: its two parts' blocks, and L cells beside them are taken. -/
structure TB (t : TS) (s : H.St) (L : Int) : Prop where
  b1 : Blk s t.sb (t.p.n : Nat)
  b2 : Blk s t.nb (3 * (t.p.z : Nat))
  ne : t.sb = t.nb → t.sb = 0
  live : s.live = L + (t.p.n : Nat) + 3 * (t.p.z : Nat)
theorem tp_cases (s : H.St) (A Z : Int) : (H.takeE s A ≠ 0 ∧ tpE s A Z = H.takeE s A ∧ tpS s A Z = s) ∨
    (H.takeE s A = 0 ∧ H.takeE (H.takeSt s A) (3 * Z) ≠ 0 ∧ tpE s A Z = H.takeE (H.takeSt s A) (3 * Z) ∧ tpS s A Z = H.giveSt (H.takeSt s A) (H.takeId s A)) ∨
    (H.takeE s A = 0 ∧ H.takeE (H.takeSt s A) (3 * Z) = 0 ∧ tpE s A Z = 0 ∧ tpS s A Z = H.takeSt (H.takeSt s A) (3 * Z)) := by
  unfold tpE tpS
  by_cases h : H.takeE s A = 0
  · right
    rw [if_neg (fun q => q h), if_neg (fun q => q h)]
    by_cases h2 : H.takeE (H.takeSt s A) (3 * Z) = 0
    · right; rw [if_neg (fun q => q h2)]; exact ⟨h, h2, h2, rfl⟩
    · left; rw [if_pos h2]; exact ⟨h, h2, rfl, rfl⟩
  · left; rw [if_pos h, if_pos h]; exact ⟨h, rfl, rfl⟩
theorem TB.reh {t : TS} {s : H.St} {L : Int} (h : TB t s L) (iv : H.Inv 0 s) (k : V) : TB (Proofs.YtcaaaoehipcloaaGreat.reh t s k).1 (Proofs.YtcaaaoehipcloaaGreat.reh t s k).2.1 L ∧ (Proofs.YtcaaaoehipcloaaGreat.reh t s k).2.1.lim = s.lim := by
  unfold Proofs.YtcaaaoehipcloaaGreat.reh
  by_cases he : rsE t.p k = 0
  · rw [if_neg (fun q => q he)]
    generalize rsA t.p k = A
    generalize rsZ t.p k = Z
    rcases tp_cases s (A : Nat) (Z : Nat) with ⟨q1, q2, q3⟩ | ⟨q1, q2, q3, q4⟩ | ⟨q1, q2, q3, q4⟩
    · rw [if_pos (by rw [q2]; exact q1), q3]
      exact ⟨h, rfl⟩
    · rw [if_pos (by rw [q3]; exact q2), q4]
      obtain ⟨a1, a2, a3, a4⟩ := blk_take iv q1
      obtain ⟨g1, g2, g3⟩ := blk_give a1
      have k1 := a4 _ _ h.b1
      have k2 := a4 _ _ h.b2
      exact ⟨⟨g3 _ _ k1.1 k1.2, g3 _ _ k2.1 k2.2, h.ne, by show (H.giveSt (H.takeSt s (A : Nat)) (H.takeId s (A : Nat))).live = L + (t.p.n : Nat) + 3 * (t.p.z : Nat); rw [g1, a2, h.live]; omega⟩, by show (H.giveSt (H.takeSt s (A : Nat)) (H.takeId s (A : Nat))).lim = s.lim; rw [g2, a3]⟩
    · rw [if_neg (fun q => q q3), q4]
      obtain ⟨a1, a2, a3, a4⟩ := blk_take iv q1
      obtain ⟨c1, c2, c3, c4⟩ := blk_take (iv.take _) q2
      have k1 := a4 _ _ h.b1
      have k2 := a4 _ _ h.b2
      have m1 := c4 _ _ k1.1
      have m2 := c4 _ _ k2.1
      have m3 := c4 _ _ a1
      obtain ⟨g1, g2, g3⟩ := blk_give m1.1
      have n2 := g3 _ _ m2.1 (fun e => by have := h.ne e.symm; omega)
      have n3 := g3 _ _ m3.1 (fun e => by have := k1.2 e.symm; omega)
      have n4 := g3 _ _ c1 (fun e => by have := m1.2 e.symm; omega)
      obtain ⟨f1, f2, f3⟩ := blk_give n2
      have p3 := f3 _ _ n3 (fun e => by have := k2.2 e.symm; omega)
      have p4 := f3 _ _ n4 (fun e => by have := m2.2 e.symm; omega)
      obtain ⟨z1, z2⟩ := fill_nz t.p (fresh A Z)
      have z1' : (fill t.p (fresh A Z)).n = A := z1
      have z2' : (fill t.p (fresh A Z)).z = Z := z2
      refine ⟨⟨?_, ?_, fun e => m3.2 e, ?_⟩, by rw [f2, g2, c3, a3]⟩
      · show Blk _ _ ((fill t.p (fresh A Z)).n : Nat); rw [z1']; exact p3
      · show Blk _ _ (3 * ((fill t.p (fresh A Z)).z : Nat)); rw [z2']; exact p4
      · show _ = L + ((fill t.p (fresh A Z)).n : Nat) + 3 * ((fill t.p (fresh A Z)).z : Nat)
        rw [z1', z2', f1, g1, c2, a2, h.live]; omega
  · rw [if_pos he]; exact ⟨h, rfl⟩
theorem TB.one {t : TS} {s : H.St} {L : Int} (h : TB t s L) (k v : V) (x : Int) : TB { t with p := (pset t.p k v).1, pr := x } s L := by
  obtain ⟨z1, z2⟩ := pset_nz t.p k v
  exact ⟨by show Blk s t.sb ((pset t.p k v).1.n : Nat); rw [z1]; exact h.b1, by show Blk s t.nb (3 * ((pset t.p k v).1.z : Nat)); rw [z2]; exact h.b2, h.ne, by show _ = L + ((pset t.p k v).1.n : Nat) + 3 * ((pset t.p k v).1.z : Nat); rw [z1, z2]; exact h.live⟩
theorem TB.set {t : TS} {s : H.St} {L : Int} (h : TB t s L) (iv : H.Inv 0 s) (k v : V) : TB (tset t s k v).1 (tset t s k v).2.1 L ∧ (tset t s k v).2.1.lim = s.lim := by
  unfold tset
  split
  · exact ⟨h, rfl⟩
  · split
    · exact ⟨h, rfl⟩
    · split
      · exact ⟨h.one k v _, rfl⟩
      · obtain ⟨r1, r2⟩ := (show TB (Proofs.YtcaaaoehipcloaaGreat.one t k v) s L from h.one k v _).reh iv k
        split
        · exact ⟨r1, r2⟩
        · exact ⟨r1.one k v _, r2⟩
end Go.Proofs.YtcaaaoehipcloaaGreat

/- The pure part of a table, on: keys that follow one another, none of them small. -/
namespace Go.Proofs.YtcaaaoehipcloaaGreat
open Go.RowKit

/-- The census has no error where few keys are present. -/
theorem rsE_few {p : Pa} {k : V} (h : ∀ k', k' ∈ pres p ++ [k] → KOK k') (hn : (pres p ++ [k]).Nodup) (hl : (pres p ++ [k]).length ≤ 65536) : rsE p k = 0 := by
  rcases cens h hn with q | q
  · exfalso
    unfold rsE at q
    generalize pres p ++ [k] = l at *
    have hf := ints_fit h
    have hd := (C.dense_of (ints l) hf).n
    have hw := (C.wi_bound (ints l) (C.chA (C.cntL (ints l)) 17)).1
    have hc := ints_len l
    unfold C.szE at q
    rw [if_neg (by omega), if_neg (by simpa using ints_nd h hn)] at q
    have : ¬ (65536 < ((oth l : Nat) : Int) ∨ 65536 < ((oth l : Nat) : Int) + C.rest (ints l)) := by unfold C.rest; omega
    rw [if_neg this] at q
    cases q
  · exact q.1
theorem up2_le (n : Int) (h0 : 0 ≤ n) (h1 : n ≤ 1024) : C.up2 n ≤ 1024 := by
  unfold C.up2
  by_cases q : n = 0
  · rw [if_pos q]; omega
  · rw [if_neg q]
    obtain ⟨a, b, c⟩ := C.lgN_spec n (by omega) (by omega)
    have hl : C.lgN n ≤ 10 := by
      rcases b with b | b
      · omega
      · rcases Nat.lt_or_ge 10 (C.lgN n) with q | q
        · have := Nat.pow_le_pow_right (n := 2) (by omega) (show 10 ≤ C.lgN n - 1 by omega)
          omega
        · exact q
    unfold C.cl
    have h2 := Nat.pow_le_pow_right (n := 2) (by omega) hl
    have e : ((2 : Int) ^ C.lgN n) = ((2 ^ C.lgN n : Nat) : Int) := by simp
    rw [e]; omega

/-- j keys are in, b + 1 to b + j; none has a slot. -/
structure RW (b : Int) (j : Nat) (t : TS) (s : H.St) : Prop where
  n0 : t.p.n = 0
  tb : TB t s 4
  lim : s.lim = 400000
  zb : t.p.z ≤ 1024
  keys : ∀ i, i < t.p.z → t.p.g.K i = nil ∨ ∃ q : Nat, 1 ≤ q ∧ q ≤ j ∧ t.p.g.K i = kn (b + q)
  get : ∀ q : Nat, 1 ≤ q → q ≤ j → pget t.p (kn (b + q)) = kn q
theorem kn_inj {a b : Int} (h : kn a = kn b) : a = b := by simpa using h
theorem KOK_row {b : Int} {q : Nat} (h0 : 0 ≤ b) (h1 : b < 4611686018427387904) (hq : q ≤ 701) : KOK (kn (b + q)) := by
  refine ⟨by simp [inF, ByteArray.toList_eq], by simp, by simp; omega, by simp; omega⟩
theorem fm_kn (n : Int) : fm (kn n) = true := by simp [fm, inF, ByteArray.toList_eq]
theorem not_inA0 (k : V) : ¬ inA 0 k := fun h => by have := h.2.2; omega
theorem RW.pres_len {b : Int} {j : Nat} {t : TS} {s : H.St} (h : RW b j t s) (ti : TI t.p) : (pres t.p).length ≤ j ∧ ∀ k, k ∈ pres t.p → ∃ q : Nat, 1 ≤ q ∧ q ≤ j ∧ k = kn (b + q) := by
  have hm : ∀ k, k ∈ pres t.p → ∃ q : Nat, 1 ≤ q ∧ q ≤ j ∧ k = kn (b + q) := fun k hk => by
    rw [pres, h.n0, List.mem_append] at hk
    rcases hk with hk | hk
    · cases hk
    · obtain ⟨i, hi, hx, rfl⟩ := mem_kH.1 hk
      exact (h.keys i hi).resolve_left (ti.live hi hx).1
  refine ⟨?_, hm⟩
  have hnd : ((pres t.p).map fun k => (k.2.1 - b - 1).toNat).Nodup := by
    unfold List.Nodup
    rw [List.pairwise_map]
    refine List.Pairwise.imp_of_mem ?_ ti.pres_nd
    intro k k' hk hk' hne e
    obtain ⟨q, q1, q2, rfl⟩ := hm k hk
    obtain ⟨q', q1', q2', rfl⟩ := hm k' hk'
    have e' : (b + (q : Int) - b - 1).toNat = (b + (q' : Int) - b - 1).toNat := e
    exact hne (by rw [show q = q' by omega])
  have := nodup_len (z := j) hnd (fun x hx => by
    obtain ⟨k, hk, rfl⟩ := List.mem_map.1 hx
    obtain ⟨q, q1, q2, rfl⟩ := hm k hk
    show (b + (q : Int) - b - 1).toNat < j
    omega)
  simpa using this

theorem RW.step {b : Int} {j m : Nat} {t : TS} {s : H.St} (h : RW b j t s) (ti : TI t.p) (iv : H.Inv 0 s) (hj : j + 1 ≤ m) (hm : m ≤ 700) (hb : 2 * (m : Int) ≤ b) (hb2 : b < 4611686018427387904) :
    (tset t s (kn (b + (j + 1 : Nat))) (kn ((j + 1 : Nat)))).2.2 = 0 ∧ RW b (j + 1) (tset t s (kn (b + (j + 1 : Nat))) (kn (j + 1 : Nat))).1 (tset t s (kn (b + (j + 1 : Nat))) (kn (j + 1 : Nat))).2.1 := by
  have hk : KOK (kn (b + (j + 1 : Nat))) := KOK_row (by omega) hb2 (by omega)
  have hv := fm_kn ((j + 1 : Nat) : Int)
  have hr : Rng (kn (b + (j + 1 : Nat))) := ⟨hk.2.2.1, hk.2.2.2⟩
  have hv0 : (kn ((j + 1 : Nat) : Int)).1 ≠ 0 := by simp
  obtain ⟨htb, hlim⟩ := h.tb.set iv (kn (b + (j + 1 : Nat))) (kn (j + 1 : Nat))
  obtain ⟨mp1, mp2⟩ := tset_map (s := s) (k := kn (b + (j + 1 : Nat))) (v := kn (j + 1 : Nat)) ti hr
  obtain ⟨hpl, hpm⟩ := h.pres_len ti
  have hold : ∀ q : Nat, 1 ≤ q → q ≤ j → kn (b + q) ≠ kn (b + (j + 1 : Nat)) := fun q _ q2 e => by have := kn_inj e; omega
  -- what is left to show
  have key : (tset t s (kn (b + (j + 1 : Nat))) (kn (j + 1 : Nat))).2.2 = 0 ∧ (tset t s (kn (b + (j + 1 : Nat))) (kn (j + 1 : Nat))).1.p.n = 0 ∧ (tset t s (kn (b + (j + 1 : Nat))) (kn (j + 1 : Nat))).1.p.z ≤ 1024 ∧
      ∀ i, i < (tset t s (kn (b + (j + 1 : Nat))) (kn (j + 1 : Nat))).1.p.z → (tset t s (kn (b + (j + 1 : Nat))) (kn (j + 1 : Nat))).1.p.g.K i = nil ∨ ∃ q : Nat, 1 ≤ q ∧ q ≤ j + 1 ∧ (tset t s (kn (b + (j + 1 : Nat))) (kn (j + 1 : Nat))).1.p.g.K i = kn (b + q) := by
    clear mp1 mp2 htb hlim
    generalize hkk : kn (b + (j + 1 : Nat)) = k at *
    generalize kn ((j + 1 : Nat) : Int) = v at *
    have hA : ¬ inA t.p.n k := by rw [h.n0]; exact not_inA0 k
    have ep : pset t.p k v = ({ t.p with g := (put t.p.z t.p.g k v).1 }, (put t.p.z t.p.g k v).2.1, (put t.p.z t.p.g k v).2.2) := by unfold pset; rw [if_neg hA]
    unfold tset
    rw [if_neg (fun q => q ⟨hk.1, hv⟩), if_neg hk.2.1]
    by_cases he : (pset t.p k v).2.2 = 12
    · rw [if_neg (fun q => q he)]
      obtain ⟨_, _, _, hnew, hfull, hg, hp, ha⟩ := ti.full hk he
      have h1 : TI (pset t.p k v).1 := ti.set hr hv
      have hA1 : ¬ inA (pset t.p k v).1.n k := by rw [(pset_nz t.p k v).1]; exact hA
      have hnew1 : ∀ i, i < (pset t.p k v).1.z → (pset t.p k v).1.g.K i ≠ k := fun i hi e => by
        rw [(pset_nz t.p k v).2] at hi
        have he' : (put t.p.z t.p.g k v).2.2 = 12 := by rw [ep] at he; exact he
        have e2 := (put_12 ti.inv ti.rt hk he').2.2.2.2.1
        rw [ep] at e
        have e3 : (put t.p.z t.p.g k v).1.K i = k := e
        rw [e2] at e3
        exact hnew i hi e3
      have hop : (one t k v).p = (pset t.p k v).1 := rfl
      have hos : (one t k v).sb = t.sb ∧ (one t k v).nb = t.nb := ⟨rfl, rfl⟩
      rw [← hop] at ha h1 hA1 hnew1 hp
      generalize one t k v = u at *
      have hlen : (pres u.p ++ [k]).length ≤ j + 1 := by rw [hp]; simp; omega
      have e0 := rsE_few ha.ok ha.nd (by omega)
      obtain ⟨F, i1, i2, i3, i4, i5⟩ := h1.behind hk hv hv0 hA1 hnew1 ha e0
      have hmem : ∀ k', k' ∈ pres u.p ++ [k] → ∃ q : Nat, 1 ≤ q ∧ q ≤ j + 1 ∧ k' = kn (b + q) := fun k' hk' => by
        rw [hp] at hk'
        rcases List.mem_append.1 hk' with q | q
        · obtain ⟨r, r1, r2, r3⟩ := hpm k' q
          exact ⟨r, r1, by omega, r3⟩
        · exact ⟨j + 1, by omega, by omega, by rw [List.mem_singleton.1 q, hkk]⟩
      have hA0 : rsA u.p k = 0 := by
        by_cases q : rsA u.p k = 0
        · exact q
        · exfalso
          have hh := F.dense.half (by omega)
          have hw := C.wi_bound (ints (pres u.p ++ [k])) (rsA u.p k)
          have hc := ints_len (pres u.p ++ [k])
          have hpos : 0 < C.wi (ints (pres u.p ++ [k])) (rsA u.p k) := by omega
          unfold C.wi at hpos
          have hp2 : 0 < (ints (pres u.p ++ [k])).countP (fun x => decide (1 ≤ x ∧ x ≤ ((rsA u.p k : Nat) : Int))) := by omega
          obtain ⟨x, hx, hx2⟩ := List.countP_pos_iff.1 hp2
          obtain ⟨k', hk', _, hx3⟩ := ints_mem hx
          obtain ⟨r, r1, r2, rfl⟩ := hmem k' hk'
          have hx3' : b + (r : Int) = x := hx3
          simp at hx2
          omega
      have hZ : rsZ u.p k ≤ 1024 := by
        have hup := F.up
        have ho : outK (rsA u.p k) (pres u.p ++ [k]) ≤ (pres u.p ++ [k]).length := List.countP_le_length
        have := up2_le (outK (rsA u.p k) (pres u.p ++ [k]) : Nat) (by omega) (by omega)
        omega
      have hlv := h.tb.live
      have hn0 := h.n0
      have hzb := h.zb
      have hl := h.lim
      have t1 : H.takeE s ((rsA u.p k : Nat) : Int) = 0 := by
        unfold H.takeE
        rw [if_neg (by omega), if_neg (by omega)]
      have ts : H.takeSt s ((rsA u.p k : Nat) : Int) = s := by
        rw [hA0]
        unfold H.takeSt
        rw [if_neg (by omega), if_neg (by omega), if_pos (by omega)]
      have t2 : H.takeE (H.takeSt s ((rsA u.p k : Nat) : Int)) (3 * ((rsZ u.p k : Nat) : Int)) = 0 := by
        rw [ts]
        unfold H.takeE
        rw [if_neg (by omega), if_neg (by omega)]
      have et : tpE s (rsA u.p k : Nat) (rsZ u.p k : Nat) = 0 := by unfold tpE; rw [if_neg (fun q => q t1), t2]
      have hroom : outK (rsA u.p k) (pres u.p) ≤ rsZ u.p k := by have := F.room; rw [outK_app] at this; omega
      obtain ⟨_, _, _, _, _, f6⟩ := h1.filled F.a F.z hroom
      have er : (Proofs.YtcaaaoehipcloaaGreat.reh u s k).2.2 = 0 ∧ (Proofs.YtcaaaoehipcloaaGreat.reh u s k).1.p = fill u.p (fresh (rsA u.p k) (rsZ u.p k)) := by
        unfold Proofs.YtcaaaoehipcloaaGreat.reh
        rw [if_neg (fun q => q e0), if_neg (fun q => q et)]
        exact ⟨rfl, rfl⟩
      rw [if_neg (fun q => q er.1), er.2]
      refine ⟨i5, ?_, ?_, ?_⟩
      · show (pset _ k v).1.n = 0
        rw [(pset_nz _ k v).1, i2, hA0]
      · show (pset _ k v).1.z ≤ 1024
        rw [(pset_nz _ k v).2, i3]; exact hZ
      · intro i hi
        have hi' : i < rsZ u.p k := by
          have : (pset (fill u.p (fresh (rsA u.p k) (rsZ u.p k))) k v).1.z = rsZ u.p k := by rw [(pset_nz _ k v).2, i3]
          have hi2 : i < (pset (fill u.p (fresh (rsA u.p k) (rsZ u.p k))) k v).1.z := hi
          omega
        have hAf : ¬ inA (fill u.p (fresh (rsA u.p k) (rsZ u.p k))).n k := by rw [i2, hA0]; exact not_inA0 k
        show (pset (fill u.p (fresh (rsA u.p k) (rsZ u.p k))) k v).1.g.K i = nil ∨ ∃ q : Nat, 1 ≤ q ∧ q ≤ j + 1 ∧ (pset (fill u.p (fresh (rsA u.p k) (rsZ u.p k))) k v).1.g.K i = kn (b + q)
        have epf : (pset (fill u.p (fresh (rsA u.p k) (rsZ u.p k))) k v).1.g = (put (fill u.p (fresh (rsA u.p k) (rsZ u.p k))).z (fill u.p (fresh (rsA u.p k) (rsZ u.p k))).g k v).1 := by unfold pset; rw [if_neg hAf]
        rw [epf]
        rcases put_pairs (v := v) i1.inv i1.rt hr (i := i) (by rw [i3]; exact hi') with q | ⟨q, _⟩ | ⟨i', hi2, q, _⟩
        · exact .inl q
        · exact .inr ⟨j + 1, by omega, by omega, by rw [q, hkk]⟩
        · rw [q]
          rw [i3] at hi2
          rcases f6 i' hi2 with r | r
          · exact .inl r
          · obtain ⟨x, x1, x2, x3⟩ := hmem _ (List.mem_append.2 (.inl r))
            exact .inr ⟨x, x1, x2, x3⟩
    · rw [if_pos he]
      have he0 : (pset t.p k v).2.2 = 0 := by
        by_cases q : (pset t.p k v).2.2 = 0
        · exact q
        · rw [ep] at he q ⊢
          rcases (put_bad q).2 with r | ⟨_, r⟩ | ⟨_, _, _, r⟩
          · exact absurd r he
          · exact absurd ⟨hk.1, hv⟩ r
          · exact absurd r hk.2.1
      refine ⟨he0, ?_, ?_, ?_⟩
      · show (pset t.p k v).1.n = 0
        rw [(pset_nz t.p k v).1]; exact h.n0
      · show (pset t.p k v).1.z ≤ 1024
        rw [(pset_nz t.p k v).2]; exact h.zb
      · intro i hi
        have hi' : i < t.p.z := by
          have hi2 : i < (pset t.p k v).1.z := hi
          rwa [(pset_nz t.p k v).2] at hi2
        show (pset t.p k v).1.g.K i = nil ∨ ∃ q : Nat, 1 ≤ q ∧ q ≤ j + 1 ∧ (pset t.p k v).1.g.K i = kn (b + q)
        rw [ep]
        rcases put_pairs (v := v) ti.inv ti.rt hr hi' with q | ⟨q, _⟩ | ⟨i', hi2, q, _⟩
        · exact .inl q
        · exact .inr ⟨j + 1, by omega, by omega, q.trans hkk.symm⟩
        · rcases h.keys i' hi2 with r | ⟨x, x1, x2, x3⟩
          · exact .inl (q.trans r)
          · exact .inr ⟨x, x1, by omega, q.trans x3⟩
  obtain ⟨k1, k2, k3, k4⟩ := key
  obtain ⟨_, _, g1, g2⟩ := mp1 k1
  refine ⟨k1, k2, htb, by rw [hlim]; exact h.lim, k3, k4, fun q q1 q2 => ?_⟩
  by_cases e : q = j + 1
  · rw [e]; exact g1
  · rw [g2 _ (KOK_row (by omega) hb2 (by omega)) (hold q q1 (by omega))]
    exact h.get q q1 (by omega)
end Go.Proofs.YtcaaaoehipcloaaGreat

/- The pure part of a table, on: when a Set rehashes, and what is behind it. -/
namespace Go.Proofs.YtcaaaoehipcloaaGreat
open Go.RowKit

theorem Fits.perm {l l' : List V} {A Z : Nat} (h : Fits l A Z) (hp : l.Perm l') : Fits l' A Z := by
  have ho : outK A l' = outK A l := (hp.countP_eq _).symm
  have hi : (ints l).Perm (ints l') := hp.filterMap _
  have hw : ∀ a, C.wi (ints l') a = C.wi (ints l) a := fun a => by unfold C.wi; rw [hi.countP_eq]
  have hd := h.dense
  refine ⟨h.a, h.z, by rw [ho]; exact h.room, ⟨hd.a0, hd.a1, rfl, ?_, fun j hj q => ?_⟩, by rw [ho]; exact h.up, h.pow⟩
  · rw [hw]; exact hd.half
  · rw [hw]; exact hd.most j hj q
/-- What due asks of a key and a value ahead of a Set. -/
def Due (p : Pa) (k v : V) : Prop := plc p k ≤ 0 ∧ (∀ i, i < p.z → p.g.K i ≠ nil) ∧ v.1 ≠ 0 ∧ fm k = true ∧ fm v = true ∧ k.1 ≠ 0
theorem tf_full {K : Nat → V} : ∀ f, (∀ i, i < f → K i ≠ nil) → tf K f = none := by
  intro f
  induction f with
  | zero => intro _; rfl
  | succ f ih => intro h; rw [tf, if_neg (h f (by omega))]; exact ih (fun i hi => h i (by omega))
theorem fnd_none {z : Nat} {g : G} {k : V} (hi : Inv z (pl z) KOK g) (hz : Rt z) (hk : KOK k) (h : (fnd z g k).1 = none) : ∀ i, i < z → g.K i ≠ k := fun i hiz e => by
  have hz0 : z ≠ 0 := by omega
  rw [fnd_good hz0 hk] at h
  cases hf : find (pl z) g k with
  | mk o n =>
    rw [hf] at h
    simp only at h
    subst h
    exact hi.find_none (fun k _ => pl_lt (hz.resolve_left hz0) k) hk.ne hf i hiz e
/-- A Set finds no node if and only if a rehash is due. -/
theorem due_iff {p : Pa} (h : TI p) {k v : V} (hr : Rng k) : Due p k v ↔ (fm k = true ∧ fm v = true ∧ k.1 ≠ 0 ∧ (pset p k v).2.2 = 12) := by
  constructor
  · rintro ⟨d1, d2, d3, d4, d5, d6⟩
    have hk : KOK k := ⟨d4, d6, hr.1, hr.2⟩
    refine ⟨d4, d5, d6, ?_⟩
    have hA : ¬ inA p.n k := fun q => by unfold plc at d1; rw [if_pos q] at d1; have := q.2.2.1; omega
    have hno : (fnd p.z p.g k).1 = none := by
      unfold plc at d1
      rw [if_neg hA] at d1
      cases hf : (fnd p.z p.g k).1 with
      | none => rfl
      | some i => rw [hf] at d1; simp only at d1; omega
    unfold pset
    rw [if_neg hA]
    show (put p.z p.g k v).2.2 = 12
    by_cases hz0 : p.z = 0
    · rw [put, if_pos ⟨d4, d5⟩, if_neg d6, if_pos hz0, if_neg d3]
    · rw [put, if_pos ⟨d4, d5⟩, if_neg d6, if_neg hz0]
      have hz' := h.rt.resolve_left hz0
      rw [fnd_good hz0 hk] at hno
      cases hf : find (pl p.z) p.g k with
      | mk o n =>
        rw [hf] at hno
        simp only at hno
        subst hno
        simp only
        rw [if_neg d3]
        have hpl := pl_lt hz' k
        have e : (ins (pl p.z) p.g k v).2 = false := by
          unfold ins
          rw [if_neg (d2 _ hpl), tf_full p.g.f (fun i hi => d2 i (by have := h.inv.fle; omega))]
        rw [e]; rfl
  · rintro ⟨d4, d5, d6, he⟩
    have hk : KOK k := ⟨d4, d6, hr.1, hr.2⟩
    obtain ⟨hA, _, hv0, hnew, hfull, _⟩ := h.full hk he
    refine ⟨?_, hfull, hv0, d4, d5, d6⟩
    unfold plc
    rw [if_neg hA]
    cases hf : fnd p.z p.g k with
    | mk o n =>
      cases o with
      | none => exact Int.le_refl _
      | some i =>
        exfalso
        have hz0 : p.z ≠ 0 := fun q => by
          have := (fnd_lt h.inv h.rt hr hf).1; omega
        rw [fnd_good hz0 hk] at hf
        obtain ⟨_, h2, h3⟩ := h.inv.find_some (fun k _ => pl_lt (h.rt.resolve_left hz0) k) hk hf
        exact hnew i (fnd_lt h.inv h.rt hr (by rw [fnd_good hz0 hk]; exact hf)).1 (by assumption)

theorem reh_err {u : TS} {s : H.St} {k : V} (h : (reh u s k).2.2 ≠ 0) : (reh u s k).1 = u := by
  unfold reh at h ⊢
  by_cases q : rsE u.p k = 0
  · rw [if_neg (fun x => x q)] at h ⊢
    by_cases q2 : tpE s (rsA u.p k) (rsZ u.p k) = 0
    · rw [if_neg (fun x => x q2)] at h; exact absurd rfl h
    · rw [if_pos q2]
  · rw [if_pos q]
theorem set_same {t : TS} {s : H.St} {k v : V} (h : TI t.p) (hr : Rng k) (hno : ¬ (Due t.p k v ∧ (tset t s k v).2.2 = 0)) : (tset t s k v).1.p.n = t.p.n ∧ (tset t s k v).1.p.z = t.p.z := by
  unfold tset at hno ⊢
  by_cases hf : fm k = true ∧ fm v = true
  · rw [if_neg (fun q => q hf)] at hno ⊢
    by_cases hk0 : k.1 = 0
    · rw [if_pos hk0]; exact ⟨rfl, rfl⟩
    · rw [if_neg hk0] at hno ⊢
      by_cases he : (pset t.p k v).2.2 = 12
      · rw [if_neg (fun q => q he)] at hno ⊢
        have hd := (due_iff h hr).2 ⟨hf.1, hf.2, hk0, he⟩
        by_cases hR : (reh (one t k v) s k).2.2 = 0
        · rw [if_neg (fun q => q hR)] at hno ⊢
          exfalso
          refine hno ⟨hd, ?_⟩
          have hk : KOK k := ⟨hf.1, hk0, hr.1, hr.2⟩
          have hs := tset_map (s := s) (k := k) (v := v) h hr
          have e : (tset t s k v).2.2 = (pset (reh (one t k v) s k).1.p k v).2.2 := by
            unfold tset
            rw [if_neg (fun q => q hf), if_neg hk0, if_neg (fun q => q he), if_neg (fun q => q hR)]
          show (pset (reh (one t k v) s k).1.p k v).2.2 = 0
          obtain ⟨hA, hv, hv0, hnew, _, _, _, ha⟩ := h.full hk he
          have h1 : TI (one t k v).p := h.set hr hv
          have hA1 : ¬ inA (one t k v).p.n k := by show ¬ inA (pset t.p k v).1.n k; rw [(pset_nz t.p k v).1]; exact hA
          have ep : pset t.p k v = ({ t.p with g := (put t.p.z t.p.g k v).1 }, (put t.p.z t.p.g k v).2.1, (put t.p.z t.p.g k v).2.2) := by unfold pset; rw [if_neg hA]
          have hnew1 : ∀ i, i < (one t k v).p.z → (one t k v).p.g.K i ≠ k := fun i hi e => by
            have hi2 : i < t.p.z := by rw [← (pset_nz t.p k v).2]; exact hi
            have he' : (put t.p.z t.p.g k v).2.2 = 12 := by rw [ep] at he; exact he
            have e2 := (put_12 h.inv h.rt hk he').2.2.2.2.1
            have e3 : (pset t.p k v).1.g.K i = k := e
            rw [ep] at e3
            have e4 : (put t.p.z t.p.g k v).1.K i = k := e3
            rw [e2] at e4
            exact hnew i hi2 e4
          have e0 : rsE (one t k v).p k = 0 := by
            unfold reh at hR
            by_cases q : rsE (one t k v).p k = 0
            · exact q
            · rw [if_pos q] at hR; exact absurd hR q
          have e1 : (reh (one t k v) s k).1.p = fill (one t k v).p (fresh (rsA (one t k v).p k) (rsZ (one t k v).p k)) := by
            unfold reh at hR ⊢
            rw [if_neg (fun q => q e0)] at hR ⊢
            by_cases q : tpE s (rsA (one t k v).p k) (rsZ (one t k v).p k) = 0
            · rw [if_neg (fun x => x q)]
            · rw [if_pos q] at hR; exact absurd hR q
          rw [e1]
          exact (h1.behind hk hv hv0 hA1 hnew1 ha e0).2.2.2.2.2
        · rw [if_pos hR, reh_err hR]
          exact pset_nz t.p k v
      · rw [if_pos he]; exact pset_nz t.p k v
  · rw [if_pos hf]; exact ⟨rfl, rfl⟩
theorem set_due {t : TS} {s : H.St} {k v : V} (h : TI t.p) (hr : Rng k) (hd : Due t.p k v) (hz : (tset t s k v).2.2 = 0) (ti' : TI (tset t s k v).1.p) :
    Fits (pres (tset t s k v).1.p) (tset t s k v).1.p.n (tset t s k v).1.p.z ∧ (tset t s k v).1.hint = 0 := by
  obtain ⟨d4, d5, d6, he⟩ := (due_iff h hr).1 hd
  have hk : KOK k := ⟨d4, d6, hr.1, hr.2⟩
  obtain ⟨mk1, _, mk2, mk3⟩ := (tset_map (s := s) (k := k) (v := v) h hr).1 hz
  obtain ⟨hA, hv, hv0, hnew, _, _, hpp, ha⟩ := h.full hk he
  have h1 : TI (one t k v).p := h.set hr hv
  have hb : ∀ k', pget (pset t.p k v).1 k' = pget t.p k' := pset_bad (by rw [he]; decide)
  have et : tset t s k v = if (reh (one t k v) s k).2.2 ≠ 0 then reh (one t k v) s k
      else ({ (reh (one t k v) s k).1 with p := (pset (reh (one t k v) s k).1.p k v).1 }, (reh (one t k v) s k).2.1, (pset (reh (one t k v) s k).1.p k v).2.2) := by
    unfold tset
    rw [if_neg (fun q => q ⟨d4, d5⟩), if_neg d6, if_neg (fun q => q he)]
  have hR : (reh (one t k v) s k).2.2 = 0 := by
    by_cases q : (reh (one t k v) s k).2.2 = 0
    · exact q
    · rw [et, if_pos q] at hz; exact absurd hz q
  rw [if_neg (fun q => q hR)] at et
  have e0 : rsE (one t k v).p k = 0 := by
    unfold reh at hR
    by_cases q : rsE (one t k v).p k = 0
    · exact q
    · rw [if_pos q] at hR; exact absurd hR q
  have e1 : (reh (one t k v) s k).1.p = fill (one t k v).p (fresh (rsA (one t k v).p k) (rsZ (one t k v).p k)) ∧ (reh (one t k v) s k).1.hint = 0 := by
    unfold reh at hR ⊢
    rw [if_neg (fun q => q e0)] at hR ⊢
    by_cases q : tpE s (rsA (one t k v).p k) (rsZ (one t k v).p k) = 0
    · rw [if_neg (fun x => x q)]; exact ⟨rfl, rfl⟩
    · rw [if_pos q] at hR; exact absurd hR q
  obtain ⟨_, F, _, _⟩ := (cens (p := (one t k v).p) ha.ok ha.nd).resolve_left (fun q => by rw [e0] at q; cases q)
  have hnz : (tset t s k v).1.p.n = rsA (one t k v).p k ∧ (tset t s k v).1.p.z = rsZ (one t k v).p k := by
    rw [et]
    show (pset (reh (one t k v) s k).1.p k v).1.n = _ ∧ (pset (reh (one t k v) s k).1.p k v).1.z = _
    rw [(pset_nz _ k v).1, (pset_nz _ k v).2, e1.1, (fill_nz _ _).1, (fill_nz _ _).2]
    exact ⟨rfl, rfl⟩
  refine ⟨?_, by rw [et]; exact e1.2⟩
  rw [hnz.1, hnz.2]
  refine F.perm ?_
  refine (List.perm_ext_iff_of_nodup ha.nd ti'.pres_nd).2 fun k' => ?_
  rw [ti'.mem_pres, List.mem_append, List.mem_singleton]
  have hm1 : ∀ k', k' ∈ pres (one t k v).p ↔ KOK k' ∧ (pget t.p k').1 ≠ 0 := fun k' => by rw [h1.mem_pres]; show _ ∧ (pget (pset t.p k v).1 k').1 ≠ 0 ↔ _; rw [hb]
  have hm2 := hm1 k'
  constructor
  · rintro (q | rfl)
    · obtain ⟨q1, q2⟩ := hm2.1 q
      refine ⟨q1, ?_⟩
      by_cases e : k' = k
      · subst e; rw [mk2]; exact hv0
      · rw [mk3 k' q1 e]; exact q2
    · exact ⟨hk, by rw [mk2]; exact hv0⟩
  · rintro ⟨q1, q2⟩
    by_cases e : k' = k
    · exact .inr e
    · left
      rw [mk3 k' q1 e] at q2
      exact hm2.2 ⟨q1, q2⟩
end Go.Proofs.YtcaaaoehipcloaaGreat

/- The walk of Pair. -/
namespace Go.Proofs.YtcaaaoehipcloaaGreat
open Go.RowKit

/-- The pair at a place, from nought on. -/
def pairK (p : Pa) (i : Nat) : V := if i < p.n then kn ((i : Int) + 1) else p.g.K (i - p.n)
def pairX (p : Pa) (i : Nat) : V := if i < p.n then p.F i else p.g.X (i - p.n)
/-- Two results' blocks: what is true of them behind the stores. -/
structure P2 (w W : World) (N : Nat) (x y : V) : Prop where
  r0 : Bx W N x
  r1 : Bx W (N + 1) y
  bel : Below N w W
theorem P2.mk2 {w W : World} {N : Nat} (hB : Below N w W) (r0 : R3 W N nil) (r1 : R3 W (N + 1) nil) (x y : V) : P2 w (set3 (set3 W N x) (N + 1) y) N x y := by
  have k1 : Keep (fun g => g ≠ N) W (set3 W N x) := (Keep.refl _ W).set3 (fun q => q rfl) x
  have q1 := r1.kept k1 (by show N + 1 ≠ N; omega)
  have k2 : Keep (fun g => g ≠ N + 1) (set3 W N x) (set3 (set3 W N x) (N + 1) y) := (Keep.refl _ _).set3 (fun q => q rfl) y
  have q0 := (r0.set x).kept k2 (by show N ≠ N + 1; omega)
  have hs := r0.bx.lt
  have kk : Keep (fun g => g < N) W (set3 (set3 W N x) (N + 1) y) := ((Keep.refl (fun g => g < N) W).set3 (N := N) (Nat.lt_irrefl N) x).set3 (N := N + 1) (fun q => by omega) y
  exact ⟨q0.bx, (q1.set y).bx, hB.trans (kk.below (Nat.le_of_lt hs) (fun g q => q))⟩

end Go.Proofs.YtcaaaoehipcloaaGreat

/- The pure part of a table: what is cleared; how great it becomes; when a Set has no error. -/
namespace Go.Proofs.YtcaaaoehipcloaaGreat
open Go.RowKit

theorem nil_of {v : V} (h : fm v = true) (h0 : v.1 = 0) : v = nil := by
  obtain ⟨k, n, s⟩ := v
  simp only at h0
  subst h0
  have h1 : inF 0 n s = true := h
  unfold inF at h1
  simp only [if_true, Bool.and_eq_true, decide_eq_true_eq, List.isEmpty_iff] at h1
  obtain ⟨rfl, h2⟩ := h1
  have : s = ⟨#[]⟩ := bytes_iff.1 (by rw [h2]; simp [ByteArray.toList_eq])
  rw [this]; rfl
/-- The first m places are cleared. -/
def clrP (p : Pa) (m : Nat) : Pa := { p with F := fun j => if j < m ∧ j < p.n then nil else p.F j, g := { p.g with X := fun j => if p.n + j < m then nil else p.g.X j } }
theorem clr_0 (p : Pa) : clrP p 0 = p := by
  unfold clrP
  have h1 : (fun j => if j < 0 ∧ j < p.n then nil else p.F j) = p.F := by funext j; rw [if_neg (by omega)]
  have h2 : (fun j => if p.n + j < 0 then nil else p.g.X j) = p.g.X := by funext j; rw [if_neg (by omega)]
  rw [h1, h2]
theorem clr_nz (p : Pa) (m : Nat) : (clrP p m).n = p.n ∧ (clrP p m).z = p.z ∧ (clrP p m).g.f = p.g.f := ⟨rfl, rfl, rfl⟩
theorem clr_pair (p : Pa) (m : Nat) : pairK (clrP p m) m = pairK p m ∧ pairX (clrP p m) m = pairX p m := by
  unfold pairK pairX
  refine ⟨rfl, ?_⟩
  show (if m < p.n then (if m < m ∧ m < p.n then nil else p.F m) else (if p.n + (m - p.n) < m then nil else p.g.X (m - p.n))) = _
  by_cases h : m < p.n
  · rw [if_pos h, if_pos h, if_neg (by omega)]
  · rw [if_neg h, if_neg h, if_neg (by omega)]
theorem clr_skip {p : Pa} (h : TI p) {m : Nat} (hm : m < p.n + p.z) (hv : (pairX p m).1 = 0) : clrP p (m + 1) = clrP p m := by
  unfold pairX at hv
  have h1 : (fun j => if j < m + 1 ∧ j < p.n then nil else p.F j) = fun j => if j < m ∧ j < p.n then nil else p.F j := by
    funext j
    by_cases e : j = m
    · subst e
      by_cases hj : j < p.n
      · rw [if_pos hj] at hv
        rw [if_pos ⟨by omega, hj⟩, if_neg (by omega)]
        exact (nil_of (h.fv j hj) hv).symm
      · rw [if_neg (by omega), if_neg (by omega)]
    · by_cases q : j < m ∧ j < p.n
      · rw [if_pos q, if_pos ⟨by omega, q.2⟩]
      · rw [if_neg q, if_neg (by omega)]
  have h2 : (fun j => if p.n + j < m + 1 then nil else p.g.X j) = fun j => if p.n + j < m then nil else p.g.X j := by
    funext j
    by_cases e : p.n + j = m
    · subst e
      rw [if_neg (by omega), show p.n + j - p.n = j by omega] at hv
      rw [if_pos (by omega), if_neg (by omega)]
      exact (nil_of (h.xv j (by omega)) hv).symm
    · by_cases q : p.n + j < m
      · rw [if_pos q, if_pos (by omega)]
      · rw [if_neg q, if_neg (by omega)]
  unfold clrP
  rw [h1, h2]
theorem clr_A {p : Pa} {m : Nat} (hm : m < p.n) : clrP p (m + 1) = { clrP p m with F := upd (clrP p m).F m nil } := by
  have h1 : (fun j => if j < m + 1 ∧ j < p.n then nil else p.F j) = upd (fun j => if j < m ∧ j < p.n then nil else p.F j) m nil := by
    funext j
    show _ = if j = m then nil else (if j < m ∧ j < p.n then nil else p.F j)
    by_cases e : j = m
    · subst e; rw [if_pos ⟨by omega, hm⟩, if_pos rfl]
    · rw [if_neg e]
      by_cases q : j < m ∧ j < p.n
      · rw [if_pos q, if_pos ⟨by omega, q.2⟩]
      · rw [if_neg q, if_neg (by omega)]
  have h2 : (fun j => if p.n + j < m + 1 then nil else p.g.X j) = fun j => if p.n + j < m then nil else p.g.X j := by
    funext j; rw [if_neg (by omega), if_neg (by omega)]
  show ({ p with F := fun j => if j < m + 1 ∧ j < p.n then nil else p.F j, g := { p.g with X := fun j => if p.n + j < m + 1 then nil else p.g.X j } } : Pa) = { p with F := upd (fun j => if j < m ∧ j < p.n then nil else p.F j) m nil, g := { p.g with X := fun j => if p.n + j < m then nil else p.g.X j } }
  rw [h1, h2]
theorem clr_H {p : Pa} {i : Nat} : clrP p (p.n + i + 1) = { clrP p (p.n + i) with g := setX (clrP p (p.n + i)).g i nil } := by
  have h1 : (fun j => if j < p.n + i + 1 ∧ j < p.n then nil else p.F j) = fun j => if j < p.n + i ∧ j < p.n then nil else p.F j := by
    funext j
    by_cases q : j < p.n
    · rw [if_pos ⟨by omega, q⟩, if_pos ⟨by omega, q⟩]
    · rw [if_neg (by omega), if_neg (by omega)]
  have h2 : (fun j => if p.n + j < p.n + i + 1 then nil else p.g.X j) = upd (fun j => if p.n + j < p.n + i then nil else p.g.X j) i nil := by
    funext j
    show _ = if j = i then nil else (if p.n + j < p.n + i then nil else p.g.X j)
    by_cases e : j = i
    · subst e; rw [if_pos (by omega), if_pos rfl]
    · rw [if_neg e]
      by_cases q : p.n + j < p.n + i
      · rw [if_pos q, if_pos (by omega)]
      · rw [if_neg q, if_neg (by omega)]
  show ({ p with F := fun j => if j < p.n + i + 1 ∧ j < p.n then nil else p.F j, g := { p.g with X := fun j => if p.n + j < p.n + i + 1 then nil else p.g.X j } } : Pa) = { p with F := fun j => if j < p.n + i ∧ j < p.n then nil else p.F j, g := { p.g with X := upd (fun j => if p.n + j < p.n + i then nil else p.g.X j) i nil } }
  rw [h1, h2]
/-- What is there is cleared. -/
theorem clr_set {p : Pa} (h : TI p) {m : Nat} (hm : m < p.n + p.z) (hv : (pairX p m).1 ≠ 0) (t : TS) (s : H.St) (ht : t.p = clrP p m) :
    Rng (pairK p m) ∧ ∃ r, tset t s (pairK p m) nil = ({ t with p := clrP p (m + 1), pr := r }, s, 0) := by
  unfold pairX at hv
  unfold pairK
  by_cases hq : m < p.n
  · rw [if_pos hq] at hv ⊢
    have hle := h.le
    have hr : Rng (kn ((m : Int) + 1)) := by constructor <;> simp <;> omega
    refine ⟨hr, ?_⟩
    have hA : inA t.p.n (kn ((m : Int) + 1)) := by rw [ht]; exact ⟨rfl, rfl, by show 1 ≤ (m : Int) + 1; omega, by show (m : Int) + 1 ≤ (p.n : Int); omega⟩
    have hix : ix (kn ((m : Int) + 1)) = m := by show ((m : Int) + 1).toNat - 1 = m; omega
    have hp : pset t.p (kn ((m : Int) + 1)) nil = (clrP p (m + 1), 0, 0) := by
      unfold pset
      rw [if_pos hA, hix, clr_A hq, ht]
    have hf : fm (kn ((m : Int) + 1)) = true := by unfold fm inF; simp [ByteArray.toList_eq]
    refine ⟨t.pr + (0 : Nat), ?_⟩
    unfold tset one
    rw [if_neg (fun q => q ⟨hf, fm_nil⟩), if_neg (show ¬ (kn ((m : Int) + 1)).1 = 0 from (by show ¬ (2 : Int) = 0; omega)), hp, if_pos (fun e : (0 : Int) = 12 => absurd e (by decide))]
  · rw [if_neg hq] at hv ⊢
    obtain ⟨i, rfl⟩ : ∃ i, m = p.n + i := ⟨m - p.n, by omega⟩
    rw [show p.n + i - p.n = i by omega] at hv ⊢
    have hi : i < p.z := by omega
    have hK : p.g.K i ≠ nil := fun e => hv (by rw [h.inv.val i hi e]; rfl)
    have hk : KOK (p.g.K i) := (h.inv.key i hi).resolve_left hK
    have hz0 : p.z ≠ 0 := by omega
    have hpw := h.rt.resolve_left hz0
    obtain ⟨pq, _, _, _, hfind⟩ := h.inv.find_held (fun k _ => pl_lt hpw k) hi hK
    have hA : ¬ inA t.p.n (p.g.K i) := by rw [ht]; exact h.out i hi
    have hput : ∃ n', put p.z (clrP p (p.n + i)).g (p.g.K i) nil = (setX (clrP p (p.n + i)).g i nil, n', 0) := by
      refine ⟨pq.length + 1, ?_⟩
      unfold put
      rw [if_pos ⟨hk.1, fm_nil⟩, if_neg hk.2.1, if_neg hz0]
      have e : find (pl p.z) (clrP p (p.n + i)).g (p.g.K i) = find (pl p.z) p.g (p.g.K i) := rfl
      rw [e, hfind]
    obtain ⟨n', hput⟩ := hput
    have hp : pset t.p (p.g.K i) nil = (clrP p (p.n + i + 1), n', 0) := by
      unfold pset
      rw [if_neg hA, ht]
      show ({ clrP p (p.n + i) with g := (put p.z (clrP p (p.n + i)).g (p.g.K i) nil).1 }, (put p.z (clrP p (p.n + i)).g (p.g.K i) nil).2.1, (put p.z (clrP p (p.n + i)).g (p.g.K i) nil).2.2) = _
      rw [hput, clr_H]
    refine ⟨hk.2.2, t.pr + n', ?_⟩
    unfold tset one
    rw [if_neg (fun q => q ⟨hk.1, fm_nil⟩), if_neg hk.2.1, hp, if_pos (fun e : (0 : Int) = 12 => absurd e (by decide))]
theorem clr_pres (p : Pa) : pres (clrP p (p.n + p.z)) = [] := by
  have h1 : ∀ m, m ≤ p.n → kA (clrP p (p.n + p.z)).F m = [] := fun m => by
    induction m with
    | zero => intro _; rfl
    | succ m ih =>
      intro hm
      rw [kA, ih (by omega)]
      show [] ++ (if (if m < p.n + p.z ∧ m < p.n then nil else p.F m).1 = 0 then [] else _) = []
      rw [if_pos (show m < p.n + p.z ∧ m < p.n from ⟨by omega, by omega⟩), if_pos (show (nil : V).1 = 0 from rfl)]; rfl
  have h2 : ∀ m, m ≤ p.z → kH (clrP p (p.n + p.z)).g m = [] := fun m => by
    induction m with
    | zero => intro _; rfl
    | succ m ih =>
      intro hm
      rw [kH, ih (by omega)]
      show [] ++ (if (if p.n + m < p.n + p.z then nil else p.g.X m).1 = 0 then [] else _) = []
      rw [if_pos (show p.n + m < p.n + p.z by omega), if_pos (show (nil : V).1 = 0 from rfl)]; rfl
  unfold pres
  rw [show (clrP p (p.n + p.z)).n = p.n from rfl, show (clrP p (p.n + p.z)).z = p.z from rfl, h1 _ (Nat.le_refl _), h2 _ (Nat.le_refl _)]
  rfl

/-- A list without repeats is no longer than one that holds all of it. -/
theorem nd_len {α : Type} : ∀ {l l' : List α}, l.Nodup → (∀ x, x ∈ l → x ∈ l') → l.length ≤ l'.length
  | [], _, _, _ => Nat.zero_le _
  | a :: l, l', hn, hs => by
    obtain ⟨s, t, rfl⟩ := List.append_of_mem (hs a (by simp))
    have h := nd_len (l := l) (l' := s ++ t) (List.nodup_cons.1 hn).2 (fun x hx => by
      have := hs x (by simp [hx])
      have hne : x ≠ a := fun e => (List.nodup_cons.1 hn).1 (e ▸ hx)
      simp only [List.mem_append, List.mem_cons] at this ⊢
      rcases this with q | q | q
      · exact .inl q
      · exact absurd q hne
      · exact .inr q)
    simp only [List.length_append, List.length_cons] at h ⊢
    omega
theorem Fits.bound {l : List V} {A Z : Nat} (h : Fits l A Z) (hl : l.length ≤ 65536) : A ≤ 2 * l.length ∧ Z ≤ 2 * l.length := by
  have hi := ints_len l
  have hw : C.wi (ints l) A ≤ (ints l).length := by
    unfold C.wi
    have := List.countP_le_length (p := fun x => decide (1 ≤ x ∧ x ≤ (A : Int))) (l := ints l)
    omega
  have ho : outK A l ≤ l.length := List.countP_le_length
  constructor
  · by_cases h0 : A = 0
    · omega
    · have := h.dense.half (by omega); omega
  · have hu := h.up
    rcases C.up2_facts (outK A l : Nat) (by omega) (by omega) with ⟨q1, q2⟩ | ⟨q1, q2, q3, _⟩
    · rw [q2] at hu; omega
    · omega
theorem rs_ok {p : Pa} {k : V} (h : ∀ k', k' ∈ pres p ++ [k] → KOK k') (hn : (pres p ++ [k]).Nodup) (hl : (pres p ++ [k]).length ≤ 7000) : rsE p k = 0 ∧ rsA p k ≤ 14000 ∧ rsZ p k ≤ 14000 := by
  rcases cens h hn with q | ⟨q1, q2, _⟩
  · exfalso
    have hi := ints_len (pres p ++ [k])
    have hd := (C.dense_of (ints (pres p ++ [k])) (ints_fit h)).n
    unfold rsE at q
    have hw : 0 ≤ C.chN (C.cntL (ints (pres p ++ [k]))) 17 := by rw [← hd]; unfold C.wi; omega
    rcases C.szE_cases (ints (pres p ++ [k])) (oth (pres p ++ [k]) : Nat) with ⟨e, _⟩ | e
    · rw [e] at q; cases q
    · unfold C.szE C.rest at q
      split at q
      · cases q
      · split at q
        · cases q
        · split at q
          · rename_i h1; omega
          · cases q
  · have := q2.bound (by omega)
    exact ⟨q1, by omega, by omega⟩
/-- A rehash that is due has no error but the heap's. -/
theorem due_zero {t : TS} {s : H.St} {k v : V} (h : TI t.p) (hr : Rng k) (hd : Due t.p k v) (hR : (reh (one t k v) s k).2.2 = 0) : (tset t s k v).2.2 = 0 := by
  obtain ⟨d4, d5, hk0, he⟩ := (due_iff h hr).1 hd
  have hk : KOK k := ⟨d4, hk0, hr.1, hr.2⟩
  have e : (tset t s k v).2.2 = (pset (reh (one t k v) s k).1.p k v).2.2 := by
    unfold tset
    rw [if_neg (fun q => q ⟨d4, d5⟩), if_neg hk0, if_neg (fun q => q he), if_neg (fun q => q hR)]
  rw [e]
  obtain ⟨hA, hv, hv0, hnew, _, _, _, ha⟩ := h.full hk he
  have h1 : TI (one t k v).p := h.set hr hv
  have hA1 : ¬ inA (one t k v).p.n k := by show ¬ inA (pset t.p k v).1.n k; rw [(pset_nz t.p k v).1]; exact hA
  have ep : pset t.p k v = ({ t.p with g := (put t.p.z t.p.g k v).1 }, (put t.p.z t.p.g k v).2.1, (put t.p.z t.p.g k v).2.2) := by unfold pset; rw [if_neg hA]
  have hnew1 : ∀ i, i < (one t k v).p.z → (one t k v).p.g.K i ≠ k := fun i hi e => by
    have hi2 : i < t.p.z := by rw [← (pset_nz t.p k v).2]; exact hi
    have he' : (put t.p.z t.p.g k v).2.2 = 12 := by rw [ep] at he; exact he
    have e2 := (put_12 h.inv h.rt hk he').2.2.2.2.1
    have e3 : (pset t.p k v).1.g.K i = k := e
    rw [ep] at e3
    have e4 : (put t.p.z t.p.g k v).1.K i = k := e3
    rw [e2] at e4
    exact hnew i hi2 e4
  have e0 : rsE (one t k v).p k = 0 := by
    unfold reh at hR
    by_cases q : rsE (one t k v).p k = 0
    · exact q
    · rw [if_pos q] at hR; exact absurd hR q
  have e1 : (reh (one t k v) s k).1.p = fill (one t k v).p (fresh (rsA (one t k v).p k) (rsZ (one t k v).p k)) := by
    unfold reh at hR ⊢
    rw [if_neg (fun q => q e0)] at hR ⊢
    by_cases q : tpE s (rsA (one t k v).p k) (rsZ (one t k v).p k) = 0
    · rw [if_neg (fun x => x q)]
    · rw [if_pos q] at hR; exact absurd hR q
  rw [e1]
  exact (h1.behind hk hv hv0 hA1 hnew1 ha e0).2.2.2.2.2
theorem take0 {s : H.St} {n : Int} (h0 : 0 ≤ n) (h1 : n ≤ s.lim - s.live) : H.takeE s n = 0 := by
  unfold H.takeE; rw [if_neg (by omega), if_neg (by omega)]
/-- A small table on a great heap: a rehash that is due has no error. -/
theorem due_ok {t : TS} {s : H.St} {k v : V} (h : TI t.p) (hr : Rng k) (hd : Due t.p k v) (tb : TB t s 4) (iv : H.Inv 0 s) (hl : s.lim = 400000) (hn : t.p.n ≤ 2048) (hz : t.p.z ≤ 4096) : (tset t s k v).2.2 = 0 := by
  obtain ⟨d4, d5, hk0, he⟩ := (due_iff h hr).1 hd
  have hk : KOK k := ⟨d4, hk0, hr.1, hr.2⟩
  obtain ⟨_, _, _, _, _, _, hpp, ha⟩ := h.full hk he
  refine due_zero h hr hd ?_
  have hlen : (pres (one t k v).p ++ [k]).length ≤ 7000 := by
    have h1 := kA_len t.p.F t.p.n
    have h2 := kH_len t.p.g t.p.z
    have e : pres (one t k v).p = pres t.p := hpp
    rw [e, List.length_append]
    unfold pres
    rw [List.length_append]
    simp only [List.length_singleton]
    omega
  obtain ⟨r1, r2, r3⟩ := rs_ok (p := (one t k v).p) ha.ok ha.nd hlen
  have hlv := tb.live
  have t1 : H.takeE s (rsA (one t k v).p k : Nat) = 0 := take0 (by omega) (by omega)
  obtain ⟨_, a2, a3, _⟩ := blk_take iv t1
  have t2 : H.takeE (H.takeSt s (rsA (one t k v).p k : Nat)) (3 * (rsZ (one t k v).p k : Nat)) = 0 := take0 (by omega) (by omega)
  have t3 : tpE s (rsA (one t k v).p k : Nat) (rsZ (one t k v).p k : Nat) = 0 := by unfold tpE; rw [if_neg (fun q => q t1)]; exact t2
  unfold reh
  rw [if_neg (fun q => q r1), if_neg (fun q => q t3)]
/-- Where a node is free a Set has no error. -/
theorem set_room {t : TS} {s : H.St} {k v : V} (h : TI t.p) (hr : Rng k) (hk : fm k = true) (hv : fm v = true) (hk0 : k.1 ≠ 0) (hno : ¬ ∀ i, i < t.p.z → t.p.g.K i ≠ nil) : tset t s k v = (one t k v, s, 0) := by
  have hkk : KOK k := ⟨hk, hk0, hr.1, hr.2⟩
  have h12 : (pset t.p k v).2.2 ≠ 12 := fun e => hno (h.full hkk e).2.2.2.2.1
  have h0 : (pset t.p k v).2.2 = 0 := by
    unfold pset at h12 ⊢
    by_cases hA : inA t.p.n k
    · rw [if_pos hA]
    · rw [if_neg hA] at h12 ⊢
      show (put t.p.z t.p.g k v).2.2 = 0
      have h12' : (put t.p.z t.p.g k v).2.2 ≠ 12 := h12
      unfold put at h12' ⊢
      rw [if_pos ⟨hk, hv⟩, if_neg hk0] at h12' ⊢
      by_cases hz0 : t.p.z = 0
      · rw [if_pos hz0] at h12' ⊢
        by_cases hv0 : v.1 = 0
        · show (if v.1 = 0 then (0 : Int) else 12) = 0; rw [if_pos hv0]
        · exact absurd (by show (if v.1 = 0 then (0 : Int) else 12) = 12; rw [if_neg hv0]) h12'
      · rw [if_neg hz0] at h12' ⊢
        cases hf : find (pl t.p.z) t.p.g k with
        | mk o n =>
          rw [hf] at h12'
          cases o with
          | some i => rfl
          | none =>
            simp only at h12' ⊢
            by_cases hv0 : v.1 = 0
            · rw [if_pos hv0]
            · rw [if_neg hv0] at h12' ⊢
              have h12'' : full (ins (pl t.p.z) t.p.g k v).2 ≠ 12 := h12'
              show full (ins (pl t.p.z) t.p.g k v).2 = 0
              cases hb : (ins (pl t.p.z) t.p.g k v).2 with
              | true => rfl
              | false => rw [hb] at h12''; exact absurd rfl h12''
  unfold tset
  rw [if_neg (fun q => q ⟨hk, hv⟩), if_neg hk0, if_pos h12, h0]
/-- A table stays small: at most k keys are present. -/
structure Sm (t : TS) (k : Nat) : Prop where
  n : t.p.n ≤ 2048
  z : t.p.z ≤ 4096
  pr : (pres t.p).length ≤ k
theorem Sm.set {t : TS} {s : H.St} {m : Nat} {k v : V} (h : Sm t m) (hm : m ≤ 500) (ti : TI t.p) (hr : Rng k) (ti' : TI (tset t s k v).1.p) : Sm (tset t s k v).1 (m + 1) := by
  have hp : (pres (tset t s k v).1.p).length ≤ m + 1 := by
    have h1 : (pres (tset t s k v).1.p).length ≤ (k :: pres t.p).length := nd_len ti'.pres_nd (fun k' hk' => by
      obtain ⟨q1, q2⟩ := ti'.mem_pres.1 hk'
      by_cases e : k' = k
      · simp [e]
      · refine List.mem_cons_of_mem _ (ti.mem_pres.2 ⟨q1, ?_⟩)
        obtain ⟨m1, m2⟩ := tset_map (s := s) (k := k) (v := v) ti hr
        by_cases q : (tset t s k v).2.2 = 0
        · rw [(m1 q).2.2.2 k' q1 e] at q2; exact q2
        · rw [m2 q k'] at q2; exact q2)
    have := h.pr
    simp only [List.length_cons] at h1
    omega
  by_cases hd : Due t.p k v ∧ (tset t s k v).2.2 = 0
  · have hf := (set_due ti hr hd.1 hd.2 ti').1
    have := hf.bound (by omega)
    exact ⟨by omega, by omega, hp⟩
  · obtain ⟨e1, e2⟩ := set_same (s := s) ti hr hd
    exact ⟨by rw [e1]; exact h.n, by rw [e2]; exact h.z, hp⟩
end Go.Proofs.YtcaaaoehipcloaaGreat

/- The sorter's table: its places may be read and set; a small table on a heap of 3000 cells: a Set has no error. -/
namespace Go.Proofs.YtcaaaoehipcloaaGreat
open Go.RowKit

theorem put_e {z : Nat} {g : G} {k v : V} (hk : fm k = true) (hv : fm v = true) (hk0 : k.1 ≠ 0) : (put z g k v).2.2 = 0 ∨ (put z g k v).2.2 = 12 := by
  rw [put, if_pos ⟨hk, hv⟩, if_neg hk0]
  split
  · first | (right; rfl) | (split <;> first | (left; rfl) | (right; rfl))
  · split
    · left; rfl
    · split
      · left; rfl
      · rename_i x _ _ _ _
        show full _ = 0 ∨ full _ = 12
        unfold full
        split
        · left; rfl
        · right; rfl
/-- Where no rehash is due, a Set is a store. -/
theorem set_one {t : TS} {s : H.St} {k v : V} (hk : fm k = true) (hv : fm v = true) (hk0 : k.1 ≠ 0) (he : (pset t.p k v).2.2 ≠ 12) : tset t s k v = (one t k v, s, 0) := by
  unfold tset
  rw [if_neg (fun q => q ⟨hk, hv⟩), if_neg hk0, if_pos he]
  have e0 : (pset t.p k v).2.2 = 0 := by
    unfold pset at he ⊢
    by_cases hA : inA t.p.n k
    · rw [if_pos hA]
    · rw [if_neg hA] at he ⊢
      exact (put_e hk hv hk0).resolve_right he
  rw [e0]
/-- A key that is there gets another value without a rehash. -/
theorem set_held {t : TS} {s : H.St} {k v : V} (h : TI t.p) (hk : KOK k) (hv : fm v = true) (hp : (pget t.p k).1 ≠ 0) : tset t s k v = (one t k v, s, 0) :=
  set_one hk.1 hv hk.2.1 (fun e => hp (by rw [(h.full hk e).2.2.2.2.2.1]; rfl))
/-- A small table. -/
structure S3 (t : TS) (k : Nat) : Prop where
  n : t.p.n ≤ 130
  z : t.p.z ≤ 130
  pr : (pres t.p).length ≤ k
theorem rs_small {p : Pa} {k : V} (h : ∀ k', k' ∈ pres p ++ [k] → KOK k') (hn : (pres p ++ [k]).Nodup) (hl : (pres p ++ [k]).length ≤ 65) : rsE p k = 0 ∧ rsA p k ≤ 130 ∧ rsZ p k ≤ 130 := by
  have h0 := (rs_ok h hn (by omega)).1
  rcases cens h hn with q | ⟨q1, q2, _⟩
  · rw [q] at h0; cases h0
  · have := q2.bound (by omega)
    exact ⟨q1, by omega, by omega⟩
theorem set_zero3 {t : TS} {s : H.St} {k v : V} {m : Nat} (h : TI t.p) (hr : Rng k) (hk : fm k = true) (hv : fm v = true) (hk0 : k.1 ≠ 0) (tb : TB t s 4) (iv : H.Inv 0 s) (hl : s.lim = 3000) (sm : S3 t m) (hm : m ≤ 64) : (tset t s k v).2.2 = 0 := by
  by_cases he : (pset t.p k v).2.2 = 12
  · have hk' : KOK k := ⟨hk, hk0, hr.1, hr.2⟩
    have hd := (due_iff h hr).2 ⟨hk, hv, hk0, he⟩
    obtain ⟨_, _, _, _, _, _, hpp, ha⟩ := h.full hk' he
    refine due_zero h hr hd ?_
    have hlen : (pres (one t k v).p ++ [k]).length ≤ 65 := by
      have e : pres (one t k v).p = pres t.p := hpp
      have := sm.pr
      rw [e, List.length_append]
      simp only [List.length_singleton]
      omega
    obtain ⟨r1, r2, r3⟩ := rs_small (p := (one t k v).p) ha.ok ha.nd hlen
    have hlv := tb.live
    have hn := sm.n
    have hz := sm.z
    have t1 : H.takeE s (rsA (one t k v).p k : Nat) = 0 := take0 (by omega) (by omega)
    obtain ⟨_, a2, a3, _⟩ := blk_take iv t1
    have t2 : H.takeE (H.takeSt s (rsA (one t k v).p k : Nat)) (3 * (rsZ (one t k v).p k : Nat)) = 0 := take0 (by omega) (by omega)
    have t3 : tpE s (rsA (one t k v).p k : Nat) (rsZ (one t k v).p k : Nat) = 0 := by unfold tpE; rw [if_neg (fun q => q t1)]; exact t2
    unfold reh
    rw [if_neg (fun q => q r1), if_neg (fun q => q t3)]
  · rw [set_one hk hv hk0 he]
theorem S3.set {t : TS} {s : H.St} {m : Nat} {k v : V} (h : S3 t m) (hm : m ≤ 64) (ti : TI t.p) (hr : Rng k) (ti' : TI (tset t s k v).1.p) : S3 (tset t s k v).1 (m + 1) := by
  have hp : (pres (tset t s k v).1.p).length ≤ m + 1 := by
    have h1 : (pres (tset t s k v).1.p).length ≤ (k :: pres t.p).length := nd_len ti'.pres_nd (fun k' hk' => by
      obtain ⟨q1, q2⟩ := ti'.mem_pres.1 hk'
      by_cases e : k' = k
      · simp [e]
      · refine List.mem_cons_of_mem _ (ti.mem_pres.2 ⟨q1, ?_⟩)
        obtain ⟨m1, m2⟩ := tset_map (s := s) (k := k) (v := v) ti hr
        by_cases q : (tset t s k v).2.2 = 0
        · rw [(m1 q).2.2.2 k' q1 e] at q2; exact q2
        · rw [m2 q k'] at q2; exact q2)
    have := h.pr
    simp only [List.length_cons] at h1
    omega
  by_cases hd : Due t.p k v ∧ (tset t s k v).2.2 = 0
  · have hf := (set_due ti hr hd.1 hd.2 ti').1
    have := hf.bound (by omega)
    exact ⟨by omega, by omega, hp⟩
  · obtain ⟨e1, e2⟩ := set_same (s := s) ti hr hd
    exact ⟨by rw [e1]; exact h.n, by rw [e2]; exact h.z, hp⟩
/-- A value that may stand in a row. -/
def Gv (v : V) : Prop := fm v = true ∧ v.1 ≠ 0
/-- The places 1 to n hold f. -/
def Mt (n : Nat) (t : TS) (_s : H.St) (f : Int → V) : Prop := TI t.p ∧ ∀ k, 1 ≤ k → k ≤ (n : Int) → pget t.p (kn k) = f k ∧ Gv (f k)
theorem KOK_pos {i : Int} (h0 : 1 ≤ i) (h1 : i ≤ (9223372036854775807 : Int)) : KOK (kn i) := ⟨fm_kn i, by simp, by simp; omega, by simp; omega⟩
theorem hd_mt {n : Nat} (hn : n ≤ 65536) : U.Hd n Gv (Mt n) where
  gd := fun _ _ _ k h h1 h2 => (h.2 k h1 h2).2
  rd := fun _ _ _ k h h1 h2 => (h.2 k h1 h2).1
  pr := fun _ _ _ _ h => h
  st := fun t s f k v h h1 h2 hv => by
    have hk : KOK (kn k) := KOK_pos h1 (by omega)
    have e := set_held (s := s) (v := v) h.1 hk hv.1 (by rw [(h.2 k h1 h2).1]; exact (h.2 k h1 h2).2.2)
    have e0 : (tset t s (kn k) v).2.2 = 0 := by rw [e]
    have hr : Rng (kn k) := ⟨by show -9223372036854775808 ≤ k; omega, by show k ≤ 9223372036854775807; omega⟩
    have hm := (tset_map (s := s) (v := v) h.1 hr).1 e0
    refine ⟨e0, ?_, fun j j1 j2 => ?_⟩
    · rw [e]; exact h.1.set hr hv.1
    · unfold U.sw1
      by_cases q : j = k
      · subst q
        rw [if_pos rfl]
        exact ⟨hm.2.2.1, hv⟩
      · rw [if_neg q, hm.2.2.2 (kn j) (KOK_pos j1 (by omega)) (fun z => q (by
          have : (kn j).2.1 = (kn k).2.1 := by rw [z]
          exact this))]
        exact h.2 j j1 j2
end Go.Proofs.YtcaaaoehipcloaaGreat
