/- The sorter's order (no program in it): answered by an order, what isn't within one row is in order. -/
import Derived.Test.YtcaaaoehipcloaaGreatCg29
import Derived.Test.YtcaaaoehipcloaaGreatCg19
import Derived.Test.YtcaaaoehipcloaaGreatCg22
import Derived.BigRegion
import Derived.Deep.DeepCutAuto
namespace Go.Proofs.YtcaaaoehipcloaaGreat
namespace U

/-- An order of the values, told by 'is it less'. -/
structure Od (Gd : V → Prop) (lt : V → V → Bool) : Prop where
  irr : ∀ a, Gd a → lt a a = false
  tr : ∀ a b c, Gd a → Gd b → Gd c → lt b a = false → lt c b = false → lt c a = false
  asy : ∀ a b, Gd a → Gd b → lt a b = true → lt b a = false
/-- All that isn't within one of the rows is in order. -/
def Blk (n : Nat) (lt : V → V → Bool) (l : List (Int × Int)) (f : Int → V) : Prop := ∀ a b : Int, 1 ≤ a → a < b → b ≤ (n : Int) → (∃ r ∈ l, r.1 ≤ a ∧ b ≤ r.2) ∨ lt (f b) (f a) = false
/-- Two rows have no place in common. -/
def Apt (r q : Int × Int) : Prop := r.2 < q.1 ∨ q.2 < r.1
theorem Blk.same {n : Nat} {lt : V → V → Bool} {l : List (Int × Int)} {f g : Int → V} (h : Blk n lt l f) (e : ∀ k, 1 ≤ k → k ≤ (n : Int) → f k = g k) : Blk n lt l g := fun a b h1 h2 h3 => by
  rw [← e a h1 (by omega), ← e b (by omega) h3]
  exact h a b h1 h2 h3
theorem Blk.short {n : Nat} {lt : V → V → Bool} {r : Int × Int} {l : List (Int × Int)} {f : Int → V} (h : Blk n lt (r :: l) f) (hr : ¬ r.1 < r.2) : Blk n lt l f := fun a b h1 h2 h3 => by
  rcases h a b h1 h2 h3 with ⟨q, hq, q1, q2⟩ | q
  · rcases List.mem_cons.1 hq with e | e
    · subst e; omega
    · exact .inl ⟨q, e, q1, q2⟩
  · exact .inr q
theorem Blk.exch {n : Nat} {lt : V → V → Bool} {lo up : Int} {l : List (Int × Int)} {f : Int → V} (h : Blk n lt ((lo, up) :: l) f) (h1 : 1 ≤ lo) (h2 : up ≤ (n : Int)) (ha : ∀ r ∈ l, Apt (lo, up) r) {a b : Int} (a1 : lo ≤ a) (a2 : a ≤ up) (b1 : lo ≤ b) (b2 : b ≤ up) : Blk n lt ((lo, up) :: l) (swp f a b) := fun u v u1 uv v1 => by
  have hs : ∀ k, ∃ k', swp f a b k = f k' ∧ ((lo ≤ k ∧ k ≤ up → lo ≤ k' ∧ k' ≤ up) ∧ (¬ (lo ≤ k ∧ k ≤ up) → k' = k)) := fun k => by
    rw [swp_at]
    by_cases q : k = b
    · rw [if_pos q]; exact ⟨a, rfl, fun _ => ⟨a1, a2⟩, fun q2 => absurd (q ▸ ⟨b1, b2⟩) q2⟩
    · rw [if_neg q]
      by_cases q' : k = a
      · rw [if_pos q']; exact ⟨b, rfl, fun _ => ⟨b1, b2⟩, fun q2 => absurd (q' ▸ ⟨a1, a2⟩) q2⟩
      · rw [if_neg q']; exact ⟨k, rfl, fun q => q, fun _ => rfl⟩
  by_cases hin : lo ≤ u ∧ v ≤ up
  · exact .inl ⟨_, List.mem_cons_self .., hin⟩
  · obtain ⟨u', eu, hu1, hu2⟩ := hs u
    obtain ⟨v', ev, hv1, hv2⟩ := hs v
    rw [eu, ev]
    have key : 1 ≤ u' ∧ u' < v' ∧ v' ≤ (n : Int) ∧ ∀ r ∈ ((lo, up) :: l), r.1 ≤ u' → v' ≤ r.2 → r ∈ l ∧ r.1 ≤ u ∧ v ≤ r.2 := by
      by_cases cu : lo ≤ u ∧ u ≤ up
      · have := hu1 cu
        have cv : ¬ (lo ≤ v ∧ v ≤ up) := by omega
        have ev' := hv2 cv
        refine ⟨by omega, by omega, by omega, fun r hr q1 q2 => ?_⟩
        rcases List.mem_cons.1 hr with e | e
        · subst e; simp only at q1 q2; omega
        · have ap := ha r e
          unfold Apt at ap
          simp only at ap
          exfalso; omega
      · have eu' := hu2 cu
        by_cases cv : lo ≤ v ∧ v ≤ up
        · have := hv1 cv
          refine ⟨by omega, by omega, by omega, fun r hr q1 q2 => ?_⟩
          rcases List.mem_cons.1 hr with e | e
          · subst e; simp only at q1 q2; omega
          · have ap := ha r e
            unfold Apt at ap
            simp only at ap
            exfalso; omega
        · have ev' := hv2 cv
          refine ⟨by omega, by omega, by omega, fun r hr q1 q2 => ?_⟩
          rcases List.mem_cons.1 hr with e | e
          · subst e; simp only at q1 q2; omega
          · exact ⟨e, by omega, by omega⟩
    obtain ⟨k1, k2, k3, k4⟩ := key
    rcases h u' v' k1 k2 k3 with ⟨r, hr, q1, q2⟩ | q
    · obtain ⟨z1, z2⟩ := k4 r hr q1 q2
      exact .inl ⟨r, List.mem_cons_of_mem _ z1, z2⟩
    · exact .inr q
/-- A row that is in order needs no look any more. -/
theorem Blk.done {n : Nat} {lt : V → V → Bool} {r r' : Int × Int} {l : List (Int × Int)} {f : Int → V} (h : Blk n lt (r :: l) f) (hr : ∀ a b : Int, r.1 ≤ a → a < b → b ≤ r.2 → lt (f b) (f a) = false) : Blk n lt (r' :: l) f := fun a b h1 h2 h3 => by
  rcases h a b h1 h2 h3 with ⟨q, hq, q1, q2⟩ | q
  · rcases List.mem_cons.1 hq with e | e
    · subst e; exact .inr (hr a b q1 h2 q2)
    · exact .inl ⟨q, List.mem_cons_of_mem _ e, q1, q2⟩
  · exact .inr q
/-- The question behind which a state waits. -/
def qs (s : SS) : V × V := if s.ak = 1 then (s.y, s.x) else if s.ak = 2 then (s.x, s.y) else if s.ak = 3 then (s.y, s.x) else if s.ak = 4 then (s.x, s.pv) else (s.pv, s.y)
/-- What is known of the order in a state. -/
structure OI (n : Nat) (lt : V → V → Bool) (s : SS) (f : Int → V) : Prop where
  blk : Blk n lt ((s.lo, s.up) :: s.wt) f
  ap : ∀ r ∈ s.wt, Apt (s.lo, s.up) r
  aw : s.wt.Pairwise Apt
  s2 : s.ak = 2 → lt (f s.up) (f s.lo) = false
  s3 : s.ak = 3 → lt (f s.up) (f s.lo) = false ∧ lt (f s.p) (f s.lo) = false
  s4 : s.ak = 4 → (∀ k, s.lo ≤ k → k < s.i → lt (f (s.up - 1)) (f k) = false) ∧ (∀ k, s.j ≤ k → k ≤ s.up → lt (f k) (f (s.up - 1)) = false)
  s5 : s.ak = 5 → (∀ k, s.lo ≤ k → k < s.i → lt (f (s.up - 1)) (f k) = false) ∧ lt (f s.i) (f (s.up - 1)) = false ∧ (∀ k, s.j < k → k ≤ s.up → lt (f k) (f (s.up - 1)) = false)
/-- What a step comes to where an order answers. -/
def Bo (n : Nat) (lt : V → V → Bool) (M : TS → H.St → (Int → V) → Prop) (r : SD × Tol) : Prop :=
  ∃ g, M r.1.2.1 r.1.2.2 g ∧ ((r.2.2.2.1 = true ∧ OI n lt r.1.1 g) ∨ (r.1.1 = endS 0 ∧ r.2 = endT 0 ∧ ∀ a b : Int, 1 ≤ a → a < b → b ≤ (n : Int) → lt (g b) (g a) = false))
section
variable {n : Nat} {Gd : V → Prop} {lt : V → V → Bool} {M : TS → H.St → (Int → V) → Prop}
theorem pop_ord : ∀ (l : List (Int × Int)) (lo up : Int) (f : Int → V), Blk n lt ((lo, up) :: l) f → (lo < up → ∀ r ∈ l, Apt (lo, up) r) → l.Pairwise Apt →
    (pop lo up l = none → Blk n lt [] f) ∧ ∀ q, pop lo up l = some q → Blk n lt (q.1 :: q.2) f ∧ (∀ r ∈ q.2, Apt q.1 r) ∧ q.2.Pairwise Apt
  | [], lo, up, f, hb, _, _ => by
    unfold pop
    by_cases c : lo < up
    · rw [if_pos c]
      refine ⟨fun q => (by cases q), fun q e => ?_⟩
      obtain rfl := Option.some.inj e
      exact ⟨hb, fun r hr => (by cases hr), List.Pairwise.nil⟩
    · rw [if_neg c]
      exact ⟨fun _ => hb.short c, fun q e => (by cases e)⟩
  | r :: l, lo, up, f, hb, ha, hw => by
    unfold pop
    by_cases c : lo < up
    · rw [if_pos c]
      refine ⟨fun q => (by cases q), fun q e => ?_⟩
      obtain rfl := Option.some.inj e
      exact ⟨hb, ha c, hw⟩
    · rw [if_neg c]
      obtain ⟨w1, w2⟩ := List.pairwise_cons.1 hw
      exact pop_ord l r.1 r.2 f (hb.short c) (fun _ => w1) w2
theorem nrow_ord (hd : Hd n Gd M) {d : SD} {f : Int → V} (h : M d.2.1 d.2.2 f) (h0 : RO n (d.1.lo, d.1.up)) (hw : ∀ r ∈ d.1.wt, RO n r) (hb : Blk n lt ((d.1.lo, d.1.up) :: d.1.wt) f) (ha : d.1.lo < d.1.up → ∀ r ∈ d.1.wt, Apt (d.1.lo, d.1.up) r) (hp : d.1.wt.Pairwise Apt) : Bo n lt M (nrow d) := by
  obtain ⟨o1, o2⟩ := pop_ord _ _ _ f hb ha hp
  unfold nrow
  cases he : pop d.1.lo d.1.up d.1.wt with
  | none =>
    refine ⟨f, h, .inr ⟨rfl, rfl, fun a b q1 q2 q3 => ?_⟩⟩
    rcases o1 he a b q1 q2 q3 with ⟨r, hr, _⟩ | q
    · cases hr
    · exact q
  | some q =>
    obtain ⟨r, l⟩ := q
    obtain ⟨a1, a2, a3, a4, a5⟩ := pop_ok n _ _ _ h0 hw _ he
    obtain ⟨b1, b2, b3⟩ := o2 _ he
    simp only at a1 a2 a3 b1 b2 b3
    obtain ⟨x1, x2, x3⟩ := hd.read (d := ({ d.1 with lo := r.1, up := r.2, wt := l }, d.2)) h a2 (by omega : r.1 ≤ (n : Int))
    obtain ⟨y1, y2, y3⟩ := hd.read (d := rdD ({ d.1 with lo := r.1, up := r.2, wt := l }, d.2) r.1) x2 (by omega : 1 ≤ r.2) a3
    exact ⟨f, y2, .inl ⟨rfl, ⟨b1, b2, b3, fun q => absurd (show (1 : Int) = 2 from q) (by omega), fun q => absurd (show (1 : Int) = 3 from q) (by omega), fun q => absurd (show (1 : Int) = 4 from q) (by omega), fun q => absurd (show (1 : Int) = 5 from q) (by omega)⟩⟩⟩
theorem leave_ord (hd : Hd n Gd M) {d : SD} {f : Int → V} (h : M d.2.1 d.2.2 f) (hw : ∀ r ∈ d.1.wt, RO n r) (hb : Blk n lt ((d.1.lo, d.1.up) :: d.1.wt) f) (hs : ∀ a b : Int, d.1.lo ≤ a → a < b → b ≤ d.1.up → lt (f b) (f a) = false) (hp : d.1.wt.Pairwise Apt) : Bo n lt M (leaveR d) :=
  nrow_ord hd (d := ({ d.1 with lo := 0, up := 0 }, d.2)) h (fun q => absurd (show (0 : Int) < 0 from q) (by omega)) hw (hb.done hs) (fun q => absurd (show (0 : Int) < 0 from q) (by omega)) hp
theorem rise_ord (hd : Hd n Gd M) {d : SD} {f : Int → V} (h : M d.2.1 d.2.2 f) (h1 : 1 ≤ d.1.lo) (h2 : d.1.up ≤ (n : Int)) (h3 : d.1.lo ≤ d.1.i) (h4 : d.1.i + 1 ≤ d.1.up - 1) (hb : Blk n lt ((d.1.lo, d.1.up) :: d.1.wt) f) (ha : ∀ r ∈ d.1.wt, Apt (d.1.lo, d.1.up) r) (hp : d.1.wt.Pairwise Apt)
    (hl : ∀ k, d.1.lo ≤ k → k ≤ d.1.i → lt (f (d.1.up - 1)) (f k) = false) (hr : ∀ k, d.1.j ≤ k → k ≤ d.1.up → lt (f k) (f (d.1.up - 1)) = false) : Bo n lt M (riseR d) := by
  obtain ⟨x1, x2, x3⟩ := hd.read (d := ({ d.1 with i := d.1.i + 1 }, d.2)) h (k := d.1.i + 1) (by omega) (by omega)
  exact ⟨f, x2, .inl ⟨rfl, ⟨hb, ha, hp, fun q => absurd (show (4 : Int) = 2 from q) (by omega), fun q => absurd (show (4 : Int) = 3 from q) (by omega), fun _ => ⟨fun k k1 k2 => hl k k1 (by have : k < d.1.i + 1 := k2; omega), hr⟩, fun q => absurd (show (4 : Int) = 5 from q) (by omega)⟩⟩⟩
theorem fall_ord (hd : Hd n Gd M) {d : SD} {f : Int → V} (h : M d.2.1 d.2.2 f) (h1 : 1 ≤ d.1.lo) (h2 : d.1.up ≤ (n : Int)) (h5 : d.1.lo < d.1.j) (h6 : d.1.j ≤ d.1.up - 1) (hb : Blk n lt ((d.1.lo, d.1.up) :: d.1.wt) f) (ha : ∀ r ∈ d.1.wt, Apt (d.1.lo, d.1.up) r) (hp : d.1.wt.Pairwise Apt)
    (hl : ∀ k, d.1.lo ≤ k → k < d.1.i → lt (f (d.1.up - 1)) (f k) = false) (hi : lt (f d.1.i) (f (d.1.up - 1)) = false) (hr : ∀ k, d.1.j ≤ k → k ≤ d.1.up → lt (f k) (f (d.1.up - 1)) = false) : Bo n lt M (fallR d) := by
  obtain ⟨x1, x2, x3⟩ := hd.read (d := ({ d.1 with j := d.1.j - 1 }, d.2)) h (k := d.1.j - 1) (by omega) (by omega)
  exact ⟨f, x2, .inl ⟨rfl, ⟨hb, ha, hp, fun q => absurd (show (5 : Int) = 2 from q) (by omega), fun q => absurd (show (5 : Int) = 3 from q) (by omega), fun q => absurd (show (5 : Int) = 4 from q) (by omega), fun _ => ⟨hl, hi, fun k k1 k2 => hr k (by have : d.1.j - 1 < k := k1; omega) k2⟩⟩⟩⟩
theorem split_ord (hd : Hd n Gd M) (ho : Od Gd lt) {d : SD} {f : Int → V} (h : M d.2.1 d.2.2 f) (hw : ∀ r ∈ d.1.wt, RO n r) (h1 : 1 ≤ d.1.lo) (h2 : d.1.up ≤ (n : Int)) (h3 : d.1.lo + 1 < d.1.up) (hp : d.1.p = d.1.lo + (d.1.up - d.1.lo) / 2) (hb : Blk n lt ((d.1.lo, d.1.up) :: d.1.wt) f) (ha : ∀ r ∈ d.1.wt, Apt (d.1.lo, d.1.up) r) (hq : d.1.wt.Pairwise Apt)
    (hl : lt (f d.1.p) (f d.1.lo) = false) (hr : lt (f d.1.up) (f d.1.p) = false) : Bo n lt M (splitR d) := by
  unfold splitR
  have gl := hd.gd _ _ f d.1.lo h h1 (by omega)
  have gp := hd.gd _ _ f d.1.p h (by omega) (by omega)
  have gu := hd.gd _ _ f d.1.up h (by omega) h2
  by_cases c : d.1.up - d.1.lo = 2
  · rw [if_pos c]
    have hlu := ho.tr _ _ _ gl gp gu hl hr
    refine leave_ord hd h hw hb (fun a b a1 a2 a3 => ?_) hq
    have ep : d.1.p = d.1.lo + 1 := by omega
    have eu : d.1.up = d.1.lo + 2 := by omega
    rw [ep] at hl hr
    rw [eu] at hr hlu
    rcases (show (a = d.1.lo ∧ b = d.1.lo + 1) ∨ (a = d.1.lo ∧ b = d.1.lo + 2) ∨ (a = d.1.lo + 1 ∧ b = d.1.lo + 2) by omega) with ⟨rfl, rfl⟩ | ⟨rfl, rfl⟩ | ⟨rfl, rfl⟩
    · exact hl
    · exact hlu
    · exact hr
  · rw [if_neg c]
    have p1 : 1 ≤ d.1.p := by omega
    have p2 : d.1.p ≤ (n : Int) := by omega
    obtain ⟨x1, x2, x3⟩ := hd.read (d := d) h p1 p2
    obtain ⟨y1, y2, y3⟩ := hd.read (d := rdD d d.1.p) x2 (k := d.1.up - 1) (by omega) (by omega)
    simp only [x1, y1]
    obtain ⟨e, z2, z3⟩ := hd.put (d := ({ (rdD (rdD d d.1.p) (d.1.up - 1)).1 with pv := f d.1.p, y := f (d.1.up - 1) }, (rdD (rdD d d.1.p) (d.1.up - 1)).2)) y2 (a := d.1.p) (b := d.1.up - 1) p1 p2 (by omega) (by omega) rfl rfl
    rw [if_neg (fun q => q e)]
    generalize putD _ _ _ _ _ = d4 at *
    obtain ⟨s4, t4⟩ := d4
    simp only at z2 z3
    subst z3
    have e1 : swp f d.1.p (d.1.up - 1) (d.1.up - 1) = f d.1.p := by rw [swp_at, if_pos rfl]
    have e2 : swp f d.1.p (d.1.up - 1) d.1.lo = f d.1.lo := by rw [swp_at, if_neg (by omega), if_neg (by omega)]
    have e3 : swp f d.1.p (d.1.up - 1) d.1.up = f d.1.up := by rw [swp_at, if_neg (by omega), if_neg (by omega)]
    refine rise_ord hd (d := ({ ({ d.1 with pv := f d.1.p, y := f (d.1.up - 1) } : SS) with i := d.1.lo, j := d.1.up - 1 }, t4)) z2 h1 h2 (Int.le_refl _) (by show d.1.lo + 1 ≤ d.1.up - 1; omega) (hb.exch h1 h2 ha (by omega) (by omega) (by omega) (by omega)) ha hq (fun k k1 k2 => ?_) (fun k k1 k2 => ?_)
    · have ek : k = d.1.lo := Int.le_antisymm k2 k1
      subst ek
      show lt (swp f d.1.p (d.1.up - 1) (d.1.up - 1)) (swp f d.1.p (d.1.up - 1) d.1.lo) = false
      rw [e1, e2]; exact hl
    · have k1' : d.1.up - 1 ≤ k := k1
      have k2' : k ≤ d.1.up := k2
      show lt (swp f d.1.p (d.1.up - 1) k) (swp f d.1.p (d.1.up - 1) (d.1.up - 1)) = false
      rw [e1]
      rcases (show k = d.1.up - 1 ∨ k = d.1.up by omega) with rfl | rfl
      · rw [e1]; exact ho.irr _ gp
      · rw [e3]; exact hr
theorem part_ord (hd : Hd n Gd M) (ho : Od Gd lt) {d : SD} {f : Int → V} (h : M d.2.1 d.2.2 f) (hw : ∀ r ∈ d.1.wt, RO n r) (h1 : 1 ≤ d.1.lo) (h2 : d.1.up ≤ (n : Int)) (h3 : d.1.lo < d.1.i) (h4 : d.1.i ≤ d.1.up - 1) (hb : Blk n lt ((d.1.lo, d.1.up) :: d.1.wt) f) (ha : ∀ r ∈ d.1.wt, Apt (d.1.lo, d.1.up) r) (hq : d.1.wt.Pairwise Apt)
    (hl : ∀ k, d.1.lo ≤ k → k < d.1.i → lt (f (d.1.up - 1)) (f k) = false) (hr : ∀ k, d.1.i ≤ k → k ≤ d.1.up → lt (f k) (f (d.1.up - 1)) = false) : Bo n lt M (partR d) := by
  unfold partR
  obtain ⟨x1, x2, x3⟩ := hd.read (d := d) h (k := d.1.up - 1) (by omega) (by omega)
  obtain ⟨y1, y2, y3⟩ := hd.read (d := rdD d (d.1.up - 1)) x2 (k := d.1.i) (by omega) (by omega)
  simp only [x1, y1]
  obtain ⟨e, z2, z3⟩ := hd.put (d := ({ (rdD (rdD d (d.1.up - 1)) d.1.i).1 with x := f (d.1.up - 1), y := f d.1.i }, (rdD (rdD d (d.1.up - 1)) d.1.i).2)) y2 (a := d.1.up - 1) (b := d.1.i) (by omega) (by omega) (by omega) (by omega) rfl rfl
  rw [if_neg (fun q => q e)]
  generalize putD _ _ _ _ _ = d4 at *
  obtain ⟨s4, t4⟩ := d4
  simp only at z2 z3
  subst z3
  have gv := hd.gd _ _ f (d.1.up - 1) h (by omega) (by omega)
  have hb2 := hb.exch h1 h2 ha (a := d.1.up - 1) (b := d.1.i) (by omega) (by omega) (by omega) (by omega)
  have hlow : ∀ k, d.1.lo ≤ k → k < d.1.i → lt (f (d.1.up - 1)) (swp f (d.1.up - 1) d.1.i k) = false := fun k k1 k2 => by
    rw [swp_at, if_neg (by omega), if_neg (by omega)]; exact hl k k1 k2
  have hhigh : ∀ k, d.1.i < k → k ≤ d.1.up → lt (swp f (d.1.up - 1) d.1.i k) (f (d.1.up - 1)) = false := fun k k1 k2 => by
    rw [swp_at, if_neg (by omega)]
    by_cases q : k = d.1.up - 1
    · rw [if_pos q]; exact hr _ (Int.le_refl _) (by omega)
    · rw [if_neg q]; exact hr k (by omega) k2
  have hmid : swp f (d.1.up - 1) d.1.i d.1.i = f (d.1.up - 1) := by rw [swp_at, if_pos rfl]
  have r1 : RO n (d.1.lo, d.1.i - 1) := fun q => ⟨h1, by show d.1.i - 1 ≤ (n : Int); omega⟩
  have r2 : RO n (d.1.i + 1, d.1.up) := fun q => ⟨by show 1 ≤ d.1.i + 1; omega, h2⟩
  have key : ∀ a b : Int, 1 ≤ a → a < b → b ≤ (n : Int) → (d.1.lo ≤ a ∧ b ≤ d.1.i - 1) ∨ (d.1.i + 1 ≤ a ∧ b ≤ d.1.up) ∨ (∃ r ∈ d.1.wt, r.1 ≤ a ∧ b ≤ r.2) ∨ lt (swp f (d.1.up - 1) d.1.i b) (swp f (d.1.up - 1) d.1.i a) = false := fun a b a1 ab b1 => by
    rcases hb2 a b a1 ab b1 with ⟨r, hr', q1, q2⟩ | q
    · rcases List.mem_cons.1 hr' with e' | e'
      · subst e'
        simp only at q1 q2
        by_cases c1 : b ≤ d.1.i - 1
        · exact .inl ⟨q1, c1⟩
        · by_cases c2 : d.1.i + 1 ≤ a
          · exact .inr (.inl ⟨c2, q2⟩)
          · refine .inr (.inr (.inr ?_))
            have ga := hd.gd _ _ _ a z2 a1 (by omega)
            have gb := hd.gd _ _ _ b z2 (by omega) b1
            have la : lt (f (d.1.up - 1)) (swp f (d.1.up - 1) d.1.i a) = false := by
              by_cases q : a = d.1.i
              · rw [q, hmid]; exact ho.irr _ gv
              · exact hlow a q1 (by omega)
            have lb : lt (swp f (d.1.up - 1) d.1.i b) (f (d.1.up - 1)) = false := by
              by_cases q : b = d.1.i
              · rw [q, hmid]; exact ho.irr _ gv
              · exact hhigh b (by omega) q2
            exact ho.tr _ _ _ ga gv gb la lb
      · exact .inr (.inr (.inl ⟨r, e', q1, q2⟩))
    · exact .inr (.inr (.inr q))
  have ap1 : ∀ r ∈ d.1.wt, Apt (d.1.lo, d.1.i - 1) r ∧ Apt (d.1.i + 1, d.1.up) r := fun r hr' => by
    have := ha r hr'
    unfold Apt at this ⊢
    simp only at this ⊢
    omega
  have ap2 : Apt (d.1.lo, d.1.i - 1) (d.1.i + 1, d.1.up) := .inl (by show d.1.i - 1 < d.1.i + 1; omega)
  have ap3 : Apt (d.1.i + 1, d.1.up) (d.1.lo, d.1.i - 1) := .inr (by show d.1.i - 1 < d.1.i + 1; omega)
  by_cases c : d.1.up - d.1.i ≤ d.1.i - d.1.lo
  · rw [if_pos c]
    refine nrow_ord hd (d := ({ ({ d.1 with x := f (d.1.up - 1), y := f d.1.i } : SS) with lo := d.1.i + 1, up := d.1.up, wt := (d.1.lo, d.1.i - 1) :: d.1.wt }, t4)) z2 r2 (fun r hr' => ?_) (fun a b a1 ab b1 => ?_) (fun _ r hr' => ?_) ?_
    · rcases List.mem_cons.1 hr' with q | q
      · rw [q]; exact r1
      · exact hw r q
    · rcases key a b a1 ab b1 with q | q | ⟨r, q, q'⟩ | q
      · exact .inl ⟨_, List.mem_cons_of_mem _ (List.mem_cons_self ..), q⟩
      · exact .inl ⟨_, List.mem_cons_self .., q⟩
      · exact .inl ⟨r, List.mem_cons_of_mem _ (List.mem_cons_of_mem _ q), q'⟩
      · exact .inr q
    · rcases List.mem_cons.1 hr' with q | q
      · rw [q]; exact ap3
      · exact (ap1 r q).2
    · exact List.pairwise_cons.2 ⟨fun r q => (ap1 r q).1, hq⟩
  · rw [if_neg c]
    refine nrow_ord hd (d := ({ ({ d.1 with x := f (d.1.up - 1), y := f d.1.i } : SS) with lo := d.1.lo, up := d.1.i - 1, wt := (d.1.i + 1, d.1.up) :: d.1.wt }, t4)) z2 r1 (fun r hr' => ?_) (fun a b a1 ab b1 => ?_) (fun _ r hr' => ?_) ?_
    · rcases List.mem_cons.1 hr' with q | q
      · rw [q]; exact r2
      · exact hw r q
    · rcases key a b a1 ab b1 with q | q | ⟨r, q, q'⟩ | q
      · exact .inl ⟨_, List.mem_cons_self .., q⟩
      · exact .inl ⟨_, List.mem_cons_of_mem _ (List.mem_cons_self ..), q⟩
      · exact .inl ⟨r, List.mem_cons_of_mem _ (List.mem_cons_of_mem _ q), q'⟩
      · exact .inr q
    · rcases List.mem_cons.1 hr' with q | q
      · rw [q]; exact ap2
      · exact (ap1 r q).1
    · exact List.pairwise_cons.2 ⟨fun r q => (ap1 r q).2, hq⟩
end
end U
end Go.Proofs.YtcaaaoehipcloaaGreat

/- The sorter's order, on: every step keeps it where an order answers; the questions. -/
namespace Go.Proofs.YtcaaaoehipcloaaGreat
namespace U
section
variable {n : Nat} {Gd : V → Prop} {lt : V → V → Bool} {M : TS → H.St → (Int → V) → Prop}
theorem go_ord (hd : Hd n Gd M) (ho : Od Gd lt) {d : SD} {f : Int → V} (h : M d.2.1 d.2.2 f) (hi : SI n d.1 f) (hz : OI n lt d.1 f) : Bo n lt M (goR d (lt (qs d.1).1 (qs d.1).2)) := by
  have hl := hi.lt
  have h1 := hi.lo
  have h2 := hi.up
  have G : ∀ k, 1 ≤ k → k ≤ (n : Int) → Gd (f k) := fun k k1 k2 => hd.gd _ _ f k h k1 k2
  have no : ∀ {s : SS} {k j : Int}, s.ak = k → k ≠ j → ¬ s.ak = j := fun e q z => q (e.symm.trans z)
  unfold goR qs
  rcases hi.st with ⟨ea, ex, ey⟩ | ⟨ea, e1, ep, ex, ey⟩ | ⟨ea, e1, ep, ex, ey⟩ | ⟨ea, ev, ex, e1, e2, e3, e4⟩ | ⟨ea, ev, ex, ey, e1, e2, e3, e4⟩
  · rw [if_pos ea, if_pos ea]
    simp only
    rw [ex, ey]
    generalize hless : lt (f d.1.up) (f d.1.lo) = less
    unfold endsR
    have gl := G d.1.lo h1 (by omega)
    have gu := G d.1.up (by omega) h2
    have hE : ∃ g, (if less = true then putE d d.1.lo d.1.y d.1.up d.1.x else 0) = 0 ∧ M (if less = true then putD d d.1.lo d.1.y d.1.up d.1.x else d).2.1 (if less = true then putD d d.1.lo d.1.y d.1.up d.1.x else d).2.2 g ∧ (if less = true then putD d d.1.lo d.1.y d.1.up d.1.x else d).1 = d.1 ∧ Blk n lt ((d.1.lo, d.1.up) :: d.1.wt) g ∧ lt (g d.1.up) (g d.1.lo) = false := by
      cases less with
      | false => exact ⟨f, rfl, h, rfl, hz.blk, hless⟩
      | true =>
        obtain ⟨a1, a2, a3⟩ := hd.put (d := d) h (a := d.1.lo) (b := d.1.up) (by omega) (by omega) (by omega) (by omega) ex ey
        refine ⟨_, a1, a2, a3, hz.blk.exch h1 h2 hz.ap (Int.le_refl _) (by omega) (by omega) (Int.le_refl _), ?_⟩
        rw [swp_at, if_pos rfl, swp_at, if_neg (by omega), if_pos rfl]
        exact ho.asy _ _ gu gl hless
    obtain ⟨g, b1, b2, b3, b4, b5⟩ := hE
    simp only [b1]
    rw [if_neg (fun q => q rfl)]
    generalize (if less = true then putD d d.1.lo d.1.y d.1.up d.1.x else d) = d1 at *
    obtain ⟨s1, t1⟩ := d1
    simp only at b2 b3
    subst b3
    by_cases c : d.1.up - d.1.lo = 1
    · rw [if_pos c]
      refine leave_ord hd (d := (d.1, t1)) b2 hi.wt b4 (fun a b a1 a2 a3 => ?_) hz.aw
      have a1' : d.1.lo ≤ a := a1
      have a3' : b ≤ d.1.up := a3
      rw [show a = d.1.lo by omega, show b = d.1.up by omega]
      exact b5
    · rw [if_neg c]
      have p1 : 1 ≤ d.1.lo + (d.1.up - d.1.lo) / 2 := by omega
      have p2 : d.1.lo + (d.1.up - d.1.lo) / 2 ≤ (n : Int) := by omega
      obtain ⟨x1, x2, x3⟩ := hd.read (d := ({ d.1 with p := d.1.lo + (d.1.up - d.1.lo) / 2 }, t1)) b2 p1 p2
      obtain ⟨y1, y2, y3⟩ := hd.read (d := rdD ({ d.1 with p := d.1.lo + (d.1.up - d.1.lo) / 2 }, t1) (d.1.lo + (d.1.up - d.1.lo) / 2)) x2 (k := d.1.lo) h1 (by omega)
      exact ⟨g, y2, .inl ⟨rfl, ⟨b4, hz.ap, hz.aw, fun _ => b5, fun q => absurd (show (2 : Int) = 3 from q) (by omega), fun q => absurd (show (2 : Int) = 4 from q) (by omega), fun q => absurd (show (2 : Int) = 5 from q) (by omega)⟩⟩⟩
  · rw [if_neg (no ea (by omega)), if_pos ea, if_neg (no ea (by omega)), if_pos ea]
    simp only
    rw [ex, ey]
    have s2 := hz.s2 ea
    have p1 : 1 ≤ d.1.p := by omega
    have p2 : d.1.p ≤ (n : Int) := by omega
    generalize hless : lt (f d.1.p) (f d.1.lo) = less
    have gl := G d.1.lo h1 (by omega)
    have gp := G d.1.p p1 p2
    have gu := G d.1.up (by omega) h2
    unfold lowR
    cases less with
    | true =>
      rw [if_pos rfl]
      obtain ⟨a1, a2, a3⟩ := hd.put (d := d) h (a := d.1.p) (b := d.1.lo) p1 p2 h1 (by omega) ex ey
      simp only [a1]
      rw [if_neg (fun q => q rfl)]
      generalize putD d d.1.p d.1.y d.1.lo d.1.x = d1 at *
      obtain ⟨s1, t1⟩ := d1
      simp only at a2 a3
      subst a3
      refine split_ord hd ho (d := (d.1, t1)) a2 hi.wt h1 h2 e1 ep (hz.blk.exch h1 h2 hz.ap (by omega) (by omega) (by omega) (by omega)) hz.ap hz.aw ?_ ?_
      · show lt (swp f d.1.p d.1.lo d.1.p) (swp f d.1.p d.1.lo d.1.lo) = false
        rw [swp_at, if_neg (by omega), if_pos rfl, swp_at, if_pos rfl]
        exact ho.asy _ _ gp gl hless
      · show lt (swp f d.1.p d.1.lo d.1.up) (swp f d.1.p d.1.lo d.1.p) = false
        rw [swp_at, if_neg (by omega), if_neg (by omega), swp_at, if_neg (by omega), if_pos rfl]
        exact s2
    | false =>
      rw [if_neg (by simp)]
      obtain ⟨x1, x2, x3⟩ := hd.read (d := d) h (k := d.1.up) (by omega) h2
      exact ⟨f, x2, .inl ⟨rfl, ⟨hz.blk, hz.ap, hz.aw, fun q => absurd (show (3 : Int) = 2 from q) (by omega), fun _ => ⟨s2, hless⟩, fun q => absurd (show (3 : Int) = 4 from q) (by omega), fun q => absurd (show (3 : Int) = 5 from q) (by omega)⟩⟩⟩
  · rw [if_neg (no ea (by omega)), if_neg (no ea (by omega)), if_pos ea, if_neg (no ea (by omega)), if_neg (no ea (by omega)), if_pos ea]
    simp only
    rw [ex, ey]
    obtain ⟨s3, s3'⟩ := hz.s3 ea
    have p1 : 1 ≤ d.1.p := by omega
    have p2 : d.1.p ≤ (n : Int) := by omega
    have gp := G d.1.p p1 p2
    have gu := G d.1.up (by omega) h2
    generalize hless : lt (f d.1.up) (f d.1.p) = less
    unfold highR
    cases less with
    | true =>
      rw [if_pos rfl]
      obtain ⟨a1, a2, a3⟩ := hd.put (d := d) h (a := d.1.p) (b := d.1.up) p1 p2 (by omega) h2 ex ey
      simp only [a1]
      rw [if_neg (fun q => q rfl)]
      generalize putD d d.1.p d.1.y d.1.up d.1.x = d1 at *
      obtain ⟨s1, t1⟩ := d1
      simp only at a2 a3
      subst a3
      refine split_ord hd ho (d := (d.1, t1)) a2 hi.wt h1 h2 e1 ep (hz.blk.exch h1 h2 hz.ap (by omega) (by omega) (by omega) (by omega)) hz.ap hz.aw ?_ ?_
      · show lt (swp f d.1.p d.1.up d.1.p) (swp f d.1.p d.1.up d.1.lo) = false
        rw [swp_at, if_neg (by omega), if_pos rfl, swp_at, if_neg (by omega), if_neg (by omega)]
        exact s3
      · show lt (swp f d.1.p d.1.up d.1.up) (swp f d.1.p d.1.up d.1.p) = false
        rw [swp_at, if_pos rfl, swp_at, if_neg (by omega), if_pos rfl]
        exact ho.asy _ _ gu gp hless
    | false =>
      rw [if_neg (by simp)]
      exact split_ord hd ho h hi.wt h1 h2 e1 ep hz.blk hz.ap hz.aw s3' hless
  · rw [if_neg (no ea (by omega)), if_neg (no ea (by omega)), if_neg (no ea (by omega)), if_pos ea, if_neg (no ea (by omega)), if_neg (no ea (by omega)), if_neg (no ea (by omega)), if_pos ea]
    simp only
    rw [ex, ev]
    obtain ⟨s4, s4'⟩ := hz.s4 ea
    have gi := G d.1.i (by omega) (by omega)
    have gv := G (d.1.up - 1) (by omega) (by omega)
    generalize hless : lt (f d.1.i) (f (d.1.up - 1)) = less
    unfold risingR
    cases less with
    | true =>
      rw [if_pos rfl]
      by_cases c : d.1.i = d.1.up - 1
      · exfalso
        rw [c, ho.irr _ gv] at hless
        cases hless
      · rw [if_neg c]
        refine rise_ord hd h h1 h2 (by omega) (by omega) hz.blk hz.ap hz.aw (fun k k1 k2 => ?_) s4'
        by_cases q : k = d.1.i
        · rw [q]; exact ho.asy _ _ gi gv hless
        · exact s4 k k1 (by omega)
    | false =>
      rw [if_neg (by simp)]
      exact fall_ord hd h h1 h2 e3 e4 hz.blk hz.ap hz.aw s4 hless s4'
  · rw [if_neg (no ea (by omega)), if_neg (no ea (by omega)), if_neg (no ea (by omega)), if_neg (no ea (by omega)), if_pos ea, if_neg (no ea (by omega)), if_neg (no ea (by omega)), if_neg (no ea (by omega)), if_neg (no ea (by omega))]
    simp only
    rw [ey, ev]
    obtain ⟨s5, s5', s5''⟩ := hz.s5 ea
    have gj := G d.1.j (by omega) (by omega)
    have gi := G d.1.i (by omega) (by omega)
    have gv := G (d.1.up - 1) (by omega) (by omega)
    generalize hless : lt (f (d.1.up - 1)) (f d.1.j) = less
    unfold fallingR
    cases less with
    | true =>
      rw [if_pos rfl]
      by_cases c : d.1.j < d.1.i
      · exfalso
        rw [s5 d.1.j e3 c] at hless
        cases hless
      · rw [if_neg c]
        refine fall_ord hd h h1 h2 (by omega) (by omega) hz.blk hz.ap hz.aw s5 s5' (fun k k1 k2 => ?_)
        by_cases q : k = d.1.j
        · rw [q]; exact ho.asy _ _ gv gj hless
        · exact s5'' k (by omega) k2
    | false =>
      rw [if_neg (by simp)]
      by_cases c : d.1.j < d.1.i
      · rw [if_pos c]
        exact part_ord hd ho h hi.wt h1 h2 e1 e2 hz.blk hz.ap hz.aw s5 (fun k k1 k2 => s5'' k (by omega) k2)
      · rw [if_neg c]
        obtain ⟨a1, a2, a3⟩ := hd.put (d := d) h (a := d.1.i) (b := d.1.j) (by omega) (by omega) (by omega) (by omega) ex ey
        simp only [a1]
        rw [if_neg (fun q => q rfl)]
        generalize putD d d.1.i d.1.y d.1.j d.1.x = d1 at *
        obtain ⟨s1, t1⟩ := d1
        simp only at a2 a3
        subst a3
        have eV : swp f d.1.i d.1.j (d.1.up - 1) = f (d.1.up - 1) := by rw [swp_at, if_neg (by omega), if_neg (by omega)]
        refine rise_ord hd (d := (d.1, t1)) a2 h1 h2 (by simp only; omega) (by simp only; omega) (hz.blk.exch h1 h2 hz.ap (by omega) (by omega) (by omega) (by omega)) hz.ap hz.aw (fun k k1 k2 => ?_) (fun k k1 k2 => ?_)
        · have k1' : d.1.lo ≤ k := k1
          have k2' : k ≤ d.1.i := k2
          show lt (swp f d.1.i d.1.j (d.1.up - 1)) (swp f d.1.i d.1.j k) = false
          rw [eV, swp_at]
          by_cases q : k = d.1.j
          · rw [if_pos q, show d.1.i = d.1.j by omega]; exact hless
          · rw [if_neg q]
            by_cases q' : k = d.1.i
            · rw [if_pos q']; exact hless
            · rw [if_neg q']; exact s5 k k1' (by omega)
        · have k1' : d.1.j ≤ k := k1
          have k2' : k ≤ d.1.up := k2
          show lt (swp f d.1.i d.1.j k) (swp f d.1.i d.1.j (d.1.up - 1)) = false
          rw [eV, swp_at]
          by_cases q : k = d.1.j
          · rw [if_pos q]; exact s5'
          · rw [if_neg q, if_neg (by omega)]; exact s5'' k (by omega) k2'
theorem OI.same {s : SS} {f g : Int → V} (h : OI n lt s f) (hi : SI n s g) (e : ∀ k, 1 ≤ k → k ≤ (n : Int) → f k = g k) : OI n lt s g := by
  have hl := hi.lt
  have h1 := hi.lo
  have h2 := hi.up
  refine ⟨h.blk.same e, h.ap, h.aw, fun q => ?_, fun q => ?_, fun q => ?_, fun q => ?_⟩
  · rw [← e _ (by omega) h2, ← e _ h1 (by omega)]; exact h.s2 q
  · have hp : s.p = s.lo + (s.up - s.lo) / 2 := by rcases hi.st with z | z | z | z | z <;> first | exact z.2.2.1 | (exfalso; omega)
    rw [← e _ (by omega) h2, ← e _ h1 (by omega), ← e s.p (by omega) (by omega)]; exact h.s3 q
  · obtain ⟨z1, z2⟩ := h.s4 q
    have b : s.lo < s.i ∧ s.i ≤ s.up - 1 ∧ s.lo < s.j := by rcases hi.st with z | z | z | z | z <;> omega
    rw [← e (s.up - 1) (by omega) (by omega)]
    exact ⟨fun k k1 k2 => by rw [← e k (by omega) (by omega)]; exact z1 k k1 k2, fun k k1 k2 => by rw [← e k (by omega) (by omega)]; exact z2 k k1 k2⟩
  · obtain ⟨z1, z2, z3⟩ := h.s5 q
    have b : s.lo < s.i ∧ s.i ≤ s.up - 1 ∧ s.lo ≤ s.j := by rcases hi.st with z | z | z | z | z <;> omega
    rw [← e (s.up - 1) (by omega) (by omega)]
    refine ⟨fun k k1 k2 => ?_, ?_, fun k k1 k2 => ?_⟩
    · rw [← e k (by omega) (by omega)]; exact z1 k k1 k2
    · rw [← e s.i (by omega) (by omega)]; exact z2
    · rw [← e k (by omega) (by omega)]; exact z3 k k1 k2
end
theorem nrow_asks (d : SD) : (nrow d).2.2.2.1 = true → (nrow d).2 = askT (qs (nrow d).1.1).1 (qs (nrow d).1.1).2 := by
  unfold nrow
  cases pop d.1.lo d.1.up d.1.wt with
  | none => intro q; cases q
  | some q => intro _; rfl
theorem rise_asks (d : SD) : (riseR d).2.2.2.1 = true → (riseR d).2 = askT (qs (riseR d).1.1).1 (qs (riseR d).1.1).2 := fun _ => rfl
theorem fall_asks (d : SD) : (fallR d).2.2.2.1 = true → (fallR d).2 = askT (qs (fallR d).1.1).1 (qs (fallR d).1.1).2 := fun _ => rfl
theorem split_asks (d : SD) : (splitR d).2.2.2.1 = true → (splitR d).2 = askT (qs (splitR d).1.1).1 (qs (splitR d).1.1).2 := by
  unfold splitR
  split
  · exact nrow_asks _
  · simp only
    split
    · intro q; cases q
    · exact rise_asks _
theorem part_asks (d : SD) : (partR d).2.2.2.1 = true → (partR d).2 = askT (qs (partR d).1.1).1 (qs (partR d).1.1).2 := by
  unfold partR
  simp only
  split
  · intro q; cases q
  · split
    · exact nrow_asks _
    · exact nrow_asks _
/-- What is asked is the state's question. -/
theorem go_asks (d : SD) (less : Bool) : (goR d less).2.2.2.1 = true → (goR d less).2 = askT (qs (goR d less).1.1).1 (qs (goR d less).1.1).2 := by
  unfold goR
  split
  · unfold endsR
    generalize (if less = true then putE d d.1.lo d.1.y d.1.up d.1.x else 0) = e
    generalize (if less = true then putD d d.1.lo d.1.y d.1.up d.1.x else d) = d1
    simp only
    split
    · intro q; cases q
    · split
      · exact nrow_asks _
      · exact fun _ => rfl
  · split
    · unfold lowR
      split
      · simp only
        split
        · intro q; cases q
        · exact split_asks _
      · exact fun _ => rfl
    · split
      · unfold highR
        split
        · simp only
          split
          · intro q; cases q
          · exact split_asks _
        · exact split_asks _
      · split
        · unfold risingR
          split
          · split
            · intro q; cases q
            · exact rise_asks _
          · exact fall_asks _
        · split
          · unfold fallingR
            split
            · split
              · intro q; cases q
              · exact fall_asks _
            · split
              · exact part_asks _
              · simp only
                split
                · intro q; cases q
                · exact rise_asks _
          · split
            · intro q; cases q
            · exact nrow_asks _
end U
end Go.Proofs.YtcaaaoehipcloaaGreat

/- Who is used up (no program in it): a list's values, each as often as in a row, are found one by one. -/
namespace Go.Proofs.YtcaaaoehipcloaaGreat
namespace U

def cl (l : Nat → V) (w : V) : Nat → Nat
  | 0 => 0
  | n + 1 => cl l w n + (if l n = w then 1 else 0)
def cu (u : Nat → Bool) (l : Nat → V) (w : V) : Nat → Nat
  | 0 => 0
  | n + 1 => cu u l w n + (if u n = true ∧ l n = w then 1 else 0)
/-- The last one that isn't used up; -1: there is none. -/
def lst (u : Nat → Bool) (l : Nat → V) (v : V) : Nat → Int
  | 0 => -1
  | n + 1 => if u n = false ∧ l n = v then (n : Int) else lst u l v n
def usd (u : Nat → Bool) (k : Nat) : Nat → Bool := fun j => if j = k then true else u j
theorem lst_spec (u : Nat → Bool) (l : Nat → V) (v : V) : ∀ n : Nat, (lst u l v n = -1 ∧ ∀ k, k < n → l k = v → u k = true) ∨ ∃ k, k < n ∧ lst u l v n = (k : Int) ∧ u k = false ∧ l k = v
  | 0 => .inl ⟨rfl, fun k h => by omega⟩
  | n + 1 => by
    unfold lst
    by_cases q : u n = false ∧ l n = v
    · rw [if_pos q]; exact .inr ⟨n, by omega, rfl, q.1, q.2⟩
    · rw [if_neg q]
      rcases lst_spec u l v n with ⟨e, h⟩ | ⟨k, h1, h2, h3, h4⟩
      · refine .inl ⟨e, fun k hk hl => ?_⟩
        by_cases z : k = n
        · subst z
          cases hu : u k with
          | true => rfl
          | false => exact absurd ⟨hu, hl⟩ q
        · exact h k (by omega) hl
      · exact .inr ⟨k, by omega, h2, h3, h4⟩
theorem cu_all {u : Nat → Bool} {l : Nat → V} {v : V} : ∀ n : Nat, (∀ k, k < n → l k = v → u k = true) → cu u l v n = cl l v n
  | 0, _ => rfl
  | n + 1, h => by
    unfold cu cl
    rw [cu_all n (fun k hk => h k (by omega))]
    by_cases q : l n = v
    · rw [if_pos ⟨h n (by omega) q, q⟩, if_pos q]
    · rw [if_neg (fun z => q z.2), if_neg q]
theorem cu_none (l : Nat → V) (w : V) : ∀ n : Nat, cu (fun _ => false) l w n = 0
  | 0 => rfl
  | n + 1 => by unfold cu; rw [cu_none l w n, if_neg (fun q => by cases q.1)]
theorem cu_out {u : Nat → Bool} {l : Nat → V} {w : V} {k : Nat} : ∀ n : Nat, n ≤ k → cu (usd u k) l w n = cu u l w n
  | 0, _ => rfl
  | n + 1, h => by
    unfold cu
    rw [cu_out n (by omega)]
    have e : usd u k n = u n := by unfold usd; rw [if_neg (by omega)]
    rw [e]
theorem cu_usd {u : Nat → Bool} {l : Nat → V} {w : V} {k : Nat} (hu : u k = false) : ∀ n : Nat, k < n → cu (usd u k) l w n = cu u l w n + (if l k = w then 1 else 0)
  | 0, h => by omega
  | n + 1, h => by
    unfold cu
    by_cases q : k = n
    · subst q
      rw [cu_out k (Nat.le_refl _)]
      have e : usd u k k = true := by unfold usd; rw [if_pos rfl]
      rw [e, hu, if_neg (fun z : false = true ∧ l k = w => by cases z.1)]
      by_cases z : l k = w
      · rw [if_pos ⟨rfl, z⟩, if_pos z]
      · rw [if_neg (fun y => z y.2), if_neg z]
    · rw [cu_usd hu n (by omega)]
      have e : usd u k n = u n := by unfold usd; rw [if_neg (fun z => q z.symm)]
      rw [e]
      omega
theorem cnt_mono (f : Int → V) (w : V) : ∀ {i n : Nat}, i ≤ n → cnt f w i ≤ cnt f w n := by
  intro i n h
  induction n with
  | zero => rw [show i = 0 by omega]; exact Nat.le_refl _
  | succ n ih =>
    by_cases q : i = n + 1
    · rw [q]; exact Nat.le_refl _
    · have := ih (by omega)
      show _ ≤ cnt f w n + _
      omega
/-- Behind i rounds those are used up that stand at the first i places. -/
def Iu (n : Nat) (f : Int → V) (l : Nat → V) (i : Nat) (u : Nat → Bool) : Prop := ∀ w, cu u l w n = cnt f w i
theorem Iu.zero (n : Nat) (f : Int → V) (l : Nat → V) : Iu n f l 0 (fun _ => false) := fun w => cu_none l w n
theorem Iu.step {n : Nat} {f : Int → V} {l : Nat → V} {i : Nat} {u : Nat → Bool} (h : Iu n f l i u) (hi : i < n) (hc : ∀ w, cnt f w n = cl l w n) : ∃ k, k < n ∧ lst u l (f ((i : Int) + 1)) n = (k : Int) ∧ Iu n f l (i + 1) (usd u k) := by
  have e1 : cnt f (f ((i : Int) + 1)) (i + 1) = cnt f (f ((i : Int) + 1)) i + 1 := by
    show cnt f _ i + (if _ then 1 else 0) = _
    rw [if_pos rfl]
  have e2 := cnt_mono f (f ((i : Int) + 1)) (i := i + 1) (n := n) (by omega)
  rcases lst_spec u l (f ((i : Int) + 1)) n with ⟨_, q⟩ | ⟨k, k1, k2, k3, k4⟩
  · exfalso
    have e3 := cu_all n q
    have e4 := h (f ((i : Int) + 1))
    have e5 := hc (f ((i : Int) + 1))
    omega
  · refine ⟨k, k1, k2, fun w => ?_⟩
    rw [cu_usd k3 n k1, h w, k4]
    rfl
theorem cnt_cl (l : Nat → V) (f : Int → V) (w : V) : ∀ n : Nat, (∀ i, i < n → f ((i : Int) + 1) = l i) → cnt f w n = cl l w n
  | 0, _ => rfl
  | n + 1, h => by
    unfold cnt cl
    rw [cnt_cl l f w n (fun i hi => h i (by omega)), h n (by omega)]
end U
end Go.Proofs.YtcaaaoehipcloaaGreat

/- The sorter from its beginning on (no program in it). -/
namespace Go.Proofs.YtcaaaoehipcloaaGreat
namespace U
section
variable {n : Nat} {Gd : V → Prop} {lt : V → V → Bool} {M : TS → H.St → (Int → V) → Prop}
/-- A sorter that begins. -/
def s0 (n : Int) : SS := ⟨1, n, [], 0, 0, 0, 0, nil, nil, nil, 0⟩
/-- At the beginning, or behind a question. -/
def Nx (n : Nat) (s : SS) (f : Int → V) (L : Int) : Prop := (s = s0 (n : Int) ∧ sq (1, (n : Int)) ≤ L) ∨ (SI n s f ∧ lft s ≤ L)
theorem Nx.go (hd : Hd n Gd M) {d : SD} {f : Int → V} {L : Int} (h : M d.2.1 d.2.2 f) (hn : Nx n d.1 f L) (less : Bool) : Bh n M f L (goR d less) := by
  rcases hn with ⟨e, hL⟩ | ⟨hi, hL⟩
  · obtain ⟨s, t⟩ := d
    simp only at e
    subst e
    have e1 : goR (s0 (n : Int), t) less = nrow (s0 (n : Int), t) := rfl
    rw [e1]
    refine nrow_ok hd (d := (s0 (n : Int), t)) h (fun _ => ⟨Int.le_refl _, Int.le_refl _⟩) (fun r hr => (by cases hr)) ?_
    show sq (1, (n : Int)) + 0 ≤ L
    omega
  · obtain ⟨g, g1, g2, g3⟩ := go_ok hd h hi less
    refine ⟨g, g1, g2, g3.imp (fun q => ⟨q.1, q.2.1, q.2.2.1, by have := q.2.2.2; omega⟩) id⟩
theorem Nx.nn {s : SS} {f : Int → V} {L : Int} (h : Nx n s f L) : 0 ≤ L := by
  rcases h with ⟨_, h⟩ | ⟨h, q⟩
  · have := sq_nn (1, (n : Int)); omega
  · have := lft_nn h; omega
theorem sq_top (n : Nat) : sq (1, (n : Int)) ≤ (n : Int) * (n : Int) := sq_le (by omega) (by omega)
theorem Nx.ord (hd : Hd n Gd M) (ho : Od Gd lt) {d : SD} {f : Int → V} (h : M d.2.1 d.2.2 f) (hn : d.1 = s0 (n : Int) ∨ (SI n d.1 f ∧ OI n lt d.1 f)) {less : Bool} (hl : d.1 = s0 (n : Int) ∨ less = lt (qs d.1).1 (qs d.1).2) : Bo n lt M (goR d less) := by
  rcases hn with e | ⟨hi, hz⟩
  · obtain ⟨s, t⟩ := d
    simp only at e
    subst e
    have e1 : goR (s0 (n : Int), t) less = nrow (s0 (n : Int), t) := rfl
    rw [e1]
    refine nrow_ord hd (d := (s0 (n : Int), t)) h (fun _ => ⟨Int.le_refl _, Int.le_refl _⟩) (fun r hr => (by cases hr)) (fun a b a1 ab b1 => .inl ⟨_, List.mem_cons_self .., a1, b1⟩) (fun _ r hr => (by cases hr)) List.Pairwise.nil
  · rcases hl with e | e
    · exfalso
      have := hi.st
      rw [e] at this
      have z : (s0 (n : Int)).ak = 0 := rfl
      rcases this with q | q | q | q | q <;> omega
    · subst e
      exact go_ord hd ho h hi hz
/-- Both together: a question, in order so far; or the end, all in order. -/
theorem Nx.both (hd : Hd n Gd M) (ho : Od Gd lt) {d : SD} {f : Int → V} {L : Int} (h : M d.2.1 d.2.2 f) (hn : Nx n d.1 f L) (hz : d.1 = s0 (n : Int) ∨ OI n lt d.1 f) {less : Bool} (hl : d.1 = s0 (n : Int) ∨ less = lt (qs d.1).1 (qs d.1).2) :
    ∃ g, Sc n f g ∧ M (goR d less).1.2.1 (goR d less).1.2.2 g ∧
      (((goR d less).2.2.2.1 = true ∧ (goR d less).2 = askT (qs (goR d less).1.1).1 (qs (goR d less).1.1).2 ∧ SI n (goR d less).1.1 g ∧ OI n lt (goR d less).1.1 g ∧ lft (goR d less).1.1 < L) ∨
        ((goR d less).1.1 = endS 0 ∧ (goR d less).2 = endT 0 ∧ ∀ a b : Int, 1 ≤ a → a < b → b ≤ (n : Int) → lt (g b) (g a) = false)) := by
  have b1 := hn.go hd h less
  have b2 : Bo n lt M (goR d less) := by
    refine Nx.ord hd ho h ?_ hl
    rcases hn with ⟨e, _⟩ | ⟨hi, _⟩
    · exact .inl e
    · rcases hz with e | z
      · exact .inl e
      · exact .inr ⟨hi, z⟩
  obtain ⟨g, g1, g2, g3⟩ := b1
  obtain ⟨k, k1, k2⟩ := b2
  have e : ∀ j, 1 ≤ j → j ≤ (n : Int) → k j = g j := fun j j1 j2 => (hd.rd _ _ k j k1 j1 j2).symm.trans (hd.rd _ _ g j g2 j1 j2)
  refine ⟨g, g1, g2, ?_⟩
  rcases g3 with ⟨q1, q2, q3, q4⟩ | ⟨er, _, q2, q3⟩
  · rcases k2 with ⟨_, z2⟩ | ⟨_, z2, _⟩
    · exact .inl ⟨q1, go_asks d less q1, q3, z2.same q3 e, q4⟩
    · rw [z2] at q1; cases q1
  · rcases k2 with ⟨z1, _⟩ | ⟨z1, z2, z3⟩
    · rw [q3] at z1; cases z1
    · refine .inr ⟨z1, z2, fun a b a1 ab b2 => ?_⟩
      rw [← e a a1 (by omega), ← e b (by omega) b2]
      exact z3 a b a1 ab b2
end
end U
end Go.Proofs.YtcaaaoehipcloaaGreat

/- The sorter from its beginning on: how many rows wait; its numbers are small (no program in it). -/
namespace Go.Proofs.YtcaaaoehipcloaaGreat
namespace U
theorem pop_len : ∀ (l : List (Int × Int)) (lo up : Int) (q : (Int × Int) × List (Int × Int)), pop lo up l = some q → q.2.length ≤ l.length
  | [], lo, up, q, e => by
    unfold pop at e
    split at e
    · obtain rfl := Option.some.inj e; exact Nat.le_refl _
    · cases e
  | r :: l, lo, up, q, e => by
    unfold pop at e
    split at e
    · obtain rfl := Option.some.inj e; exact Nat.le_refl _
    · exact Nat.le_succ_of_le (pop_len l r.1 r.2 q e)
theorem nrow_len (d : SD) : (nrow d).1.1.wt.length ≤ d.1.wt.length := by
  unfold nrow
  cases h : pop d.1.lo d.1.up d.1.wt with
  | none => exact Nat.zero_le _
  | some q => exact pop_len _ _ _ _ h
theorem put_wt (d : SD) (a : Int) (v : V) (b : Int) (u : V) : (putD d a v b u).1 = d.1 := by unfold putD stD; split <;> rfl
theorem split_len (d : SD) : (splitR d).1.1.wt.length ≤ d.1.wt.length := by
  unfold splitR
  split
  · exact nrow_len _
  · simp only
    split
    · exact Nat.zero_le _
    · show (putD _ _ _ _ _).1.wt.length ≤ _
      rw [put_wt]
      exact Nat.le_refl _
theorem part_len (d : SD) : (partR d).1.1.wt.length ≤ d.1.wt.length + 1 := by
  unfold partR
  simp only
  split
  · exact Nat.zero_le _
  · split
    · refine Nat.le_trans (nrow_len _) ?_
      show ((d.1.lo, d.1.i - 1) :: (putD _ _ _ _ _).1.wt).length ≤ _
      rw [put_wt]
      exact Nat.le_refl _
    · refine Nat.le_trans (nrow_len _) ?_
      show ((d.1.i + 1, d.1.up) :: (putD _ _ _ _ _).1.wt).length ≤ _
      rw [put_wt]
      exact Nat.le_refl _
theorem go_len (d : SD) (less : Bool) : (goR d less).1.1.wt.length ≤ d.1.wt.length + 1 := by
  unfold goR
  split
  · unfold endsR
    have hd : (if less = true then putD d d.1.lo d.1.y d.1.up d.1.x else d).1.wt = d.1.wt := by
      split
      · rw [put_wt]
      · rfl
    generalize (if less = true then putE d d.1.lo d.1.y d.1.up d.1.x else 0) = e at *
    generalize (if less = true then putD d d.1.lo d.1.y d.1.up d.1.x else d) = d1 at *
    simp only
    split
    · exact Nat.zero_le _
    · split
      · refine Nat.le_trans (nrow_len _) ?_
        show d1.1.wt.length ≤ _
        rw [hd]; exact Nat.le_succ _
      · show d1.1.wt.length ≤ _
        rw [hd]; exact Nat.le_succ _
  · split
    · unfold lowR
      split
      · simp only
        split
        · exact Nat.zero_le _
        · refine Nat.le_trans (split_len _) ?_
          rw [put_wt]; exact Nat.le_succ _
      · exact Nat.le_succ _
    · split
      · unfold highR
        split
        · simp only
          split
          · exact Nat.zero_le _
          · refine Nat.le_trans (split_len _) ?_
            rw [put_wt]; exact Nat.le_succ _
        · exact Nat.le_trans (split_len _) (Nat.le_succ _)
      · split
        · unfold risingR
          split
          · split
            · exact Nat.zero_le _
            · exact Nat.le_succ _
          · exact Nat.le_succ _
        · split
          · unfold fallingR
            split
            · split
              · exact Nat.zero_le _
              · exact Nat.le_succ _
            · split
              · exact part_len _
              · simp only
                split
                · exact Nat.zero_le _
                · show (putD _ _ _ _ _).1.wt.length ≤ _
                  rw [put_wt]; exact Nat.le_succ _
          · split
            · exact Nat.le_succ _
            · exact Nat.le_trans (nrow_len _) (Nat.le_succ _)
end U
end Go.Proofs.YtcaaaoehipcloaaGreat

/- The sorter's numbers where it stands within 1 to n. -/
namespace Go.Proofs.YtcaaaoehipcloaaGreat
/-- The sorter's numbers are such that one may reckon with them. -/
structure Fit (s : SS) : Prop where
  row : Bdr s
  lo : 1 ≤ s.ak → s.ak ≤ 5 → (-2305843009213693952 ≤ s.lo ∧ s.lo ≤ 2305843009213693952) ∧ (-2305843009213693952 ≤ s.up ∧ s.up ≤ 2305843009213693952) ∧ s.lo < s.up
  p : s.ak = 2 ∨ s.ak = 3 → -2305843009213693952 ≤ s.p ∧ s.p ≤ 2305843009213693952
  i : s.ak = 4 ∨ s.ak = 5 → -2305843009213693952 ≤ s.i ∧ s.i ≤ 2305843009213693952
  j : s.ak = 4 ∨ s.ak = 5 → -2305843009213693952 ≤ s.j ∧ s.j ≤ 2305843009213693952
  wl : s.wt.length ≤ 900000
theorem Fit.wt {s : SS} (h : Fit s) : ∀ r ∈ s.wt, r.1 < r.2 → -4611686018427387904 ≤ r.1 ∧ r.2 ≤ 4611686018427387904 := fun r hr => h.row r (List.mem_cons_of_mem _ hr)
theorem U.Nx.fit {n : Nat} {s : SS} {f : Int → V} {L : Int} (h : U.Nx n s f L) (hn : n ≤ 1000000) (hw : s.wt.length ≤ 900000) : Fit s ∧ 0 ≤ s.ak ∧ s.ak ≤ 6 := by
  rcases h with ⟨e, _⟩ | ⟨hi, _⟩
  · subst e
    refine ⟨⟨fun r hr hlt => ?_, fun q => absurd (show (1 : Int) ≤ 0 from q) (by omega), fun q => ?_, fun q => ?_, fun q => ?_, hw⟩, Int.le_refl _, by show (0 : Int) ≤ 6; omega⟩
    · rcases List.mem_cons.1 hr with e | e
      · subst e
        have h1 : ((U.s0 (n : Int)).lo, (U.s0 (n : Int)).up).1 = 1 := rfl
        have h2 : ((U.s0 (n : Int)).lo, (U.s0 (n : Int)).up).2 = (n : Int) := rfl
        rw [h1, h2]
        omega
      · cases e
    · rcases q with q | q
      · exact absurd (show (0 : Int) = 2 from q) (by omega)
      · exact absurd (show (0 : Int) = 3 from q) (by omega)
    · rcases q with q | q
      · exact absurd (show (0 : Int) = 4 from q) (by omega)
      · exact absurd (show (0 : Int) = 5 from q) (by omega)
    · rcases q with q | q
      · exact absurd (show (0 : Int) = 4 from q) (by omega)
      · exact absurd (show (0 : Int) = 5 from q) (by omega)
  · have h1 := hi.lt
    have h2 := hi.lo
    have h3 := hi.up
    refine ⟨⟨fun r hr hlt => ?_, fun _ _ => ⟨⟨by omega, by omega⟩, ⟨by omega, by omega⟩, h1⟩, fun q => ?_, fun q => ?_, fun q => ?_, hw⟩, ?_⟩
    · rcases List.mem_cons.1 hr with e | e
      · subst e
        simp only
        omega
      · have := hi.wt r e hlt
        omega
    · rcases hi.st with z | z | z | z | z <;> omega
    · rcases hi.st with z | z | z | z | z <;> omega
    · rcases hi.st with z | z | z | z | z <;> omega
    · rcases hi.st with z | z | z | z | z <;> omega
end Go.Proofs.YtcaaaoehipcloaaGreat

/- The walk of goOn. -/
namespace Go.Proofs.YtcaaaoehipcloaaGreat
open Go.RowKit

theorem low_any {No : Nat → Prop} {w : World} {B : Nat} {wv : Value} {T A b a S hb c : Nat} {d : SD} (h : So No w B wv T A b a S hb c d) (hc : c ≤ 400000) (b1 : -2305843009213693952 ≤ d.1.lo) (b2 : d.1.lo ≤ 2305843009213693952) (b3 : -2305843009213693952 ≤ d.1.up) (b4 : d.1.up ≤ 2305843009213693952) (b5 : -2305843009213693952 ≤ d.1.p) (b6 : d.1.p ≤ 2305843009213693952) (hr : ∀ r ∈ d.1.wt, r.1 < r.2 → -4611686018427387904 ≤ r.1 ∧ r.2 ≤ 4611686018427387904) (less : Bool) :
    Calls Tryz.prog 44 #[.pointer (some ⟨B, 0, none⟩), .bool less] w (GP No w B T S hb (c + 31) (lowR d less)) := by
  cases less with
  | true => exact low_y h hc b1 b2 b3 b4 b5 b6 hr
  | false => exact low_n h hc b3 b4
theorem high_any {No : Nat → Prop} {w : World} {B : Nat} {wv : Value} {T A b a S hb c : Nat} {d : SD} (h : So No w B wv T A b a S hb c d) (hc : c ≤ 400000) (b1 : -2305843009213693952 ≤ d.1.lo) (b2 : d.1.lo ≤ 2305843009213693952) (b3 : -2305843009213693952 ≤ d.1.up) (b4 : d.1.up ≤ 2305843009213693952) (b5 : -2305843009213693952 ≤ d.1.p) (b6 : d.1.p ≤ 2305843009213693952) (hr : ∀ r ∈ d.1.wt, r.1 < r.2 → -4611686018427387904 ≤ r.1 ∧ r.2 ≤ 4611686018427387904) (less : Bool) :
    Calls Tryz.prog 45 #[.pointer (some ⟨B, 0, none⟩), .bool less] w (GP No w B T S hb (c + 31) (highR d less)) := by
  cases less with
  | true => exact high_y h hc b1 b2 b3 b4 b5 b6 hr
  | false => exact high_n h hc b1 b2 b3 b4 b5 b6 hr
set_option maxRecDepth 20000 in
set_option maxHeartbeats 4000000 in
theorem goOn_1 {No : Nat → Prop} {w : World} {B : Nat} {wv : Value} {T A b a S hb c : Nat} {d : SD} (h : So No w B wv T A b a S hb c d) (hc : c ≤ 400000) (hf : Fit d.1) (less : Bool) (ea : d.1.ak = 1) :
    Calls Tryz.prog 23 #[.pointer (some ⟨B, 0, none⟩), .bool less] w (GP No w B T S hb (c + 31) (goR d less)) := by
  obtain ⟨N2, s0, HF0⟩ := h.tell2
  have HF : Hid _ := HF0
  obtain ⟨W0, hW0⟩ : ∃ W0, w.alloc z8 = W0 := ⟨_, rfl⟩
  rw [hW0] at HF s0
  unfold z8 at hW0
  clear HF0
  have a4 : W0.cell? ⟨B, 4, none⟩ = some (.int .i64 1) := by
    have e : W0.cell? ⟨B, 4, none⟩ = some (.int .i64 d.1.ak) := s0.so.cell (j := 4) rfl
    rw [ea] at e
    exact e
  obtain ⟨⟨b1, b2⟩, ⟨b3, b4⟩, hlt⟩ := hf.lo (by omega) (by omega)
  have C := s0.of0 (f := 43) (xs := #[.pointer (some ⟨B, 0, none⟩), .bool less]) (bself W0) (fun q => ends_any q (by omega) b1 b2 b3 b4 hlt hf.wt less)
  obtain ⟨R, hR⟩ : ∃ R, goR d less = R := ⟨_, rfl⟩
  have eR : endsR d less = R := by rw [← hR]; unfold goR; rw [if_pos ea]
  rw [hR]
  rw [eR] at C
  unfold GP
  clear h s0 hR eR hf ea
  go_enter Tryz.func23, Tryz.ntmps23
  go_wp2_with fail
  refine (C).mono ?_
  rintro e w4 ⟨rfl, wv4, A4, b4, a4, s4⟩
  obtain ⟨r4, r5, s5, k5⟩ := HF.out w4 wv4 A4 b4 a4 _ _ R.2 s4
  have HZ : Hid (_ ∧ _ ∧ _) := ⟨r5, s5, k5⟩
  obtain ⟨tl, htl⟩ : ∃ tl, R.2 = tl := ⟨_, rfl⟩
  rw [htl] at HZ ⊢
  obtain ⟨W5, hW5⟩ : ∃ W5, set8 w4 w.heap.size tl = W5 := ⟨_, rfl⟩
  rw [hW5] at HZ
  unfold set8 at hW5
  unfold tolV
  obtain ⟨n0, n1, n2, n3, n4, n5, n6, n7⟩ := r4.eight
  simp only [nil] at n0 n1 n2 n3 n4 n5 n6 n7
  have nf := fun j => r4.free j
  clear r4 r5 s5 k5 s4 HF C
  go_wp2
  obtain ⟨q1, q2, q3⟩ := HZ.out
  obtain ⟨r0, r1, r2, r3, r4, r5, r6, r7⟩ := q1.eight
  exact bodyPost_ret (v := tolV tl) (by simp [results, Tryz.results23, go_sem, r0, r1, r2, r3, r4, r5, r6, r7, tolV]) rfl ⟨by first | rfl | rw [htl], ⟨_, _, _, _, q2.more (by omega)⟩, q3⟩
set_option maxRecDepth 20000 in
set_option maxHeartbeats 4000000 in
theorem goOn_2 {No : Nat → Prop} {w : World} {B : Nat} {wv : Value} {T A b a S hb c : Nat} {d : SD} (h : So No w B wv T A b a S hb c d) (hc : c ≤ 400000) (hf : Fit d.1) (less : Bool) (ea : d.1.ak = 2) :
    Calls Tryz.prog 23 #[.pointer (some ⟨B, 0, none⟩), .bool less] w (GP No w B T S hb (c + 31) (goR d less)) := by
  obtain ⟨N2, s0, HF0⟩ := h.tell2
  have HF : Hid _ := HF0
  obtain ⟨W0, hW0⟩ : ∃ W0, w.alloc z8 = W0 := ⟨_, rfl⟩
  rw [hW0] at HF s0
  unfold z8 at hW0
  clear HF0
  have a4 : W0.cell? ⟨B, 4, none⟩ = some (.int .i64 2) := by
    have e : W0.cell? ⟨B, 4, none⟩ = some (.int .i64 d.1.ak) := s0.so.cell (j := 4) rfl
    rw [ea] at e
    exact e
  obtain ⟨⟨b1, b2⟩, ⟨b3, b4⟩, hlt⟩ := hf.lo (by omega) (by omega)
  obtain ⟨b5, b6⟩ := hf.p (by omega)
  have hw := hf.wt
  have C := s0.of0 (f := 44) (xs := #[.pointer (some ⟨B, 0, none⟩), .bool less]) (bself W0) (fun q => low_any q (by omega) b1 b2 b3 b4 b5 b6 hw less)
  clear hlt
  obtain ⟨R, hR⟩ : ∃ R, goR d less = R := ⟨_, rfl⟩
  have eR : lowR d less = R := by rw [← hR]; unfold goR; rw [if_neg (by omega), if_pos ea]
  rw [hR]
  rw [eR] at C
  unfold GP
  clear h s0 hR eR hf ea
  go_enter Tryz.func23, Tryz.ntmps23
  go_wp2_with fail
  refine (C).mono ?_
  rintro e w4 ⟨rfl, wv4, A4, b4, a4, s4⟩
  obtain ⟨r4, r5, s5, k5⟩ := HF.out w4 wv4 A4 b4 a4 _ _ R.2 s4
  have HZ : Hid (_ ∧ _ ∧ _) := ⟨r5, s5, k5⟩
  obtain ⟨tl, htl⟩ : ∃ tl, R.2 = tl := ⟨_, rfl⟩
  rw [htl] at HZ ⊢
  obtain ⟨W5, hW5⟩ : ∃ W5, set8 w4 w.heap.size tl = W5 := ⟨_, rfl⟩
  rw [hW5] at HZ
  unfold set8 at hW5
  unfold tolV
  obtain ⟨n0, n1, n2, n3, n4, n5, n6, n7⟩ := r4.eight
  simp only [nil] at n0 n1 n2 n3 n4 n5 n6 n7
  have nf := fun j => r4.free j
  clear r4 r5 s5 k5 s4 HF C
  go_wp2
  obtain ⟨q1, q2, q3⟩ := HZ.out
  obtain ⟨r0, r1, r2, r3, r4, r5, r6, r7⟩ := q1.eight
  exact bodyPost_ret (v := tolV tl) (by simp [results, Tryz.results23, go_sem, r0, r1, r2, r3, r4, r5, r6, r7, tolV]) rfl ⟨by first | rfl | rw [htl], ⟨_, _, _, _, q2.more (by omega)⟩, q3⟩
set_option maxRecDepth 20000 in
set_option maxHeartbeats 4000000 in
theorem goOn_3 {No : Nat → Prop} {w : World} {B : Nat} {wv : Value} {T A b a S hb c : Nat} {d : SD} (h : So No w B wv T A b a S hb c d) (hc : c ≤ 400000) (hf : Fit d.1) (less : Bool) (ea : d.1.ak = 3) :
    Calls Tryz.prog 23 #[.pointer (some ⟨B, 0, none⟩), .bool less] w (GP No w B T S hb (c + 31) (goR d less)) := by
  obtain ⟨N2, s0, HF0⟩ := h.tell2
  have HF : Hid _ := HF0
  obtain ⟨W0, hW0⟩ : ∃ W0, w.alloc z8 = W0 := ⟨_, rfl⟩
  rw [hW0] at HF s0
  unfold z8 at hW0
  clear HF0
  have a4 : W0.cell? ⟨B, 4, none⟩ = some (.int .i64 3) := by
    have e : W0.cell? ⟨B, 4, none⟩ = some (.int .i64 d.1.ak) := s0.so.cell (j := 4) rfl
    rw [ea] at e
    exact e
  obtain ⟨⟨b1, b2⟩, ⟨b3, b4⟩, hlt⟩ := hf.lo (by omega) (by omega)
  obtain ⟨b5, b6⟩ := hf.p (by omega)
  have hw := hf.wt
  have C := s0.of0 (f := 45) (xs := #[.pointer (some ⟨B, 0, none⟩), .bool less]) (bself W0) (fun q => high_any q (by omega) b1 b2 b3 b4 b5 b6 hw less)
  clear hlt
  obtain ⟨R, hR⟩ : ∃ R, goR d less = R := ⟨_, rfl⟩
  have eR : highR d less = R := by rw [← hR]; unfold goR; rw [if_neg (by omega), if_neg (by omega), if_pos ea]
  rw [hR]
  rw [eR] at C
  unfold GP
  clear h s0 hR eR hf ea
  go_enter Tryz.func23, Tryz.ntmps23
  go_wp2_with fail
  refine (C).mono ?_
  rintro e w4 ⟨rfl, wv4, A4, b4, a4, s4⟩
  obtain ⟨r4, r5, s5, k5⟩ := HF.out w4 wv4 A4 b4 a4 _ _ R.2 s4
  have HZ : Hid (_ ∧ _ ∧ _) := ⟨r5, s5, k5⟩
  obtain ⟨tl, htl⟩ : ∃ tl, R.2 = tl := ⟨_, rfl⟩
  rw [htl] at HZ ⊢
  obtain ⟨W5, hW5⟩ : ∃ W5, set8 w4 w.heap.size tl = W5 := ⟨_, rfl⟩
  rw [hW5] at HZ
  unfold set8 at hW5
  unfold tolV
  obtain ⟨n0, n1, n2, n3, n4, n5, n6, n7⟩ := r4.eight
  simp only [nil] at n0 n1 n2 n3 n4 n5 n6 n7
  have nf := fun j => r4.free j
  clear r4 r5 s5 k5 s4 HF C
  go_wp2
  obtain ⟨q1, q2, q3⟩ := HZ.out
  obtain ⟨r0, r1, r2, r3, r4, r5, r6, r7⟩ := q1.eight
  exact bodyPost_ret (v := tolV tl) (by simp [results, Tryz.results23, go_sem, r0, r1, r2, r3, r4, r5, r6, r7, tolV]) rfl ⟨by first | rfl | rw [htl], ⟨_, _, _, _, q2.more (by omega)⟩, q3⟩
set_option maxRecDepth 20000 in
set_option maxHeartbeats 4000000 in
theorem goOn_4 {No : Nat → Prop} {w : World} {B : Nat} {wv : Value} {T A b a S hb c : Nat} {d : SD} (h : So No w B wv T A b a S hb c d) (hc : c ≤ 400000) (hf : Fit d.1) (less : Bool) (ea : d.1.ak = 4) :
    Calls Tryz.prog 23 #[.pointer (some ⟨B, 0, none⟩), .bool less] w (GP No w B T S hb (c + 31) (goR d less)) := by
  obtain ⟨N2, s0, HF0⟩ := h.tell2
  have HF : Hid _ := HF0
  obtain ⟨W0, hW0⟩ : ∃ W0, w.alloc z8 = W0 := ⟨_, rfl⟩
  rw [hW0] at HF s0
  unfold z8 at hW0
  clear HF0
  have a4 : W0.cell? ⟨B, 4, none⟩ = some (.int .i64 4) := by
    have e : W0.cell? ⟨B, 4, none⟩ = some (.int .i64 d.1.ak) := s0.so.cell (j := 4) rfl
    rw [ea] at e
    exact e
  obtain ⟨⟨b1, b2⟩, ⟨b3, b4⟩, hlt⟩ := hf.lo (by omega) (by omega)
  obtain ⟨b7, b8⟩ := hf.i (by omega)
  obtain ⟨b9, b10⟩ := hf.j (by omega)
  have C := s0.of0 (f := 46) (xs := #[.pointer (some ⟨B, 0, none⟩), .bool less]) (bself W0) (fun q => rising_any q (by omega) (by omega) (by omega) (by omega) (by omega) (by omega) (by omega) less)
  clear hlt
  obtain ⟨R, hR⟩ : ∃ R, goR d less = R := ⟨_, rfl⟩
  have eR : risingR d less = R := by rw [← hR]; unfold goR; rw [if_neg (by omega), if_neg (by omega), if_neg (by omega), if_pos ea]
  rw [hR]
  rw [eR] at C
  unfold GP
  clear h s0 hR eR hf ea
  go_enter Tryz.func23, Tryz.ntmps23
  go_wp2_with fail
  refine (C).mono ?_
  rintro e w4 ⟨rfl, wv4, A4, b4, a4, s4⟩
  obtain ⟨r4, r5, s5, k5⟩ := HF.out w4 wv4 A4 b4 a4 _ _ R.2 s4
  have HZ : Hid (_ ∧ _ ∧ _) := ⟨r5, s5, k5⟩
  obtain ⟨tl, htl⟩ : ∃ tl, R.2 = tl := ⟨_, rfl⟩
  rw [htl] at HZ ⊢
  obtain ⟨W5, hW5⟩ : ∃ W5, set8 w4 w.heap.size tl = W5 := ⟨_, rfl⟩
  rw [hW5] at HZ
  unfold set8 at hW5
  unfold tolV
  obtain ⟨n0, n1, n2, n3, n4, n5, n6, n7⟩ := r4.eight
  simp only [nil] at n0 n1 n2 n3 n4 n5 n6 n7
  have nf := fun j => r4.free j
  clear r4 r5 s5 k5 s4 HF C
  go_wp2
  obtain ⟨q1, q2, q3⟩ := HZ.out
  obtain ⟨r0, r1, r2, r3, r4, r5, r6, r7⟩ := q1.eight
  exact bodyPost_ret (v := tolV tl) (by simp [results, Tryz.results23, go_sem, r0, r1, r2, r3, r4, r5, r6, r7, tolV]) rfl ⟨by first | rfl | rw [htl], ⟨_, _, _, _, q2.more (by omega)⟩, q3⟩
set_option maxRecDepth 20000 in
set_option maxHeartbeats 4000000 in
theorem goOn_5 {No : Nat → Prop} {w : World} {B : Nat} {wv : Value} {T A b a S hb c : Nat} {d : SD} (h : So No w B wv T A b a S hb c d) (hc : c ≤ 400000) (hf : Fit d.1) (less : Bool) (ea : d.1.ak = 5) :
    Calls Tryz.prog 23 #[.pointer (some ⟨B, 0, none⟩), .bool less] w (GP No w B T S hb (c + 31) (goR d less)) := by
  obtain ⟨N2, s0, HF0⟩ := h.tell2
  have HF : Hid _ := HF0
  obtain ⟨W0, hW0⟩ : ∃ W0, w.alloc z8 = W0 := ⟨_, rfl⟩
  rw [hW0] at HF s0
  unfold z8 at hW0
  clear HF0
  have a4 : W0.cell? ⟨B, 4, none⟩ = some (.int .i64 5) := by
    have e : W0.cell? ⟨B, 4, none⟩ = some (.int .i64 d.1.ak) := s0.so.cell (j := 4) rfl
    rw [ea] at e
    exact e
  obtain ⟨⟨b1, b2⟩, ⟨b3, b4⟩, hlt⟩ := hf.lo (by omega) (by omega)
  obtain ⟨b7, b8⟩ := hf.i (by omega)
  obtain ⟨b9, b10⟩ := hf.j (by omega)
  have C := s0.of0 (f := 47) (xs := #[.pointer (some ⟨B, 0, none⟩), .bool less]) (bself W0) (fun q => falling_any q (by omega) b1 b2 b3 b4 b7 b8 b9 b10 hf.wl hf.wt less)
  clear hlt
  obtain ⟨R, hR⟩ : ∃ R, goR d less = R := ⟨_, rfl⟩
  have eR : fallingR d less = R := by rw [← hR]; unfold goR; rw [if_neg (by omega), if_neg (by omega), if_neg (by omega), if_neg (by omega), if_pos ea]
  rw [hR]
  rw [eR] at C
  unfold GP
  clear h s0 hR eR hf ea
  go_enter Tryz.func23, Tryz.ntmps23
  go_wp2_with fail
  refine (C).mono ?_
  rintro e w4 ⟨rfl, wv4, A4, b4, a4, s4⟩
  obtain ⟨r4, r5, s5, k5⟩ := HF.out w4 wv4 A4 b4 a4 _ _ R.2 s4
  have HZ : Hid (_ ∧ _ ∧ _) := ⟨r5, s5, k5⟩
  obtain ⟨tl, htl⟩ : ∃ tl, R.2 = tl := ⟨_, rfl⟩
  rw [htl] at HZ ⊢
  obtain ⟨W5, hW5⟩ : ∃ W5, set8 w4 w.heap.size tl = W5 := ⟨_, rfl⟩
  rw [hW5] at HZ
  unfold set8 at hW5
  unfold tolV
  obtain ⟨n0, n1, n2, n3, n4, n5, n6, n7⟩ := r4.eight
  simp only [nil] at n0 n1 n2 n3 n4 n5 n6 n7
  have nf := fun j => r4.free j
  clear r4 r5 s5 k5 s4 HF C
  go_wp2
  obtain ⟨q1, q2, q3⟩ := HZ.out
  obtain ⟨r0, r1, r2, r3, r4, r5, r6, r7⟩ := q1.eight
  exact bodyPost_ret (v := tolV tl) (by simp [results, Tryz.results23, go_sem, r0, r1, r2, r3, r4, r5, r6, r7, tolV]) rfl ⟨by first | rfl | rw [htl], ⟨_, _, _, _, q2.more (by omega)⟩, q3⟩
set_option maxRecDepth 20000 in
set_option maxHeartbeats 4000000 in
theorem goOn_0 {No : Nat → Prop} {w : World} {B : Nat} {wv : Value} {T A b a S hb c : Nat} {d : SD} (h : So No w B wv T A b a S hb c d) (hc : c ≤ 400000) (hf : Fit d.1) (less : Bool) (ea : d.1.ak = 0) :
    Calls Tryz.prog 23 #[.pointer (some ⟨B, 0, none⟩), .bool less] w (GP No w B T S hb (c + 31) (goR d less)) := by
  obtain ⟨N2, s0, HF0⟩ := h.tell2
  have HF : Hid _ := HF0
  obtain ⟨W0, hW0⟩ : ∃ W0, w.alloc z8 = W0 := ⟨_, rfl⟩
  rw [hW0] at HF s0
  unfold z8 at hW0
  clear HF0
  have a4 : W0.cell? ⟨B, 4, none⟩ = some (.int .i64 0) := by
    have e : W0.cell? ⟨B, 4, none⟩ = some (.int .i64 d.1.ak) := s0.so.cell (j := 4) rfl
    rw [ea] at e
    exact e
  have C := s0.of0 (f := 48) (xs := #[.pointer (some ⟨B, 0, none⟩)]) (bself W0) (fun q => nrow_any q (by omega) hf.row)
  obtain ⟨R, hR⟩ : ∃ R, goR d less = R := ⟨_, rfl⟩
  have eR : nrow d = R := by rw [← hR]; unfold goR; rw [if_neg (by omega), if_neg (by omega), if_neg (by omega), if_neg (by omega), if_neg (by omega), if_neg (by omega)]
  rw [hR]
  rw [eR] at C
  unfold GP
  clear h s0 hR eR hf ea
  go_enter Tryz.func23, Tryz.ntmps23
  go_wp2_with fail
  refine (C).mono ?_
  rintro e w4 ⟨rfl, wv4, A4, b4, a4, s4⟩
  obtain ⟨r4, r5, s5, k5⟩ := HF.out w4 wv4 A4 b4 a4 _ _ R.2 s4
  have HZ : Hid (_ ∧ _ ∧ _) := ⟨r5, s5, k5⟩
  obtain ⟨tl, htl⟩ : ∃ tl, R.2 = tl := ⟨_, rfl⟩
  rw [htl] at HZ ⊢
  obtain ⟨W5, hW5⟩ : ∃ W5, set8 w4 w.heap.size tl = W5 := ⟨_, rfl⟩
  rw [hW5] at HZ
  unfold set8 at hW5
  unfold tolV
  obtain ⟨n0, n1, n2, n3, n4, n5, n6, n7⟩ := r4.eight
  simp only [nil] at n0 n1 n2 n3 n4 n5 n6 n7
  have nf := fun j => r4.free j
  clear r4 r5 s5 k5 s4 HF C
  go_wp2
  obtain ⟨q1, q2, q3⟩ := HZ.out
  obtain ⟨r0, r1, r2, r3, r4, r5, r6, r7⟩ := q1.eight
  exact bodyPost_ret (v := tolV tl) (by simp [results, Tryz.results23, go_sem, r0, r1, r2, r3, r4, r5, r6, r7, tolV]) rfl ⟨by first | rfl | rw [htl], ⟨_, _, _, _, q2.more (by omega)⟩, q3⟩
set_option maxRecDepth 20000 in
set_option maxHeartbeats 4000000 in
theorem goOn_6 {No : Nat → Prop} {w : World} {B : Nat} {wv : Value} {T A b a S hb c : Nat} {d : SD} (h : So No w B wv T A b a S hb c d) (less : Bool) (ea : d.1.ak = 6) :
    Calls Tryz.prog 23 #[.pointer (some ⟨B, 0, none⟩), .bool less] w (GP No w B T S hb (c + 31) (goR d less)) := by
  obtain ⟨N2, s0, HF0⟩ := h.tell2
  have HF : Hid _ := HF0
  obtain ⟨W0, hW0⟩ : ∃ W0, w.alloc z8 = W0 := ⟨_, rfl⟩
  rw [hW0] at HF s0
  unfold z8 at hW0
  clear HF0
  have a4 : W0.cell? ⟨B, 4, none⟩ = some (.int .i64 6) := by
    have e : W0.cell? ⟨B, 4, none⟩ = some (.int .i64 d.1.ak) := s0.so.cell (j := 4) rfl
    rw [ea] at e
    exact e
  have a17 : W0.cell? ⟨B, 17, none⟩ = some (.int .i64 d.1.er) := s0.so.cell (j := 17) rfl
  have eR : goR d less = (d, endT d.1.er) := by unfold goR; rw [if_neg (by omega), if_neg (by omega), if_neg (by omega), if_neg (by omega), if_neg (by omega), if_pos ea]
  rw [eR]
  unfold GP
  obtain ⟨r4, r5, s5, k5⟩ := HF.out W0 wv A b a c d (endT d.1.er) s0
  have HZ : Hid (_ ∧ _ ∧ _) := ⟨r5, s5, k5⟩
  obtain ⟨W5, hW5⟩ : ∃ W5, set8 W0 w.heap.size (endT d.1.er) = W5 := ⟨_, rfl⟩
  rw [hW5] at HZ
  unfold set8 endT nil at hW5
  obtain ⟨n0, n1, n2, n3, n4, n5, n6, n7⟩ := r4.eight
  simp only [nil] at n0 n1 n2 n3 n4 n5 n6 n7
  have nf := fun j => r4.free j
  clear r4 r5 s5 k5 HF h s0 eR ea
  go_enter Tryz.func23, Tryz.ntmps23
  go_wp2
  obtain ⟨q1, q2, q3⟩ := HZ.out
  obtain ⟨r0, r1, r2, r3, r4, r5, r6, r7⟩ := q1.eight
  exact bodyPost_ret (v := tolV (endT d.1.er)) (by simp [results, Tryz.results23, go_sem, r0, r1, r2, r3, r4, r5, r6, r7, tolV]) rfl ⟨rfl, ⟨_, _, _, _, q2.more (by omega)⟩, q3⟩
theorem goOn_any {No : Nat → Prop} {w : World} {B : Nat} {wv : Value} {T A b a S hb c : Nat} {d : SD} (h : So No w B wv T A b a S hb c d) (hc : c ≤ 400000) (hf : Fit d.1) (less : Bool) (ha : 0 ≤ d.1.ak ∧ d.1.ak ≤ 6) :
    Calls Tryz.prog 23 #[.pointer (some ⟨B, 0, none⟩), .bool less] w (GP No w B T S hb (c + 31) (goR d less)) := by
  rcases (show d.1.ak = 0 ∨ d.1.ak = 1 ∨ d.1.ak = 2 ∨ d.1.ak = 3 ∨ d.1.ak = 4 ∨ d.1.ak = 5 ∨ d.1.ak = 6 by omega) with e | e | e | e | e | e | e
  · exact goOn_0 h hc hf less e
  · exact goOn_1 h hc hf less e
  · exact goOn_2 h hc hf less e
  · exact goOn_3 h hc hf less e
  · exact goOn_4 h hc hf less e
  · exact goOn_5 h hc hf less e
  · exact goOn_6 h less e
end Go.Proofs.YtcaaaoehipcloaaGreat
