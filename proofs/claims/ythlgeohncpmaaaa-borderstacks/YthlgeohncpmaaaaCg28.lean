/- A small table on a great heap: a Set in form has no error; which numbers above 0 are present. -/
import Derived.Test.YthlgeohncpmaaaaCg24
namespace Go.Proofs.Ythlgeohncpmaaaa
open Go.RowKit

theorem put_e {z : Nat} {g : G} {k v : V} (hk : fm k = true) (hv : fm v = true) (hk0 : k.1 ≠ 0) : (put z g k v).2.2 = 0 ∨ (put z g k v).2.2 = 12 := by
  rw [put, if_pos ⟨hk, hv⟩, if_neg hk0]
  split
  · first | (right; rfl) | (split <;> first | (left; rfl) | (right; rfl))
  · split
    · left; rfl
    · split
      · left; rfl
      · rename_i x _ _ _ _
        show full _ = 0 ∨ full _ = 12
        unfold full
        split
        · left; rfl
        · right; rfl
theorem set_zero {t : TS} {s : H.St} {k v : V} (h : TI t.p) (hr : Rng k) (hk : fm k = true) (hv : fm v = true) (hk0 : k.1 ≠ 0) (tb : TB t s 4) (iv : H.Inv 0 s) (hl : s.lim = 400000) (hn : t.p.n ≤ 2048) (hz : t.p.z ≤ 4096) : (tset t s k v).2.2 = 0 := by
  by_cases he : (pset t.p k v).2.2 = 12
  · exact due_ok h hr ((due_iff h hr).2 ⟨hk, hv, hk0, he⟩) tb iv hl hn hz
  · unfold tset
    rw [if_neg (fun q => q ⟨hk, hv⟩), if_neg hk0, if_pos he]
    show (pset t.p k v).2.2 = 0
    unfold pset at he ⊢
    by_cases hA : inA t.p.n k
    · rw [if_pos hA]
    · rw [if_neg hA] at he ⊢
      exact (put_e hk hv hk0).resolve_right he
/-- The numbers above 0 that are present. -/
def Pos (p : Pa) (D : Int → Prop) : Prop := ∀ i, 1 ≤ i → i ≤ (9223372036854775807 : Int) → (hs p i = true ↔ D i)
theorem KOK_pos {i : Int} (h0 : 1 ≤ i) (h1 : i ≤ (9223372036854775807 : Int)) : KOK (kn i) := ⟨fm_kn i, by simp, by simp; omega, by simp; omega⟩
theorem hs_eq {p q : Pa} {i : Int} (h : pget p (kn i) = pget q (kn i)) : hs p i = hs q i := by unfold hs; rw [h]
theorem Pos.set {t : TS} {s : H.St} {D : Int → Prop} (h : Pos t.p D) (ti : TI t.p) {j : Int} (h0 : 1 ≤ j) (h1 : j ≤ (9223372036854775807 : Int)) {v : V} (hv : v.1 ≠ 0) (e : (tset t s (kn j) v).2.2 = 0) : Pos (tset t s (kn j) v).1.p (fun i => D i ∨ i = j) := fun i g0 g1 => by
  obtain ⟨_, _, q1, q2⟩ := (tset_map (s := s) (v := v) ti (rng_kn (by omega) h1)).1 e
  by_cases hi : i = j
  · subst hi
    unfold hs
    rw [q1]
    simp [hv]
  · rw [hs_eq (q2 (kn i) (KOK_pos g0 g1) (fun q => hi (kn_inj q))), h i g0 g1]
    simp [hi]
theorem Pos.clr {t : TS} {s : H.St} {D : Int → Prop} (h : Pos t.p D) (ti : TI t.p) {j : Int} (h0 : 1 ≤ j) (h1 : j ≤ (9223372036854775807 : Int)) (e : (tset t s (kn j) nil).2.2 = 0) : Pos (tset t s (kn j) nil).1.p (fun i => D i ∧ i ≠ j) := fun i g0 g1 => by
  obtain ⟨_, _, q1, q2⟩ := (tset_map (s := s) (v := nil) ti (rng_kn (by omega) h1)).1 e
  by_cases hi : i = j
  · subst hi
    unfold hs
    rw [q1]
    simp [nil]
  · rw [hs_eq (q2 (kn i) (KOK_pos g0 g1) (fun q => hi (kn_inj q))), h i g0 g1]
    simp [hi]
theorem Pos.other {t : TS} {s : H.St} {D : Int → Prop} (h : Pos t.p D) (ti : TI t.p) {k : V} (hr : Rng k) (hk : k.1 ≠ 2 ∨ k.2.1 ≤ 0) (v : V) : Pos (tset t s k v).1.p D := fun i g0 g1 => by
  obtain ⟨m1, m2⟩ := tset_map (s := s) (v := v) ti hr
  by_cases e : (tset t s k v).2.2 = 0
  · rw [hs_eq ((m1 e).2.2.2 (kn i) (KOK_pos g0 g1) (fun q => by rw [← q] at hk; simp at hk; omega))]
    exact h i g0 g1
  · rw [hs_eq (m2 e (kn i))]
    exact h i g0 g1
theorem Pos.iff {p : Pa} {D E : Int → Prop} (h : Pos p D) (he : ∀ i, 1 ≤ i → i ≤ (9223372036854775807 : Int) → (D i ↔ E i)) : Pos p E := fun i g0 g1 => (h i g0 g1).trans (he i g0 g1)
theorem St0.pos {t : TS} {s : H.St} (h : St0 t s) (ti : TI t.p) : Pos t.p (fun _ => False) := fun i g0 g1 => by
  constructor
  · intro q
    have : kn i ∈ pres t.p := ti.mem_pres.2 ⟨KOK_pos g0 g1, by simpa [hs] using q⟩
    rw [h.pr] at this
    cases this
  · intro q; cases q
theorem St0.sm {t : TS} {s : H.St} (h : St0 t s) : Sm t 0 := ⟨h.n, h.z, by rw [h.pr]; exact Nat.le_refl _⟩
theorem Sm.like {t u : TS} {k : Nat} (h : Sm t k) (e : u.p = t.p) : Sm u k := ⟨by rw [e]; exact h.n, by rw [e]; exact h.z, by rw [e]; exact h.pr⟩
end Go.Proofs.Ythlgeohncpmaaaa

/- The row of BorderRow: who is present when q of M are set. -/
namespace Go.Proofs.Ythlgeohncpmaaaa
open Go.RowKit

/-- Who is present when q of M are set, from below or from above. -/
def Dd (down : Bool) (M q : Nat) (i : Int) : Prop := if down then (M : Int) + 1 - q ≤ i ∧ i ≤ M else i ≤ q
def Dj (down : Bool) (M q : Nat) : Int := if down then (M : Int) - q else (q : Int) + 1
theorem Dd_0 (down : Bool) (M : Nat) (i : Int) (h : 1 ≤ i) : False ↔ Dd down M 0 i := by
  unfold Dd; cases down <;> simp <;> omega
theorem Dd_s {down : Bool} {M q : Nat} (i : Int) : (Dd down M q i ∨ i = Dj down M q) ↔ Dd down M (q + 1) i := by
  unfold Dd Dj; cases down <;> simp <;> omega
theorem Dd_M (down : Bool) (M : Nat) (i : Int) (h : 1 ≤ i) : Dd down M M i ↔ i ≤ M := by
  unfold Dd; cases down <;> simp <;> omega
theorem Bs.row {P : Nat → Prop} {W w : World} {X : Nat} {xs : Value} {T S hb c : Nat} {t : TS} {s : H.St} (h : Bs P W w X xs T S hb c t s) {down : Bool} {M q : Nat} (hM : M < 200) (hq : q < M) (sm : Sm t q) (ps : Pos t.p (Dd down M q)) (hc : c ≤ 700000) :
    Calls Try.prog 11 #[tp T, vv (kn (Dj down M q)), vv (kn ((q : Int) + 1))] w fun e w' => e = .returned (.int .i64 0) ∧ ∃ t' s', Bs P W w' X xs T S hb (c + 7) t' s' ∧ Sm t' (q + 1) ∧ Pos t'.p (Dd down M (q + 1)) := by
  have hj : 1 ≤ Dj down M q ∧ Dj down M q ≤ 200 := by unfold Dj; cases down <;> simp <;> omega
  have ti := h.ti
  have hr : Rng (kn (Dj down M q)) := rng_kn (by omega) (by omega)
  have e0 : (tset t s (kn (Dj down M q)) (kn ((q : Int) + 1))).2.2 = 0 := set_zero ti.1 hr (fm_kn _) (fm_kn _) (by simp) h.tb ti.2 h.lim sm.n sm.z
  refine (h.set hc _ (kn ((q : Int) + 1)) hr).mono ?_
  rintro e w' ⟨rfl, b, _⟩
  exact ⟨by rw [e0], _, _, b, sm.set (by omega) ti.1 hr b.ti.1, (ps.set ti.1 hj.1 (by omega) (by simp) e0).iff (fun i _ _ => Dd_s i)⟩
end Go.Proofs.Ythlgeohncpmaaaa
