/- Both tables in one memory: the program's and the reference's. The great seat's numbers. -/
import Derived.Test.YtkmopcanaalemabGreatCg42
import Derived.Test.YtkmopcanaalemabGreatCg43
import Derived.Test.YtkmopcanaalemabGreatCg44
namespace Go.Proofs.YtkmopcanaalemabGreat
open Go.RowKit

/-- Q: blocks that neither table's call touches. -/
structure Bz (Q : Nat → Prop) (w : World) (T S hb RT G c : Nat) (t : TS) (s : H.St) (u : TS) (s' : H.St) : Prop where
  tt : ∃ N1 N2 : Nat → Prop, (∃ A b a, TT N1 w T A b a S hb c t s) ∧ (∃ A P ka va ca cb, RQ N2 w RT A P ka va ca cb G c u s') ∧ (∀ g, g < w.heap.size → N1 g ∨ N2 g) ∧ ∀ g, Q g → N1 g ∧ N2 g
variable {Q : Nat → Prop} {w w' : World} {T S hb RT G c : Nat} {t u : TS} {s s' : H.St}
theorem Bz.more {c' : Nat} (h : Bz Q w T S hb RT G c t s u s') (hc : c ≤ c') : Bz Q w T S hb RT G c' t s u s' := by
  obtain ⟨N1, N2, ⟨A, b, a, h1⟩, ⟨A', P, ka, va, ca, cb, h2⟩, h3, h4⟩ := h.tt
  exact ⟨⟨N1, N2, ⟨A, b, a, h1.more hc⟩, ⟨A', P, ka, va, ca, cb, h2.more hc⟩, h3, h4⟩⟩
theorem Bz.sub {Q' : Nat → Prop} (h : Bz Q w T S hb RT G c t s u s') (hq : ∀ g, Q' g → Q g) : Bz Q' w T S hb RT G c t s u s' := by
  obtain ⟨N1, N2, h1, h2, h3, h4⟩ := h.tt
  exact ⟨⟨N1, N2, h1, h2, h3, fun g q => h4 g (hq g q)⟩⟩
theorem Bz.news (h : Bz Q w T S hb RT G c t s u s') (k : Below w.heap.size w w') : Bz (fun g => Q g ∨ (w.heap.size ≤ g ∧ g < w'.heap.size)) w' T S hb RT G c t s u s' := by
  obtain ⟨N1, N2, ⟨A, b, a, h1⟩, ⟨A', P, ka, va, ca, cb, h2⟩, h3, h4⟩ := h.tt
  refine ⟨⟨_, _, ⟨A, b, a, h1.news k⟩, ⟨A', P, ka, va, ca, cb, h2.news k⟩, fun g q => ?_, fun g q => ?_⟩⟩
  · by_cases hg : g < w.heap.size
    · rcases h3 g hg with r | r
      · exact .inl (.inl r)
      · exact .inr (.inl r)
    · exact .inl (.inr ⟨by omega, q⟩)
  · rcases q with q | q
    · exact ⟨.inl (h4 g q).1, .inl (h4 g q).2⟩
    · exact ⟨.inr q, .inr q⟩
theorem Bz.below (h : Bz Q w T S hb RT G c t s u s') (k : Below w.heap.size w w') : Bz Q w' T S hb RT G c t s u s' := (h.news k).sub (fun _ q => .inl q)
theorem Bz.ti (h : Bz Q w T S hb RT G c t s u s') : TI t.p ∧ TI u.p := by
  obtain ⟨N1, N2, ⟨A, b, a, h1⟩, ⟨A', P, ka, va, ca, cb, h2⟩, h3, h4⟩ := h.tt
  exact ⟨h1.ti, h2.ti⟩
theorem Bz.pr (h : Bz Q w T S hb RT G c t s u s') : 0 ≤ t.pr ∧ t.pr ≤ (c : Int) * 65536 := by
  obtain ⟨N1, N2, ⟨A, b, a, h1⟩, _⟩ := h.tt
  exact ⟨h1.p0, h1.p1⟩
/-- Behind a call of the program's. -/
theorem Bz.prog (h : Bz Q w T S hb RT G c t s u s') {c' : Nat} {t' : TS} {s2 : H.St} (hc : c ≤ c') (hh : ∀ N1, (∃ A b a, TT N1 w T A b a S hb c t s) → (∃ A b a, TT N1 w' T A b a S hb c' t' s2) ∧ Keep N1 w w') : Bz Q w' T S hb RT G c' t' s2 u s' ∧ Keep Q w w' := by
  obtain ⟨N1, N2, h1, ⟨A', P, ka, va, ca, cb, h2⟩, h3, h4⟩ := h.tt
  obtain ⟨h1', kk⟩ := hh N1 h1
  have f2 := h2.frame (w' := w') ⟨kk.os, kk.tape, kk.output, kk.size, fun g hg hn => kk.block g hg ((h3 g hg).resolve_right hn)⟩
  have kQ : Keep Q w w' := kk.sub (fun g q => (h4 g q).1)
  refine ⟨⟨⟨N1, _, h1', ⟨A', P, ka, va, ca, cb, f2.more hc⟩, fun g q => ?_, fun g q => ⟨(h4 g q).1, .inl (h4 g q).2⟩⟩⟩, kQ⟩
  by_cases hg : g < w.heap.size
  · rcases h3 g hg with r | r
    · exact .inl r
    · exact .inr (.inl r)
  · exact .inr (.inr ⟨by omega, q⟩)
/-- Behind a call of the reference's. -/
theorem Bz.refr (h : Bz Q w T S hb RT G c t s u s') {c' : Nat} {u' : TS} {s2 : H.St} (hc : c ≤ c') (hh : ∀ N2, (∃ A P ka va ca cb, RQ N2 w RT A P ka va ca cb G c u s') → (∃ A P ka va ca cb, RQ N2 w' RT A P ka va ca cb G c' u' s2) ∧ Keep N2 w w') : Bz Q w' T S hb RT G c' t s u' s2 ∧ Keep Q w w' := by
  obtain ⟨N1, N2, ⟨A, b, a, h1⟩, h2, h3, h4⟩ := h.tt
  obtain ⟨h2', kk⟩ := hh N2 h2
  have f1 := h1.frame2 (w' := w') kk.os kk.tape kk.output kk.size (fun g hg hn => kk.block g hg ((h3 g hg).resolve_left hn))
  have kQ : Keep Q w w' := kk.sub (fun g q => (h4 g q).2)
  refine ⟨⟨⟨_, N2, ⟨A, b, a, f1.more hc⟩, h2', fun g q => ?_, fun g q => ⟨.inl (h4 g q).1, (h4 g q).2⟩⟩⟩, kQ⟩
  by_cases hg : g < w.heap.size
  · rcases h3 g hg with r | r
    · exact .inl (.inl r)
    · exact .inr r
  · exact .inl (.inr ⟨by omega, q⟩)
theorem Bz.set (h : Bz Q w T S hb RT G c t s u s') (hc : c ≤ 700000) (k v : V) (hr : Rng k) :
    Calls Tryz.prog 26 #[tp T, vv k, vv v] w fun e w' => e = .returned (.int .i64 (tset t s k v).2.2) ∧ Bz Q w' T S hb RT G (c + 7) (tset t s k v).1 (tset t s k v).2.1 u s' ∧ Keep Q w w' := by
  obtain ⟨N1, N2, ⟨A, b, a, h1⟩, h2, h3, h4⟩ := h.tt
  refine (tset_any h1 hc k v hr).mono ?_
  rintro e w' ⟨rfl, h', kk⟩
  obtain ⟨A', P, ka, va, ca, cb, h2⟩ := h2
  have f2 := h2.frame (w' := w') ⟨kk.os, kk.tape, kk.output, kk.size, fun g hg hn => kk.block g hg ((h3 g hg).resolve_right hn)⟩
  refine ⟨rfl, ⟨⟨N1, _, h', ⟨A', P, ka, va, ca, cb, f2.more (by omega)⟩, fun g q => ?_, fun g q => ⟨(h4 g q).1, .inl (h4 g q).2⟩⟩⟩, kk.sub (fun g q => (h4 g q).1)⟩
  by_cases hg : g < w.heap.size
  · rcases h3 g hg with r | r
    · exact .inl r
    · exact .inr (.inl r)
  · exact .inr (.inr ⟨by omega, q⟩)
theorem Bz.rset (h : Bz Q w T S hb RT G c t s u s') (hc : c ≤ 700000) (k v : V) (hr : Rng k) :
    Calls Tryz.prog 27 #[tp RT, vv k, vv v] w fun e w' => e = .returned (.int .i64 (tset u s' k v).2.2) ∧ Bz Q w' T S hb RT G (c + 7) t s (tset u s' k v).1 (tset u s' k v).2.1 ∧ Keep Q w w' := by
  obtain ⟨N1, N2, ⟨A, b, a, h1⟩, ⟨A', P, ka, va, ca, cb, h2⟩, h3, h4⟩ := h.tt
  refine (rset_any h2 hc k v hr).mono ?_
  rintro e w' ⟨rfl, h', kk⟩
  have f1 := h1.frame2 (w' := w') kk.os kk.tape kk.output kk.size (fun g hg hn => kk.block g hg ((h3 g hg).resolve_left hn))
  refine ⟨rfl, ⟨⟨_, N2, ⟨A, b, a, f1.more (by omega)⟩, h', fun g q => ?_, fun g q => ⟨.inl (h4 g q).1, (h4 g q).2⟩⟩⟩, kk.sub (fun g q => (h4 g q).2)⟩
  by_cases hg : g < w.heap.size
  · rcases h3 g hg with r | r
    · exact .inl (.inl r)
    · exact .inr r
  · exact .inl (.inr ⟨by omega, q⟩)
theorem Bz.get (h : Bz Q w T S hb RT G c t s u s') (hc : c ≤ 700000) (k : V) (hr : Rng k) :
    Calls Tryz.prog 20 #[tp T, vv k] w fun e w' => e = .returned (vv (pget t.p k)) ∧ Bz Q w' T S hb RT G (c + 1) { t with pr := t.pr + (prd t.p k : Nat) } s u s' ∧ Keep Q w w' := by
  obtain ⟨N1, N2, ⟨A, b, a, h1⟩, h2, h3, h4⟩ := h.tt
  refine (tget_any h1 (by omega) k hr).mono ?_
  rintro e w' ⟨rfl, h', kk⟩
  obtain ⟨A', P, ka, va, ca, cb, h2⟩ := h2
  have f2 := h2.frame (w' := w') ⟨kk.os, kk.tape, kk.output, kk.size, fun g hg hn => kk.block g hg ((h3 g hg).resolve_right hn)⟩
  refine ⟨rfl, ⟨⟨N1, _, ⟨A, b, a, h'⟩, ⟨A', P, ka, va, ca, cb, f2.more (by omega)⟩, fun g q => ?_, fun g q => ⟨(h4 g q).1, .inl (h4 g q).2⟩⟩⟩, kk.sub (fun g q => (h4 g q).1)⟩
  by_cases hg : g < w.heap.size
  · rcases h3 g hg with r | r
    · exact .inl r
    · exact .inr (.inl r)
  · exact .inr (.inr ⟨by omega, q⟩)
theorem Bz.probes (h : Bz Q w T S hb RT G c t s u s') : Calls Tryz.prog 32 #[tp T] w fun e w' => e = .returned (.int .i64 t.pr) ∧ w' = w := by
  obtain ⟨N1, N2, ⟨A, b, a, h1⟩, _⟩ := h.tt
  exact probes_any h1.tm
theorem Bz.stats (h : Bz Q w T S hb RT G c t s u s') : Calls Tryz.prog 33 #[tp T] w fun e w' => e = .returned (ts t) ∧ Below w.heap.size w w' := by
  obtain ⟨N1, N2, ⟨A, b, a, h1⟩, _⟩ := h.tt
  exact stats_any h1.tm
/-- The reference's part: where it lies, and its search. -/
theorem Bz.part (h : Bz Q w T S hb RT G c t s u s') : ∃ P, w.cell? ⟨RT, 1, none⟩ = some (.pointer (some ⟨P, 0, none⟩)) ∧
    ∀ k, Rng k → ∀ W, Below w.heap.size w W → Calls Tryz.prog 93 #[.pointer (some ⟨P, 0, none⟩), .agg #[.int .i64 k.1, .int .i64 k.2.1, .string k.2.2]] W fun e w' => e = .returned (.tuple #[.int .i64 (fi (fnd u.p.z u.p.g k).1), .int .i64 ((fnd u.p.z u.p.g k).2 : Nat)]) ∧ Below W.heap.size W w' := by
  obtain ⟨N1, N2, _, ⟨A', P, ka, va, ca, cb, h2⟩, h3, h4⟩ := h.tt
  exact ⟨P, h2.rb.c1, fun k hr W hW => rfind_any k W (h2.rb.rp.below hW) h2.ti.inv h2.ti.rt hr⟩
theorem Bz.pair1 (h : Bz Q w T S hb RT G c t s u s') : Calls Tryz.prog 36 #[tp T, .int .i64 1] w fun e w' => ∃ x y, e = .returned (.tuple #[vv x, vv y]) ∧ Below w.heap.size w w' := by
  obtain ⟨N1, N2, ⟨A, b, a, h1⟩, _⟩ := h.tt
  have hn := h1.ti.le
  have hz := h1.ti.rt.le
  by_cases q : 0 < t.p.n
  · exact (pair_in h1.tm hn 0 q).mono fun e w' hh => ⟨_, _, hh⟩
  · have e0 : t.p.n = 0 := by omega
    have e1 : (t.p.n : Int) + 1 + ((0 : Nat) : Int) = 1 := by rw [e0]; rfl
    by_cases q2 : 0 < t.p.z
    · have C := pair_out h1.tm hn hz 0 q2
      rw [e1] at C
      exact C.mono fun e w' hh => ⟨_, _, hh⟩
    · have C := pair_far h1.tm hn hz 0 (by omega) (by omega)
      rw [e1] at C
      exact C.mono fun e w' hh => ⟨_, _, hh⟩
/-- Both tables behind begin. -/
theorem Bgn.bz {M A b a RA P ka va ca n z : Nat} (h : Bgn w w' M T A b a S hb RT RA P ka va ca G n z t s) : Bz (fun g => g < w.heap.size) w' T S hb RT G 3 t s t s := by
  obtain ⟨W, hMW, nr⟩ := h.nr
  obtain ⟨wa, wb, rn, hb2, hwa⟩ := nr.part
  have et := h.et
  have ep : t.p = fresh n z := by rw [et]; rfl
  have eh : t.hint = 0 := by rw [et]; rfl
  have er : t.pr = 0 := by rw [et]; rfl
  have rs := rn.rs
  have rp : Rp w' P ka va ca z (g0 z) (fun _ => 0) := rs.rp.below hb2
  have own : ∀ x, Rp.Own P ka va ca z (g0 z) (fun _ => 0) x → x = P ∨ x = ka ∨ x = va ∨ x = ca := fun x q => by
    rcases q with q | q | q | q | ⟨_, _, q, _⟩
    · exact .inl q
    · exact .inr (.inl q)
    · exact .inr (.inr (.inl q))
    · exact .inr (.inr (.inr q))
    · exact absurd rfl q
  have ne := nr.ne
  have ge := nr.ge
  have ge2 := rn.ge
  have rb : Rb w' RT RA P ka va ca (fun _ => 0) G t :=
    ⟨by rw [ep, cell_of_row nr.str]; rfl, by rw [cell_of_row nr.str]; rfl, by rw [cell_of_row nr.str]; rfl, by rw [cell_of_row nr.str]; rfl, by rw [eh, cell_of_row nr.str]; rfl, by rw [er, cell_of_row nr.str]; rfl, by rw [cell_of_row nr.str]; rfl, free_of nr.str, by rw [ep]; exact made_vals nr.arr, free_of nr.arr, (Array.getElem?_eq_some_iff.1 nr.str).1, (Array.getElem?_eq_some_iff.1 nr.arr).1, by rw [ep]; exact rp, ne.1,
      fun x q => by rw [ep] at q; have := own x q; omega, fun x q => by rw [ep] at q; have := own x q; omega⟩
  have own2 : ∀ x, Rb.Own RT RA P ka va ca (fun _ => 0) t x → x = RT ∨ x = RA ∨ x = P ∨ x = ka ∨ x = va ∨ x = ca := fun x q => by
    unfold Rb.Own at q
    rw [ep] at q
    rcases q with q | q | q
    · exact .inl q
    · exact .inr (.inl q)
    · exact .inr (.inr (own x q))
  refine ⟨⟨_, fun g => g < M, ⟨A, b, a, h.tt⟩, ⟨RA, P, ka, va, ca, fun _ => 0, rb, h.rh.sub (fun g q => ?_), fun x q e => ?_, by rw [ep]; exact TI.fr0 h.rt h.en, h.iv, by rw [er]; omega, by rw [er]; omega⟩, fun g q => ?_, fun g q => ⟨.inl q, Nat.lt_of_lt_of_le q h.le⟩⟩⟩
  · rcases q with q | q
    · exact .inl q
    · exact .inr (own2 g q)
  · have := own2 x q
    have e' : x < M := e
    omega
  · by_cases hg : g < M
    · exact .inr hg
    · exact .inl (.inr ⟨by omega, q⟩)
end Go.Proofs.YtkmopcanaalemabGreat
