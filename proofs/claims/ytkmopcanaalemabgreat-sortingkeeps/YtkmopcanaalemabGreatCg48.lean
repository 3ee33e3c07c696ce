/- Both tables in one memory, on: each call's contract. The great seat's numbers. -/
import Derived.Test.YtkmopcanaalemabGreatCg47
namespace Go.Proofs.YtkmopcanaalemabGreat
open Go.RowKit

/-- What Pair answers. -/
def prP (p : Pa) (m : Int) : V × V :=
  if m < 1 then (nil, nil) else if m ≤ (p.n : Int) then (kn m, p.F (m - 1).toNat) else if m ≤ ((p.n + p.z : Nat) : Int) then (p.g.K (m - 1 - p.n).toNat, p.g.X (m - 1 - p.n).toNat) else (nil, nil)
theorem tpair_all {w : World} {T A b a S : Nat} {t : TS} (h : Tm w T A b a S t) (ti : TI t.p) (m : Int) (hm : m ≤ 9223372036854775807) :
    Calls Tryz.prog 36 #[tp T, .int .i64 m] w fun e w' => e = .returned (.tuple #[vv (prP t.p m).1, vv (prP t.p m).2]) ∧ Below w.heap.size w w' := by
  have hn := ti.le
  have hz := ti.rt.le
  unfold prP
  by_cases q1 : m < 1
  · rw [if_pos q1]; exact pair_neg m q1 w
  · rw [if_neg q1]
    by_cases q2 : m ≤ (t.p.n : Int)
    · rw [if_pos q2]
      have C := pair_in h hn (m - 1).toNat (by omega)
      rwa [show ((m - 1).toNat : Int) + 1 = m by omega] at C
    · rw [if_neg q2]
      by_cases q3 : m ≤ ((t.p.n + t.p.z : Nat) : Int)
      · rw [if_pos q3]
        have C := pair_out h hn hz (m - 1 - t.p.n).toNat (by omega)
        rwa [show (t.p.n : Int) + 1 + ((m - 1 - t.p.n).toNat : Int) = m by omega] at C
      · rw [if_neg q3]
        have C := pair_far h hn hz (m - 1 - t.p.n).toNat (by omega) (by omega)
        rwa [show (t.p.n : Int) + 1 + ((m - 1 - t.p.n).toNat : Int) = m by omega] at C
theorem rpair_all {w : World} {RT A P ka va ca : Nat} {cb : Nat → Nat} {G : Nat} {t : TS} (h : Rb w RT A P ka va ca cb G t) (ti : TI t.p) (m : Int) :
    Calls Tryz.prog 37 #[tp RT, .int .i64 m] w fun e w' => e = .returned (.tuple #[vv (prP t.p m).1, vv (prP t.p m).2]) ∧ Below w.heap.size w w' := by
  unfold prP
  by_cases q1 : m < 1
  · rw [if_pos q1]; exact rpair_far h ti m (.inl q1)
  · rw [if_neg q1]
    by_cases q2 : m ≤ (t.p.n : Int)
    · rw [if_pos q2]
      have C := rpair_in h ti (m - 1).toNat (by omega)
      rwa [show ((m - 1).toNat : Int) + 1 = m by omega] at C
    · rw [if_neg q2]
      by_cases q3 : m ≤ ((t.p.n + t.p.z : Nat) : Int)
      · rw [if_pos q3]
        have C := rpair_out h ti (m - 1 - t.p.n).toNat (by omega)
        rwa [show (t.p.n : Int) + 1 + ((m - 1 - t.p.n).toNat : Int) = m by omega] at C
      · rw [if_neg q3]; exact rpair_far h ti m (.inr (by omega))
section
variable {Q : Nat → Prop} {w w' : World} {T S hb RT G c : Nat} {t u : TS} {s s' : H.St}
theorem Bz.pair (h : Bz Q w T S hb RT G c t s u s') (m : Int) (hm : m ≤ 9223372036854775807) : Calls Tryz.prog 36 #[tp T, .int .i64 m] w fun e w' => e = .returned (.tuple #[vv (prP t.p m).1, vv (prP t.p m).2]) ∧ Below w.heap.size w w' := by
  obtain ⟨N1, N2, ⟨A, b, a, h1⟩, _⟩ := h.tt
  exact tpair_all h1.tm h1.ti m hm
theorem Bz.rpair (h : Bz Q w T S hb RT G c t s u s') (m : Int) : Calls Tryz.prog 37 #[tp RT, .int .i64 m] w fun e w' => e = .returned (.tuple #[vv (prP u.p m).1, vv (prP u.p m).2]) ∧ Below w.heap.size w w' := by
  obtain ⟨N1, N2, _, ⟨A', P, ka, va, ca, cb, h2⟩, _⟩ := h.tt
  exact rpair_all h2.rb h2.ti m
theorem Bz.rstats (h : Bz Q w T S hb RT G c t s u s') : Calls Tryz.prog 34 #[tp RT] w fun e w' => e = .returned (ts u) ∧ Below w.heap.size w w' := by
  obtain ⟨N1, N2, _, ⟨A', P, ka, va, ca, cb, h2⟩, _⟩ := h.tt
  exact rstats_any h2.rb
theorem Bz.rplaces (h : Bz Q w T S hb RT G c t s u s') : Calls Tryz.prog 35 #[tp RT] w fun e w' => e = .returned (.int .i64 ((u.p.n + u.p.z : Nat) : Int)) ∧ Below w.heap.size w w' := by
  obtain ⟨N1, N2, _, ⟨A', P, ka, va, ca, cb, h2⟩, _⟩ := h.tt
  exact rplaces_any h2.rb h2.ti
theorem Bz.cells (h : Bz Q w T S hb RT G c t s u s') : w.cell? ⟨RT, 5, none⟩ = some (.int .i64 u.pr) ∧ w.cell? ⟨RT, 6, none⟩ = some (.pointer (some ⟨G, 0, none⟩)) := by
  obtain ⟨N1, N2, _, ⟨A', P, ka, va, ca, cb, h2⟩, _⟩ := h.tt
  exact ⟨h2.rb.c5, h2.rb.c6⟩
theorem Bz.blen (h : Bz Q w T S hb RT G c t s u s') : (H.tids s.bl s.bl.length).length ≤ c := by
  obtain ⟨N1, N2, ⟨A, b, a, h1⟩, _⟩ := h.tt
  obtain ⟨v, hp⟩ := h1.hp
  exact Nat.le_trans (H.tids_len _ _) hp.len
/-- A call of the reference's that leaves its blocks where they are. -/
theorem Bz.rcall (h : Bz Q w T S hb RT G c t s u s') {f : Nat} {args : Array Value} {v : Value} {u' : TS} (hh : ∀ N2 A P ka va ca cb, RQ N2 w RT A P ka va ca cb G c u s' → Calls Tryz.prog f args w fun e w' => e = .returned v ∧ RQ N2 w' RT A P ka va ca cb G (c + 1) u' s' ∧ Keep N2 w w') :
    Calls Tryz.prog f args w fun e w' => e = .returned v ∧ Bz Q w' T S hb RT G (c + 1) t s u' s' ∧ Keep Q w w' := by
  obtain ⟨N1, N2, ⟨A, b, a, h1⟩, ⟨A', P, ka, va, ca, cb, h2⟩, h3, h4⟩ := h.tt
  refine (hh _ _ _ _ _ _ _ h2).mono ?_
  rintro e w' ⟨rfl, h', kk⟩
  have f1 := h1.frame2 (w' := w') kk.os kk.tape kk.output kk.size (fun g hg hn => kk.block g hg ((h3 g hg).resolve_left hn))
  refine ⟨rfl, ⟨⟨_, N2, ⟨A, b, a, f1.more (by omega)⟩, ⟨A', P, ka, va, ca, cb, h'⟩, fun g q => ?_, fun g q => ⟨.inl (h4 g q).1, (h4 g q).2⟩⟩⟩, kk.sub (fun g q => (h4 g q).2)⟩
  by_cases hg : g < w.heap.size
  · rcases h3 g hg with r | r
    · exact .inl (.inl r)
    · exact .inr r
  · exact .inl (.inr ⟨by omega, q⟩)
theorem Bz.rget (h : Bz Q w T S hb RT G c t s u s') (hc : c ≤ 700000) (k : V) (hr : Rng k) :
    Calls Tryz.prog 106 #[tp RT, vv k] w fun e w' => e = .returned (vv (pget u.p k)) ∧ Bz Q w' T S hb RT G (c + 1) t s { u with pr := u.pr + (prd u.p k : Nat) } s' ∧ Keep Q w w' :=
  h.rcall fun _ _ _ _ _ _ _ h2 => rtget_any h2 hc k hr
end
end Go.Proofs.YtkmopcanaalemabGreat
