/- Both tables in one memory, on: each call's contract. The great seat's numbers. -/
import Derived.Test.YtoomlihccniooaaGreatCg37
namespace Go.Proofs.YtoomlihccniooaaGreat
open Go.RowKit

/-- What Pair answers. -/
def prP (p : Pa) (m : Int) : V × V :=
  if m < 1 then (nil, nil) else if m ≤ (p.n : Int) then (kn m, p.F (m - 1).toNat) else if m ≤ ((p.n + p.z : Nat) : Int) then (p.g.K (m - 1 - p.n).toNat, p.g.X (m - 1 - p.n).toNat) else (nil, nil)
theorem tpair_all {w : World} {T A b a S : Nat} {t : TS} (h : Tm w T A b a S t) (ti : TI t.p) (m : Int) (hm : m ≤ 9223372036854775807) :
    Calls Tryz.prog 74 #[tp T, .int .i64 m] w fun e w' => e = .returned (.tuple #[vv (prP t.p m).1, vv (prP t.p m).2]) ∧ Below w.heap.size w w' := by
  have hn := ti.le
  have hz := ti.rt.le
  unfold prP
  by_cases q1 : m < 1
  · rw [if_pos q1]; exact pair_neg m q1 w
  · rw [if_neg q1]
    by_cases q2 : m ≤ (t.p.n : Int)
    · rw [if_pos q2]
      have C := pair_in h hn (m - 1).toNat (by omega)
      rwa [show ((m - 1).toNat : Int) + 1 = m by omega] at C
    · rw [if_neg q2]
      by_cases q3 : m ≤ ((t.p.n + t.p.z : Nat) : Int)
      · rw [if_pos q3]
        have C := pair_out h hn hz (m - 1 - t.p.n).toNat (by omega)
        rwa [show (t.p.n : Int) + 1 + ((m - 1 - t.p.n).toNat : Int) = m by omega] at C
      · rw [if_neg q3]
        have C := pair_far h hn hz (m - 1 - t.p.n).toNat (by omega) (by omega)
        rwa [show (t.p.n : Int) + 1 + ((m - 1 - t.p.n).toNat : Int) = m by omega] at C
theorem rpair_all {w : World} {RT A P ka va ca : Nat} {cb : Nat → Nat} {G : Nat} {t : TS} (h : Rb w RT A P ka va ca cb G t) (ti : TI t.p) (m : Int) :
    Calls Tryz.prog 56 #[tp RT, .int .i64 m] w fun e w' => e = .returned (.tuple #[vv (prP t.p m).1, vv (prP t.p m).2]) ∧ Below w.heap.size w w' := by
  unfold prP
  by_cases q1 : m < 1
  · rw [if_pos q1]; exact rpair_far h ti m (.inl q1)
  · rw [if_neg q1]
    by_cases q2 : m ≤ (t.p.n : Int)
    · rw [if_pos q2]
      have C := rpair_in h ti (m - 1).toNat (by omega)
      rwa [show ((m - 1).toNat : Int) + 1 = m by omega] at C
    · rw [if_neg q2]
      by_cases q3 : m ≤ ((t.p.n + t.p.z : Nat) : Int)
      · rw [if_pos q3]
        have C := rpair_out h ti (m - 1 - t.p.n).toNat (by omega)
        rwa [show (t.p.n : Int) + 1 + ((m - 1 - t.p.n).toNat : Int) = m by omega] at C
      · rw [if_neg q3]; exact rpair_far h ti m (.inr (by omega))
section
variable {Q : Nat → Prop} {w w' : World} {T S hb RT G c : Nat} {t u : TS} {s s' : H.St}
theorem Bz.pair (h : Bz Q w T S hb RT G c t s u s') (m : Int) (hm : m ≤ 9223372036854775807) : Calls Tryz.prog 74 #[tp T, .int .i64 m] w fun e w' => e = .returned (.tuple #[vv (prP t.p m).1, vv (prP t.p m).2]) ∧ Below w.heap.size w w' := by
  obtain ⟨N1, N2, ⟨A, b, a, h1⟩, _⟩ := h.tt
  exact tpair_all h1.tm h1.ti m hm
theorem Bz.rpair (h : Bz Q w T S hb RT G c t s u s') (m : Int) : Calls Tryz.prog 56 #[tp RT, .int .i64 m] w fun e w' => e = .returned (.tuple #[vv (prP u.p m).1, vv (prP u.p m).2]) ∧ Below w.heap.size w w' := by
  obtain ⟨N1, N2, _, ⟨A', P, ka, va, ca, cb, h2⟩, _⟩ := h.tt
  exact rpair_all h2.rb h2.ti m
theorem Bz.rstats (h : Bz Q w T S hb RT G c t s u s') : Calls Tryz.prog 18 #[tp RT] w fun e w' => e = .returned (ts u) ∧ Below w.heap.size w w' := by
  obtain ⟨N1, N2, _, ⟨A', P, ka, va, ca, cb, h2⟩, _⟩ := h.tt
  exact rstats_any h2.rb
theorem Bz.places (h : Bz Q w T S hb RT G c t s u s') : Calls Tryz.prog 82 #[tp T] w fun e w' => e = .returned (.int .i64 ((t.p.n + t.p.z : Nat) : Int)) ∧ Below w.heap.size w w' := by
  obtain ⟨N1, N2, ⟨A, b, a, h1⟩, _⟩ := h.tt
  exact places_any h1.tm h1.ti.le h1.ti.rt.le
theorem Bz.rplaces (h : Bz Q w T S hb RT G c t s u s') : Calls Tryz.prog 55 #[tp RT] w fun e w' => e = .returned (.int .i64 ((u.p.n + u.p.z : Nat) : Int)) ∧ Below w.heap.size w w' := by
  obtain ⟨N1, N2, _, ⟨A', P, ka, va, ca, cb, h2⟩, _⟩ := h.tt
  exact rplaces_any h2.rb h2.ti
theorem Bz.cells (h : Bz Q w T S hb RT G c t s u s') : w.cell? ⟨RT, 5, none⟩ = some (.int .i64 u.pr) ∧ w.cell? ⟨RT, 6, none⟩ = some (.pointer (some ⟨G, 0, none⟩)) := by
  obtain ⟨N1, N2, _, ⟨A', P, ka, va, ca, cb, h2⟩, _⟩ := h.tt
  exact ⟨h2.rb.c5, h2.rb.c6⟩
theorem Bz.blen (h : Bz Q w T S hb RT G c t s u s') : (H.tids s.bl s.bl.length).length ≤ c := by
  obtain ⟨N1, N2, ⟨A, b, a, h1⟩, _⟩ := h.tt
  obtain ⟨v, hp⟩ := h1.hp
  exact Nat.le_trans (H.tids_len _ _) hp.len
theorem Bz.place (h : Bz Q w T S hb RT G c t s u s') (hc : c ≤ 700000) (k : V) (hr : Rng k) :
    Calls Tryz.prog 52 #[tp T, vv k] w fun e w' => e = .returned (.int .i64 (plc t.p k)) ∧ Bz Q w' T S hb RT G (c + 1) { t with pr := t.pr + (prd t.p k : Nat) } s u s' ∧ Keep Q w w' := by
  obtain ⟨N1, N2, ⟨A, b, a, h1⟩, h2, h3, h4⟩ := h.tt
  refine (place_any h1 (by omega) k hr).mono ?_
  rintro e w' ⟨rfl, h', kk⟩
  obtain ⟨A', P, ka, va, ca, cb, h2⟩ := h2
  have f2 := h2.frame (w' := w') ⟨kk.os, kk.tape, kk.output, kk.size, fun g hg hn => kk.block g hg ((h3 g hg).resolve_right hn)⟩
  refine ⟨rfl, ⟨⟨N1, _, ⟨A, b, a, h'⟩, ⟨A', P, ka, va, ca, cb, f2.more (by omega)⟩, fun g q => ?_, fun g q => ⟨(h4 g q).1, .inl (h4 g q).2⟩⟩⟩, kk.sub (fun g q => (h4 g q).1)⟩
  by_cases hg : g < w.heap.size
  · rcases h3 g hg with r | r
    · exact .inl r
    · exact .inr (.inl r)
  · exact .inr (.inr ⟨by omega, q⟩)
theorem Bz.hint (h : Bz Q w T S hb RT G c t s u s') (n : Int) :
    Calls Tryz.prog 15 #[tp T, .int .i64 n] w fun e w' => e = .returned (.tuple #[]) ∧ Bz Q w' T S hb RT G (c + 1) (tHint t n) s u s' ∧ Keep Q w w' := by
  obtain ⟨N1, N2, ⟨A, b, a, h1⟩, h2, h3, h4⟩ := h.tt
  refine (hint_any h1 n).mono ?_
  rintro e w' ⟨rfl, h', kk⟩
  obtain ⟨A', P, ka, va, ca, cb, h2⟩ := h2
  have f2 := h2.frame (w' := w') ⟨kk.os, kk.tape, kk.output, kk.size, fun g hg hn => kk.block g hg ((h3 g hg).resolve_right hn)⟩
  refine ⟨rfl, ⟨⟨N1, _, ⟨A, b, a, h'⟩, ⟨A', P, ka, va, ca, cb, f2.more (by omega)⟩, fun g q => ?_, fun g q => ⟨(h4 g q).1, .inl (h4 g q).2⟩⟩⟩, kk.sub (fun g q => (h4 g q).1)⟩
  by_cases hg : g < w.heap.size
  · rcases h3 g hg with r | r
    · exact .inl r
    · exact .inr (.inl r)
  · exact .inr (.inr ⟨by omega, q⟩)
/-- A call of the reference's that leaves its blocks where they are. -/
theorem Bz.rcall (h : Bz Q w T S hb RT G c t s u s') {f : Nat} {args : Array Value} {v : Value} {u' : TS} (hh : ∀ N2 A P ka va ca cb, RQ N2 w RT A P ka va ca cb G c u s' → Calls Tryz.prog f args w fun e w' => e = .returned v ∧ RQ N2 w' RT A P ka va ca cb G (c + 1) u' s' ∧ Keep N2 w w') :
    Calls Tryz.prog f args w fun e w' => e = .returned v ∧ Bz Q w' T S hb RT G (c + 1) t s u' s' ∧ Keep Q w w' := by
  obtain ⟨N1, N2, ⟨A, b, a, h1⟩, ⟨A', P, ka, va, ca, cb, h2⟩, h3, h4⟩ := h.tt
  refine (hh _ _ _ _ _ _ _ h2).mono ?_
  rintro e w' ⟨rfl, h', kk⟩
  have f1 := h1.frame2 (w' := w') kk.os kk.tape kk.output kk.size (fun g hg hn => kk.block g hg ((h3 g hg).resolve_left hn))
  refine ⟨rfl, ⟨⟨_, N2, ⟨A, b, a, f1.more (by omega)⟩, ⟨A', P, ka, va, ca, cb, h'⟩, fun g q => ?_, fun g q => ⟨.inl (h4 g q).1, (h4 g q).2⟩⟩⟩, kk.sub (fun g q => (h4 g q).2)⟩
  by_cases hg : g < w.heap.size
  · rcases h3 g hg with r | r
    · exact .inl (.inl r)
    · exact .inr r
  · exact .inl (.inr ⟨by omega, q⟩)
theorem Bz.rget (h : Bz Q w T S hb RT G c t s u s') (hc : c ≤ 700000) (k : V) (hr : Rng k) :
    Calls Tryz.prog 14 #[tp RT, vv k] w fun e w' => e = .returned (vv (pget u.p k)) ∧ Bz Q w' T S hb RT G (c + 1) t s { u with pr := u.pr + (prd u.p k : Nat) } s' ∧ Keep Q w w' :=
  h.rcall fun _ _ _ _ _ _ _ h2 => rtget_any h2 hc k hr
theorem Bz.rplace (h : Bz Q w T S hb RT G c t s u s') (hc : c ≤ 700000) (k : V) (hr : Rng k) :
    Calls Tryz.prog 54 #[tp RT, vv k] w fun e w' => e = .returned (.int .i64 (plc u.p k)) ∧ Bz Q w' T S hb RT G (c + 1) t s { u with pr := u.pr + (prd u.p k : Nat) } s' ∧ Keep Q w w' :=
  h.rcall fun _ _ _ _ _ _ _ h2 => rplace8 h2 hc k hr
theorem Bz.rhint (h : Bz Q w T S hb RT G c t s u s') (n : Int) :
    Calls Tryz.prog 16 #[tp RT, .int .i64 n] w fun e w' => e = .returned (.tuple #[]) ∧ Bz Q w' T S hb RT G (c + 1) t s (tHint u n) s' ∧ Keep Q w w' :=
  h.rcall fun _ _ _ _ _ _ _ h2 => (rhint_any h2 n).mono fun _ _ q => ⟨q.1, q.2.1.more (by omega), q.2.2⟩
end
end Go.Proofs.YtoomlihccniooaaGreat
