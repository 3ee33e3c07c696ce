/- Both tables in one memory, on: each call's contract. The great seat's numbers. -/
import Derived.Test.YtoomlihccniooaaGreatCg37
import Derived.Test.YtoomlihccniooaaGreatCg34
namespace Go.Proofs.YtoomlihccniooaaGreat
open Go.RowKit

/-- What Pair answers. -/
def prP (p : Pa) (m : Int) : V × V :=
  if m < 1 then (nil, nil) else if m ≤ (p.n : Int) then (kn m, p.F (m - 1).toNat) else if m ≤ ((p.n + p.z : Nat) : Int) then (p.g.K (m - 1 - p.n).toNat, p.g.X (m - 1 - p.n).toNat) else (nil, nil)
theorem tpair_all {w : World} {T A b a S : Nat} {t : TS} (h : Tm w T A b a S t) (ti : TI t.p) (m : Int) (hm : m ≤ 9223372036854775807) :
    Calls Tryz.prog 74 #[tp T, .int .i64 m] w fun e w' => e = .returned (.tuple #[vv (prP t.p m).1, vv (prP t.p m).2]) ∧ Below w.heap.size w w' := by
  have hn := ti.le
  have hz := ti.rt.le
  unfold prP
  by_cases q1 : m < 1
  · rw [if_pos q1]; exact pair_neg m q1 w
  · rw [if_neg q1]
    by_cases q2 : m ≤ (t.p.n : Int)
    · rw [if_pos q2]
      have C := pair_in h hn (m - 1).toNat (by omega)
      rwa [show ((m - 1).toNat : Int) + 1 = m by omega] at C
    · rw [if_neg q2]
      by_cases q3 : m ≤ ((t.p.n + t.p.z : Nat) : Int)
      · rw [if_pos q3]
        have C := pair_out h hn hz (m - 1 - t.p.n).toNat (by omega)
        rwa [show (t.p.n : Int) + 1 + ((m - 1 - t.p.n).toNat : Int) = m by omega] at C
      · rw [if_neg q3]
        have C := pair_far h hn hz (m - 1 - t.p.n).toNat (by omega) (by omega)
        rwa [show (t.p.n : Int) + 1 + ((m - 1 - t.p.n).toNat : Int) = m by omega] at C
theorem rpair_all {w : World} {RT A P ka va ca : Nat} {cb : Nat → Nat} {G : Nat} {t : TS} (h : Rb w RT A P ka va ca cb G t) (ti : TI t.p) (m : Int) :
    Calls Tryz.prog 56 #[tp RT, .int .i64 m] w fun e w' => e = .returned (.tuple #[vv (prP t.p m).1, vv (prP t.p m).2]) ∧ Below w.heap.size w w' := by
  unfold prP
  by_cases q1 : m < 1
  · rw [if_pos q1]; exact rpair_far h ti m (.inl q1)
  · rw [if_neg q1]
    by_cases q2 : m ≤ (t.p.n : Int)
    · rw [if_pos q2]
      have C := rpair_in h ti (m - 1).toNat (by omega)
      rwa [show ((m - 1).toNat : Int) + 1 = m by omega] at C
    · rw [if_neg q2]
      by_cases q3 : m ≤ ((t.p.n + t.p.z : Nat) : Int)
      · rw [if_pos q3]
        have C := rpair_out h ti (m - 1 - t.p.n).toNat (by omega)
        rwa [show (t.p.n : Int) + 1 + ((m - 1 - t.p.n).toNat : Int) = m by omega] at C
      · rw [if_neg q3]; exact rpair_far h ti m (.inr (by omega))
section
variable {Q : Nat → Prop} {w w' : World} {T S hb RT G c : Nat} {t u : TS} {s s' : H.St}
theorem Bz.pair (h : Bz Q w T S hb RT G c t s u s') (m : Int) (hm : m ≤ 9223372036854775807) : Calls Tryz.prog 74 #[tp T, .int .i64 m] w fun e w' => e = .returned (.tuple #[vv (prP t.p m).1, vv (prP t.p m).2]) ∧ Below w.heap.size w w' := by
  obtain ⟨N1, N2, ⟨A, b, a, h1⟩, _⟩ := h.tt
  exact tpair_all h1.tm h1.ti m hm
theorem Bz.rpair (h : Bz Q w T S hb RT G c t s u s') (m : Int) : Calls Tryz.prog 56 #[tp RT, .int .i64 m] w fun e w' => e = .returned (.tuple #[vv (prP u.p m).1, vv (prP u.p m).2]) ∧ Below w.heap.size w w' := by
  obtain ⟨N1, N2, _, ⟨A', P, ka, va, ca, cb, h2⟩, _⟩ := h.tt
  exact rpair_all h2.rb h2.ti m
theorem Bz.rstats (h : Bz Q w T S hb RT G c t s u s') : Calls Tryz.prog 18 #[tp RT] w fun e w' => e = .returned (ts u) ∧ Below w.heap.size w w' := by
  obtain ⟨N1, N2, _, ⟨A', P, ka, va, ca, cb, h2⟩, _⟩ := h.tt
  exact rstats_any h2.rb
theorem Bz.places (h : Bz Q w T S hb RT G c t s u s') : Calls Tryz.prog 82 #[tp T] w fun e w' => e = .returned (.int .i64 ((t.p.n + t.p.z : Nat) : Int)) ∧ Below w.heap.size w w' := by
  obtain ⟨N1, N2, ⟨A, b, a, h1⟩, _⟩ := h.tt
  exact places_any h1.tm h1.ti.le h1.ti.rt.le
theorem Bz.rplaces (h : Bz Q w T S hb RT G c t s u s') : Calls Tryz.prog 55 #[tp RT] w fun e w' => e = .returned (.int .i64 ((u.p.n + u.p.z : Nat) : Int)) ∧ Below w.heap.size w w' := by
  obtain ⟨N1, N2, _, ⟨A', P, ka, va, ca, cb, h2⟩, _⟩ := h.tt
  exact rplaces_any h2.rb h2.ti
theorem Bz.cells (h : Bz Q w T S hb RT G c t s u s') : w.cell? ⟨RT, 5, none⟩ = some (.int .i64 u.pr) ∧ w.cell? ⟨RT, 6, none⟩ = some (.pointer (some ⟨G, 0, none⟩)) := by
  obtain ⟨N1, N2, _, ⟨A', P, ka, va, ca, cb, h2⟩, _⟩ := h.tt
  exact ⟨h2.rb.c5, h2.rb.c6⟩
theorem Bz.blen (h : Bz Q w T S hb RT G c t s u s') : (H.tids s.bl s.bl.length).length ≤ c := by
  obtain ⟨N1, N2, ⟨A, b, a, h1⟩, _⟩ := h.tt
  obtain ⟨v, hp⟩ := h1.hp
  exact Nat.le_trans (H.tids_len _ _) hp.len
theorem Bz.place (h : Bz Q w T S hb RT G c t s u s') (hc : c ≤ 700000) (k : V) (hr : Rng k) :
    Calls Tryz.prog 52 #[tp T, vv k] w fun e w' => e = .returned (.int .i64 (plc t.p k)) ∧ Bz Q w' T S hb RT G (c + 1) { t with pr := t.pr + (prd t.p k : Nat) } s u s' ∧ Keep Q w w' := by
  obtain ⟨N1, N2, ⟨A, b, a, h1⟩, h2, h3, h4⟩ := h.tt
  refine (place_any h1 (by omega) k hr).mono ?_
  rintro e w' ⟨rfl, h', kk⟩
  obtain ⟨A', P, ka, va, ca, cb, h2⟩ := h2
  have f2 := h2.frame (w' := w') ⟨kk.os, kk.tape, kk.output, kk.size, fun g hg hn => kk.block g hg ((h3 g hg).resolve_right hn)⟩
  refine ⟨rfl, ⟨⟨N1, _, ⟨A, b, a, h'⟩, ⟨A', P, ka, va, ca, cb, f2.more (by omega)⟩, fun g q => ?_, fun g q => ⟨(h4 g q).1, .inl (h4 g q).2⟩⟩⟩, kk.sub (fun g q => (h4 g q).1)⟩
  by_cases hg : g < w.heap.size
  · rcases h3 g hg with r | r
    · exact .inl r
    · exact .inr (.inl r)
  · exact .inr (.inr ⟨by omega, q⟩)
theorem Bz.hint (h : Bz Q w T S hb RT G c t s u s') (n : Int) :
    Calls Tryz.prog 15 #[tp T, .int .i64 n] w fun e w' => e = .returned (.tuple #[]) ∧ Bz Q w' T S hb RT G (c + 1) (tHint t n) s u s' ∧ Keep Q w w' := by
  obtain ⟨N1, N2, ⟨A, b, a, h1⟩, h2, h3, h4⟩ := h.tt
  refine (hint_any h1 n).mono ?_
  rintro e w' ⟨rfl, h', kk⟩
  obtain ⟨A', P, ka, va, ca, cb, h2⟩ := h2
  have f2 := h2.frame (w' := w') ⟨kk.os, kk.tape, kk.output, kk.size, fun g hg hn => kk.block g hg ((h3 g hg).resolve_right hn)⟩
  refine ⟨rfl, ⟨⟨N1, _, ⟨A, b, a, h'⟩, ⟨A', P, ka, va, ca, cb, f2.more (by omega)⟩, fun g q => ?_, fun g q => ⟨(h4 g q).1, .inl (h4 g q).2⟩⟩⟩, kk.sub (fun g q => (h4 g q).1)⟩
  by_cases hg : g < w.heap.size
  · rcases h3 g hg with r | r
    · exact .inl r
    · exact .inr (.inl r)
  · exact .inr (.inr ⟨by omega, q⟩)
/-- A call of the reference's that leaves its blocks where they are. -/
theorem Bz.rcall (h : Bz Q w T S hb RT G c t s u s') {f : Nat} {args : Array Value} {v : Value} {u' : TS} (hh : ∀ N2 A P ka va ca cb, RQ N2 w RT A P ka va ca cb G c u s' → Calls Tryz.prog f args w fun e w' => e = .returned v ∧ RQ N2 w' RT A P ka va ca cb G (c + 1) u' s' ∧ Keep N2 w w') :
    Calls Tryz.prog f args w fun e w' => e = .returned v ∧ Bz Q w' T S hb RT G (c + 1) t s u' s' ∧ Keep Q w w' := by
  obtain ⟨N1, N2, ⟨A, b, a, h1⟩, ⟨A', P, ka, va, ca, cb, h2⟩, h3, h4⟩ := h.tt
  refine (hh _ _ _ _ _ _ _ h2).mono ?_
  rintro e w' ⟨rfl, h', kk⟩
  have f1 := h1.frame2 (w' := w') kk.os kk.tape kk.output kk.size (fun g hg hn => kk.block g hg ((h3 g hg).resolve_left hn))
  refine ⟨rfl, ⟨⟨_, N2, ⟨A, b, a, f1.more (by omega)⟩, ⟨A', P, ka, va, ca, cb, h'⟩, fun g q => ?_, fun g q => ⟨.inl (h4 g q).1, (h4 g q).2⟩⟩⟩, kk.sub (fun g q => (h4 g q).2)⟩
  by_cases hg : g < w.heap.size
  · rcases h3 g hg with r | r
    · exact .inl (.inl r)
    · exact .inr r
  · exact .inl (.inr ⟨by omega, q⟩)
theorem Bz.rget (h : Bz Q w T S hb RT G c t s u s') (hc : c ≤ 700000) (k : V) (hr : Rng k) :
    Calls Tryz.prog 14 #[tp RT, vv k] w fun e w' => e = .returned (vv (pget u.p k)) ∧ Bz Q w' T S hb RT G (c + 1) t s { u with pr := u.pr + (prd u.p k : Nat) } s' ∧ Keep Q w w' :=
  h.rcall fun _ _ _ _ _ _ _ h2 => rtget_any h2 hc k hr
theorem Bz.rplace (h : Bz Q w T S hb RT G c t s u s') (hc : c ≤ 700000) (k : V) (hr : Rng k) :
    Calls Tryz.prog 54 #[tp RT, vv k] w fun e w' => e = .returned (.int .i64 (plc u.p k)) ∧ Bz Q w' T S hb RT G (c + 1) t s { u with pr := u.pr + (prd u.p k : Nat) } s' ∧ Keep Q w w' :=
  h.rcall fun _ _ _ _ _ _ _ h2 => rplace8 h2 hc k hr
theorem Bz.rhint (h : Bz Q w T S hb RT G c t s u s') (n : Int) :
    Calls Tryz.prog 16 #[tp RT, .int .i64 n] w fun e w' => e = .returned (.tuple #[]) ∧ Bz Q w' T S hb RT G (c + 1) t s (tHint u n) s' ∧ Keep Q w w' :=
  h.rcall fun _ _ _ _ _ _ _ h2 => (rhint_any h2 n).mono fun _ _ q => ⟨q.1, q.2.1.more (by omega), q.2.2⟩
end
end Go.Proofs.YtoomlihccniooaaGreat

/- The walk of behindArray. -/
namespace Go.Proofs.YtoomlihccniooaaGreat
open Go.RowKit

/-- A table as it is asked key by key: r nodes read, c calls. -/
structure Ak (No No2 : Nat → Prop) (w : World) (X T A b a S hb c : Nat) (t : TS) (s : H.St) (r k : Nat) (W : World) : Prop where
  tt : TT No2 W T A b a S hb (c + k) { t with pr := t.pr + (r : Nat) } s
  keep : Keep No w W
  x : W.cell? ⟨X, 0, none⟩ = some (tp T)
  lt : X < W.heap.size
theorem Ak.ask {No No2 : Nat → Prop} {w : World} {X T A b a S hb c : Nat} {t : TS} {s : H.St} {r k : Nat} {W : World} (h : Ak No No2 w X T A b a S hb c t s r k W) (hn : ∀ g, No g → No2 g) (hX : No2 X) (hc : c ≤ 700000) (hk : k ≤ 1000) (n : Int) (hr : Rng (kn n)) :
    Calls Tryz.prog 44 #[tp T, .int .i64 n] W fun e w' => e = .returned (.bool (hs t.p n)) ∧ Ak No No2 w X T A b a S hb c t s (r + rdn t.p n) (k + 1) w' :=
  (has_any h.tt (by omega) n hr).mono fun e w' hh => ⟨hh.1, by
    have e1 : (({ t with pr := t.pr + (r : Nat) } : TS).pr + ((rdn ({ t with pr := t.pr + (r : Nat) } : TS).p n : Nat) : Int)) = t.pr + ((r + rdn t.p n : Nat) : Int) := by simp; omega
    have h1 := hh.2.1
    rw [e1] at h1
    exact h1, h.keep.trans (hh.2.2.sub hn), by rw [World.cell?_of_block (w := W) (hh.2.2.block X h.lt hX)]; exact h.x, Nat.lt_of_lt_of_le h.lt hh.2.2.size⟩
theorem Ak.clo {No No2 : Nat → Prop} {w : World} {X T A b a S hb c : Nat} {t : TS} {s : H.St} {r k : Nat} {W : World} (h : Ak No No2 w X T A b a S hb c t s r k W) (hn : ∀ g, No g → No2 g) (hX : No2 X) (hc : c ≤ 700000) (hk : k ≤ 1000) (n : Int) (hr : Rng (kn n)) :
    Calls Tryz.prog 77 #[.int .i64 n, .pointer (some ⟨X, 0, none⟩)] W fun e w' => e = .returned (.bool (hs t.p n)) ∧ Ak No No2 w X T A b a S hb c t s (r + rdn t.p n) (k + 1) w' :=
  (has_clo h.tt (by omega) h.x n hr).mono fun e w' hh => ⟨hh.1, by
    have e1 : (({ t with pr := t.pr + (r : Nat) } : TS).pr + ((rdn ({ t with pr := t.pr + (r : Nat) } : TS).p n : Nat) : Int)) = t.pr + ((r + rdn t.p n : Nat) : Int) := by simp; omega
    have h1 := hh.2.1
    rw [e1] at h1
    exact h1, h.keep.trans (hh.2.2.sub hn), by rw [World.cell?_of_block (w := W) (hh.2.2.block X h.lt hX)]; exact h.x, Nat.lt_of_lt_of_le h.lt hh.2.2.size⟩
set_option maxRecDepth 20000 in
set_option maxHeartbeats 1000000 in
theorem behind_any {No : Nat → Prop} {w : World} {T A b a S hb c : Nat} {t : TS} {s : H.St} (h : TT No w T A b a S hb c t s) (hc : c ≤ 700000) :
    Calls Tryz.prog 40 #[tp T, .int .i64 (t.p.n : Nat)] w fun e w' => e = .returned (.int .i64 (beh t.p).1) ∧ TT No w' T A b a S hb (c + 130) { t with pr := t.pr + ((beh t.p).2 : Nat) } s ∧ Keep No w w' := by
  have hle := h.ti.le
  obtain ⟨B0, x0⟩ := box1 w (tp T) 26
  have hx : w.heap.size < (w.alloc (.cells #[tp T] 26)).heap.size := by simp
  have h0 := h.news B0
  obtain ⟨No2, hNo2⟩ : ∃ No2, (fun g => No g ∨ (w.heap.size ≤ g ∧ g < (w.alloc (.cells #[tp T] 26)).heap.size)) = No2 := ⟨_, rfl⟩
  rw [hNo2] at h0
  have hn : ∀ g, No g → No2 g := fun g q => by rw [← hNo2]; exact .inl q
  have hX2 : No2 w.heap.size := by rw [← hNo2]; exact .inr ⟨Nat.le_refl _, hx⟩
  obtain ⟨W0, hW0⟩ : ∃ W0, w.alloc (.cells #[tp T] 26) = W0 := ⟨_, rfl⟩
  rw [hW0] at B0 x0 hx h0
  have K0 : Keep No w W0 := Keep.of B0
  clear hNo2
  generalize hX : w.heap.size = X at *
  have A0 : Ak No No2 w X T A b a S hb c t s 0 0 W0 := ⟨by simpa using h0, K0, x0, hx⟩
  have HA : Hid (∀ (r k : Nat) (W : World) (n : Int), k ≤ 1000 → 0 ≤ n → n ≤ (9223372036854775807 : Int) → Ak No No2 w X T A b a S hb c t s r k W → Calls Tryz.prog 44 #[.pointer (some ⟨T, 0, none⟩), .int .i64 n] W fun e w' => e = .returned (.bool (hs t.p n)) ∧ Ak No No2 w X T A b a S hb c t s (r + rdn t.p n) (k + 1) w') := fun r k W n hk g0 g1 q => q.ask hn hX2 hc hk n (rng_kn g0 g1)
  have HH : Hid (∀ (l u : Int) (r k : Nat) (W : World), k ≤ 100 → 0 ≤ l → l ≤ u → u ≤ (9223372036854775807 : Int) → Ak No No2 w X T A b a S hb c t s r k W → Calls Tryz.prog 76 #[.int .i64 l, .int .i64 u, .func (.func 77) #[] #[.pointer (some ⟨X, 0, none⟩)]] W fun e w' => e = .returned (.int .i64 (hlv (hs t.p) (rdn t.p) 64 l u).1) ∧ ∃ k', k' ≤ k + 64 ∧ Ak No No2 w X T A b a S hb c t s (r + (hlv (hs t.p) (rdn t.p) 64 l u).2) k' w') := fun l u r k W hk q0 q1 q2 q =>
    (halve_51 (fun r' k' W' => Ak No No2 w X T A b a S hb c t s (r + r') (k + k') W') (hs t.p) (rdn t.p) X l u W q0 q1 q2 q (fun m r' c' W' g0 g1 g2 g3 => (g3.clo hn hX2 hc (by omega) m (rng_kn (by omega) (by omega))).mono fun e w' hh => ⟨hh.1, by have := hh.2; rw [Nat.add_assoc, Nat.add_assoc] at this; exact this⟩)).mono fun e w' hh => ⟨hh.1, by obtain ⟨k', h1, h2⟩ := hh.2; exact ⟨k + k', by omega, h2⟩⟩
  have HD : Hid (∀ (r k : Nat) (W : World), k ≤ 130 → Ak No No2 w X T A b a S hb c t s r k W → TT No W T A b a S hb (c + 130) { t with pr := t.pr + (r : Nat) } s ∧ Keep No w W) := fun r k W hk q => ⟨(q.tt.sub hn).more (by omega), q.keep⟩
  have C1 := HA.out 0 0 W0 ((t.p.n : Int) + 1) (by omega) (by omega) (by omega) A0
  have hw1 : IntKind.i64.wrap ((t.p.n : Int) + 1) = (t.p.n : Int) + 1 := by rw [IntKind.wrap_i64]; omega
  have HX0 : Hid (∀ (r k : Nat) (W : World), Ak No No2 w X T A b a S hb c t s r k W → W.cell? ⟨X, 0, none⟩ = some (.pointer (some ⟨T, 0, none⟩))) := fun r k W q => q.x
  have x1 := HX0.out _ _ _ A0
  unfold beh
  unfold tp at hW0 ⊢
  clear h h0 B0 K0 x0 hx A0
  cases e1 : hs t.p ((t.p.n : Int) + 1) with
  | false =>
    rw [if_pos rfl]
    rw [e1] at C1
    go_enter Tryz.func40, Tryz.ntmps40
    go_wp2_with fail
    refine C1.mono ?_; rintro e W1 ⟨rfl, k1⟩
    have HK : Hid _ := k1
    clear C1 k1
    go_wp2_with fail
    go_ret
    refine ⟨rfl, ?_⟩
    have := HD.out _ _ _ (by omega) HK.out
    rw [Nat.zero_add] at this
    exact this
  | true =>
    rw [if_neg (by simp)]
    rw [e1] at C1
    have hw2 : IntKind.i64.wrap (2 * ((t.p.n : Int) + 1)) = 2 * ((t.p.n : Int) + 1) := by rw [IntKind.wrap_i64]; omega
    have HTw : Hid (∀ (n : Int) (W : World), 0 ≤ n → n ≤ (9223372036854775807 : Int) → Calls Tryz.prog 75 #[.int .i64 n] W fun e w' => e = .returned (.int .i64 (tw n)) ∧ w' = W) := fun n W g0 g1 => twice_any n W g0 g1
    have C2 := fun W => HTw.out ((t.p.n : Int) + 1) W (by omega) (by omega)
    have et : tw ((t.p.n : Int) + 1) = 2 * ((t.p.n : Int) + 1) := by unfold tw; rw [if_neg (by omega)]
    rw [et] at C2
    obtain ⟨L, U, R, hD⟩ : ∃ L U R, dbl (hs t.p) (rdn t.p) 64 ((t.p.n : Int) + 1) (2 * ((t.p.n : Int) + 1)) = (L, U, R) := ⟨_, _, _, rfl⟩
    have HDb : Hid (dbl (hs t.p) (rdn t.p) 64 ((t.p.n : Int) + 1) (2 * ((t.p.n : Int) + 1)) = (L, U, R)) := hD
    rw [hD]
    show Calls _ _ _ _ fun e w' => e = .returned (.int .i64 (hlv (hs t.p) (rdn t.p) 64 L U).1) ∧ TT No w' T A b a S hb (c + 130) { t with pr := t.pr + ((rdn t.p ((t.p.n : Int) + 1) + R + (hlv (hs t.p) (rdn t.p) 64 L U).2 : Nat) : Int) } s ∧ Keep No w w'
    clear hD
    have hn1 : 1 ≤ (t.p.n : Int) + 1 ∧ (t.p.n : Int) + 1 ≤ 65537 := ⟨by omega, by omega⟩
    obtain ⟨r1, hr1⟩ : ∃ r1, rdn t.p ((t.p.n : Int) + 1) = r1 := ⟨_, rfl⟩
    rw [hr1] at C1 ⊢
    go_enter Tryz.func40, Tryz.ntmps40
    go_wp2_with fail
    refine C1.mono ?_; rintro e W1 ⟨rfl, k1⟩
    rw [Nat.zero_add, Nat.zero_add] at k1
    have HK1 : Hid _ := k1
    clear C1 k1
    go_wp2_with fail
    refine (C2 W1).mono ?_; rintro e W2 ⟨rfl, hw⟩; rw [hw]; clear hw C2 et
    generalize (t.p.n : Int) + 1 = n1 at *
    clear x1 hw1 hw2
    go_wp2_with fail
    go_loopw [5, 6] (fun lw hw wr => ∃ (f : Nat) (l u : Int) (r k : Nat), lw = .int .i64 l ∧ hw = .int .i64 u ∧ 1 ≤ l ∧ l < u ∧ u ≤ (9223372036854775807 : Int) ∧ (u = (9223372036854775807 : Int) ∨ (9223372036854775807 : Int) < u * 2 ^ f) ∧ f + k = 64 ∧ 1 ≤ k ∧ Hid (Ak No No2 w X T A b a S hb c t s (r1 + r) k wr ∧ (dbl (hs t.p) (rdn t.p) (f + 1) l u).1 = L ∧ (dbl (hs t.p) (rdn t.p) (f + 1) l u).2.1 = U ∧ (dbl (hs t.p) (rdn t.p) (f + 1) l u).2.2 + r = R)) (fun _ hw _ => (9223372036854775807 - intOf hw).toNat)
    case atStart =>
      refine ⟨63, n1, 2 * n1, 0, 1, rfl, rfl, hn1.1, by omega, by omega, .inr (by omega), rfl, Nat.le_refl _, HK1.out, ?_, ?_, ?_⟩ <;> rw [HDb.out]
      rfl
    case round =>
      obtain ⟨f, l, u, r, k, rfl, rfl, g1, g2, g3, g4, g5, g6, HR⟩ := hrel
      clear HK1 HDb hn1
      have x1 := HX0.out _ _ _ HR.out.1
      have C1 := HA.out _ _ _ u (by omega) (by omega) g3 HR.out.1
      have HE : Hid (dbl (hs t.p) (rdn t.p) (f + 1) l u = if hs t.p u then (if u = (9223372036854775807 : Int) then ((9223372036854775807 : Int), (9223372036854775807 : Int), rdn t.p u) else ((dbl (hs t.p) (rdn t.p) f u (tw u)).1, (dbl (hs t.p) (rdn t.p) f u (tw u)).2.1, (dbl (hs t.p) (rdn t.p) f u (tw u)).2.2 + rdn t.p u)) else (l, u, rdn t.p u)) := by
        show _ = _
        rw [dbl]
      cases e2 : hs t.p u with
      | true =>
        rw [e2] at C1 HE
        by_cases q : u = (9223372036854775807 : Int)
        · have HE2 : Hid (L = (9223372036854775807 : Int) ∧ U = (9223372036854775807 : Int) ∧ rdn t.p u + r = R) := by
            obtain ⟨_, q1, q2, q3⟩ := HR.out
            rw [HE.out, if_pos rfl, if_pos q] at q1 q2 q3
            exact ⟨q1.symm, q2.symm, q3⟩
          clear HE
          subst q
          go_wp2_with fail
          refine C1.mono ?_; rintro e W3 ⟨rfl, k3⟩
          have HK3 : Hid _ := k3
          clear C1 k3 HR
          go_wp2_with fail
          go_ret
          obtain ⟨q1, q2, q3⟩ := HE2.out
          have eh : hlv (hs t.p) (rdn t.p) 64 L U = ((9223372036854775807 : Int), 0) := by rw [q1, q2, hlv, if_neg (by omega)]
          rw [eh]
          refine ⟨rfl, ?_⟩
          have e3 : r1 + R + 0 = r1 + r + rdn t.p (9223372036854775807 : Int) := by omega
          show TT No _ T A b a S hb (c + 130) { t with pr := t.pr + ((r1 + R + 0 : Nat) : Int) } s ∧ _
          rw [e3]
          exact HD.out _ _ _ (by omega) HK3.out
        · obtain ⟨f', hf', t1, t2, t3⟩ := tw_ok (f := f) (h := u) (by omega) q g3 (by omega)
          have HE2 : Hid ((dbl (hs t.p) (rdn t.p) f u (tw u)).1 = L ∧ (dbl (hs t.p) (rdn t.p) f u (tw u)).2.1 = U ∧ (dbl (hs t.p) (rdn t.p) f u (tw u)).2.2 + (r + rdn t.p u) = R) := by
            obtain ⟨_, q1, q2, q3⟩ := HR.out
            rw [HE.out, if_pos rfl, if_neg q] at q1 q2 q3
            exact ⟨q1, q2, by simp only at q3; omega⟩
          subst hf'
          clear HE
          have C3 := fun W => HTw.out u W (by omega) g3
          generalize tw u = u2 at *
          go_wp2_with fail
          refine C1.mono ?_; rintro e W3 ⟨rfl, k3⟩
          rw [Nat.add_assoc] at k3
          have HK3 : Hid _ := k3
          clear C1 k3 HR
          go_wp2_with fail
          refine (C3 W3).mono ?_; rintro e W4 ⟨rfl, hw⟩; rw [hw]; clear hw C3
          go_wp2_with fail
          go_round
          case rel => exact ⟨f', u, u2, r + rdn t.p u, k + 1, rfl, rfl, by omega, t1, t2, t3, by omega, by omega, HK3.out, HE2.out.1, HE2.out.2.1, HE2.out.2.2⟩
          case measure => simp [intOf]; omega
      | false =>
        rw [e2] at C1 HE
        have HE2 : Hid (l = L ∧ u = U ∧ rdn t.p u + r = R) := by
          obtain ⟨_, q1, q2, q3⟩ := HR.out
          rw [HE.out, if_neg (by simp)] at q1 q2 q3
          exact ⟨q1, q2, q3⟩
        clear HE
        go_wp2_with fail
        refine C1.mono ?_; rintro e W3 ⟨rfl, k3⟩
        have C2 := HH.out l u _ _ W3 (by omega) (by omega) (by omega) g3 k3
        clear C1 k3 HR
        go_wp2_with fail
        refine C2.mono ?_; rintro e W4 ⟨rfl, k4, hk4, q4⟩
        have HK4 : Hid _ := q4
        clear C2 q4
        go_wp2_with fail
        go_ret
        obtain ⟨q1, q2, q3⟩ := HE2.out
        subst q1 q2
        refine ⟨rfl, ?_⟩
        have e3 : r1 + R + (hlv (hs t.p) (rdn t.p) 64 l u).2 = r1 + r + rdn t.p u + (hlv (hs t.p) (rdn t.p) 64 l u).2 := by omega
        rw [e3]
        exact HD.out _ _ _ (by omega) HK4.out
end Go.Proofs.YtoomlihccniooaaGreat

/- The walk of Len. -/
namespace Go.Proofs.YtoomlihccniooaaGreat
open Go.RowKit

set_option maxRecDepth 20000 in
set_option maxHeartbeats 1000000 in
theorem len_any {No : Nat → Prop} {w : World} {T A b a S hb c : Nat} {t : TS} {s : H.St} (h : TT No w T A b a S hb c t s) (hc : c ≤ 700000) (hh : 0 ≤ t.hint ∧ t.hint ≤ (t.p.n : Int)) :
    Calls Tryz.prog 9 #[tp T] w fun e w' => e = .returned (.int .i64 (blen t).1) ∧ TT No w' T A b a S hb (c + 130) (blen t).2 s ∧ Keep No w w' := by
  have C1 := stats_any h.tm
  have hle := h.ti.le
  have hlz := h.ti.rt.le
  have HT : Hid (TT No w T A b a S hb c t s) := h
  have HS : Hid (∀ W, Below w.heap.size w W → TT No (W.alloc (.cells #[.int .i64 (t.p.n : Nat), .int .i64 (t.p.z : Nat), .int .i64 (t.p.g.f : Nat), .int .i64 t.hint] 43)) T A b a S hb c t s ∧ Keep No w (W.alloc (.cells #[.int .i64 (t.p.n : Nat), .int .i64 (t.p.z : Nat), .int .i64 (t.p.g.f : Nat), .int .i64 t.hint] 43))) := fun W q => by
    have q2 := bthen q q.size (b1 W (.cells #[.int .i64 (t.p.n : Nat), .int .i64 (t.p.z : Nat), .int .i64 (t.p.g.f : Nat), .int .i64 t.hint] 43))
    exact ⟨h.below q2, Keep.of q2⟩
  unfold ts sv at C1
  unfold tp at C1 ⊢
  clear h
  by_cases hn0 : t.p.n = 0
  · have hb0 : ((t.p.n : Int) == 0) = true := by simp [hn0]
    have eb : blen t = ((beh t.p).1, { t with pr := t.pr + ((beh t.p).2 : Nat) }) := by unfold blen; rw [if_neg (fun q => q.1 hn0)]
    rw [eb]
    clear eb hn0
    go_enter Tryz.func9, Tryz.ntmps9
    go_wp2_with fail
    refine C1.mono ?_; rintro e W1 ⟨rfl, k1⟩
    obtain ⟨t2, kk2⟩ := HS.out W1 k1
    have C2 := behind_any t2 hc
    unfold tp at C2
    have HK : Hid _ := kk2
    clear C1 k1 t2 kk2
    go_wp2_with fail
    refine C2.mono ?_; rintro e W2 ⟨rfl, t3, k3⟩
    have H3 : Hid _ := And.intro t3 (HK.out.trans k3)
    clear C2 t3 k3
    go_wp2_with fail
    go_ret
    exact ⟨rfl, H3.out⟩
  · have hb0 : ((t.p.n : Int) == 0) = false := by simp [hn0]
    have CF : Hid (∀ W, TT No W T A b a S hb c t s → Calls Tryz.prog 39 #[.pointer (some ⟨T, 0, none⟩), .int .i64 (t.p.n : Nat)] W fun e w' => e = .returned (.bool (sl t.p t.p.n)) ∧ Below W.heap.size W w') := fun W q => filled_any q.tm hle hlz _ (by omega) (by omega)
    cases es : sl t.p t.p.n with
    | true =>
      have eb : blen t = ((beh t.p).1, { t with pr := t.pr + ((beh t.p).2 : Nat) }) := by unfold blen; rw [if_neg (by simp [es])]
      rw [eb]
      rw [es] at CF
      clear eb
      go_enter Tryz.func9, Tryz.ntmps9
      go_wp2_with fail
      refine C1.mono ?_; rintro e W1 ⟨rfl, k1⟩
      obtain ⟨t2, kk2⟩ := HS.out W1 k1
      have bx := (MapKept.heap_alloc W1 (.cells #[.int .i64 (t.p.n : Nat), .int .i64 (t.p.z : Nat), .int .i64 (t.p.g.f : Nat), .int .i64 t.hint] 43)).1
      have C2 := CF.out _ t2
      have HB1 : Hid (∀ W', Below (W1.alloc (.cells #[.int .i64 (t.p.n : Nat), .int .i64 (t.p.z : Nat), .int .i64 (t.p.g.f : Nat), .int .i64 t.hint] 43)).heap.size (W1.alloc (.cells #[.int .i64 (t.p.n : Nat), .int .i64 (t.p.z : Nat), .int .i64 (t.p.g.f : Nat), .int .i64 t.hint] 43)) W' → TT No W' T A b a S hb c t s ∧ Keep No w W' ∧ W'.cell? ⟨W1.heap.size, 0, none⟩ = some (.int .i64 (t.p.n : Nat))) := fun W' q => ⟨t2.below q, kk2.trans (Keep.of q), by rw [World.cell?_of_block (w := _) (q.block W1.heap.size (by simp))]; exact cell_of_row bx 0⟩
      clear C1 k1 t2 kk2 bx
      go_wp2_with fail
      refine C2.mono ?_; rintro e W2 ⟨rfl, k2⟩
      obtain ⟨t3, k3, x3⟩ := HB1.out W2 k2
      have C3 := behind_any t3 hc
      unfold tp at C3
      have HK : Hid _ := k3
      clear C2 k2 t3 k3
      go_wp2_with fail
      refine C3.mono ?_; rintro e W3 ⟨rfl, t4, k4⟩
      have H3 : Hid _ := And.intro t4 (HK.out.trans k4)
      clear C3 t4 k4
      go_wp2_with fail
      go_ret
      exact ⟨rfl, H3.out⟩
    | false =>
      have eb : blen t = (inAr t, tHint t (inAr t)) := by unfold blen; rw [if_pos ⟨hn0, es⟩]
      rw [eb]
      rw [es] at CF
      clear eb
      have CI : Hid (∀ W, TT No W T A b a S hb c t s → Calls Tryz.prog 41 #[.pointer (some ⟨T, 0, none⟩), .int .i64 (t.p.n : Nat), .int .i64 t.hint] W fun e w' => e = .returned (.int .i64 (inAr t)) ∧ Below W.heap.size W w') := fun W q => inArray_any q.tm q.ti hh hn0 es
      go_enter Tryz.func9, Tryz.ntmps9
      go_wp2_with fail
      refine C1.mono ?_; rintro e W1 ⟨rfl, k1⟩
      obtain ⟨t2, kk2⟩ := HS.out W1 k1
      have bx := (MapKept.heap_alloc W1 (.cells #[.int .i64 (t.p.n : Nat), .int .i64 (t.p.z : Nat), .int .i64 (t.p.g.f : Nat), .int .i64 t.hint] 43)).1
      have C2 := CF.out _ t2
      have HB1 : Hid (∀ W', Below (W1.alloc (.cells #[.int .i64 (t.p.n : Nat), .int .i64 (t.p.z : Nat), .int .i64 (t.p.g.f : Nat), .int .i64 t.hint] 43)).heap.size (W1.alloc (.cells #[.int .i64 (t.p.n : Nat), .int .i64 (t.p.z : Nat), .int .i64 (t.p.g.f : Nat), .int .i64 t.hint] 43)) W' → TT No W' T A b a S hb c t s ∧ Keep No w W' ∧ W'.cell? ⟨W1.heap.size, 0, none⟩ = some (.int .i64 (t.p.n : Nat)) ∧ W'.cell? ⟨W1.heap.size, 3, none⟩ = some (.int .i64 t.hint)) := fun W' q => ⟨t2.below q, kk2.trans (Keep.of q), by rw [World.cell?_of_block (w := _) (q.block W1.heap.size (by simp))]; exact cell_of_row bx 0, by rw [World.cell?_of_block (w := _) (q.block W1.heap.size (by simp))]; exact cell_of_row bx 3⟩
      clear C1 k1 t2 kk2 bx
      go_wp2_with fail
      refine C2.mono ?_; rintro e W2 ⟨rfl, k2⟩
      obtain ⟨t3, k3, x3, y3⟩ := HB1.out W2 k2
      have C3 := CI.out W2 t3
      have HK : Hid _ := And.intro t3 k3
      clear C2 k2 t3 k3
      go_wp2_with fail
      refine C3.mono ?_; rintro e W3 ⟨rfl, k4⟩
      have C4 := hint_any (HK.out.1.below k4) (inAr t)
      have HK3 : Hid (Keep No w W3) := HK.out.2.trans (Keep.of k4)
      unfold tp at C4
      clear C3 k4
      go_wp2_with fail
      refine C4.mono ?_; rintro e W4 ⟨rfl, t5, k5⟩
      have H3 : Hid _ := And.intro (t5.more (by omega : c + 1 ≤ c + 130)) (HK3.out.trans k5)
      clear C4 t5 k5
      go_wp2_with fail
      go_ret
      exact ⟨rfl, H3.out⟩
end Go.Proofs.YtoomlihccniooaaGreat

/- The walk of Is. -/
namespace Go.Proofs.YtoomlihccniooaaGreat
open Go.RowKit

set_option maxRecDepth 20000 in
set_option maxHeartbeats 1000000 in
theorem is_any {No : Nat → Prop} {w : World} {T A b a S hb c : Nat} {t : TS} {s : H.St} (h : TT No w T A b a S hb c t s) (hc : c ≤ 700000) (n : Int) (hr0 : -9223372036854775808 ≤ n) (hr1 : n ≤ (9223372036854775807 : Int)) :
    Calls Tryz.prog 11 #[tp T, .int .i64 n] w fun e w' => e = .returned (.bool (bis t n).1) ∧ TT No w' T A b a S hb (c + 2) (bis t n).2 s ∧ Keep No w w' := by
  have HT : Hid (TT No w T A b a S hb c t s) := h
  have HC : Hid (∀ (W : World) (t' : TS) (c' : Nat) (m : Int), 0 ≤ m → m ≤ (9223372036854775807 : Int) → c' ≤ 900000 → TT No W T A b a S hb c' t' s → Calls Tryz.prog 44 #[.pointer (some ⟨T, 0, none⟩), .int .i64 m] W fun e w' => e = .returned (.bool (hs t'.p m)) ∧ TT No w' T A b a S hb (c' + 1) { t' with pr := t'.pr + (rdn t'.p m : Nat) } s ∧ Keep No W w') := fun W t' c' m g0 g1 g2 q => has_any q g2 m (rng_kn g0 g1)
  unfold bis tp
  clear h
  by_cases q0 : n < 0
  · rw [if_pos q0]
    go_enter Tryz.func11, Tryz.ntmps11
    go_wp2_with fail
    go_ret
    exact ⟨rfl, HT.out.more (by omega), Keep.refl _ _⟩
  · rw [if_neg q0]
    have e0 : ({ t with pr := t.pr + ((0 : Nat) : Int) } : TS) = t := by simp
    by_cases q1 : n > 0
    · have q1' : (0 : Int) < n := q1
      rw [if_pos q1]
      have C1 := HC.out w t c n (by omega) hr1 (by omega) HT.out
      cases e1 : hs t.p n with
      | false =>
        rw [if_pos ⟨q1, rfl⟩]
        rw [e1] at C1
        go_enter Tryz.func11, Tryz.ntmps11
        go_wp2_with fail
        refine C1.mono ?_; rintro e W1 ⟨rfl, t1, k1⟩
        have H1 : Hid _ := And.intro t1 k1
        clear C1 t1 k1
        go_wp2_with fail
        go_ret
        exact ⟨rfl, H1.out.1.more (by omega), H1.out.2⟩
      | true =>
        rw [if_neg (by simp)]
        rw [e1] at C1
        by_cases q2 : n = (9223372036854775807 : Int)
        · rw [if_pos q2]
          subst q2
          go_enter Tryz.func11, Tryz.ntmps11
          go_wp2_with fail
          refine C1.mono ?_; rintro e W1 ⟨rfl, t1, k1⟩
          have H1 : Hid _ := And.intro t1 k1
          clear C1 t1 k1
          go_wp2_with fail
          go_ret
          exact ⟨rfl, H1.out.1.more (by omega), H1.out.2⟩
        · rw [if_neg q2]
          have hw : IntKind.i64.wrap (n + 1) = n + 1 := by rw [IntKind.wrap_i64]; omega
          have hq2 : (n == (9223372036854775807 : Int)) = false := by simpa using q2
          go_enter Tryz.func11, Tryz.ntmps11
          go_wp2_with fail
          refine C1.mono ?_; rintro e W1 ⟨rfl, t1, k1⟩
          have C2 := HC.out W1 _ _ (n + 1) (by omega) (by omega) (by omega) t1
          have H1 : Hid _ := k1
          clear C1 t1 k1
          go_wp2_with fail
          refine C2.mono ?_; rintro e W2 ⟨rfl, t2, k2⟩
          have H2 : Hid _ := And.intro t2 (H1.out.trans k2)
          clear C2 t2 k2
          go_wp2_with fail
          go_ret
          exact ⟨rfl, H2.out⟩
    · have e2 : n = 0 := by omega
      subst e2
      rw [if_neg (fun q => q1 q.1), if_neg (by omega), if_neg q1]
      have e3 : t.pr + ((0 : Nat) : Int) + ((rdn t.p (0 + 1) : Nat) : Int) = t.pr + ((rdn t.p 1 : Nat) : Int) := by simp
      rw [e3]
      have C1 := HC.out w t c 1 (by omega) (by omega) (by omega) HT.out
      go_enter Tryz.func11, Tryz.ntmps11
      go_wp2_with fail
      refine C1.mono ?_; rintro e W1 ⟨rfl, t1, k1⟩
      have H1 : Hid _ := And.intro t1 k1
      clear C1 t1 k1
      go_wp2_with fail
      go_ret
      exact ⟨rfl, H1.out.1.more (by omega), H1.out.2⟩
end Go.Proofs.YtoomlihccniooaaGreat
